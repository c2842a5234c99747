import PyProof.Rows.All
import Wide.All
import OpenK.AllK
import Wide.FinOn
import Lean
import PyProof.EqAt
import PyProof.EqKinds
import PyProof.TupleCall
import KE.KSortTup
import PyProof.EnumMake
import PyProof.EnumStmt
import PyProof.EnumFor
import PyProof.TupleKey
import PyProof.Rows.SetFrom
import PyProof.IsRules
import PyProof.DictWalks
import PyProof.FactsAll.set
import PyProof.CollectIter
import PyProof.ConsumeS
import PySem.SetOps
import KE.KDictList
import PyProof.DictRoadsH
import PyProof.DictFindH
import PyProof.Rows.SortRuns
import PyProof.Draws
import PyProof.Rows.TupIter
import PyProof.Rows.FStr
import PyProof.StrCalls2
import PyProof.SliceStr2
import PyProof.StrBlockI
import PyProof.StrLawsNeg
import PyProof.StrLawsJoin
import KE.KIntText
import PyProof.RaisesStr
import PyProof.ConsumeWalk
import PyProof.WalkInts
import PySem.Challenge.RW_scenemend_k27_who_holds_whom
theorem oB {α β : Type} {x : Option α} {f : α -> Option β} {b : β} (h : x.bind f = some b) : ∃ a, x = some a /\ f a = some b := Option.bind_eq_some_iff.mp h
theorem oM {α β : Type} {x : Option α} {f : α -> β} {b : β} (h : x.map f = some b) : ∃ a, x = some a /\ f a = b := Option.map_eq_some_iff.mp h
section
set_option Elab.async false
set_option linter.all false
set_option maxRecDepth 100000
namespace L2
open PySem PySem.Spec PyProof.Rows
abbrev Key := Sum Int Str
def keyIs : Key -> Value -> Bool
 | .inl k, v => Value.isInt k v
 | .inr x, v => Value.isStrOf x v
def keyH (w : World) : Key -> Int
 | .inl k => hashInt k
 | .inr x => hashStr w x
theorem keyIs_shape : ∀ {k : Key} {v : Value}, keyIs k v = true -> (∃ i t, k = Sum.inl i /\ v = Value.int i t) \/ (∃ x t, k = Sum.inr x /\ v = Value.str x t)
 | .inl i, v, h => by
  obtain ⟨t, e⟩ := Value.isInt_shape (k := i) (v := v) h
  exact .inl ⟨i, t, rfl, e⟩
 | .inr x, v, h => by
  obtain ⟨t, e⟩ := Value.isStrOf_shape (x := x) (v := v) h
  exact .inr ⟨x, t, rfl, e⟩
theorem keyIs_str (x : Str) (t : Tok) : keyIs (.inr x) (.str x t) = true := by simp [keyIs, Value.isStrOf]
theorem key_ll (a b : Int) : decide ((Sum.inl a : Key) = Sum.inl b) = (a == b) := by
 by_cases e : a = b
 ·subst e; simp
 ·have h : ¬ (Sum.inl a : Key) = Sum.inl b := fun q => e (Sum.inl.inj q)
  rw [decide_eq_false h]
  exact (beq_eq_false_iff_ne.mpr e).symm
theorem key_rr (a b : Str) : decide ((Sum.inr a : Key) = Sum.inr b) = decide (a = b) := by
 by_cases e : a = b
 ·subst e; simp
 ·have h : ¬ (Sum.inr a : Key) = Sum.inr b := fun q => e (Sum.inr.inj q)
  rw [decide_eq_false h, decide_eq_false e]
theorem key_lr (a : Int) (b : Str) : decide ((Sum.inl a : Key) = Sum.inr b) = false := decide_eq_false (fun q => nomatch q)
theorem key_rl (a : Str) (b : Int) : decide ((Sum.inr a : Key) = Sum.inl b) = false := decide_eq_false (fun q => nomatch q)
def mixKind (prog : Program) (w : World) : PySem.KeyKind prog w Key where
 is := keyIs
 hash := keyH w
 inj := fun v a b ha hb => by
  rcases keyIs_shape ha with ⟨i, t, rfl, rfl⟩ | ⟨x, t, rfl, rfl⟩
  ·rcases keyIs_shape hb with ⟨j, u, rfl, e⟩ | ⟨y, u, rfl, e⟩
   ·injection e with e1 _; rw [e1]
   ·exact nomatch e
  ·rcases keyIs_shape hb with ⟨j, u, rfl, e⟩ | ⟨y, u, rfl, e⟩
   ·exact nomatch e
   ·injection e with e1 _; rw [e1]
 byValue := fun k v h => by
  rcases keyIs_shape h with ⟨i, t, rfl, rfl⟩ | ⟨x, t, rfl, rfl⟩ <;> rfl
 pyHash := fun hv h => by
  rcases keyIs_shape hv with ⟨i, t, rfl, rfl⟩ | ⟨x, t, rfl, rfl⟩
  ·exact wpAny_pyHash_int h
  ·exact wpAny_pyHash_str h
 eqBool := fun hu hv h => by
  rcases keyIs_shape hu with ⟨i, t, rfl, rfl⟩ | ⟨x, t, rfl, rfl⟩
  ·rcases keyIs_shape hv with ⟨j, u, rfl, rfl⟩ | ⟨y, u, rfl, rfl⟩
   ·rw [key_ll] at h; exact wpAny_eqBool_int h
   ·rw [key_lr] at h; exact SeqAt.EqAt.int_str i t y u _ _ _ _ h
  ·rcases keyIs_shape hv with ⟨j, u, rfl, rfl⟩ | ⟨y, u, rfl, rfl⟩
   ·rw [key_rl] at h; exact SeqAt.EqAt.str_int x t j u _ _ _ _ h
   ·rw [key_rr] at h; exact wpAny_eqBool_str h
 «strs» := fun k x t v h => by
  rcases keyIs_shape h with ⟨i, u, rfl, e⟩ | ⟨y, u, rfl, e⟩
  ·exact nomatch e
  ·injection e with e1 _
   subst e1
   cases v <;> rfl
theorem mixKind_str (prog : Program) (w : World) (x : Str) (t : Tok) : (mixKind prog w).is (.inr x) (.str x t) = true := keyIs_str x t
end L2
namespace L2
open PySem PySem.Spec PyProof.Rows
inductive V where
 | non | bl (b : Bool) | int (i : Int) | str (x : Str) | byt (b : Array UInt8) | flt (b : UInt64) | ref (a : Addr) | ty (n : String)
 deriving DecidableEq
def RelV : V -> Value -> Prop
 | .non, u => u = Value.none
 | .bl b, u => u = Value.bool b
 | .int i, u => ∃ t, u = Value.int i t
 | .str x, u => ∃ t, u = Value.str x t
 | .byt b, u => ∃ t, u = Value.bytes b t
 | .flt b, u => ∃ t, u = Value.float b t
 | .ref a, u => u = Value.ref a
 | .ty n, u => u = Value.type n
abbrev Vals : List V -> List Value -> Prop := Paired RelV
theorem Vals.length {xs : List V} {us : List Value} (r : Vals xs us) : xs.length = us.length := Paired.length r
theorem Vals.get : ∀ {xs : List V} {us : List Value} {i : Nat} {x : V}, Vals xs us -> xs[i]? = some x -> ∃ u, us[i]? = some u /\ RelV x u
 | _, _, _, _, .nil, e => by simp at e
 | _, _, 0, _, .cons r _, e => by simp at e; subst e; exact ⟨_, rfl, r⟩
 | _, _, i + 1, x, .cons _ t, e => by
  obtain ⟨u, h1, h2⟩ := Vals.get (i := i) (x := x) t (by simpa using e)
  exact ⟨u, by simpa using h1, h2⟩
theorem Vals.append : ∀ {xs ys : List V} {us ws : List Value}, Vals xs us -> Vals ys ws -> Vals (xs ++ ys) (us ++ ws)
 | _, _, _, _, .nil, s => s
 | _, _, _, _, .cons r t, s => .cons r (Vals.append t s)
theorem Vals.take : ∀ {xs : List V} {us : List Value} (n : Nat), Vals xs us -> Vals (xs.take n) (us.take n)
 | _, _, 0, _ => .nil
 | _, _, _ + 1, .nil => .nil
 | _, _, n + 1, .cons r t => .cons r (Vals.take n t)
theorem Vals.drop : ∀ {xs : List V} {us : List Value} (n : Nat), Vals xs us -> Vals (xs.drop n) (us.drop n)
 | _, _, 0, r => r
 | _, _, _ + 1, .nil => .nil
 | _, _, n + 1, .cons _ t => Vals.drop n t
def RelO : Option V -> Option Value -> Prop
 | some v, some u => RelV v u
 | none, none => True
 | _, _ => False
def KV {κ : Type} : List (κ × V) -> List (κ × Value) -> Prop := Paired fun (p : κ × V) (q : κ × Value) => p.1 = q.1 /\ RelV p.2 q.2
def kV : Key -> V
 | .inl i => .int i
 | .inr x => .str x
inductive HO where
 | lst (xs : List V)
 | tup (xs : List V)
 | dK (kvs : List (Key × V)) | dT (kvs : List (List Key × V))
 | set (S : Int -> Bool) (n : Nat)
 | ins (C dx : Addr) (fs : List (Str × V))
 | own (x : Addr)
 | xd (fs : List (Str × V))
 | met (f x : Addr)
 | rng (lo hi : Int)
 | frz (o : Obj) (u : HO)
 | tbl (ps : Array Value)
 | ext (φ : Heap -> Prop)
abbrev Hp := Addr -> Option HO
def upd (H : Hp) (a : Addr) (o : HO) : Hp := fun b => if b = a then some o else H b
theorem upd_same {H : Hp} {a : Addr} {o : HO} : upd H a o a = some o := by unfold upd; rw [if_pos rfl]
theorem upd_ne {H : Hp} {a b : Addr} {o : HO} (h : b ≠ a) : upd H a o b = H b := by unfold upd; rw [if_neg h]
theorem ne_of_none {H : Hp} {a b : Addr} {o : HO} (h : H a = some o) (h' : H b = none) : a ≠ b := by
 intro e; subst e; rw [h] at h'; cases h'
section
variable (P : Program) (w : World)
def ObjOk (H : Hp) (h : Heap) (a : Addr) : HO -> Prop
 | .lst xs => xs.length <= sizeLine /\ ∃ (its : List Value) (n : Nat), Vals xs its /\ h.get? a = some { cls := .type "list", data := .seq its.toArray n }
 | .tup xs => xs.length <= sizeLine /\ ∃ its : List Value, Vals xs its /\ IsTup h a its.toArray
 | .dK kvs => kvs.length <= sizeLine /\ (a == sysModules) = false /\ ∃ vs, KV kvs vs /\ h.DictOf (mixKind P w) a vs
 | .dT kvs => kvs.length <= sizeLine /\ (a == sysModules) = false /\ ∃ xs : List (List Key × Addr × Value),
   Paired (fun (p : List Key × V) (q : List Key × Addr × Value) => p.1 = q.1 /\ H q.2.1 = some (.tup (p.1.map kV)) /\ RelV p.2 q.2.2) kvs xs /\
   ∃ o es ep, h.get? a = some o /\ o.ExactDict /\ o.data = .dict es ep /\ es.toList = xs.map (entryOfKey (tupleKind (mixKind P w))) /\ (xs.map (·.1)).Nodup
 | .set S n => h.SetOf (intKind P w) a S n
 | .ins C dx fs => H dx = some (.own a) /\ fs.length <= 1000 /\ dx ≠ a /\ h.get? a = some (PySem.W.instObj C dx) /\
   ∃ mA, h.Ns1 dx mA /\ (∀ f, RelO (fs.lookup f) (mA f)) /\ PySem.Within mA (fs.map (·.1))
 | .own _ => ∃ o, h.get? a = some o
 | .xd fs => ∃ mA, h.Ns1 a mA /\ ∀ f, RelO (fs.lookup f) (mA f)
 | .rng lo hi => ∃ t u v, h.get? a = some { cls := .type "range", data := .fields #[.int lo t, .int hi u, .int 1 v] }
 | .frz o u => h.get? a = some o /\ ObjOk H h a u
 | .tbl ps => h.get? a = some { cls := .none, data := .fields ps }
 | .met f x => h.get? a = some (PySem.W.methodObj (.ref f) (.ref x))
 | .ext φ => φ h /\ (∃ o, h.get? a = some o) /\ ∀ h1 h2 : Heap, φ h1 -> (∀ o, h1.get? a = some o -> h2.get? a = some o) -> φ h2
def HOk (H : Hp) (h : Heap) : Prop := ∀ a o, H a = some o -> ObjOk P w H h a o
end
section
variable {P : Program} {w : World} {H H' : Hp} {h h' : Heap} {a : Addr} {o : HO}
theorem ObjOk.lt (x : ObjOk P w H h a o) : a < h.objs.size := by
 cases o with
 | lst xs => obtain ⟨_, _, _, _, e⟩ := x; exact Heap.lt_size e
 | tup xs => obtain ⟨_, _, _, p⟩ := x; exact p.lt
 | dK kvs => obtain ⟨_, _, _, _, o, _, _, e, _⟩ := x; exact Heap.lt_size e
 | dT kvs => obtain ⟨_, _, _, _, o, _, _, e, _⟩ := x; exact Heap.lt_size e
 | set S n => obtain ⟨o, _, _, _, e, _⟩ := x; exact Heap.lt_size e
 | ins C dx fs => obtain ⟨_, _, _, e, _⟩ := x; exact Heap.lt_size e
 | own y => obtain ⟨_, e⟩ := x; exact Heap.lt_size e
 | xd fs => obtain ⟨_, ⟨_, _, _, e, _⟩, _⟩ := x; exact Heap.lt_size e
 | rng lo hi => obtain ⟨_, _, _, e⟩ := x; exact Heap.lt_size e
 | frz ob u => obtain ⟨e, _⟩ := x; exact Heap.lt_size e
 | tbl ps => exact Heap.lt_size (show h.get? a = some _ from x)
 | met f y => exact Heap.lt_size (show h.get? a = some _ from x)
 | ext φ => obtain ⟨_, ⟨_, e⟩, _⟩ := x; exact Heap.lt_size e
theorem Paired.mapP {α β : Type} {F G : α -> β -> Prop} : ∀ {l₁ : List α} {l₂ : List β}, Paired F l₁ l₂ -> (∀ a b, F a b -> G a b) -> Paired G l₁ l₂
 | _, _, .nil, _ => .nil
 | _, _, .cons r t, f => .cons (f _ _ r) (Paired.mapP t f)
theorem ObjOk.stay (x : ObjOk P w H h a o) (k : ∀ b u, (b = a \/ H b = some (.own a)) -> h.get? b = some u -> h'.get? b = some u)
  (ho : ∀ b, H b = some (.own a) -> H' b = some (.own a)) (ht : ∀ b xs, H b = some (.tup xs) -> H' b = some (.tup xs)) : ObjOk P w H' h' a o := by
 induction o with
 | lst xs => obtain ⟨z, its, n, r, e⟩ := x; exact ⟨z, its, n, r, k _ _ (.inl rfl) e⟩
 | tup xs => obtain ⟨z, its, r, ob, e, c⟩ := x; exact ⟨z, its, r, ob, k _ _ (.inl rfl) e, c⟩
 | dK kvs => obtain ⟨z, y, vs, r, ob, es, ep, e, c⟩ := x; exact ⟨z, y, vs, r, ob, es, ep, k _ _ (.inl rfl) e, c⟩
 | dT kvs =>
  obtain ⟨z, y, xs, r, ob, es, ep, e, c⟩ := x
  exact ⟨z, y, xs, Paired.mapP r fun p q z => ⟨z.1, ht _ _ z.2.1, z.2.2⟩, ob, es, ep, k _ _ (.inl rfl) e, c⟩
 | set S n => obtain ⟨ob, es, ep, t, e, c⟩ := x; exact ⟨ob, es, ep, t, k _ _ (.inl rfl) e, c⟩
 | ins C dx fs =>
  obtain ⟨d, z, ne, e, mA, ⟨od, es, ep, e2, c⟩, r⟩ := x
  exact ⟨ho _ d, z, ne, k _ _ (.inl rfl) e, mA, ⟨od, es, ep, k _ _ (.inr d) e2, c⟩, r⟩
 | own y => obtain ⟨ob, e⟩ := x; exact ⟨ob, k _ _ (.inl rfl) e⟩
 | xd fs => obtain ⟨mA, ⟨od, es, ep, e, c⟩, r⟩ := x; exact ⟨mA, ⟨od, es, ep, k _ _ (.inl rfl) e, c⟩, r⟩
 | rng lo hi => obtain ⟨t, u, v, e⟩ := x; exact ⟨t, u, v, k _ _ (.inl rfl) e⟩
 | frz ob u ih => obtain ⟨e, q⟩ := x; exact ⟨k _ _ (.inl rfl) e, ih q⟩
 | tbl ps =>
  have e : h.get? a = some { cls := .none, data := .fields ps } := x
  show h'.get? a = some { cls := .none, data := .fields ps }
  exact k a _ (.inl rfl) e
 | met f y =>
  have e : h.get? a = some (PySem.W.methodObj (.ref f) (.ref y)) := x
  show h'.get? a = some (PySem.W.methodObj (.ref f) (.ref y))
  exact k a _ (.inl rfl) e
 | ext φ => obtain ⟨p, ⟨o, e⟩, st⟩ := x; exact ⟨st _ _ p fun o q => k _ _ (.inl rfl) q, ⟨o, k _ _ (.inl rfl) e⟩, st⟩
theorem HOk.lt (x : HOk P w H h) (e : H a = some o) : a < h.objs.size := (x a o e).lt
theorem HOk.fresh (x : HOk P w H h) (e : h.objs.size <= a) : H a = none := by
 cases q : H a with
 | none => rfl
 | some u => exact absurd (Nat.lt_of_lt_of_le (x.lt q) e) (Nat.lt_irrefl _)
theorem HOk.kept (x : HOk P w H h) (k : ∀ b u, h.get? b = some u -> h'.get? b = some u) : HOk P w H h' := fun a o e =>
 (x a o e).stay (fun b u _ q => k b u q) (fun _ q => q) fun _ _ q => q
theorem HOk.laid (x : HOk P w H h) (k : ∀ b u, h.get? b = some u -> h'.get? b = some u) (hp : h.objs.size <= a) (new : ObjOk P w (upd H a o) h' a o) : HOk P w (upd H a o) h' := fun b u e => by
 have hn := x.fresh hp
 by_cases hb : b = a
 ·subst hb; rw [upd_same] at e; cases e; exact new
 ·rw [upd_ne hb] at e
  exact (x b u e).stay (fun c v _ q => k c v q) (fun c q => by rw [upd_ne (ne_of_none q hn)]; exact q) fun c xs q => by rw [upd_ne (ne_of_none q hn)]; exact q
end
def Rd (H : Hp) (a : Addr) (u : HO) : Prop := H a = some u \/ ∃ o, H a = some (.frz o u)
theorem Rd.ok {P : Program} {w : World} {H : Hp} {h : Heap} {a : Addr} {u : HO} (r : Rd H a u) (x : HOk P w H h) : ObjOk P w H h a u := by
 rcases r with r | ⟨o, r⟩
 ·exact x a u r
 ·obtain ⟨_, q⟩ := x a _ r
  exact q
def Mut : Option HO -> Prop
 | some (.lst _) => True
 | some (.dK _) => True
 | some (.dT _) => True
 | some (.set _ _) => True
 | some (.ins _ _ _) => True
 | some (.ext _) => True
 | _ => False
section
variable {P : Program} {w : World} {H : Hp} {h h' : Heap} {x e : Addr} {o' : HO}
theorem HOk.write (ok : HOk P w H h) (mu : Mut (H x)) (he : e = x \/ H e = some (.own x)) (k : ∀ b u, b ≠ e -> h.get? b = some u -> h'.get? b = some u) (heo : ∃ u, h'.get? e = some u)
  (new : ObjOk P w (upd H x o') h' x o') : HOk P w (upd H x o') h' := fun b u q => by
 have nown : ∀ c y, H c = some (.own y) -> c ≠ x := fun c y r z => by subst z; rw [r] at mu; exact mu
 have ntup : ∀ c xs, H c = some (.tup xs) -> c ≠ x := fun c xs r z => by subst z; rw [r] at mu; exact mu
 by_cases hb : b = x
 ·subst hb; rw [upd_same] at q; cases q; exact new
 ·rw [upd_ne hb] at q
  by_cases hbe : b = e
  ·have q' : H b = some (.own x) := by
    rcases he with z | z
    ·exact absurd (hbe.trans z) hb
    ·rw [hbe]; exact z
   rw [q] at q'; cases q'
   obtain ⟨v, hv⟩ := heo
   exact ⟨v, by rw [hbe]; exact hv⟩
  ·refine (ok b u q).stay (fun c v hc r => k c v ?_ r) (fun c r => by rw [upd_ne (nown c b r)]; exact r) fun c xs r => by rw [upd_ne (ntup c xs r)]; exact r
   rcases hc with rfl | hc
   ·exact hbe
   ·rintro rfl
    rcases he with z | z
    ·exact nown c b hc z
    ·rw [hc] at z; cases z; exact hb rfl
end
structure Un (fs ex : List Addr) (H H' : Hp) (h h' : Heap) : Prop where
 keep : ∀ b o, h.get? b = some o -> H b = none -> b ∉ fs -> b ∉ ex -> h'.get? b = some o
 slot : ∀ b o, h.get? b = some o -> H b = none -> b ∈ fs -> b ∉ ex -> ∃ sl, h'.get? b = some { o with slots := sl }
 free : ∀ b o, h.get? b = some o -> H b = none -> b ∉ ex -> H' b = none
 there : ∀ b o, h.get? b = some o -> b ∉ ex -> ∃ o', h'.get? b = some o'
 tups : ∀ b xs, H b = some (.tup xs) -> H' b = some (.tup xs)
 frzs : ∀ b o u, H b = some (.frz o u) -> H' b = some (.frz o u)
 tbls : ∀ b ps, H b = some (.tbl ps) -> ∃ more, H' b = some (.tbl (ps ++ more))
section
variable {fs fs' ex ex' : List Addr} {H H1 H2 : Hp} {h h1 h2 h' : Heap} {a x e : Addr} {o : HO}
theorem Un.any (u : Un fs ex H H1 h h1) {b : Addr} {ob : Obj} (q : h.get? b = some ob) (n : H b = none) (hx : b ∉ ex) : ∃ sl, h1.get? b = some { ob with slots := sl } := by
 by_cases hb : b ∈ fs
 ·exact u.slot b ob q n hb hx
 ·exact ⟨ob.slots, u.keep b ob q n hb hx⟩
theorem Un.trans (a : Un fs ex H H1 h h1) (b : Un fs ex H1 H2 h1 h2) : Un fs ex H H2 h h2 where
 keep := fun c ob q n hc hx => b.keep c ob (a.keep c ob q n hc hx) (a.free c ob q n hx) hc hx
 slot := fun c ob q n hc hx => by
  obtain ⟨sl, e1⟩ := a.slot c ob q n hc hx
  obtain ⟨sl', e2⟩ := b.slot c _ e1 (a.free c ob q n hx) hc hx
  exact ⟨sl', e2⟩
 free := fun c ob q n hx => by
  obtain ⟨o', e1⟩ := a.there c ob q hx
  exact b.free c o' e1 (a.free c ob q n hx) hx
 there := fun c ob q hx => by
  obtain ⟨o', e1⟩ := a.there c ob q hx
  exact b.there c o' e1 hx
 tups := fun c xs q => b.tups c xs (a.tups c xs q)
 frzs := fun c ob xs q => b.frzs c ob xs (a.frzs c ob xs q)
 tbls := fun c ps q => by
  obtain ⟨m1, e1⟩ := a.tbls c ps q
  obtain ⟨m2, e2⟩ := b.tbls c _ e1
  exact ⟨m1 ++ m2, by rw [e2, Array.append_assoc]⟩
theorem Un.kept (k : ∀ b u, h.get? b = some u -> h'.get? b = some u) : Un fs ex H H h h' :=
 ⟨fun b ob q _ _ _ => k b ob q, fun b ob q _ _ _ => ⟨ob.slots, k b ob q⟩, fun _ _ _ n _ => n, fun b ob q _ => ⟨ob, k b ob q⟩, fun _ _ q => q, fun _ _ _ q => q, fun _ ps q => ⟨#[], by rw [q]; simp⟩⟩
theorem Un.refl : Un fs ex H H h h := Un.kept fun _ _ q => q
theorem Un.laid (k : ∀ b u, h.get? b = some u -> h'.get? b = some u) (hp : h.objs.size <= a) (hn : H a = none) : Un fs ex H (upd H a o) h h' where
 keep := fun b u q _ _ _ => k b u q
 slot := fun b u q _ _ _ => ⟨u.slots, k b u q⟩
 free := fun b u q n _ => by rw [upd_ne (Nat.ne_of_lt (Nat.lt_of_lt_of_le (Heap.lt_size q) hp))]; exact n
 there := fun b u q _ => ⟨u, k b u q⟩
 tups := fun b xs q => by rw [upd_ne (ne_of_none q hn)]; exact q
 frzs := fun b u xs q => by rw [upd_ne (ne_of_none q hn)]; exact q
 tbls := fun b ps q => ⟨#[], by rw [upd_ne (ne_of_none q hn), q]; simp⟩
theorem Un.write (mu : Mut (H x)) (he : e = x \/ H e = some (.own x)) (k : ∀ b u, b ≠ e -> h.get? b = some u -> h'.get? b = some u) (heo : ∃ u, h'.get? e = some u) : Un fs ex H (upd H x o) h h' := by
 have hx : ∀ b, H b = none -> b ≠ x := fun b n z => by subst z; rw [n] at mu; exact mu
 have hb : ∀ b, H b = none -> b ≠ e := fun b n z => by
  subst z
  rcases he with r | r
  ·exact hx b n r
  ·rw [n] at r; cases r
 have hm : ∀ b u, H b = some u -> ¬ Mut (some u) -> b ≠ x := fun b u q nm z => by subst z; rw [q] at mu; exact nm mu
 refine ⟨fun b u q n _ _ => k b u (hb b n) q, fun b u q n _ _ => ⟨u.slots, k b u (hb b n) q⟩, fun b u q n _ => by rw [upd_ne (hx b n)]; exact n, fun b u q _ => ?_,
  fun b xs q => by rw [upd_ne (hm b _ q fun z => z)]; exact q, fun b u xs q => by rw [upd_ne (hm b _ q fun z => z)]; exact q, fun b ps q => ⟨#[], by rw [upd_ne (hm b _ q fun z => z), q]; simp⟩⟩
 by_cases hbe : b = e
 ·subst hbe; exact heo
 ·exact ⟨u, k b u hbe q⟩
end
def trk (h : Heap) (H : Hp) : List Addr := (List.range h.objs.size).filter fun a => (H a).isSome
def hidT (h : Heap) (H : Hp) : Heap := PySem.W.hideAll h (trk h H)
theorem hidT_size (h : Heap) (H : Hp) : (hidT h H).objs.size = h.objs.size := PySem.W.hideAll_size _ _
theorem hidT_get {h : Heap} {H : Hp} {b : Addr} {o : Obj} (e : h.get? b = some o) (n : H b = none) : (hidT h H).get? b = some o :=
 PySem.W.hideAll_get _ e fun hm => by
  have q : (H b).isSome = true := (List.mem_filter.mp hm).2
  rw [n] at q; simp at q
theorem of_hidT {h : Heap} {H : Hp} {b : Addr} {o : Obj} (e : (hidT h H).get? b = some o) : h.get? b = some o /\ H b = none := by
 have e' : h.get? b = some o := PySem.W.of_hideAll (trk h H) e
 refine ⟨e', ?_⟩
 cases q : H b with
 | none => rfl
 | some x =>
  have hm : b ∈ trk h H := List.mem_filter.mpr ⟨List.mem_range.mpr (Heap.lt_size e'), by simp [q]⟩
  have z : (hidT h H).get? b = none := PySem.W.hideAll_none (trk h H) hm
  rw [z] at e; cases e
def allNews (g h : Heap) (L : Addr) : List (Addr × Obj) := (List.range h.objs.size).filterMap fun a => if a = L \/ (g.get? a).isSome = true then none else (h.get? a).map fun o => (a, o)
def rest (g h : Heap) (L d : Addr) : List (Addr × Obj) := (allNews g h L).filter fun p => decide (p.1 ≠ d)
end L2
namespace L2
open PySem PySem.Spec PyProof.Rows
structure Mod (K : PySem.W.Frag) (mg : Str -> Option Value) (base : Heap) : Prop where
 kin : K.In base
 glob : base.Ns mainGlobals mg
 blt : ∃ mb, base.Ns builtinsNs mb /\ ∀ x : Str, x ≠ "__name__" -> mb x = bootBuiltins x
 nolimit : base.NoLimit
structure Cx where
 prog : Program
 w : World
 K : PySem.W.Frag
 mg : Str -> Option Value
 base : Heap
 A : Around
 N : List Str
 s₀ : Shared
 H₀ : Hp
 env : Env
 outer : List Env
 stack : List Env
 ex : List Addr
 fn : Str -> Bool
 calm : Bool
 pn : List (Addr × Obj)
 xe : Value -> Shared -> Prop
def frs (l : List Env) : List Addr := l.filterMap (·.frame)
abbrev Cx.fs (X : Cx) : List Addr := frs X.outer
def Vis (sc : Scope) (x : Str) : Prop := sc.names.lookup x = some .local \/ sc.names.lookup x = some .cell \/ sc.names.lookup x = some .free
def Loc (sc : Scope) (x : Str) : Prop := sc.names.lookup x = some .local \/ sc.names.lookup x = some .cell
def Look (env : Env) (h : Heap) (m : Str -> Option Value) (x : Str) (u : Value) : Prop :=
 (env.kindOf x = some .local /\ m x = some u) \/ ((env.kindOf x = some .cell \/ env.kindOf x = some .free) /\ ∃ c, env.cells.lookup x = some c /\ h.IsCell c (some u))
structure Cx.Ok (X : Cx) : Prop where
 mod : Mod X.K X.mg X.base
 kind : X.env.scope.kind = .function
 glob : X.env.globals = mainGlobals
 blt : X.env.builtins = builtinsNs
 above : X.s₀.heap.objs.size <= X.env.locals
 inj : ∀ x y c, X.env.cells.lookup x = some c -> X.env.cells.lookup y = some c -> x = y
 has : ∀ x, (X.env.kindOf x = some .cell \/ X.env.kindOf x = some .free) -> ∃ c, X.env.cells.lookup x = some c
 cab : ∀ x c, X.fn x = true -> X.env.cells.lookup x = some c -> X.s₀.heap.objs.size <= c
 hd : X.calm = true -> X.A.handled = none
 frames : X.A.frames = some X.stack
 stk : X.stack = X.outer \/ (X.stack = X.env :: X.outer /\ X.env.frame = some X.env.locals)
 exf : ∀ b ∈ X.ex, b ≠ X.env.locals /\ ∀ x c, X.env.cells.lookup x = some c -> c ≠ b
 bs : ∀ b o, X.base.get? b = some o -> X.s₀.heap.get? b = some o /\ X.H₀ b = none
 bsz : X.base.objs.size <= X.s₀.heap.objs.size
 noex : ∀ b o, X.base.get? b = some o -> b ∉ X.ex
 exfs : ∀ b ∈ X.ex, b ∉ X.fs
 funs : X.s₀.heap.FunFrames X.base X.outer
 frf : ∀ b ∈ X.fs, X.H₀ b = none
structure Inv (X : Cx) (pins : List (Addr × Obj)) (σ : List (Option V)) (H : Hp) (s : Shared) : Prop where
 ok : X.Ok
 os : s.os = X.s₀.os
 bare : AllBare s.gens
 base : Un X.fs X.ex X.H₀ H X.s₀.heap s.heap
 loc : ∃ m, s.heap.Ns X.env.locals m /\ ∀ (i : Nat) (x : Str) (v : V), X.N[i]? = some x -> σ[i]? = some (some v) -> Vis X.env.scope x -> ∃ u, RelV v u /\ Look X.env s.heap m x u
 cell : ∀ x c, X.env.cells.lookup x = some c -> ∃ v, s.heap.IsCell c v
 free : H X.env.locals = none
 freeC : ∀ x c, X.env.cells.lookup x = some c -> H c = none
 pin : ∀ p ∈ X.pn ++ pins, s.heap.get? p.1 = some p.2 /\ H p.1 = none /\ p.1 ≠ X.env.locals /\ p.1 ∉ X.fs /\ ∀ v, p.2.data ≠ .cell v
 hok : HOk X.prog X.w H s.heap
 len : σ.length = X.N.length
section
variable {X : Cx} {pins : List (Addr × Obj)} {σ : List (Option V)} {H H' : Hp} {s : Shared} {h' : Heap}
theorem Cx.Ok.nofr (ok : X.Ok) {b : Addr} {o : Obj} (e : X.base.get? b = some o) : b ∉ X.fs := fun hb => by
 have := (ok.funs.mem hb).1
 rw [e] at this; cases this
theorem Inv.bs (I : Inv X pins σ H s) : ∀ b o, X.base.get? b = some o -> s.heap.get? b = some o /\ H b = none := fun b o e =>
 ⟨I.base.keep b o (I.ok.bs b o e).1 (I.ok.bs b o e).2 (I.ok.nofr e) (I.ok.noex b o e), I.base.free b o (I.ok.bs b o e).1 (I.ok.bs b o e).2 (I.ok.noex b o e)⟩
theorem Inv.bk (I : Inv X pins σ H s) : ∀ b o, X.base.get? b = some o -> s.heap.get? b = some o := fun b o e => (I.bs b o e).1
theorem Inv.mod (I : Inv X pins σ H s) : Mod X.K X.mg X.base := I.ok.mod
theorem Inv.kIn (I : Inv X pins σ H s) : X.K.In s.heap := I.ok.mod.kin.keeps I.bk
theorem Inv.lt (I : Inv X pins σ H s) : X.env.locals < s.heap.objs.size := let ⟨_, hn, _⟩ := I.loc; hn.lt
theorem Inv.sz (I : Inv X pins σ H s) : X.s₀.heap.objs.size <= s.heap.objs.size := Nat.le_trans I.ok.above (Nat.le_of_lt I.lt)
theorem Inv.nofs (I : Inv X pins σ H s) {a : Addr} (h : s.heap.objs.size <= a) : a ∉ X.fs := fun hb => by
 obtain ⟨_, o, ho, _⟩ := I.ok.funs.mem hb
 exact absurd (Nat.lt_of_lt_of_le (Heap.lt_size ho) (Nat.le_trans I.sz h)) (Nat.lt_irrefl _)
theorem Inv.cne (I : Inv X pins σ H s) : ∀ x c, X.env.cells.lookup x = some c -> c ≠ X.env.locals := fun x c e z => by
 obtain ⟨v, o, ho, hd⟩ := I.cell x c e
 obtain ⟨m, ⟨o', es, ep, ho', hd', _⟩, _⟩ := I.loc
 rw [z, ho'] at ho; cases ho; rw [hd'] at hd; cases hd
theorem Inv.funs (I : Inv X pins σ H s) : s.heap.FunFrames X.base X.outer := by
 have all : ∀ (l : List Env), (∀ b ∈ frs l, b ∈ X.fs) -> X.s₀.heap.FunFrames X.base l -> s.heap.FunFrames X.base l := by
  intro l
  induction l with
  | nil => intro _ _; trivial
  | cons env r ih =>
   intro hs hl
   obtain ⟨hk, ⟨L, o, hf, hn, ho, hd⟩, hr⟩ := hl
   have hL : L ∈ X.fs := hs L (by unfold frs; rw [List.filterMap_cons, hf]; exact List.mem_cons_self)
   obtain ⟨sl, e⟩ := I.base.slot L o ho (I.ok.frf L hL) hL fun z => I.ok.exfs L z hL
   exact ⟨hk, ⟨L, _, hf, hn, e, hd⟩, ih (fun b hb => hs b (by unfold frs; rw [List.filterMap_cons, hf]; exact List.mem_cons_of_mem _ hb)) hr⟩
 exact all X.outer (fun _ hb => hb) I.ok.funs
theorem Inv.stack (I : Inv X pins σ H s) : s.heap.FunFrames X.base X.stack := by
 rcases I.ok.stk with e | ⟨e, hf⟩
 ·rw [e]; exact I.funs
 ·rw [e]
  obtain ⟨m, hn, _⟩ := I.loc
  refine .cons (by rw [I.ok.kind]; decide) hf hn ?_ I.funs
  exact Heap.get?_none_of_le (Nat.le_trans I.ok.bsz I.ok.above)
theorem Inv.stkSub (I : Inv X pins σ H s) : ∀ b ∈ frs X.stack, b ∈ X.env.locals :: X.fs := fun b hb => by
 rcases I.ok.stk with e | ⟨e, hf⟩
 ·rw [e] at hb; exact List.mem_cons_of_mem _ hb
 ·rw [e] at hb
  unfold frs at hb
  rw [List.filterMap_cons, hf] at hb
  exact hb
theorem Inv.stkFree (I : Inv X pins σ H s) : ∀ b ∈ frs X.stack, H b = none := fun b hb => by
 rcases List.mem_cons.mp (I.stkSub b hb) with e | hb
 ·rw [e]; exact I.free
 ·obtain ⟨_, o, ho, _⟩ := I.ok.funs.mem hb
  exact I.base.free b o ho (I.ok.frf b hb) fun z => I.ok.exfs b z hb
theorem Inv.step {g' : Array GenState} {t' : Nat} {d' : Drawn} {ch : List Addr} (I : Inv X pins σ H s)
  (hch : ∀ b ∈ ch, (b ∈ X.ex \/ X.s₀.heap.objs.size <= b) /\ b ≠ X.env.locals /\ (∀ x c, X.env.cells.lookup x = some c -> c ≠ b) /\ ∀ p ∈ X.pn ++ pins, p.1 ≠ b)
  (keep : ∀ b o, b ≠ X.env.locals -> b ∉ X.fs -> b ∉ ch -> s.heap.get? b = some o -> H b = none -> h'.get? b = some o)
  (slot : ∀ b o, b ≠ X.env.locals -> b ∈ X.fs -> b ∉ ch -> s.heap.get? b = some o -> H b = none -> ∃ sl, h'.get? b = some { o with slots := sl }) (free : ∀ b o, b ∉ ch -> s.heap.get? b = some o -> H b = none -> H' b = none)
  (there : ∀ b o, b ∉ ch -> s.heap.get? b = some o -> ∃ o', h'.get? b = some o')
  (tups : ∀ b xs, H b = some (.tup xs) -> H' b = some (.tup xs)) (frzs : ∀ b o u, H b = some (.frz o u) -> H' b = some (.frz o u)) (tbls : ∀ b ps, H b = some (.tbl ps) -> ∃ more, H' b = some (.tbl (ps ++ more)))
  (ns : ∀ m, s.heap.Ns X.env.locals m -> h'.Ns X.env.locals m) (hok : HOk X.prog X.w H' h') (hg : AllBare g') :
  Inv X pins σ H' { s with heap := h', gens := g', drawn := d', toks := t' } := by
 have neL : ∀ b o, X.s₀.heap.get? b = some o -> b ≠ X.env.locals := fun b o e => Nat.ne_of_lt (Nat.lt_of_lt_of_le (Heap.lt_size e) I.ok.above)
 have neC : ∀ b o, X.s₀.heap.get? b = some o -> b ∉ X.ex -> b ∉ ch := fun b o e hx hb => by
  rcases (hch b hb).1 with z | z
  ·exact hx z
  ·exact absurd (Nat.lt_of_lt_of_le (Heap.lt_size e) z) (Nat.lt_irrefl _)
 have cellK : ∀ x c, X.env.cells.lookup x = some c -> ∀ v, s.heap.IsCell c v -> h'.IsCell c v := fun x c e v ⟨o, ho, hd⟩ => by
  have nch : c ∉ ch := fun z => (hch c z).2.2.1 x c e rfl
  by_cases hc : c ∈ X.fs
  ·obtain ⟨sl, q⟩ := slot c o (I.cne x c e) hc nch ho (I.freeC x c e)
   exact ⟨_, q, hd⟩
  ·exact ⟨o, keep c o (I.cne x c e) hc nch ho (I.freeC x c e), hd⟩
 refine ⟨I.ok, I.os, hg, ⟨fun b o e n hb hx => ?_, fun b o e n hb hx => ?_, fun b o e n hx => ?_, fun b o e hx => ?_, fun b xs e => tups b xs (I.base.tups b xs e), fun b o xs e => frzs b o xs (I.base.frzs b o xs e), fun b ps e => ?_⟩, ?_, fun x c e => ?_, ?_, fun x c e => ?_, fun p hp => ?_, hok, I.len⟩
 ·exact keep b o (neL b o e) hb (neC b o e hx) (I.base.keep b o e n hb hx) (I.base.free b o e n hx)
 ·obtain ⟨sl, e1⟩ := I.base.slot b o e n hb hx
  obtain ⟨sl', e2⟩ := slot b _ (neL b o e) hb (neC b o e hx) e1 (I.base.free b o e n hx)
  exact ⟨sl', e2⟩
 ·obtain ⟨o', e1⟩ := I.base.there b o e hx
  exact free b o' (neC b o e hx) e1 (I.base.free b o e n hx)
 ·obtain ⟨o', e1⟩ := I.base.there b o e hx
  exact there b o' (neC b o e hx) e1
 ·obtain ⟨m1, e1⟩ := I.base.tbls b ps e
  obtain ⟨m2, e2⟩ := tbls b _ e1
  exact ⟨m1 ++ m2, by rw [e2, Array.append_assoc]⟩
 ·obtain ⟨m, hn, hl⟩ := I.loc
  refine ⟨m, ns m hn, fun i x v e1 e2 e3 => ?_⟩
  obtain ⟨u, r, l⟩ := hl i x v e1 e2 e3
  refine ⟨u, r, ?_⟩
  rcases l with l | ⟨k, c, e, z⟩
  ·exact .inl l
  ·exact .inr ⟨k, c, e, cellK x c e _ z⟩
 ·obtain ⟨v, z⟩ := I.cell x c e
  exact ⟨v, cellK x c e v z⟩
 ·obtain ⟨m, ⟨o, _, _, ho, _⟩, _⟩ := I.loc
  exact free _ o (fun z => (hch _ z).2.1 rfl) ho I.free
 ·obtain ⟨v, o, ho, hd⟩ := I.cell x c e
  exact free c o (fun z => (hch c z).2.2.1 x c e rfl) ho (I.freeC x c e)
 ·obtain ⟨e, n, ne, nf, d⟩ := I.pin p hp
  have nch : p.1 ∉ ch := fun z => (hch p.1 z).2.2.2 p hp rfl
  exact ⟨keep p.1 p.2 ne nf nch e n, free p.1 p.2 nch e n, ne, nf, d⟩
theorem Inv.un {t' : Nat} (I : Inv X pins σ H s) (u : Un X.fs [] H H' s.heap h') (hok : HOk X.prog X.w H' h') : Inv X pins σ H' { s with heap := h', toks := t' } := by
 obtain ⟨m, ⟨o, es, ep, ho, r⟩, _⟩ := id I.loc
 obtain ⟨sl, hL⟩ := u.any ho I.free (by simp)
 exact I.step (g' := s.gens) (d' := s.drawn) (ch := []) (fun _ z => nomatch z) (fun b o _ hb _ e n => u.keep b o e n hb (by simp)) (fun b o _ hb _ e n => u.slot b o e n hb (by simp)) (fun b o _ e n => u.free b o e n (by simp)) (fun b o _ e => u.there b o e (by simp)) u.tups u.frzs u.tbls (fun m' hm => by
  obtain ⟨o', es', ep', ho', r'⟩ := hm
  rw [ho] at ho'; cases ho'
  exact ⟨_, es', ep', hL, r'⟩) hok I.bare
theorem Inv.call {g' : Array GenState} {t' : Nat} {d' : Drawn} {ch : List Addr} (I : Inv X pins σ H s) (u : Un (frs X.stack) ch H H' s.heap h') (hok : HOk X.prog X.w H' h') (hg : AllBare g')
  (hch : ∀ b ∈ ch, (b ∈ X.ex \/ X.s₀.heap.objs.size <= b) /\ b ≠ X.env.locals /\ (∀ x c, X.env.cells.lookup x = some c -> c ≠ b) /\ ∀ p ∈ X.pn ++ pins, p.1 ≠ b) :
  Inv X pins σ H' { s with heap := h', gens := g', drawn := d', toks := t' } := by
 obtain ⟨m, ⟨o, es, ep, ho, r⟩, _⟩ := id I.loc
 obtain ⟨sl, hL⟩ := u.any ho I.free fun z => (hch _ z).2.1 rfl
 exact I.step (ch := ch) hch (fun b o hL hb hc e n => u.keep b o e n (fun z => (List.mem_cons.mp (I.stkSub b z)).elim hL hb) hc) (fun b o _ _ hc e n => u.any e n hc) (fun b o hc e n => u.free b o e n hc) (fun b o hc e => u.there b o e hc) u.tups u.frzs u.tbls (fun m' hm => by
  obtain ⟨o', es', ep', ho', r'⟩ := hm
  rw [ho] at ho'; cases ho'
  exact ⟨_, es', ep', hL, r'⟩) hok hg
theorem Inv.turned {t' : Nat} {it : Addr} (I : Inv X pins σ H s) (k : ∀ b o, b ≠ it -> s.heap.get? b = some o -> h'.get? b = some o) (hn : H it = none) (hL : it ≠ X.env.locals)
  (h1 : it ∈ X.ex \/ X.s₀.heap.objs.size <= it) (h2 : ∀ x c, X.env.cells.lookup x = some c -> c ≠ it) (h3 : ∀ p ∈ X.pn ++ pins, p.1 ≠ it) : Inv X pins σ H { s with heap := h', toks := t' } := by
 have nit : ∀ b u, H b = some u -> b ≠ it := fun b u e z => by rw [z, hn] at e; cases e
 refine I.step (g' := s.gens) (d' := s.drawn) (ch := [it]) (fun b hb => ?_) (fun b o _ _ hc e _ => k b o (fun z => hc (by simp [z])) e) (fun b o _ _ hc e _ => ⟨o.slots, k b o (fun z => hc (by simp [z])) e⟩) (fun _ _ _ _ n => n)
  (fun b o hc e => ⟨o, k b o (fun z => hc (by simp [z])) e⟩) (fun _ _ e => e) (fun _ _ _ e => e) (fun b ps e => ⟨#[], by rw [e]; simp⟩) (fun m hm => ?_) (fun b u e => ?_) I.bare
 ·have e : b = it := by simpa using hb
  subst e
  exact ⟨h1, hL, h2, h3⟩
 ·obtain ⟨o, es, ep, ho, r⟩ := hm
  exact ⟨o, es, ep, k _ o (Ne.symm hL) ho, r⟩
 ·refine (I.hok b u e).stay (fun c v hc q => k c v ?_ q) (fun _ q => q) fun _ _ q => q
  rcases hc with z | z
  ·rw [z]; exact nit b u e
  ·exact nit c _ z
theorem Inv.tok (I : Inv X pins σ H s) (t : Nat) : Inv X pins σ H { s with toks := t } := I.un (h' := s.heap) (t' := t) Un.refl I.hok
theorem Inv.kept {t' : Nat} (I : Inv X pins σ H s) (k : ∀ b u, s.heap.get? b = some u -> h'.get? b = some u) : Inv X pins σ H { s with heap := h', toks := t' } := I.un (Un.kept k) (I.hok.kept k)
theorem Inv.laid {a : Addr} {o : HO} {t' : Nat} (I : Inv X pins σ H s) (k : ∀ b u, s.heap.get? b = some u -> h'.get? b = some u) (hp : s.heap.objs.size <= a) (new : ObjOk X.prog X.w (upd H a o) h' a o) :
  Inv X pins σ (upd H a o) { s with heap := h', toks := t' } := I.un (Un.laid k hp (I.hok.fresh hp)) (I.hok.laid k hp new)
theorem Inv.write {x e : Addr} {o : HO} {t' : Nat} (I : Inv X pins σ H s) (mu : Mut (H x)) (he : e = x \/ H e = some (.own x)) (k : ∀ b u, b ≠ e -> s.heap.get? b = some u -> h'.get? b = some u) (heo : ∃ u, h'.get? e = some u)
  (new : ObjOk X.prog X.w (upd H x o) h' x o) : Inv X pins σ (upd H x o) { s with heap := h', toks := t' } := I.un (Un.write mu he k heo) (I.hok.write mu he k heo new)
theorem Inv.pins_of {pins' : List (Addr × Obj)} (I : Inv X pins σ H s) (h : ∀ p ∈ pins', s.heap.get? p.1 = some p.2 /\ H p.1 = none /\ p.1 ≠ X.env.locals /\ p.1 ∉ X.fs /\ ∀ v, p.2.data ≠ .cell v) : Inv X pins' σ H s :=
 ⟨I.ok, I.os, I.bare, I.base, I.loc, I.cell, I.free, I.freeC, fun p hp => (List.mem_append.mp hp).elim (fun z => I.pin p (List.mem_append_left _ z)) (h p), I.hok, I.len⟩
theorem nodup_ix {N : List Str} (hN : N.Nodup) {i j : Nat} {x : Str} (a : N[i]? = some x) (b : N[j]? = some x) : i = j := by
 obtain ⟨h1, e1⟩ := List.getElem?_eq_some_iff.mp a
 obtain ⟨h2, e2⟩ := List.getElem?_eq_some_iff.mp b
 exact (List.getElem_inj hN).mp (e1.trans e2.symm)
theorem store_ok2 {M : Model} {A : Around} {E : Value -> Shared -> Prop} {i : Nat} {x : Str} {v : V} {u : Value} {Q : Unit -> Shared -> Prop} (I : Inv X pins σ H s) (hN : X.N.Nodup) (hi : X.N[i]? = some x) (hx : Loc X.env.scope x) (r : RelV v u)
  (h : ∀ s', Inv X pins (σ.set i (some v)) H s' -> (∃ a, Heap.SameBut a s.heap s'.heap /\ (a = X.env.locals \/ X.env.cells.lookup x = some a)) -> Q () s') (hf : X.fn x = true \/ X.env.scope.names.lookup x = some .local := by first | exact .inl rfl | exact .inr rfl | assumption) : wpAny M A (storeName X.env x u) Q E s := by
 obtain ⟨m, hn, hl⟩ := id I.loc
 have hcls : (X.env.scope.kind == .class || (X.env.scope.kind == .module && X.env.locals != X.env.globals)) = false := by rw [I.ok.kind]; rfl
 have hiσ : i < σ.length := by rw [I.len]; exact (List.getElem?_eq_some_iff.mp hi).1
 have cne := I.cne
 have tracked : ∀ {a : Addr} {h' : Heap}, (∃ o, s.heap.get? a = some o /\ H a = none) -> Heap.SameBut a s.heap h' -> HOk X.prog X.w H h' := fun {a h'} ha hs b ob e => by
  obtain ⟨_, _, hfree⟩ := ha
  refine (I.hok b ob e).stay (fun c w' hc q => (hs.2 c ?_).trans q) (fun _ q => q) fun _ _ q => q
  rintro rfl
  rcases hc with rfl | hc
  ·rw [hfree] at e; cases e
  ·rw [hfree] at hc; cases hc
 rcases hx with hk | hk
 ·refine wpAny_storeName_local hk hn (fun h' hn' hs => ?_) hcls
  obtain ⟨oL, _, _, hoL, _⟩ := id hn
  refine h _ ⟨I.ok, I.os, I.bare, ⟨fun b o e n hb hx => ?_, fun b o e n hb hx => ?_, I.base.free, fun b o e hx => ?_, I.base.tups, I.base.frzs, I.base.tbls⟩, ⟨_, hn', fun j y v' e1 e2 e3 => ?_⟩, fun y c e => ?_, I.free, I.freeC, fun p hp => ?_, tracked ⟨oL, hoL, I.free⟩ hs, by simpa using I.len⟩ ⟨_, hs, .inl rfl⟩
  ·exact (hs.2 b (Nat.ne_of_lt (Nat.lt_of_lt_of_le (Heap.lt_size e) I.ok.above))).trans (I.base.keep b o e n hb hx)
  ·obtain ⟨sl, e1⟩ := I.base.slot b o e n hb hx
   exact ⟨sl, (hs.2 b (Nat.ne_of_lt (Nat.lt_of_lt_of_le (Heap.lt_size e) I.ok.above))).trans e1⟩
  ·obtain ⟨o', e1⟩ := I.base.there b o e hx
   exact ⟨o', (hs.2 b (Nat.ne_of_lt (Nat.lt_of_lt_of_le (Heap.lt_size e) I.ok.above))).trans e1⟩
  ·by_cases hj : j = i
   ·subst hj
    rw [hi] at e1; cases e1
    rw [List.getElem?_set_self hiσ] at e2
    cases e2
    exact ⟨u, r, .inl ⟨hk, by simp⟩⟩
   ·rw [List.getElem?_set_ne (Ne.symm hj)] at e2
    obtain ⟨u', r', q⟩ := hl j y v' e1 e2 e3
    refine ⟨u', r', ?_⟩
    rcases q with ⟨k, e⟩ | ⟨k, c, e, z⟩
    ·refine .inl ⟨k, ?_⟩
     have : y ≠ x := fun e => hj (nodup_ix hN e1 (e ▸ hi))
     simp [this, e]
    ·exact .inr ⟨k, c, e, z.sameBut hs (cne y c e)⟩
  ·obtain ⟨w', z⟩ := I.cell y c e
   exact ⟨w', z.sameBut hs (cne y c e)⟩
  ·obtain ⟨e, n, ne, nf, d⟩ := I.pin p hp
   exact ⟨(hs.2 p.1 ne).trans e, n, ne, nf, d⟩
 ·have hfn : X.fn x = true := by
   rcases hf with z | z
   ·exact z
   ·rw [z] at hk; cases hk
  obtain ⟨c, hc⟩ := I.ok.has x (.inl hk)
  obtain ⟨w', z⟩ := I.cell x c hc
  refine wpAny_storeName_cell I.ok.kind hk hc z (fun h' hc' hs => ?_)
  obtain ⟨oc, hoc, hocd⟩ := id z
  refine h { s with heap := h' } ⟨I.ok, I.os, I.bare, ⟨fun b o e n hb hx => ?_, fun b o e n hb hx => ?_, I.base.free, fun b o e hx => ?_, I.base.tups, I.base.frzs, I.base.tbls⟩, ⟨m, hn.sameBut hs (Ne.symm (cne x c hc)), fun j y v' e1 e2 e3 => ?_⟩, fun y c' e => ?_, I.free, I.freeC, fun p hp => ?_, tracked ⟨oc, hoc, I.freeC x c hc⟩ hs, by simpa using I.len⟩ ⟨c, hs, .inr hc⟩
  ·exact (hs.2 b (Nat.ne_of_lt (Nat.lt_of_lt_of_le (Heap.lt_size e) (I.ok.cab x c hfn hc)))).trans (I.base.keep b o e n hb hx)
  ·obtain ⟨sl, e1⟩ := I.base.slot b o e n hb hx
   exact ⟨sl, (hs.2 b (Nat.ne_of_lt (Nat.lt_of_lt_of_le (Heap.lt_size e) (I.ok.cab x c hfn hc)))).trans e1⟩
  ·obtain ⟨o', e1⟩ := I.base.there b o e hx
   exact ⟨o', (hs.2 b (Nat.ne_of_lt (Nat.lt_of_lt_of_le (Heap.lt_size e) (I.ok.cab x c hfn hc)))).trans e1⟩
  ·by_cases hj : j = i
   ·subst hj
    rw [hi] at e1; cases e1
    rw [List.getElem?_set_self hiσ] at e2
    cases e2
    exact ⟨u, r, .inr ⟨.inl hk, c, hc, hc'⟩⟩
   ·rw [List.getElem?_set_ne (Ne.symm hj)] at e2
    obtain ⟨u', r', q⟩ := hl j y v' e1 e2 e3
    refine ⟨u', r', ?_⟩
    rcases q with q | ⟨k, c', e, z'⟩
    ·exact .inl q
    ·refine .inr ⟨k, c', e, z'.sameBut hs ?_⟩
     rintro rfl
     exact hj (nodup_ix hN e1 (I.ok.inj _ _ _ e hc ▸ hi))
  ·by_cases hcc : c' = c
   ·subst hcc; exact ⟨_, hc'⟩
   ·obtain ⟨w2, z2⟩ := I.cell y c' e
    exact ⟨w2, z2.sameBut hs hcc⟩
  ·obtain ⟨e, n, ne, nf, d⟩ := I.pin p hp
   refine ⟨(hs.2 p.1 ?_).trans e, n, ne, nf, d⟩
   intro q
   rw [q, hoc] at e
   have q' : oc = p.2 := Option.some.inj e
   exact d w' (by rw [<- q']; exact hocd)
theorem store_ok {M : Model} {A : Around} {E : Value -> Shared -> Prop} {i : Nat} {x : Str} {v : V} {u : Value} {Q : Unit -> Shared -> Prop} (I : Inv X pins σ H s) (hN : X.N.Nodup) (hi : X.N[i]? = some x) (hx : Loc X.env.scope x) (r : RelV v u)
  (h : ∀ s', Inv X pins (σ.set i (some v)) H s' -> Q () s') (hf : X.fn x = true \/ X.env.scope.names.lookup x = some .local := by first | exact .inl rfl | exact .inr rfl | assumption) : wpAny M A (storeName X.env x u) Q E s :=
 store_ok2 I hN hi hx r (fun s' I' _ => h s' I') hf
theorem Inv.call' {s' : Shared} {ch : List Addr} (I : Inv X pins σ H s) (ho : s'.os = s.os) (u : Un (frs X.stack) ch H H' s.heap s'.heap) (hok : HOk X.prog X.w H' s'.heap) (hg : AllBare s'.gens)
  (hch : ∀ b ∈ ch, (b ∈ X.ex \/ X.s₀.heap.objs.size <= b) /\ b ≠ X.env.locals /\ (∀ x c, X.env.cells.lookup x = some c -> c ≠ b) /\ ∀ p ∈ X.pn ++ pins, p.1 ≠ b) : Inv X pins σ H' s' := by
 obtain ⟨h', g', d', t', o'⟩ := s'
 have e : o' = s.os := ho
 subst e
 exact I.call (g' := g') (t' := t') (d' := d') u hok hg hch
end
abbrev XK := Value -> Option Addr -> Hp -> Prop
abbrev St := List (Option V)
abbrev VK := V -> Hp -> Prop
abbrev TE := St -> Hp -> VK -> Prop
abbrev TT := St -> Hp -> (Bool -> Hp -> Prop) -> Prop
abbrev TA := St -> Hp -> (List V -> Hp -> Prop) -> Prop
structure Ends where
 nx : St -> Hp -> Prop
 rt : VK
 bk : St -> Hp -> Prop := fun _ _ => False
 ct : St -> Hp -> Prop := fun _ _ => False
abbrev TS := Ends -> St -> Hp -> Prop
def EP (X : Cx) (pins : List (Addr × Obj)) (σ : St) (Q : VK) (u : Value) (s' : Shared) : Prop := ∃ v H', Inv X pins σ H' s' /\ RelV v u /\ Q v H'
def TP (X : Cx) (pins : List (Addr × Obj)) (σ : St) (Q : Bool -> Hp -> Prop) (b : Bool) (s' : Shared) : Prop := ∃ H', Inv X pins σ H' s' /\ Q b H'
def AP (X : Cx) (pins : List (Addr × Obj)) (σ : St) (Q : List V -> Hp -> Prop) (us : List Value) (s' : Shared) : Prop := ∃ vs H', Inv X pins σ H' s' /\ Vals vs us /\ Q vs H'
def SP (X : Cx) (pins : List (Addr × Obj)) (D : Ends) (f : Flow) (s' : Shared) : Prop :=
 match f with
 | .next => ∃ σ' H', Inv X pins σ' H' s' /\ D.nx σ' H'
 | .brk => ∃ σ' H', Inv X pins σ' H' s' /\ D.bk σ' H'
 | .cont => ∃ σ' H', Inv X pins σ' H' s' /\ D.ct σ' H'
 | .ret u => ∃ v σ' H', Inv X pins σ' H' s' /\ RelV v u /\ D.rt v H'
def PE (X : Cx) (e : Expr) (t : TE) : Prop :=
 ∀ (pins : List (Addr × Obj)) (s : Shared) (σ : St) (H : Hp) (Q : VK), Inv X pins σ H s -> t σ H Q -> wpAny (model X.prog X.w) X.A (eval e X.env) (EP X pins σ Q) X.xe s
def PT (X : Cx) (e : Expr) (t : TT) : Prop :=
 ∀ (pins : List (Addr × Obj)) (s : Shared) (σ : St) (H : Hp) (Q : Bool -> Hp -> Prop), Inv X pins σ H s -> t σ H Q -> wpAny (model X.prog X.w) X.A (isTrue e X.env (eval e X.env)) (TP X pins σ Q) X.xe s
def PW (X : Cx) (e : Expr) (t : TT) : Prop :=
 ∀ (whole : Sem Value) (pins : List (Addr × Obj)) (s : Shared) (σ : St) (H : Hp) (Q : Bool -> Hp -> Prop), Inv X pins σ H s -> t σ H Q -> wpAny (model X.prog X.w) X.A (isTrue e X.env whole) (TP X pins σ Q) X.xe s
theorem PW.pt {X : Cx} {e : Expr} {t : TT} (h : PW X e t) : PT X e t := h _
def PA (X : Cx) (es : List Expr) (t : TA) : Prop :=
 ∀ (pos : Pos) (pins : List (Addr × Obj)) (s : Shared) (σ : St) (H : Hp) (Q : List V -> Hp -> Prop), Inv X pins σ H s -> t σ H Q -> wpAny (model X.prog X.w) X.A (spliced (backTo pos (starEach es X.env))) (AP X pins σ Q) X.xe s
def PS (X : Cx) (st : Stmt) (t : TS) : Prop :=
 ∀ (pins : List (Addr × Obj)) (s : Shared) (σ : St) (H : Hp) (D : Ends), Inv X pins σ H s -> t D σ H -> wpAny (model X.prog X.w) X.A (exec st X.env) (SP X pins D) X.xe s
def PSs (X : Cx) (st : List Stmt) (t : TS) : Prop :=
 ∀ (pins : List (Addr × Obj)) (s : Shared) (σ : St) (H : Hp) (D : Ends), Inv X pins σ H s -> t D σ H -> wpAny (model X.prog X.w) X.A (execs st X.env) (SP X pins D) X.xe s
theorem thn {α : Type} {t : Sem α} {Q Q' : α -> Shared -> Prop} {M : Model} {A : Around} {E : Value -> Shared -> Prop} {s : Shared} (h : wpAny M A t Q E s) (hQ : ∀ a s, Q a s -> Q' a s) : wpAny M A t Q' E s := wpAny_mono h hQ fun _ _ x => x
end L2
namespace L2
open PySem PySem.Spec PyProof.Rows
section
variable {X : Cx}
def tVar (i : Nat) : TE := fun σ H Q => ∃ v, σ[i]? = some (some v) /\ Q v H
def tC (v : V) : TE := fun _ H Q => Q v H
theorem pe_var {i : Nat} {x : Str} {pos : Pos} (hN : X.N[i]? = some x) (hv : Vis X.env.scope x) (hd : (x == ("__debug__" : Str)) = false := by decide) (hcd : (x == ("__classdict__" : Str)) = false := by decide) : PE X (.Name x pos) (tVar i) := by
 intro pins s σ H Q I h
 obtain ⟨v, e, h⟩ := h
 obtain ⟨m, hn, hl⟩ := I.loc
 obtain ⟨u, r, l⟩ := hl i x v hN e hv
 have fin : EP X pins σ Q u s := ⟨v, H, I, r, h⟩
 rcases l with ⟨hk, hm⟩ | ⟨hk, c, hc, hcell⟩
 ·exact wpAny_Name (wpAny_loadName_local I.ok.kind hk hn hm fin) hd
 ·rcases hk with hk | hk
  ·exact wpAny_Name (wpAny_loadName_cell I.ok.kind hk hc hcell fin) hd
  ·exact wpAny_Name (wpAny_loadName_free I.ok.kind hk hc hcell fin hcd) hd
theorem pe_int {i j pos} : PE X (.Constant (.int i) j pos) (tC (.int i)) := fun _ _ _ H _ I h => wpAny_Constant_int ⟨.int i, H, I.tok _, ⟨_, rfl⟩, h⟩
theorem pe_bl {b j pos} : PE X (.Constant (.bool b) j pos) (tC (.bl b)) := fun _ _ _ H _ I h => Constant_bool ⟨.bl b, H, I, rfl, h⟩
theorem pe_non {j pos} : PE X (.Constant .none j pos) (tC .non) := fun _ _ _ H _ I h => Constant_none ⟨.non, H, I, rfl, h⟩
theorem pe_str {x j pos} : PE X (.Constant (.str x) j pos) (tC (.str x)) := fun _ _ _ H _ I h => Calls.Constant_str ⟨.str x, H, I.tok _, ⟨_, rfl⟩, h⟩
def Gl (X : Cx) (x : Str) : Prop := X.env.kindOf x = some .globalImplicit
theorem ld_glob {E : Value -> Shared -> Prop} {pins : List (Addr × Obj)} {s : Shared} {σ : St} {H : Hp} {x : Str} {u : Value} {pos : Pos} {Q : Value -> Shared -> Prop} (I : Inv X pins σ H s) (hg : Gl X x) (hm : X.mg x = some u) (h : Q u s)
  (hd : (x == ("__debug__" : Str)) = false := by decide) : wpAny (model X.prog X.w) X.A (eval (.Name x pos) X.env) Q E s :=
 Calls.Name_function_global I.ok.kind hg (Calls.loadGlobal_global (by rw [I.ok.glob]; exact I.mod.glob.keeps I.bk) hm h) hd
theorem ld_blt {E : Value -> Shared -> Prop} {pins : List (Addr × Obj)} {s : Shared} {σ : St} {H : Hp} {x : Str} {u : Value} {pos : Pos} {Q : Value -> Shared -> Prop} (I : Inv X pins σ H s) (hg : Gl X x) (hm : X.mg x = none) (hv : bootBuiltins x = some u) (h : Q u s)
  (hn : x ≠ "__name__" := by decide) (hd : (x == ("__debug__" : Str)) = false := by decide) : wpAny (model X.prog X.w) X.A (eval (.Name x pos) X.env) Q E s := by
 obtain ⟨mb, h1, h2⟩ := I.mod.blt
 exact Calls.Name_function_global I.ok.kind hg (Calls.loadGlobal_builtin (by rw [I.ok.glob]; exact I.mod.glob.keeps I.bk) hm (by rw [I.ok.blt]; exact h1.keeps I.bk) ((h2 x hn).trans hv) h) hd
theorem pe_glob {x : Str} {v : V} {u : Value} {pos : Pos} (hg : Gl X x) (hm : X.mg x = some u) (r : RelV v u) (hd : (x == ("__debug__" : Str)) = false := by decide) : PE X (.Name x pos) (tC v) :=
 fun _ _ _ H _ I h => ld_glob I hg hm ⟨v, H, I, r, h⟩ hd
theorem pe_bltn {x : Str} {v : V} {u : Value} {pos : Pos} (hg : Gl X x) (hm : X.mg x = none) (hv : bootBuiltins x = some u) (r : RelV v u) (hn : x ≠ "__name__" := by decide) (hd : (x == ("__debug__" : Str)) = false := by decide) : PE X (.Name x pos) (tC v) :=
 fun _ _ _ H _ I h => ld_blt I hg hm hv ⟨v, H, I, r, h⟩ hn hd
variable {a b : Expr} {ta tb : TE} {pos : Pos}
def tB (t : TE) : TT := fun σ H Q => t σ H fun x H1 => ∃ c, x = .bl c /\ Q c H1
theorem pt_val {e : Expr} {t : TE} (h : PE X e t) (he : ∀ whole, isTrue e X.env whole = (do let v <- whole; standAt e.pos; holding [v] (truthy v)) := by intro _; rfl) : PT X e (tB t) := by
 intro pins s σ H Q I hw
 refine isTrue_plain (thn (h pins s σ H _ I hw) fun v s1 ⟨x, H1, I1, r1, q1⟩ => ?_) (he _)
 obtain ⟨d, rfl, q⟩ := q1
 cases r1
 exact wpAny_truthy_bool ⟨H1, I1, q⟩
variable {tA tB' : TT} {rest : List Expr}
def tAnd (t u : TT) : TT := fun σ H Q => t σ H fun c H1 => if c = true then u σ H1 Q else Q false H1
def tOr (t u : TT) : TT := fun σ H Q => t σ H fun c H1 => if c = true then Q true H1 else u σ H1 Q
def tNot (t : TT) : TT := fun σ H Q => t σ H fun c H1 => Q (!c) H1
theorem pw_and1 (ha : PT X a tA) : PW X (.BoolOp .And [a] pos) tA := by
 intro wh pins s σ H Q I h
 refine isTrue_and (thn (ha pins s σ H Q I h) fun c s1 e => ?_)
 cases c with
 | true => exact isTrue_and_nil e
 | false => exact e
theorem pw_or1 (ha : PT X a tA) : PW X (.BoolOp .Or [a] pos) tA := by
 intro wh pins s σ H Q I h
 refine isTrue_or (thn (ha pins s σ H Q I h) fun c s1 e => ?_)
 cases c with
 | false => exact isTrue_or_nil e
 | true => exact e
theorem pw_and (ha : PT X a tA) (hb : PW X (.BoolOp .And (b :: rest) pos) tB') : PW X (.BoolOp .And (a :: b :: rest) pos) (tAnd tA tB') := by
 intro wh pins s σ H Q I h
 refine isTrue_and (thn (ha pins s σ H _ I h) fun c s1 ⟨H1, I1, q1⟩ => ?_)
 cases c with
 | true => exact hb wh pins s1 σ H1 Q I1 q1
 | false => exact ⟨H1, I1, q1⟩
theorem pw_or (ha : PT X a tA) (hb : PW X (.BoolOp .Or (b :: rest) pos) tB') : PW X (.BoolOp .Or (a :: b :: rest) pos) (tOr tA tB') := by
 intro wh pins s σ H Q I h
 refine isTrue_or (thn (ha pins s σ H _ I h) fun c s1 ⟨H1, I1, q1⟩ => ?_)
 cases c with
 | true => exact ⟨H1, I1, q1⟩
 | false => exact hb wh pins s1 σ H1 Q I1 q1
theorem pt_not (ha : PT X a tA) : PT X (.UnaryOp .Not a pos) (tNot tA) := by
 intro pins s σ H Q I h
 exact isTrue_not (ha pins s σ H (fun c H1 => Q (!c) H1) I h)
def tAndV (ta tb : TE) : TE := fun σ H Q => ta σ H fun x H1 => ∃ c, x = .bl c /\ if c = true then tb σ H1 Q else Q (.bl false) H1
def tNotV (ta : TE) : TE := fun σ H Q => ta σ H fun x H1 => ∃ c, x = .bl c /\ Q (.bl (!c)) H1
theorem pe_one {op} {t : TE} (h : PE X a t) : PE X (.BoolOp op [a] pos) t := fun pins s σ H Q I hw => BoolOp_one (h pins s σ H Q I hw)
theorem pe_and (ha : PE X a ta) (hb : PE X (.BoolOp .And (b :: rest) pos) tb) : PE X (.BoolOp .And (a :: b :: rest) pos) (tAndV ta tb) := by
 intro pins s σ H Q I h
 refine BoolOp_and (thn (ha pins s σ H _ I h) fun v s1 ⟨x, H1, I1, r1, q1⟩ => ?_)
 obtain ⟨c, rfl, q1⟩ := q1
 cases r1
 refine wpAny_truthy_bool ?_
 cases c with
 | true => exact hb pins s1 σ H1 Q I1 q1
 | false => exact ⟨.bl false, H1, I1, rfl, q1⟩
theorem pe_not (ha : PE X a ta) : PE X (.UnaryOp .Not a pos) (tNotV ta) := by
 intro pins s σ H Q I h
 refine UnaryOp_ (thn (ha pins s σ H _ I h) fun v s1 ⟨x, H1, I1, r1, q1⟩ => ?_)
 obtain ⟨c, rfl, q1⟩ := q1
 cases r1
 exact not_of (wpAny_truthy_bool ⟨.bl (!c), H1, I1, rfl, q1⟩)
end
end L2
namespace L2
open PySem PySem.Spec PyProof.Rows
def SqL (K : PySem.W.Frag) (H : Hp) (a : Addr) (xs : List V) : Prop :=
 Rd H a (.lst xs) \/
  ∃ (o : Obj) (its : Array Value) (n : Nat), K.lookup a = some o /\ o.cls = .type "list" /\ o.dict = none /\ o.data = .seq its n /\ its.size <= sizeLine /\ Vals xs its.toList
def SqT (K : PySem.W.Frag) (H : Hp) (a : Addr) (xs : List V) : Prop :=
 Rd H a (.tup xs) \/
  ∃ (o : Obj) (its : Array Value) (n : Nat), K.lookup a = some o /\ o.cls = .type "tuple" /\ o.data = .seq its n /\ its.size <= sizeLine /\ Vals xs its.toList
def absV : Value -> Option V
 | .none => some .non
 | .bool b => some (.bl b)
 | .int i _ => some (.int i)
 | .str x _ => some (.str x)
 | .bytes b _ => some (.byt b)
 | .float b _ => some (.flt b)
 | .ref a => some (.ref a)
 | .type n => some (.ty n)
 | _ => none
theorem RelV.abs {x : V} {u : Value} (r : RelV x u) : absV u = some x := by
 cases x with
 | non => cases r; rfl
 | bl _ => cases r; rfl
 | int _ => obtain ⟨t, rfl⟩ := r; rfl
 | str _ => obtain ⟨t, rfl⟩ := r; rfl
 | byt _ => obtain ⟨t, rfl⟩ := r; rfl
 | flt _ => obtain ⟨t, rfl⟩ := r; rfl
 | ref _ => cases r; rfl
 | ty _ => cases r; rfl
theorem RelV.inj {x y : V} {u : Value} (r : RelV x u) (q : RelV y u) : x = y := Option.some.inj (r.abs.symm.trans q.abs)
theorem Vals.inj : ∀ {xs ys : List V} {us : List Value}, Vals xs us -> Vals ys us -> xs = ys
 | _, _, _, .nil, .nil => rfl
 | _, _, _, .cons r t, .cons r' t' => by rw [r.inj r', Vals.inj t t']
section
variable {X : Cx} {pins : List (Addr × Obj)} {σ : St} {H : Hp} {s : Shared} {a : Addr} {xs ys : List V}
theorem SqL.of {K : PySem.W.Frag} (h : H a = some (.lst xs)) : SqL K H a xs := .inl (.inl h)
theorem SqT.of {K : PySem.W.Frag} (h : H a = some (.tup xs)) : SqT K H a xs := .inl (.inl h)
theorem Inv.list (I : Inv X pins σ H s) (h : SqL X.K H a xs) : ∃ its : List Value, Vals xs its /\ PlainL s.heap a its.toArray /\ xs.length <= sizeLine := by
 rcases h with h | ⟨o, its, n, hk, hc, hd, hs, hz, r⟩
 ·obtain ⟨z, its, n, r, e⟩ := h.ok I.hok
  exact ⟨its, r, ⟨_, n, e, rfl, rfl, rfl⟩, z⟩
 ·refine ⟨its.toList, r, ⟨o, n, I.kIn a o hk, hc, hd, by simpa using hs⟩, ?_⟩
  have e := r.length
  simp only [Array.length_toList] at e
  omega
theorem Inv.tuple (I : Inv X pins σ H s) (h : SqT X.K H a xs) : ∃ its : List Value, Vals xs its /\ IsTup s.heap a its.toArray /\ xs.length <= sizeLine := by
 rcases h with h | ⟨o, its, n, hk, hc, hs, hz, r⟩
 ·obtain ⟨z, its, r, p⟩ := h.ok I.hok
  exact ⟨its, r, p, z⟩
 ·refine ⟨its.toList, r, ⟨o, I.kIn a o hk, hc, n, by simpa using hs⟩, ?_⟩
  have e := r.length
  simp only [Array.length_toList] at e
  omega
theorem Inv.list_inj (I : Inv X pins σ H s) (h : SqL X.K H a xs) (h' : SqL X.K H a ys) : xs = ys := by
 obtain ⟨its, r, ⟨o, n, e, _, _, d⟩, _⟩ := I.list h
 obtain ⟨its', r', ⟨o', n', e', _, _, d'⟩, _⟩ := I.list h'
 rw [e] at e'; cases e'
 rw [d] at d'
 injection d' with d1 _
 have : its = its' := by simpa using congrArg Array.toList d1
 subst this
 exact r.inj r'
theorem Inv.tuple_inj (I : Inv X pins σ H s) (h : SqT X.K H a xs) (h' : SqT X.K H a ys) : xs = ys := by
 obtain ⟨its, r, ⟨o, e, _, n, d⟩, _⟩ := I.tuple h
 obtain ⟨its', r', ⟨o', e', _, n', d'⟩, _⟩ := I.tuple h'
 rw [e] at e'; cases e'
 rw [d] at d'
 injection d' with d1 _
 have : its = its' := by simpa using congrArg Array.toList d1
 subst this
 exact r.inj r'
end
abbrev Cx.wish (X : Cx) (E : Value -> Shared -> Prop) : Cx := { X with xe := E }
abbrev Cx.nox (X : Cx) : Cx := X.wish fun _ _ => False
theorem Cx.Ok.wish {X : Cx} (ok : X.Ok) (E : Value -> Shared -> Prop) : (X.wish E).Ok :=
 ⟨ok.mod, ok.kind, ok.glob, ok.blt, ok.above, ok.inj, ok.has, ok.cab, ok.hd, ok.frames, ok.stk, ok.exf, ok.bs, ok.bsz, ok.noex, ok.exfs, ok.funs, ok.frf⟩
theorem Cx.Ok.unwish {X : Cx} {E : Value -> Shared -> Prop} (ok : (X.wish E).Ok) : X.Ok :=
 ⟨ok.mod, ok.kind, ok.glob, ok.blt, ok.above, ok.inj, ok.has, ok.cab, ok.hd, ok.frames, ok.stk, ok.exf, ok.bs, ok.bsz, ok.noex, ok.exfs, ok.funs, ok.frf⟩
section
variable {X : Cx} {pins : List (Addr × Obj)} {σ : St} {H : Hp} {s : Shared} {E : Value -> Shared -> Prop}
theorem Inv.wish (I : Inv X pins σ H s) (E : Value -> Shared -> Prop) : Inv (X.wish E) pins σ H s := ⟨I.ok.wish E, I.os, I.bare, I.base, I.loc, I.cell, I.free, I.freeC, I.pin, I.hok, I.len⟩
theorem Inv.unwish (I : Inv (X.wish E) pins σ H s) : Inv X pins σ H s := ⟨I.ok.unwish, I.os, I.bare, I.base, I.loc, I.cell, I.free, I.freeC, I.pin, I.hok, I.len⟩
theorem SP.unwish {D : Ends} {f : Flow} {s' : Shared} (h : SP (X.wish E) pins D f s') : SP X pins D f s' := by
 cases f with
 | next => obtain ⟨σ', H', I, q⟩ := h; exact ⟨σ', H', I.unwish, q⟩
 | brk => obtain ⟨σ', H', I, q⟩ := h; exact ⟨σ', H', I.unwish, q⟩
 | cont => obtain ⟨σ', H', I, q⟩ := h; exact ⟨σ', H', I.unwish, q⟩
 | ret u => obtain ⟨v, σ', H', I, r, q⟩ := h; exact ⟨v, σ', H', I.unwish, r, q⟩
theorem PSs.nox {st : List Stmt} {t : TS} (h : PSs X.nox st t) : PSs X st t := fun pins s σ H D I hw =>
 wpAny_mono (h pins s σ H D (I.wish _) hw) (fun _ _ q => q.unwish) fun _ _ z => False.elim z
end
section
variable {X : Cx} {st : Stmt} {rest : List Stmt} {t u : TS} {e : Expr} {te : TE} {pos : Pos}
def tNext : TS := fun D σ H => D.nx σ H
def tSeq (t u : TS) : TS := fun D σ H => t { D with nx := u D } σ H
theorem pss_nil : PSs X [] tNext := fun _ _ σ H _ I h => wpAny_execs_nil ⟨σ, H, I, h⟩
theorem pss_cons (h1 : PS X st t) (h2 : PSs X rest u) : PSs X (st :: rest) (tSeq t u) := by
 intro pins s σ H D I h
 refine wpAny_execs_cons (thn (h1 pins s σ H { D with nx := u D } I h) fun f s1 q => ?_)
 cases f with
 | next =>
  obtain ⟨σ', H', I', q⟩ := q
  exact h2 pins s1 σ' H' D I' q
 | ret v => exact q
 | brk => exact q
 | cont => exact q
theorem pss_one (h1 : PS X st t) : PSs X [st] t := by
 intro pins s σ H D I h
 refine wpAny_execs_cons (thn (h1 pins s σ H D I h) fun f s1 q => ?_)
 cases f with
 | next => exact wpAny_execs_nil q
 | ret v => exact q
 | brk => exact q
 | cont => exact q
theorem Inv.quiet {pins : List (Addr × Obj)} {σ : St} {H : Hp} {s : Shared} (I : Inv X pins σ H s) : interactive X.env = false := by simp [interactive, I.ok.kind]
def tDrop (te : TE) : TS := fun D σ H => te σ H fun _ H1 => D.nx σ H1
theorem ps_expr (he : PE X e te) (hs : swapsWith e none pos.line X.env = pure false := by rfl) : PS X (.Expr e pos) (tDrop te) := by
 intro pins s σ H D I h
 exact wpAny_Expr_any (thn (he pins s σ H _ I h) fun v s1 ⟨x, H1, I1, r1, q1⟩ => ⟨σ, H1, I1, q1⟩) I.quiet hs
def tRet (te : TE) : TS := fun D σ H => te σ H D.rt
theorem ps_ret (he : PE X e te) : PS X (.Return (some e) pos) (tRet te) := by
 intro pins s σ H D I h
 exact wpAny_Return_some (thn (he pins s σ H _ I h) fun v s1 ⟨x, H1, I1, r1, q1⟩ => ⟨x, σ, H1, I1, r1, q1⟩)
def tIfS (c : TT) (t u : TS) : TS := fun D σ H => c σ H fun b H1 => if b = true then t D σ H1 else u D σ H1
theorem ps_if {c : Expr} {a b : List Stmt} {tc : TT} (hc : PT X c tc) (ha : PSs X a t) (hb : PSs X b u) : PS X (.If c a b pos) (tIfS tc t u) := by
 intro pins s σ H D I h
 refine wpAny_If (thn (hc pins s σ H _ I h) fun d s1 ⟨H1, I1, q1⟩ => ?_)
 cases d with
 | true => exact ha pins s1 σ H1 D I1 q1
 | false => exact hb pins s1 σ H1 D I1 q1
def tNever : TS := fun _ _ _ => False
theorem ps_never : PS X st tNever := fun _ _ _ _ _ _ h => h.elim
end
abbrev TG := V -> St -> Hp -> (St -> Hp -> Prop) -> Prop
abbrev TGs := List V -> St -> Hp -> (St -> Hp -> Prop) -> Prop
def PG (X : Cx) (target : Expr) (t : TG) : Prop :=
 ∀ (pins : List (Addr × Obj)) (s : Shared) (σ : St) (H : Hp) (v : V) (u : Value) (Q : St -> Hp -> Prop), Inv X pins σ H s -> RelV v u -> t v σ H Q ->
  wpAny (model X.prog X.w) X.A (assign target X.env u) (fun _ s' => ∃ σ' H', Inv X pins σ' H' s' /\ Q σ' H') X.xe s
def PGs (X : Cx) (ts : List Expr) (t : TGs) : Prop :=
 ∀ (pins : List (Addr × Obj)) (s : Shared) (σ : St) (H : Hp) (vs : List V) (us : List Value) (Q : St -> Hp -> Prop), Inv X pins σ H s -> Vals vs us -> t vs σ H Q ->
  wpAny (model X.prog X.w) X.A (assignInOrder ((assignEach ts X.env).map (·.2)) us) (fun _ s' => ∃ σ' H', Inv X pins σ' H' s' /\ Q σ' H') X.xe s
abbrev TSet := V -> V -> V -> Hp -> (Hp -> Prop) -> Prop
def PSet (X : Cx) (t : TSet) : Prop :=
 ∀ (pins : List (Addr × Obj)) (s : Shared) (σ : St) (H : Hp) (o i v : V) (ov iv u : Value) (Q : Hp -> Prop), Inv X pins σ H s -> RelV o ov -> RelV i iv -> RelV v u -> t o i v H Q ->
  wpAny (model X.prog X.w) X.A (setItem ov iv u) (fun _ s' => ∃ H', Inv X pins σ H' s' /\ Q H') X.xe s
section
variable {X : Cx} {pos : Pos}
def gName (i : Nat) : TG := fun v σ H Q => Q (σ.set i (some v)) H
theorem pg_name {i : Nat} {x : Str} (hN : X.N.Nodup) (hi : X.N[i]? = some x) (hx : Loc X.env.scope x) (hf : X.fn x = true \/ X.env.scope.names.lookup x = some .local := by first | exact .inl rfl | exact .inr rfl | assumption) : PG X (.Name x pos) (gName i) := by
 intro pins s σ H v u Q I r h
 exact wpAny_assign_Name (store_ok I hN hi hx r (fun s' I' => ⟨_, H, I', h⟩) hf)
def gNil : TGs := fun vs σ H Q => vs = [] /\ Q σ H
def gCons (t : TG) (u : TGs) : TGs := fun vs σ H Q => ∃ v r, vs = v :: r /\ t v σ H fun σ' H' => u r σ' H' Q
theorem pgs_nil : PGs X [] gNil := by
 intro pins s σ H vs us Q I r h
 obtain ⟨e, h⟩ := h
 subst e
 cases r
 exact assignInOrder_nil ⟨σ, H, I, h⟩
theorem pgs_cons {e : Expr} {es : List Expr} {t : TG} {u : TGs} (h1 : PG X e t) (h2 : PGs X es u)
  (hs : (assignEach (e :: es) X.env).map (·.2) = assign e X.env :: (assignEach es X.env).map (·.2) := by rfl) : PGs X (e :: es) (gCons t u) := by
 intro pins s σ H vs us Q I r h
 obtain ⟨v, vr, e1, h⟩ := h
 subst e1
 cases r with
 | cons r rr =>
  rw [hs]
  refine assignInOrder_cons (thn (h1 pins s σ H _ _ _ I r h) fun _ s1 ⟨σ1, H1, I1, q1⟩ => ?_)
  exact h2 pins s1 σ1 H1 _ _ Q I1 rr q1
def gTup (K : PySem.W.Frag) (n : Nat) (t : TGs) : TG := fun v σ H Q => ∃ a xs, v = .ref a /\ SqT K H a xs /\ xs.length = n /\ t xs σ H Q
theorem pg_tup {es : List Expr} {k : Nat} {t : TGs} {n : Nat} (hc : X.calm = true) (h : PGs X es t)
  (hn : (assignEach es X.env).length = n := by rfl) (hst : (assignEach es X.env).findIdx? (·.1) = none := by rfl) : PG X (.Tuple es k pos) (gTup X.K n t) := by
 intro pins s σ H v u Q I r hw
 obtain ⟨a, xs, e1, hq, hl, hw⟩ := hw
 subst e1
 cases r
 obtain ⟨its, rv, ht, hz⟩ := I.tuple hq
 refine assign_Tuple_tuple (I.ok.hd hc) ht (by simp [hn, <- hl, rv.length]) hst fun h' hx => ?_
 have I1 : Inv X pins σ H { s with heap := h' } := I.kept (t' := s.toks) fun b o e => hx b o (Nat.ne_of_lt (Heap.lt_size e)) e
 exact h pins _ σ H xs _ Q I1 (by simpa using rv) hw
def gSub (to ti : TE) (t : TSet) : TG := fun v σ H Q => to σ H fun o H1 => ti σ H1 fun i H2 => t o i v H2 fun H3 => Q σ H3
theorem pg_sub {o i : Expr} {to ti : TE} {t : TSet} (ho : PE X o to) (hi : PE X i ti) (hs : PSet X t)
  (ha : ∀ v, assign (.Subscript o i pos) X.env v = (do
   let ov <- holding [v] (eval o X.env)
   let iv <- holding [v, ov] (eval i X.env)
   standAt pos
   holding [v, ov, iv] (setItem ov iv v)
   release [v, ov, iv] []) := by intro _; rfl) : PG X (.Subscript o i pos) (gSub to ti t) := by
 intro pins s σ H v u Q I r h
 rw [ha]
 refine wpAny_bind (wpAny_holding (thn (ho pins s σ H _ I h) fun ov s1 ⟨x, H1, I1, r1, q1⟩ => ?_))
 refine wpAny_bind (wpAny_holding (thn (hi pins s1 σ H1 _ I1 q1) fun iv s2 ⟨y, H2, I2, r2, q2⟩ => ?_))
 refine wpAny_bind (wpAny_standAt (wpAny_bind (wpAny_holding (thn (hs pins s2 σ H2 x y v ov iv u _ I2 r1 r2 r q2) fun _ s3 ⟨H3, I3, q3⟩ => ?_))))
 exact wpAny_release ⟨σ, H3, I3, q3⟩
def tAsg (te : TE) (g : TG) : TS := fun D σ H => te σ H fun x H1 => g x σ H1 D.nx
theorem ps_asg {tg e : Expr} {te : TE} {g : TG} (he : PE X e te) (hg : PG X tg g) (hs : swapsWithSole [tg] e pos.line X.env = pure false := by rfl) (hw : swappedStores [tg] e X.env = pure none := by rfl)
  (h1 : (assignEach [tg] X.env).map (·.2) = [assign tg X.env] := by rfl) : PS X (.Assign [tg] e pos) (tAsg te g) := by
 intro pins s σ H D I h
 refine wpAny_Assign_stores (thn (he pins s σ H _ I h) fun v s1 ⟨x, H1, I1, r1, q1⟩ => ?_) hs hw
 rw [h1]
 exact thn (hg pins s1 σ H1 x v _ I1 r1 q1) fun _ s2 q => q
theorem ps_set {i : Nat} {x : Str} {e : Expr} {te : TE} {pos' : Pos} (hN : X.N.Nodup) (hi : X.N[i]? = some x) (hx : Loc X.env.scope x) (he : PE X e te) (hs : swapsWith e (some (.Name x pos')) pos.line X.env = pure false := by rfl) (hf : X.fn x = true \/ X.env.scope.names.lookup x = some .local := by first | exact .inl rfl | exact .inr rfl | assumption) :
  PS X (.Assign [.Name x pos'] e pos) (tAsg te (gName i)) := by
 intro pins s σ H D I h
 refine wpAny_Assign_Name (thn (he pins s σ H _ I h) fun v s1 ⟨y, H1, I1, r1, q1⟩ => ?_) hs
 exact store_ok I1 hN hi hx r1 (fun s2 I2 => ⟨_, H1, I2, q1⟩) hf
def tPar (i j : Nat) (ta : TA) : TS := fun D σ H => ta σ H fun vs H1 => ∃ v w, vs = [v, w] /\ D.nx ((σ.set i (some v)).set j (some w)) H1
theorem ps_par {i j : Nat} {x y : Str} {a b : Expr} {ta : TA} {px py pt : Pos} {kt k2 pt2} (hc : X.calm = true) (hN : X.N.Nodup) (hi : X.N[i]? = some x) (hj : X.N[j]? = some y) (hij : i ≠ j)
  (hx : X.env.scope.names.lookup x = some .local) (hy : X.env.scope.names.lookup y = some .local) (ha : PA X [a, b] ta)
  (hw : swappedStores [.Tuple [.Name x px, .Name y py] kt pt] (.Tuple [a, b] k2 pt2) X.env = pure (some [x, y]))
  (hs : swapsWithSole [.Tuple [.Name x px, .Name y py] kt pt] (.Tuple [a, b] k2 pt2) pos.line X.env = pure false := by rfl) :
  PS X (.Assign [.Tuple [.Name x px, .Name y py] kt pt] (.Tuple [a, b] k2 pt2) pos) (tPar i j ta) := by
 intro pins s σ H D I h
 rw [exec_Assign_arm]
 refine wpAny_bind (wpAny_standAt ?_)
 rw [hs]
 refine wpAny_bind (wpAny_pure ?_)
 rw [if_neg (by decide)]
 refine wpAny_bind (Tuple_ (thn (ha _ pins s σ H _ I h) fun us s1 ⟨vs, H1, I1, r1, q1⟩ => ?_))
 obtain ⟨v, w, e1, q1⟩ := q1
 subst e1
 obtain ⟨u1, u2, rfl, rv, rw'⟩ : ∃ u1 u2, us = [u1, u2] /\ RelV v u1 /\ RelV w u2 := by
  cases r1 with
  | cons p q =>
   cases q with
   | cons p' q' =>
    cases q'
    exact ⟨_, _, rfl, p, p'⟩
 refine wpAny_newObj_type ?_ (by show 2 <= sizeLine; decide)
 have I2 : Inv X pins σ H1 { s1 with heap := s1.heap.push { cls := .type "tuple", data := .seq [u1, u2].toArray } } := I1.kept (t' := s1.toks) fun b o e => Heap.get?_push_of_some _ e
 rw [hw]
 refine wpAny_bind (wpAny_pure ?_)
 show wpAny (model X.prog X.w) X.A (do rule "assign.swapped-stores"; let items <- unpackItems (.ref s1.heap.objs.size) 2 none; assignInOrder [fun v => bindName X.env y v, fun v => bindName X.env x v] items.reverse; pure Flow.next) _ _ _
 refine wpAny_bind (wpAny_rule (wpAny_bind (unpackItems_tuple (items := #[u1, u2]) (I.ok.hd hc) (IsTup.new s1.heap _) fun h' hx' => ?_)))
 have I3 := I2.kept (h' := h') (t' := s1.toks) fun b o e => hx' b o (Nat.ne_of_lt (Heap.lt_size e)) e
 show wpAny _ _ (assignInOrder [fun v => bindName X.env y v, fun v => bindName X.env x v] [u2, u1] >>= fun _ => pure Flow.next) _ _ _
 refine wpAny_bind (assignInOrder_cons (wpAny_bindName (store_ok I3 hN hj (.inl hy) rw' (fun s2 I4 => ?_) (.inr hy))))
 refine assignInOrder_cons (wpAny_bindName (store_ok I4 hN hi (.inl hx) rv (fun s3 I5 => assignInOrder_nil (wpAny_pure ?_)) (.inr hx)))
 rw [List.set_comm _ _ (Ne.symm hij)] at I5
 exact ⟨_, H1, I5, q1⟩
end
section
variable {X : Cx} {pos : Pos}
def tWhile (c : TT) (tb : TS) : TS := fun D σ H => ∃ W : Nat -> St -> Hp -> Prop, (∃ m, W m σ H) /\ ∀ m σ H, W m σ H ->
 c σ H fun b H1 => if b = true then ∃ N : St -> Hp -> Prop, (∀ σ' H', N σ' H' -> ∃ m', m' < m /\ W m' σ' H') /\ tb { D with nx := N, ct := N, bk := D.nx } σ H1 else D.nx σ H1
theorem ps_while {c : Expr} {body : List Stmt} {tc : TT} {tb : TS} (hp : PassesOwn (model X.prog X.w) X.A X.env X.xe) (hc : PT X c tc) (hb : PSs X body tb) : PS X (.While c body [] pos) (tWhile tc tb) := by
 intro pins s σ H D I h
 obtain ⟨W, ⟨m0, w0⟩, turn⟩ := h
 refine wpAny_While (codeAny_whileLoop (fun n s' => ∃ σ' H', Inv X pins σ' H' s' /\ W n σ' H') ?_ m0 ⟨σ, H, I, w0⟩)
 rintro n s1 ⟨σ1, H1, I1, w1⟩
 refine wpAny_passesOwn hp (thn (hc pins s1 σ1 H1 _ I1 (turn n σ1 H1 w1)) fun b s2 ⟨H2, I2, q2⟩ => ?_)
 cases b with
 | true =>
  obtain ⟨N, hN, q2⟩ := q2
  rw [if_pos rfl]
  refine wpAny_passesOwn hp (thn (hb pins s2 σ1 H2 _ I2 q2) fun f s3 q3 => ?_)
  cases f with
  | next =>
   obtain ⟨σ3, H3, I3, n3⟩ := q3
   obtain ⟨m', hm, w3⟩ := hN σ3 H3 n3
   exact ⟨m', hm, σ3, H3, I3, w3⟩
  | cont =>
   obtain ⟨σ3, H3, I3, n3⟩ := q3
   obtain ⟨m', hm, w3⟩ := hN σ3 H3 n3
   exact ⟨m', hm, σ3, H3, I3, w3⟩
  | brk => exact q3
  | ret v => exact q3
 | false =>
  rw [if_neg Bool.false_ne_true]
  exact wpAny_execs_nil ⟨σ1, H2, I2, q2⟩
end
structure It where
 go : Nat -> Hp -> Prop
 yld : Nat -> Hp -> V -> Hp -> Prop
 stop : Nat -> Hp -> Prop
def FpOk (X : Cx) (pins : List (Addr × Obj)) (H : Hp) (b : Addr) : Prop :=
 H b = none /\ b ≠ X.env.locals /\ b ∉ X.fs /\ (b ∈ X.ex \/ X.s₀.heap.objs.size <= b) /\ (∀ x c, X.env.cells.lookup x = some c -> c ≠ b) /\ ∀ p ∈ X.pn ++ pins, p.1 ≠ b
theorem Inv.fpOk {X : Cx} {pins : List (Addr × Obj)} {σ : St} {H H' : Hp} {s : Shared} {b : Addr} (I : Inv X pins σ H s) (hb : s.heap.objs.size <= b) (hn : H' b = none) : FpOk X pins H' b := by
 refine ⟨hn, Nat.ne_of_gt (Nat.lt_of_lt_of_le I.lt hb), I.nofs hb, .inr (Nat.le_trans I.sz hb), fun x c e z => ?_, fun p hp z => ?_⟩
 ·obtain ⟨v, q⟩ := I.cell x c e
  exact absurd (Nat.lt_of_lt_of_le q.lt (by rw [z]; exact hb)) (Nat.lt_irrefl _)
 ·exact absurd (Nat.lt_of_lt_of_le (Heap.lt_size (I.pin p hp).1) (by rw [z]; exact hb)) (Nat.lt_irrefl _)
structure Turn (P : Program) (w : World) (K : PySem.W.Frag) (tg : Expr) (J : It) (fp : List Addr) (it : Addr) (tn : Nat -> Heap -> Prop) : Prop where
 mem : it ∈ fp
 obj : ∀ i h, tn i h -> ∀ b ∈ fp, ∃ o, h.get? b = some o /\ ∀ v, o.data ≠ .cell v
 keep : ∀ i h h', tn i h -> (∀ b ∈ fp, ∀ o, h.get? b = some o -> h'.get? b = some o) -> tn i h'
 item : ∀ (X : Cx), X.prog = P -> X.w = w -> X.K = K -> X.calm = true -> ∀ (i : Nat) (pins : List (Addr × Obj)) (s : Shared) (σ : St) (H : Hp) (E : Value -> Shared -> Prop), Inv X pins σ H s -> (∀ b ∈ fp, FpOk X pins H b) -> tn i s.heap -> J.go i H ->
  wpAny (model P w) X.A (pyNext (.ref it)) (fun r s1 => ∃ u, r = some u /\
   wpAny (model P w) X.A (letOwnedTupleGo tg (.ref it) u) (fun _ s2 => ∃ x H', Inv X pins σ H' s2 /\ RelV x u /\ J.yld i H x H' /\ tn (i + 1) s2.heap /\ ∀ b ∈ fp, H' b = none) E s1) E s
 done : ∀ (X : Cx), X.prog = P -> X.w = w -> X.K = K -> X.calm = true -> ∀ (i : Nat) (pins : List (Addr × Obj)) (s : Shared) (σ : St) (H : Hp) (E : Value -> Shared -> Prop), Inv X pins σ H s -> (∀ b ∈ fp, FpOk X pins H b) -> tn i s.heap -> J.stop i H ->
  wpAny (model P w) X.A (pyNext (.ref it)) (fun r s1 => r = none /\ Inv X pins σ H s1) E s
 self : ∀ (A : Around) (i : Nat) (s : Shared) (Q : Value -> Shared -> Prop) (E : Value -> Shared -> Prop), tn i s.heap -> Q (.ref it) s -> wpAny (model P w) A (pyIter (.ref it)) Q E s
abbrev TI := St -> Hp -> (It -> Hp -> Prop) -> Prop
def PIE (X : Cx) (pins : List (Addr × Obj)) (σ : St) (tg : Expr) (R : It -> Hp -> Prop) (itv : Value) (s2 : Shared) : Prop :=
 ∃ (it : Addr) (fp : List Addr) (tn : Nat -> Heap -> Prop) (J : It) (H' : Hp), itv = .ref it /\ Inv X pins σ H' s2 /\ Turn X.prog X.w X.K tg J fp it tn /\ tn 0 s2.heap /\ (∀ b ∈ fp, FpOk X pins H' b) /\ R J H'
def PI (X : Cx) (tg iter : Expr) (wi : TI) : Prop :=
 ∀ (pins : List (Addr × Obj)) (s : Shared) (σ : St) (H : Hp) (R : It -> Hp -> Prop), Inv X pins σ H s -> wi σ H R ->
  wpAny (model X.prog X.w) X.A (eval iter X.env) (fun v s1 => wpAny (model X.prog X.w) X.A (pyIter v) (PIE X pins σ tg R) X.xe s1) X.xe s
theorem go_of {M : Model} {A : Around} {E : Value -> Shared -> Prop} {s : Shared} {tg : Expr} {it : Addr} {u : Value} {o : Obj} {n : String} {vs : Array Value} {Q : Unit -> Shared -> Prop} (ho : s.heap.get? it = some o) (hc : o.cls = .type n) (hd : o.data = .fields vs)
    (hn : ["enumerate", "zip", "dict_itemiterator", "dict_reverseitemiterator", "odict_iterator", "itertools.zip_longest", "itertools.pairwise"].contains n = false) (hQ : Q () s) : wpAny M A (letOwnedTupleGo tg (.ref it) u) Q E s := by
  unfold letOwnedTupleGo
  cases tg <;> first
    | exact wpAny_pure hQ
    | (cases u <;> first
        | exact wpAny_pure hQ
        | (refine wpAny_bind (wpAny_load ho ?_)
           rw [hc, hd]
           show wpAny M A (if (["enumerate", "zip", "dict_itemiterator", "dict_reverseitemiterator", "odict_iterator", "itertools.zip_longest", "itertools.pairwise"].contains n && vs[0]? == some (rawInt _)) = true then _ else _) Q E s
           rw [if_neg (by intro h; rw [hn, Bool.false_and] at h; cases h)]
           exact wpAny_pure hQ))
def Itl (K : PySem.W.Frag) (a : Addr) : It :=
 ⟨fun i H => ∃ xs x, SqL K H a xs /\ xs[i]? = some x, fun i H x H' => H' = H /\ ∀ xs, SqL K H a xs -> xs[i]? = some x, fun i H => ∃ xs, SqL K H a xs /\ xs.length <= i⟩
def Itt (K : PySem.W.Frag) (a : Addr) : It :=
 ⟨fun i H => ∃ xs x, SqT K H a xs /\ xs[i]? = some x, fun i H x H' => H' = H /\ ∀ xs, SqT K H a xs -> xs[i]? = some x, fun i H => ∃ xs, SqT K H a xs /\ xs.length <= i⟩
def Itr (lo : Int) (n : Nat) : It := ⟨fun i _ => i < n, fun i H x H' => H' = H /\ x = .int (lo + i), fun i _ => n <= i⟩
theorem turn_list {P : Program} {w : World} {K : PySem.W.Frag} {tg : Expr} (a it : Addr) : Turn P w K tg (Itl K a) [it] it (fun i h => h.IsListIter it a i) where
 mem := by simp
 obj := fun i h st b hb => by
  have e : b = it := by simpa using hb
  subst e
  obtain ⟨o, e, c, d⟩ := st
  exact ⟨o, e, fun v z => by rw [d] at z; cases z⟩
 keep := fun i h h' st k => st.at fun o e => k it (by simp) o e
 item := by
  intro X hP hw hK hc i pins s σ H E I hf st hg
  subst hP hw hK
  obtain ⟨xs, x, hq, hx⟩ := hg
  obtain ⟨its, rv, p, hz⟩ := I.list hq
  obtain ⟨u, hu, ru⟩ := rv.get hx
  obtain ⟨f0, f1, f2, f3, f4, f5⟩ := hf it (by simp)
  refine wpAny_pyNext_list_item st p.isList (x := u) (by simpa using hu) fun h' st' sb => ?_
  have I1 : Inv X pins σ H { s with heap := h' } := I.turned (t' := s.toks) (fun b o hb e => (sb.2 b hb).trans e) f0 f1 f3 f4 f5
  obtain ⟨o, e, c, d⟩ := id st'
  exact ⟨u, rfl, go_of (s := { s with heap := h' }) e c d (by decide) ⟨x, H, I1, ru, ⟨rfl, fun ys hy => by rw [I.list_inj hy hq]; exact hx⟩, st', fun b hb => (hf b hb).1⟩⟩
 done := by
  intro X hP hw hK hc i pins s σ H E I hf st hg
  subst hP hw hK
  obtain ⟨xs, hq, hx⟩ := hg
  obtain ⟨its, rv, p, hz⟩ := I.list hq
  obtain ⟨f0, f1, f2, f3, f4, f5⟩ := hf it (by simp)
  have hl := rv.length
  exact wpAny_pyNext_list_end (I.ok.hd hc) st p.isList (by simp; omega) fun h' eb => ⟨rfl, I.turned (t' := s.toks) (fun b o hb e => eb b o hb e) f0 f1 f3 f4 f5⟩
 self := fun _ _ _ _ _ st h => wpAny_pyIter_listiter st h
theorem turn_tuple {P : Program} {w : World} {K : PySem.W.Frag} {tg : Expr} (a it : Addr) : Turn P w K tg (Itt K a) [it] it (fun i h => h.IsTupleIter it a i) where
 mem := by simp
 obj := fun i h st b hb => by
  have e : b = it := by simpa using hb
  subst e
  obtain ⟨o, e, c, d⟩ := st
  exact ⟨o, e, fun v z => by rw [d] at z; cases z⟩
 keep := fun i h h' st k => st.at fun o e => k it (by simp) o e
 item := by
  intro X hP hw hK hc i pins s σ H E I hf st hg
  subst hP hw hK
  obtain ⟨xs, x, hq, hx⟩ := hg
  obtain ⟨its, rv, p, hz⟩ := I.tuple hq
  obtain ⟨u, hu, ru⟩ := rv.get hx
  obtain ⟨f0, f1, f2, f3, f4, f5⟩ := hf it (by simp)
  refine wpAny_pyNext_tuple_item st (show s.heap.IsTuple a its.toArray from p) (x := u) (by simpa using hu) fun h' st' sb => ?_
  have I1 : Inv X pins σ H { s with heap := h' } := I.turned (t' := s.toks) (fun b o hb e => (sb.2 b hb).trans e) f0 f1 f3 f4 f5
  obtain ⟨o, e, c, d⟩ := id st'
  exact ⟨u, rfl, go_of (s := { s with heap := h' }) e c d (by decide) ⟨x, H, I1, ru, ⟨rfl, fun ys hy => by rw [I.tuple_inj hy hq]; exact hx⟩, st', fun b hb => (hf b hb).1⟩⟩
 done := by
  intro X hP hw hK hc i pins s σ H E I hf st hg
  subst hP hw hK
  obtain ⟨xs, hq, hx⟩ := hg
  obtain ⟨its, rv, p, hz⟩ := I.tuple hq
  obtain ⟨f0, f1, f2, f3, f4, f5⟩ := hf it (by simp)
  have hl := rv.length
  exact wpAny_pyNext_tuple_end (I.ok.hd hc) st (show s.heap.IsTuple a its.toArray from p) (by simp; omega) fun h' eb => ⟨rfl, I.turned (t' := s.toks) (fun b o hb e => eb b o hb e) f0 f1 f3 f4 f5⟩
 self := fun _ _ _ _ _ st h => wpAny_pyIter_tupleiter st h
theorem turn_range {P : Program} {w : World} {K : PySem.W.Frag} {tg : Expr} (it : Addr) (lo : Int) (n : Nat) : Turn P w K tg (Itr lo n) [it] it (fun i h => IsRangeIter h it (lo + (i : Nat) * 1) ((n : Int) - (i : Nat)) 1) where
 mem := by simp
 obj := fun i h st b hb => by
  have e : b = it := by simpa using hb
  subst e
  exact ⟨_, st, fun v z => by
   have z' : Data.fields _ = Data.cell v := z
   cases z'⟩
 keep := fun i h h' st k => k it (by simp) _ st
 item := by
  intro X hP hw hK hc i pins s σ H E I hf st hg
  subst hP hw hK
  obtain ⟨f0, f1, f2, f3, f4, f5⟩ := hf it (by simp)
  have W := Walks.range (prog := X.prog) (w := X.w) (I.ok.hd hc) it lo 1 n
  refine W.item i s _ _ hg st fun v h' tk hv st' kk => ?_
  obtain ⟨t, rfl⟩ := hv
  have I1 : Inv X pins σ H { s with heap := h', toks := tk } := I.turned (fun b o hb e => kk b o (by simpa using hb) e) f0 f1 f3 f4 f5
  refine ⟨_, rfl, go_of (s := { s with heap := h', toks := tk }) (n := "range_iterator") st' rfl rfl (by decide) ⟨.int (lo + i), H, I1, ⟨t, ?_⟩, ⟨rfl, rfl⟩, st', fun b hb => (hf b hb).1⟩⟩
  rw [Int.mul_one]
 done := by
  intro X hP hw hK hc i pins s σ H E I hf st hg
  subst hP hw hK
  obtain ⟨f0, f1, f2, f3, f4, f5⟩ := hf it (by simp)
  exact wpAny_pyNext_range_end (I.ok.hd hc) st (by have : n <= i := hg; omega) fun h' eb => ⟨rfl, I.turned (t' := s.toks) (fun b o hb e => eb b o hb e) f0 f1 f3 f4 f5⟩
 self := fun _ _ _ _ _ st h => wpAny_pyIter_rangeiter st h
end L2
namespace L2
open PySem PySem.Spec PyProof.Rows
section
variable {X : Cx} {tg : Expr}
def iList (K : PySem.W.Frag) (tl : TE) : TI := fun σ H R => tl σ H fun x H1 => ∃ a, x = .ref a /\ (∃ xs, SqL K H1 a xs) /\ R (Itl K a) H1
def iTup (K : PySem.W.Frag) (tl : TE) : TI := fun σ H R => tl σ H fun x H1 => ∃ a, x = .ref a /\ (∃ xs, SqT K H1 a xs) /\ R (Itt K a) H1
theorem pi_list {l : Expr} {tl : TE} (hl : PE X l tl) : PI X tg l (iList X.K tl) := by
 intro pins s σ H R I h
 refine thn (hl pins s σ H _ I h) fun v s1 ⟨x, H1, I1, r1, q1⟩ => ?_
 obtain ⟨a, e, ⟨xs, hq⟩, q⟩ := q1
 subst e
 cases r1
 obtain ⟨its, rv, p, hz⟩ := I1.list hq
 refine wpAny_pyIter_list p.isList ?_
 refine ⟨s1.heap.objs.size, [s1.heap.objs.size], _, _, H1, rfl, I1.kept (t' := s1.toks) fun b o e => Heap.get?_push_of_some _ e, turn_list a _, ⟨_, Heap.get?_push_size _ rfl, rfl, rfl⟩, fun b hb => ?_, q⟩
 have e : b = s1.heap.objs.size := by simpa using hb
 subst e
 exact I1.fpOk (Nat.le_refl _) (I1.hok.fresh (Nat.le_refl _))
theorem pi_tup {l : Expr} {tl : TE} (hl : PE X l tl) : PI X tg l (iTup X.K tl) := by
 intro pins s σ H R I h
 refine thn (hl pins s σ H _ I h) fun v s1 ⟨x, H1, I1, r1, q1⟩ => ?_
 obtain ⟨a, e, ⟨xs, hq⟩, q⟩ := q1
 subst e
 cases r1
 obtain ⟨its, rv, p, hz⟩ := I1.tuple hq
 refine wpAny_pyIter_tuple (show s1.heap.IsTuple a its.toArray from p) ?_
 refine ⟨s1.heap.objs.size, [s1.heap.objs.size], _, _, H1, rfl, I1.kept (t' := s1.toks) fun b o e => Heap.get?_push_of_some _ e, turn_tuple a _, ⟨_, Heap.get?_push_size _ rfl, rfl, rfl⟩, fun b hb => ?_, q⟩
 have e : b = s1.heap.objs.size := by simpa using hb
 subst e
 exact I1.fpOk (Nat.le_refl _) (I1.hok.fresh (Nat.le_refl _))
theorem range_it {pins : List (Addr × Obj)} {σ : St} {H : Hp} {s : Shared} {R : It -> Hp -> Prop} {E : Value -> Shared -> Prop} {lo hi : Int} {t u v : Tok} {tk : Nat} (I : Inv X pins σ H s) (h1 : -(2 ^ 62) <= lo) (h2 : lo < 2 ^ 62) (h3 : -(2 ^ 62) <= hi) (h4 : hi < 2 ^ 62)
  (q : R (Itr lo (hi - lo).toNat) H) : wpAny (model X.prog X.w) X.A (pyIter (.ref s.heap.objs.size)) (PIE X pins σ tg R) E { s with heap := s.heap.push { cls := .type "range", data := .fields #[.int lo t, .int hi u, .int 1 v] }, toks := tk } := by
 refine wpAny_pyIter_range (IsRange.new ..) (small_one h1 h2 h3 h4) ?_
 have I1 : Inv X pins σ H { s with heap := s.heap.push { cls := .type "range", data := .fields #[.int lo t, .int hi u, .int 1 v] }, toks := tk } := I.kept fun b o e => Heap.get?_push_of_some _ e
 refine ⟨(s.heap.push { cls := .type "range", data := .fields #[.int lo t, .int hi u, .int 1 v] }).objs.size, [(s.heap.push { cls := .type "range", data := .fields #[.int lo t, .int hi u, .int 1 v] }).objs.size], _, _, H, rfl,
  I1.kept (t' := tk) fun b o e => Heap.get?_push_of_some _ e, turn_range _ lo (hi - lo).toNat, ?_, fun b hb => ?_, q⟩
 ·have e1 : lo + ((0 : Nat) : Int) * 1 = lo := by simp
  have e2 : (((hi - lo).toNat : Nat) : Int) - ((0 : Nat) : Int) = Builtin.Range.rangeSize lo hi 1 := by rw [rangeSize_one]; split <;> omega
  show IsRangeIter _ _ (lo + ((0 : Nat) : Int) * 1) ((((hi - lo).toNat : Nat) : Int) - ((0 : Nat) : Int)) 1
  rw [e1, e2]
  exact Heap.get?_push_size _ rfl
 ·have e : b = (s.heap.push { cls := .type "range", data := .fields #[.int lo t, .int hi u, .int 1 v] }).objs.size := by simpa using hb
  subst e
  exact I1.fpOk (Nat.le_refl _) (I1.hok.fresh (Nat.le_refl _))
def iRng1 (ta : TA) : TI := fun σ H R => ta σ H fun vs H1 => ∃ j : Int, vs = [.int j] /\ -(2 ^ 62) <= j /\ j < 2 ^ 62 /\ R (Itr 0 j.toNat) H1
theorem pi_range1 {a : Expr} {ta : TA} {p pos : Pos} (hg : Gl X "range") (hm : X.mg "range" = none) (ha : PA X [a] ta) (hs : starEach [a] X.env = [(false, eval a X.env)] := by rfl) : PI X tg (.Call (.Name "range" p) [a] [] pos) (iRng1 ta) := by
 intro pins s σ H R I h
 refine Call_ (ld_blt I hg hm boot_range (PyProof.Rows.callWith_type1 (thn (ha pos pins s σ H _ I h) fun us s1 ⟨vs, H1, I1, r1, q1⟩ => ?_) hs rfl))
 obtain ⟨j, e, q1, q2, q⟩ := q1
 subst e
 cases r1 with
 | cons r rr =>
  cases rr
  obtain ⟨t, rfl⟩ := r
  exact call_range_1 (range_it I1 (by omega) (by omega) q1 q2 (by simpa using q))
def tFor (wi : TI) (g : TG) (tb : TS) : TS := fun D σ H => wi σ H fun J H1 => ∃ W : Nat -> Nat -> St -> Hp -> Prop, (∃ m, W 0 m σ H1) /\ ∀ i m σ H, W i m σ H ->
 (J.stop i H /\ D.nx σ H) \/ (J.go i H /\ ∃ N : St -> Hp -> Prop, (∀ σ' H', N σ' H' -> ∃ m', m' < m /\ W (i + 1) m' σ' H') /\ ∀ x H', J.yld i H x H' -> g x σ H' fun σ2 H2 => tb { D with nx := N, ct := N, bk := D.nx } σ2 H2)
def pinsAt (fp : List Addr) (h : Heap) : List (Addr × Obj) := fp.filterMap fun b => (h.get? b).map fun o => (b, o)
theorem mem_pinsAt {fp : List Addr} {h : Heap} {b : Addr} {o : Obj} (hb : b ∈ fp) (e : h.get? b = some o) : (b, o) ∈ pinsAt fp h := List.mem_filterMap.mpr ⟨b, hb, by rw [e]; rfl⟩
theorem of_pinsAt {fp : List Addr} {h : Heap} {p : Addr × Obj} (hp : p ∈ pinsAt fp h) : p.1 ∈ fp /\ h.get? p.1 = some p.2 := by
 obtain ⟨b, hb, e⟩ := List.mem_filterMap.mp hp
 cases q : h.get? b with
 | none => rw [q] at e; cases e
 | some o =>
  rw [q] at e
  have e' : (b, o) = p := Option.some.inj e
  subst e'
  exact ⟨hb, q⟩
theorem Inv.pinned {pins : List (Addr × Obj)} {σ : St} {H : Hp} {s : Shared} {fp : List Addr} (I : Inv X pins σ H s) (hf : ∀ b ∈ fp, FpOk X pins H b) (ho : ∀ b ∈ fp, ∃ o, s.heap.get? b = some o /\ ∀ v, o.data ≠ .cell v) : Inv X (pins ++ pinsAt fp s.heap) σ H s :=
 I.pins_of fun p hp => (List.mem_append.mp hp).elim (fun z => I.pin p (List.mem_append_right _ z)) fun z => by
  obtain ⟨hb, e⟩ := of_pinsAt z
  obtain ⟨f0, f1, f2, _⟩ := hf p.1 hb
  obtain ⟨o, e', d⟩ := ho p.1 hb
  rw [e] at e'; cases e'
  exact ⟨e, f0, f1, f2, d⟩
theorem Inv.unpinned {pins pl : List (Addr × Obj)} {σ : St} {H : Hp} {s : Shared} (I : Inv X (pins ++ pl) σ H s) : Inv X pins σ H s := I.pins_of fun p hp => I.pin p (List.mem_append_right _ (List.mem_append_left _ hp))
theorem ps_for {iter : Expr} {body : List Stmt} {wi : TI} {g : TG} {tb : TS} {pos : Pos} (hp : PassesOwn (model X.prog X.w) X.A X.env X.xe) (hc : X.calm = true) (hi : PI X tg iter wi) (hg : PG X tg g) (hb : PSs X body tb)
  (hs : ∀ x, foldedSetIterable iter X.env x = pure x := by intro _; rfl) : PS X (.For tg iter body [] pos) (tFor wi g tb) := by
 intro pins s σ H D I h
 refine wpAny_For (thn (hi pins s σ H _ I h) fun v s1 h1 => thn h1 fun itv s2 h2 => ?_) hs
 obtain ⟨it, fp, tn, J, H2, e, I2, T, st2, f2, W, ⟨m0, w0⟩, turn⟩ := h2
 subst e
 -- what stays true of the iterator's objects through the loop
 have stat : ∀ {H' : Hp}, (∀ b ∈ fp, H' b = none) -> ∀ b ∈ fp, FpOk X pins H' b := fun hn b hb => ⟨hn b hb, (f2 b hb).2⟩
 refine codeAny_forLoop_any (fun n s' => ∃ i σ' H', Inv X pins σ' H' s' /\ tn i s'.heap /\ (∀ b ∈ fp, H' b = none) /\ W i n σ' H') ?_ m0 ⟨0, σ, H2, I2, st2, fun b hb => (f2 b hb).1, w0⟩
 rintro n s3 ⟨i, σ3, H3, I3, st3, fr3, w3⟩
 rcases turn i n σ3 H3 w3 with ⟨stop, qn⟩ | ⟨go, N, hN, step⟩
 ·refine wpAny_passesOwn hp (thn (T.done X rfl rfl rfl hc i pins s3 σ3 H3 X.xe I3 (stat fr3) st3 stop) fun r s4 ⟨hr, I4⟩ => ?_)
  subst hr
  exact wpAny_execs_nil ⟨σ3, H3, I4, qn⟩
 ·refine wpAny_passesOwn hp (thn (T.item X rfl rfl rfl hc i pins s3 σ3 H3 X.xe I3 (stat fr3) st3 go) fun r s4 ⟨u, hr, h4⟩ => ?_)
  subst hr
  refine wpAny_passesOwn hp (thn h4 fun _ s5 ⟨x, H5, I5, r5, y5, st5, fr5⟩ => ?_)
  have I5' := I5.pinned (stat fr5) (T.obj _ _ st5)
  refine wpAny_passesOwn hp (thn (hg _ s5 σ3 H5 x u _ I5' r5 (step x H5 y5)) fun _ s6 ⟨σ6, H6, I6, q6⟩ => ?_)
  refine wpAny_passesOwn hp (thn (hb _ s6 σ6 H6 _ I6 q6) fun f s7 q7 => ?_)
  have again : ∀ {σ7 : St} {H7 : Hp}, Inv X (pins ++ pinsAt fp s5.heap) σ7 H7 s7 -> N σ7 H7 -> ∃ m, m < n /\ ∃ i σ' H', Inv X pins σ' H' s7 /\ tn i s7.heap /\ (∀ b ∈ fp, H' b = none) /\ W i m σ' H' := fun {σ7 H7} I7 n7 => by
   obtain ⟨m', hm, w7⟩ := hN σ7 H7 n7
   refine ⟨m', hm, i + 1, σ7, H7, I7.unpinned, T.keep _ _ _ st5 fun b hb o e => (I7.pin (b, o) (List.mem_append_right _ (List.mem_append_right _ (mem_pinsAt hb e)))).1, fun b hb => ?_, w7⟩
   obtain ⟨o, e, d⟩ := T.obj _ _ st5 b hb
   exact (I7.pin (b, o) (List.mem_append_right _ (List.mem_append_right _ (mem_pinsAt hb e)))).2.1
  cases f with
  | next => obtain ⟨σ7, H7, I7, n7⟩ := q7; exact again I7 n7
  | cont => obtain ⟨σ7, H7, I7, n7⟩ := q7; exact again I7 n7
  | brk => obtain ⟨σ7, H7, I7, q7⟩ := q7; exact ⟨σ7, H7, I7.unpinned, q7⟩
  | ret v => obtain ⟨x7, σ7, H7, I7, r7, q7⟩ := q7; exact ⟨x7, σ7, H7, I7.unpinned, r7, q7⟩
end
end L2
namespace L2
open PySem PySem.Spec PyProof.Rows
abbrev R2 := V -> V -> Hp -> VK -> Prop
def OpR (X : Cx) (f : Value -> Value -> Sem Value) (r : R2) : Prop :=
 ∀ (pins : List (Addr × Obj)) (s : Shared) (σ : St) (H : Hp) (x y : V) (v u : Value) (Q : VK), Inv X pins σ H s -> RelV x v -> RelV y u -> r x y H Q ->
  wpAny (model X.prog X.w) X.A (f v u) (EP X pins σ Q) X.xe s
def UnR (X : Cx) (f : Value -> Sem Value) (r : V -> Hp -> VK -> Prop) : Prop :=
 ∀ (pins : List (Addr × Obj)) (s : Shared) (σ : St) (H : Hp) (x : V) (v : Value) (Q : VK), Inv X pins σ H s -> RelV x v -> r x H Q ->
  wpAny (model X.prog X.w) X.A (f v) (EP X pins σ Q) X.xe s
def CallR (X : Cx) (f : Value) (r : List V -> Hp -> VK -> Prop) : Prop :=
 ∀ (pins : List (Addr × Obj)) (s : Shared) (σ : St) (H : Hp) (xs : List V) (us : List Value) (Q : VK), Inv X pins σ H s -> Vals xs us -> r xs H Q ->
  wpAny (model X.prog X.w) X.A (call f us) (EP X pins σ Q) X.xe s
def tOp (r : R2) (ta tb : TE) : TE := fun σ H Q => ta σ H fun x H1 => tb σ H1 fun y H2 => r x y H2 Q
def tUn (r : V -> Hp -> VK -> Prop) (ta : TE) : TE := fun σ H Q => ta σ H fun x H1 => r x H1 Q
def rI (C : Int -> Int -> Prop) (g : Int -> Int -> V) : R2 := fun x y H Q => ∃ i j, x = .int i /\ y = .int j /\ C i j /\ Q (g i j) H
def rI0 (g : Int -> Int -> V) : R2 := fun x y H Q => ∃ i j, x = .int i /\ y = .int j /\ Q (g i j) H
def rU (g : Int -> V) : V -> Hp -> VK -> Prop := fun x H Q => ∃ i, x = .int i /\ Q (g i) H
section
variable {X : Cx} {a b c : Expr} {ta tb tc : TE} {pos : Pos}
theorem binT (ha : PE X a ta) (hb : PE X b tb) {pins : List (Addr × Obj)} {s : Shared} {σ : St} {H : Hp} {R : V -> V -> Hp -> Prop} (I : Inv X pins σ H s)
  (h : ta σ H fun x H1 => tb σ H1 fun y H2 => R x y H2) {Q : Value -> Shared -> Prop} {f : Value -> Value -> Sem Value}
  (hf : ∀ v u s2 x y H2, Inv X pins σ H2 s2 -> RelV x v -> RelV y u -> R x y H2 -> wpAny (model X.prog X.w) X.A (f v u) Q X.xe s2) :
  wpAny (model X.prog X.w) X.A (eval a X.env) (fun v s₁ => wpAny (model X.prog X.w) X.A (eval b X.env) (fun u s₂ => wpAny (model X.prog X.w) X.A (f v u) Q X.xe s₂) X.xe s₁) X.xe s := by
 refine thn (ha pins s σ H _ I h) fun v s1 ⟨x, H1, I1, r1, q1⟩ => ?_
 refine thn (hb pins s1 σ H1 _ I1 q1) fun u s2 ⟨y, H2, I2, r2, q2⟩ => ?_
 exact hf v u s2 x y H2 I2 r1 r2 q2
theorem pe_op {op : Operator} {r : R2} (ho : OpR X (binaryOp op) r) (ha : PE X a ta) (hb : PE X b tb) : PE X (.BinOp a op b pos) (tOp r ta tb) := by
 intro pins s σ H Q I h
 exact wpAny_BinOp (binT ha hb I h fun v u s2 x y H2 I2 rx ry q => ho pins s2 σ H2 x y v u Q I2 rx ry q)
theorem pe_un {op : UnaryOp} {r : V -> Hp -> VK -> Prop} (ho : UnR X (unaryOp op) r) (ha : PE X a ta) : PE X (.UnaryOp op a pos) (tUn r ta) := by
 intro pins s σ H Q I h
 exact UnaryOp_ (thn (ha pins s σ H _ I h) fun v s1 ⟨x, H1, I1, r1, q1⟩ => ho pins s1 σ H1 x v Q I1 r1 q1)
theorem opI {f : Value -> Value -> Sem Value} {C : Int -> Int -> Prop} {g : Int -> Int -> Int}
  (rule : ∀ (i j : Int) (t u : Tok) (s : Shared) (Q : Value -> Shared -> Prop) (E : Value -> Shared -> Prop), C i j -> Q (.int (g i j) s.toks) { s with toks := s.toks + 1 } -> wpAny (model X.prog X.w) X.A (f (.int i t) (.int j u)) Q E s) :
  OpR X f (rI C fun i j => .int (g i j)) := by
 intro pins s σ H x y v u Q I rx ry h
 obtain ⟨i, j, rfl, rfl, hc, q⟩ := h
 obtain ⟨t, rfl⟩ := rx
 obtain ⟨t', rfl⟩ := ry
 exact rule i j t t' s _ _ hc ⟨.int (g i j), H, I.tok _, ⟨_, rfl⟩, q⟩
theorem opI0 {f : Value -> Value -> Sem Value} {g : Int -> Int -> Int}
  (rule : ∀ (i j : Int) (t u : Tok) (s : Shared) (Q : Value -> Shared -> Prop) (E : Value -> Shared -> Prop), Q (.int (g i j) s.toks) { s with toks := s.toks + 1 } -> wpAny (model X.prog X.w) X.A (f (.int i t) (.int j u)) Q E s) :
  OpR X f (rI0 fun i j => .int (g i j)) := by
 intro pins s σ H x y v u Q I rx ry h
 obtain ⟨i, j, rfl, rfl, q⟩ := h
 obtain ⟨t, rfl⟩ := rx
 obtain ⟨t', rfl⟩ := ry
 exact rule i j t t' s _ _ ⟨.int (g i j), H, I.tok _, ⟨_, rfl⟩, q⟩
theorem opB0 {f : Value -> Value -> Sem Value} {g : Int -> Int -> Bool}
  (rule : ∀ (i j : Int) (t u : Tok) (s : Shared) (Q : Value -> Shared -> Prop) (E : Value -> Shared -> Prop), Q (.bool (g i j)) s -> wpAny (model X.prog X.w) X.A (f (.int i t) (.int j u)) Q E s) :
  OpR X f (rI0 fun i j => .bl (g i j)) := by
 intro pins s σ H x y v u Q I rx ry h
 obtain ⟨i, j, rfl, rfl, q⟩ := h
 obtain ⟨t, rfl⟩ := rx
 obtain ⟨t', rfl⟩ := ry
 exact rule i j t t' s _ _ ⟨.bl (g i j), H, I, rfl, q⟩
def CPow (i j : Int) : Prop := 0 <= j /\ j <= 1000000 /\ i.natAbs < 2 ^ 64
def CMul (i j : Int) : Prop := (-(2 ^ 64) < i /\ i < 2 ^ 64) \/ (-(2 ^ 64) < j /\ j < 2 ^ 64)
theorem CMul.ok {i j : Int} (h : CMul i j) : IntMulOk i j := by
 rcases h with ⟨h1, h2⟩ | ⟨h1, h2⟩
 ·exact .of_left (intBits_le_64 h1 h2)
 ·exact .of_right (intBits_le_64 h1 h2)
theorem op_add : OpR X (binaryOp .Add) (rI0 fun i j => .int (i + j)) := opI0 fun _ _ _ _ _ _ _ q => add_int q
theorem op_sub : OpR X (binaryOp .Sub) (rI0 fun i j => .int (i - j)) := opI0 fun _ _ _ _ _ _ _ q => sub_int q
theorem op_mod : OpR X (binaryOp .Mod) (rI (fun _ j => 0 < j) fun i j => .int (i % j)) := opI fun i j _ _ _ _ _ hc q => by
 have h1 : (0 : Int) < j := hc
 exact mod_int' (by omega) (by rw [Int.fmod_eq_emod_of_nonneg i (by omega)]; exact q)
theorem op_pow : OpR X (binaryOp .Pow) (rI CPow fun i j => .int (i ^ j.toNat)) := opI fun _ _ _ _ _ _ _ hc q => pow_int_small hc.1 hc.2.1 hc.2.2 q
theorem unI {f : Value -> Sem Value} {g : Int -> Int}
  (rule : ∀ (i : Int) (t : Tok) (s : Shared) (Q : Value -> Shared -> Prop) (E : Value -> Shared -> Prop), Q (.int (g i) s.toks) { s with toks := s.toks + 1 } -> wpAny (model X.prog X.w) X.A (f (.int i t)) Q E s) :
  UnR X f (rU fun i => .int (g i)) := by
 intro pins s σ H x v Q I rx h
 obtain ⟨i, rfl, q⟩ := h
 obtain ⟨t, rfl⟩ := rx
 exact rule i t s _ _ ⟨.int (g i), H, I.tok _, ⟨_, rfl⟩, q⟩
theorem un_neg : UnR X (unaryOp .USub) (rU fun i => .int (-i)) := unI fun _ _ _ _ _ q => neg_int q
end
section
variable {X : Cx} {a b c : Expr} {ta tb tc : TE} {pos : Pos}
theorem fin_bl {pins : List (Addr × Obj)} {σ : St} {H : Hp} {s : Shared} {Q : VK} {k k' : Bool} (I : Inv X pins σ H s) (q : Q (.bl k) H) (e : k = k') : EP X pins σ Q (.bool k') s := by
 subst e
 exact ⟨.bl k, H, I, rfl, q⟩
theorem op_lt : OpR X (compareOp .Lt) (rI0 fun i j => .bl (decide (i < j))) := opB0 fun _ _ _ _ _ _ _ q => lt_int q
theorem op_gt : OpR X (compareOp .Gt) (rI0 fun i j => .bl (decide (j < i))) := opB0 fun _ _ _ _ _ _ _ q => gt_int q
theorem op_ge : OpR X (compareOp .GtE) (rI0 fun i j => .bl (decide (j <= i))) := opB0 fun _ _ _ _ _ _ _ q => ge_int q
theorem op_isN : OpR X (compareOp .Is) (fun x y H Q => y = .non /\ Q (.bl (decide (x = .non))) H) := by
 intro pins s σ H x y v u Q I rx ry h
 obtain ⟨rfl, q⟩ := h
 cases ry
 refine is_none_gen (fin_bl I q ?_)
 cases x <;> first
  | (cases rx; rfl)
  | (obtain ⟨t, rfl⟩ := rx; rfl)
theorem op_notN : OpR X (compareOp .IsNot) (fun x y H Q => y = .non /\ Q (.bl (!decide (x = .non))) H) := by
 intro pins s σ H x y v u Q I rx ry h
 obtain ⟨rfl, q⟩ := h
 cases ry
 refine isnot_none_gen (fin_bl I q ?_)
 cases x <;> first
  | (cases rx; rfl)
  | (obtain ⟨t, rfl⟩ := rx; rfl)
theorem nomark (b : Expr) {op : CmpOp} (h : op ≠ .In := by decide) (h2 : op ≠ .NotIn := by decide) : behindInMarks op b = false := by
 have e1 : (op == CmpOp.In) = false := by cases op <;> first | rfl | exact absurd rfl h
 have e2 : (op == CmpOp.NotIn) = false := by cases op <;> first | rfl | exact absurd rfl h2
 cases b <;> simp [behindInMarks, e1, e2]
theorem pe_cmpR {op : CmpOp} {r : R2} (ho : OpR X (compareOp op) r) (ha : PE X a ta) (hb : PE X b tb) (hm : behindInMarks op b = false) : PE X (.Compare a [op] [b] pos) (tOp r ta tb) := by
 intro pins s σ H Q I h
 exact wpAny_Compare1 (binT ha hb I h fun v u s2 x y H2 I2 rx ry q => ho pins s2 σ H2 x y v u Q I2 rx ry q) hm
def tTest (t : TE) : TT := fun σ H Q => t σ H fun x H' => ∃ k, x = .bl k /\ Q k H'
theorem pt_cmpR {op : CmpOp} {r : R2} (ho : OpR X (compareOp op) r) (ha : PE X a ta) (hb : PE X b tb) (hm : behindInMarks op b = false) : PT X (.Compare a [op] [b] pos) (tTest (tOp r ta tb)) := by
 intro pins s σ H Q I h
 refine wpAny_isTrue_Compare1 (thn (ha pins s σ H _ I h) fun v s1 ⟨x, H1, I1, r1, q1⟩ => thn (hb pins s1 σ H1 _ I1 q1) fun u s2 ⟨y, H2, I2, r2, q2⟩ =>
  thn (ho pins s2 σ H2 x y v u _ I2 r1 r2 q2) fun c s3 ⟨z, H3, I3, r3, k, e, q3⟩ => ?_) hm
 subst e
 cases r3
 exact wpAny_truthy_bool ⟨H3, I3, q3⟩
theorem line63 : (sizeLine : Nat) < 2 ^ 63 := by rw [sizeLine_eq]; decide
theorem op_add_str : OpR X (binaryOp .Add) (fun x y H Q => ∃ i j, x = .str i /\ y = .str j /\ i.length + j.length <= sizeLine /\ Q (.str (i ++ j)) H) := by
 intro pins s σ H x y v u Q I rx ry h
 obtain ⟨i, j, rfl, rfl, hz, q⟩ := h
 obtain ⟨t, rfl⟩ := rx
 obtain ⟨t', rfl⟩ := ry
 exact add_str (fun t' tk => ⟨.str (i ++ j), H, I.tok _, ⟨_, rfl⟩, q⟩) hz
theorem vals1 {x : V} {us : List Value} (r : Vals [x] us) : ∃ u, us = [u] /\ RelV x u := by
 cases r with
 | cons r1 r2 => cases r2; exact ⟨_, rfl, r1⟩
theorem vals2 {x y : V} {us : List Value} (r : Vals [x, y] us) : ∃ u w', us = [u, w'] /\ RelV x u /\ RelV y w' := by
 cases r with
 | cons r1 r2 =>
  cases r2 with
  | cons r3 r4 => cases r4; exact ⟨_, _, rfl, r1, r3⟩
theorem call_abs : CallR X (.builtin "abs") (fun xs H Q => ∃ i, xs = [.int i] /\ Q (.int (if i < 0 then -i else i)) H) := by
 intro pins s σ H xs us Q I r h
 obtain ⟨i, rfl, q⟩ := h
 obtain ⟨u, rfl, t, rfl⟩ := vals1 r
 exact call_abs_int fun u tk => ⟨.int (if i < 0 then -i else i), H, I.tok _, ⟨_, rfl⟩, q⟩
def LenV (K : PySem.W.Frag) (x : V) (H : Hp) (n : Nat) : Prop :=
 match x with
 | .str y => y.length <= sizeLine /\ n = y.length
 | .byt y => y.size <= sizeLine /\ n = y.size
 | .ref p => (∃ xs, SqL K H p xs /\ n = xs.length) \/ ∃ xs, SqT K H p xs /\ n = xs.length
 | _ => False
theorem call_len : CallR X (.builtin "len") (fun xs H Q => ∃ x n, xs = [x] /\ LenV X.K x H n /\ Q (.int n) H) := by
 intro pins s σ H xs us Q I r h
 obtain ⟨x, n, rfl, e, q⟩ := h
 obtain ⟨u, rfl, rx⟩ := vals1 r
 have hl := line63
 have hs : sizeLine = 16777216 := sizeLine_eq
 cases x with
 | str y =>
  obtain ⟨t, rfl⟩ := rx
  obtain ⟨hy, e'⟩ : y.length <= sizeLine /\ n = y.length := e
  subst e'
  exact len_str (by omega) ⟨.int _, H, I.tok _, ⟨_, rfl⟩, q⟩
 | byt y =>
  obtain ⟨t, rfl⟩ := rx
  obtain ⟨hy, e'⟩ : y.size <= sizeLine /\ n = y.size := e
  subst e'
  exact PySem.W.len_bytes (by omega) ⟨.int _, H, I.tok _, ⟨_, rfl⟩, q⟩
 | ref p =>
  cases rx
  have e' : (∃ xs, SqL X.K H p xs /\ n = xs.length) \/ ∃ xs, SqT X.K H p xs /\ n = xs.length := e
  rcases e' with ⟨xs, hx, e'⟩ | ⟨xs, hx, e'⟩
  ·subst e'
   obtain ⟨its, r', pl, hz⟩ := I.list hx
   have hlen := r'.length
   exact Calls.call_len_list pl.isList (by simp only [List.size_toArray]; omega) ⟨.int xs.length, H, I.tok _, ⟨_, by simp only [List.size_toArray]; rw [hlen]⟩, q⟩
  ·subst e'
   obtain ⟨its, r', pl, hz⟩ := I.tuple hx
   have hlen := r'.length
   exact len_tuple pl (by simp only [List.size_toArray]; omega) ⟨.int xs.length, H, I.tok _, ⟨_, by simp only [List.size_toArray]; rw [hlen]⟩, q⟩
 | _ => exact (show False from e).elim
end
end L2
namespace L2
open PySem PySem.Spec PyProof.Rows
structure ObjM (h : Heap) (x dx C : Addr) (mA : Str -> Option Value) : Prop where
 obj : h.get? x = some (PySem.W.instObj C dx)
 ns : h.Ns1 dx mA
 ne : dx ≠ x
theorem lookIn_ns {h : Heap} {dx : Addr} {mA : Str -> Option Value} (n : h.Ns1 dx mA) : ∃ od, h.get? dx = some od /\ ∀ name, PySem.W.lookIn name od = some (mA name) := by
 obtain ⟨o, es, ep, ho, hd, hk, _, hm⟩ := n
 refine ⟨o, ho, fun name => ?_⟩
 have e := hm name
 unfold nsFind findBy at e
 rw [<- Array.find?_toList] at e
 unfold PySem.W.lookIn
 rw [hd]
 dsimp only
 split
 ·rename_i y q
  rw [q] at e
  exact congrArg some e
 ·rename_i q
  rw [q] at e
  have a : es.toList.any (·.refKey) = false := by
   rw [List.any_eq_false]
   intro y hy
   obtain ⟨z, t, hkey⟩ := hk y (Array.mem_toList_iff.mp hy)
   simp [DictEntry.refKey, hkey]
  have a' : ¬ es.toList.any (·.refKey) = true := by rw [a]; exact Bool.false_ne_true
  rw [if_neg a']
  exact congrArg some e
theorem ObjM.look {h : Heap} {x dx C : Addr} {mA : Str -> Option Value} (I : ObjM h x dx C mA) : ∃ od, PySem.W.InstAt h x (PySem.W.instObj C dx) C (some od) /\ ∀ name, PySem.W.lookIn name od = some (mA name) :=
 let ⟨od, ho, hl⟩ := lookIn_ns I.ns
 ⟨od, ⟨I.obj, rfl, rfl, ho⟩, hl⟩
section
variable {prog : Program} {w : World} {A : Around} {E : Value -> Shared -> Prop} {s : Shared} {K : PySem.W.Frag} {x dx C f : Addr} {mA : Str -> Option Value} {name : Str} {v : Value}
end
section
variable {P : Program} {w : World} {H H' : Hp} {h h' : Heap} {a C dx : Addr} {fs fs' : List (Str × V)}
theorem ins_get (hok : HOk P w H h) (e : H a = some (.ins C dx fs)) : ∃ mA, ObjM h a dx C mA /\ (∀ f, RelO (fs.lookup f) (mA f)) /\ PySem.Within mA (fs.map (·.1)) /\ fs.length <= 1000 /\ H dx = some (.own a) := by
 obtain ⟨d, z, ne, ob, mA, n, r, q⟩ := (show ObjOk P w H h a (.ins C dx fs) from hok a _ e)
 exact ⟨mA, ⟨ob, n, ne⟩, r, q, z, d⟩
end
structure Cls (K : PySem.W.Frag) (C : Addr) : Prop where
 pg : PySem.W.plainGet K C Str.empty = true
 hd : PySem.W.hasDictIn K C = true
 po : PySem.W.plainOver K C = true
 sa : PySem.W.findIn K (.ref C) "__setattr__" = some (some (.builtin "object.__setattr__"))
theorem Cls.get {K : PySem.W.Frag} {C : Addr} (c : Cls K C) (f : Str) : PySem.W.plainGet K C f = true := c.pg
section
variable {X : Cx} {pins : List (Addr × Obj)} {σ : St} {H : Hp} {s : Shared} {a C dx : Addr} {fs : List (Str × V)} {f : Str} {v : V} {A : Around} {E : Value -> Shared -> Prop}
end
section
variable {X : Cx} {o e value : Expr} {f : Str} {pos pos' tpos : Pos} {ta tv : TE}
end
section
variable {X : Cx} {pins : List (Addr × Obj)} {σ : St} {H : Hp} {s : Shared} {A : Around} {E : Value -> Shared -> Prop} {Q : Value -> Shared -> Prop} {c : Value} {b : Bool}
inductive TyOf (K : PySem.W.Frag) (H : Hp) : V -> Value -> Prop where
 | non : TyOf K H .non (.type "NoneType")
 | bl (x : Bool) : TyOf K H (.bl x) (.type "bool")
 | int (i : Int) : TyOf K H (.int i) (.type "int")
 | str (x : Str) : TyOf K H (.str x) (.type "str")
 | flt (x : UInt64) : TyOf K H (.flt x) (.type "float")
 | lst {a : Addr} {xs : List V} (e : H a = some (.lst xs)) : TyOf K H (.ref a) (.type "list")
 | frz {a : Addr} {o : Obj} {xs : List V} (e : H a = some (.frz o (.lst xs))) : TyOf K H (.ref a) (.type "list")
 | tup {a : Addr} {xs : List V} (e : H a = some (.tup xs)) : TyOf K H (.ref a) (.type "tuple")
 | dK {a : Addr} {kvs : List (Key × V)} (e : H a = some (.dK kvs)) : TyOf K H (.ref a) (.type "dict")
 | dT {a : Addr} {kvs : List (List Key × V)} (e : H a = some (.dT kvs)) : TyOf K H (.ref a) (.type "dict")
 | ins {a C dx : Addr} {fs : List (Str × V)} (e : H a = some (.ins C dx fs)) (cl : Cls K C) (ha : PySem.W.findIn K (.ref C) "__class__" = some (some (.builtin "object.__class__")))
   (hn : PySem.W.specialIn K (.builtin "object.__class__") "__get__" = some (some (.builtin "getset_descriptor.__get__"))) (htk : PySem.W.takesIn K (.builtin "object.__class__") = some true)
   (hm : PySem.W.mroIn K C (.type "object") = some true) : TyOf K H (.ref a) (.ref C)
theorem isinst_ok {x : V} {u t : Value} (I : Inv X pins σ H s) (rx : RelV x u) (ty : TyOf X.K H x t) (e : PySem.W.kitOne X.K t c = some b) (h : ∀ tk, Q (.bool b) { s with toks := tk }) :
  wpAny (model X.prog X.w) A (call (.builtin "isinstance") [u, c]) Q E s := by
 cases ty with
 | non => cases (show u = Value.none from rx); exact PySem.W.kia_one PySem.W.kitx_none I.kIn True.intro e (fun z => nomatch z) h
 | bl y => cases (show u = Value.bool y from rx); exact PySem.W.kia_one PySem.W.kitx_bool I.kIn True.intro e (fun z => nomatch z) h
 | int i => obtain ⟨t, q⟩ := (show ∃ t, u = Value.int i t from rx); cases q; exact PySem.W.kia_one PySem.W.kitx_int I.kIn True.intro e (fun z => nomatch z) h
 | str y => obtain ⟨t, q⟩ := (show ∃ t, u = Value.str y t from rx); cases q; exact PySem.W.kia_one PySem.W.kitx_str I.kIn True.intro e (fun z => nomatch z) h
 | flt y => obtain ⟨t, q⟩ := (show ∃ t, u = Value.float y t from rx); cases q; exact PySem.W.kia_one PySem.W.kitx_float I.kIn True.intro e (fun z => nomatch z) h
 | @lst a xs ea =>
  cases (show u = Value.ref a from rx)
  obtain ⟨_, _, n, _, h1⟩ := (show ObjOk X.prog X.w H s.heap a (.lst xs) from I.hok a _ ea)
  exact PySem.W.kia_one PySem.W.kitx_list I.kIn ⟨_, h1, rfl⟩ e (fun z => nomatch z) h
 | @frz a ob xs ea =>
  cases (show u = Value.ref a from rx)
  obtain ⟨_, _, _, n, _, h1⟩ := (show ObjOk X.prog X.w H s.heap a (.frz ob (.lst xs)) from I.hok a _ ea)
  exact PySem.W.kia_one PySem.W.kitx_list I.kIn ⟨_, h1, rfl⟩ e (fun z => nomatch z) h
 | @tup a xs ea =>
  cases (show u = Value.ref a from rx)
  obtain ⟨_, _, _, p⟩ := (show ObjOk X.prog X.w H s.heap a (.tup xs) from I.hok a _ ea)
  obtain ⟨o, h1, h2, _⟩ := p
  exact PySem.W.kia_one PySem.W.kitx_tuple I.kIn ⟨o, h1, h2⟩ e (fun z => nomatch z) h
 | @dK a kvs ea =>
  cases (show u = Value.ref a from rx)
  obtain ⟨_, _, vs, _, p⟩ := (show ObjOk X.prog X.w H s.heap a (.dK kvs) from I.hok a _ ea)
  obtain ⟨o, es, ep, h1, h2, _⟩ := p
  exact PySem.W.kia_one PySem.W.kitx_dict I.kIn ⟨o, h1, h2.1⟩ e (fun z => nomatch z) h
 | @dT a kvs ea =>
  cases (show u = Value.ref a from rx)
  obtain ⟨_, _, xs, _, o, es, ep, h1, h2, _⟩ := (show ObjOk X.prog X.w H s.heap a (.dT kvs) from I.hok a _ ea)
  exact PySem.W.kia_one PySem.W.kitx_dict I.kIn ⟨o, h1, h2.1⟩ e (fun z => nomatch z) h
 | @ins a C dx fs ea cl ha hn htk hm =>
  cases (show u = Value.ref a from rx)
  obtain ⟨mA, O, _⟩ := ins_get I.hok ea
  obtain ⟨od, J, _⟩ := O.look
  exact PySem.W.kia_one (PySem.W.kitx_own (cl.get _) cl.hd ha hn htk hm) I.kIn J e (fun z => nomatch z) h
end
end L2
namespace L2
open PySem PySem.Spec PyProof.Rows
structure Room (k : Nat) (A : Around) : Prop where
 hd : A.handled = none
 dp : A.depth + 3 * k + 5 < recursionLimit
 un : A.units + 16 * k + 200 < cLine
theorem Room.mono {j k : Nat} {A : Around} (r : Room k A) (h : j <= k) : Room j A := ⟨r.hd, by have := r.dp; omega, by have := r.un; omega⟩
theorem Room.deeper {k : Nat} {A : Around} (r : Room (k + 1) A) (env : Env) : Room k (A.deeper env) :=
 ⟨r.hd, by have := r.dp; show A.depth + 1 + 3 * k + 5 < _; omega, by have := r.un; show A.units + 3 + 16 * k + 200 < _; omega⟩
theorem Room.depth {k : Nat} {A : Around} (r : Room k A) : A.depth < recursionLimit := by have := r.dp; omega
theorem Room.units {k : Nat} {A : Around} (r : Room k A) : A.units + 64 < cLine := by have := r.un; omega
def tNil : TA := fun _ H Q => Q [] H
def tCons (ta : TE) (tr : TA) : TA := fun σ H Q => ta σ H fun x H1 => tr σ H1 fun xs H2 => Q (x :: xs) H2
section
variable {X : Cx} {e : Expr} {es : List Expr} {te : TE} {t : TA} {pos : Pos}
theorem pa_nil : PA X [] tNil := fun _ _ _ _ H Q I h => Calls.spliced_nil ⟨[], H, I, .nil, h⟩
theorem pa_cons (ha : PE X e te) (hr : PA X es t) (hs : starEach (e :: es) X.env = (false, eval e X.env) :: starEach es X.env := by rfl) : PA X (e :: es) (tCons te t) := by
 intro pos pins s σ H Q I h
 rw [hs]
 show wpAny _ _ (spliced ((false, eval e X.env) :: backTo pos (starEach es X.env))) _ _ s
 refine Calls.spliced_cons (thn (ha pins s σ H _ I h) fun u s1 ⟨x, H1, I1, r1, q1⟩ => ?_)
 exact thn (hr pos pins s1 σ H1 _ I1 q1) fun us s2 ⟨xs, H2, I2, r2, q2⟩ => ⟨x :: xs, H2, I2, .cons r1 r2, q2⟩
def tTup (t : TA) : TE := fun σ H Q => t σ H fun xs H1 => xs.length <= sizeLine /\ ∀ p, H1 p = none -> Q (.ref p) (upd H1 p (.tup xs))
def tLst (t : TA) : TE := fun σ H Q => t σ H fun xs H1 => xs.length <= sizeLine /\ ∀ p, H1 p = none -> Q (.ref p) (upd H1 p (.lst xs))
theorem pe_tup {x1} (h : PA X es t) : PE X (.Tuple es x1 pos) (tTup t) := by
 intro pins s σ H Q I hq
 refine wpAny_Tuple_spliced (thn (h pos pins s σ H _ I hq) fun us s1 ⟨xs, H1, I1, r, z, q⟩ => ⟨by rw [<- r.length]; exact z, ?_⟩)
 have hf : H1 s1.heap.objs.size = none := I1.hok.fresh (Nat.le_refl _)
 refine ⟨.ref s1.heap.objs.size, upd H1 s1.heap.objs.size (.tup xs), I1.laid (t' := s1.toks) (fun b u e => Heap.get?_push_of_some _ e) (Nat.le_refl _) ?_, rfl, q _ hf⟩
 exact ⟨z, us, r, ⟨_, Heap.get?_push_size _ rfl, rfl, _, rfl⟩⟩
theorem pe_lst (h : PA X es t) : PE X (.List es pos) (tLst t) := by
 intro pins s σ H Q I hq
 refine wpAny_List_spliced (thn (h pos pins s σ H _ I hq) fun us s1 ⟨xs, H1, I1, r, z, q⟩ => ⟨by rw [<- r.length]; exact z, ?_⟩)
 have hf : H1 s1.heap.objs.size = none := I1.hok.fresh (Nat.le_refl _)
 refine ⟨.ref s1.heap.objs.size, upd H1 s1.heap.objs.size (.lst xs), I1.laid (t' := s1.toks) (fun b u e => Heap.get?_push_of_some _ e) (Nat.le_refl _) ?_, rfl, q _ hf⟩
 exact ⟨z, us, 0, r, Heap.get?_push_size _ rfl⟩
end
abbrev Sp := List V -> Hp -> VK -> XK -> Prop
abbrev CXT := List Env -> Hp -> Shared -> XK -> Value -> Shared -> Prop
structure Env0 (P : Program) (w : World) (K : PySem.W.Frag) (mg : Str -> Option Value) (base : Heap) (A : Around) (outer : List Env) (s : Shared) (H : Hp) : Prop where
 frames : A.frames = some outer
 mod : Mod K mg base
 bs : ∀ b o, base.get? b = some o -> s.heap.get? b = some o /\ H b = none
 bsz : base.objs.size <= s.heap.objs.size
 funs : s.heap.FunFrames base outer
 frf : ∀ b ∈ frs outer, H b = none
 hok : HOk P w H s.heap
 bare : AllBare s.gens
def CE (outer : List Env) (P : Program) (w : World) (H : Hp) (s : Shared) (Q : VK) (u : Value) (s' : Shared) : Prop :=
 ∃ v H', s'.os = s.os /\ AllBare s'.gens /\ Un (frs outer) [] H H' s.heap s'.heap /\ HOk P w H' s'.heap /\ RelV v u /\ Q v H'
def CR (CX : CXT) (outer : List Env) (P : Program) (w : World) (H : Hp) (s : Shared) (Q : VK) (E : XK) (r : Result) (s' : Shared) : Prop :=
 match r with
 | .ok (.ret u) => CE outer P w H s Q u s'
 | .ok _ => False
 | .error e => CX outer H s E e s'
structure FnOk (P : Program) (w : World) (K : PySem.W.Frag) (mg : Str -> Option Value) (base : Heap) (CX : CXT) (k : Nat) (f : Addr) (fd : FuncData) (ps : List Str) (sp : Sp) : Prop where
 len : ∀ vs H Q E, sp vs H Q E -> vs.length = ps.length
 run : ∀ (A : Around) (outer : List Env) (s : Shared) (H : Hp) (args : Args) (us : List Value) (vs : List V) (Q : VK) (E : XK), Room k A -> Env0 P w K mg base A outer s H -> BindsTo s fd args (ps.zip us) -> Vals vs us -> sp vs H Q E ->
  codeAny (model P w) A (.call (.ref f) args) (CR CX outer P w H s Q E) s
theorem FnOk.mono {P : Program} {w : World} {K : PySem.W.Frag} {mg : Str -> Option Value} {base : Heap} {CX : CXT} {j k : Nat} {f : Addr} {fd : FuncData} {ps : List Str} {sp : Sp} (F : FnOk P w K mg base CX j f fd ps sp) (h : j <= k) :
  FnOk P w K mg base CX k f fd ps sp := ⟨F.len, fun A outer s H args us vs Q E hr => F.run A outer s H args us vs Q E (hr.mono h)⟩
section
variable {X : Cx} {pins : List (Addr × Obj)} {σ : St} {H : Hp} {s s' : Shared}
theorem Inv.env0 (I : Inv X pins σ H s) : Env0 X.prog X.w X.K X.mg X.base X.A X.stack s H :=
 ⟨I.ok.frames, I.ok.mod, I.bs, Nat.le_trans I.ok.bsz I.sz, I.stack, I.stkFree, I.hok, I.bare⟩
theorem Inv.after {Q : VK} {u : Value} (I : Inv X pins σ H s) (h : CE X.stack X.prog X.w H s Q u s') : EP X pins σ Q u s' := by
 obtain ⟨v, H', os, bare, un, hok, r, q⟩ := h
 obtain ⟨hh, g, d, t, os'⟩ := s'
 obtain rfl : os' = s.os := os
 exact ⟨v, H', I.call (h' := hh) (g' := g) (d' := d) (t' := t) (ch := []) un hok bare (fun b z => absurd z (by simp)), r, q⟩
end
def tCall (sp : Sp) (dvs : List V) (E : XK) (t : TA) : TE := fun σ H Q => t σ H fun vs H1 => sp (vs ++ dvs) H1 Q E
def Binds (K : PySem.W.Frag) (fd : FuncData) (ps : List Str) (ds : List Value) : Prop :=
 ∀ (s : Shared) (us : List Value), K.In s.heap -> (us ++ ds).length = ps.length -> BindsTo s fd ⟨us, []⟩ (ps.zip (us ++ ds))
theorem Binds.all {K : PySem.W.Frag} {fd : FuncData} {ps : List Str} (h : ∀ us : List Value, us.length = ps.length -> bindArgs fd ⟨us, []⟩ = pure (ps.zip us)) : Binds K fd ps [] := fun s us _ hl => by
 rw [List.append_nil] at hl ⊢
 exact .of_eq (h us hl)
def Passes (CX : CXT) (X : Cx) (E : XK) : Prop := ∀ (pins : List (Addr × Obj)) (σ : St) (H : Hp) (s : Shared) (e : Value) (s' : Shared), Inv X pins σ H s -> CX X.stack H s E e s' -> X.xe e s'
section
variable {X : Cx} {CX : CXT} {k : Nat} {f C : Addr} {fd : FuncData} {ps : List Str} {sp : Sp} {dvs : List V} {ds : List Value} {E : XK} {x m : Str} {p pos apos : Pos} {e o : Expr} {es : List Expr} {ta : TE} {t : TA}
theorem run_fn {pins : List (Addr × Obj)} {σ : St} {H : Hp} {s : Shared} {Q : VK} {us : List Value} {vs : List V} (F : FnOk X.prog X.w X.K X.mg X.base CX k f fd ps sp) (hr : Room k X.A) (hb : Binds X.K fd ps ds) (hd : Vals dvs ds) (hx : Passes CX X E)
  (I : Inv X pins σ H s) (r : Vals vs us) (h : sp (vs ++ dvs) H Q E) : wpAny (model X.prog X.w) X.A (call (.ref f) us) (EP X pins σ Q) X.xe s := by
 have r2 : Vals (vs ++ dvs) (us ++ ds) := r.append hd
 have hl : (us ++ ds).length = ps.length := by rw [<- r2.length]; exact F.len _ _ _ _ h
 refine wpAny_call (codeAny_mono (F.run X.A X.stack s H ⟨us, []⟩ (us ++ ds) (vs ++ dvs) Q E hr I.env0 (hb s us I.kIn hl) r2 h) fun r s' hq => ?_)
 cases r with
 | error e => exact hx pins σ H s e s' I hq
 | ok fl =>
  cases fl with
  | ret u => exact I.after hq
  | next => exact False.elim hq
  | brk => exact False.elim hq
  | cont => exact False.elim hq
theorem pe_call (F : FnOk X.prog X.w X.K X.mg X.base CX k f fd ps sp) (hr : Room k X.A) (hg : Gl X x) (hm : X.mg x = some (.ref f)) (hk : PySem.W.keepIn X.K (.ref f) = true) (hb : Binds X.K fd ps ds) (hd : Vals dvs ds) (hx : Passes CX X E)
  (ha : PA X (e :: es) t) (hdb : (x == ("__debug__" : Str)) = false := by decide) (he : starEach (e :: es) X.env = (false, eval e X.env) :: starEach es X.env := by rfl) (hpl : (backTo pos (starEach es X.env)).any (·.1) = false := by rfl) :
  PE X (.Call (.Name x p) (e :: es) [] pos) (tCall sp dvs E t) := by
 intro pins s σ H Q I h
 refine wpAny_Call_Name_kw (ld_glob I hg hm ?_ hdb)
 refine PySem.W.callWith_K (h₀ := X.base) I.ok.mod.kin hk (thn (ha pos pins s σ H _ I h) fun us s1 ⟨vs, H1, I1, r, q⟩ => ⟨I1.kIn, ?_⟩) he hpl
 exact run_fn F hr hb hd hx I1 r q
theorem pe_call0 (F : FnOk X.prog X.w X.K X.mg X.base CX k f fd ps sp) (hr : Room k X.A) (hg : Gl X x) (hm : X.mg x = some (.ref f)) (hk : PySem.W.keepIn X.K (.ref f) = true) (hb : Binds X.K fd ps ds) (hd : Vals dvs ds) (hx : Passes CX X E)
  (hdb : (x == ("__debug__" : Str)) = false := by decide) : PE X (.Call (.Name x p) [] [] pos) (tCall sp dvs E tNil) := by
 intro pins s σ H Q I h
 refine wpAny_Call_Name_kw (ld_glob I hg hm ?_ hdb)
 exact PySem.W.callWith_K0 I.kIn hk (run_fn (us := []) F hr hb hd hx I .nil h)
end
section
variable {X : Cx} {CX : CXT} {k : Nat} {f C : Addr} {fd : FuncData} {ps ks : List Str} {sp : Sp} {E : XK} {x m : Str} {p pos apos kpos : Pos} {e o : Expr} {es : List Expr} {kws : List Keyword} {te ta : TE} {t tk : TA} {nm : Option Str}
variable {g : List Value -> List Value -> List Value} {gV : List V -> List V -> List V}
end
structure FnScope (N P : List Str) (sc : Scope) : Prop where
 kind : sc.kind = .function
 co : sc.isCoroutine = false
 gen : sc.isGenerator = false
 nd : N.Nodup
 pre : N.take P.length = P
 par : ∀ x ∈ P, sc.names.lookup x = some .local \/ sc.names.lookup x = some .cell
 nofree : ∀ y ∈ sc.names, y.2 ≠ .free
theorem bindL_out {kindOf : Str -> Option NameKind} {x : Str} : ∀ {binds : List (Str × Value)} {m : Str -> Option Value}, (∀ v, (x, v) ∉ binds) -> bindL kindOf binds m x = m x
 | [], _, _ => rfl
 | (n, v) :: r, m, h => by
  unfold bindL
  rw [bindL_out fun w hw => h w (List.mem_cons_of_mem _ hw)]
  split
  ·have : x ≠ n := by rintro rfl; exact h v List.mem_cons_self
   simp [this]
  ·rfl
theorem bindC_out {kindOf : Str -> Option NameKind} {x : Str} : ∀ {binds : List (Str × Value)} {m : Str -> Option Value}, (∀ v, (x, v) ∉ binds) -> bindC kindOf binds m x = m x
 | [], _, _ => rfl
 | (n, v) :: r, m, h => by
  unfold bindC
  rw [bindC_out fun w hw => h w (List.mem_cons_of_mem _ hw)]
  split
  ·rfl
  ·have : x ≠ n := by rintro rfl; exact h v List.mem_cons_self
   simp [this]
theorem bindL_get {kindOf : Str -> Option NameKind} {x : Str} {v : Value} : ∀ {P : List Str} {vs : List Value} {i : Nat} {m : Str -> Option Value}, P.Nodup -> P[i]? = some x -> vs[i]? = some v -> kindOf x = some .local ->
  bindL kindOf (P.zip vs) m x = some v
 | [], _, _, _, _, h, _, _ => by simp at h
 | _ :: _, [], _, _, _, _, h, _ => by simp at h
 | p :: P, w :: vs, 0, m, nd, h1, h2, hk => by
  simp at h1 h2; subst h1; subst h2
  show bindL kindOf ((p, w) :: P.zip vs) m p = _
  unfold bindL
  rw [bindL_out fun v hv => (List.nodup_cons.mp nd).1 (List.of_mem_zip hv).1, if_pos hk]
  simp
 | p :: P, w :: vs, i + 1, m, nd, h1, h2, hk => by
  show bindL kindOf ((p, w) :: P.zip vs) m x = _
  unfold bindL
  exact bindL_get (i := i) (List.nodup_cons.mp nd).2 (by simpa using h1) (by simpa using h2) hk
theorem bindC_get {kindOf : Str -> Option NameKind} {x : Str} {v : Value} : ∀ {P : List Str} {vs : List Value} {i : Nat} {m : Str -> Option Value}, P.Nodup -> P[i]? = some x -> vs[i]? = some v -> kindOf x ≠ some .local ->
  bindC kindOf (P.zip vs) m x = some v
 | [], _, _, _, _, h, _, _ => by simp at h
 | _ :: _, [], _, _, _, _, h, _ => by simp at h
 | p :: P, w :: vs, 0, m, nd, h1, h2, hk => by
  simp at h1 h2; subst h1; subst h2
  show bindC kindOf ((p, w) :: P.zip vs) m p = _
  unfold bindC
  rw [bindC_out fun v hv => (List.nodup_cons.mp nd).1 (List.of_mem_zip hv).1, if_neg hk]
  simp
 | p :: P, w :: vs, i + 1, m, nd, h1, h2, hk => by
  show bindC kindOf ((p, w) :: P.zip vs) m x = _
  unfold bindC
  exact bindC_get (i := i) (List.nodup_cons.mp nd).2 (by simpa using h1) (by simpa using h2) hk
def start (N : List Str) (vs : List V) : St := vs.map some ++ List.replicate (N.length - vs.length) none
def cxOf (CX : CXT) (P : Program) (w : World) (K : PySem.W.Frag) (mg : Str -> Option Value) (base : Heap) (N : List Str) (qual : Str) (scope : Scope) (f : Addr) (cd : Value) (A : Around) (outer : List Env) (s : Shared) (H : Hp) (E : XK) : Cx where
 prog := P
 w := w
 K := K
 mg := mg
 base := base
 A := A.deeper (envOfC qual scope s.heap.objs.size f cd)
 N := N
 s₀ := s
 H₀ := H
 env := envOfC qual scope s.heap.objs.size f cd
 outer := outer
 stack := envOfC qual scope s.heap.objs.size f cd :: outer
 ex := []
 calm := true
 fn := fun _ => true
 pn := []
 xe := fun e s' => wpAny (model P w) (A.deeper (envOfC qual scope s.heap.objs.size f cd)) (leaving (envOfC qual scope s.heap.objs.size f cd) e) (fun _ s'' => CX outer H s E e s'') (fun e' s'' => CX outer H s E e' s'') s'
theorem cell_has {sc : Scope} {n : Nat} {x : Str} (h : sc.names.lookup x = some .cell) : ∃ c, (cellsFrom n sc.names []).lookup x = some c := by
 have q := PySem.W.cellsFrom_some sc.names n [] (.inl h)
 exact Option.isSome_iff_exists.mp q
theorem inv_start {CX : CXT} {P : Program} {w : World} {K : PySem.W.Frag} {mg : Str -> Option Value} {base : Heap} {N ps : List Str} {qual : Str} {scope : Scope} {f : Addr} {cd : Value} {A : Around} {outer : List Env} {s s1 : Shared} {H : Hp} {E : XK} {us : List Value} {vs : List V}
  (S : FnScope N ps scope) (hd : A.handled = none) (e0 : Env0 P w K mg base A outer s H) (hl : vs.length = ps.length) (r : Vals vs us)
  (x : InCallC s s.heap.objs.size (bindL (envOfC qual scope s.heap.objs.size f cd).kindOf (ps.zip us) fun _ => none) (cellsFrom (s.heap.objs.size + 1) scope.names []) (bindC (envOfC qual scope s.heap.objs.size f cd).kindOf (ps.zip us) fun _ => none) s1) :
  Inv (cxOf CX P w K mg base N qual scope f cd A outer s H E) [] (start N vs) H s1 := by
 have hpl : ps.length <= N.length := by have := congrArg List.length S.pre; rw [List.length_take] at this; omega
 obtain ⟨h1, tk, rfl, hk⟩ := x.done
 have noA : ∀ b : Addr, b ∉ (cxOf CX P w K mg base N qual scope f cd A outer s H E).ex := fun b z => absurd (show b ∈ ([] : List Addr) from z) (by simp)
 refine ⟨⟨e0.mod, S.kind, rfl, rfl, Nat.le_refl _, fun y z c h1 h2 => ?_, fun y hy => ?_, fun y c _ h => ?_, fun _ => hd, Around.frames_deeper e0.frames, .inr ⟨rfl, rfl⟩, fun b z => absurd z (noA b), e0.bs, e0.bsz, fun b _ _ => noA b, fun b z => absurd z (noA b), e0.funs, e0.frf⟩,
  rfl, e0.bare, Un.kept hk, ⟨_, x.toInCall.ns, fun i y v h1 h2 h3 => ?_⟩, fun y c h => ⟨_, x.cell y c h⟩, e0.hok.fresh (Nat.le_refl _), fun y c h => ?_, fun p hp => absurd (show p ∈ ([] : List (Addr × Obj)) from hp) (by simp), e0.hok.kept hk, ?_⟩
 ·exact name_of_addr x.apart (PySem.mem_of_lookup h1) (PySem.mem_of_lookup h2)
 ·have hy : scope.names.lookup y = some .cell \/ scope.names.lookup y = some .free := hy
  rcases hy with hy | hy
  ·exact cell_has hy
  ·exact absurd rfl (S.nofree _ (PySem.mem_of_lookup hy))
 ·exact Nat.le_of_lt (x.above y c (PySem.mem_of_lookup h))
 ·have hi : i < vs.length := by
   unfold start at h2
   by_cases hi : i < vs.length
   ·exact hi
   ·rw [List.getElem?_append_right (by simpa using hi)] at h2
    rw [List.getElem?_replicate] at h2
    split at h2 <;> cases h2
  have ha : vs[i]? = some v := by
   unfold start at h2
   rw [List.getElem?_append_left (by simpa using hi), List.getElem?_map] at h2
   cases e : vs[i]? with
   | none => rw [e] at h2; cases h2
   | some a => rw [e] at h2; cases h2; rfl
  obtain ⟨u, hu, rv⟩ := r.get ha
  have hp : ps[i]? = some y := by
   rw [<- S.pre, List.getElem?_take_of_lt (by omega)]; exact h1
  have ndP : ps.Nodup := by rw [<- S.pre]; exact S.nd.sublist (List.take_sublist _ _)
  refine ⟨u, rv, ?_⟩
  rcases S.par y (List.mem_of_getElem? hp) with k | k
  ·exact .inl ⟨k, bindL_get ndP hp hu k⟩
  ·obtain ⟨c, e⟩ := cell_has (n := s.heap.objs.size + 1) k
   refine .inr ⟨.inl k, c, e, ?_⟩
   have q := x.cell y c e
   rw [bindC_get ndP hp hu (by show scope.names.lookup y ≠ _; rw [k]; decide)] at q
   exact q
 ·exact e0.hok.fresh (Nat.le_of_lt (x.above y c (PySem.mem_of_lookup h)))
 ·unfold start
  show _ = N.length
  rw [List.length_append, List.length_map, List.length_replicate]
  omega
theorem fn_of {CX : CXT} {P : Program} {w : World} {K : PySem.W.Frag} {mg : Str -> Option Value} {base : Heap} {k : Nat} {f : Addr} {name qual : Str} {params : Arguments} {body : List Stmt} {scope : Scope} {dV kV doc pm cdv ct oc : Value} {an od : Option Addr}
  {osl : Array (Option Value)} {N ps : List Str} {sp : Sp} (lk : K.lookup f = some ⟨oc, od, .func (PySem.W.fnOf name qual params body scope dV kV doc pm an cdv ct), osl⟩) (hcd : PySem.W.codeIn K cdv qual = true) (S : FnScope N ps scope)
  (len : ∀ vs H Q E, sp vs H Q E -> vs.length = ps.length)
  (hbody : ∀ (A : Around) (outer : List Env) (s : Shared) (H : Hp) (vs : List V) (Q : VK) (E : XK), Room k (A.deeper (envOfC qual scope s.heap.objs.size f cdv)) -> sp vs H Q E ->
   ∃ t, PSs (cxOf CX P w K mg base N qual scope f cdv A outer s H E) body t /\ t { nx := fun _ H' => Q .non H', rt := Q } (start N vs) H) :
  FnOk P w K mg base CX (k + 1) f (PySem.W.fnOf name qual params body scope dV kV doc pm an cdv ct) ps sp := by
 refine ⟨len, fun A outer s H args us vs Q E hr e0 hb r hsp => ?_⟩
 have hl := len _ _ _ _ hsp
 have KX : K.In s.heap := e0.mod.kin.keeps fun b o e => (e0.bs b o e).1
 have lim : s.heap.NoLimit := e0.mod.nolimit.keeps fun b o e => (e0.bs b o e).1
 have hkind : ∀ y ∈ ps.zip us, scope.names.lookup y.1 = some .local \/ (scope.names.lookup y.1 = some .cell /\ ((cellsFrom (s.heap.objs.size + 1) scope.names []).lookup y.1).isSome = true) := fun ⟨n, v⟩ hy => by
  rcases S.par n (List.of_mem_zip hy).1 with q | q
  ·exact .inl q
  ·exact .inr ⟨q, PySem.W.cellsFrom_some _ _ _ (.inl q)⟩
 refine codeAny_call_function hr.depth (KX _ _ lk) rfl S.co S.gen rfl (PySem.W.codeRec_of KX hcd) (hb _ _ _ _ ?_)
 refine wpAny_newFunctionEnv_cells S.kind hkind fun env he s1 x => ?_
 subst he
 refine ⟨lim.keeps x.toInCall.keep, codeAny_func ?_⟩
 obtain ⟨t, ht, hq⟩ := hbody A outer s H vs Q E (hr.deeper _) hsp
 have I : Inv (cxOf CX P w K mg base N qual scope f cdv A outer s H E) [] (start N vs) H s1 := inv_start S hr.hd e0 hl r x
 refine wpAny_mono (ht [] s1 (start N vs) H _ I hq) (fun fl s' hs => ?_) fun e s' hs => hs
 have fin : ∀ {σ' : St} {H' : Hp} {v : V} {u : Value}, Inv (cxOf CX P w K mg base N qual scope f cdv A outer s H E) [] σ' H' s' -> RelV v u -> Q v H' -> CE outer P w H s Q u s' :=
  fun {σ' H' v u} J rv q => ⟨v, H', J.os, J.bare, J.base, J.hok, rv, q⟩
 cases fl with
 | ret u =>
  obtain ⟨v, σ', H', J, rv, q⟩ := hs
  exact fin J rv q
 | next =>
  obtain ⟨σ', H', J, q⟩ := hs
  exact fin (v := V.non) (u := Value.none) J rfl q
 | brk =>
  obtain ⟨_, _, _, q⟩ := hs
  exact False.elim q
 | cont =>
  obtain ⟨_, _, _, q⟩ := hs
  exact False.elim q
end L2
namespace L2
open PySem PySem.Spec PyProof.Rows
section
variable {X : Cx} {x : Str} {p pos : Pos} {e : Expr} {es : List Expr} {t : TA} {id T : String} {r : List V -> Hp -> VK -> Prop}
def tCB (r : List V -> Hp -> VK -> Prop) (t : TA) : TE := fun σ H Q => t σ H fun vs H1 => r vs H1 Q
theorem pe_callB (hc : CallR X (.builtin id) r) (hg : Gl X x) (hm : X.mg x = none) (hv : bootBuiltins x = some (.builtin id)) (ha : PA X (e :: es) t) (hn : x ≠ "__name__" := by decide) (hdb : (x == ("__debug__" : Str)) = false := by decide)
  (he : starEach (e :: es) X.env = (false, eval e X.env) :: starEach es X.env := by rfl) (hpl : (backTo pos (starEach es X.env)).any (·.1) = false := by rfl) : PE X (.Call (.Name x p) (e :: es) [] pos) (tCB r t) := by
 intro pins s σ H Q I h
 refine wpAny_Call_Name_kw (ld_blt I hg hm hv ?_ hn hdb)
 exact PyProof.Rows.callWith_builtin1 (thn (ha pos pins s σ H _ I h) fun us s1 ⟨vs, H1, I1, r1, q1⟩ => hc pins s1 σ H1 vs us Q I1 r1 q1) he hpl
theorem pe_callTy (hc : CallR X (.type T) r) (hg : Gl X x) (hm : X.mg x = none) (hv : bootBuiltins x = some (.type T)) (ha : PA X (e :: es) t) (hn : x ≠ "__name__" := by decide) (hdb : (x == ("__debug__" : Str)) = false := by decide)
  (he : starEach (e :: es) X.env = (false, eval e X.env) :: starEach es X.env := by rfl) (hpl : (backTo pos (starEach es X.env)).any (·.1) = false := by rfl) : PE X (.Call (.Name x p) (e :: es) [] pos) (tCB r t) := by
 intro pins s σ H Q I h
 refine wpAny_Call_Name_kw (ld_blt I hg hm hv ?_ hn hdb)
 exact PyProof.Rows.callWith_type1 (thn (ha pos pins s σ H _ I h) fun us s1 ⟨vs, H1, I1, r1, q1⟩ => hc pins s1 σ H1 vs us Q I1 r1 q1) he hpl
end
end L2
namespace HT
open PySem PyProof.Rows
section
open PySem.SeqAt
open PySem.AutoSeq1 (wpAny_loadPart')
open PySem.MeetsSeq PySem.MeetsSeq2 PySem.MeetsSeq3
end
section
variable {prog : Program} {w : World} {A : Around} {E : Value -> Shared -> Prop} {s : Shared}
theorem cat_tup {t b : Addr} {vs ws : List Value} {Q : Value -> Shared -> Prop} (ht : IsTup s.heap t vs.toArray) (hb : IsTup s.heap b ws.toArray) (hv : vs ≠ [])
  (h1 : ws = [] -> Q (.ref t) s) (h2 : ws ≠ [] -> Q (.ref s.heap.objs.size) { s with heap := s.heap.push { cls := .type "tuple", data := .seq (vs ++ ws).toArray } })
  (hsz : vs.length + ws.length <= sizeLine) : wpAny (model prog w) A (binaryOp .Add (.ref t) (.ref b)) Q E s := by
 obtain ⟨⟨cls, dd, data, sl⟩, ho, hc, n, hd⟩ := id ht
 obtain ⟨⟨cls2, dd2, data2, sl2⟩, ho2, hc2, n2, hd2⟩ := id hb
 simp only at hc hd hc2 hd2
 subst hc hd hc2 hd2
 have e : vs.toArray ++ ws.toArray = (vs ++ ws).toArray := by simp
 by_cases hw : ws = []
 ·exact concat_meets ⟨_, ho, rfl⟩ ⟨_, ho2, rfl⟩ noFill_tuple_add seq_tuple_add PySem.F.slot_tuple_add PySem.F.entry_tuple_add (PySem.F.args_tuple_add_2 _ _)
   (tuple_addW1 t b vs.toArray ws.toArray n n2 dd dd2 sl sl2 (by simpa using hv) (by simp [hw])) ⟨ho, ho2, h1 hw⟩
 ·refine concat_meets ⟨_, ho, rfl⟩ ⟨_, ho2, rfl⟩ noFill_tuple_add seq_tuple_add PySem.F.slot_tuple_add PySem.F.entry_tuple_add (PySem.F.args_tuple_add_2 _ _)
   (tuple_addW2 t b vs.toArray ws.toArray n n2 dd dd2 sl sl2 (by simpa using hv) (by simpa using hw) (by rw [List.size_toArray, List.size_toArray]; exact hsz)) ⟨ho, ho2, ?_⟩
  rw [e]
  exact h2 hw
def sIx (n d : Nat) : Option Int -> Nat
 | none => d
 | some v => if v < 0 then (v + (n : Int)).toNat else min v.toNat n
theorem sIx_le (n d : Nat) (hd : d <= n) (o : Option Int) : sIx n d o <= n := by
 cases o with
 | none => exact hd
 | some v =>
  show (if v < 0 then (v + (n : Int)).toNat else min v.toNat n) <= n
  by_cases hv : v < 0
  ·rw [if_pos hv]; omega
  ·rw [if_neg hv]; exact Nat.min_le_right _ _
theorem clip_eq (v : Int) (n d : Nat) : (if v < 0 then max (v + (n : Int)) 0 else min v (n : Int)) = ((sIx n d (some v) : Nat) : Int) := by
 show (if v < 0 then max (v + (n : Int)) 0 else min v (n : Int)) = (((if v < 0 then (v + (n : Int)).toNat else min v.toNat n) : Nat) : Int)
 by_cases hv : v < 0
 ·simp only [if_pos hv]; omega
 ·simp only [if_neg hv]; omega
theorem adjust_gen (lo hi : Option Int) (n : Nat) : Builtin.Slice.sliceAdjust lo hi 1 (n : Int) = (((sIx n 0 lo : Nat) : Int), ((sIx n n hi : Nat) : Int)) := by
 have h1 : ¬ ((1 : Int) < 0) := by omega
 unfold Builtin.Slice.sliceAdjust
 simp only [h1, if_false]
 refine Prod.ext ?_ ?_
 ·cases lo with
  | none => rfl
  | some v => exact clip_eq v n 0
 ·cases hi with
  | none => rfl
  | some v => exact clip_eq v n n
theorem places_gen (i j : Nat) : Builtin.Slice.slicePlaces (i : Int) (j : Int) 1 = j - i := by
 unfold Builtin.Slice.slicePlaces
 have h1 : (1 : Int) > 0 := by omega
 simp only [h1, if_true, Int.ediv_one]
 split <;> omega
theorem slicePart_ {v : Value} {o : Option Int} {Q : Option Int -> Shared -> Prop} (p : IsPart v o) (h : Q o s) : wpAny (model prog w) A (Builtin.Slice.slicePartIndex v) Q E s := by
 cases p with
 | none => exact slicePart_none h
 | int i t => exact slicePart_int h
theorem sliceApplied_gen {sl : Addr} {vl vu : Value} {lo hi : Option Int} {n : Nat} {Q : Int × Int × Nat -> Shared -> Prop} (hs : s.heap.IsSliceOf sl vl vu .none) (pl : IsPart vl lo) (pu : IsPart vu hi)
  (h : Q (((sIx n 0 lo : Nat) : Int), 1, sIx n n hi - sIx n 0 lo) s) : wpAny (model prog w) A (Builtin.Slice.sliceApplied (.ref sl) (pure (n : Int))) Q E s := by
 obtain ⟨os, hos, hcs, hds⟩ := id hs
 unfold Builtin.Slice.sliceApplied Builtin.Slice.sliceFields
 refine wpAny_bind (wpAny_bind (wpAny_field hos hds (x := vl) rfl (wpAny_bind (wpAny_field hos hds (x := vu) rfl (wpAny_bind (wpAny_field hos hds (x := .none) rfl (wpAny_pure ?_)))))))
 refine wpAny_bind (slicePart_none ?_)
 show wpAny _ _ (if ((1 : Int) == 0) = true then _ else _) _ _ s
 rw [if_neg (by decide)]
 refine wpAny_bind (slicePart_ pl (wpAny_bind (slicePart_ pu (wpAny_bind (wpAny_pure ?_)))))
 show wpAny _ _ (match Builtin.Slice.sliceAdjust lo hi 1 (n : Int) with | (lo, hi) => pure (lo, (1 : Int), Builtin.Slice.slicePlaces lo hi 1)) _ _ s
 rw [adjust_gen lo hi n]
 show wpAny _ _ (pure (((sIx n 0 lo : Nat) : Int), (1 : Int), Builtin.Slice.slicePlaces ((sIx n 0 lo : Nat) : Int) ((sIx n n hi : Nat) : Int) 1)) _ _ s
 rw [places_gen]
 exact wpAny_pure h
theorem pick_gen (xs : Array Value) (i k : Nat) : ((List.range k).filterMap fun (m : Nat) => xs[((i : Int) + (m : Int) * 1).toNat]?).toArray = ((xs.toList.drop i).take k).toArray := by
 have e : (fun (m : Nat) => xs[((i : Int) + (m : Int) * 1).toNat]?) = fun m => xs[i + m]? := by
  funext m
  have : ((i : Int) + (m : Int) * 1).toNat = i + m := by omega
  rw [this]
 rw [e]
 have := pick_run xs i k
 rw [List.filterMap_map] at this
 have e2 : ((fun x => xs[x]?) ∘ fun x => i + x) = fun m => xs[i + m]? := rfl
 rw [e2] at this
 rw [this]
theorem getItem_tuple_cut {t sl : Addr} {items : Array Value} {vl vu : Value} {lo hi : Option Int} {Q : Value -> Shared -> Prop} (ht : IsTup s.heap t items) (hs : s.heap.IsSliceOf sl vl vu .none) (pl : IsPart vl lo) (pu : IsPart vu hi)
  (hw : ¬ (sIx items.size 0 lo = 0 /\ sIx items.size items.size hi = items.size))
  (h : Q (.ref s.heap.objs.size) { s with heap := s.heap.push { cls := .type "tuple", data := .seq ((items.toList.drop (sIx items.size 0 lo)).take (sIx items.size items.size hi - sIx items.size 0 lo)).toArray } })
  (hsz : items.size <= sizeLine) : wpAny (model prog w) A (getItem (.ref t) (.ref sl)) Q E s := by
 have htake : sizeOk (.seq ((items.toList.drop (sIx items.size 0 lo)).take (sIx items.size items.size hi - sIx items.size 0 lo)).toArray) := by
  show ((items.toList.drop (sIx items.size 0 lo)).take (sIx items.size items.size hi - sIx items.size 0 lo)).toArray.size <= sizeLine
  rw [List.size_toArray, List.length_take, List.length_drop, Array.length_toList]
  omega
 have hj : sIx items.size items.size hi <= items.size := sIx_le _ _ (Nat.le_refl _) hi
 obtain ⟨os, hos, hcs, hds⟩ := id hs
 have hTs : s.TypeIs (.ref sl) "slice" := ⟨os, hos, hcs⟩
 unfold getItem
 try with_reducible refine wpAny_holding ?_
 first | refine wpAny_bind (wpAny_pure ?_) | skip
 refine wpAny_bind (wpAny_sequenceKey ht.typeIs (by decide) ?_)
 refine wpAny_bind (wpAny_callSpecial?_slot (name := Str.ofString "__getitem__") ht.typeIs PyProof.Rows.slot_tuple_getitem
  (wpAny_call_entry PyProof.Rows.slot_tuple_getitem ht.typeIs entry_tuple_getitem ?_ (args_tuple_getitem _ _)))
 show wpAny _ _ (Builtin.Tuple.tupleItemsOf (.ref t) >>= _) _ _ s
 refine wpAny_bind (tupleItemsOf_ ht ?_)
 refine wpAny_bind (wpAny_typeOf hTs ?_)
 rw [if_pos (by decide)]
 refine wpAny_bind (sliceApplied_gen hs pl pu ?_)
 have hno : ¬ ((((sIx items.size 0 lo : Nat) : Int) == 0 && (1 : Int) == 1 && (sIx items.size items.size hi - sIx items.size 0 lo) == items.size) = true) := by
  intro q
  rw [Bool.and_eq_true, Bool.and_eq_true] at q
  have q1 : ((sIx items.size 0 lo : Nat) : Int) = 0 := eq_of_beq q.1.1
  have q2 : sIx items.size items.size hi - sIx items.size 0 lo = items.size := eq_of_beq q.2
  exact hw ⟨by omega, by omega⟩
 show wpAny _ _ (if (((sIx items.size 0 lo : Nat) : Int) == 0 && (1 : Int) == 1 && (sIx items.size items.size hi - sIx items.size 0 lo) == items.size) = true then _ else _) _ _ s
 rw [if_neg hno, pick_gen]
 first
  | exact wpAny_bind (m := Builtin.Tuple.tupleExact _) (wpAny_newObj_type (wpAny_pure ⟨_, rfl, wpAny_pure h⟩) htake)
  | exact wpAny_bind (m := Builtin.Tuple.tupleExact _) (wpAny_newObj_type (wpAny_bind (wpAny_pure (wpAny_pure ⟨_, rfl, wpAny_pure h⟩))) htake)
  | exact wpAny_bind (wpAny_bind (m := Builtin.Tuple.tupleExact _) (wpAny_newObj_type (wpAny_pure (wpAny_pure ⟨_, rfl, wpAny_pure h⟩)) htake))
  | exact wpAny_bind (wpAny_bind (m := Builtin.Tuple.tupleExact _) (wpAny_newObj_type (wpAny_pure ⟨_, rfl, wpAny_pure h⟩) htake))
end
end HT
namespace L2
open PySem PySem.Spec PyProof.Rows
abbrev TO := St -> Hp -> (Option Int -> Hp -> Prop) -> Prop
def PO (X : Cx) (e : Option Expr) (t : TO) : Prop :=
 ∀ (pins : List (Addr × Obj)) (s : Shared) (σ : St) (H : Hp) (Q : Option Int -> Hp -> Prop), Inv X pins σ H s -> t σ H Q ->
  wpAny (model X.prog X.w) X.A (evalPart e X.env) (fun u s' => ∃ o H', Inv X pins σ H' s' /\ IsPart u o /\ Q o H') X.xe s
def tNoPart : TO := fun _ H Q => Q none H
def tPart (t : TE) : TO := fun σ H Q => t σ H fun x H1 => ∃ i, x = .int i /\ Q (some i) H1
section
variable {X : Cx} {e : Expr} {te : TE} {lo hi : Option Expr} {tl th : TO} {pos p2 : Pos}
theorem po_none : PO X none tNoPart := by
 intro pins s σ H Q I h
 rw [evalPart_none]
 exact wpAny_pure ⟨none, H, I, .none, h⟩
theorem po_some (h : PE X e te) : PO X (some e) (tPart te) := by
 intro pins s σ H Q I hw
 rw [evalPart_some]
 refine thn (h pins s σ H _ I hw) fun u s1 ⟨x, H1, I1, r1, q1⟩ => ?_
 obtain ⟨i, rfl, q⟩ := q1
 obtain ⟨t, rfl⟩ := r1
 exact ⟨some i, H1, I1, .int i t, q⟩
def SlR (X : Cx) (r : V -> Option Int -> Option Int -> Hp -> VK -> Prop) : Prop :=
 ∀ (pins : List (Addr × Obj)) (s : Shared) (σ : St) (H : Hp) (x : V) (v vl vu : Value) (lo hi : Option Int) (sl : Addr) (Q : VK), Inv X pins σ H s -> RelV x v -> s.heap.IsSliceOf sl vl vu .none -> IsPart vl lo -> IsPart vu hi -> r x lo hi H Q ->
  ∃ T id, typeLookup (.type T) "__getitem__" = pure (some (.builtin id)) /\ s.TypeIs v T /\ wpAny (model X.prog X.w) X.A (getItem v (.ref sl)) (EP X pins σ Q) X.xe s
def tSl (r : V -> Option Int -> Option Int -> Hp -> VK -> Prop) (te : TE) (tl th : TO) : TE := fun σ H Q => te σ H fun x H1 => tl σ H1 fun l H2 => th σ H2 fun u H3 => r x l u H3 Q
theorem pe_slice {r : V -> Option Int -> Option Int -> Hp -> VK -> Prop} (hr : SlR X r) (he : PE X e te) (hl : PO X lo tl) (hu : PO X hi th) : PE X (.Subscript e (.Slice lo hi none p2) pos) (tSl r te tl th) := by
 intro pins s σ H Q I h
 refine Subscript_ (thn (he pins s σ H _ I h) fun v s1 ⟨x, H1, I1, r1, q1⟩ => ?_)
 refine wpAny_Slice (thn (hl pins s1 σ H1 _ I1 q1) fun vl s2 ⟨l, H2, I2, pl, q2⟩ => thn (hu pins s2 σ H2 _ I2 q2) fun vu s3 ⟨u, H3, I3, pu, q3⟩ => ?_)
 rw [evalPart_none]
 refine wpAny_pure ?_
 have I4 : Inv X pins σ H3 { s3 with heap := s3.heap.push { cls := .type "slice", data := .fields #[vl, vu, .none] } } := I3.kept (t' := s3.toks) fun b ob q => Heap.get?_push_of_some _ q
 obtain ⟨T, id, hT, ht, hg⟩ := hr pins { s3 with heap := s3.heap.push { cls := .type "slice", data := .fields #[vl, vu, .none] } } σ H3 x v vl vu l u s3.heap.objs.size Q I4 r1 (Heap.IsSliceOf.new ..) pl pu q3
 show wpAny (model X.prog X.w) X.A (subscriptTail e (.Slice lo hi none p2) v (.ref s3.heap.objs.size)) (EP X pins σ Q) X.xe { s3 with heap := s3.heap.push { cls := .type "slice", data := .fields #[vl, vu, .none] } }
 exact tail_any (ops := [.ref s3.heap.objs.size, v]) ht hT hg (by with_unfolding_all rfl)
def cutV (xs : List V) (lo hi : Option Int) : List V := (xs.drop (HT.sIx xs.length 0 lo)).take (HT.sIx xs.length xs.length hi - HT.sIx xs.length 0 lo)
theorem cutV_length (xs : List V) (lo hi : Option Int) : (cutV xs lo hi).length <= xs.length := by
 unfold cutV
 rw [List.length_take, List.length_drop]
 omega
def rSlT (K : PySem.W.Frag) : V -> Option Int -> Option Int -> Hp -> VK -> Prop := fun x lo hi H Q => ∃ a xs, x = .ref a /\ SqT K H a xs /\
 ¬ (HT.sIx xs.length 0 lo = 0 /\ HT.sIx xs.length xs.length hi = xs.length) /\ ∀ p, H p = none -> Q (.ref p) (upd H p (.tup (cutV xs lo hi)))
theorem sl_tup : SlR X (rSlT X.K) := by
 intro pins s σ H x v vl vu lo hi sl Q I rx hs pl pu h
 obtain ⟨a, xs, rfl, hx, hw, q⟩ := h
 cases rx
 obtain ⟨its, r, ht, hz⟩ := I.tuple hx
 have hlen : its.toArray.size = xs.length := by rw [List.size_toArray]; exact r.length.symm
 refine ⟨"tuple", _, PyProof.Rows.slot_tuple_getitem.lookup, ht.typeIs, ?_⟩
 refine HT.getItem_tuple_cut ht hs pl pu (by rw [hlen]; exact hw) ?_ (by rw [hlen]; exact hz)
 rw [hlen]
 refine ⟨.ref s.heap.objs.size, _, I.laid (t' := s.toks) (o := .tup (cutV xs lo hi)) (fun b ob q => Heap.get?_push_of_some _ q) (Nat.le_refl _) ?_, rfl, q _ (I.hok.fresh (Nat.le_refl _))⟩
 exact ⟨Nat.le_trans (cutV_length xs lo hi) hz, _, (r.drop (HT.sIx xs.length 0 lo)).take (HT.sIx xs.length xs.length hi - HT.sIx xs.length 0 lo), IsTup.new _ _⟩
def rCatT (K : PySem.W.Frag) : R2 := fun x y H Q => ∃ a b xs ys, x = .ref a /\ y = .ref b /\ SqT K H a xs /\ SqT K H b ys /\ xs ≠ [] /\ xs.length + ys.length <= sizeLine /\
 (ys = [] -> Q (.ref a) H) /\ (ys ≠ [] -> ∀ p, H p = none -> Q (.ref p) (upd H p (.tup (xs ++ ys))))
theorem Vals.nil_iff {xs : List V} {us : List Value} (r : Vals xs us) : us = [] ↔ xs = [] := by
 cases r with
 | nil => simp
 | cons _ _ => simp
theorem op_catT : OpR X (binaryOp .Add) (rCatT X.K) := by
 intro pins s σ H x y v u Q I rx ry h
 obtain ⟨a, b, xs, ys, rfl, rfl, ha, hb, hx, hz, q1, q2⟩ := h
 cases rx
 cases ry
 obtain ⟨its, r1, p1, _⟩ := I.tuple ha
 obtain ⟨its2, r2, p2, _⟩ := I.tuple hb
 refine HT.cat_tup p1 p2 (fun z => hx (r1.nil_iff.mp z)) (fun z => ⟨.ref a, H, I, rfl, q1 (r2.nil_iff.mp z)⟩) (fun z => ?_) (by rw [<- r1.length, <- r2.length]; exact hz)
 refine ⟨.ref s.heap.objs.size, _, I.laid (t' := s.toks) (o := .tup (xs ++ ys)) (fun b ob q => Heap.get?_push_of_some _ q) (Nat.le_refl _) ?_, rfl, q2 (fun w => z (r2.nil_iff.mpr w)) _ (I.hok.fresh (Nat.le_refl _))⟩
 exact ⟨by rw [List.length_append]; exact hz, _, r1.append r2, IsTup.new _ _⟩
end
end L2
namespace L2
open PySem PySem.Spec PyProof.Rows
def ixN (n : Nat) (i : Int) : Option Nat := if 0 <= i then (if i < n then some i.toNat else none) else if -(n : Int) <= i then some (i + n).toNat else none
def atI {α : Type} (xs : List α) (i : Int) : Option α := (ixN xs.length i).bind fun j => xs[j]?
theorem ixN_seq {n : Nat} {i : Int} {j : Nat} (h : ixN n i = some j) : seqIndex? i n = some j /\ j < n /\ -(n : Int) <= i /\ i < n := by
 unfold ixN at h
 by_cases h0 : 0 <= i
 ·rw [if_pos h0] at h
  by_cases h1 : i < n
  ·rw [if_pos h1] at h
   have e : i.toNat = j := Option.some.inj h
   exact ⟨by rw [seqIndex_of h0 h1, e], by omega, by omega, h1⟩
  ·rw [if_neg h1] at h; cases h
 ·rw [if_neg h0] at h
  by_cases h1 : -(n : Int) <= i
  ·rw [if_pos h1] at h
   have e : (i + n).toNat = j := Option.some.inj h
   exact ⟨by rw [seqIndex_neg (by omega) h1, e], by omega, h1, by omega⟩
  ·rw [if_neg h1] at h; cases h
theorem atI_get {α : Type} {xs : List α} {i : Int} {v : α} (h : atI xs i = some v) : ∃ j, seqIndex? i xs.length = some j /\ xs[j]? = some v /\ j < xs.length /\ -(xs.length : Int) <= i /\ i < xs.length := by
 unfold atI at h
 cases e : ixN xs.length i with
 | none => rw [e] at h; cases h
 | some j =>
  rw [e] at h
  obtain ⟨h1, h2, h3, h4⟩ := ixN_seq e
  exact ⟨j, h1, h, h2, h3, h4⟩
def PlainIx (b : Expr) : Prop := ∀ o i, subscripted b false o i = operate [o, i] (getItem o i)
def IxR (X : Cx) (r : R2) : Prop :=
 ∀ (value slice : Expr) (pins : List (Addr × Obj)) (s : Shared) (σ : St) (H : Hp) (x y : V) (v u : Value) (Q : VK), Inv X pins σ H s -> RelV x v -> RelV y u -> r x y H Q ->
  subscripted slice false v u = operate [v, u] (getItem v u) -> wpAny (model X.prog X.w) X.A (subscriptTail value slice v u) (EP X pins σ Q) X.xe s
def MtR (X : Cx) (id : String) (r : V -> List V -> Hp -> VK -> Prop) : Prop :=
 ∀ (pins : List (Addr × Obj)) (s : Shared) (σ : St) (H : Hp) (x : V) (xs : List V) (v : Value) (us : List Value) (Q : VK), Inv X pins σ H s -> RelV x v -> Vals xs us -> r x xs H Q ->
  wpAny (model X.prog X.w) X.A (call (.builtin id) (v :: us)) (EP X pins σ Q) X.xe s
section
variable {X : Cx} {a b : Expr} {ta tb : TE} {pos : Pos}
theorem pe_ix {r : R2} (hr : IxR X r) (ha : PE X a ta) (hb : PE X b tb) (hs : PlainIx b) : PE X (.Subscript a b pos) (tOp r ta tb) := by
 intro pins s σ H Q I h
 exact Subscript_ (binT ha hb I h fun v u s2 x y H2 I2 rx ry q => hr a b pins s2 σ H2 x y v u Q I2 rx ry q (hs _ _))
def rIxL (K : PySem.W.Frag) : R2 := fun x y H Q => ∃ p xs i v, x = .ref p /\ y = .int i /\ SqL K H p xs /\ atI xs i = some v /\ Q v H
def rIxT (K : PySem.W.Frag) : R2 := fun x y H Q => ∃ p xs i v, x = .ref p /\ y = .int i /\ SqT K H p xs /\ atI xs i = some v /\ Q v H
def rIxS : R2 := fun x y H Q => ∃ z i c, x = .str z /\ y = .int i /\ z.length <= sizeLine /\ atI z.cps.toList i = some c /\ Q (.str ⟨#[c]⟩) H
theorem ix_list : IxR X (rIxL X.K) := by
 intro value slice pins s σ H x y v u Q I rx ry h hs
 obtain ⟨p, xs, i, z, rfl, rfl, hq, he, q⟩ := h
 cases rx
 obtain ⟨t, rfl⟩ := ry
 obtain ⟨its, r, pl, hz⟩ := I.list hq
 obtain ⟨j, h1, h2, h3, h4, h5⟩ := atI_get he
 obtain ⟨w, ew, rw'⟩ := r.get h2
 have hl := r.length
 have hn := line63
 have fin : EP X pins σ Q w s := ⟨z, H, I, rw', q⟩
 by_cases h0 : 0 <= i
 ·have hj : i.toNat = j := by
   rw [seqIndex_of h0 h5] at h1
   exact Option.some.inj h1
  exact item_listR pl.isList h0 (by omega) (by rw [hj]; simpa using ew) fin hs
 ·have hj : (i + (its.toArray.size : Int)).toNat = j := by
   rw [seqIndex_neg (by omega) h4] at h1
   rw [List.size_toArray, <- hl]
   exact Option.some.inj h1
  exact subscriptTail_builtinR (x := w) pl.isList.typeIs slot_list_getitem.lookup
   (wpAny_getItem_list_neg (Q := fun r s' => r = w /\ EP X pins σ Q r s') pl.isList (by omega) (by rw [List.size_toArray] <;> omega) (by omega) (by rw [hj]; simpa using ew) ⟨rfl, fin⟩) hs
theorem ix_tup : IxR X (rIxT X.K) := by
 intro value slice pins s σ H x y v u Q I rx ry h hs
 obtain ⟨p, xs, i, z, rfl, rfl, hq, he, q⟩ := h
 cases rx
 obtain ⟨t, rfl⟩ := ry
 obtain ⟨its, r, pl, hz⟩ := I.tuple hq
 obtain ⟨j, h1, h2, h3, h4, h5⟩ := atI_get he
 obtain ⟨w, ew, rw'⟩ := r.get h2
 have hl := r.length
 have hn := line63
 have fin : EP X pins σ Q w s := ⟨z, H, I, rw', q⟩
 exact subscriptTail_builtinR (x := w) pl.typeIs slot_tuple_getitem.lookup
  (getItem_tuple (j := j) (Q := fun r s' => r = w /\ EP X pins σ Q r s') pl (by omega) (by omega) (by rw [List.size_toArray, <- hl]; exact h1) (by simpa using ew) ⟨rfl, fin⟩) hs
theorem ix_str : IxR X rIxS := by
 intro value slice pins s σ H x y v u Q I rx ry h hs
 obtain ⟨z, i, c, rfl, rfl, hz, he, q⟩ := h
 obtain ⟨t, rfl⟩ := rx
 obtain ⟨t', rfl⟩ := ry
 obtain ⟨j, h1, h2, h3, h4, h5⟩ := atI_get he
 have hl : z.cps.toList.length = z.length := by simp [Str.length]
 rw [hl] at h1 h4 h5
 have hn := line63
 exact tail_any (typeIs_str s z t) slot_str_getitem.lookup (getItem_str (c := c) (by
  have e1 : decide (i < -(2 ^ 63 : Int)) = false := decide_eq_false (by omega)
  have e2 : decide (i ≥ 2 ^ 63) = false := decide_eq_false (by omega)
  rw [e1, e2, Bool.or_false]) (by rw [h1]; simpa using h2) ⟨.str ⟨#[c]⟩, H, I.tok _, ⟨_, rfl⟩, q⟩) hs
theorem slice_bounds (lo hi : Option Int) (n : Nat) : (sliceBounds lo hi none n).1 = ((HT.sIx n 0 lo : Nat) : Int) /\ (sliceBounds lo hi none n).2.1 = ((HT.sIx n n hi : Nat) : Int) /\ (sliceBounds lo hi none n).2.2 = 1 := by
 refine ⟨?_, ?_, rfl⟩
 ·cases lo with
  | none => simp [sliceBounds, HT.sIx]
  | some i =>
   simp only [sliceBounds, HT.sIx, Option.getD_none, show (1 : Int) > 0 by decide, if_true]
   by_cases h : i < 0
   ·simp only [h, if_true] <;> omega
   ·simp only [h, if_false] <;> omega
 ·cases hi with
  | none => simp [sliceBounds, HT.sIx]
  | some i =>
   simp only [sliceBounds, HT.sIx, Option.getD_none, show (1 : Int) > 0 by decide, if_true]
   by_cases h : i < 0
   ·simp only [h, if_true] <;> omega
   ·simp only [h, if_false] <;> omega
theorem slicePick_cut (its : List Value) (lo hi : Option Int) : slicePick its.toArray lo hi none = ((its.drop (HT.sIx its.length 0 lo)).take (HT.sIx its.length its.length hi - HT.sIx its.length 0 lo)).toArray := by
 obtain ⟨h1, h2, h3⟩ := slice_bounds lo hi its.toArray.size
 unfold slicePick
 rw [h1, h2, h3]
 simp only [sliceRange_one, pick_run, List.size_toArray] <;> rfl
def rSlL (K : PySem.W.Frag) : V -> Option Int -> Option Int -> Hp -> VK -> Prop := fun x lo hi H Q => ∃ a xs, x = .ref a /\ SqL K H a xs /\ ∀ p, H p = none -> Q (.ref p) (upd H p (.lst (cutV xs lo hi)))
theorem sl_list : SlR X (rSlL X.K) := by
 intro pins s σ H x v vl vu lo hi sl Q I rx hs pl pu h
 obtain ⟨a, xs, rfl, hx, q⟩ := h
 cases rx
 obtain ⟨its, r, ht, hz⟩ := I.list hx
 have hlen := r.length
 refine ⟨"list", _, slot_list_getitem.lookup, ht.isList.typeIs, ?_⟩
 refine wpAny_getItem_list_slice ht.isList hs pl pu .none (by simp) ?_ (by rw [List.size_toArray] <;> omega)
 rw [slicePick_cut, <- hlen]
 refine ⟨.ref s.heap.objs.size, _, I.laid (t' := s.toks) (o := .lst (cutV xs lo hi)) (fun b ob q => Heap.get?_push_of_some _ q) (Nat.le_refl _) ?_, rfl, q _ (I.hok.fresh (Nat.le_refl _))⟩
 exact ⟨Nat.le_trans (cutV_length xs lo hi) hz, _, 0, (r.drop (HT.sIx xs.length 0 lo)).take (HT.sIx xs.length xs.length hi - HT.sIx xs.length 0 lo), Heap.get?_push_size _ rfl⟩
theorem call_list_of : CallR X (.type "list") (fun xs H Q => ∃ p ys, xs = [.ref p] /\ (SqL X.K H p ys \/ SqT X.K H p ys) /\ ∀ l, H l = none -> Q (.ref l) (upd H l (.lst ys))) := by
 intro pins s σ H xs us Q I r h
 obtain ⟨p, ys, rfl, hq, q⟩ := h
 obtain ⟨u, rfl, rx⟩ := vals1 r
 cases rx
 have fin : ∀ (its : List Value), Vals ys its -> ys.length <= sizeLine -> ∀ (h' : Heap) (c' : Nat), (∀ b o', s.heap.get? b = some o' -> h'.get? b = some o') ->
   h'.get? s.heap.objs.size = some { cls := .type "list", dict := none, data := .seq its.toArray c', slots := #[] } -> EP X pins σ Q (.ref s.heap.objs.size) { s with heap := h' } := fun its r' hz h' c' kp e =>
  ⟨.ref s.heap.objs.size, _, I.laid (t' := s.toks) kp (Nat.le_refl _) (show ObjOk X.prog X.w _ h' _ (.lst ys) from ⟨hz, its, c', r', e⟩), rfl, q _ (I.hok.fresh (Nat.le_refl _))⟩
 rcases hq with hq | hq
 ·obtain ⟨its, r', pl, hz⟩ := I.list hq
  have hlen := r'.length
  obtain ⟨o, ho, hc, n, hd⟩ := pl.isList
  exact call_list_seq p (.inl rfl) ho hc hd (fun h' c' kp e => fin its r' hz h' c' kp e) (by simp only [List.size_toArray] <;> omega)
 ·obtain ⟨its, r', pl, hz⟩ := I.tuple hq
  have hlen := r'.length
  obtain ⟨o, ho, hc, n, hd⟩ := pl
  exact call_list_seq p (.inr rfl) ho hc hd (fun h' c' kp e => fin its r' hz h' c' kp e) (by simp only [List.size_toArray] <;> omega)
theorem call_tuple_of : CallR X (.type "tuple") (fun xs H Q => ∃ p ys, xs = [.ref p] /\ ((SqL X.K H p ys /\ ∀ l, H l = none -> Q (.ref l) (upd H l (.tup ys))) \/ (SqT X.K H p ys /\ Q (.ref p) H))) := by
 intro pins s σ H xs us Q I r h
 obtain ⟨p, ys, rfl, h⟩ := h
 obtain ⟨u, rfl, rx⟩ := vals1 r
 cases rx
 rcases h with ⟨hq, q⟩ | ⟨hq, q⟩
 ·obtain ⟨its, r', pl, hz⟩ := I.list hq
  have hlen := r'.length
  refine call_tuple_list pl.isList (fun h' kp => ?_) (by simp only [List.size_toArray] <;> omega)
  have I1 : Inv X pins σ H { s with heap := h' } := I.kept (t' := s.toks) kp
  have I2 : Inv X pins σ (upd H h'.objs.size (.tup ys)) { s with heap := h'.push { cls := .type "tuple", data := .seq its.toArray } } :=
   I1.laid (t' := s.toks) (fun b o e => Heap.get?_push_of_some _ e) (Nat.le_refl _) (show ObjOk X.prog X.w _ _ _ (.tup ys) from ⟨hz, its, r', IsTup.new _ _⟩)
  exact ⟨.ref h'.objs.size, _, I2, rfl, q _ (I1.hok.fresh (Nat.le_refl _))⟩
 ·obtain ⟨its, r', pl, hz⟩ := I.tuple hq
  exact call_tuple_same pl ⟨.ref p, H, I, rfl, q⟩
def tyV (K : PySem.W.Frag) (T : String) (x : V) (H : Hp) : Prop := match x with
 | .str _ => T = "str"
 | .int _ => T = "int"
 | .ref p => (T = "list" /\ ∃ xs, SqL K H p xs) \/ (T = "tuple" /\ ∃ o, K.lookup p = some o /\ o.cls = .type "tuple" /\ o.dict = none) \/
   (T = "dict" /\ ((∃ kvs, H p = some (.dK kvs)) \/ ∃ kvs, H p = some (.dT kvs))) \/ (T = "set" /\ ∃ S n, H p = some (.set S n))
 | _ => False
theorem tyV_is {pins : List (Addr × Obj)} {σ : St} {H : Hp} {s : Shared} {T : String} {x : V} {v : Value} (I : Inv X pins σ H s) (r : RelV x v) (ty : tyV X.K T x H) :
  s.TypeIs v T /\ ∀ a, v = .ref a -> ∃ ob, s.heap.get? a = some ob /\ ob.dict = none := by
 cases x with
 | str z =>
  obtain ⟨t, rfl⟩ := r
  cases (show T = "str" from ty)
  exact ⟨typeIs_str s z t, fun _ e => nomatch e⟩
 | int i =>
  obtain ⟨t, rfl⟩ := r
  cases (show T = "int" from ty)
  exact ⟨typeIs_int s i t, fun _ e => nomatch e⟩
 | ref p =>
  cases r
  rcases ty with ⟨rfl, xs, hq⟩ | ⟨rfl, o, hk, hc, hd⟩ | ⟨rfl, hk⟩ | ⟨rfl, S, n, hk⟩
  ·obtain ⟨its, _, pl, _⟩ := I.list hq
   refine ⟨pl.isList.typeIs, fun a e => ?_⟩
   cases e
   obtain ⟨o, n, e, c, hd, _⟩ := pl
   exact ⟨o, e, hd⟩
  ·refine ⟨⟨o, I.kIn p o hk, hc⟩, fun a e => ?_⟩
   cases e
   exact ⟨o, I.kIn _ o hk, hd⟩
  ·have z : ∃ o, s.heap.get? p = some o /\ o.ExactDict := by
    rcases hk with ⟨kvs, hk⟩ | ⟨kvs, hk⟩
    ·obtain ⟨_, _, _, _, o, _, _, e, ex, _⟩ := I.hok p _ hk
     exact ⟨o, e, ex⟩
    ·obtain ⟨_, _, _, _, o, _, _, e, ex, _⟩ := I.hok p _ hk
     exact ⟨o, e, ex⟩
   obtain ⟨o, e, ex⟩ := z
   refine ⟨⟨o, e, ex.1⟩, fun a e2 => ?_⟩
   cases e2
   exact ⟨o, e, ex.2.1⟩
  ·obtain ⟨o, _, _, _, e, ex, _⟩ := I.hok p _ hk
   refine ⟨⟨o, e, ex.1⟩, fun a e2 => ?_⟩
   cases e2
   exact ⟨o, e, ex.2.1⟩
 | _ => exact False.elim ty
def tBM (K : PySem.W.Frag) (T : String) (r : V -> List V -> Hp -> VK -> Prop) (to : TE) (t : TA) : TE := fun σ H Q => to σ H fun x H1 => tyV K T x H1 /\ t σ H1 fun xs H2 => r x xs H2 Q
variable {o e : Expr} {es : List Expr} {to : TE} {t : TA} {name : Str} {apos cpos : Pos} {T id : String} {r : V -> List V -> Hp -> VK -> Prop}
theorem pe_bm (pa : PlainAttrs T) (slot : Slot T name id) (hty : typeOf (.builtin id) = pure (.type "method_descriptor")) (hm : MtR X id r) (ho : PE X o to) (ha : PA X (e :: es) t)
  (hbase : attributeBase o name X.env (eval o X.env) = eval o X.env := by rfl)
  (hfew : ((backTo cpos (starEach (e :: es) X.env)).all (fun x => !x.1) && (backToKw cpos (keywordEach [] X.env)).all (fun x => x.1.isSome)
   && decide ((e :: es).length + ([] : List Keyword).length + (if ([] : List Keyword).isEmpty then 0 else 1) < 30)) = true := by rfl)
  (hline : (apos.endLine == cpos.line) = true := by rfl) (hs : starEach (e :: es) X.env = (false, eval e X.env) :: starEach es X.env := by rfl) (hplain : (backTo cpos (starEach es X.env)).any (·.1) = false := by rfl) :
  PE X (.Call (.Attribute o name apos) (e :: es) [] cpos) (tBM X.K T r to t) := by
 intro pins s σ H Q I h
 refine wpAny_Call_method_late hbase hfew hline rfl (thn (ho pins s σ H _ I h) fun v s1 ⟨x, H1, I1, r1, ty, q1⟩ => ?_)
 obtain ⟨h1, h2⟩ := tyV_is I1 r1 ty
 refine ⟨T, id, pa, slot, hty, h1, h2, ?_⟩
 have hA := ha cpos pins s1 σ H1 _ I1 q1
 rw [hs] at hA ⊢
 refine Calls.callWith_builtin (by show (false || (backTo cpos (starEach es X.env)).any (·.1)) = false; rw [hplain] <;> rfl) (Calls.evalArgs_plain ?_)
 exact thn hA fun us s2 ⟨vs, H2, I2, r2, q2⟩ => hm pins s2 σ H2 x vs v us Q I2 r1 r2 q2
end
end L2
namespace L2
open PySem PySem.Spec PyProof.Rows
def MtM (X : Cx) (id : String) (r : V -> List V -> Hp -> VK -> Prop) : Prop :=
 ∀ (pins : List (Addr × Obj)) (s : Shared) (σ : St) (H : Hp) (x : V) (xs : List V) (v : Value) (us : List Value) (Q : VK), Inv X pins σ H s -> RelV x v -> Vals xs us -> r x xs H Q ->
  wpAny (model X.prog X.w) X.A (call (.builtin id) (v :: us)) (EP X pins σ Q) X.xe s
theorem Vals.one : ∀ {x : V} {us : List Value}, Vals [x] us -> ∃ u, us = [u] /\ RelV x u
 | _, _, .cons r .nil => ⟨_, rfl, r⟩
section
variable {X : Cx} {pins : List (Addr × Obj)} {σ : St} {H : Hp} {s : Shared} {l b : Addr} {xs ys zs : List V}
theorem Inv.lset {its its' : List Value} {n : Nat} {f : Array Value -> Array Value} {t' : Nat} (I : Inv X pins σ H s) (hH : H l = some (.lst xs))
  (e : s.heap.get? l = some { cls := .type "list", data := .seq its.toArray n }) (hf : f its.toArray = its'.toArray) (hv : Vals ys its') (hz : ys.length <= sizeLine) :
  Inv X pins σ (upd H l (.lst ys)) { s with heap := s.heap.update l (Obj.mapSeq f), toks := t' } := by
 have q := PySem.IsL.update e f
 rw [hf] at q
 refine I.write (x := l) (e := l) (by rw [hH]; exact trivial) (.inl rfl) (fun b' u hb hu => (Heap.get?_update_other s.heap (Obj.mapSeq f) (Ne.symm hb)).trans hu) ⟨_, q⟩ ?_
 exact ⟨hz, its', _, hv, q⟩
theorem Inv.lstM (I : Inv X pins σ H s) (hH : H l = some (.lst xs)) : xs.length <= sizeLine /\ ∃ (its : List Value) (n : Nat), Vals xs its /\ xs.length = its.length /\ s.heap.get? l = some { cls := .type "list", data := .seq its.toArray n } := by
 obtain ⟨z, its, n, r, e⟩ := I.hok l _ hH
 exact ⟨z, its, n, r, r.length, e⟩
end
section
variable {X : Cx}
def rAppend : V -> List V -> Hp -> VK -> Prop := fun x vs H Q => ∃ l xs y, x = .ref l /\ vs = [y] /\ H l = some (.lst xs) /\ xs.length < sizeLine /\ Q .non (upd H l (.lst (xs ++ [y])))
theorem mt_append : MtM X "list.append" rAppend := by
 intro pins s σ H x vs v us Q I rx rv h
 obtain ⟨l, xs, y, rfl, rfl, hH, hz, q⟩ := h
 cases rx
 obtain ⟨u, rfl, ru⟩ := rv.one
 obtain ⟨z, its, n, r, hl, e⟩ := I.lstM hH
 refine call_meets F.slot_list_append ⟨_, e, rfl⟩ F.entry_list_append (F.args_list_append_2 _ _) (PySem.list_append l its.toArray n u (by rw [List.size_toArray]; omega)) ⟨e, ?_⟩
 refine ⟨.non, _, I.lset (its' := its ++ [u]) hH e (by simp) (r.append (.cons ru .nil)) ?_, rfl, q⟩
 rw [List.length_append, List.length_singleton]
 omega
end
section
variable {prog : Program} {w : World} {A : Around} {E : Value -> Shared -> Prop} {s : Shared}
end
section
variable {X : Cx}
end
end L2
namespace Att
open PySem PySem.W PySem.Calls PyProof.Rows
theorem ints_of_wellAll {P : Params} {h : Heap} : ∀ (ns : List Int) (vs : List Value), WellAll P h vs (ns.map WData.int) -> IntsAre vs ns := by
 intro ns
 induction ns with
 | nil =>
  intro vs w
  rw [List.map_nil] at w
  cases w
  exact .nil
 | cons n ns ih =>
  intro vs w
  rw [List.map_cons] at w
  cases w with
  | cons a b =>
   cases a
   exact .cons _ _ (ih _ b)
theorem script_of {l : OpenLaw} {n : Nat} (hn : l.most = some n) {P : Params} {h : Heap} {args : List WData} {vals : List Value}
  (hpre : l.row.toRowW.claim.pre args = true) (hwl : WellAll P h vals args) :
  ∃ a vs ns, vals = [Value.ref a] /\ args = [WData.list (ns.map WData.int)] /\ h.get? a = some { cls := .type "list", data := .seq vs.toArray } /\ IntsAre vs ns /\ ns.length <= n := by
 have hsh : WShape.hasAll [] args [.list .int] = true := (pre_splitW hpre).1
 have hc : l.pre.holds [] { args := args } = true := (pre_splitW hpre).2
 obtain ⟨d, r, rfl, h1, h2⟩ := hasAllW_cons hsh
 obtain rfl := hasAllW_nil h2
 obtain ⟨xs, rfl, h3⟩ := hasW_list h1
 obtain ⟨ns, rfl⟩ := items_int h3
 have hlen : ns.length <= n := by
  unfold OpenLaw.pre at hc
  have h4 : (WTm.not (.lt (.lit (.int (n : Int))) (.len (.arg 0)))).holds [] { args := [.list (ns.map .int)] } = true := by
   have h4 := (holds_andW hc).1
   rw [hn] at h4
   exact h4
  have h5 := condW_of h4 (w_not (w_lt w_lit (w_len_list (w_arg rfl))))
  rw [List.length_map] at h5
  refine Nat.le_of_not_lt fun q => ?_
  have q' : (n : Int) < ((ns.length : Nat) : Int) := by omega
  first
   | (rw [decide_eq_true q'] at h5; exact absurd h5 (by decide))
   | (simp at h5; omega)
 cases hwl with
 | cons w1 w2 =>
  cases w2
  cases w1 with
  | list ho hall => exact ⟨_, _, ns, rfl, rfl, ho, ints_of_wellAll ns _ hall, hlen⟩
theorem post_true (l : OpenLaw) (args : List WData) : l.row.toRowW.claim.post args (.bool true) args = true :=
 postW_of (r := l.row.toRowW) (X := (true == true))
  (show WShape.has [] (.bool true) .bool = true by first | rfl | decide | simp [WShape.has, WShape.arms, WShape.armsAll])
  (show (WTm.eq .res (.lit (.bool true))).value [] { args := args, res := some (.bool true), after := args } = some (.bool (true == true)) from w_eq_bool (w_res rfl) w_lit) rfl
theorem attach_call {l : OpenLaw} {n : Nat} {q : Program} {loose : List Str} {XP : (Str -> Option Value) -> Heap -> Prop} {YP : World -> Heap -> Prop} {d : DefRec}
  (hn : l.most = some n) (hdf : d.params.defaults = [])
  (call : ∀ (w : World) (s₀ s₁ : Shared) (mg mb : Str -> Option Value) (fa : Addr) (o : Obj) (pm cd doc : Value) (a : Addr) (vs : List Value) (ns : List Int),
   Ground q loose [] XP w s₀ mg mb s₁.heap -> YP w s₁.heap ->
   s₁.heap.get? fa = some o -> o.data = .func (docDef d.name d.params d.body d.scope pm cd doc) -> s₁.heap.CodeRec cd d.name -> mg d.name = some (.ref fa) ->
   s₁.heap.get? a = some { cls := .type "list", data := .seq vs.toArray } -> IntsAre vs ns -> ns.length <= n -> s₁.gens = #[] ->
   codeAny (model l.prog w) callerA (.call (.ref fa) ⟨[.ref a], []⟩) (fun r s' => r = .ok (.ret (.bool true)) /\ OldK s₁.heap s'.heap /\ s'.os = s₁.os /\ AllBare s'.gens) s₁) :
  WalkO q loose XP YP l.row.toRowW d [] (fun f vs => PySem.call f vs) := by
 intro w s₀ s₁ mg mb G Y fa o pm cd doc dV kV ho hd hcd hD hmg hg args vals as hpre hlay hrd hwl hlo
 obtain rfl : dV = .none := Dflts.none hD hdf
 obtain rfl : kV = .none := Dflts.noKw hD
 obtain ⟨a, vs, ns, rfl, rfl, hobj, hints, hlen⟩ := script_of hn hpre hwl
 refine enter_call (codeAny_mono (call w s₀ s₁ mg mb fa o pm cd doc a vs ns G Y ho (fd_plain hd) hcd hmg hobj hints hlen hg) fun r s' hq => ?_)
 obtain ⟨rfl, h2, h3, h4⟩ := hq
 exact ⟨.inl ⟨.bool true, .bool true, [], rfl, fun _ => rfl, .bool true, post_true l _, fun _ => ⟨List.Pairwise.nil, fun _ hm => (nomatch hm)⟩⟩, h2, h3, h4⟩
section
variable {prog : Program} {w : World} {A : Around} {E : Value -> Shared -> Prop} {s : Shared} {K : Frag}
end
end Att
namespace L2
open PySem PySem.Spec PyProof.Rows
theorem vals_ints : ∀ {vs : List Value} {ns : List Int}, IntsAre vs ns -> Vals (ns.map V.int) vs
 | _, _, .nil => .nil
 | _, _, .cons n t h => .cons ⟨t, rfl⟩ (vals_ints h)
def Only (H : Hp) : Prop := ∀ b, H b = none \/ ∃ o xs, H b = some (.frz o (.lst xs))
theorem law_call {P : Program} {w : World} {K : PySem.W.Frag} {mg mb : Str -> Option Value} {CX : CXT} {k : Nat} {fa a : Addr} {fd : FuncData} {x : Str} {sp : Sp} {s₁ : Shared} {vs : List Value} {ns : List Int}
  (KX : K.In s₁.heap) (hns : s₁.heap.Ns mainGlobals mg) (hb : s₁.heap.Ns builtinsNs mb) (hbb : ∀ x : Str, x ≠ "__name__" -> mb x = bootBuiltins x) (hlim : s₁.heap.NoLimit) (hg : s₁.gens = #[])
  (ha : s₁.heap.get? a = some { cls := .type "list", data := .seq vs.toArray }) (hi : IntsAre vs ns) (hl : ns.length <= sizeLine) (hr : Room k callerA)
  (F : ∀ base : Heap, K.In base -> base.Ns mainGlobals mg -> FnOk P w K mg base CX k fa fd [x] sp) (hbind : ∀ (s : Shared) (u : Value), BindsTo s fd ⟨[u], []⟩ [(x, u)])
  (hsp : ∀ H : Hp, Only H -> SqL K H a (ns.map V.int) -> sp [.ref a] H (fun v _ => v = .bl true) fun _ _ _ => False)
  (hCX : ∀ H e s', CX [] H s₁ (fun _ _ _ => False) e s' -> False) :
  codeAny (model P w) callerA (.call (.ref fa) ⟨[.ref a], []⟩) (fun r s' => r = .ok (.ret (.bool true)) /\ OldK s₁.heap s'.heap /\ s'.os = s₁.os /\ AllBare s'.gens) s₁ := by
 have rv := vals_ints hi
 have lenV := hi.length
 -- from an abstract heap in which nothing but the script may be tracked
 have core : ∀ H : Hp, Only H -> SqL K H a (ns.map V.int) -> HOk P w H s₁.heap -> (∀ b, H b ≠ none -> b = a) -> (H a ≠ none -> K.lookup a = none) ->
   codeAny (model P w) callerA (.call (.ref fa) ⟨[.ref a], []⟩) (fun r s' => r = .ok (.ret (.bool true)) /\ OldK s₁.heap s'.heap /\ s'.os = s₁.os /\ AllBare s'.gens) s₁ := by
  intro H hO hS hok hA hK
  have base_of : ∀ {b : Addr} {o : Obj}, s₁.heap.get? b = some o -> H b = none -> (hidT s₁.heap H).get? b = some o := fun e n => hidT_get e n
  have noA : ∀ {b : Addr} {o : Obj} {es : Array DictEntry} {ep : Nat}, s₁.heap.get? b = some o -> o.data = .dict es ep -> H b = none := fun {b o es ep} e d => by
   cases q : H b with
   | none => rfl
   | some u =>
    have e' : b = a := hA b (by rw [q]; simp)
    subst e'
    rw [ha] at e; cases e
    have d' : Data.seq vs.toArray _ = Data.dict es ep := d
    cases d'
  have nsK : ∀ {b : Addr} {m : Str -> Option Value}, s₁.heap.Ns b m -> (hidT s₁.heap H).Ns b m := fun {b m} ⟨o, es, ep, e, d, r⟩ => ⟨o, es, ep, base_of e (noA e d), d, r⟩
  have hKb : K.In (hidT s₁.heap H) := fun b o e => base_of (KX b o e) (by
   cases q : H b with
   | none => rfl
   | some u =>
    have e' : b = a := hA b (by rw [q]; simp)
    subst e'
    rw [hK (by rw [q]; simp)] at e; cases e)
  have hM : Mod K mg (hidT s₁.heap H) := ⟨hKb, nsK hns, ⟨mb, nsK hb, hbb⟩, let ⟨mc, h1, h2⟩ := hlim; ⟨mc, nsK h1, h2⟩⟩
  have e0 : Env0 P w K mg (hidT s₁.heap H) callerA [] s₁ H := ⟨rfl, hM, fun b o e => of_hidT e, Nat.le_of_eq (hidT_size _ _), trivial, fun b hb => absurd (show b ∈ ([] : List Addr) from hb) (by simp), hok, .of_eq hg⟩
  refine codeAny_mono ((F _ hKb (nsK hns)).run callerA [] s₁ H ⟨[.ref a], []⟩ [.ref a] [.ref a] _ _ hr e0 (hbind s₁ (.ref a)) (.cons rfl .nil) (hsp H hO hS)) fun r s' h => ?_
  cases r with
  | error e => exact (hCX H e s' h).elim
  | ok fl =>
   cases fl with
   | next => exact False.elim h
   | brk => exact False.elim h
   | cont => exact False.elim h
   | ret u =>
    obtain ⟨v, H', os, bare, un, hok', r', q⟩ := h
    have q' : v = .bl true := q
    subst q'
    obtain rfl : u = Value.bool true := r'
    refine ⟨rfl, OldK.of_keep fun b o e => ?_, os, bare⟩
    cases q : H b with
    | none => exact un.keep b o e q (by intro z; exact absurd (show b ∈ ([] : List Addr) from z) (by simp)) (by simp)
    | some u =>
     rcases hO b with z | ⟨ob, xs, z⟩
     ·rw [q] at z; cases z
     ·have z2 := un.frzs b ob _ z
      obtain ⟨e1, _⟩ := hok b _ z
      obtain ⟨e2, _⟩ := hok' b _ z2
      rw [e] at e1; cases e1
      exact e2
 cases hk : K.lookup a with
 | some o =>
  -- the script is one of the module's own objects
  have e := KX a o hk
  rw [ha] at e
  cases e
  refine core (fun _ => none) (fun _ => .inl rfl) (.inr ⟨_, vs.toArray, _, hk, rfl, rfl, rfl, by rw [List.size_toArray, lenV]; exact hl, by simpa using rv⟩) (fun b u z => by have z' : (none : Option HO) = some u := z; cases z') (fun b z => absurd rfl z) fun z => absurd rfl z
 | none =>
  refine core (fun b => if b = a then some (.frz { cls := .type "list", data := .seq vs.toArray } (.lst (ns.map V.int))) else none) (fun b => ?_) (.inl (.inr ⟨{ cls := .type "list", data := .seq vs.toArray }, if_pos rfl⟩)) (fun b u z => ?_) (fun b z => ?_) fun _ => hk
  ·by_cases hb : b = a
   ·exact .inr ⟨_, _, if_pos hb⟩
   ·exact .inl (if_neg hb)
  ·by_cases hb : b = a
   ·have z' := (if_pos hb).symm.trans z
    cases z'
    subst hb
    exact ⟨ha, by rw [List.length_map]; exact hl, vs, _, rv, ha⟩
   ·have z' := (if_neg hb).symm.trans z
    cases z'
  ·by_cases hb : b = a
   ·exact hb
   ·exact absurd (if_neg hb) z
end L2
namespace L2
open PySem PySem.Spec PyProof.Rows
theorem walk_of {l : PySem.W.OpenLaw} {n k : Nat} {q : Program} {loose : List Str} {XP : (Str -> Option Value) -> Heap -> Prop} {YP : World -> Heap -> Prop} {d : DefRec} {K : Params -> PySem.W.Frag} {CX : World -> CXT} {sp : World -> Sp} {x : Str}
  (hn : l.most = some n) (hn2 : n <= sizeLine) (hdf : d.params.defaults = []) (hr : Room k callerA)
  (hY : ∀ (w : World) (h : Heap), YP w h -> (K w.params).In h)
  (F : ∀ (w : World) (mg : Str -> Option Value) (fa : Addr) (h : Heap), (K w.params).In h -> h.Ns mainGlobals mg -> mg d.name = some (.ref fa) ->
   ∃ fd : FuncData, (∀ (s : Shared) (u : Value), BindsTo s fd ⟨[u], []⟩ [(x, u)]) /\
    ∀ base : Heap, (K w.params).In base -> base.Ns mainGlobals mg -> FnOk l.prog w (K w.params) mg base (CX w) k fa fd [x] (sp w))
  (hsp : ∀ (w : World) (H : Hp) (a : Addr) (ns : List Int), ns.length <= n -> Only H -> SqL (K w.params) H a (ns.map V.int) -> sp w [.ref a] H (fun v _ => v = .bl true) fun _ _ _ => False)
  (hCX : ∀ (w : World) (H : Hp) (s : Shared) (e : Value) (s' : Shared), CX w [] H s (fun _ _ _ => False) e s' -> False) :
  PySem.W.WalkO q loose XP YP l.row.toRowW d [] (fun f vs => PySem.call f vs) := by
 refine Att.attach_call hn hdf fun w s₀ s₁ mg mb fa o pm cd doc a vs ns G Y ho hd hcd hmg hobj hints hlen hg => ?_
 have KX := hY w _ Y
 obtain ⟨fd, hb, hF⟩ := F w mg fa _ KX G.T.g hmg
 exact law_call KX G.T.g G.T.b G.T.builtins G.T.nolimit hg hobj hints (Nat.le_trans hlen hn2) hr hF hb (fun H hO hS => hsp w H a ns hlen hO hS) fun H e s' => hCX w H s₁ e s'
end L2
namespace L2
open PySem PySem.Spec PyProof.Rows
def defArgs (s : Stmt) : Arguments := match s with
 | .FunctionDef _ a _ _ _ _ _ _ _ _ => a
 | _ => { posonlyargs := [], args := [], vararg := none, kwonlyargs := [], kw_defaults := [], kwarg := none, defaults := [] }
def defBody (s : Stmt) : List Stmt := match s with
 | .FunctionDef _ _ b _ _ _ _ _ _ _ => b
 | _ => []
def defScope (s : Stmt) : Scope := match s with
 | .FunctionDef _ _ _ _ _ _ sc _ _ _ => sc
 | _ => { kind := .function, names := [], isGenerator := false, isCoroutine := false }
abbrev CX0 : CXT := fun _ _ _ _ _ _ => False
abbrev E0 : XK := fun _ _ _ => False
theorem pass0 {X : Cx} : Passes CX0 X E0 := fun _ _ _ _ _ _ _ h => h.elim
structure Fun (K : PySem.W.Frag) (x qual : Str) (st : Stmt) (f : Addr) (fd : FuncData) : Prop where
 ex : ∃ (oc : Value) (od : Option Addr) (kV doc pm : Value) (an : Option Addr) (cdv ct : Value) (osl : Array (Option Value)),
  fd = PySem.W.fnOf x qual (defArgs st) (defBody st) (defScope st) .none kV doc pm an cdv ct /\ K.lookup f = some ⟨oc, od, .func fd, osl⟩ /\ PySem.W.codeIn K cdv qual = true
 kp : PySem.W.keepIn K (.ref f) = true
section
variable {P : Program} {w : World} {K : PySem.W.Frag} {mg : Str -> Option Value} {base : Heap}
theorem Fun.ok {x qual : Str} {st : Stmt} {f : Addr} {fd : FuncData} {N ps : List Str} {k : Nat} {sp : Sp} (F : Fun K x qual st f fd) (S : FnScope N ps (defScope st)) (len : ∀ vs H Q E, sp vs H Q E -> vs.length = ps.length)
  (hbody : ∀ (cdv : Value) (A : Around) (outer : List Env) (s : Shared) (H : Hp) (vs : List V) (Q : VK) (E : XK), Room k (A.deeper (envOfC qual (defScope st) s.heap.objs.size f cdv)) -> sp vs H Q E ->
   ∃ t, PSs (cxOf CX0 P w K mg base N qual (defScope st) f cdv A outer s H E).nox (defBody st) t /\ t { nx := fun _ H' => Q .non H', rt := Q } (start N vs) H) : FnOk P w K mg base CX0 (k + 1) f fd ps sp := by
 obtain ⟨oc, od, kV, doc, pm, an, cdv, ct, osl, rfl, lk, hcd⟩ := F.ex
 refine fn_of lk hcd S len fun A outer s H vs Q E hr hsp => ?_
 obtain ⟨t, h, q⟩ := hbody cdv A outer s H vs Q E hr hsp
 exact ⟨t, h.nox, q⟩
theorem Fun.binds {x qual : Str} {st : Stmt} {f : Addr} {fd : FuncData} {ps : List Str} (F : Fun K x qual st f fd)
  (h : ∀ (kV doc pm : Value) (an : Option Addr) (cdv ct : Value) (us : List Value), us.length = ps.length -> bindArgs (PySem.W.fnOf x qual (defArgs st) (defBody st) (defScope st) .none kV doc pm an cdv ct) ⟨us, []⟩ = pure (ps.zip us)) : Binds K fd ps [] := by
 obtain ⟨oc, od, kV, doc, pm, an, cdv, ct, osl, rfl, lk, hcd⟩ := F.ex
 exact .all (h kV doc pm an cdv ct)
theorem fun_mk {x qual : Str} {st : Stmt} {f : Addr} {oc : Value} {od an : Option Addr} {osl : Array (Option Value)} {kV doc pm cdv ct : Value} (l : K.lookup f = some ⟨oc, od, .func (PySem.W.fnOf x qual (defArgs st) (defBody st) (defScope st) .none kV doc pm an cdv ct), osl⟩)
  (c : PySem.W.codeIn K cdv qual = true) (k : PySem.W.keepIn K (.ref f) = true) : Fun K x qual st f (PySem.W.fnOf x qual (defArgs st) (defBody st) (defScope st) .none kV doc pm an cdv ct) := ⟨⟨oc, od, kV, doc, pm, an, cdv, ct, osl, rfl, l, c⟩, k⟩
end
section
variable {X : Cx}
theorem pv (i : Nat) {x : Str} {pos : Pos} (hN : X.N[i]? = some x := by rfl) (hv : Vis X.env.scope x := by first | exact Or.inl rfl | exact Or.inr (Or.inl rfl) | exact Or.inr (Or.inr rfl)) (hd : (x == ("__debug__" : Str)) = false := by decide)
  (hcd : (x == ("__classdict__" : Str)) = false := by decide) : PE X (.Name x pos) (tVar i) := pe_var hN hv hd hcd
end
theorem iteT {A B : Prop} (h : A) : if true = true then A else B := by
 rw [if_pos rfl]
 exact h
def Same (H H' : Hp) : Prop := ∀ b o, H b = some o -> H' b = some o
theorem Same.trans {H H1 H2 : Hp} (a : Same H H1) (b : Same H1 H2) : Same H H2 := fun c o h => b c o (a c o h)
theorem Same.seq {K : PySem.W.Frag} {H H' : Hp} {a : Addr} {xs : List V} (e : Same H H') (h : SqL K H a xs) : SqL K H' a xs := by
 rcases h with (h | ⟨o, h⟩) | h
 ·exact .inl (.inl (e _ _ h))
 ·exact .inl (.inr ⟨o, e _ _ h⟩)
 ·exact .inr h
end L2
end
section
set_option Elab.async false
set_option linter.all false
set_option maxRecDepth 100000
namespace L2
open PySem PySem.Spec PyProof.Rows
def Bd (n : Nat) (x : Int) : Prop := x.natAbs < 2 ^ n
theorem Bd.mono {m n : Nat} {x : Int} (h : Bd m x) (k : m <= n) : Bd n x := Nat.lt_of_lt_of_le h (Nat.pow_le_pow_right (by decide) k)
theorem Bd.bits {n : Nat} {x : Int} (h : Bd n x) : Builtin.Int.intBits x <= n + 1 := by
 unfold Builtin.Int.intBits
 split
 ·exact Nat.zero_le _
 ·have : x.natAbs.log2 <= n := by
   rcases Nat.eq_zero_or_pos x.natAbs with h0 | hp
   ·rw [h0]; simp
   ·exact Nat.le_of_lt ((Nat.log2_lt (Nat.ne_of_gt hp)).mpr h)
  omega
theorem Bd.log {n : Nat} {x : Int} (h : Bd n x) : x.natAbs.log2 <= n := by
 rcases Nat.eq_zero_or_pos x.natAbs with h0 | hp
 ·rw [h0]; simp
 ·exact Nat.le_of_lt ((Nat.log2_lt (Nat.ne_of_gt hp)).mpr h)
theorem Bd.of {n : Nat} {x m : Int} (h1 : -m <= x) (h2 : x <= m) (hm : m.natAbs < 2 ^ n) : Bd n x := by
 unfold Bd
 omega
section
variable {X : Cx}
def CMulB (i j : Int) : Prop := CMul i j \/ (Bd 8000 i /\ Bd 8000 j)
theorem CMulB.ok {i j : Int} (h : CMulB i j) : IntMulOk i j := by
 rcases h with h | ⟨h, k⟩
 ·exact h.ok
 ·have a := h.bits
  have b := k.bits
  have e : (2 : Nat) ^ 20 = 1048576 := by decide
  exact IntMulOk.of_bits (by omega) (by omega)
theorem op_mulB : OpR X (binaryOp .Mult) (rI CMulB fun i j => .int (i * j)) := opI fun _ _ _ _ _ _ _ hc q => mul_int q hc.ok
def CDivB (i j : Int) : Prop := 0 < j /\ Bd 8000 j
theorem op_fdivB : OpR X (binaryOp .FloorDiv) (rI CDivB fun i j => .int (i / j)) := opI fun i j _ _ _ _ _ hc q => by
 have := hc.2.log
 rw [<- Int.fdiv_eq_ediv_of_nonneg _ (Int.le_of_lt hc.1)] at q
 exact floordiv_int (by have := hc.1; omega) q (.inl (PyProof.noPylong_of_log2 (by omega)))
def CDivM (i j : Int) : Prop := j ≠ 0 /\ Bd 8000 j
end
mutual
def Is (H : Hp) : PyData -> V -> Prop
 | .none, v => v = .non
 | .bool b, v => v = .bl b
 | .int i, v => v = .int i
 | .str x, v => v = .str x
 | .tuple ds, v => ∃ a vs, v = .ref a /\ H a = some (.tup vs) /\ IsL H ds vs
 | .list ds, v => ∃ a vs, v = .ref a /\ H a = some (.lst vs) /\ IsL H ds vs
 | .dict _, _ => False
def IsL (H : Hp) : List PyData -> List V -> Prop
 | [], vs => vs = []
 | d :: ds, vs => ∃ x xs, vs = x :: xs /\ Is H d x /\ IsL H ds xs
end
mutual
def fixD : PyData -> Bool
 | .none => true
 | .bool _ => true
 | .int _ => true
 | .str _ => true
 | .tuple ds => fixDs ds
 | .list _ => false
 | .dict _ => false
def fixDs : List PyData -> Bool
 | [] => true
 | d :: ds => fixD d && fixDs ds
end
section
variable {X : Cx} {pins : List (Addr × Obj)} {σ : St} {H : Hp} {s : Shared}
end
def okD (d : PyData) : Bool := SeqAt.shaped d
section
variable {X : Cx}
theorem shaped_list {es : List PyData} (h : okD (.list es) = true) : PyData.canLayAll0 es = true /\ PyData.depthAll es <= 63 := by
 unfold okD SeqAt.shaped at h
 rw [Bool.and_eq_true] at h
 obtain ⟨h1, h2⟩ := h
 have h3 := of_decide_eq_true h2
 simp only [PyData.depth] at h3
 exact ⟨by simpa only [PyData.canLay0] using h1, by omega⟩
theorem shaped_can {d : PyData} (h : okD d = true) : d.canLay0 = true := by
 unfold okD SeqAt.shaped at h
 rw [Bool.and_eq_true] at h
 exact h.1
end
structure Cal (P : Program) (w : World) (K : PySem.W.Frag) (mg : Str -> Option Value) (base : Heap) (k : Nat) (x : Str) (ps : List Str) (sp : Sp) : Prop where
 ex : ∃ f fd, FnOk P w K mg base CX0 k f fd ps sp /\ Binds K fd ps [] /\ PySem.W.keepIn K (.ref f) = true /\ mg x = some (.ref f)
theorem Cal.mono {P : Program} {w : World} {K : PySem.W.Frag} {mg : Str -> Option Value} {base : Heap} {j k : Nat} {x : Str} {ps : List Str} {sp : Sp} (C : Cal P w K mg base j x ps sp) (h : j <= k) : Cal P w K mg base k x ps sp := by
 obtain ⟨f, fd, F, b, kp, m⟩ := C.ex
 exact ⟨f, fd, F.mono h, b, kp, m⟩
theorem Cal.of {P : Program} {w : World} {K : PySem.W.Frag} {mg : Str -> Option Value} {base : Heap} {k : Nat} {x : Str} {ps : List Str} {sp : Sp} {f : Addr} {fd : FuncData} {st : Stmt} (F : Fun K x x st f fd) (ok : FnOk P w K mg base CX0 k f fd ps sp) (b : Binds K fd ps []) (m : mg x = some (.ref f)) : Cal P w K mg base k x ps sp := ⟨f, fd, ok, b, F.kp, m⟩
section
variable {X : Cx} {k : Nat} {ps : List Str} {sp : Sp} {x : Str} {p pos : Pos} {e : Expr} {es : List Expr} {t : TA}
theorem pe_callC (C : Cal X.prog X.w X.K X.mg X.base k x ps sp) (hr : Room k X.A) (hg : Gl X x) (ha : PA X (e :: es) t) (hdb : (x == ("__debug__" : Str)) = false := by decide)
  (he : starEach (e :: es) X.env = (false, eval e X.env) :: starEach es X.env := by rfl) (hpl : (backTo pos (starEach es X.env)).any (·.1) = false := by rfl) :
  PE X (.Call (.Name x p) (e :: es) [] pos) (tCall sp [] E0 t) := by
 obtain ⟨f, fd, F, b, kp, m⟩ := C.ex
 exact pe_call F hr hg m kp b .nil pass0 ha hdb he hpl
end
theorem pe_ty {X : Cx} {x : Str} {T : String} {pos : Pos} (hg : Gl X x) (hm : X.mg x = none) (hv : bootBuiltins x = some (.type T)) (hn : x ≠ "__name__") (hd : (x == ("__debug__" : Str)) = false) : PE X (.Name x pos) (tC (.ty T)) := pe_bltn hg hm hv rfl hn hd
theorem same_new {H : Hp} {p : Addr} (h : H p = none) (o : HO) : Same H (upd H p o) := fun b u q => by rw [upd_ne (ne_of_none q h)]; exact q
theorem kit_same {K : PySem.W.Frag} (T : String) : PySem.W.kitOne K (.type T) (.type T) = some true := by
 unfold PySem.W.kitOne
 rw [if_pos (beq_self_eq_true _)]
theorem kit_ty {K : PySem.W.Frag} {t T : String} {b : Bool} (h1 : (Value.type t == Value.type T) = false) (h2 : PySem.W.kitMeta T = true) (h3 : (PySem.fastBuiltinMro t).map (·.contains (Value.type T)) = some b) : PySem.W.kitOne K (.type t) (.type T) = some b := by
 unfold PySem.W.kitOne PySem.W.kitCls
 rw [h1, if_neg Bool.false_ne_true]
 simp only [h2, if_true]
 exact h3
end L2
end
section
set_option Elab.async false
set_option linter.all false
set_option maxRecDepth 100000
namespace L2
open PySem PySem.Spec PyProof.Rows
theorem clos_go {env : Env} : ∀ (names : List (Str × NameKind)) (cs : List (Str × Addr)), (∀ x, (x, NameKind.free) ∈ names -> ∃ c, env.cells.lookup x = some c) ->
  (∀ x c, cs.lookup x = some c -> env.cells.lookup x = some c) ->
  ∃ cl, (forIn names cs fun (x : Str × NameKind) (r : List (Str × Addr)) => match x with
   | (name, kind) => if (kind == NameKind.free) = true then do let c <- cellOf env name; pure (ForInStep.yield ((name, c) :: r)) else pure (ForInStep.yield r) : Sem (List (Str × Addr))) = pure cl /\
   (∀ x c, cl.lookup x = some c -> env.cells.lookup x = some c) /\ (∀ x, (x, NameKind.free) ∈ names -> ∃ c, cl.lookup x = some c) /\ (∀ x c, cs.lookup x = some c -> ∃ c', cl.lookup x = some c')
 | [], cs, _, h2 => ⟨cs, rfl, h2, fun x hx => by simp at hx, fun x c e => ⟨c, e⟩⟩
 | (n, k) :: r, cs, h1, h2 => by
  by_cases hk : k = .free
  ·subst hk
   obtain ⟨c, hc⟩ := h1 n List.mem_cons_self
   have hh : ∀ x c', ((n, c) :: cs).lookup x = some c' -> env.cells.lookup x = some c' := by
    intro x c' e
    rw [List.lookup_cons] at e
    cases q : x == n with
    | true => rw [q] at e; cases e; rw [eq_of_beq q]; exact hc
    | false => rw [q] at e; exact h2 x c' e
   obtain ⟨cl, e, a, b, d⟩ := clos_go (env := env) r ((n, c) :: cs) (fun x hx => h1 x (List.mem_cons_of_mem _ hx)) hh
   refine ⟨cl, ?_, a, fun x hx => ?_, fun x c' e' => ?_⟩
   ·rw [List.forIn_cons]
    have ec : cellOf env n = pure c := by
     unfold cellOf
     rw [hc]
    simp only [beq_self_eq_true, if_true]
    rw [ec]
    exact e
   ·rcases List.mem_cons.mp hx with z | z
    ·cases z
     exact d n c (by rw [List.lookup_cons, beq_self_eq_true])
    ·exact b x z
   ·cases q : x == n with
    | true => exact d x c (by rw [List.lookup_cons, q])
    | false => exact d x c' (by rw [List.lookup_cons, q]; exact e')
  ·obtain ⟨cl, e, a, b, d⟩ := clos_go (env := env) r cs (fun x hx => h1 x (List.mem_cons_of_mem _ hx)) h2
   refine ⟨cl, ?_, a, fun x hx => ?_, d⟩
   ·rw [List.forIn_cons]
    have hb : (k == NameKind.free) = false := by simpa using hk
    simp only [hb, Bool.false_eq_true, if_false]
    exact e
   ·rcases List.mem_cons.mp hx with z | z
    ·cases z; exact absurd rfl hk
    ·exact b x z
theorem clos_of {env : Env} {scope : Scope} (h : ∀ x, (x, NameKind.free) ∈ scope.names -> ∃ c, env.cells.lookup x = some c) :
  ∃ cl, closureFor scope env = pure cl /\ (∀ x c, cl.lookup x = some c -> env.cells.lookup x = some c) /\ (∀ x, (x, NameKind.free) ∈ scope.names -> ∃ c, cl.lookup x = some c) := by
 obtain ⟨cl, e, a, b, _⟩ := clos_go (env := env) scope.names [] h (fun x c e => by simp at e)
 refine ⟨cl, ?_, a, b⟩
 exact (congrArg (fun m : Sem (List (Str × Addr)) => m >>= fun r => (pure r : Sem (List (Str × Addr)))) e).trans rfl
theorem comp_loop {prog : Program} {w : World} {A : Around} {R : Result -> Shared -> Prop} {s : Shared} {elt target iter : Expr} {ifs : List Expr} {scope : Scope} {pos : Pos} {it acc : Value} {env : Env} (I : Nat -> Shared -> Prop)
  (turn : ∀ n s, I n s -> wpAny (model prog w) A (pyNext it) (fun r s₁ => match r with
   | none => R (.ok .next) s₁
   | some v => wpAny (model prog w) A (letOwnedTupleGo target it v) (fun _ s₁ => wpAny (model prog w) A (assign target env v) (fun _ s₂ =>
     wpAny (model prog w) A (forIn ifs true fun c r => if r = true then do let ok <- isTrue c env (eval c env); pure (ForInStep.yield ok) else pure (ForInStep.yield r)) (fun ok s₃ =>
      if ok = true then wpAny (model prog w) A (eval elt env) (fun x s₄ =>
       wpAny (model prog w) A (call (.builtin "list.append") [acc, x]) (fun _ s₅ => ∃ m, m < n /\ I m s₅) (fun _ _ => False) s₄) (fun _ _ => False) s₃
      else ∃ m, m < n /\ I m s₃) (fun _ _ => False) s₂) (fun _ _ => False) s₁) (fun _ _ => False) s₁) (fun _ _ => False) s)
  (n : Nat) (h : I n s) :
  codeAny (model prog w) A (.compLoop (.ListComp elt [⟨target, iter, ifs, 0⟩] scope pos) 0 it acc env) R s := by
 refine codeAny_loop rfl I (fun n s hI => ?_) n h
 show wpAny _ A ((compTurn (.ListComp elt [⟨target, iter, ifs, 0⟩] scope pos) 0 it acc env).onRaise (fun x => do noteFrame x env; theTreesLotGoes x)) _ _ s
 refine wpAny_noted ?_
 rw [compTurn_list]
 refine wpAny_bind (wpAny_standAt (wpAny_bind (wpAny_mono (turn n s hI) (fun r s₁ h₁ => ?_) fun _ _ h' => h'.elim)))
 cases r with
 | none => exact wpAny_pure h₁
 | some v =>
  refine wpAny_bind (wpAny_mono h₁ (fun _ s₁ h₁ => ?_) fun _ _ h' => h'.elim)
  refine wpAny_bind (wpAny_mono h₁ (fun _ s₂ h₂ => wpAny_bind (wpAny_mono h₂ (fun ok s₃ h₃ => ?_) fun _ _ h' => h'.elim)) fun _ _ h' => h'.elim)
  cases ok with
  | false => exact wpAny_pure ⟨rfl, h₃⟩
  | true =>
   exact wpAny_bind (wpAny_bind (wpAny_mono h₃ (fun x s₄ h₄ => wpAny_bind (wpAny_mono h₄ (fun _ s₅ h₅ => wpAny_pure (wpAny_pure ⟨rfl, h₅⟩)) fun _ _ h' => h'.elim)) fun _ _ h' => h'.elim))
theorem relabel_go {env : Env} : ∀ {names : List (Str × NameKind)} {x : Str} {k : NameKind}, names.lookup x = some k ->
  (names.map fun (n, k) => if (k == NameKind.free && env.scope.kind == .function && env.kindOf n == some .cell) then (n, NameKind.cell) else (n, k)).lookup x = some k \/
  (k = .free /\ (names.map fun (n, k) => if (k == NameKind.free && env.scope.kind == .function && env.kindOf n == some .cell) then (n, NameKind.cell) else (n, k)).lookup x = some .cell)
 | [], _, _, h => by simp at h
 | (n, k') :: r, x, k, h => by
  rw [List.map_cons]
  dsimp only
  cases hx : x == n with
  | true =>
   simp only [List.lookup_cons, hx] at h
   have e : k = k' := (Option.some.inj h).symm
   subst e
   by_cases hc : (k == NameKind.free && env.scope.kind == .function && env.kindOf n == some .cell) = true
   ·rw [if_pos hc]
    refine .inr ⟨?_, by simp only [List.lookup_cons, hx]⟩
    simp only [Bool.and_eq_true] at hc
    exact eq_of_beq hc.1.1
   ·rw [if_neg hc]
    exact .inl (by simp only [List.lookup_cons, hx])
  | false =>
   simp only [List.lookup_cons, hx] at h
   have ih := @relabel_go env r x k h
   by_cases hc : (k' == NameKind.free && env.scope.kind == .function && env.kindOf n == some .cell) = true
   ·rw [if_pos hc]; simp only [List.lookup_cons, hx]; exact ih
   ·rw [if_neg hc]; simp only [List.lookup_cons, hx]; exact ih
theorem relabel_back {env : Env} : ∀ {names : List (Str × NameKind)} {x : Str} {k : NameKind}, (∀ y ∈ names, y.2 ≠ .cell) ->
  (names.map fun (n, k) => if (k == NameKind.free && env.scope.kind == .function && env.kindOf n == some .cell) then (n, NameKind.cell) else (n, k)).lookup x = some k -> (k = .cell \/ k = .free) -> (x, NameKind.free) ∈ names
 | [], _, _, _, h, _ => by simp at h
 | (n, k') :: r, x, k, nc, h, hk => by
  rw [List.map_cons] at h
  dsimp only at h
  cases hx : x == n with
  | true =>
   have e := eq_of_beq hx
   subst e
   by_cases hc : (k' == NameKind.free && env.scope.kind == .function && env.kindOf x == some .cell) = true
   ·simp only [Bool.and_eq_true] at hc
    rw [eq_of_beq hc.1.1]
    exact List.mem_cons_self
   ·rw [if_neg hc, List.lookup_cons, hx] at h
    cases h
    rcases hk with rfl | rfl
    ·exact absurd rfl (nc _ List.mem_cons_self)
    ·exact List.mem_cons_self
  | false =>
   refine List.mem_cons_of_mem _ (relabel_back (env := env) (fun y hy => nc y (List.mem_cons_of_mem _ hy)) ?_ hk)
   by_cases hc : (k' == NameKind.free && env.scope.kind == .function && env.kindOf n == some .cell) = true
   ·rw [if_pos hc, List.lookup_cons, hx] at h; exact h
   ·rw [if_neg hc, List.lookup_cons, hx] at h; exact h
theorem rl_local {scope : Scope} {env : Env} {x : Str} (h : scope.names.lookup x = some .local) : (relabel scope env).names.lookup x = some .local := lookup_relabel_local h
theorem rl_glob {scope : Scope} {env : Env} {x : Str} (h : scope.names.lookup x = some .globalImplicit) : (relabel scope env).names.lookup x = some .globalImplicit := by
 rcases relabel_go (env := env) h with z | ⟨z, _⟩
 ·exact z
 ·cases z
theorem rl_free {scope : Scope} {env : Env} {x : Str} (h : scope.names.lookup x = some .free) : (relabel scope env).names.lookup x = some .cell \/ (relabel scope env).names.lookup x = some .free := by
 rcases relabel_go (env := env) h with z | ⟨_, z⟩
 ·exact .inr z
 ·exact .inl z
theorem vis_local {scope : Scope} {env : Env} {x : Str} (h : scope.names.lookup x = some .local) : Vis (relabel scope env) x := .inl (rl_local h)
theorem vis_free {scope : Scope} {env : Env} {x : Str} (h : scope.names.lookup x = some .free) : Vis (relabel scope env) x := (rl_free h).elim (fun z => .inr (.inl z)) fun z => .inr (.inr z)
theorem loc_local {scope : Scope} {env : Env} {x : Str} (h : scope.names.lookup x = some .local) : Loc (relabel scope env) x := .inl (rl_local h)
def blk (own : Nat) (fr : List Nat) (σ : St) : St := List.replicate own none ++ fr.map fun j => (σ[j]?).join
def cxC (X : Cx) (N' : List Str) (scope : Scope) (cl : List (Str × Addr)) (fp : List Addr) (s3 : Shared) (H3 : Hp) : Cx := { X with
 N := N', s₀ := s3, H₀ := H3, env := compEnvC scope cl s3.heap.objs.size X.env, outer := X.stack, stack := X.stack, ex := fp, fn := fun _ => false, pn := [], xe := fun _ _ => False }
structure LcOk (X : Cx) (N' : List Str) (own : Nat) (fr : List Nat) (scope : Scope) : Prop where
 kind : scope.kind = .function
 len : N'.length = own + fr.length
 cell : ∀ y ∈ scope.names, y.2 ≠ .cell
 names : ∀ y ∈ scope.names, y.2 = .local -> scope.names.lookup y.1 = some .local
 free : ∀ x, (x, NameKind.free) ∈ scope.names -> X.env.scope.names.lookup x = some .cell \/ X.env.scope.names.lookup x = some .free
 slot : ∀ k j, fr[k]? = some j -> ∃ x, N'[own + k]? = some x /\ X.N[j]? = some x /\ scope.names.lookup x = some .free
theorem blk_get {own : Nat} {fr : List Nat} {σ : St} {i : Nat} {v : V} (h : (blk own fr σ)[i]? = some (some v)) : ∃ k j, i = own + k /\ fr[k]? = some j /\ σ[j]? = some (some v) := by
 unfold blk at h
 by_cases hi : i < own
 ·rw [List.getElem?_append_left (by simpa using hi), List.getElem?_replicate, if_pos hi] at h
  cases h
 ·rw [List.getElem?_append_right (by simpa using hi), List.length_replicate, List.getElem?_map] at h
  cases e : fr[i - own]? with
  | none => rw [e] at h; cases h
  | some j =>
   rw [e] at h
   simp only [Option.map_some, Option.some.injEq] at h
   refine ⟨i - own, j, by omega, e, ?_⟩
   cases q : σ[j]? with
   | none => rw [q] at h; cases h
   | some o => rw [q] at h; cases o with
    | none => cases h
    | some u => cases h; rfl
section
variable {X : Cx} {N' : List Str} {own : Nat} {fr : List Nat} {scope : Scope}
theorem inv_blk {pins : List (Addr × Obj)} {σ : St} {H3 : Hp} {s3 : Shared} {cl : List (Str × Addr)} {fp : List Addr} {h4 : Heap} {tk : Nat} (ok : LcOk X N' own fr scope) (I : Inv X pins σ H3 s3) (f2 : ∀ b ∈ fp, FpOk X pins H3 b) (flt : ∀ b ∈ fp, b < s3.heap.objs.size)
  (cl1 : ∀ x c, cl.lookup x = some c -> X.env.cells.lookup x = some c) (cl2 : ∀ x, (x, NameKind.free) ∈ scope.names -> ∃ c, cl.lookup x = some c)
  (m4 : Str -> Option Value) (n4 : h4.Ns s3.heap.objs.size m4) (k4 : ∀ b o, s3.heap.get? b = some o -> h4.get? b = some o) :
  Inv (cxC X N' scope cl fp s3 H3) [] (blk own fr σ) H3 { s3 with heap := h4, toks := tk } := by
 have stk : ∀ b, b ∈ frs X.stack -> b ∈ X.env.locals :: X.fs := I.stkSub
 have exfs : ∀ b ∈ fp, b ∉ frs X.stack := fun b hb z => by
  rcases List.mem_cons.mp (stk b z) with e | e
  ·exact (f2 b hb).2.1 e
  ·exact (f2 b hb).2.2.1 e
 have okk : (cxC X N' scope cl fp s3 H3).Ok := by
  refine ⟨I.ok.mod, ok.kind, I.ok.glob, I.ok.blt, Nat.le_refl _, fun x y c e1 e2 => I.ok.inj x y c (cl1 x c e1) (cl1 y c e2), fun x hx => ?_, fun x c hf => ?_, I.ok.hd, I.ok.frames, .inl rfl, fun b hb => ⟨Nat.ne_of_lt (flt b hb), fun x c e => (f2 b hb).2.2.2.2.1 x c (cl1 x c e)⟩,
   I.bs, Nat.le_trans I.ok.bsz I.sz, fun b o e hb => ?_, exfs, I.stack, I.stkFree⟩
  ·refine cl2 x ?_
   have hx : (relabel scope X.env).names.lookup x = some .cell \/ (relabel scope X.env).names.lookup x = some .free := hx
   rcases hx with hx | hx
   ·exact relabel_back (env := X.env) ok.cell hx (.inl rfl)
   ·exact relabel_back (env := X.env) ok.cell hx (.inr rfl)
  ·exact absurd (show false = true from hf) Bool.false_ne_true
  ·rcases (f2 b hb).2.2.2.1 with z | z
   ·exact I.ok.noex b o e z
   ·exact absurd (Nat.lt_of_lt_of_le (Heap.lt_size e) (Nat.le_trans I.ok.bsz z)) (Nat.lt_irrefl _)
 refine ⟨okk, rfl, I.bare, Un.kept k4, ⟨m4, n4, fun i x v e1 e2 e3 => ?_⟩, fun x c e => ?_, I.hok.fresh (Nat.le_refl _), fun x c e => I.freeC x c (cl1 x c e), fun p hp => absurd (show p ∈ ([] : List (Addr × Obj)) from hp) (by simp), I.hok.kept k4, ?_⟩
 ·obtain ⟨k, j, rfl, ej, es⟩ := blk_get e2
  obtain ⟨y, y1, y2, y0⟩ := ok.slot k j ej
  have y3 := PySem.mem_of_lookup y0
  rw [show (cxC X N' scope cl fp s3 H3).N = N' from rfl, y1] at e1
  cases e1
  obtain ⟨m, hn, hl⟩ := I.loc
  have vis : Vis X.env.scope x := (ok.free x y3).elim (fun z => .inr (.inl z)) fun z => .inr (.inr z)
  obtain ⟨u, r, l⟩ := hl j x v y2 es vis
  refine ⟨u, r, ?_⟩
  rcases l with ⟨l, _⟩ | ⟨_, c, ec, z⟩
  ·exfalso
   have l' : X.env.scope.names.lookup x = some .local := l
   rcases ok.free x y3 with q | q
   ·rw [q] at l'; cases l'
   ·rw [q] at l'; cases l'
  ·obtain ⟨c', ec'⟩ := cl2 x y3
   have := cl1 x c' ec'
   rw [ec] at this
   cases this
   obtain ⟨o, ho, hd⟩ := z
   refine .inr ⟨?_, c, ec', ⟨o, k4 c o ho, hd⟩⟩
   rcases e3 with z | z | z
   ·exfalso
    have z' : (relabel scope X.env).names.lookup x = some .local := z
    rcases rl_free (env := X.env) y0 with q | q
    ·rw [z'] at q; cases q
    ·rw [z'] at q; cases q
   ·exact .inl z
   ·exact .inr z
 ·obtain ⟨v, o, ho, hd⟩ := I.cell x c (cl1 x c e)
  exact ⟨v, o, k4 c o ho, hd⟩
 ·show (blk own fr σ).length = N'.length
  unfold blk
  rw [List.length_append, List.length_replicate, List.length_map, ok.len]
end
end L2
end
section
set_option Elab.async false
set_option linter.all false
set_option maxRecDepth 100000
namespace L2
open PySem PySem.Spec PyProof.Rows
def PTs (X : Cx) (ifs : List Expr) (tc : TT) : Prop :=
 ∀ (pins : List (Addr × Obj)) (s : Shared) (σ : St) (H : Hp) (Q : Bool -> Hp -> Prop), Inv X pins σ H s -> tc σ H Q -> wpAny (model X.prog X.w) X.A (forIn ifs true fun c r => if r = true then do let ok <- isTrue c X.env (eval c X.env); pure (ForInStep.yield ok) else pure (ForInStep.yield r)) (TP X pins σ Q) X.xe s
def tYes : TT := fun _ H Q => Q true H
theorem pts_nil {X : Cx} : PTs X [] tYes := fun pins s σ H Q I h => wpAny_tests_nil ⟨H, I, h⟩
theorem pts_one {X : Cx} {c : Expr} {tc : TT} (h : PT X c tc) : PTs X [c] tc := fun pins s σ H Q I hq => wpAny_tests_one (h pins s σ H Q I hq)
def lcGo (own : Nat) (fr : List Nat) (g : TG) (tc : TT) (te : TE) (J : It) (σ : St) (H1 : Hp) (Q : VK) : Prop := ∀ D, H1 D = none -> ∃ W : Nat -> Nat -> List V -> St -> Hp -> Prop, (∃ m, W 0 m [] (blk own fr σ) (upd H1 D (.lst []))) /\ ∀ i m ys σ' H', W i m ys σ' H' ->
 (J.stop i H' /\ Q (.ref D) H') \/ (J.go i H' /\ ∀ x H2, J.yld i H' x H2 -> g x σ' H2 fun σ3 H3 => tc σ3 H3 fun b H4 => if b = true then te σ3 H4 fun y H5 => H5 D = some (.lst ys) /\ ys.length < sizeLine /\ ∃ m', m' < m /\ W (i + 1) m' (ys ++ [y]) σ3 (upd H5 D (.lst (ys ++ [y])))
  else ∃ m', m' < m /\ W (i + 1) m' ys σ3 H4)
def tLC (own : Nat) (fr : List Nat) (wi : TI) (g : TG) (tc : TT) (te : TE) : TE := fun σ H Q => wi σ H fun J H1 => lcGo own fr g tc te J σ H1 Q
structure Own (X : Cx) (pins : List (Addr × Obj)) (C : Addr) (H : Hp) (s : Shared) : Prop where
 ns : ∃ m, s.heap.Ns C m
 hn : H C = none
 ne : C ≠ X.env.locals
 ab : X.s₀.heap.objs.size <= C
 nc : ∀ x c, X.env.cells.lookup x = some c -> c ≠ C
 np : ∀ p ∈ X.pn ++ pins, p.1 ≠ C
section
variable {X : Cx} {N' : List Str} {own : Nat} {fr : List Nat} {scope : Scope} {elt tg iter : Expr} {ifs : List Expr} {pos : Pos}
theorem Own.go {pins : List (Addr × Obj)} {σ : St} {H : Hp} {s : Shared} {C : Addr} {h' : Heap} (O : Own X pins C H s) (I : Inv X pins σ H s) (sb : Heap.SameBut C s.heap h') : Inv X pins σ H { s with heap := h' } :=
 I.turned (t' := s.toks) (fun b o hb e => sb.extBut b o hb e) O.hn O.ne (.inr O.ab) O.nc O.np
theorem comp_run {pins : List (Addr × Obj)} {σ : St} {H2 : Hp} {s2 : Shared} {J : It} {fp : List Addr} {it : Addr} {tn : Nat -> Heap -> Prop} {cl : List (Str × Addr)} {Q : VK} {g : TG} {tc : TT} {te : TE} {RR : Value -> Addr -> Result -> Shared -> Prop} {E : Value -> Shared -> Prop}
  (hc : X.calm = true) (ok : LcOk X N' own fr scope) (I2 : Inv X pins σ H2 s2) (T : Turn X.prog X.w X.K tg J fp it tn) (st2 : tn 0 s2.heap) (f2 : ∀ b ∈ fp, FpOk X pins H2 b)
  (cl1 : ∀ x c, cl.lookup x = some c -> X.env.cells.lookup x = some c) (cl2 : ∀ x, (x, NameKind.free) ∈ scope.names -> ∃ c, cl.lookup x = some c)
  (hg : ∀ fp s3 H3, PG (cxC X N' scope cl fp s3 H3) tg g) (ht : ∀ fp s3 H3, PTs (cxC X N' scope cl fp s3 H3) ifs tc) (he : ∀ fp s3 H3, PE (cxC X N' scope cl fp s3 H3) elt te)
  (h : lcGo own fr g tc te J σ H2 Q)
  (fin : ∀ D C s' H', Inv X pins σ H' s' -> Own X pins C H' s' -> Q (.ref D) H' -> RR (.ref D) C (.ok .next) s') :
  wpAny (model X.prog X.w) X.A (newList []) (fun acc s₃ => wpAny (model X.prog X.w) X.A (newFunctionEnv scope X.env.globals cl [] X.env.qual none .none (some X.env)) (fun cenv s₄ =>
   codeAny (model X.prog X.w) X.A (.compStart (.ListComp elt [⟨tg, iter, ifs, 0⟩] scope pos) 0 (.ref it) acc { cenv with scope := relabel scope X.env }) (RR acc cenv.locals) s₄) E s₃) E s2 := by
 obtain ⟨W, ⟨m0, w0⟩, turn⟩ := h s2.heap.objs.size (I2.hok.fresh (Nat.le_refl _))
 refine wpAny_newObj_type (wpAny_newFunctionEnv ok.cell (by intro y hy; simp at hy) (fun h₁ hns₁ hsb₁ => ?_) ok.kind)
 dsimp only at hns₁ hsb₁ ⊢
 have I3 : Inv X pins σ (upd H2 s2.heap.objs.size (.lst [])) { s2 with heap := s2.heap.push { cls := .type "list", dict := none, data := .seq ([] : List Value).toArray } } :=
  I2.laid (t' := s2.toks) (fun b u e => Heap.get?_push_of_some _ e) (Nat.le_refl _) ⟨Nat.zero_le _, [], 0, .nil, Heap.get?_push_size _ rfl⟩
 generalize hH3 : upd H2 s2.heap.objs.size (.lst []) = H3 at w0 I3
 generalize hS3 : ({ s2 with heap := s2.heap.push { cls := .type "list", dict := none, data := .seq ([] : List Value).toArray } } : Shared) = S3 at I3
 have e3 : s2.heap.push { cls := .type "list", dict := none, data := .seq ([] : List Value).toArray } = S3.heap := by rw [<- hS3]
 have k23 : ∀ b o, s2.heap.get? b = some o -> S3.heap.get? b = some o := fun b o e => by rw [<- e3]; exact Heap.get?_push_of_some _ e
 rw [e3] at hns₁ hsb₁ ⊢
 have st3 : tn 0 S3.heap := T.keep _ _ _ st2 fun b _ o e => k23 b o e
 have flt : ∀ b ∈ fp, b < S3.heap.objs.size := fun b hb => by
  obtain ⟨o, e, _⟩ := T.obj _ _ st3 b hb
  exact Heap.lt_size e
 have flt2 : ∀ b ∈ fp, b < s2.heap.objs.size := fun b hb => by
  obtain ⟨o, e, _⟩ := T.obj _ _ st2 b hb
  exact Heap.lt_size e
 have f3 : ∀ b ∈ fp, FpOk X pins H3 b := fun b hb => by
  refine ⟨?_, (f2 b hb).2⟩
  rw [<- hH3, upd_ne (Nat.ne_of_lt (flt2 b hb))]
  exact (f2 b hb).1
 have k34 : ∀ b o, S3.heap.get? b = some o -> h₁.get? b = some o := fun b o e => hsb₁.extBut b o (Nat.ne_of_lt (Heap.lt_size e)) (Heap.get?_push_of_some _ e)
 have I4 : Inv (cxC X N' scope cl fp S3 H3) [] (blk own fr σ) H3 { S3 with heap := h₁, toks := s2.toks + ([] : List (Str × Value)).length } := inv_blk ok I3 f3 flt cl1 cl2 _ hns₁ k34
 have st4 : tn 0 h₁ := T.keep _ _ _ st3 fun b _ o e => k34 b o e
 -- back in the def
 have back : ∀ {σ' H' s'}, Inv (cxC X N' scope cl fp S3 H3) [] σ' H' s' -> Inv X pins σ H' s' /\ Own X pins S3.heap.objs.size H' s' := fun {σ' H' s'} I' => by
  have J1 : Inv X pins σ H' s' := I3.call' I'.os I'.base I'.hok I'.bare fun b hb => ⟨(f3 b hb).2.2.2.1, (f3 b hb).2.1, (f3 b hb).2.2.2.2⟩
  refine ⟨J1, ⟨let ⟨m, hn, _⟩ := I'.loc; ⟨m, hn⟩, I'.free, Nat.ne_of_gt I3.lt, I3.sz, fun x c e z => ?_, fun p hp z => ?_⟩⟩
  ·obtain ⟨v, q⟩ := I3.cell x c e
   exact absurd q.lt (by rw [z]; exact Nat.lt_irrefl _)
  ·exact absurd (Heap.lt_size (I3.pin p hp).1) (by rw [z]; exact Nat.lt_irrefl _)
 have stat : ∀ {H' : Hp}, (∀ b ∈ fp, H' b = none) -> ∀ b ∈ fp, FpOk (cxC X N' scope cl fp S3 H3) [] H' b := fun hn b hb =>
  ⟨hn b hb, (I4.ok.exf b hb).1, I4.ok.exfs b hb, .inl hb, (I4.ok.exf b hb).2, fun p hp => absurd (show p ∈ ([] : List (Addr × Obj)) from hp) (by simp)⟩
 have loop : codeAny (model X.prog X.w) X.A (.compLoop (.ListComp elt [⟨tg, iter, ifs, 0⟩] scope pos) 0 (.ref it) (.ref s2.heap.objs.size) (cxC X N' scope cl fp S3 H3).env) (RR (.ref s2.heap.objs.size) S3.heap.objs.size) { S3 with heap := h₁, toks := s2.toks + ([] : List (Str × Value)).length } := by
  refine comp_loop (fun n s' => ∃ i ys σ' H', Inv (cxC X N' scope cl fp S3 H3) [] σ' H' s' /\ tn i s'.heap /\ (∀ b ∈ fp, H' b = none) /\ W i n ys σ' H') ?_ m0 ⟨0, [], _, H3, I4, st4, fun b hb => (f3 b hb).1, w0⟩
  rintro n s5 ⟨i, ys, σ5, H5, I5, st5, fr5, w5⟩
  rcases turn i n ys σ5 H5 w5 with ⟨stop, qn⟩ | ⟨go, step⟩
  ·refine thn (T.done (cxC X N' scope cl fp S3 H3) rfl rfl rfl hc i [] s5 σ5 H5 (fun _ _ => False) I5 (stat fr5) st5 stop) fun r s6 ⟨hr, I6⟩ => ?_
   subst hr
   obtain ⟨J1, O⟩ := back I6
   exact fin _ _ s6 H5 J1 O qn
  ·refine thn (T.item (cxC X N' scope cl fp S3 H3) rfl rfl rfl hc i [] s5 σ5 H5 (fun _ _ => False) I5 (stat fr5) st5 go) fun r s6 ⟨u, hr, h6⟩ => ?_
   subst hr
   refine thn h6 fun _ s7 ⟨x, H7, I7, r7, y7, st7, fr7⟩ => ?_
   have I7' := I7.pinned (stat fr7) (T.obj _ _ st7)
   refine thn (hg fp S3 H3 _ s7 σ5 H7 x u _ I7' r7 (step x H7 y7)) fun _ s8 ⟨σ8, H8, I8, q8⟩ => ?_
   refine thn (ht fp S3 H3 _ s8 σ8 H8 _ I8 q8) fun b s9 ⟨H9, I9, q9⟩ => ?_
   have again : ∀ {σ' H' s' m' ys'}, m' < n -> Inv (cxC X N' scope cl fp S3 H3) ([] ++ pinsAt fp s7.heap) σ' H' s' -> W (i + 1) m' ys' σ' H' -> ∃ m, m < n /\ ∃ i ys σ' H', Inv (cxC X N' scope cl fp S3 H3) [] σ' H' s' /\ tn i s'.heap /\ (∀ b ∈ fp, H' b = none) /\ W i m ys σ' H' := fun {σ' H' s' m' ys'} hm I' w' => by
    refine ⟨m', hm, i + 1, ys', σ', H', I'.unpinned, T.keep _ _ _ st7 fun b hb o e => (I'.pin (b, o) (List.mem_append_right _ (List.mem_append_right _ (mem_pinsAt hb e)))).1, fun b hb => ?_, w'⟩
    obtain ⟨o, e, d⟩ := T.obj _ _ st7 b hb
    exact (I'.pin (b, o) (List.mem_append_right _ (List.mem_append_right _ (mem_pinsAt hb e)))).2.1
   cases b with
   | false =>
    rw [if_neg Bool.false_ne_true] at q9 ⊢
    obtain ⟨m', hm, w9⟩ := q9
    exact again hm I9 w9
   | true =>
    rw [if_pos rfl] at q9 ⊢
    refine thn (he fp S3 H3 _ s9 σ8 H9 _ I9 q9) fun v s10 ⟨y, H10, I10, r10, q10⟩ => ?_
    obtain ⟨hD, hz, m', hm, w10⟩ := q10
    refine thn (mt_append (X := cxC X N' scope cl fp S3 H3) _ s10 σ8 H10 (.ref s2.heap.objs.size) [y] (.ref s2.heap.objs.size) [v] (fun _ H' => W (i + 1) m' (ys ++ [y]) σ8 H') I10 rfl (.cons r10 .nil) ⟨_, ys, y, rfl, rfl, hD, hz, w10⟩) fun v' s11 ⟨_, H11, I11, _, q11⟩ => ?_
    exact again hm I11 q11
 subst hS3
 exact codeAny_compStart_list loop (T.self _ 0 _ _ _ st4 loop)
theorem pe_lc {wi : TI} {g : TG} {tc : TT} {te : TE} (hc : X.calm = true) (ok : LcOk X N' own fr scope) (hi : PI X tg iter wi)
  (hg : ∀ cl fp s3 H3, PG (cxC X N' scope cl fp s3 H3) tg g) (ht : ∀ cl fp s3 H3, PTs (cxC X N' scope cl fp s3 H3) ifs tc) (he : ∀ cl fp s3 H3, PE (cxC X N' scope cl fp s3 H3) elt te)
  (hs : ∀ x, foldedSetIterable iter X.env x = pure x := by intro _; rfl) : PE X (.ListComp elt [⟨tg, iter, ifs, 0⟩] scope pos) (tLC own fr wi g tc te) := by
 intro pins s σ H Q I h
 obtain ⟨cl, ecl, cl1, cl2⟩ := clos_of (env := X.env) (scope := scope) fun x hx => I.ok.has x (ok.free x hx)
 rw [eval_ListComp]
 refine wpAny_comprehension_free (use := none) rfl hs ecl ok.kind ok.names (thn (hi pins s σ H _ I h) fun v s1 h1 => thn h1 fun itv s2 h2 => ?_)
 obtain ⟨it, fp, tn, J, H2, rfl, I2, T, st2, f2, h2⟩ := h2
 refine comp_run (RR := fun acc C => compPost (model X.prog X.w) X.A X.xe none (EP X pins σ Q) acc C) hc ok I2 T st2 f2 cl1 cl2 (hg cl) (ht cl) (he cl) h2 ?_
 intro D C s' H' J1 O q
 obtain ⟨m, hn⟩ := O.ns
 exact ⟨m, hn, fun h'' sb => ⟨.ref D, H', O.go J1 sb, rfl, q⟩⟩
theorem ps_setLC {wi : TI} {g : TG} {tc : TT} {te : TE} {i : Nat} {y : Str} {py spos : Pos} (hN : X.N.Nodup) (hiN : X.N[i]? = some y) (hy : X.env.scope.names.lookup y = some .local) (hc : X.calm = true) (ok : LcOk X N' own fr scope) (hi : PI X tg iter wi)
  (hg : ∀ cl fp s3 H3, PG (cxC X N' scope cl fp s3 H3) tg g) (ht : ∀ cl fp s3 H3, PTs (cxC X N' scope cl fp s3 H3) ifs tc) (he : ∀ cl fp s3 H3, PE (cxC X N' scope cl fp s3 H3) elt te)
  (hsw : swapsWith (.ListComp elt [⟨tg, iter, ifs, 0⟩] scope pos) (some (.Name y py)) spos.line X.env = pure true)
  (hs : ∀ x, foldedSetIterable iter X.env x = pure x := by intro _; rfl) : PS X (.Assign [.Name y py] (.ListComp elt [⟨tg, iter, ifs, 0⟩] scope pos) spos) (fun D σ H => tLC own fr wi g tc te σ H fun v H' => D.nx (σ.set i (some v)) H') := by
 intro pins s σ H D I h
 obtain ⟨cl, ecl, cl1, cl2⟩ := clos_of (env := X.env) (scope := scope) fun x hx => I.ok.has x (ok.free x hx)
 rw [exec_Assign_Name_used _ _ _ _ hsw]
 refine wpAny_bind (wpAny_standAt (wpAny_bind ?_))
 show wpAny _ _ (do let _ <- comprehension (.ListComp elt [⟨tg, iter, ifs, 0⟩] scope pos) scope X.env _ (newList []) false (eval iter X.env) (some (assign (.Name y py) X.env))) _ _ s
 refine wpAny_bind (wpAny_mono (wpAny_comprehension_free (use := some (assign (.Name y py) X.env)) (Q := fun _ s' => SP X pins D .next s') rfl hs ecl ok.kind ok.names
  (thn (hi pins s σ H _ I h) fun v s1 h1 => thn h1 fun itv s2 h2 => ?_)) (fun _ s' hq => wpAny_pure (wpAny_pure hq)) fun _ _ e => e)
 obtain ⟨it, fp, tn, J, H2, rfl, I2, T, st2, f2, h2⟩ := h2
 refine comp_run (RR := fun acc C => compPost (model X.prog X.w) X.A X.xe (some (assign (.Name y py) X.env)) (fun _ s' => SP X pins D .next s') acc C) hc ok I2 T st2 f2 cl1 cl2 (hg cl) (ht cl) (he cl) h2 ?_
 intro D' C s' H' J1 O q
 show wpAny _ _ (assign (.Name y py) X.env (.ref D')) _ _ _
 refine wpAny_assign_Name (store_ok2 J1 hN hiN (.inl hy) (v := .ref D') rfl (fun s'' J2 sb => ?_) (.inr hy))
 obtain ⟨m, hn⟩ := O.ns
 obtain ⟨a, sb, ha⟩ := sb
 have nea : C ≠ a := by
  rcases ha with ha | ha
  ·rw [ha]; exact O.ne
  ·exact fun z => O.nc y a ha z.symm
 refine ⟨m, hn.sameBut sb nea, fun h'' sb' => ?_⟩
 have O2 : Own X pins C H' s'' := ⟨⟨m, hn.sameBut sb nea⟩, O.hn, O.ne, O.ab, O.nc, O.np⟩
 exact ⟨_, H', O2.go J2 sb', q⟩
end
end L2
end
section
set_option Elab.async false
set_option linter.all false
set_option maxRecDepth 100000
namespace DL
open PySem L2 PyProof.Rows
structure KW where
 fr : PySem.W.Frag
 w : World
instance : CoeOut KW PySem.W.Frag := ⟨KW.fr⟩
abbrev kwOf (X : Cx) : KW := ⟨X.K, X.w⟩
def hT (ks : List Int) : Int := reduceHash (Builtin.Tuple.tupleHashOf (ks.map hashInt))
def phiD (a : Addr) (ts : List (List Int × Addr × V)) : Heap -> Prop := fun h => (a == sysModules) = false /\ ts.length <= sizeLine /\ (ts.map (·.1)).Nodup /\
 ∃ xs : List (List Int × Addr × Value), Paired (fun (t : List Int × Addr × V) (x : List Int × Addr × Value) => t.1 = x.1 /\ t.2.1 = x.2.1 /\ RelV t.2.2 x.2.2) ts xs /\
  ∃ (o : Obj) (es : Array DictEntry) (ep : Nat), h.get? a = some o /\ o.ExactDict /\ o.data = .dict es ep /\ es.toList = xs.map fun x => ⟨hT x.1, .ref x.2.1, x.2.2⟩
def txK (ts : List (Str × V)) : List (Key × V) := ts.map fun t => (Sum.inr t.1, t.2)
mutual
def Is (K : KW) (H : Hp) : PyData -> V -> Prop
 | .none, v => v = .non
 | .bool b, v => v = .bl b
 | .int i, v => v = .int i
 | .str x, v => v = .str x
 | .tuple ds, v => ∃ a vs, v = .ref a /\ SqT K H a vs /\ IsL K H ds vs
 | .list ds, v => ∃ a vs, v = .ref a /\ H a = some (.lst vs) /\ IsL K H ds vs
 | .dict kvs, v => ∃ a ts, v = .ref a /\ H a = some (.ext (phiD a ts)) /\ IsKV K H kvs ts
def IsL (K : KW) (H : Hp) : List PyData -> List V -> Prop
 | [], vs => vs = []
 | d :: ds, vs => ∃ x xs, vs = x :: xs /\ Is K H d x /\ IsL K H ds xs
def IsKV (K : KW) (H : Hp) : List (PyData × PyData) -> List (List Int × Addr × V) -> Prop
 | [], ts => ts = []
 | (k, d) :: r, ts => ∃ t tr, ts = t :: tr /\ k = .tuple (t.1.map PyData.int) /\ SqT K H t.2.1 (t.1.map V.int) /\ Is K H d t.2.2 /\ IsKV K H r tr
end
theorem Same.tup {K : KW} {H H' : Hp} {a : Addr} {xs : List V} (e : Same H H') (h : SqT K H a xs) : SqT K H' a xs := by
 rcases h with (h | ⟨o, h⟩) | h
 ·exact .inl (.inl (e _ _ h))
 ·exact .inl (.inr ⟨o, e _ _ h⟩)
 ·exact .inr h
def TSm (H H' : Hp) : Prop := ∀ b o, H b = some o -> (∀ xs, o ≠ .lst xs) -> (∀ φ, o ≠ .ext φ) -> H' b = some o
theorem TSm.tup {K : KW} {H H' : Hp} {a : Addr} {xs : List V} (e : TSm H H') (h : SqT K H a xs) : SqT K H' a xs := by
 rcases h with (h | ⟨o, h⟩) | h
 ·exact .inl (.inl (e _ _ h (fun _ z => by cases z) fun _ z => by cases z))
 ·exact .inl (.inr ⟨o, e _ _ h (fun _ z => by cases z) fun _ z => by cases z⟩)
 ·exact .inr h
section
variable {K : KW}
mutual
theorem Is.mono {H H' : Hp} (s : Same H H') : ∀ {d : PyData} {v : V}, Is K H d v -> Is K H' d v
 | .none, _, h => h
 | .bool _, _, h => h
 | .int _, _, h => h
 | .str _, _, h => h
 | .tuple _, _, ⟨a, vs, e, h, l⟩ => ⟨a, vs, e, Same.tup s h, IsL.mono s l⟩
 | .list _, _, ⟨a, vs, e, h, l⟩ => ⟨a, vs, e, s _ _ h, IsL.mono s l⟩
 | .dict _, _, ⟨a, ts, e, h, l⟩ => ⟨a, ts, e, s _ _ h, IsKV.mono s l⟩
theorem IsL.mono {H H' : Hp} (s : Same H H') : ∀ {ds : List PyData} {vs : List V}, IsL K H ds vs -> IsL K H' ds vs
 | [], _, h => h
 | _ :: _, _, ⟨x, xs, e, h, l⟩ => ⟨x, xs, e, Is.mono s h, IsL.mono s l⟩
theorem IsKV.mono {H H' : Hp} (s : Same H H') : ∀ {kvs : List (PyData × PyData)} {ts : List (List Int × Addr × V)}, IsKV K H kvs ts -> IsKV K H' kvs ts
 | [], _, h => h
 | (_, _) :: _, _, ⟨t, tr, e, ek, hk, h, l⟩ => ⟨t, tr, e, ek, Same.tup s hk, Is.mono s h, IsKV.mono s l⟩
end
mutual
theorem Is.monoT {H H' : Hp} (s : TSm H H') : ∀ {d : PyData} {v : V}, fixD d = true -> Is K H d v -> Is K H' d v
 | .none, _, _, h => h
 | .bool _, _, _, h => h
 | .int _, _, _, h => h
 | .str _, _, _, h => h
 | .tuple _, _, f, ⟨a, vs, e, h, l⟩ => ⟨a, vs, e, s.tup h, IsL.monoT s f l⟩
 | .list _, _, f, _ => absurd f Bool.false_ne_true
 | .dict _, _, f, _ => absurd f Bool.false_ne_true
theorem IsL.monoT {H H' : Hp} (s : TSm H H') : ∀ {ds : List PyData} {vs : List V}, fixDs ds = true -> IsL K H ds vs -> IsL K H' ds vs
 | [], _, _, h => h
 | d :: ds, _, f, ⟨x, xs, e, h, l⟩ => ⟨x, xs, e, Is.monoT s (by rw [fixDs, Bool.and_eq_true] at f; exact f.1) h, IsL.monoT s (by rw [fixDs, Bool.and_eq_true] at f; exact f.2) l⟩
end
theorem IsL.length {H : Hp} : ∀ {ds : List PyData} {vs : List V}, IsL K H ds vs -> vs.length = ds.length
 | [], _, h => by rw [show _ = [] from h]; rfl
 | _ :: _, _, ⟨x, xs, e, _, l⟩ => by rw [e, List.length_cons, List.length_cons, IsL.length l]
theorem IsL.get {H : Hp} : ∀ {ds : List PyData} {vs : List V} {i : Nat} {d : PyData}, IsL K H ds vs -> ds[i]? = some d -> ∃ v, vs[i]? = some v /\ Is K H d v
 | [], _, _, _, _, e => by simp at e
 | d :: ds, _, 0, _, ⟨x, xs, e, h, l⟩, q => by
  subst e
  simp at q
  subst q
  exact ⟨x, rfl, h⟩
 | d :: ds, _, i + 1, _, ⟨x, xs, e, h, l⟩, q => by
  subst e
  obtain ⟨v, a, b⟩ := IsL.get (i := i) l (by simpa using q)
  exact ⟨v, by simpa using a, b⟩
end
section
variable {X : Cx} {pins : List (Addr × Obj)} {σ : L2.St} {H : Hp} {s : Shared}
mutual
theorem reads (I : Inv X pins σ H s) : ∀ {d : PyData} {v : V} {u : Value}, Is (kwOf X) H d v -> RelV v u -> ∃ as, Reads s.heap u d as
 | .none, _, _, h, r => by subst h; cases r; exact ⟨_, .none⟩
 | .bool _, _, _, h, r => by subst h; cases r; exact ⟨_, .bool _⟩
 | .int _, _, _, h, r => by subst h; obtain ⟨t, rfl⟩ := r; exact ⟨_, .int _ _⟩
 | .str _, _, _, h, r => by subst h; obtain ⟨t, rfl⟩ := r; exact ⟨_, .str _ _⟩
 | .tuple ds, _, _, ⟨a, vs, e, h, l⟩, r => by
  subst e; cases r
  obtain ⟨its, rr, ⟨o, e, c, n, q⟩, _⟩ := I.tuple h
  obtain ⟨as, z⟩ := readsL I l rr
  exact ⟨_, .tuple e c q z⟩
 | .list ds, _, _, ⟨a, vs, e, h, l⟩, r => by
  subst e; cases r
  obtain ⟨_, its, n, rr, e⟩ := I.hok a _ h
  obtain ⟨as, z⟩ := readsL I l rr
  exact ⟨_, .list e rfl rfl z⟩
 | .dict kvs, _, _, ⟨a, ts, e, h, l⟩, r => by
  subst e; cases r
  obtain ⟨⟨_, _, _, xs, pr, o, es, ep, ho, he, hd, hes⟩, _, _⟩ := (show ObjOk X.prog X.w H s.heap a (.ext (phiD a ts)) from I.hok a _ h)
  obtain ⟨as, bs, z1, z2⟩ := readsK I l pr
  refine ⟨_, .dict ho he.1 hd (as := as) (bs := bs) ?_ ?_⟩
  ·rw [hes, List.map_map]; exact z1
  ·rw [hes, List.map_map]; exact z2
theorem readsL (I : Inv X pins σ H s) : ∀ {ds : List PyData} {vs : List V} {us : List Value}, IsL (kwOf X) H ds vs -> Vals vs us -> ∃ as, ReadsAll s.heap us ds as
 | [], _, _, h, r => by subst h; cases r; exact ⟨_, .nil⟩
 | d :: ds, _, _, ⟨x, xs, e, h, l⟩, r => by
  subst e
  cases r with
  | cons r1 r2 =>
   obtain ⟨as, z⟩ := reads I h r1
   obtain ⟨bs, y⟩ := readsL I l r2
   exact ⟨_, .cons z y⟩
theorem readsK (I : Inv X pins σ H s) : ∀ {kvs : List (PyData × PyData)} {ts : List (List Int × Addr × V)} {xs : List (List Int × Addr × Value)}, IsKV (kwOf X) H kvs ts -> Paired (fun (t : List Int × Addr × V) (x : List Int × Addr × Value) => t.1 = x.1 /\ t.2.1 = x.2.1 /\ RelV t.2.2 x.2.2) ts xs ->
  ∃ as bs, ReadsAll s.heap (xs.map fun x => Value.ref x.2.1) (kvs.map (·.1)) as /\ ReadsAll s.heap (xs.map fun x => x.2.2) (kvs.map (·.2)) bs
 | [], _, _, h, r => by subst h; cases r; exact ⟨_, _, .nil, .nil⟩
 | (k, d) :: kvs, _, _, ⟨t, tr, e, ek, hk, h, l⟩, r => by
  subst e
  cases r with
  | cons r1 r2 =>
   obtain ⟨q1, q2, q3⟩ := r1
   obtain ⟨as, bs, z1, z2⟩ := readsK I l r2
   obtain ⟨cs, z3⟩ := reads I h q3
   obtain ⟨its, rr, ⟨o, e, c, n, q⟩, _⟩ := I.tuple hk
   subst ek
   have hz : ∃ ds, ReadsAll s.heap its.toArray.toList (t.1.map PyData.int) ds := by
    clear hk e q
    generalize t.1 = ks at rr
    induction ks generalizing its with
    | nil => cases rr; exact ⟨_, .nil⟩
    | cons k ks ih =>
     cases rr with
     | cons a b =>
      obtain ⟨ds, y⟩ := ih _ b
      obtain ⟨tk, rfl⟩ := a
      exact ⟨_, .cons (.int _ _) y⟩
   obtain ⟨ds, y⟩ := hz
   rw [q2] at e
   exact ⟨_, _, .cons (.tuple e c q y) z1, .cons z3 z2⟩
end
def rEqK (K : KW) : R2 := fun x y H Q => ∃ d e, Is K H d x /\ Is K H e y /\ okD d = true /\ okD e = true /\ Q (.bl (PyData.eqv d e)) H
def rNeK (K : KW) : R2 := fun x y H Q => ∃ d e, Is K H d x /\ Is K H e y /\ okD d = true /\ okD e = true /\ Q (.bl (!PyData.eqv d e)) H
theorem op_eqK (hu : X.A.units + 64 < cLine) : OpR X (compareOp .Eq) (rEqK (kwOf X)) := by
 intro pins s σ H x y v u Q I rx ry h
 obtain ⟨d, e, hd, he, od, oe, q⟩ := h
 obtain ⟨as, ra⟩ := reads I hd rx
 obtain ⟨bs, rb⟩ := reads I he ry
 exact eq_dataH ra rb od oe hu ⟨.bl _, H, I, rfl, q⟩
theorem op_neK (hu : X.A.units + 64 < cLine) : OpR X (compareOp .NotEq) (rNeK (kwOf X)) := by
 intro pins s σ H x y v u Q I rx ry h
 obtain ⟨d, e, hd, he, od, oe, q⟩ := h
 obtain ⟨as, ra⟩ := reads I hd rx
 obtain ⟨bs, rb⟩ := reads I he ry
 exact ne_dataH ra rb od oe hu ⟨.bl _, H, I, rfl, q⟩
def rInK (K : KW) (neg : Bool) : R2 := fun x y H Q => ∃ d es, Is K H d x /\ (Is K H (.list es) y \/ Is K H (.tuple es) y) /\ okD d = true /\ okD (.list es) = true /\ Q (.bl (if neg then !(es.any fun y => PyData.eqv y d) else es.any fun y => PyData.eqv y d)) H
theorem op_inK (hu : X.A.units + 65 < cLine) : OpR X (compareOp .In) (rInK (kwOf X) false) := by
 intro pins s σ H x y v u Q I rx ry h
 obtain ⟨d, es, hd, he, od, oe, q⟩ := h
 obtain ⟨as, ra⟩ := reads I hd rx
 obtain ⟨c1, c2⟩ := shaped_list oe
 have hm : X.A.units + 1 + min (PyData.depthAll es) d.depth < cLine := by omega
 rcases he with he | he
 ·obtain ⟨bs, rb⟩ := reads I he ry
  exact SeqAt.in_list_reads rb ra c1 (shaped_can od) hm ⟨.bl _, H, I, rfl, q⟩
 ·obtain ⟨bs, rb⟩ := reads I he ry
  exact SeqAt.in_tuple_reads rb ra c1 (shaped_can od) hm ⟨.bl _, H, I, rfl, q⟩
theorem op_notInK (hu : X.A.units + 65 < cLine) : OpR X (compareOp .NotIn) (rInK (kwOf X) true) := by
 intro pins s σ H x y v u Q I rx ry h
 obtain ⟨d, es, hd, he, od, oe, q⟩ := h
 obtain ⟨as, ra⟩ := reads I hd rx
 obtain ⟨c1, c2⟩ := shaped_list oe
 have hm : X.A.units + 1 + min (PyData.depthAll es) d.depth < cLine := by omega
 rcases he with he | he
 ·obtain ⟨bs, rb⟩ := reads I he ry
  exact SeqAt.notIn_list_reads rb ra c1 (shaped_can od) hm ⟨.bl _, H, I, rfl, q⟩
 ·obtain ⟨bs, rb⟩ := reads I he ry
  exact SeqAt.notIn_tuple_reads rb ra c1 (shaped_can od) hm ⟨.bl _, H, I, rfl, q⟩
end
end DL
end
section
set_option Elab.async false
set_option linter.all false
set_option maxRecDepth 100000
namespace DL
open PySem L2
inductive L where
 | d (x : PyData)
 | m (xs : List PyData)
 | c (xs : List PyData)
 | k (kvs : List (List Int × PyData))
 | g (x : PyData)
abbrev DS := List (Option L)
inductive Ow where
 | l (xs : List PyData)
 | t (kvs : List (List Int × PyData))
def Ow.L : Ow -> L
 | .l xs => .m xs
 | .t kvs => .k kvs
def dctP (kvs : List (List Int × PyData)) : List (PyData × PyData) := kvs.map fun p => (.tuple (p.1.map PyData.int), p.2)
def Ow.D : Ow -> PyData
 | .l xs => .list xs
 | .t kvs => .dict (dctP kvs)
def Ow.fl : Ow -> Bool
 | .l _ => true
 | .t _ => false
theorem Ow.not_d {o : Ow} {x : PyData} : o.L ≠ .d x := by cases o <;> exact fun z => nomatch z
theorem Ow.not_g {o : Ow} {x : PyData} : o.L ≠ .g x := by cases o <;> exact fun z => nomatch z
theorem Ow.not_c {o : Ow} {x : List PyData} : o.L ≠ .c x := by cases o <;> exact fun z => nomatch z
theorem Ow.inj {o p : Ow} (h : o.L = p.L) : o = p := by
 cases o <;> cases p <;> cases h <;> rfl
def IsO (K : KW) (H : Hp) : Ow -> Addr -> HO -> Prop
 | .l xs, _, h => ∃ vs, h = .lst vs /\ IsL K H xs vs
 | .t kvs, a, h => ∃ ts, h = .ext (phiD a ts) /\ IsKV K H (dctP kvs) ts
theorem IsO.mono {K : KW} {H H' : Hp} (s : Same H H') : ∀ {o : Ow} {a : Addr} {h : HO}, IsO K H o a h -> IsO K H' o a h
 | .l _, _, _, ⟨vs, e, l⟩ => ⟨vs, e, l.mono s⟩
 | .t _, _, _, ⟨ts, e, l⟩ => ⟨ts, e, l.mono s⟩
theorem IsO.is {K : KW} {H : Hp} : ∀ {o : Ow} {a : Addr} {h : HO}, IsO K H o a h -> H a = some h -> Is K H o.D (.ref a)
 | .l _, a, _, ⟨vs, e, l⟩, z => ⟨a, vs, rfl, e ▸ z, l⟩
 | .t _, a, _, ⟨ts, e, l⟩, z => ⟨a, ts, rfl, e ▸ z, l⟩
open Classical in
noncomputable def hid (S : Addr -> Prop) (H : Hp) : Hp := fun a => if S a then none else H a
theorem hid_iff {S : Addr -> Prop} {H : Hp} {b : Addr} {o : HO} : hid S H b = some o ↔ ¬ S b /\ H b = some o := by
 unfold hid
 by_cases h : S b
 ·rw [if_pos h]; exact ⟨fun z => (nomatch z), fun z => absurd h z.1⟩
 ·rw [if_neg h]; exact ⟨fun z => ⟨h, z⟩, fun z => z.2⟩
def Keep (S : Addr -> Prop) (H : Hp) (S' : Addr -> Prop) (H' : Hp) : Prop := ∀ b o, ¬ S b -> H b = some o -> ¬ S' b /\ H' b = some o
def Chg (M : Addr -> Prop) (H H' : Hp) : Prop := ∀ b o, ¬ M b -> H b = some o -> H' b = some o
theorem Keep.same {S S' : Addr -> Prop} {H H' : Hp} (k : Keep S H S' H') : Same (hid S H) (hid S' H') := fun b o e => hid_iff.mpr (k b o (hid_iff.mp e).1 (hid_iff.mp e).2)
theorem Keep.refl {S : Addr -> Prop} {H : Hp} : Keep S H S H := fun _ _ h e => ⟨h, e⟩
theorem Keep.trans {S S1 S2 : Addr -> Prop} {H H1 H2 : Hp} (a : Keep S H S1 H1) (b : Keep S1 H1 S2 H2) : Keep S H S2 H2 := fun c o h e => b c o (a c o h e).1 (a c o h e).2
theorem Chg.refl {M : Addr -> Prop} {H : Hp} : Chg M H H := fun _ _ _ e => e
theorem Chg.trans {M : Addr -> Prop} {H H1 H2 : Hp} (a : Chg M H H1) (b : Chg M H1 H2) : Chg M H H2 := fun c o h e => b c o h (a c o h e)
theorem Chg.of {M : Addr -> Prop} {H H' : Hp} (s : Same H H') : Chg M H H' := fun b o _ e => s b o e
theorem Chg.keep {S M : Addr -> Prop} {H H' : Hp} (c : Chg M H H') (sub : ∀ a, M a -> S a) : Keep S H S H' := fun b o h e => ⟨h, c b o (fun z => h (sub b z)) e⟩
theorem Same.keep {S : Addr -> Prop} {H H' : Hp} (s : Same H H') : Keep S H S H' := fun b o h e => ⟨h, s b o e⟩
theorem same_hid {S : Addr -> Prop} {H : Hp} : Same (hid S H) H := fun b o e => (hid_iff.mp e).2
theorem hid_less {S S' : Addr -> Prop} {H : Hp} (h : ∀ a, S' a -> S a) : Same (hid S H) (hid S' H) := Keep.same fun b o n e => ⟨fun z => n (h b z), e⟩
theorem tsS {H H' : Hp} (s : Same H H') : TSm H H' := fun b o e _ _ => s b o e
theorem TSm.refl {H : Hp} : TSm H H := fun _ _ e _ _ => e
mutual
def Dp (K : KW) (S : Addr -> Prop) (H : Hp) : PyData -> V -> List Addr -> Prop
 | .none, v, F => v = .non /\ F = []
 | .bool b, v, F => v = .bl b /\ F = []
 | .int i, v, F => v = .int i /\ F = []
 | .str x, v, F => v = .str x /\ F = []
 | .tuple ds, v, F => ∃ a vs, v = .ref a /\ SqT K (hid S H) a vs /\ DpL K S H ds vs F
 | .list ds, v, F => ∃ a vs G, v = .ref a /\ F = a :: G /\ H a = some (.lst vs) /\ DpL K S H ds vs G
 | .dict _, _, _ => False
def DpL (K : KW) (S : Addr -> Prop) (H : Hp) : List PyData -> List V -> List Addr -> Prop
 | [], vs, F => vs = [] /\ F = []
 | d :: ds, vs, F => ∃ x xs F1 F2, vs = x :: xs /\ F = F1 ++ F2 /\ Dp K S H d x F1 /\ DpL K S H ds xs F2
end
section
variable {K : KW} {S S' : Addr -> Prop} {H H' : Hp}
mutual
theorem Dp.mono (s : TSm (hid S H) (hid S' H')) : ∀ {d : PyData} {v : V} {F : List Addr}, (∀ a ∈ F, H' a = H a) -> Dp K S H d v F -> Dp K S' H' d v F
 | .none, _, _, _, h => h
 | .bool _, _, _, _, h => h
 | .int _, _, _, _, h => h
 | .str _, _, _, _, h => h
 | .tuple _, _, _, f, ⟨a, vs, e, h, l⟩ => ⟨a, vs, e, s.tup h, DpL.mono s f l⟩
 | .list _, _, _, f, ⟨a, vs, G, e, e2, h, l⟩ => ⟨a, vs, G, e, e2, (f a (by rw [e2]; exact List.mem_cons_self ..)).trans h, DpL.mono s (fun b hb => f b (by rw [e2]; exact List.mem_cons_of_mem _ hb)) l⟩
theorem DpL.mono (s : TSm (hid S H) (hid S' H')) : ∀ {ds : List PyData} {vs : List V} {F : List Addr}, (∀ a ∈ F, H' a = H a) -> DpL K S H ds vs F -> DpL K S' H' ds vs F
 | [], _, _, _, h => h
 | _ :: _, _, _, f, ⟨x, xs, F1, F2, e, e2, h, l⟩ => ⟨x, xs, F1, F2, e, e2, Dp.mono s (fun b hb => f b (by rw [e2]; exact List.mem_append_left _ hb)) h, DpL.mono s (fun b hb => f b (by rw [e2]; exact List.mem_append_right _ hb)) l⟩
end
end
def IsX (K : KW) (H : Hp) : List (PyData × PyData) -> List (Str × V) -> Prop
 | [], ts => ts = []
 | (k, d) :: r, ts => ∃ t tr, ts = t :: tr /\ k = .str t.1 /\ fixD d = true /\ Is K H d t.2 /\ IsX K H r tr
theorem IsX.mono {K : KW} {H H' : Hp} (s : TSm H H') : ∀ {kvs : List (PyData × PyData)} {ts : List (Str × V)}, IsX K H kvs ts -> IsX K H' kvs ts
 | [], _, h => h
 | (_, _) :: _, _, ⟨t, tr, e, ek, f, h, l⟩ => ⟨t, tr, e, ek, f, Is.monoT s f h, IsX.mono s l⟩
def DpT (K : KW) (S : Addr -> Prop) (H : Hp) (d : PyData) (v : V) (F : List Addr) : Prop := match d with
 | .dict kvs => ∃ a ts, v = .ref a /\ F = [a] /\ H a = some (.dK (txK ts)) /\ IsX K (hid S H) kvs ts
 | d => Dp K S H d v F
theorem DpT.of {K : KW} {S : Addr -> Prop} {H : Hp} {d : PyData} {v : V} {F : List Addr} (h : Dp K S H d v F) : DpT K S H d v F := by
 cases d with
 | dict kvs => exact (show False from h).elim
 | _ => exact h
theorem DpT.mono {K : KW} {S S' : Addr -> Prop} {H H' : Hp} {d : PyData} {v : V} {F : List Addr} (s : TSm (hid S H) (hid S' H')) (f : ∀ a ∈ F, H' a = H a) (h : DpT K S H d v F) : DpT K S' H' d v F := by
 cases d with
 | dict kvs =>
  obtain ⟨a, ts, e, e2, h, l⟩ := (show ∃ a ts, v = .ref a /\ F = [a] /\ H a = some (.dK (txK ts)) /\ IsX K (hid S H) kvs ts from h)
  exact ⟨a, ts, e, e2, (f a (by rw [e2]; exact List.mem_singleton_self a)).trans h, l.mono s⟩
 | _ => exact Dp.mono s f h
def GR (K : KW) (S M : Addr -> Prop) (τ : DS) (σ : St) (H : Hp) : Prop := ∃ φ : Nat -> List Addr, ∀ (i : Nat) (d : PyData), τ[i]? = some (some (.g d)) ->
 (∃ v, σ[i]? = some (some v) /\ DpT K S H d v (φ i)) /\ (φ i).Nodup /\ (∀ a ∈ φ i, M a) /\ (∀ (j : Nat) (o : Ow) (a : Addr), τ[j]? = some (some o.L) -> σ[j]? = some (some (.ref a)) -> a ∉ φ i) /\
  ∀ (j : Nat) (d' : PyData), j ≠ i -> τ[j]? = some (some (.g d')) -> ∀ a ∈ φ i, a ∉ φ j
theorem GR.nil {K : KW} {S M : Addr -> Prop} {τ : DS} {σ : St} {H : Hp} (h : ∀ (i : Nat) (d : PyData), τ[i]? ≠ some (some (.g d))) : GR K S M τ σ H := ⟨fun _ => [], fun i d e => absurd e (h i d)⟩
theorem GR.to {K : KW} {S M S' M' : Addr -> Prop} {τ τ' : DS} {σ σ' : St} {H H' : Hp} (g : GR K S M τ σ H) (ht : ∀ (i : Nat) (d : PyData), τ'[i]? = some (some (.g d)) -> τ[i]? = some (some (.g d)) /\ σ'[i]? = σ[i]?)
  (ho : ∀ (j : Nat) (o : Ow) (a : Addr), τ'[j]? = some (some o.L) -> σ'[j]? = some (some (.ref a)) -> (∃ o' : Ow, τ[j]? = some (some o'.L) /\ σ[j]? = some (some (.ref a))) \/ ¬ M a)
  (hm : ∀ a, M a -> (∀ (j : Nat) (o : Ow), τ[j]? = some (some o.L) -> σ[j]? ≠ some (some (.ref a))) -> M' a /\ H' a = H a) (ts : TSm (hid S H) (hid S' H')) : GR K S' M' τ' σ' H' := by
 obtain ⟨φ, g⟩ := g
 refine ⟨φ, fun i d e => ?_⟩
 obtain ⟨e1, e2⟩ := ht i d e
 obtain ⟨⟨v, g1, g2⟩, g3, g4, g5, g6⟩ := g i d e1
 have hm' : ∀ a ∈ φ i, M' a /\ H' a = H a := fun a ha => hm a (g4 a ha) fun j o q q2 => g5 j o a q q2 ha
 refine ⟨⟨v, e2.trans g1, g2.mono ts fun a ha => (hm' a ha).2⟩, g3, fun a ha => (hm' a ha).1, fun j o a q1 q2 ha => ?_, fun j d' hj q => g6 j d' hj (ht j d' q).1⟩
 rcases ho j o a q1 q2 with ⟨o', z1, z2⟩ | z
 ·exact g5 j o' a z1 z2 ha
 ·exact z (g4 a ha)
structure R (K : KW) (S M : Addr -> Prop) (τ : DS) (σ : St) (H : Hp) : Prop where
 len : σ.length = τ.length
 dat : ∀ (i : Nat) (x : PyData), τ[i]? = some (some (.d x)) -> ∃ v, σ[i]? = some (some v) /\ Is K (hid S H) x v
 mt : ∀ (i : Nat) (o : Ow), τ[i]? = some (some o.L) -> ∃ (a : Addr) (h : HO), σ[i]? = some (some (.ref a)) /\ M a /\ H a = some h /\ IsO K (hid S H) o a h
 cst : ∀ (i : Nat) (xs : List PyData), τ[i]? = some (some (.c xs)) -> ∃ (a : Addr) (vs : List V), σ[i]? = some (some (.ref a)) /\ SqL K (hid S H) a vs /\ IsL K (hid S H) xs vs
 inj : ∀ (i j : Nat) (o p : Ow) (a : Addr), τ[i]? = some (some o.L) -> τ[j]? = some (some p.L) -> σ[i]? = some (some (.ref a)) -> σ[j]? = some (some (.ref a)) -> i = j
 sub : ∀ a, M a -> S a
 ex : ∀ a, S a -> ∃ o, H a = some o
 gr : GR K S M τ σ H
def Res (K : KW) (fr : Bool) (S : Addr -> Prop) (H H' : Hp) (d : PyData) (v : V) : Prop := match fr with
 | false => Is K (hid S H') d v
 | true => ∃ (o : Ow) (a : Addr) (h : HO), d = o.D /\ v = .ref a /\ H a = none /\ H' a = some h /\ IsO K (hid (fun b => S b \/ b = a) H') o a h
section
variable {K : KW} {S M : Addr -> Prop} {τ : DS} {σ : St} {H H' : Hp}
theorem R.fresh (r : R K S M τ σ H) {a : Addr} (h : H a = none) : ¬ S a := fun z => by
 obtain ⟨o, e⟩ := r.ex a z
 rw [h] at e; cases e
theorem R.ml (r : R K S M τ σ H) (i : Nat) (xs : List PyData) (e : τ[i]? = some (some (.m xs))) : ∃ (a : Addr) (vs : List V), σ[i]? = some (some (.ref a)) /\ M a /\ H a = some (.lst vs) /\ IsL K (hid S H) xs vs := by
 obtain ⟨a, h, h1, h2, h3, vs, rfl, l⟩ := r.mt i (.l xs) e
 exact ⟨a, vs, h1, h2, h3, l⟩
theorem R.same (r : R K S M τ σ H) (s : Same H H') : R K S M τ σ H' where
 len := r.len
 dat := fun i x e => let ⟨v, a, b⟩ := r.dat i x e; ⟨v, a, b.mono (Same.keep s).same⟩
 mt := fun i o e => let ⟨a, h, h1, h2, h3, h4⟩ := r.mt i o e; ⟨a, h, h1, h2, s _ _ h3, h4.mono (Same.keep s).same⟩
 cst := fun i xs e => let ⟨a, vs, h1, h2, h3⟩ := r.cst i xs e; ⟨a, vs, h1, (Same.keep s).same.seq h2, h3.mono (Same.keep s).same⟩
 inj := r.inj
 sub := r.sub
 ex := fun a h => let ⟨o, e⟩ := r.ex a h; ⟨o, s _ _ e⟩
 gr := r.gr.to (fun i d e => ⟨e, rfl⟩) (fun j o a e q => .inl ⟨o, e, q⟩) (fun a h _ => ⟨h, by obtain ⟨o, e⟩ := r.ex a (r.sub a h); rw [e]; exact s _ _ e⟩) (tsS (Same.keep s).same)
theorem Res.is {fr : Bool} {d : PyData} {v : V} (h : Res K fr S H H' d v) (f : ∀ a, H a = none -> ¬ S a) : Is K (hid S H') d v := by
 cases fr with
 | false => exact h
 | true =>
  obtain ⟨o, a, ho, rfl, rfl, h1, h2, h3⟩ := h
  exact IsO.is (h3.mono (hid_less fun b z => .inl z)) (hid_iff.mpr ⟨f a h1, h2⟩)
theorem Res.imp {fr : Bool} {d : PyData} {v : V} (h : Res K fr S H H' d v) (f : ∀ a, H a = none -> ¬ S a) (fr' : Bool) (hf : fr' = true -> fr = true) : Res K fr' S H H' d v := by
 cases fr' with
 | false => exact h.is f
 | true => rw [hf rfl] at h; exact h
end
abbrev DX := DS -> Option (PyData × DS)
abbrev DT := DS -> Option (Bool × DS)
inductive Ar where
 | d (x : PyData)
 | s (i : Nat)
abbrev DA := DS -> Option (List Ar × DS)
inductive Out where
 | nx (τ : DS)
 | bk (τ : DS)
 | ct (τ : DS)
 | rt (d : PyData) (τ : DS)
abbrev DB := DS -> Option Out
def Like (τ τ' : DS) : Prop := τ'.length = τ.length /\ ∀ j : Nat, ((∀ x, τ'[j]? = some (some (.d x)) ↔ τ[j]? = some (some (.d x))) /\ ∀ x, τ'[j]? = some (some (.c x)) ↔ τ[j]? = some (some (.c x))) /\ ∀ b : Bool, (∃ o : Ow, o.fl = b /\ τ'[j]? = some (some o.L)) ↔ ∃ o : Ow, o.fl = b /\ τ[j]? = some (some o.L)
theorem Like.refl {τ : DS} : Like τ τ := ⟨rfl, fun j => ⟨⟨fun x => Iff.rfl, fun x => Iff.rfl⟩, fun b => Iff.rfl⟩⟩
theorem Like.trans {τ τ1 τ2 : DS} (a : Like τ τ1) (b : Like τ1 τ2) : Like τ τ2 := ⟨b.1.trans a.1, fun j => ⟨⟨fun x => ((b.2 j).1.1 x).trans ((a.2 j).1.1 x), fun x => ((b.2 j).1.2 x).trans ((a.2 j).1.2 x)⟩, fun c => ((b.2 j).2 c).trans ((a.2 j).2 c)⟩⟩
theorem Like.own {τ τ' : DS} (a : Like τ τ') (j : Nat) : (∃ o : Ow, τ'[j]? = some (some o.L)) ↔ ∃ o : Ow, τ[j]? = some (some o.L) :=
 ⟨fun ⟨o, h⟩ => let ⟨p, _, q⟩ := ((a.2 j).2 o.fl).mp ⟨o, rfl, h⟩; ⟨p, q⟩, fun ⟨o, h⟩ => let ⟨p, _, q⟩ := ((a.2 j).2 o.fl).mpr ⟨o, rfl, h⟩; ⟨p, q⟩⟩
theorem Like.ml {τ τ' : DS} (a : Like τ τ') {j : Nat} {xs : List PyData} (h : τ'[j]? = some (some (.m xs))) : ∃ ys, τ[j]? = some (some (.m ys)) := by
 obtain ⟨o, e, h⟩ := ((a.2 j).2 true).mp ⟨.l xs, rfl, h⟩
 cases o with
 | l ys => exact ⟨ys, h⟩
 | t ys => cases e
structure E K (t : TE) (fr : Bool) (f : DX) : Prop where
 like : ∀ τ d τ', f τ = some (d, τ') -> Like τ τ'
 run : ∀ S M τ σ H (Q : VK) d τ', R K S M τ σ H -> f τ = some (d, τ') -> (∀ v H', R K S M τ' σ H' -> Chg M H H' -> Res K fr S H H' d v -> Q v H') -> t σ H Q
structure T K (t : TT) (f : DT) : Prop where
 like : ∀ τ b τ', f τ = some (b, τ') -> Like τ τ'
 run : ∀ S M τ σ H (Q : Bool -> Hp -> Prop) b τ', R K S M τ σ H -> f τ = some (b, τ') -> (∀ H', R K S M τ' σ H' -> Chg M H H' -> Q b H') -> t σ H Q
def ArIs (K : KW) (S : Addr -> Prop) (σ : St) (H : Hp) : List Ar -> List V -> Prop
 | [], vs => vs = []
 | .d x :: rs, vs => ∃ v us, vs = v :: us /\ Is K (hid S H) x v /\ ArIs K S σ H rs us
 | .s i :: rs, vs => ∃ v us, vs = v :: us /\ σ[i]? = some (some v) /\ ArIs K S σ H rs us
structure A K (t : TA) (f : DA) : Prop where
 like : ∀ τ rs τ', f τ = some (rs, τ') -> Like τ τ'
 run : ∀ S M τ σ H (Q : List V -> Hp -> Prop) rs τ', R K S M τ σ H -> f τ = some (rs, τ') -> (∀ vs H', R K S M τ' σ H' -> Chg M H H' -> ArIs K S σ H' rs vs -> Q vs H') -> t σ H Q
structure Frm where
 S : Addr -> Prop
 M : Addr -> Prop
 H : Hp
 ar : List (Option V)
structure RF (K : KW) (F : Frm) (S M : Addr -> Prop) (τ : DS) (σ : St) (H : Hp) : Prop where
 r : R K S M τ σ H
 sS : ∀ a, F.S a -> S a
 old : ∀ b o, F.H b = some o -> ¬ F.M b -> H b = some o
 new : ∀ a, M a -> F.M a \/ F.H a = none
 fm : ∀ a, F.M a -> M a
 fs : ∀ a, F.S a -> ∃ o, F.H a = some o
 fsub : ∀ a, F.M a -> F.S a
 snew : ∀ a, S a -> F.S a \/ F.H a = none
 par : ∀ (i : Nat) (v : V), F.ar[i]? = some (some v) -> σ[i]? = some (some v)
 pm : ∀ (i : Nat) (v : V), F.ar[i]? = some (some v) -> ∃ o : Ow, τ[i]? = some (some o.L)
 fma : ∀ a, F.M a -> ∃ i : Nat, F.ar[i]? = some (some (.ref a))
def Gl (K : KW) (F : Frm) (fr : Bool) (S : Addr -> Prop) (H : Hp) (D : Ends) : Out -> Prop
 | .nx τ' => ∀ S' M' σ' H', RF K F S' M' τ' σ' H' -> Keep S H S' H' -> D.nx σ' H'
 | .bk τ' => ∀ S' M' σ' H', RF K F S' M' τ' σ' H' -> Keep S H S' H' -> D.bk σ' H'
 | .ct τ' => ∀ S' M' σ' H', RF K F S' M' τ' σ' H' -> Keep S H S' H' -> D.ct σ' H'
 | .rt d τ' => ∀ S' M' σ' H' v, RF K F S' M' τ' σ' H' -> Res K fr F.S F.H H' d v -> D.rt v H'
def B (K : KW) (np : Nat) (t : TS) (fr : Bool) (f : DB) : Prop := ∀ (F : Frm) S M τ σ H (D : Ends) out, F.ar.length <= np -> RF K F S M τ σ H -> f τ = some out -> Gl K F fr S H D out -> t D σ H
end DL
end
section
set_option Elab.async false
set_option linter.all false
set_option maxRecDepth 100000
namespace DL
open PySem L2
variable {K : KW}
section
variable {S M : Addr -> Prop} {τ τ' : DS} {σ : St} {H H' H2 : Hp}
theorem R.none (r : R K S M τ σ H') (c : Chg M H H') {a : Addr} (h : H' a = Option.none) : H a = Option.none := by
 cases e : H a with
 | none => rfl
 | some o =>
  exfalso
  by_cases hm : M a
  ·obtain ⟨o', e'⟩ := r.ex a (r.sub a hm)
   rw [h] at e'; cases e'
  ·have := c a o hm e
   rw [h] at this; cases this
theorem Res.back {fr : Bool} {d : PyData} {v : V} (h : Res K fr S H' H2 d v) (r : R K S M τ σ H') (c : Chg M H H') : Res K fr S H H2 d v := by
 cases fr with
 | false => exact h
 | true =>
  obtain ⟨xs, a, vs, e1, e2, h1, h2, h3⟩ := h
  exact ⟨xs, a, vs, e1, e2, r.none c h1, h2, h3⟩
theorem R.isr (r : R K S M τ σ H) {fr : Bool} {d : PyData} {v : V} (h : Res K fr S H H' d v) : Is K (hid S H') d v := h.is fun _ z => r.fresh z
end
theorem E.weak {t : TE} {fr : Bool} {f : DX} (h : E K t fr f) : E K t false f := ⟨h.like, fun S M τ σ H Q d τ' r e q => h.run S M τ σ H Q d τ' r e fun v H' r' c res => q v H' r' c (r.isr res)⟩
def dVar (i : Nat) (τ : DS) : Option (PyData × DS) := match τ[i]? with
 | some (some (.d x)) => some (x, τ)
 | _ => none
theorem e_var {i : Nat} : E K (tVar i) false (dVar i) := by
 refine ⟨fun τ d τ' e => ?_, ?_⟩
 ·unfold dVar at e; split at e
  ·cases e; exact .refl
  ·cases e
 intro S M τ σ H Q d τ' r e q
 unfold dVar at e
 split at e
 ·rename_i x hx
  cases e
  obtain ⟨v, h1, h2⟩ := r.dat i _ hx
  exact ⟨v, h1, q v H r .refl h2⟩
 ·cases e
def dC (d : PyData) (τ : DS) : Option (PyData × DS) := some (d, τ)
theorem e_c {d : PyData} {v : V} (h : ∀ H, Is K H d v) : E K (tC v) false (dC d) := by
 refine ⟨fun τ d τ' e => ?_, ?_⟩
 ·cases e; exact .refl
 intro S M τ σ H Q d' τ' r e q
 cases e
 exact q v H r .refl (h _)
theorem e_int {i : Int} : E K (tC (.int i)) false (dC (.int i)) := e_c fun _ => rfl
theorem e_bl {b : Bool} : E K (tC (.bl b)) false (dC (.bool b)) := e_c fun _ => rfl
theorem e_str {x : Str} : E K (tC (.str x)) false (dC (.str x)) := e_c fun _ => rfl
theorem e_non : E K (tC .non) false (dC .none) := e_c fun _ => rfl
def OR (K : KW) (fr : Bool) (r : R2) (F : PyData -> PyData -> Option PyData) : Prop := ∀ (S : Addr -> Prop) H x y dx dy d (Q : VK), (∀ a, H a = none -> ¬ S a) -> Is K (hid S H) dx x -> Is K (hid S H) dy y -> F dx dy = some d -> (∀ v H', Same H H' -> Res K fr S H H' d v -> Q v H') -> r x y H Q
def dOp (F : PyData -> PyData -> Option PyData) (a b : DX) (τ : DS) : Option (PyData × DS) := (a τ).bind fun p => (b p.2).bind fun q => (F p.1 q.1).map fun d => (d, q.2)
theorem e_op {fr fa fb : Bool} {r : R2} {F : PyData -> PyData -> Option PyData} {ta tb : TE} {a b : DX} (h : OR K fr r F) (ha : E K ta fa a) (hb : E K tb fb b) : E K (tOp r ta tb) fr (dOp F a b) := by
 refine ⟨fun τ d τ' e => ?_, ?_⟩
 ·unfold dOp at e; obtain ⟨⟨x, τ1⟩, e1, e⟩ := oB e; obtain ⟨⟨y, τ2⟩, e2, e⟩ := oB e; obtain ⟨z, e3, e⟩ := oM e; cases e; exact (ha.like _ _ _ e1).trans (hb.like _ _ _ e2)
 intro S M τ σ H Q d τ' rr e q
 unfold dOp at e
 obtain ⟨⟨x, τ1⟩, e1, e⟩ := oB e
 obtain ⟨⟨y, τ2⟩, e2, e⟩ := oB e
 obtain ⟨z, e3, e⟩ := oM e
 cases e
 refine ha.run S M τ σ H _ x τ1 rr e1 fun v1 H1 r1 c1 i1 => ?_
 refine hb.run S M τ1 σ H1 _ y τ2 r1 e2 fun v2 H2 r2 c2 i2 => ?_
 refine h S H2 v1 v2 x y d _ (fun _ => r2.fresh) ((rr.isr i1).mono (c2.keep r1.sub).same) (r1.isr i2) e3 fun v H' s res => ?_
 exact q v H' (r2.same s) ((c1.trans c2).trans (.of s)) (res.back r2 (c1.trans c2))
def UR (K : KW) (fr : Bool) (r : V -> Hp -> VK -> Prop) (F : PyData -> Option PyData) : Prop := ∀ (S : Addr -> Prop) H x dx d (Q : VK), (∀ a, H a = none -> ¬ S a) -> Is K (hid S H) dx x -> F dx = some d -> (∀ v H', Same H H' -> Res K fr S H H' d v -> Q v H') -> r x H Q
def dUn (F : PyData -> Option PyData) (a : DX) (τ : DS) : Option (PyData × DS) := (a τ).bind fun p => (F p.1).map fun d => (d, p.2)
theorem e_un {fr fa : Bool} {r : V -> Hp -> VK -> Prop} {F : PyData -> Option PyData} {ta : TE} {a : DX} (h : UR K fr r F) (ha : E K ta fa a) : E K (tUn r ta) fr (dUn F a) := by
 refine ⟨fun τ d τ' e => ?_, ?_⟩
 ·unfold dUn at e; obtain ⟨⟨x, τ1⟩, e1, e⟩ := oB e; obtain ⟨z, e3, e⟩ := oM e; cases e; exact ha.like _ _ _ e1
 intro S M τ σ H Q d τ' rr e q
 unfold dUn at e
 obtain ⟨⟨x, τ1⟩, e1, e⟩ := oB e
 obtain ⟨z, e3, e⟩ := oM e
 cases e
 refine ha.run S M τ σ H _ x _ rr e1 fun v1 H1 r1 c1 i1 => ?_
 refine h S H1 v1 x d _ (fun _ => r1.fresh) (rr.isr i1) e3 fun v H' s res => ?_
 exact q v H' (r1.same s) (c1.trans (.of s)) (res.back r1 c1)
def fI (g : Int -> Int -> PyData) : PyData -> PyData -> Option PyData
 | .int i, .int j => some (g i j)
 | _, _ => none
def fC (C : Int -> Int -> Prop) [∀ i j, Decidable (C i j)] (g : Int -> Int -> PyData) : PyData -> PyData -> Option PyData
 | .int i, .int j => if C i j then some (g i j) else none
 | _, _ => none
theorem fI_some {g : Int -> Int -> PyData} {x y d : PyData} (h : fI g x y = some d) : ∃ i j, x = .int i /\ y = .int j /\ d = g i j := by
 unfold fI at h
 split at h
 ·exact ⟨_, _, rfl, rfl, (Option.some.inj h).symm⟩
 ·cases h
theorem fC_some {C : Int -> Int -> Prop} [∀ i j, Decidable (C i j)] {g : Int -> Int -> PyData} {x y d : PyData} (h : fC C g x y = some d) : ∃ i j, x = .int i /\ y = .int j /\ C i j /\ d = g i j := by
 unfold fC at h
 split at h
 ·split at h
  ·rename_i hc; exact ⟨_, _, rfl, rfl, hc, (Option.some.inj h).symm⟩
  ·cases h
 ·cases h
theorem or_I {g : Int -> Int -> V} {g' : Int -> Int -> PyData} (h : ∀ i j H, Is K H (g' i j) (g i j)) : OR K false (rI0 g) (fI g') := by
 intro S H x y dx dy d Q _ ix iy e q
 obtain ⟨i, j, rfl, rfl, rfl⟩ := fI_some e
 exact ⟨i, j, ix, iy, q _ H (fun _ _ e => e) (h _ _ _)⟩
theorem or_C {C : Int -> Int -> Prop} [∀ i j, Decidable (C i j)] {g : Int -> Int -> V} {g' : Int -> Int -> PyData} (h : ∀ i j H, Is K H (g' i j) (g i j)) : OR K false (rI C g) (fC C g') := by
 intro S H x y dx dy d Q _ ix iy e q
 obtain ⟨i, j, rfl, rfl, c, rfl⟩ := fC_some e
 exact ⟨i, j, ix, iy, c, q _ H (fun _ _ e => e) (h _ _ _)⟩
instance {i j : Int} : Decidable (CMulB i j) := by unfold CMulB CMul Bd; infer_instance
instance {i j : Int} : Decidable (CDivB i j) := by unfold CDivB Bd; infer_instance
instance {i j : Int} : Decidable (CPow i j) := by unfold CPow; infer_instance
def fAdd := fI fun i j => .int (i + j)
def fSub := fI fun i j => .int (i - j)
def fMul := fC CMulB fun i j => .int (i * j)
def fDiv := fC CDivB fun i j => .int (i / j)
def fMod := fC (fun _ j => 0 < j) fun i j => .int (i % j)
def fPow := fC CPow fun i j => .int (i ^ j.toNat)
def fLt := fI fun i j => .bool (decide (i < j))
def fLe := fI fun i j => .bool (decide (i <= j))
def fGt := fI fun i j => .bool (decide (j < i))
def fGe := fI fun i j => .bool (decide (j <= i))
theorem o_add : OR K false (rI0 fun i j => .int (i + j)) fAdd := or_I fun _ _ _ => rfl
theorem o_sub : OR K false (rI0 fun i j => .int (i - j)) fSub := or_I fun _ _ _ => rfl
theorem o_mul : OR K false (rI CMulB fun i j => .int (i * j)) fMul := or_C fun _ _ _ => rfl
theorem o_div : OR K false (rI CDivB fun i j => .int (i / j)) fDiv := or_C fun _ _ _ => rfl
theorem o_mod : OR K false (rI (fun _ j => 0 < j) fun i j => .int (i % j)) fMod := or_C fun _ _ _ => rfl
theorem o_pow : OR K false (rI CPow fun i j => .int (i ^ j.toNat)) fPow := or_C fun _ _ _ => rfl
theorem o_lt : OR K false (rI0 fun i j => .bl (decide (i < j))) fLt := or_I fun _ _ _ => rfl
theorem o_gt : OR K false (rI0 fun i j => .bl (decide (j < i))) fGt := or_I fun _ _ _ => rfl
theorem o_ge : OR K false (rI0 fun i j => .bl (decide (j <= i))) fGe := or_I fun _ _ _ => rfl
def fNeg : PyData -> Option PyData
 | .int i => some (.int (-i))
 | _ => none
theorem u_neg : UR K false (rU fun i => .int (-i)) fNeg := by
 intro S H x dx d Q _ ix e q
 unfold fNeg at e
 split at e
 ·cases e; exact ⟨_, ix, q _ H (fun _ _ e => e) rfl⟩
 ·cases e
def fEq (x y : PyData) : Option PyData := if okD x && okD y then some (.bool (PyData.eqv x y)) else none
def fNe (x y : PyData) : Option PyData := if okD x && okD y then some (.bool (!PyData.eqv x y)) else none
theorem o_eq : OR K false (rEqK K) fEq := by
 intro S H x y dx dy d Q _ ix iy e q
 unfold fEq at e
 split at e
 ·rename_i h
  rw [Bool.and_eq_true] at h
  cases e
  exact ⟨dx, dy, ix.mono same_hid, iy.mono same_hid, h.1, h.2, q _ H (fun _ _ e => e) rfl⟩
 ·cases e
theorem o_ne : OR K false (rNeK K) fNe := by
 intro S H x y dx dy d Q _ ix iy e q
 unfold fNe at e
 split at e
 ·rename_i h
  rw [Bool.and_eq_true] at h
  cases e
  exact ⟨dx, dy, ix.mono same_hid, iy.mono same_hid, h.1, h.2, q _ H (fun _ _ e => e) rfl⟩
 ·cases e
def fIn (neg : Bool) (x : PyData) : PyData -> Option PyData
 | .list es => if okD x && okD (.list es) then some (.bool (if neg then !(es.any fun y => PyData.eqv y x) else es.any fun y => PyData.eqv y x)) else none
 | .tuple es => if okD x && okD (.list es) then some (.bool (if neg then !(es.any fun y => PyData.eqv y x) else es.any fun y => PyData.eqv y x)) else none
 | _ => none
theorem o_in {neg : Bool} : OR K false (rInK K neg) (fIn neg) := by
 intro S H x y dx dy d Q _ ix iy e q
 unfold fIn at e
 split at e
 ·split at e
  ·rename_i h
   rw [Bool.and_eq_true] at h
   cases e
   exact ⟨dx, _, ix.mono same_hid, .inl (iy.mono same_hid), h.1, h.2, q _ H (fun _ _ e => e) rfl⟩
  ·cases e
 ·split at e
  ·rename_i h
   rw [Bool.and_eq_true] at h
   cases e
   exact ⟨dx, _, ix.mono same_hid, .inr (iy.mono same_hid), h.1, h.2, q _ H (fun _ _ e => e) rfl⟩
  ·cases e
 ·cases e
def isNo : PyData -> Bool
 | .none => true
 | _ => false
def fIsN (x y : PyData) : Option PyData := match y with
 | .none => some (.bool (isNo x))
 | _ => none
def fNotN (x y : PyData) : Option PyData := match y with
 | .none => some (.bool (!isNo x))
 | _ => none
theorem is_non {H : Hp} {x : PyData} {v : V} (h : Is K H x v) : decide (v = V.non) = isNo x := by
 cases x with
 | none => rw [show v = .non from h]; rfl
 | bool b => rw [show v = .bl b from h]; rfl
 | int b => rw [show v = .int b from h]; rfl
 | str b => rw [show v = .str b from h]; rfl
 | list b => obtain ⟨a, vs, rfl, _⟩ := h; rfl
 | tuple b => obtain ⟨a, vs, rfl, _⟩ := h; rfl
 | dict b => obtain ⟨a, ts, rfl, _⟩ := h; rfl
theorem o_isN : OR K false (fun x y H Q => y = .non /\ Q (.bl (decide (x = .non))) H) fIsN := by
 intro S H x y dx dy d Q _ ix iy e q
 unfold fIsN at e
 split at e
 ·cases e
  refine ⟨iy, ?_⟩
  rw [is_non ix]
  exact q _ H (fun _ _ e => e) rfl
 ·cases e
theorem o_notN : OR K false (fun x y H Q => y = .non /\ Q (.bl (!decide (x = .non))) H) fNotN := by
 intro S H x y dx dy d Q _ ix iy e q
 unfold fNotN at e
 split at e
 ·cases e
  refine ⟨iy, ?_⟩
  rw [is_non ix]
  exact q _ H (fun _ _ e => e) rfl
 ·cases e
def fIxL : PyData -> PyData -> Option PyData
 | .list xs, .int i => atI xs i
 | _, _ => none
def fIxT : PyData -> PyData -> Option PyData
 | .tuple xs, .int i => atI xs i
 | _, _ => none
theorem isl_at {H : Hp} {ds : List PyData} {vs : List V} {i : Int} {d : PyData} (h : IsL K H ds vs) (e : atI ds i = some d) : ∃ v, atI vs i = some v /\ Is K H d v := by
 unfold atI at e ⊢
 rw [h.length]
 cases q : ixN ds.length i with
 | none => rw [q] at e; cases e
 | some j =>
  rw [q] at e
  exact h.get (show ds[j]? = some d from e)
theorem o_ixL : OR K false (rIxL K) fIxL := by
 intro S H x y dx dy d Q _ ix iy e q
 unfold fIxL at e
 split at e
 ·obtain ⟨a, vs, rfl, h, l⟩ := ix
  obtain ⟨v, h1, h2⟩ := isl_at l e
  exact ⟨a, vs, _, v, rfl, iy, SqL.of (hid_iff.mp h).2, h1, q _ H (fun _ _ e => e) h2⟩
 ·cases e
theorem o_ixT : OR K false (rIxT K) fIxT := by
 intro S H x y dx dy d Q _ ix iy e q
 unfold fIxT at e
 split at e
 ·obtain ⟨a, vs, rfl, h, l⟩ := ix
  obtain ⟨v, h1, h2⟩ := isl_at l e
  exact ⟨a, vs, _, v, rfl, iy, Same.tup same_hid h, h1, q _ H (fun _ _ e => e) h2⟩
 ·cases e
theorem isl_append {H : Hp} : ∀ {xs ys : List PyData} {vs us : List V}, IsL K H xs vs -> IsL K H ys us -> IsL K H (xs ++ ys) (vs ++ us)
 | [], _, _, _, h, k => by rw [show _ = [] from h]; exact k
 | _ :: _, _, _, _, ⟨x, xs, e, h, l⟩, k => by subst e; exact ⟨x, _, rfl, h, isl_append l k⟩
theorem res_new {S : Addr -> Prop} {H : Hp} {xs : List PyData} {vs : List V} {p : Addr} (hp : H p = none) (l : IsL K (hid S H) xs vs) : Res K true S H (upd H p (.lst vs)) (.list xs) (.ref p) := by
 refine ⟨.l xs, p, _, rfl, rfl, hp, upd_same, vs, rfl, l.mono (Keep.same fun b o hn e => ?_)⟩
 have : b ≠ p := ne_of_none e hp
 exact ⟨fun z => z.elim hn this, by rw [upd_ne this]; exact e⟩
def dTest (a : DX) (τ : DS) : Option (Bool × DS) := (a τ).bind fun p => match p.1 with
 | .bool b => some (b, p.2)
 | _ => none
theorem t_test {fr : Bool} {t : TE} {a : DX} (h : E K t fr a) : T K (tTest t) (dTest a) := by
 refine ⟨fun τ d τ' e => ?_, ?_⟩
 ·unfold dTest at e; obtain ⟨⟨x, τ1⟩, e1, e⟩ := oB e; dsimp only at e; split at e
  ·cases e; exact h.like _ _ _ e1
  ·cases e
 intro S M τ σ H Q b τ' r e q
 unfold dTest at e
 obtain ⟨⟨x, τ1⟩, e1, e⟩ := oB e
 dsimp only at e
 split at e
 ·cases e
  refine h.run S M τ σ H _ _ _ r e1 fun v H' r' c i => ?_
  exact ⟨b, (show v = .bl b from r.isr i), q H' r' c⟩
 ·cases e
theorem t_val {fr : Bool} {t : TE} {a : DX} (h : E K t fr a) : T K (tB t) (dTest a) := t_test h
def dTAnd (a b : DT) (τ : DS) : Option (Bool × DS) := (a τ).bind fun p => if p.1 = true then b p.2 else some (false, p.2)
def dTOr (a b : DT) (τ : DS) : Option (Bool × DS) := (a τ).bind fun p => if p.1 = true then some (true, p.2) else b p.2
def dTNot (a : DT) (τ : DS) : Option (Bool × DS) := (a τ).map fun p => (!p.1, p.2)
theorem t_and {ta tb : TT} {a b : DT} (ha : T K ta a) (hb : T K tb b) : T K (tAnd ta tb) (dTAnd a b) := by
 refine ⟨fun τ d τ' e => ?_, ?_⟩
 ·unfold dTAnd at e; obtain ⟨⟨c, τ1⟩, e1, e⟩ := oB e; cases c with
  | true => exact (ha.like _ _ _ e1).trans (hb.like _ _ _ e)
  | false => cases e; exact ha.like _ _ _ e1
 intro S M τ σ H Q k τ' r e q
 unfold dTAnd at e
 obtain ⟨⟨c, τ1⟩, e1, e⟩ := oB e
 refine ha.run S M τ σ H _ c τ1 r e1 fun H1 r1 c1 => ?_
 cases c with
 | true => exact hb.run S M τ1 σ H1 _ k τ' r1 e fun H2 r2 c2 => q H2 r2 (c1.trans c2)
 | false => cases e; exact q H1 r1 c1
theorem t_or {ta tb : TT} {a b : DT} (ha : T K ta a) (hb : T K tb b) : T K (tOr ta tb) (dTOr a b) := by
 refine ⟨fun τ d τ' e => ?_, ?_⟩
 ·unfold dTOr at e; obtain ⟨⟨c, τ1⟩, e1, e⟩ := oB e; cases c with
  | false => exact (ha.like _ _ _ e1).trans (hb.like _ _ _ e)
  | true => cases e; exact ha.like _ _ _ e1
 intro S M τ σ H Q k τ' r e q
 unfold dTOr at e
 obtain ⟨⟨c, τ1⟩, e1, e⟩ := oB e
 refine ha.run S M τ σ H _ c τ1 r e1 fun H1 r1 c1 => ?_
 cases c with
 | false => exact hb.run S M τ1 σ H1 _ k τ' r1 e fun H2 r2 c2 => q H2 r2 (c1.trans c2)
 | true => cases e; exact q H1 r1 c1
theorem t_not {ta : TT} {a : DT} (ha : T K ta a) : T K (tNot ta) (dTNot a) := by
 refine ⟨fun τ d τ' e => ?_, ?_⟩
 ·unfold dTNot at e; obtain ⟨⟨c, τ1⟩, e1, e⟩ := oM e; cases e; exact ha.like _ _ _ e1
 intro S M τ σ H Q k τ' r e q
 unfold dTNot at e
 obtain ⟨⟨c, τ1⟩, e1, e⟩ := oM e
 cases e
 exact ha.run S M τ σ H _ c _ r e1 fun H1 r1 c1 => q H1 r1 c1
def dIf (c : DT) (a b : DX) (τ : DS) : Option (PyData × DS) := (c τ).bind fun p => if p.1 = true then a p.2 else b p.2
def dAnd (a b : DX) (τ : DS) : Option (PyData × DS) := (dTest a τ).bind fun p => if p.1 = true then b p.2 else some (.bool false, p.2)
def dOr (a b : DX) (τ : DS) : Option (PyData × DS) := (dTest a τ).bind fun p => if p.1 = true then some (.bool true, p.2) else b p.2
def dNot (a : DX) (τ : DS) : Option (PyData × DS) := (dTest a τ).map fun p => (.bool (!p.1), p.2)
def dChain (F G : PyData -> PyData -> Option PyData) (a b c : DX) (τ : DS) : Option (PyData × DS) := (a τ).bind fun p => (b p.2).bind fun q => (F p.1 q.1).bind fun z => match z with
 | .bool true => (c q.2).bind fun s => (G q.1 s.1).map fun d => (d, s.2)
 | .bool false => some (.bool false, q.2)
 | _ => none
end DL
end
section
set_option Elab.async false
set_option linter.all false
set_option maxRecDepth 100000
namespace DL
open PySem L2
variable {K : KW}
def dANil (τ : DS) : Option (List Ar × DS) := some ([], τ)
def dACons (a : DX) (r : DA) (τ : DS) : Option (List Ar × DS) := (a τ).bind fun p => (r p.2).map fun q => (.d p.1 :: q.1, q.2)
theorem a_nil : A K tNil dANil := by
 refine ⟨fun τ d τ' e => ?_, ?_⟩
 ·cases e; exact .refl
 intro S M τ σ H Q rs τ' r e q
 cases e
 exact q [] H r .refl rfl
theorem a_cons {fr : Bool} {te : TE} {t : TA} {a : DX} {f : DA} (ha : E K te fr a) (hr : A K t f) : A K (tCons te t) (dACons a f) := by
 refine ⟨fun τ d τ' e => ?_, ?_⟩
 ·unfold dACons at e
  obtain ⟨⟨x, τ1⟩, e1, e⟩ := oB e
  obtain ⟨⟨y, τ2⟩, e2, e⟩ := oM e
  cases e
  exact (ha.like _ _ _ e1).trans (hr.like _ _ _ e2)
 intro S M τ σ H Q rs τ' r e q
 unfold dACons at e
 obtain ⟨⟨x, τ1⟩, e1, e⟩ := oB e
 obtain ⟨⟨y, τ2⟩, e2, e⟩ := oM e
 cases e
 refine ha.run S M τ σ H _ x τ1 r e1 fun v H1 r1 c1 i1 => ?_
 refine hr.run S M τ1 σ H1 _ y _ r1 e2 fun vs H2 r2 c2 i2 => ?_
 exact q (v :: vs) H2 r2 (c1.trans c2) ⟨v, vs, rfl, (r.isr i1).mono (c2.keep r1.sub).same, i2⟩
def allD : List Ar -> Option (List PyData)
 | [] => some []
 | .d x :: r => (allD r).map (x :: ·)
 | .s _ :: _ => none
theorem allD_is {S : Addr -> Prop} {σ : St} {H : Hp} : ∀ {rs : List Ar} {vs : List V} {ds : List PyData}, ArIs K S σ H rs vs -> allD rs = some ds -> IsL K (hid S H) ds vs
 | [], _, _, h, e => by cases e; exact h
 | .d x :: r, _, _, ⟨v, us, e1, h, l⟩, e => by
  obtain ⟨ds, e2, e⟩ := oM e
  cases e
  exact ⟨v, us, e1, h, allD_is l e2⟩
 | .s _ :: _, _, _, _, e => by cases e
def dTup (a : DA) (τ : DS) : Option (PyData × DS) := (a τ).bind fun p => (allD p.1).bind fun ds => if ds.length <= sizeLine then some (.tuple ds, p.2) else none
def dLst (a : DA) (τ : DS) : Option (PyData × DS) := (a τ).bind fun p => (allD p.1).bind fun ds => if ds.length <= sizeLine then some (.list ds, p.2) else none
theorem e_tup {t : TA} {a : DA} (ha : A K t a) : E K (tTup t) false (dTup a) := by
 refine ⟨fun τ d τ' e => ?_, ?_⟩
 ·unfold dTup at e
  obtain ⟨⟨x, τ1⟩, e1, e⟩ := oB e
  obtain ⟨ds, e2, e⟩ := oB e
  split at e
  ·cases e; exact ha.like _ _ _ e1
  ·cases e
 intro S M τ σ H Q d τ' r e q
 unfold dTup at e
 obtain ⟨⟨x, τ1⟩, e1, e⟩ := oB e
 obtain ⟨ds, e2, e⟩ := oB e
 split at e
 ·rename_i hz
  cases e
  refine ha.run S M τ σ H _ x _ r e1 fun vs H1 r1 c1 i1 => ?_
  have l := allD_is i1 e2
  refine ⟨by rw [l.length]; exact hz, fun p hp => ?_⟩
  have s := same_new hp (HO.tup vs)
  exact q _ _ (r1.same s) (c1.trans (.of s)) ⟨p, vs, rfl, SqT.of (hid_iff.mpr ⟨r1.fresh hp, upd_same⟩), l.mono (Same.keep s).same⟩
 ·cases e
theorem e_lst {t : TA} {a : DA} (ha : A K t a) : E K (tLst t) true (dLst a) := by
 refine ⟨fun τ d τ' e => ?_, ?_⟩
 ·unfold dLst at e
  obtain ⟨⟨x, τ1⟩, e1, e⟩ := oB e
  obtain ⟨ds, e2, e⟩ := oB e
  split at e
  ·cases e; exact ha.like _ _ _ e1
  ·cases e
 intro S M τ σ H Q d τ' r e q
 unfold dLst at e
 obtain ⟨⟨x, τ1⟩, e1, e⟩ := oB e
 obtain ⟨ds, e2, e⟩ := oB e
 split at e
 ·rename_i hz
  cases e
  refine ha.run S M τ σ H _ x _ r e1 fun vs H1 r1 c1 i1 => ?_
  have l := allD_is i1 e2
  refine ⟨by rw [l.length]; exact hz, fun p hp => ?_⟩
  have s := same_new hp (HO.lst vs)
  exact q _ _ (r1.same s) (c1.trans (.of s)) ((res_new hp l).back r1 c1)
 ·cases e
def BR (K : KW) (fr : Bool) (r : List V -> Hp -> VK -> Prop) (F : List PyData -> Option PyData) : Prop := ∀ (S : Addr -> Prop) H vs ds d (Q : VK), (∀ a, H a = none -> ¬ S a) -> IsL K (hid S H) ds vs -> F ds = some d -> (∀ v H', Same H H' -> Res K fr S H H' d v -> Q v H') -> r vs H Q
def dApp (F : List PyData -> Option PyData) (a : DA) (τ : DS) : Option (PyData × DS) := (a τ).bind fun p => (allD p.1).bind fun ds => (F ds).map fun d => (d, p.2)
theorem e_app {fr : Bool} {r : List V -> Hp -> VK -> Prop} {F : List PyData -> Option PyData} {t : TA} {a : DA} (h : BR K fr r F) (ha : A K t a) : E K (tCB r t) fr (dApp F a) := by
 refine ⟨fun τ d τ' e => ?_, ?_⟩
 ·unfold dApp at e
  obtain ⟨⟨x, τ1⟩, e1, e⟩ := oB e
  obtain ⟨ds, e2, e⟩ := oB e
  obtain ⟨z, e3, e⟩ := oM e
  cases e; exact ha.like _ _ _ e1
 intro S M τ σ H Q d τ' rr e q
 unfold dApp at e
 obtain ⟨⟨x, τ1⟩, e1, e⟩ := oB e
 obtain ⟨ds, e2, e⟩ := oB e
 obtain ⟨z, e3, e⟩ := oM e
 cases e
 refine ha.run S M τ σ H _ x _ rr e1 fun vs H1 r1 c1 i1 => ?_
 refine h S H1 vs ds d _ (fun _ => r1.fresh) (allD_is i1 e2) e3 fun v H' s res => ?_
 exact q v H' (r1.same s) (c1.trans (.of s)) (res.back r1 c1)
def spD (K : KW) (G : List L -> Option (PyData × List L)) (fr : Bool) : Sp := fun vs H Q _ => ∃ (S M : Addr -> Prop) (ls : List L) (r : PyData) (ls' : List L), R K S M (ls.map some) (vs.map some) H /\ G ls = some (r, ls') /\
 ∀ v H', R K S M (ls'.map some) (vs.map some) H' -> Chg M H H' -> Res K fr S H H' r v -> Q v H'
theorem r_args {S M : Addr -> Prop} {τ : DS} {σ : St} {H : Hp} (r : R K S M τ σ H) {ds : List PyData} {vs : List V} (l : IsL K (hid S H) ds vs) : R K S (fun _ => False) ((ds.map L.d).map some) (vs.map some) H where
 len := by rw [List.length_map, List.length_map, List.length_map, l.length]
 dat := fun i x e => by
  rw [List.getElem?_map, List.getElem?_map] at e
  cases q : ds[i]? with
  | none => rw [q] at e; cases e
  | some d =>
   rw [q] at e
   cases e
   obtain ⟨v, h1, h2⟩ := l.get q
   exact ⟨v, by rw [List.getElem?_map, h1]; rfl, h2⟩
 mt := fun i o e => by
  rw [List.getElem?_map, List.getElem?_map] at e
  cases q : ds[i]? with
  | none => rw [q] at e; cases e
  | some d => rw [q] at e; cases o <;> cases e
 cst := fun i xs e => by
  rw [List.getElem?_map, List.getElem?_map] at e
  cases q : ds[i]? with
  | none => rw [q] at e; cases e
  | some d => rw [q] at e; cases e
 inj := fun i j o p a e => by
  rw [List.getElem?_map, List.getElem?_map] at e
  cases q : ds[i]? with
  | none => rw [q] at e; cases e
  | some d => rw [q] at e; cases o <;> cases e
 sub := fun a h => h.elim
 ex := r.ex
 gr := GR.nil fun i d e => by
  rw [List.getElem?_map, List.getElem?_map] at e
  cases q : ds[i]? with
  | none => rw [q] at e; cases e
  | some d => rw [q] at e; cases e
def dCall (G : List L -> Option (PyData × List L)) (a : DA) (τ : DS) : Option (PyData × DS) := (a τ).bind fun p => (allD p.1).bind fun ds => (G (ds.map L.d)).map fun q => (q.1, p.2)
theorem e_call {fr : Bool} {G : List L -> Option (PyData × List L)} {t : TA} {a : DA} {X : XK} (ha : A K t a) : E K (tCall (spD K G fr) [] X t) fr (dCall G a) := by
 refine ⟨fun τ d τ' e => ?_, ?_⟩
 ·unfold dCall at e
  obtain ⟨⟨x, τ1⟩, e1, e⟩ := oB e
  obtain ⟨ds, e2, e⟩ := oB e
  obtain ⟨z, e3, e⟩ := oM e
  cases e; exact ha.like _ _ _ e1
 intro S M τ σ H Q d τ' rr e q
 unfold dCall at e
 obtain ⟨⟨x, τ1⟩, e1, e⟩ := oB e
 obtain ⟨ds, e2, e⟩ := oB e
 obtain ⟨⟨z, ls'⟩, e3, e⟩ := oM e
 cases e
 refine ha.run S M τ σ H _ x _ rr e1 fun vs H1 r1 c1 i1 => ?_
 have l := allD_is i1 e2
 show spD K G fr (vs ++ []) H1 Q X
 rw [List.append_nil]
 refine ⟨S, fun _ => False, ds.map L.d, _, ls', r_args r1 l, e3, fun v H' _ c res => ?_⟩
 have s : Same H1 H' := fun b o e => c b o (fun z => z) e
 exact q v H' (r1.same s) (c1.trans (.of s)) (res.back r1 c1)
theorem owL_inj {a b : Ow} (h : some (some a.L) = some (some b.L)) : a = b := Ow.inj (Option.some.inj (Option.some.inj h))
theorem R.setO {S M : Addr -> Prop} {τ : DS} {σ : St} {H H' : Hp} (r : R K S M τ σ H) {i : Nat} {a : Addr} {w w' : Ow} {h : HO} (hi : τ[i]? = some (some w.L)) (ha : σ[i]? = some (some (.ref a)))
  (c : Chg (fun b => b = a) H H') (h' : H' a = some h) (l : IsO K (hid S H') w' a h) : R K S M (τ.set i (some w'.L)) σ H' := by
 have hlt : i < τ.length := (List.getElem?_eq_some_iff.mp hi).1
 have Sa : S a := by
  obtain ⟨b, us, h1, h2, _⟩ := r.mt i w hi
  rw [ha] at h1; cases h1
  exact r.sub _ h2
 have k : Keep S H S H' := c.keep fun b e => by subst e; exact Sa
 have ne : ∀ j, j ≠ i -> (τ.set i (some w'.L))[j]? = τ[j]? := fun j hj => List.getElem?_set_ne (Ne.symm hj)
 have se : (τ.set i (some w'.L))[i]? = some (some w'.L) := List.getElem?_set_self hlt
 refine ⟨by rw [List.length_set]; exact r.len, fun j x e => ?_, fun j ys e => ?_, fun j x e => ?_, fun j1 j2 ys zs b e1 e2 f1 f2 => ?_, r.sub, fun b hb => ?_, r.gr.to (fun j d e => ?_) (fun j o b e q => ?_) (fun b hb hn => ⟨hb, ?_⟩) (tsS k.same)⟩
 ·by_cases hj : j = i
  ·subst hj; rw [se] at e; exact absurd (Option.some.inj (Option.some.inj e)) Ow.not_d
  ·rw [ne j hj] at e
   obtain ⟨v, h1, h2⟩ := r.dat j x e
   exact ⟨v, h1, h2.mono k.same⟩
 ·by_cases hj : j = i
  ·subst hj
   rw [se] at e
   obtain rfl := Ow.inj (Option.some.inj (Option.some.inj e))
   obtain ⟨b, us, h1, h2, _⟩ := r.mt j w hi
   rw [ha] at h1; cases h1
   exact ⟨a, h, ha, h2, h', l⟩
  ·rw [ne j hj] at e
   obtain ⟨b, us, h1, h2, h3, h4⟩ := r.mt j ys e
   refine ⟨b, us, h1, h2, c b _ (fun z => ?_) h3, h4.mono k.same⟩
   subst z
   exact hj (r.inj j i ys w b e hi h1 ha)
 ·by_cases hj : j = i
  ·subst hj; rw [se] at e; exact absurd (Option.some.inj (Option.some.inj e)) Ow.not_c
  ·rw [ne j hj] at e
   obtain ⟨b, us, h1, h2, h3⟩ := r.cst j x e
   exact ⟨b, us, h1, k.same.seq h2, h3.mono k.same⟩
 ·have g : ∀ (j : Nat) (ys : Ow), (τ.set i (some w'.L))[j]? = some (some ys.L) -> ∃ zs : Ow, τ[j]? = some (some zs.L) := fun j ys e => by
   by_cases hj : j = i
   ·subst hj; exact ⟨_, hi⟩
   ·rw [ne j hj] at e; exact ⟨_, e⟩
  obtain ⟨_, g1⟩ := g j1 ys e1
  obtain ⟨_, g2⟩ := g j2 zs e2
  exact r.inj _ _ _ _ b g1 g2 f1 f2
 ·by_cases e : b = a
  ·subst e; exact ⟨_, h'⟩
  ·obtain ⟨o, q⟩ := r.ex b hb
   exact ⟨o, c b o e q⟩
 ·by_cases hj : j = i
  ·subst hj; rw [se] at e; exact absurd (Option.some.inj (Option.some.inj e)) Ow.not_g
  ·rw [ne j hj] at e; exact ⟨e, rfl⟩
 ·by_cases hj : j = i
  ·subst hj; exact .inl ⟨w, hi, q⟩
  ·rw [ne j hj] at e; exact .inl ⟨o, e, q⟩
 ·obtain ⟨o, e⟩ := r.ex b (r.sub b hb)
  rw [e]; exact c b o (fun z => hn i w hi (by rw [z]; exact ha)) e
theorem R.setM {S M : Addr -> Prop} {τ : DS} {σ : St} {H H' : Hp} (r : R K S M τ σ H) {i : Nat} {a : Addr} {xs xs' : List PyData} {vs : List V} (hi : τ[i]? = some (some (.m xs))) (ha : σ[i]? = some (some (.ref a)))
  (c : Chg (fun b => b = a) H H') (h' : H' a = some (.lst vs)) (l : IsL K (hid S H') xs' vs) : R K S M (τ.set i (some (.m xs'))) σ H' := r.setO (w := .l xs) (w' := .l xs') hi ha c h' ⟨vs, rfl, l⟩
theorem like_setO {τ : DS} {i : Nat} {w w' : Ow} (hi : τ[i]? = some (some w.L)) (hf : w.fl = w'.fl) : Like τ (τ.set i (some w'.L)) := by
 have hlt : i < τ.length := (List.getElem?_eq_some_iff.mp hi).1
 refine ⟨by rw [List.length_set], fun j => ?_⟩
 by_cases hj : j = i
 ·subst hj
  rw [List.getElem?_set_self hlt, hi]
  exact ⟨⟨fun x => ⟨fun z => absurd (Option.some.inj (Option.some.inj z)) Ow.not_d, fun z => absurd (Option.some.inj (Option.some.inj z)) Ow.not_d⟩, fun x => ⟨fun z => absurd (Option.some.inj (Option.some.inj z)) Ow.not_c, fun z => absurd (Option.some.inj (Option.some.inj z)) Ow.not_c⟩⟩, fun b => ⟨fun ⟨o, h1, h2⟩ => ⟨w, by rw [hf, owL_inj h2]; exact h1, rfl⟩, fun ⟨o, h1, h2⟩ => ⟨w', by rw [<- hf, owL_inj h2]; exact h1, rfl⟩⟩⟩
 ·rw [List.getElem?_set_ne (Ne.symm hj)]
  exact ⟨⟨fun x => Iff.rfl, fun x => Iff.rfl⟩, fun b => Iff.rfl⟩
theorem like_setM {τ : DS} {i : Nat} {xs xs' : List PyData} (hi : τ[i]? = some (some (.m xs))) : Like τ (τ.set i (some (.m xs'))) := like_setO (w := .l xs) (w' := .l xs') hi rfl
def dCallM (i : Nat) (G : List L -> Option (PyData × List L)) (a : DA) (τ : DS) : Option (PyData × DS) := (a τ).bind fun p => (allD p.1).bind fun ds => match p.2[i]? with
 | some (some (.m xs)) => (G (.m xs :: ds.map L.d)).bind fun q => match q.2 with
  | .m xs' :: _ => some (q.1, p.2.set i (some (.m xs')))
  | _ => none
 | some (some (.k xs)) => (G (.k xs :: ds.map L.d)).bind fun q => match q.2 with
  | .k xs' :: _ => some (q.1, p.2.set i (some (.k xs')))
  | _ => none
 | _ => none
def okM : Option L -> Bool
 | some (.m xs) => fixDs xs
 | some (.k kvs) => fixDs (kvs.map (·.2))
 | _ => true
theorem IsKV.monoT {H H' : Hp} (s : TSm H H') : ∀ {kvs : List (List Int × PyData)} {ts : List (List Int × Addr × V)}, fixDs (kvs.map (·.2)) = true -> IsKV K H (dctP kvs) ts -> IsKV K H' (dctP kvs) ts
 | [], _, _, h => h
 | (k, d) :: kvs, _, f, ⟨t, tr, e, ek, hk, h, l⟩ => by
  rw [List.map_cons, fixDs, Bool.and_eq_true] at f
  exact ⟨t, tr, e, ek, s.tup hk, Is.monoT s f.1 h, IsKV.monoT s (kvs := kvs) f.2 l⟩
theorem IsO.monoT {H H' : Hp} (s : TSm H H') : ∀ {o : Ow} {a : Addr} {h : HO}, okM (some o.L) = true -> IsO K H o a h -> IsO K H' o a h
 | .l _, _, _, f, ⟨vs, e, l⟩ => ⟨vs, e, l.monoT s f⟩
 | .t _, _, _, f, ⟨ts, e, l⟩ => ⟨ts, e, IsKV.monoT s f l⟩
def OwH (h : HO) : Prop := (∃ vs, h = .lst vs) \/ ∃ φ, h = .ext φ
theorem IsO.ho {H : Hp} : ∀ {o : Ow} {a : Addr} {h : HO}, IsO K H o a h -> OwH h
 | .l _, _, _, ⟨vs, e, _⟩ => .inl ⟨vs, e⟩
 | .t _, _, _, ⟨ts, e, _⟩ => .inr ⟨_, e⟩
def dBor (i : Nat) (f : DX) (τ : DS) : Option (PyData × DS) := match τ[i]? with
 | some (some (.m xs)) => (f (τ.set i (some (.d (.list xs))))).bind fun q => if fixD q.1 && q.2.all okM then some (q.1, q.2.set i (some (.m xs))) else none
 | some (some (.k xs)) => (f (τ.set i (some (.d (.dict (dctP xs)))))).bind fun q => if fixD q.1 && q.2.all okM then some (q.1, q.2.set i (some (.k xs))) else none
 | _ => none
theorem dBor_some {i : Nat} {f : DX} {τ : DS} {d : PyData} {τ' : DS} (e : dBor i f τ = some (d, τ')) : ∃ w τ1, τ[i]? = some (some (Ow.L w)) /\ f (τ.set i (some (.d w.D))) = some (d, τ1) /\ fixD d = true /\ τ1.all okM = true /\ τ' = τ1.set i (some w.L) := by
 unfold dBor at e
 split at e
 ·rename_i xs hx
  obtain ⟨⟨z, τ1⟩, e1, e⟩ := oB e
  dsimp only at e
  split at e
  ·rename_i h
   rw [Bool.and_eq_true] at h
   cases e
   exact ⟨.l xs, τ1, hx, e1, h.1, h.2, rfl⟩
  ·cases e
 ·rename_i xs hx
  obtain ⟨⟨z, τ1⟩, e1, e⟩ := oB e
  dsimp only at e
  split at e
  ·rename_i h
   rw [Bool.and_eq_true] at h
   cases e
   exact ⟨.t xs, τ1, hx, e1, h.1, h.2, rfl⟩
  ·cases e
 ·cases e
theorem tsame_hid {S S' : Addr -> Prop} {H : Hp} (h : ∀ a, S' a -> S a \/ ∃ o, H a = some o /\ OwH o) : TSm (hid S H) (hid S' H) := fun b o e nl ne => by
 obtain ⟨e1, e2⟩ := hid_iff.mp e
 refine hid_iff.mpr ⟨fun z => ?_, e2⟩
 rcases h b z with z | ⟨o', z, ⟨vs, rfl⟩ | ⟨φ, rfl⟩⟩
 ·exact e1 z
 ·rw [e2] at z; cases z; exact nl _ rfl
 ·rw [e2] at z; cases z; exact ne _ rfl
theorem frz {S M : Addr -> Prop} {τ : DS} {σ : St} {H : Hp} (r : R K S M τ σ H) {i : Nat} {w : Ow} {p : Addr} (hi : τ[i]? = some (some w.L)) (hp : σ[i]? = some (some (.ref p))) :
  R K (fun b => S b /\ b ≠ p) (fun b => M b /\ b ≠ p) (τ.set i (some (.d w.D))) σ H := by
 have hlt : i < τ.length := (List.getElem?_eq_some_iff.mp hi).1
 have ne : ∀ j, j ≠ i -> (τ.set i (some (.d w.D)))[j]? = τ[j]? := fun j hj => List.getElem?_set_ne (Ne.symm hj)
 have se : (τ.set i (some (.d w.D)))[i]? = some (some (.d w.D)) := List.getElem?_set_self hlt
 have k : Same (hid S H) (hid (fun b => S b /\ b ≠ p) H) := hid_less fun a z => z.1
 have mn : ∀ (j : Nat) (ys : Ow), (τ.set i (some (.d w.D)))[j]? = some (some ys.L) -> j ≠ i /\ τ[j]? = some (some ys.L) := fun j ys e => by
  by_cases hj : j = i
  ·subst hj; rw [se] at e; exact absurd (Option.some.inj (Option.some.inj e)).symm Ow.not_d
  ·rw [ne j hj] at e; exact ⟨hj, e⟩
 have cs : ∀ (j : Nat) (ys : List PyData), (τ.set i (some (.d w.D)))[j]? = some (some (.c ys)) -> τ[j]? = some (some (.c ys)) := fun j ys e => by
  by_cases hj : j = i
  ·subst hj; rw [se] at e; cases e
  ·rw [ne j hj] at e; exact e
 refine ⟨by rw [List.length_set]; exact r.len, fun j x e => ?_, fun j ys e => ?_, fun j ys e => let ⟨a, vs, h1, h2, h3⟩ := r.cst j ys (cs j ys e); ⟨a, vs, h1, k.seq h2, h3.mono k⟩, fun j1 j2 ys zs b e1 e2 f1 f2 => ?_, fun a h => ⟨r.sub a h.1, h.2⟩, fun a h => r.ex a h.1, r.gr.to (fun j d e => ?_) (fun j o b e q => .inl ⟨o, (mn j o e).2, q⟩) (fun b hb hn => ⟨⟨hb, fun z => hn i w hi (by rw [z]; exact hp)⟩, rfl⟩) (tsS k)⟩
 ·by_cases hj : j = i
  ·subst hj
   rw [se] at e
   cases e
   obtain ⟨b, us, h1, h2, h3, h4⟩ := r.mt j w hi
   rw [hp] at h1; cases h1
   exact ⟨_, hp, IsO.is (h4.mono k) (hid_iff.mpr ⟨fun z => z.2 rfl, h3⟩)⟩
  ·rw [ne j hj] at e
   obtain ⟨v, h1, h2⟩ := r.dat j x e
   exact ⟨v, h1, h2.mono k⟩
 ·obtain ⟨hj, e⟩ := mn j ys e
  obtain ⟨b, us, h1, h2, h3, h4⟩ := r.mt j ys e
  refine ⟨b, us, h1, ⟨h2, fun z => ?_⟩, h3, h4.mono k⟩
  subst z
  exact hj (r.inj j i ys w b e hi h1 hp)
 ·exact r.inj j1 j2 ys zs b (mn _ _ e1).2 (mn _ _ e2).2 f1 f2
 ·by_cases hj : j = i
  ·subst hj; rw [se] at e; cases e
  ·rw [ne j hj] at e; exact ⟨e, rfl⟩
theorem unfrz {S M : Addr -> Prop} {τ τ1 : DS} {σ : St} {H H' : Hp} (r : R K S M τ σ H) {i : Nat} {w : Ow} {p : Addr} (hi : τ[i]? = some (some w.L)) (hp : σ[i]? = some (some (.ref p)))
  (r1 : R K (fun b => S b /\ b ≠ p) (fun b => M b /\ b ≠ p) τ1 σ H') (lk : Like (τ.set i (some (.d w.D))) τ1) (c : Chg (fun b => M b /\ b ≠ p) H H') (ok : τ1.all okM = true) : R K S M (τ1.set i (some w.L)) σ H' := by
 have hlt : i < τ.length := (List.getElem?_eq_some_iff.mp hi).1
 have hl1 : τ1.length = τ.length := by have := lk.1; rw [List.length_set] at this; exact this
 have hlt1 : i < τ1.length := by omega
 have ne : ∀ j, j ≠ i -> (τ1.set i (some w.L))[j]? = τ1[j]? := fun j hj => List.getElem?_set_ne (Ne.symm hj)
 have se : (τ1.set i (some w.L))[i]? = some (some w.L) := List.getElem?_set_self hlt1
 have ne0 : ∀ j, j ≠ i -> (τ.set i (some (.d w.D)))[j]? = τ[j]? := fun j hj => List.getElem?_set_ne (Ne.symm hj)
 obtain ⟨b0, us, hb0, h2, h3, h4⟩ := r.mt i w hi
 rw [hp] at hb0; cases hb0
 have h3' : H' p = some us := c p _ (fun z => z.2 rfl) h3
 have c' : Chg M H H' := fun b o hn e => c b o (fun z => hn z.1) e
 have k : Keep S H S H' := c'.keep r.sub
 have ts : TSm (hid (fun b => S b /\ b ≠ p) H') (hid S H') := tsame_hid fun a z => by
  by_cases e : a = p
  ·subst e; exact .inr ⟨_, h3', h4.ho⟩
  ·exact .inl ⟨z, e⟩
 have mm : ∀ (j : Nat) (ys : Ow), j ≠ i -> τ1[j]? = some (some ys.L) -> ∃ zs : Ow, τ[j]? = some (some zs.L) := fun j ys hj e => by
  obtain ⟨zs, q⟩ := (lk.own j).mp ⟨_, e⟩
  rw [ne0 j hj] at q
  exact ⟨zs, q⟩
 have cs : ∀ (j : Nat) (ys : List PyData), (τ1.set i (some w.L))[j]? = some (some (.c ys)) -> τ[j]? = some (some (.c ys)) := fun j ys e => by
  by_cases hj : j = i
  ·subst hj; rw [se] at e; exact absurd (Option.some.inj (Option.some.inj e)) Ow.not_c
  ·rw [ne j hj] at e
   have := ((lk.2 j).1.2 ys).mp e
   rw [ne0 j hj] at this
   exact this
 refine ⟨by rw [List.length_set]; exact r1.len, fun j x e => ?_, fun j ys e => ?_, fun j ys e => let ⟨a, vs, h1, h2, h3⟩ := r.cst j ys (cs j ys e); ⟨a, vs, h1, k.same.seq h2, h3.mono k.same⟩, fun j1 j2 ys zs b e1 e2 f1 f2 => ?_, r.sub, fun a h => ?_, r1.gr.to (fun j d e => ?_) (fun j o b e q => ?_) (fun b hb hn => ⟨hb.1, rfl⟩) ts⟩
 ·by_cases hj : j = i
  ·subst hj; rw [se] at e; exact absurd (Option.some.inj (Option.some.inj e)) Ow.not_d
  ·rw [ne j hj] at e
   have := ((lk.2 j).1.1 x).mp e
   rw [ne0 j hj] at this
   obtain ⟨v, h5, h6⟩ := r.dat j x this
   exact ⟨v, h5, h6.mono k.same⟩
 ·by_cases hj : j = i
  ·subst hj
   rw [se] at e
   obtain rfl := owL_inj e
   exact ⟨p, us, hp, h2, h3', h4.mono k.same⟩
  ·rw [ne j hj] at e
   obtain ⟨b, ws, h5, h6, h7, h8⟩ := r1.mt j ys e
   have fx : okM (some ys.L) = true := List.all_eq_true.mp ok (some ys.L) (List.mem_of_getElem? e)
   exact ⟨b, ws, h5, h6.1, h7, h8.monoT ts fx⟩
 ·have g : ∀ (j : Nat) (ys : Ow), (τ1.set i (some w.L))[j]? = some (some ys.L) -> ∃ zs : Ow, τ[j]? = some (some zs.L) := fun j ys e => by
   by_cases hj : j = i
   ·subst hj; exact ⟨_, hi⟩
   ·rw [ne j hj] at e; exact mm j ys hj e
  obtain ⟨_, g1⟩ := g j1 ys e1
  obtain ⟨_, g2⟩ := g j2 zs e2
  exact r.inj _ _ _ _ b g1 g2 f1 f2
 ·by_cases e : a = p
  ·subst e; exact ⟨_, h3'⟩
  ·exact r1.ex a ⟨h, e⟩
 ·by_cases hj : j = i
  ·subst hj; rw [se] at e; exact absurd (Option.some.inj (Option.some.inj e)) Ow.not_g
  ·rw [ne j hj] at e; exact ⟨e, rfl⟩
 ·by_cases hj : j = i
  ·subst hj
   rw [hp] at q; cases q
   exact .inr fun z => z.2 rfl
  ·rw [ne j hj] at e; exact .inl ⟨o, e, q⟩
theorem like_bor {τ τ1 : DS} {i : Nat} {w : Ow} (hi : τ[i]? = some (some w.L)) (lk : Like (τ.set i (some (.d w.D))) τ1) : Like τ (τ1.set i (some w.L)) := by
 have hlt : i < τ.length := (List.getElem?_eq_some_iff.mp hi).1
 have hl1 : τ1.length = τ.length := by have := lk.1; rw [List.length_set] at this; exact this
 refine ⟨by rw [List.length_set]; exact hl1, fun j => ?_⟩
 by_cases hj : j = i
 ·subst hj
  rw [List.getElem?_set_self (by omega), hi]
  exact ⟨⟨fun x => Iff.rfl, fun x => Iff.rfl⟩, fun b => Iff.rfl⟩
 ·have := lk.2 j
  rw [List.getElem?_set_ne (Ne.symm hj)] at this ⊢
  exact this
theorem e_bor {i : Nat} {fr : Bool} {t : TE} {f : DX} (h : E K t fr f) : E K t false (dBor i f) := by
 refine ⟨fun τ d τ' e => ?_, ?_⟩
 ·obtain ⟨xs, τ1, e1, e2, _, _, rfl⟩ := dBor_some e
  exact like_bor e1 (h.like _ _ _ e2)
 intro S M τ σ H Q d τ' r e q
 obtain ⟨xs, τ1, e1, e2, fx, ok, rfl⟩ := dBor_some e
 obtain ⟨p, us, hp, hM, hl, ll⟩ := r.mt i xs e1
 refine h.weak.run _ _ _ σ H _ d τ1 (frz r e1 hp) e2 fun v H' r' c res => ?_
 have r2 := unfrz r e1 hp r' (h.like _ _ _ e2) c ok
 refine q v H' r2 (fun b o hn e => c b o (fun z => hn z.1) e) ?_
 have h3' : H' p = some us := c p _ (fun z => z.2 rfl) hl
 exact Is.monoT (tsame_hid fun a z => by
  by_cases e : a = p
  ·subst e; exact .inr ⟨_, h3', ll.ho⟩
  ·exact .inl ⟨z, e⟩) fx (show Is K (hid (fun b => S b /\ b ≠ p) H') d v from res)
def dBorF (i : Nat) (f : DX) (τ : DS) : Option (PyData × DS) := match τ[i]? with
 | some (some (.m xs)) => (f (τ.set i (some (.d (.list xs))))).bind fun q => match q.1 with
  | .list ys => if fixDs ys && q.2.all okM then some (q.1, q.2.set i (some (.m xs))) else none
  | _ => none
 | some (some (.k xs)) => (f (τ.set i (some (.d (.dict (dctP xs)))))).bind fun q => match q.1 with
  | .list ys => if fixDs ys && q.2.all okM then some (q.1, q.2.set i (some (.k xs))) else none
  | _ => none
 | _ => none
theorem dBorF_some {i : Nat} {f : DX} {τ : DS} {d : PyData} {τ' : DS} (e : dBorF i f τ = some (d, τ')) : ∃ w τ1 ys, τ[i]? = some (some (Ow.L w)) /\ f (τ.set i (some (.d w.D))) = some (d, τ1) /\ d = .list ys /\ fixDs ys = true /\ τ1.all okM = true /\ τ' = τ1.set i (some w.L) := by
 unfold dBorF at e
 split at e
 ·rename_i xs hx
  obtain ⟨⟨z, τ1⟩, e1, e⟩ := oB e
  dsimp only at e
  split at e
  ·split at e
   ·rename_i h
    rw [Bool.and_eq_true] at h
    cases e
    exact ⟨.l xs, τ1, _, hx, e1, rfl, h.1, h.2, rfl⟩
   ·cases e
  ·cases e
 ·rename_i xs hx
  obtain ⟨⟨z, τ1⟩, e1, e⟩ := oB e
  dsimp only at e
  split at e
  ·split at e
   ·rename_i h
    rw [Bool.and_eq_true] at h
    cases e
    exact ⟨.t xs, τ1, _, hx, e1, rfl, h.1, h.2, rfl⟩
   ·cases e
  ·cases e
 ·cases e
theorem Ow.D_list {o : Ow} {ys : List PyData} (h : PyData.list ys = o.D) : o = .l ys := by
 cases o with
 | l xs => cases h; rfl
 | t kvs => cases h
theorem e_borF {i : Nat} {t : TE} {f : DX} (h : E K t true f) : E K t true (dBorF i f) := by
 refine ⟨fun τ d τ' e => ?_, ?_⟩
 ·obtain ⟨xs, τ1, ys, e1, e2, _, _, _, rfl⟩ := dBorF_some e
  exact like_bor e1 (h.like _ _ _ e2)
 intro S M τ σ H Q d τ' r e q
 obtain ⟨xs, τ1, ys, e1, e2, rfl, fx, ok, rfl⟩ := dBorF_some e
 obtain ⟨p, us, hp, hM, hl, ll⟩ := r.mt i xs e1
 refine h.run _ _ _ σ H _ _ τ1 (frz r e1 hp) e2 fun v H' r' c res => ?_
 have r2 := unfrz r e1 hp r' (h.like _ _ _ e2) c ok
 refine q v H' r2 (fun b o hn e => c b o (fun z => hn z.1) e) ?_
 have h3' : H' p = some us := c p _ (fun z => z.2 rfl) hl
 obtain ⟨o, a, vs, e3, rfl, h5, h6, h7⟩ := res
 obtain rfl := Ow.D_list e3
 refine ⟨.l ys, a, vs, rfl, rfl, h5, h6, IsO.monoT (tsame_hid fun b z => ?_) fx h7⟩
 rcases z with z | z
 ·by_cases e : b = p
  ·subst e; exact .inr ⟨_, h3', ll.ho⟩
  ·exact .inl (.inl ⟨z, e⟩)
 ·exact .inl (.inr z)
end DL
end
section
set_option Elab.async false
set_option linter.all false
set_option maxRecDepth 100000
namespace DL
open PySem L2
variable {K : KW}
def ItIs (K : KW) (S : Addr -> Prop) (J : It) (H : Hp) (ds : List PyData) : Prop := ∀ (S2 : Addr -> Prop) (H2 : Hp), Keep S H S2 H2 -> (∀ (i : Nat) (d : PyData), ds[i]? = some d -> J.go i H2 /\ ∀ x H3, J.yld i H2 x H3 -> H3 = H2 /\ Is K (hid S2 H2) d x) /\ ∀ i, ds.length <= i -> J.stop i H2
abbrev DI := DS -> Option (List PyData × DS)
structure IT (K : KW) (wi : TI) (f : DI) : Prop where
 like : ∀ τ ds τ', f τ = some (ds, τ') -> Like τ τ'
 run : ∀ S M τ σ H (Q : It -> Hp -> Prop) ds τ', R K S M τ σ H -> f τ = some (ds, τ') -> (∀ J H', R K S M τ' σ H' -> Chg M H H' -> ItIs K S J H' ds -> Q J H') -> wi σ H Q
def dIL (f : DX) (τ : DS) : Option (List PyData × DS) := (f τ).bind fun p => match p.1 with
 | .list ds => some (ds, p.2)
 | _ => none
def dIT (f : DX) (τ : DS) : Option (List PyData × DS) := (f τ).bind fun p => match p.1 with
 | .tuple ds => some (ds, p.2)
 | _ => none
theorem it_list {fr : Bool} {t : TE} {f : DX} (h : E K t fr f) : IT K (iList K t) (dIL f) := by
 refine ⟨fun τ d τ' e => ?_, ?_⟩
 ·unfold dIL at e
  obtain ⟨⟨x, τ1⟩, e1, e⟩ := oB e
  dsimp only at e
  split at e
  ·cases e; exact h.like _ _ _ e1
  ·cases e
 intro S M τ σ H Q ds τ' r e q
 unfold dIL at e
 obtain ⟨⟨x, τ1⟩, e1, e⟩ := oB e
 dsimp only at e
 split at e
 ·cases e
  refine h.weak.run S M τ σ H _ _ _ r e1 fun v H1 r1 c1 i1 => ?_
  have i1' : Is K (hid S H1) (.list ds) v := i1
  obtain ⟨a, vs, rfl, hl, ll⟩ := i1'
  refine ⟨a, rfl, ⟨vs, SqL.of (hid_iff.mp hl).2⟩, q _ H1 r1 c1 fun S2 H2 k => ?_⟩
  have hl2 := k.same _ _ hl
  have ll2 := ll.mono k.same
  refine ⟨fun i d e => ?_, fun i hi => ⟨vs, SqL.of (hid_iff.mp hl2).2, by rw [ll.length]; exact hi⟩⟩
  obtain ⟨u, h1, h2⟩ := ll2.get e
  refine ⟨⟨vs, u, SqL.of (hid_iff.mp hl2).2, h1⟩, fun x H3 y => ⟨y.1, ?_⟩⟩
  have := y.2 vs (SqL.of (hid_iff.mp hl2).2)
  rw [h1] at this; cases this
  exact h2
 ·cases e
theorem it_tup {fr : Bool} {t : TE} {f : DX} (h : E K t fr f) : IT K (iTup K t) (dIT f) := by
 refine ⟨fun τ d τ' e => ?_, ?_⟩
 ·unfold dIT at e
  obtain ⟨⟨x, τ1⟩, e1, e⟩ := oB e
  dsimp only at e
  split at e
  ·cases e; exact h.like _ _ _ e1
  ·cases e
 intro S M τ σ H Q ds τ' r e q
 unfold dIT at e
 obtain ⟨⟨x, τ1⟩, e1, e⟩ := oB e
 dsimp only at e
 split at e
 ·cases e
  refine h.weak.run S M τ σ H _ _ _ r e1 fun v H1 r1 c1 i1 => ?_
  have i1' : Is K (hid S H1) (.tuple ds) v := i1
  obtain ⟨a, vs, rfl, hl, ll⟩ := i1'
  refine ⟨a, rfl, ⟨vs, Same.tup same_hid hl⟩, q _ H1 r1 c1 fun S2 H2 k => ?_⟩
  have hl2 := Same.tup same_hid (Same.tup k.same hl)
  have ll2 := ll.mono k.same
  refine ⟨fun i d e => ?_, fun i hi => ⟨vs, hl2, by rw [ll.length]; exact hi⟩⟩
  obtain ⟨u, h1, h2⟩ := ll2.get e
  refine ⟨⟨vs, u, hl2, h1⟩, fun x H3 y => ⟨y.1, ?_⟩⟩
  have := y.2 vs hl2
  rw [h1] at this; cases this
  exact h2
 ·cases e
def rangeD (lo : Int) (n : Nat) : List PyData := (List.range n).map fun (k : Nat) => PyData.int (lo + (k : Int))
theorem range_is {S : Addr -> Prop} {H : Hp} {lo : Int} {n : Nat} : ItIs K S (Itr lo n) H (rangeD lo n) := by
 intro S2 H2 k
 refine ⟨fun i d e => ?_, fun i hi => ?_⟩
 ·unfold rangeD at e
  rw [List.getElem?_map] at e
  by_cases hi : i < n
  ·rw [List.getElem?_range hi] at e
   cases e
   exact ⟨hi, fun x H3 y => ⟨y.1, y.2⟩⟩
  ·rw [List.getElem?_eq_none (by simpa using hi)] at e
   cases e
 ·unfold rangeD at hi
  rw [List.length_map, List.length_range] at hi
  exact hi
def dR1 (a : DA) (τ : DS) : Option (List PyData × DS) := (a τ).bind fun p => (allD p.1).bind fun ds => match ds with
 | [.int j] => if -(2 ^ 62) <= j /\ j < 2 ^ 62 then some (rangeD 0 j.toNat, p.2) else none
 | _ => none
def dR2 (a : DA) (τ : DS) : Option (List PyData × DS) := (a τ).bind fun p => (allD p.1).bind fun ds => match ds with
 | [.int i, .int j] => if -(2 ^ 62) <= i /\ i < 2 ^ 62 /\ -(2 ^ 62) <= j /\ j < 2 ^ 62 then some (rangeD i (j - i).toNat, p.2) else none
 | _ => none
theorem it_range1 {t : TA} {a : DA} (ha : A K t a) : IT K (iRng1 t) (dR1 a) := by
 refine ⟨fun τ d τ' e => ?_, ?_⟩
 ·unfold dR1 at e
  obtain ⟨⟨x, τ1⟩, e1, e⟩ := oB e
  obtain ⟨ds, e2, e⟩ := oB e
  split at e
  ·split at e
   ·cases e; exact ha.like _ _ _ e1
   ·cases e
  ·cases e
 intro S M τ σ H Q ds τ' r e q
 unfold dR1 at e
 obtain ⟨⟨x, τ1⟩, e1, e⟩ := oB e
 obtain ⟨ds', e2, e⟩ := oB e
 split at e
 ·split at e
  ·rename_i j hj
   cases e
   refine ha.run S M τ σ H _ x _ r e1 fun vs H1 r1 c1 i1 => ?_
   obtain ⟨v, us, rfl, iv, iu⟩ := allD_is i1 e2
   cases (show us = [] from iu)
   exact ⟨j, by rw [show v = .int j from iv], hj.1, hj.2, q _ H1 r1 c1 range_is⟩
  ·cases e
 ·cases e
abbrev DG := PyData -> DS -> Option DS
def MSame (τ τ' : DS) : Prop := τ'.length = τ.length /\ ∀ (j : Nat) (o : Ow), τ'[j]? = some (some o.L) ↔ τ[j]? = some (some o.L)
theorem MSame.refl {τ : DS} : MSame τ τ := ⟨rfl, fun _ _ => Iff.rfl⟩
theorem MSame.trans {τ τ1 τ2 : DS} (a : MSame τ τ1) (b : MSame τ1 τ2) : MSame τ τ2 := ⟨b.1.trans a.1, fun j xs => (b.2 j xs).trans (a.2 j xs)⟩
structure TG1 K (g : TG) (f : DG) : Prop where
 ms : ∀ d τ τ', f d τ = some τ' -> MSame τ τ'
 run : ∀ S M τ σ H v d τ' (Q : St -> Hp -> Prop), R K S M τ σ H -> Is K (hid S H) d v -> f d τ = some τ' -> (∀ σ', R K S M τ' σ' H -> (∀ (j : Nat) (o : Ow), τ[j]? = some (some o.L) -> σ'[j]? = σ[j]?) -> Q σ' H) -> g v σ H Q
structure TG2 K (g : TGs) (f : List PyData -> DS -> Option DS) : Prop where
 ms : ∀ d τ τ', f d τ = some τ' -> MSame τ τ'
 run : ∀ S M τ σ H vs ds τ' (Q : St -> Hp -> Prop), R K S M τ σ H -> IsL K (hid S H) ds vs -> f ds τ = some τ' -> (∀ σ', R K S M τ' σ' H -> (∀ (j : Nat) (o : Ow), τ[j]? = some (some o.L) -> σ'[j]? = σ[j]?) -> Q σ' H) -> g vs σ H Q
def dN (i : Nat) (d : PyData) (τ : DS) : Option DS := match τ[i]? with
 | some (some (.m _)) => none
 | some (some (.k _)) => none
 | some _ => some (τ.set i (some (.d d)))
 | none => none
theorem dN_some {i : Nat} {d : PyData} {τ τ' : DS} (e : dN i d τ = some τ') : i < τ.length /\ (∀ o : Ow, τ[i]? ≠ some (some o.L)) /\ τ' = τ.set i (some (.d d)) := by
 unfold dN at e
 split at e
 ·cases e
 ·cases e
 ·rename_i o hn hk ho
  cases e
  refine ⟨(List.getElem?_eq_some_iff.mp ho).1, fun xs z => ?_, rfl⟩
  rw [ho] at z
  cases xs with
  | l xs => exact hn xs (Option.some.inj z)
  | t xs => exact hk xs (Option.some.inj z)
 ·cases e
theorem R.setD {S M : Addr -> Prop} {τ : DS} {σ : St} {H : Hp} (r : R K S M τ σ H) {i : Nat} {d : PyData} {v : V} (hi : i < τ.length) (hm : ∀ o : Ow, τ[i]? ≠ some (some o.L)) (iv : Is K (hid S H) d v) : R K S M (τ.set i (some (.d d))) (σ.set i (some v)) H := by
 have hs : i < σ.length := by rw [r.len]; exact hi
 have ne : ∀ j, j ≠ i -> (τ.set i (some (.d d)))[j]? = τ[j]? := fun j hj => List.getElem?_set_ne (Ne.symm hj)
 have ne' : ∀ j, j ≠ i -> (σ.set i (some v))[j]? = σ[j]? := fun j hj => List.getElem?_set_ne (Ne.symm hj)
 have mn : ∀ (j : Nat) (ys : Ow), (τ.set i (some (.d d)))[j]? = some (some ys.L) -> j ≠ i /\ τ[j]? = some (some ys.L) := fun j ys e => by
  by_cases hj : j = i
  ·subst hj; rw [List.getElem?_set_self hi] at e; exact absurd (Option.some.inj (Option.some.inj e)).symm Ow.not_d
  ·rw [ne j hj] at e; exact ⟨hj, e⟩
 refine ⟨by rw [List.length_set, List.length_set]; exact r.len, fun j x e => ?_, fun j xs e => ?_, fun j xs e => ?_, fun j1 j2 ys zs b e1 e2 f1 f2 => ?_, r.sub, r.ex, r.gr.to (fun j x e => ?_) (fun j o b e q => .inl ⟨o, (mn j o e).2, by rw [ne' j (mn j o e).1] at q; exact q⟩) (fun b hb hn => ⟨hb, rfl⟩) .refl⟩
 ·by_cases hj : j = i
  ·subst hj
   rw [List.getElem?_set_self hi] at e
   cases e
   exact ⟨v, List.getElem?_set_self hs, iv⟩
  ·rw [ne j hj] at e
   rw [ne' j hj]
   exact r.dat j x e
 ·obtain ⟨hj, e⟩ := mn j xs e
  rw [ne' j hj]
  exact r.mt j xs e
 ·by_cases hj : j = i
  ·subst hj; rw [List.getElem?_set_self hi] at e; cases e
  ·rw [ne j hj] at e
   rw [ne' j hj]
   exact r.cst j xs e
 ·obtain ⟨h1, e1⟩ := mn j1 ys e1
  obtain ⟨h2, e2⟩ := mn j2 zs e2
  rw [ne' _ h1] at f1
  rw [ne' _ h2] at f2
  exact r.inj _ _ _ _ b e1 e2 f1 f2
 ·by_cases hj : j = i
  ·subst hj; rw [List.getElem?_set_self hi] at e; cases e
  ·rw [ne j hj] at e; exact ⟨e, ne' j hj⟩
theorem ms_setD {τ : DS} {i : Nat} {d : PyData} (hi : i < τ.length) (hm : ∀ o : Ow, τ[i]? ≠ some (some o.L)) : MSame τ (τ.set i (some (.d d))) := by
 refine ⟨by rw [List.length_set], fun j xs => ?_⟩
 by_cases hj : j = i
 ·subst hj
  rw [List.getElem?_set_self hi]
  exact ⟨fun z => absurd (Option.some.inj (Option.some.inj z)).symm Ow.not_d, fun z => absurd z (hm xs)⟩
 ·rw [List.getElem?_set_ne (Ne.symm hj)]
theorem g_name {i : Nat} : TG1 K (gName i) (dN i) := by
 refine ⟨fun d τ τ' e => ?_, ?_⟩
 ·obtain ⟨h1, h2, rfl⟩ := dN_some e
  exact ms_setD h1 h2
 intro S M τ σ H v d τ' Q r iv e q
 obtain ⟨h1, h2, rfl⟩ := dN_some e
 refine q _ (r.setD h1 h2 iv) fun j xs ej => ?_
 have : j ≠ i := fun z => h2 xs (by rw [<- z]; exact ej)
 exact List.getElem?_set_ne (Ne.symm this)
def dGNil : List PyData -> DS -> Option DS
 | [], τ => some τ
 | _ :: _, _ => none
def dGCons (f : DG) (g : List PyData -> DS -> Option DS) : List PyData -> DS -> Option DS
 | d :: ds, τ => (f d τ).bind fun τ1 => g ds τ1
 | [], _ => none
theorem gs_nil : TG2 K gNil dGNil := by
 refine ⟨fun d τ τ' e => ?_, ?_⟩
 ·cases d with
  | nil => cases e; exact .refl
  | cons _ _ => cases e
 intro S M τ σ H vs ds τ' Q r iv e q
 cases ds with
 | nil => cases e; exact ⟨iv, q σ r fun _ _ _ => rfl⟩
 | cons _ _ => cases e
theorem gs_cons {t : TG} {u : TGs} {f : DG} {g : List PyData -> DS -> Option DS} (h1 : TG1 K t f) (h2 : TG2 K u g) : TG2 K (gCons t u) (dGCons f g) := by
 refine ⟨fun d τ τ' e => ?_, ?_⟩
 ·cases d with
  | nil => cases e
  | cons d ds =>
   obtain ⟨τ1, e1, e⟩ := oB e
   exact (h1.ms _ _ _ e1).trans (h2.ms _ _ _ e)
 intro S M τ σ H vs ds τ' Q r iv e q
 cases ds with
 | nil => cases e
 | cons d ds =>
  obtain ⟨τ1, e1, e⟩ := oB e
  obtain ⟨v, us, rfl, iv, iu⟩ := iv
  refine ⟨v, us, rfl, h1.run S M τ σ H v d τ1 _ r iv e1 fun σ1 r1 k1 => ?_⟩
  refine h2.run S M τ1 σ1 H us ds τ' _ r1 iu e fun σ2 r2 k2 => ?_
  refine q σ2 r2 fun j xs hj => ?_
  rw [k2 j xs (((h1.ms _ _ _ e1).2 j xs).mpr hj), k1 j xs hj]
def dGT (g : List PyData -> DS -> Option DS) (d : PyData) (τ : DS) : Option DS := match d with
 | .tuple ds => g ds τ
 | _ => none
theorem g_tup {n : Nat} {u : TGs} {g : List PyData -> DS -> Option DS} (h : TG2 K u g) (hn : ∀ ds τ τ', g ds τ = some τ' -> ds.length = n) : TG1 K (gTup K n u) (dGT g) := by
 refine ⟨fun d τ τ' e => ?_, ?_⟩
 ·unfold dGT at e
  split at e
  ·exact h.ms _ _ _ e
  ·cases e
 intro S M τ σ H v d τ' Q r iv e q
 unfold dGT at e
 split at e
 ·obtain ⟨a, vs, rfl, hl, ll⟩ := iv
  exact ⟨a, vs, rfl, Same.tup same_hid hl, by rw [ll.length]; exact hn _ _ _ e, h.run S M τ σ H vs _ τ' Q r ll e q⟩
 ·cases e
theorem len_nil : ∀ (ds : List PyData) (τ τ' : DS), dGNil ds τ = some τ' -> ds.length = 0
 | [], _, _, _ => rfl
 | _ :: _, _, _, e => by cases e
theorem len_cons {n : Nat} {f : DG} {g : List PyData -> DS -> Option DS} (h : ∀ ds τ τ', g ds τ = some τ' -> ds.length = n) : ∀ (ds : List PyData) (τ τ' : DS), dGCons f g ds τ = some τ' -> ds.length = n + 1
 | [], _, _, e => by cases e
 | d :: ds, τ, τ', e => by
  obtain ⟨τ1, e1, e⟩ := oB e
  rw [List.length_cons, h _ _ _ e]
def lcLoop (g : DG) (c : DT) (e : DX) : List PyData -> List PyData -> DS -> Option (List PyData × DS)
 | [], acc, τ => some (acc, τ)
 | d :: ds, acc, τ => (g d τ).bind fun τ1 => (c τ1).bind fun p => if p.1 = true then (e p.2).bind fun q => lcLoop g c e ds (acc ++ [q.1]) q.2 else lcLoop g c e ds acc p.2
def noG : Option L -> Option L
 | some (.g _) => none
 | o => o
def blkD (own : Nat) (fr : List Nat) (τ : DS) : DS := List.replicate own none ++ fr.map fun j => noG (τ[j]?).join
theorem noG_some {o : Option L} {l : L} (h : noG o = some l) : o = some l /\ ∀ x, l ≠ .g x := by
 unfold noG at h
 split at h
 ·cases h
 ·rename_i hn
  exact ⟨h, fun x z => hn x (by rw [h, z])⟩
def isM (τ : DS) (j : Nat) : Bool := match τ[j]? with
 | some (some (.m _)) => true
 | some (some (.k _)) => true
 | _ => false
theorem isM_iff {τ : DS} {j : Nat} : isM τ j = true ↔ ∃ o : Ow, τ[j]? = some (some o.L) := by
 unfold isM
 split
 ·rename_i xs h; exact ⟨fun _ => ⟨.l xs, h⟩, fun _ => rfl⟩
 ·rename_i xs h; exact ⟨fun _ => ⟨.t xs, h⟩, fun _ => rfl⟩
 ·rename_i h1 h2
  exact ⟨fun z => (nomatch z), fun ⟨o, z⟩ => by
   cases o with
   | l xs => exact absurd z (h1 xs)
   | t xs => exact absurd z (h2 xs)⟩
def dLC (own : Nat) (fr : List Nat) (it : DI) (g : DG) (c : DT) (e : DX) (τ : DS) : Option (PyData × DS) := (it τ).bind fun p => if p.1.length <= sizeLine /\ (fr.all fun j => !isM p.2 j) = true then (lcLoop g c e p.1 [] (blkD own fr p.2)).map fun q => (.list q.1, p.2) else none
theorem blkD_get {own : Nat} {fr : List Nat} {τ : DS} {i : Nat} {l : L} (h : (blkD own fr τ)[i]? = some (some l)) : ∃ k j, i = own + k /\ fr[k]? = some j /\ τ[j]? = some (some l) := by
 unfold blkD at h
 by_cases hi : i < own
 ·rw [List.getElem?_append_left (by simpa using hi), List.getElem?_replicate, if_pos hi] at h
  cases h
 ·rw [List.getElem?_append_right (by simpa using hi), List.length_replicate, List.getElem?_map] at h
  cases e : fr[i - own]? with
  | none => rw [e] at h; cases h
  | some j =>
   rw [e] at h
   simp only [Option.map_some, Option.some.injEq] at h
   refine ⟨i - own, j, by omega, e, ?_⟩
   replace h := (noG_some h).1
   cases q : τ[j]? with
   | none => rw [q] at h; cases h
   | some o => rw [q] at h; cases o with
    | none => cases h
    | some u => cases h; rfl
theorem blkD_g {own : Nat} {fr : List Nat} {τ : DS} (i : Nat) (d : PyData) : (blkD own fr τ)[i]? ≠ some (some (.g d)) := fun h => by
 unfold blkD at h
 by_cases hi : i < own
 ·rw [List.getElem?_append_left (by simpa using hi), List.getElem?_replicate, if_pos hi] at h
  cases h
 ·rw [List.getElem?_append_right (by simpa using hi), List.length_replicate, List.getElem?_map] at h
  cases e : fr[i - own]? with
  | none => rw [e] at h; cases h
  | some j =>
   rw [e] at h
   simp only [Option.map_some, Option.some.injEq] at h
   exact (noG_some h).2 d rfl
theorem blk_at {own : Nat} {fr : List Nat} {σ : St} {k j : Nat} {v : V} (e : fr[k]? = some j) (h : σ[j]? = some (some v)) : (blk own fr σ)[own + k]? = some (some v) := by
 unfold blk
 rw [List.getElem?_append_right (by simp), List.length_replicate, List.getElem?_map, show own + k - own = k by omega, e]
 show some (σ[j]?).join = _
 rw [h]; rfl
theorem isl_snoc {H : Hp} {xs : List PyData} {vs : List V} {d : PyData} {v : V} (l : IsL K H xs vs) (i : Is K H d v) : IsL K H (xs ++ [d]) (vs ++ [v]) := isl_append l ⟨v, [], rfl, i, rfl⟩
theorem e_lc {own : Nat} {fr : List Nat} {wi : TI} {it : DI} {tg : TG} {g : DG} {tc : TT} {c : DT} {te : TE} {e : DX} {fe : Bool} (hi : IT K wi it) (hg : TG1 K tg g) (hc : T K tc c) (he : E K te fe e) : E K (tLC own fr wi tg tc te) true (dLC own fr it g c e) := by
 refine ⟨fun τ d τ' e => ?_, ?_⟩
 ·unfold dLC at e
  obtain ⟨⟨x, τ1⟩, e1, e⟩ := oB e
  split at e
  ·obtain ⟨z, e3, e⟩ := oM e
   cases e; exact hi.like _ _ _ e1
  ·cases e
 intro S M τ σ H Q d τ' r ee q
 unfold dLC at ee
 obtain ⟨⟨ds, τ1⟩, e1, ee⟩ := oB ee
 split at ee
 ·rename_i hz
  obtain ⟨hz, hnm⟩ := hz
  have hz : ds.length <= sizeLine := hz
  obtain ⟨⟨acc, τb⟩, e3, ee⟩ := oM ee
  obtain ⟨rfl, rfl⟩ : d = .list acc /\ τ' = τ1 := by cases ee; exact ⟨rfl, rfl⟩
  refine hi.run S M τ σ H _ ds _ r e1 fun J H1 r1 c1 iJ => ?_
  intro D hD
  -- nothing of the def may be changed in the block
  refine ⟨fun i m ys σ' H' => ∃ τb' acc', R K (fun b => S b \/ b = D) (fun _ => False) τb' σ' H' /\ Keep S H1 (fun b => S b \/ b = D) H' /\ Chg (fun b => b = D) H1 H' /\ IsL K (hid (fun b => S b \/ b = D) H') acc' ys /\ H' D = some (.lst ys) /\ ys.length <= i /\ i <= ds.length /\ m = ds.length - i /\ lcLoop g c e (ds.drop i) acc' τb' = some (acc, τb), ?_, ?_⟩
  ·have s := same_new hD (HO.lst [])
   have k : Keep S H1 (fun b => S b \/ b = D) (upd H1 D (.lst [])) := fun b o hn e => by
    have := ne_of_none e hD
    exact ⟨fun z => z.elim hn this, s b o e⟩
   refine ⟨ds.length, blkD own fr τ', [], ⟨?_, ?_, ?_, ?_, ?_, fun a h => h.elim, ?_, GR.nil blkD_g⟩, k, .of s, rfl, upd_same, Nat.le_refl _, Nat.zero_le _, by simp, by simpa using e3⟩
   ·unfold blk blkD; simp
   ·intro i x e
    obtain ⟨kk, j, rfl, ej, et⟩ := blkD_get e
    obtain ⟨v, h1, h2⟩ := r1.dat j x et
    exact ⟨v, blk_at ej h1, h2.mono k.same⟩
   ·intro i xs e
    obtain ⟨kk, j, rfl, ej, et⟩ := blkD_get e
    have := List.all_eq_true.mp hnm j (List.mem_of_getElem? ej)
    rw [isM_iff.mpr ⟨xs, et⟩] at this
    cases this
   ·intro i x e
    obtain ⟨kk, j, rfl, ej, et⟩ := blkD_get e
    obtain ⟨a, vs, h1, h2, h3⟩ := r1.cst j x et
    exact ⟨a, vs, blk_at ej h1, k.same.seq h2, h3.mono k.same⟩
   ·intro i j xs ys a e
    obtain ⟨kk, j', rfl, ej, et⟩ := blkD_get e
    have := List.all_eq_true.mp hnm j' (List.mem_of_getElem? ej)
    rw [isM_iff.mpr ⟨xs, et⟩] at this
    cases this
   ·rintro a (h | rfl)
    ·obtain ⟨o, e⟩ := r1.ex a h
     exact ⟨o, s _ _ e⟩
    ·exact ⟨_, upd_same⟩
  ·rintro i m ys σ' H' ⟨τb', acc', rb, k, ch, la, hHD, hyl, hil, rfl, hl⟩
   obtain ⟨I1, I2⟩ := iJ _ _ k
   by_cases hlt : i < ds.length
   ·right
    have ed : ds[i]? = some ds[i] := List.getElem?_eq_getElem hlt
    obtain ⟨go, yl⟩ := I1 i _ ed
    refine ⟨go, fun x H2 y => ?_⟩
    obtain ⟨rfl, ix⟩ := yl x H2 y
    rw [List.drop_eq_getElem_cons hlt, lcLoop] at hl
    obtain ⟨τ2, e2, hl⟩ := oB hl
    obtain ⟨⟨b, τ3⟩, e4, hl⟩ := oB hl
    refine hg.run _ _ τb' σ' H2 x _ τ2 _ rb ix e2 fun σ3 r3 k3 => ?_
    refine hc.run _ _ τ2 σ3 H2 _ b τ3 r3 e4 fun H4 r4 c4 => ?_
    have s4 : Same H2 H4 := fun b o e => c4 b o (fun z => z) e
    cases b with
    | false =>
     rw [if_neg Bool.false_ne_true]
     exact ⟨ds.length - (i + 1), by omega, τ3, acc', r4, k.trans (Same.keep s4), ch.trans (.of s4), la.mono (Same.keep s4).same, s4 _ _ hHD, by omega, hlt, rfl, hl⟩
    | true =>
     rw [if_pos rfl]
     rw [if_pos rfl] at hl
     obtain ⟨⟨z, τ5⟩, e5, hl⟩ := oB hl
     refine he.weak.run _ _ τ3 σ3 H4 _ z τ5 r4 e5 fun v H5 r5 c5 i5 => ?_
     have s5 : Same H2 H5 := s4.trans fun b o e => c5 b o (fun z => z) e
     have hD5 := s5 _ _ hHD
     refine ⟨hD5, by omega, ds.length - (i + 1), by omega, τ5, acc' ++ [z], ?_, ?_, ?_, ?_, upd_same, by rw [List.length_append, List.length_singleton]; omega, hlt, rfl, hl⟩
     ·have kk : Keep (fun b => S b \/ b = D) H5 (fun b => S b \/ b = D) (upd H5 D (.lst (ys ++ [v]))) := fun b o hn e => ⟨hn, by rw [upd_ne (fun z => hn (.inr z))]; exact e⟩
      refine ⟨r5.len, fun j x e => let ⟨u, a, b⟩ := r5.dat j x e; ⟨u, a, b.mono kk.same⟩, fun j xs e => let ⟨_, _, _, h, _⟩ := r5.mt j xs e; h.elim, fun j xs e => let ⟨a, vs, h1, h2, h3⟩ := r5.cst j xs e; ⟨a, vs, h1, kk.same.seq h2, h3.mono kk.same⟩, r5.inj, fun _ h => h.elim, fun a h => ?_, r5.gr.to (fun i d e => ⟨e, rfl⟩) (fun j o a e q => .inl ⟨o, e, q⟩) (fun a h _ => h.elim) (tsS kk.same)⟩
      by_cases e : a = D
      ·subst e; exact ⟨_, upd_same⟩
      ·obtain ⟨o, q⟩ := r5.ex a h
       exact ⟨o, by rw [upd_ne e]; exact q⟩
     ·refine k.trans fun b o hn e => ⟨hn, ?_⟩
      rw [upd_ne (fun z => hn (.inr z))]
      exact s5 _ _ e
     ·refine ch.trans fun b o hn e => ?_
      rw [upd_ne hn]
      exact s5 _ _ e
     ·refine (isl_snoc (la.mono (Same.keep s5).same) i5).mono (Keep.same fun b o hn e => ⟨hn, ?_⟩)
      rw [upd_ne (fun z => hn (.inr z))]
      exact e
   ·left
    have e : i = ds.length := by omega
    subst e
    rw [List.drop_length, lcLoop] at hl
    cases hl
    refine ⟨I2 _ (Nat.le_refl _), ?_⟩
    have s : Same H1 H' := fun b o e => ch b o (ne_of_none e hD) e
    refine q _ H' (r1.same s) (c1.trans (.of s)) ⟨.l acc, D, _, rfl, rfl, r1.none c1 hD, hHD, ys, rfl, la⟩
 ·cases ee
end DL
end
section
set_option Elab.async false
set_option linter.all false
set_option maxRecDepth 100000
namespace DL
open PySem L2
variable {K : KW}
end DL
end
section
set_option Elab.async false
set_option linter.all false
set_option maxRecDepth 100000
namespace DL
open PySem L2
variable {K : KW}
def dIxC (i : Nat) (f : DX) (τ : DS) : Option (PyData × DS) := (f τ).bind fun p => match p.2[i]?, p.1 with
 | some (some (.c xs)), .int k => (atI xs k).map fun d => (d, p.2)
 | _, _ => none
theorem e_ixC {i : Nat} {fr : Bool} {tb : TE} {f : DX} (h : E K tb fr f) : E K (tOp (rIxL K) (tVar i) tb) false (dIxC i f) := by
 refine ⟨fun τ d τ' e => ?_, ?_⟩
 ·unfold dIxC at e
  obtain ⟨⟨x, τ1⟩, e1, e⟩ := oB e
  dsimp only at e
  split at e
  ·obtain ⟨z, e3, e⟩ := oM e
   cases e; exact h.like _ _ _ e1
  ·cases e
 intro S M τ σ H Q d τ' r e q
 unfold dIxC at e
 obtain ⟨⟨x, τ1⟩, e1, e⟩ := oB e
 dsimp only at e
 split at e
 ·rename_i xs k hx
  obtain ⟨z, e3, e⟩ := oM e
  cases e
  obtain ⟨a, vs, ha, _⟩ := r.cst i xs ((((h.like _ _ _ e1).2 i).1.2 xs).mp hx)
  refine ⟨.ref a, ha, h.weak.run S M τ σ H _ _ _ r e1 fun v H1 r1 c1 i1 => ?_⟩
  obtain ⟨a', vs', ha', h2, h3⟩ := r1.cst i xs hx
  rw [ha] at ha'; cases ha'
  obtain ⟨u, h4, h5⟩ := isl_at h3 e3
  exact ⟨a, vs', k, u, rfl, i1, same_hid.seq h2, h4, q u H1 r1 c1 h5⟩
 ·cases e
def dLenC (i : Nat) (τ : DS) : Option (PyData × DS) := match τ[i]? with
 | some (some (.c xs)) => some (.int xs.length, τ)
 | _ => none
theorem e_lenC {i : Nat} : E K (tCB (fun xs H Q => ∃ x n, xs = [x] /\ LenV K x H n /\ Q (.int n) H) (tCons (tVar i) tNil)) false (dLenC i) := by
 refine ⟨fun τ d τ' e => ?_, ?_⟩
 ·unfold dLenC at e
  split at e
  ·cases e; exact .refl
  ·cases e
 intro S M τ σ H Q d τ' r e q
 unfold dLenC at e
 split at e
 ·rename_i xs hx
  cases e
  obtain ⟨a, vs, ha, h2, h3⟩ := r.cst i xs hx
  refine ⟨.ref a, ha, .ref a, vs.length, rfl, .inl ⟨vs, same_hid.seq h2, rfl⟩, ?_⟩
  exact q _ H r .refl (by rw [h3.length]; rfl)
 ·cases e
def dCallC (i : Nat) (G : List L -> Option (PyData × List L)) (a : DA) (τ : DS) : Option (PyData × DS) := (a τ).bind fun p => (allD p.1).bind fun ds => match p.2[i]? with
 | some (some (.c xs)) => (G (.c xs :: ds.map L.d)).map fun q => (q.1, p.2)
 | _ => none
theorem e_callC {i : Nat} {fr : Bool} {G : List L -> Option (PyData × List L)} {t : TA} {a : DA} {X : XK} (ha : A K t a) : E K (tCall (spD K G fr) [] X (tCons (tVar i) t)) fr (dCallC i G a) := by
 refine ⟨fun τ d τ' e => ?_, ?_⟩
 ·unfold dCallC at e
  obtain ⟨⟨x, τ1⟩, e1, e⟩ := oB e
  obtain ⟨ds, e2, e⟩ := oB e
  dsimp only at e
  split at e
  ·obtain ⟨z, e3, e⟩ := oM e
   cases e; exact ha.like _ _ _ e1
  ·cases e
 intro S M τ σ H Q d τ' rr e q
 unfold dCallC at e
 obtain ⟨⟨x, τ1⟩, e1, e⟩ := oB e
 obtain ⟨ds, e2, e⟩ := oB e
 dsimp only at e
 split at e
 ·rename_i xs hx
  obtain ⟨⟨z, ls'⟩, e3, e⟩ := oM e
  cases e
  obtain ⟨p, us, hp, _⟩ := rr.cst i xs ((((ha.like _ _ _ e1).2 i).1.2 xs).mp hx)
  refine ⟨.ref p, hp, ha.run S M τ σ H _ x _ rr e1 fun vs H1 r1 c1 i1 => ?_⟩
  have l := allD_is i1 e2
  obtain ⟨p', us', hp', h2, h3⟩ := r1.cst i xs hx
  rw [hp] at hp'; cases hp'
  show spD K G fr ((.ref p :: vs) ++ []) H1 Q X
  rw [List.append_nil]
  have ra := r_args r1 l
  refine ⟨S, fun _ => False, .c xs :: ds.map L.d, _, ls', ⟨?_, ?_, ?_, ?_, ?_, fun _ h => h.elim, r1.ex, GR.nil ?_⟩, e3, fun v H' _ c res => ?_⟩
  ·have := ra.len
   simp only [List.length_map, List.map_cons, List.length_cons] at this ⊢
   omega
  ·intro j x e
   cases j with
   | zero => cases e
   | succ j => exact ra.dat j x (by simpa using e)
  ·intro j ys e
   cases j with
   | zero => exact absurd (Option.some.inj (Option.some.inj e)).symm Ow.not_c
   | succ j => obtain ⟨_, _, _, h, _⟩ := ra.mt j ys (by simpa using e); exact h.elim
  ·intro j ys e
   cases j with
   | zero => cases e; exact ⟨p, us', rfl, h2, h3⟩
   | succ j => exact ra.cst j ys (by simpa using e)
  ·intro j k ys ws b e1 e2 _ _
   cases j with
   | zero => exact absurd (Option.some.inj (Option.some.inj e1)).symm Ow.not_c
   | succ j => obtain ⟨_, _, _, h, _⟩ := ra.mt j ys (by simpa using e1); exact h.elim
  ·intro j x e
   cases j with
   | zero => cases e
   | succ j =>
    rw [List.map_cons, List.getElem?_cons_succ, List.getElem?_map, List.getElem?_map] at e
    cases q : ds[j]? with
    | none => rw [q] at e; cases e
    | some d => rw [q] at e; cases e
  ·have s : Same H1 H' := fun b o e => c b o (fun z => z) e
   exact q v H' (r1.same s) (c1.trans (.of s)) (res.back r1 c1)
 ·cases e
section
variable {F : Frm} {S M : Addr -> Prop} {τ τ' : DS} {σ : St} {H H' : Hp}
theorem RF.step (f : RF K F S M τ σ H) (r' : R K S M τ' σ H') (c : Chg M H H') (lk : Like τ τ') : RF K F S M τ' σ H' where
 r := r'
 sS := f.sS
 old := fun b o e n => c b o (fun z => (f.new b z).elim n fun q => by rw [q] at e; cases e) (f.old b o e n)
 new := f.new
 fm := f.fm
 fs := f.fs
 fsub := f.fsub
 snew := f.snew
 par := f.par
 pm := fun i v e => let ⟨xs, h⟩ := f.pm i v e; (lk.own i).mpr ⟨xs, h⟩
 fma := f.fma
theorem RF.stay (f : RF K F S M τ σ H) {σ' : St} (r' : R K S M τ' σ' H) (ms : MSame τ τ') (k : ∀ (j : Nat) (o : Ow), τ[j]? = some (some o.L) -> σ'[j]? = σ[j]?) : RF K F S M τ' σ' H where
 r := r'
 sS := f.sS
 old := f.old
 new := f.new
 fm := f.fm
 fs := f.fs
 fsub := f.fsub
 snew := f.snew
 par := fun i v e => by
  obtain ⟨xs, h⟩ := f.pm i v e
  rw [k i xs h]
  exact f.par i v e
 pm := fun i v e => let ⟨xs, h⟩ := f.pm i v e; ⟨xs, (ms.2 i xs).mpr h⟩
 fma := f.fma
theorem RF.hnone (f : RF K F S M τ σ H) {a : Addr} (h : H a = none) : F.H a = none := by
 cases e : F.H a with
 | none => rfl
 | some o =>
  exfalso
  by_cases hm : F.M a
  ·obtain ⟨o', e'⟩ := f.r.ex a (f.sS a (f.fsub a hm))
   rw [h] at e'; cases e'
  ·have := f.old a o e hm
   rw [h] at this; cases this
theorem RF.res (f : RF K F S M τ σ H) {fr : Bool} {d : PyData} {v : V} (h : Res K fr S H H' d v) : Res K fr F.S F.H H' d v := by
 cases fr with
 | false => exact Is.mono (hid_less f.sS) h
 | true =>
  obtain ⟨xs, a, vs, e1, e2, h1, h2, h3⟩ := h
  exact ⟨xs, a, vs, e1, e2, f.hnone h1, h2, h3.mono (hid_less fun b z => z.elim (fun z => .inl (f.sS b z)) .inr)⟩
end
variable {np : Nat}
def dAsg (e : DX) (g : DG) (τ : DS) : Option Out := (e τ).bind fun p => (g p.1 p.2).map .nx
theorem b_asg {fr fe : Bool} {te : TE} {tg : TG} {e : DX} {g : DG} (he : E K te fe e) (hg : TG1 K tg g) : B K np (tAsg te tg) fr (dAsg e g) := by
 intro F S M τ σ H D out hnp f ee q
 unfold dAsg at ee
 obtain ⟨⟨x, τ1⟩, e1, ee⟩ := oB ee
 obtain ⟨τ2, e2, ee⟩ := oM ee
 cases ee
 refine he.weak.run S M τ σ H _ x τ1 f.r e1 fun v H1 r1 c1 i1 => ?_
 refine hg.run S M τ1 σ H1 v x τ2 _ r1 i1 e2 fun σ' r2 k => ?_
 exact q S M σ' H1 ((f.step r1 c1 (he.like _ _ _ e1)).stay r2 (hg.ms _ _ _ e2) k) (c1.keep f.r.sub)
theorem b_lcs {fr fe : Bool} {te : TE} {i : Nat} {e : DX} (he : E K te fe e) : B K np (fun D σ H => te σ H fun v H' => D.nx (σ.set i (some v)) H') fr (dAsg e (dN i)) := b_asg (tg := gName i) he g_name
def dNew (np i : Nat) (τ : DS) : Option Out := if np <= i /\ i < τ.length then some (.nx (τ.set i (some (.m [])))) else none
def tkP : List (PyData × PyData) -> Option (List (List Int × PyData))
 | [] => some []
 | (.tuple ks, d) :: r => (tkI ks).bind fun k => (tkP r).map ((k, d) :: ·)
 | _ => none
where tkI : List PyData -> Option (List Int)
 | [] => some []
 | .int i :: r => (tkI r).map (i :: ·)
 | _ => none
theorem tkI_map : ∀ (k : List Int), tkP.tkI (k.map PyData.int) = some k
 | [] => rfl
 | i :: k => by rw [List.map_cons, tkP.tkI, tkI_map k]; rfl
theorem tkP_dct : ∀ (m : List (List Int × PyData)), tkP (dctP m) = some m
 | [] => rfl
 | (k, d) :: m => by
  have := tkP_dct m
  show (tkP.tkI (k.map PyData.int)).bind _ = _
  rw [tkI_map]
  show ((tkP (dctP m)).map _) = _
  rw [this]; rfl
theorem D_dict {o : Ow} {kvs : List (PyData × PyData)} {m : List (List Int × PyData)} (h : PyData.dict kvs = o.D) (e : tkP kvs = some m) : o = .t m := by
 cases o with
 | l xs => cases h
 | t m' => cases h; rw [tkP_dct] at e; cases e; rfl
def dSetM (np i : Nat) (e : DX) (τ : DS) : Option Out := (e τ).bind fun p => match p.1 with
 | .list xs => if np <= i /\ i < p.2.length /\ p.2.all okM = true then some (.nx (p.2.set i (some (.m xs)))) else none
 | .dict kvs => (tkP kvs).bind fun m => if np <= i /\ i < p.2.length /\ p.2.all okM = true then some (.nx (p.2.set i (some (.k m)))) else none
 | _ => none
theorem RF.newM {F : Frm} {S M : Addr -> Prop} {τ : DS} {σ : St} {H : Hp} (f : RF K F S M τ σ H) {a : Addr} {i : Nat} {xs : Ow} {vs : HO} (hi : i < τ.length) (hnp : F.ar.length <= i) (hS : S a) (hM : ¬ M a) (hF : F.H a = none) (h' : H a = some vs)
  (l : IsO K (hid S H) xs a vs) : RF K F S (fun b => M b \/ b = a) (τ.set i (some xs.L)) (σ.set i (some (.ref a))) H := by
 have hs : i < σ.length := by rw [f.r.len]; exact hi
 have ne : ∀ j, j ≠ i -> (τ.set i (some xs.L))[j]? = τ[j]? := fun j hj => List.getElem?_set_ne (Ne.symm hj)
 have ne' : ∀ j, j ≠ i -> (σ.set i (some (V.ref a)))[j]? = σ[j]? := fun j hj => List.getElem?_set_ne (Ne.symm hj)
 have se : (τ.set i (some xs.L))[i]? = some (some xs.L) := List.getElem?_set_self hi
 have se' : (σ.set i (some (V.ref a)))[i]? = some (some (.ref a)) := List.getElem?_set_self hs
 have Ma : ∀ (j : Nat) (ys : Ow) (b : Addr), j ≠ i -> τ[j]? = some (some ys.L) -> σ[j]? = some (some (.ref b)) -> b ≠ a := fun j ys b hj e e' z => by
  obtain ⟨b', us, h1, h2, _⟩ := f.r.mt j ys e
  rw [e'] at h1; cases h1
  subst z
  exact hM h2
 refine ⟨⟨by rw [List.length_set, List.length_set]; exact f.r.len, fun j x e => ?_, fun j ys e => ?_, fun j ys e => ?_, fun j1 j2 ys zs b e1 e2 f1 f2 => ?_, fun b h => h.elim (f.r.sub b) fun z => by rw [z]; exact hS, f.r.ex, f.r.gr.to (fun j x e => ?_) (fun j o b e q => ?_) (fun b hb _ => ⟨.inl hb, rfl⟩) .refl⟩, f.sS, f.old, fun b h => h.elim (f.new b) fun z => .inr (by rw [z]; exact hF), fun b h => .inl (f.fm b h), f.fs, f.fsub, f.snew, fun j v e => ?_, fun j v e => ?_, f.fma⟩
 ·by_cases hj : j = i
  ·subst hj; rw [se] at e; exact absurd (Option.some.inj (Option.some.inj e)) Ow.not_d
  ·rw [ne j hj] at e
   rw [ne' j hj]
   exact f.r.dat j x e
 ·by_cases hj : j = i
  ·subst hj
   rw [se] at e
   obtain rfl := owL_inj e
   exact ⟨a, vs, se', .inr rfl, h', l⟩
  ·rw [ne j hj] at e
   rw [ne' j hj]
   obtain ⟨b, us, h1, h2, h3, h4⟩ := f.r.mt j ys e
   exact ⟨b, us, h1, .inl h2, h3, h4⟩
 ·by_cases hj : j = i
  ·subst hj; rw [se] at e; exact absurd (Option.some.inj (Option.some.inj e)) Ow.not_c
  ·rw [ne j hj] at e
   rw [ne' j hj]
   exact f.r.cst j ys e
 ·by_cases h1 : j1 = i
  ·by_cases h2 : j2 = i
   ·rw [h1, h2]
   ·exfalso
    subst h1
    rw [se'] at f1; cases f1
    rw [ne j2 h2] at e2
    rw [ne' j2 h2] at f2
    exact Ma j2 zs _ h2 e2 f2 rfl
  ·by_cases h2 : j2 = i
   ·exfalso
    subst h2
    rw [se'] at f2; cases f2
    rw [ne j1 h1] at e1
    rw [ne' j1 h1] at f1
    exact Ma j1 ys _ h1 e1 f1 rfl
   ·rw [ne j1 h1] at e1
    rw [ne' j1 h1] at f1
    rw [ne j2 h2] at e2
    rw [ne' j2 h2] at f2
    exact f.r.inj _ _ _ _ b e1 e2 f1 f2
 ·by_cases hj : j = i
  ·subst hj; rw [se] at e; exact absurd (Option.some.inj (Option.some.inj e)) Ow.not_g
  ·rw [ne j hj] at e; exact ⟨e, ne' j hj⟩
 ·by_cases hj : j = i
  ·subst hj; rw [se'] at q; cases q; exact .inr hM
  ·rw [ne j hj] at e; rw [ne' j hj] at q; exact .inl ⟨o, e, q⟩
 ·have : j ≠ i := fun z => by
   subst z
   have := (List.getElem?_eq_some_iff.mp e).1
   omega
  rw [ne' j this]
  exact f.par j v e
 ·have : j ≠ i := fun z => by
   subst z
   have := (List.getElem?_eq_some_iff.mp e).1
   omega
  rw [ne j this]
  exact f.pm j v e
theorem RF.hide {F : Frm} {S M : Addr -> Prop} {τ : DS} {σ : St} {H H' : Hp} (f : RF K F S M τ σ H) {a : Addr} (s : Same H H') (ha : H a = none) (h' : ∃ o, H' a = some o) : RF K F (fun b => S b \/ b = a) M τ σ H' := by
 have k : Keep S H (fun b => S b \/ b = a) H' := fun b o hn e => ⟨fun z => z.elim hn (ne_of_none e ha), s b o e⟩
 refine ⟨⟨f.r.len, fun j x e => let ⟨v, h1, h2⟩ := f.r.dat j x e; ⟨v, h1, h2.mono k.same⟩, fun j x e => let ⟨b, vs, h1, h2, h3, h4⟩ := f.r.mt j x e; ⟨b, vs, h1, h2, s _ _ h3, h4.mono k.same⟩,
  fun j x e => let ⟨b, vs, h1, h2, h3⟩ := f.r.cst j x e; ⟨b, vs, h1, k.same.seq h2, h3.mono k.same⟩, f.r.inj, fun b h => .inl (f.r.sub b h), fun b h => ?_, f.r.gr.to (fun i d e => ⟨e, rfl⟩) (fun j o a e q => .inl ⟨o, e, q⟩) (fun a h _ => ⟨h, by obtain ⟨o, e⟩ := f.r.ex a (f.r.sub a h); rw [e]; exact s _ _ e⟩) (tsS k.same)⟩, fun b h => .inl (f.sS b h), fun b o e n => s _ _ (f.old b o e n), f.new, f.fm, f.fs, f.fsub, fun b h => h.elim (f.snew b) fun z => .inr (by rw [z]; exact f.hnone ha), f.par, f.pm, f.fma⟩
 rcases h with h | h
 ·obtain ⟨o, e⟩ := f.r.ex b h
  exact ⟨o, s _ _ e⟩
 ·rw [h]; exact h'
theorem RF.hideE {F : Frm} {S M : Addr -> Prop} {τ τ1 : DS} {σ : St} {H H' : Hp} (f : RF K F S M τ σ H) {a : Addr} (r1 : R K S M τ1 σ H') (c : Chg M H H') (lk : Like τ τ1) (ok : τ1.all okM = true) (ha : H a = none) (h' : ∃ o, H' a = some o /\ OwH o) : RF K F (fun b => S b \/ b = a) M τ1 σ H' := by
 have f1 := f.step r1 c lk
 have k : Keep S H (fun b => S b \/ b = a) H' := fun b o hn e => ⟨fun z => z.elim hn (ne_of_none e ha), c b o (fun z => hn (f.r.sub b z)) e⟩
 have ts : TSm (hid S H') (hid (fun b => S b \/ b = a) H') := tsame_hid fun b z => z.elim .inl fun z => by subst z; exact .inr h'
 refine ⟨⟨r1.len, fun j x e => ?_, fun j x e => ?_, fun j x e => ?_, r1.inj, fun b h => .inl (f.r.sub b h), fun b h => ?_, r1.gr.to (fun i d e => ⟨e, rfl⟩) (fun j o a e q => .inl ⟨o, e, q⟩) (fun a h _ => ⟨h, rfl⟩) ts⟩, fun b h => .inl (f.sS b h), f1.old, f.new, f.fm, f.fs, f.fsub, fun b h => h.elim (f.snew b) fun z => .inr (by rw [z]; exact f.hnone ha), f.par, f1.pm, f.fma⟩
 ·obtain ⟨v, h1, h2⟩ := f.r.dat j x (((lk.2 j).1.1 x).mp e)
  exact ⟨v, h1, h2.mono k.same⟩
 ·obtain ⟨b, vs, h1, h2, h3, h4⟩ := r1.mt j x e
  exact ⟨b, vs, h1, h2, h3, h4.monoT ts (List.all_eq_true.mp ok (some x.L) (List.mem_of_getElem? e))⟩
 ·obtain ⟨b, vs, h1, h2, h3⟩ := f.r.cst j x (((lk.2 j).1.2 x).mp e)
  exact ⟨b, vs, h1, k.same.seq h2, h3.mono k.same⟩
 ·rcases h with h | h
  ·exact r1.ex b h
  ·obtain ⟨vs, e, _⟩ := h'
   rw [h]; exact ⟨_, e⟩
theorem b_new {fr : Bool} {i : Nat} : B K np (tAsg (tLst tNil) (gName i)) fr (dNew np i) := by
 intro F S M τ σ H D out hnp f ee q
 unfold dNew at ee
 split at ee
 ·rename_i hi
  cases ee
  refine ⟨Nat.zero_le _, fun a ha => ?_⟩
  have s := same_new ha (HO.lst [])
  have f1 := f.hide s ha ⟨_, upd_same⟩
  have hM : ¬ M a := fun z => f.r.fresh ha (f.r.sub a z)
  exact q _ _ _ _ (f1.newM (xs := .l []) hi.2 (Nat.le_trans hnp hi.1) (.inr rfl) hM (f.hnone ha) upd_same ⟨[], rfl, rfl⟩) fun b o hn e => ⟨fun z => z.elim hn (ne_of_none e ha), s b o e⟩
 ·cases ee
theorem b_setM {fr : Bool} {i : Nat} {te : TE} {e : DX} (he : E K te true e) : B K np (tAsg te (gName i)) fr (dSetM np i e) := by
 intro F S M τ σ H D out hnp f ee q
 unfold dSetM at ee
 obtain ⟨⟨x, τ1⟩, e1, ee⟩ := oB ee
 dsimp only at ee
 split at ee
 ·split at ee
  ·rename_i xs hi
   cases ee
   refine he.run S M τ σ H _ _ τ1 f.r e1 fun v H1 r1 c1 i1 => ?_
   obtain ⟨ys, a, vs, e2, rfl, h1, h2, h3⟩ := i1
   obtain rfl := Ow.D_list e2
   have f1 := f.hideE r1 c1 (he.like _ _ _ e1) hi.2.2 h1 ⟨_, h2, h3.ho⟩
   have hM : ¬ M a := fun z => f.r.fresh h1 (f.r.sub a z)
   exact q _ _ _ _ (f1.newM (xs := .l _) hi.2.1 (Nat.le_trans hnp hi.1) (.inr rfl) hM (f.hnone h1) h2 h3) fun b o hn e => ⟨fun z => z.elim hn (ne_of_none e h1), c1 b o (fun z => hn (f.r.sub b z)) e⟩
  ·cases ee
 ·obtain ⟨m, em, ee⟩ := oB ee
  split at ee
  ·rename_i hi
   cases ee
   refine he.run S M τ σ H _ _ τ1 f.r e1 fun v H1 r1 c1 i1 => ?_
   obtain ⟨ys, a, vs, e2, rfl, h1, h2, h3⟩ := i1
   obtain rfl := D_dict e2 em
   have f1 := f.hideE r1 c1 (he.like _ _ _ e1) hi.2.2 h1 ⟨_, h2, h3.ho⟩
   have hM : ¬ M a := fun z => f.r.fresh h1 (f.r.sub a z)
   exact q _ _ _ _ (f1.newM (xs := .t _) hi.2.1 (Nat.le_trans hnp hi.1) (.inr rfl) hM (f.hnone h1) h2 h3) fun b o hn e => ⟨fun z => z.elim hn (ne_of_none e h1), c1 b o (fun z => hn (f.r.sub b z)) e⟩
  ·cases ee
 ·cases ee
def dRet (e : DX) (τ : DS) : Option Out := (e τ).map fun p => .rt p.1 p.2
theorem b_ret {fr fe : Bool} {te : TE} {e : DX} (he : E K te fe e) (hf : fr = true -> fe = true) : B K np (tRet te) fr (dRet e) := by
 intro F S M τ σ H D out hnp f ee q
 unfold dRet at ee
 obtain ⟨⟨x, τ1⟩, e1, ee⟩ := oM ee
 cases ee
 refine he.run S M τ σ H _ x τ1 f.r e1 fun v H1 r1 c1 i1 => ?_
 exact q S M σ H1 v (f.step r1 c1 (he.like _ _ _ e1)) (f.res (i1.imp (fun _ => f.r.fresh) fr hf))
def dRetM (np i : Nat) (τ : DS) : Option Out := match τ[i]? with
 | some (some (.m xs)) => if np <= i then some (.rt (.list xs) τ) else none
 | some (some (.k xs)) => if np <= i then some (.rt (.dict (dctP xs)) τ) else none
 | _ => none
theorem dRetM_some {np i : Nat} {τ : DS} {out : Out} (e : dRetM np i τ = some out) : ∃ w, τ[i]? = some (some (Ow.L w)) /\ np <= i /\ out = .rt w.D τ := by
 unfold dRetM at e
 split at e
 ·rename_i xs hx
  split at e
  ·rename_i h; cases e; exact ⟨.l xs, hx, h, rfl⟩
  ·cases e
 ·rename_i xs hx
  split at e
  ·rename_i h; cases e; exact ⟨.t xs, hx, h, rfl⟩
  ·cases e
 ·cases e
theorem b_retM {fr : Bool} {i : Nat} : B K np (tRet (tVar i)) fr (dRetM np i) := by
 intro F S M τ σ H D out hnp f ee q
 obtain ⟨xs, hx, hi, rfl⟩ := dRetM_some ee
 obtain ⟨a, vs, h1, h2, h3, h4⟩ := f.r.mt i xs hx
 refine ⟨_, h1, q S M σ H _ f ?_⟩
 have hF : F.H a = none := by
  rcases f.new a h2 with z | z
  ·exfalso
   obtain ⟨j, hj⟩ := f.fma a z
   obtain ⟨ys, hy⟩ := f.pm j _ hj
   have e := f.r.inj j i ys xs a hy hx (f.par j _ hj) h1
   have := (List.getElem?_eq_some_iff.mp hj).1
   omega
  ·exact z
 have res : Res K true F.S F.H H xs.D (.ref a) := ⟨xs, a, vs, rfl, rfl, hF, h3, h4.mono (hid_less fun b z => z.elim (f.sS b) fun z => by rw [z]; exact f.r.sub a h2)⟩
 refine res.imp (fun b hb => ?_) fr fun _ => rfl
 intro z
 obtain ⟨o, e⟩ := f.fs b z
 rw [hb] at e; cases e
def dRetN (τ : DS) : Option Out := some (.rt .none τ)
def dExpr (e : DX) (τ : DS) : Option Out := (e τ).map fun p => .nx p.2
theorem b_expr {fr fe : Bool} {te : TE} {e : DX} (he : E K te fe e) : B K np (tDrop te) fr (dExpr e) := by
 intro F S M τ σ H D out hnp f ee q
 unfold dExpr at ee
 obtain ⟨⟨x, τ1⟩, e1, ee⟩ := oM ee
 cases ee
 refine he.run S M τ σ H _ x τ1 f.r e1 fun v H1 r1 c1 i1 => ?_
 exact q S M σ H1 (f.step r1 c1 (he.like _ _ _ e1)) (c1.keep f.r.sub)
def dMt (i : Nat) (G : List PyData -> List PyData -> Option (PyData × List PyData)) (a : DA) (τ : DS) : Option (PyData × DS) := (a τ).bind fun p => (allD p.1).bind fun ds => match p.2[i]? with
 | some (some (.m xs)) => (G xs ds).map fun q => (q.1, p.2.set i (some (.m q.2)))
 | _ => none
def MR (K : KW) (r : V -> List V -> Hp -> VK -> Prop) (G : List PyData -> List PyData -> Option (PyData × List PyData)) : Prop := ∀ (S : Addr -> Prop) H a vs us xs ds d xs' (Q : VK), S a -> H a = some (.lst vs) -> IsL K (hid S H) xs vs -> IsL K (hid S H) ds us -> G xs ds = some (d, xs') ->
 (∀ v vs', Is K (hid S H) d v -> IsL K (hid S H) xs' vs' -> Q v (upd H a (.lst vs'))) -> r (.ref a) us H Q
theorem hid_upd {S : Addr -> Prop} {H : Hp} {a : Addr} {o : HO} (h : S a) : hid S (upd H a o) = hid S H := by
 funext b
 unfold hid
 by_cases z : S b
 ·rw [if_pos z, if_pos z]
 ·rw [if_neg z, if_neg z, upd_ne (fun e => z (by rw [e]; exact h))]
theorem dMt_some {i : Nat} {G : List PyData -> List PyData -> Option (PyData × List PyData)} {a : DA} {τ τ' : DS} {d : PyData} (e : dMt i G a τ = some (d, τ')) : ∃ rs τ1 ds xs xs', a τ = some (rs, τ1) /\ allD rs = some ds /\ τ1[i]? = some (some (.m xs)) /\ G xs ds = some (d, xs') /\ τ' = τ1.set i (some (.m xs')) := by
 unfold dMt at e
 obtain ⟨⟨x, τ1⟩, e1, e⟩ := oB e
 obtain ⟨ds, e2, e⟩ := oB e
 dsimp only at e
 split at e
 ·rename_i xs hx
  obtain ⟨⟨z, zs⟩, e3, e⟩ := oM e
  cases e
  exact ⟨x, τ1, ds, xs, zs, e1, e2, hx, e3, rfl⟩
 ·cases e
theorem e_mt {i : Nat} {r : V -> List V -> Hp -> VK -> Prop} {G : List PyData -> List PyData -> Option (PyData × List PyData)} {t : TA} {a : DA} (h : MR K r G) (ha : A K t a) : E K (tBM K "list" r (tVar i) t) false (dMt i G a) := by
 refine ⟨fun τ d τ' e => ?_, ?_⟩
 ·obtain ⟨rs, τ1, ds, xs, xs', e1, e2, e3, e4, rfl⟩ := dMt_some e
  exact (ha.like _ _ _ e1).trans (like_setM e3)
 intro S M τ σ H Q d τ' rr e q
 obtain ⟨rs, τ1, ds, xs, xs', e1, e2, e3, e4, rfl⟩ := dMt_some e
 have lk := ha.like _ _ _ e1
 obtain ⟨zs, hz⟩ := lk.ml e3
 obtain ⟨p, us, hp, hM, hl0, _⟩ := rr.ml i zs hz
 refine ⟨.ref p, hp, .inl ⟨rfl, us, SqL.of hl0⟩, ?_⟩
 refine ha.run S M τ σ H _ rs _ rr e1 fun vs H1 r1 c1 i1 => ?_
 have l := allD_is i1 e2
 obtain ⟨p', us', hp', hM', hl, ll⟩ := r1.ml i xs e3
 rw [hp] at hp'; cases hp'
 have Sp := r1.sub p hM'
 refine h S H1 p us' vs xs ds d xs' _ Sp hl ll l e4 fun v vs' iv il => ?_
 have c : Chg (fun b => b = p) H1 (upd H1 p (.lst vs')) := fun b o hn e => by rw [upd_ne hn]; exact e
 refine q v _ (r1.setM e3 hp c upd_same (by rw [hid_upd Sp]; exact il)) (c1.trans fun b o hn e => c b o (fun z => hn (by subst z; exact hM')) e) ?_
 show Is K (hid S _) d v
 rw [hid_upd Sp]; exact iv
def gAppend : List PyData -> List PyData -> Option (PyData × List PyData)
 | xs, [d] => if xs.length < sizeLine then some (.none, xs ++ [d]) else none
 | _, _ => none
theorem m_append : MR K rAppend gAppend := by
 intro S H a vs us xs ds d xs' Q Sa hl ll l e q
 unfold gAppend at e
 split at e
 ·split at e
  ·rename_i d0 hz
   cases e
   obtain ⟨v, us', rfl, iv, iu⟩ := l
   cases (show us' = [] from iu)
   exact ⟨a, vs, v, rfl, rfl, hl, by rw [ll.length]; exact hz, q _ _ rfl (isl_snoc ll iv)⟩
  ·cases e
 ·cases e
def gExtend : List PyData -> List PyData -> Option (PyData × List PyData)
 | xs, [.list ys] => if xs.length + ys.length <= sizeLine then some (.none, xs ++ ys) else none
 | _, _ => none
def gClear : List PyData -> List PyData -> Option (PyData × List PyData)
 | _, [] => some (.none, [])
 | _, _ => none
def dSetI (i : Nat) (e k : DX) (τ : DS) : Option Out := (e τ).bind fun p => (k p.2).bind fun q => match q.2[i]?, q.1 with
 | some (some (.m xs)), .int n => (ixN xs.length n).map fun j => .nx (q.2.set i (some (.m (xs.set j p.1))))
 | _, _ => none
theorem Gl.trans {F : Frm} {fr : Bool} {S S1 : Addr -> Prop} {H H1 : Hp} {D : Ends} {o : Out} (k : Keep S H S1 H1) (h : Gl K F fr S H D o) : Gl K F fr S1 H1 D o := by
 cases o with
 | nx τ => exact fun S' M' σ' H' r k' => h S' M' σ' H' r (k.trans k')
 | bk τ => exact fun S' M' σ' H' r k' => h S' M' σ' H' r (k.trans k')
 | ct τ => exact fun S' M' σ' H' r k' => h S' M' σ' H' r (k.trans k')
 | rt d τ => exact fun S' M' σ' H' v r k' => h S' M' σ' H' v r k'
def dNil (τ : DS) : Option Out := some (.nx τ)
theorem b_nil {fr : Bool} : B K np tNext fr dNil := by
 intro F S M τ σ H D out hnp f ee q
 cases ee
 exact q S M σ H f .refl
def dSeq (a b : DB) (τ : DS) : Option Out := (a τ).bind fun o => match o with
 | .nx τ' => b τ'
 | o => some o
theorem b_seq {fr : Bool} {t u : TS} {a b : DB} (ha : B K np t fr a) (hb : B K np u fr b) : B K np (tSeq t u) fr (dSeq a b) := by
 intro F S M τ σ H D out hnp f ee q
 unfold dSeq at ee
 obtain ⟨o, e1, ee⟩ := oB ee
 refine ha F S M τ σ H _ o hnp f e1 ?_
 cases o with
 | nx τ1 => exact fun S' M' σ' H' r k => hb F S' M' τ1 σ' H' D out hnp r ee (q.trans k)
 | bk τ1 => cases ee; exact q
 | ct τ1 => cases ee; exact q
 | rt d τ1 => cases ee; exact q
def dIfS (c : DT) (a b : DB) (τ : DS) : Option Out := (c τ).bind fun p => if p.1 = true then a p.2 else b p.2
theorem b_if {fr : Bool} {tc : TT} {t u : TS} {c : DT} {a b : DB} (hc : T K tc c) (ha : B K np t fr a) (hb : B K np u fr b) : B K np (tIfS tc t u) fr (dIfS c a b) := by
 intro F S M τ σ H D out hnp f ee q
 unfold dIfS at ee
 obtain ⟨⟨k, τ1⟩, e1, ee⟩ := oB ee
 refine hc.run S M τ σ H _ k τ1 f.r e1 fun H1 r1 c1 => ?_
 have f1 := f.step r1 c1 (hc.like _ _ _ e1)
 cases k with
 | true => exact ha F S M τ1 σ H1 D out hnp f1 ee (q.trans (c1.keep f.r.sub))
 | false => exact hb F S M τ1 σ H1 D out hnp f1 ee (q.trans (c1.keep f.r.sub))
def dBrk (τ : DS) : Option Out := some (.bk τ)
def dCnt (τ : DS) : Option Out := some (.ct τ)
def dNever : DB := fun _ => none
theorem b_never {fr : Bool} : B K np tNever fr dNever := by
 intro F S M τ σ H D out hnp f ee q
 cases ee
def dLoop (g : DG) (b : DB) : List PyData -> DS -> Option Out
 | [], τ => some (.nx τ)
 | d :: ds, τ => (g d τ).bind fun τ1 => (b τ1).bind fun o => match o with
  | .nx τ2 => dLoop g b ds τ2
  | .ct τ2 => dLoop g b ds τ2
  | .bk τ2 => some (.nx τ2)
  | .rt d τ2 => some (.rt d τ2)
def dFor (it : DI) (g : DG) (b : DB) (τ : DS) : Option Out := (it τ).bind fun p => dLoop g b p.1 p.2
theorem b_for {fr : Bool} {wi : TI} {tg : TG} {tb : TS} {it : DI} {g : DG} {b : DB} (hi : IT K wi it) (hg : TG1 K tg g) (hb : B K np tb fr b) : B K np (tFor wi tg tb) fr (dFor it g b) := by
 intro F S M τ σ H D out hnp f ee q
 unfold dFor at ee
 obtain ⟨⟨ds, τ1⟩, e1, ee⟩ := oB ee
 refine hi.run S M τ σ H _ ds τ1 f.r e1 fun J H1 r1 c1 iJ => ?_
 have f1 := f.step r1 c1 (hi.like _ _ _ e1)
 have q1 := q.trans (c1.keep f.r.sub)
 refine ⟨fun i m σ' H' => m = ds.length - i /\ i <= ds.length /\ ∃ S' M' τ', RF K F S' M' τ' σ' H' /\ Keep S H1 S' H' /\ dLoop g b (ds.drop i) τ' = some out, ⟨ds.length, by simp, Nat.zero_le _, S, M, τ1, f1, .refl, by simpa using ee⟩, ?_⟩
 rintro i m σ' H' ⟨rfl, hil, S', M', τ', f', k', hl⟩
 obtain ⟨I1, I2⟩ := iJ _ _ k'
 by_cases hlt : i < ds.length
 ·right
  have ed : ds[i]? = some ds[i] := List.getElem?_eq_getElem hlt
  obtain ⟨go, yl⟩ := I1 i _ ed
  refine ⟨go, fun σ2 H2 => ∃ S2 M2 τ2, RF K F S2 M2 τ2 σ2 H2 /\ Keep S H1 S2 H2 /\ dLoop g b (ds.drop (i + 1)) τ2 = some out, fun σ2 H2 h => ⟨ds.length - (i + 1), by omega, rfl, hlt, h⟩, fun x H2 y => ?_⟩
  obtain ⟨rfl, ix⟩ := yl x H2 y
  rw [List.drop_eq_getElem_cons hlt, dLoop] at hl
  obtain ⟨τ2, e2, hl⟩ := oB hl
  obtain ⟨o, e3, hl⟩ := oB hl
  refine hg.run S' M' τ' σ' H2 x _ τ2 _ f'.r ix e2 fun σ3 r3 k3 => ?_
  have f3 := f'.stay r3 (hg.ms _ _ _ e2) k3
  refine hb F S' M' τ2 σ3 H2 _ o hnp f3 e3 ?_
  cases o with
  | nx τ4 => exact fun S4 M4 σ4 H4 f4 k4 => ⟨S4, M4, τ4, f4, k'.trans k4, hl⟩
  | ct τ4 => exact fun S4 M4 σ4 H4 f4 k4 => ⟨S4, M4, τ4, f4, k'.trans k4, hl⟩
  | bk τ4 => cases hl; exact fun S4 M4 σ4 H4 f4 k4 => q1 S4 M4 σ4 H4 f4 (k'.trans k4)
  | rt d τ4 => cases hl; exact fun S4 M4 σ4 H4 v f4 k4 => q1 S4 M4 σ4 H4 v f4 k4
 ·left
  have e : i = ds.length := by omega
  subst e
  rw [List.drop_length, dLoop] at hl
  cases hl
  exact ⟨I2 _ (Nat.le_refl _), q1 S' M' σ' H' f' k'⟩
def dWh (c : DT) (b : DB) : Nat -> DS -> Option Out
 | 0, _ => none
 | n + 1, τ => (c τ).bind fun p => if p.1 = true then (b p.2).bind fun o => (match o with
   | .nx τ2 => dWh c b n τ2
   | .ct τ2 => dWh c b n τ2
   | .bk τ2 => some (.nx τ2)
   | .rt d τ2 => some (.rt d τ2)) else some (.nx p.2)
def dWhile (n : DS -> Nat) (c : DT) (b : DB) (τ : DS) : Option Out := dWh c b (n τ) τ
theorem b_while {fr : Bool} {n : DS -> Nat} {tc : TT} {tb : TS} {c : DT} {b : DB} (hc : T K tc c) (hb : B K np tb fr b) : B K np (tWhile tc tb) fr (dWhile n c b) := by
 intro F S M τ σ H D out hnp f ee q
 unfold dWhile at ee
 refine ⟨fun m σ' H' => ∃ S' M' τ', RF K F S' M' τ' σ' H' /\ Keep S H S' H' /\ dWh c b m τ' = some out, ⟨n τ, S, M, τ, f, .refl, ee⟩, ?_⟩
 rintro m σ' H' ⟨S', M', τ', f', k', hl⟩
 cases m with
 | zero => cases hl
 | succ m =>
  rw [dWh] at hl
  obtain ⟨⟨k, τ1⟩, e1, hl⟩ := oB hl
  refine hc.run S' M' τ' σ' H' _ k τ1 f'.r e1 fun H1 r1 c1 => ?_
  have f1 := f'.step r1 c1 (hc.like _ _ _ e1)
  have k1 := k'.trans (c1.keep f'.r.sub)
  cases k with
  | false =>
   rw [if_neg Bool.false_ne_true] at hl ⊢
   cases hl
   exact q S' M' σ' H1 f1 k1
  | true =>
   rw [if_pos rfl] at hl ⊢
   obtain ⟨o, e3, hl⟩ := oB hl
   refine ⟨fun σ2 H2 => ∃ S2 M2 τ2, RF K F S2 M2 τ2 σ2 H2 /\ Keep S H S2 H2 /\ dWh c b m τ2 = some out, fun σ2 H2 h => ⟨m, Nat.lt_succ_self _, h⟩, ?_⟩
   refine hb F S' M' τ1 σ' H1 _ o hnp f1 e3 ?_
   cases o with
   | nx τ4 => exact fun S4 M4 σ4 H4 f4 k4 => ⟨S4, M4, τ4, f4, k1.trans k4, hl⟩
   | ct τ4 => exact fun S4 M4 σ4 H4 f4 k4 => ⟨S4, M4, τ4, f4, k1.trans k4, hl⟩
   | bk τ4 => cases hl; exact fun S4 M4 σ4 H4 f4 k4 => q S4 M4 σ4 H4 f4 (k1.trans k4)
   | rt d τ4 => cases hl; exact fun S4 M4 σ4 H4 v f4 k4 => q S4 M4 σ4 H4 v f4 k4
def fin : List L -> DS -> Option (List L)
 | [], _ => some []
 | .d x :: ls, _ :: τ => (fin ls τ).map (.d x :: ·)
 | .c x :: ls, _ :: τ => (fin ls τ).map (.c x :: ·)
 | .m _ :: ls, some (.m xs) :: τ => (fin ls τ).map (.m xs :: ·)
 | .k _ :: ls, some (.k xs) :: τ => (fin ls τ).map (.k xs :: ·)
 | _, _ => none
def dFun (fr : Bool) (np nl : Nat) (b : DB) (ls : List L) : Option (PyData × List L) := if ls.length = np then (b (ls.map some ++ List.replicate nl none)).bind fun o => match o with
  | .nx τ => if fr = true then none else (fin ls τ).map fun ls' => (.none, ls')
  | .rt d τ => (fin ls τ).map fun ls' => (d, ls')
  | _ => none
 else none
theorem fin_get : ∀ {ls : List L} {τ : DS} {ls' : List L} {i : Nat} {l : L}, fin ls τ = some ls' -> ls'[i]? = some l -> match l with
  | .d x => ls[i]? = some (.d x)
  | .c x => ls[i]? = some (.c x)
  | .m xs => (∃ ys, ls[i]? = some (.m ys)) /\ τ[i]? = some (some (.m xs))
  | .k xs => (∃ ys, ls[i]? = some (.k ys)) /\ τ[i]? = some (some (.k xs))
  | .g _ => False
 | [], _, _, _, _, h, e => by cases h; simp at e
 | .d x :: ls, o :: τ, _, i, l, h, e => by
  obtain ⟨zs, h1, h⟩ := oM h
  subst h
  cases i with
  | zero => cases e; rfl
  | succ i =>
   have := fin_get (i := i) (l := l) h1 (by simpa using e)
   cases l <;> simpa using this
 | .c x :: ls, o :: τ, _, i, l, h, e => by
  obtain ⟨zs, h1, h⟩ := oM h
  subst h
  cases i with
  | zero => cases e; rfl
  | succ i =>
   have := fin_get (i := i) (l := l) h1 (by simpa using e)
   cases l <;> simpa using this
 | .m x :: ls, some (.m xs) :: τ, _, i, l, h, e => by
  obtain ⟨zs, h1, h⟩ := oM h
  subst h
  cases i with
  | zero => cases e; exact ⟨⟨_, rfl⟩, rfl⟩
  | succ i =>
   have := fin_get (i := i) (l := l) h1 (by simpa using e)
   cases l <;> simpa using this
 | .k x :: ls, some (.k xs) :: τ, _, i, l, h, e => by
  obtain ⟨zs, h1, h⟩ := oM h
  subst h
  cases i with
  | zero => cases e; exact ⟨⟨_, rfl⟩, rfl⟩
  | succ i =>
   have := fin_get (i := i) (l := l) h1 (by simpa using e)
   cases l <;> simpa using this
theorem fin_len : ∀ {ls : List L} {τ : DS} {ls' : List L}, fin ls τ = some ls' -> ls'.length = ls.length
 | [], _, _, h => by cases h; rfl
 | .d x :: ls, o :: τ, _, h => by
  obtain ⟨zs, h1, h⟩ := oM h
  subst h
  rw [List.length_cons, List.length_cons, fin_len h1]
 | .c x :: ls, o :: τ, _, h => by
  obtain ⟨zs, h1, h⟩ := oM h
  subst h
  rw [List.length_cons, List.length_cons, fin_len h1]
 | .m x :: ls, some (.m xs) :: τ, _, h => by
  obtain ⟨zs, h1, h⟩ := oM h
  subst h
  rw [List.length_cons, List.length_cons, fin_len h1]
 | .k x :: ls, some (.k xs) :: τ, _, h => by
  obtain ⟨zs, h1, h⟩ := oM h
  subst h
  rw [List.length_cons, List.length_cons, fin_len h1]
theorem fin_g : ∀ {ls : List L} {τ : DS} {ls' : List L}, fin ls τ = some ls' -> ∀ (i : Nat) (d : PyData), ls[i]? ≠ some (.g d)
 | [], _, _, _, i, d => by simp
 | .d x :: ls, o :: τ, _, h, i, d => by
  obtain ⟨zs, h1, h⟩ := oM h
  cases i with
  | zero => simp
  | succ i => simpa using fin_g h1 i d
 | .c x :: ls, o :: τ, _, h, i, d => by
  obtain ⟨zs, h1, h⟩ := oM h
  cases i with
  | zero => simp
  | succ i => simpa using fin_g h1 i d
 | .m x :: ls, some (.m xs) :: τ, _, h, i, d => by
  obtain ⟨zs, h1, h⟩ := oM h
  cases i with
  | zero => simp
  | succ i => simpa using fin_g h1 i d
 | .k x :: ls, some (.k xs) :: τ, _, h, i, d => by
  obtain ⟨zs, h1, h⟩ := oM h
  cases i with
  | zero => simp
  | succ i => simpa using fin_g h1 i d
theorem fin_own {ls : List L} {τ : DS} {ls' : List L} {i : Nat} {x : Ow} (h : fin ls τ = some ls') (e : ls'[i]? = some x.L) : (∃ ys : Ow, ls[i]? = some ys.L) /\ τ[i]? = some (some x.L) := by
 cases x with
 | l xs => obtain ⟨⟨ys, h1⟩, h2⟩ := fin_get h e; exact ⟨⟨.l ys, h1⟩, h2⟩
 | t xs => obtain ⟨⟨ys, h1⟩, h2⟩ := fin_get h e; exact ⟨⟨.t ys, h1⟩, h2⟩
theorem at_map {α β : Type} {f : α -> β} {xs : List α} {i : Nat} {y : β} (h : (xs.map f)[i]? = some y) : ∃ x, xs[i]? = some x /\ f x = y := by
 rw [List.getElem?_map] at h
 cases e : xs[i]? with
 | none => rw [e] at h; cases h
 | some x => rw [e] at h; exact ⟨x, rfl, Option.some.inj h⟩
theorem fn_len {G : List L -> Option (PyData × List L)} {fr : Bool} {vs : List V} {H : Hp} {Q : VK} {X : XK} {np : Nat} (hG : ∀ ls r, G ls = some r -> ls.length = np) (h : spD K G fr vs H Q X) : vs.length = np := by
 obtain ⟨S, M, ls, r, ls', hR, e, _⟩ := h
 have := hR.len
 rw [List.length_map, List.length_map] at this
 rw [this, hG _ _ e]
theorem dFun_len {fr : Bool} {np nl : Nat} {b : DB} : ∀ ls r, dFun fr np nl b ls = some r -> ls.length = np := fun ls r h => by
 unfold dFun at h
 split at h
 ·assumption
 ·cases h
theorem fn_run {np nl : Nat} {t : TS} {fr : Bool} {b : DB} {N : List Str} {vs : List V} {H : Hp} {Q : VK} {X : XK} (hb : B K np t fr b) (hN : N.length = np + nl) (h : spD K (dFun fr np nl b) fr vs H Q X) : t { nx := fun _ H' => Q .non H', rt := Q } (L2.start N vs) H := by
 obtain ⟨S, M, ls, r, ls', hR, e, q⟩ := h
 have hlen := dFun_len _ _ e
 have hvl : vs.length = ls.length := by have := hR.len; rw [List.length_map, List.length_map] at this; exact this
 unfold dFun at e
 rw [if_pos hlen] at e
 obtain ⟨o, e1, e⟩ := oB e
 have est : L2.start N vs = vs.map some ++ List.replicate nl none := by
  unfold L2.start
  rw [hN, hvl, hlen, Nat.add_sub_cancel_left]
 rw [est]
 -- the entry
 have lsm : ∀ (i : Nat) (l : L), (ls.map some ++ List.replicate nl none : DS)[i]? = some (some l) -> ls[i]? = some l := fun i l h => by
  by_cases hi : i < ls.length
  ·rw [List.getElem?_append_left (by rw [List.length_map]; exact hi)] at h
   obtain ⟨x, h1, h2⟩ := at_map h
   cases h2; exact h1
  ·rw [List.getElem?_append_right (by rw [List.length_map]; omega), List.getElem?_replicate] at h
   split at h <;> cases h
 have vsm : ∀ (i : Nat) (v : V), (vs.map some)[i]? = some (some v) -> (vs.map some ++ List.replicate nl none : St)[i]? = some (some v) := fun i v h => by
  rw [List.getElem?_append_left (List.getElem?_eq_some_iff.mp h).1]; exact h
 have vsb : ∀ (i : Nat) (v : V), (vs.map some ++ List.replicate nl none : St)[i]? = some (some v) -> (vs.map some)[i]? = some (some v) := fun i v h => by
  by_cases hi : i < (vs.map some).length
  ·rw [List.getElem?_append_left hi] at h; exact h
  ·rw [List.getElem?_append_right (by omega), List.getElem?_replicate] at h
   split at h <;> cases h
 have lm : ∀ (i : Nat) (l : L), ls[i]? = some l -> (ls.map some)[i]? = some (some l) := fun i l h => by rw [List.getElem?_map, h]; rfl
 let Mx : Addr -> Prop := fun a => ∃ (i : Nat) (xs : Ow), ls[i]? = some xs.L /\ vs[i]? = some (.ref a)
 let ar : List (Option V) := (ls.zip vs).map fun p => match p.1 with
  | .m _ => some p.2
  | .k _ => some p.2
  | _ => none
 have arg : ∀ (i : Nat) (v : V), ar[i]? = some (some v) -> ∃ xs : Ow, ls[i]? = some xs.L /\ vs[i]? = some v := fun i v h => by
  obtain ⟨⟨l, u⟩, h1, h2⟩ := at_map h
  rw [List.getElem?_zip_eq_some] at h1
  cases l with
  | d x => cases h2
  | c x => cases h2
  | m xs => cases h2; exact ⟨.l xs, h1.1, h1.2⟩
  | k xs => cases h2; exact ⟨.t xs, h1.1, h1.2⟩
  | g x => cases h2
 have gar : ∀ (i : Nat) (xs : Ow) (v : V), ls[i]? = some xs.L -> vs[i]? = some v -> ar[i]? = some (some v) := fun i xs v h1 h2 => by
  show ((ls.zip vs).map _)[i]? = _
  rw [List.getElem?_map, (List.getElem?_zip_eq_some (z := (xs.L, v))).mpr ⟨h1, h2⟩]
  cases xs <;> rfl
 have Msub : ∀ a, Mx a -> M a := fun a ⟨i, xs, h1, h2⟩ => by
  obtain ⟨b', us, h3, h4, _⟩ := hR.mt i xs (lm i _ h1)
  rw [List.getElem?_map, h2] at h3
  cases h3; exact h4
 have hng : ∀ (i : Nat) (d : PyData), ls[i]? ≠ some (.g d) := by
  cases o with
  | nx τ' =>
   cases fr with
   | false => obtain ⟨ls1, e2, _⟩ := oM e; exact fin_g e2
   | true => cases e
  | bk τ' => cases e
  | ct τ' => cases e
  | rt d τ' => obtain ⟨ls1, e2, _⟩ := oM e; exact fin_g e2
 have f0 : RF K ⟨S, Mx, H, ar⟩ S Mx (ls.map some ++ List.replicate nl none) (vs.map some ++ List.replicate nl none) H := by
  refine ⟨⟨by simp [hvl], fun i x h => ?_, fun i x h => ?_, fun i x h => ?_, fun i j xs ys a h1 h2 h3 h4 => hR.inj i j xs ys a (lm _ _ (lsm _ _ h1)) (lm _ _ (lsm _ _ h2)) (vsb _ _ h3) (vsb _ _ h4), fun a h => hR.sub a (Msub a h), hR.ex, GR.nil fun i d h => hng i d (lsm i _ h)⟩,
   fun a h => h, fun b o h _ => h, fun a h => .inl h, fun a h => h, hR.ex, fun a h => hR.sub a (Msub a h), fun a h => .inl h, fun i v h => ?_, fun i v h => ?_, fun a ⟨i, xs, h1, h2⟩ => ⟨i, gar i xs _ h1 h2⟩⟩
  ·obtain ⟨v, h1, h2⟩ := hR.dat i x (lm _ _ (lsm _ _ h))
   exact ⟨v, vsm _ _ h1, h2⟩
  ·obtain ⟨a, us, h1, h2, h3, h4⟩ := hR.mt i x (lm _ _ (lsm _ _ h))
   refine ⟨a, us, vsm _ _ h1, ⟨i, x, lsm _ _ h, ?_⟩, h3, h4⟩
   obtain ⟨v, h5, h6⟩ := at_map h1
   cases h6; exact h5
  ·obtain ⟨a, us, h1, h2⟩ := hR.cst i x (lm _ _ (lsm _ _ h))
   exact ⟨a, us, vsm _ _ h1, h2⟩
  ·obtain ⟨xs, h1, h2⟩ := arg i v h
   exact vsm _ _ (by rw [List.getElem?_map, h2]; rfl)
  ·obtain ⟨xs, h1, h2⟩ := arg i v h
   refine ⟨xs, ?_⟩
   rw [List.getElem?_append_left (by rw [List.length_map]; exact (List.getElem?_eq_some_iff.mp h1).1)]
   exact lm _ _ h1
 have hnp : ar.length <= np := by
  show ((ls.zip vs).map _).length <= np
  rw [List.length_map, List.length_zip]
  omega
 -- the end
 have done : ∀ {S' M' τ' σ' H' d v} {ls1 : List L}, RF K ⟨S, Mx, H, ar⟩ S' M' τ' σ' H' -> fin ls τ' = some ls1 -> (r, ls') = (d, ls1) -> Res K fr S H H' d v -> Q v H' := fun {S' M' τ' σ' H' d v ls1} f hf er res => by
  cases er
  have k : Keep S H S H' := fun b o hn e => ⟨hn, f.old b o e fun z => hn (hR.sub b (Msub b z))⟩
  refine q v H' ⟨?_, fun i x h => ?_, fun i x h => ?_, fun i x h => ?_, fun i j xs ys a h1 h2 h3 h4 => ?_, hR.sub, fun a h => f.r.ex a (f.sS a h), GR.nil fun i d h => ?_⟩ (fun b o hn e => f.old b o e fun z => hn (Msub b z)) res
  ·rw [List.length_map, List.length_map, fin_len hf, hvl]
  ·obtain ⟨l, h1, h2⟩ := at_map h
   cases h2
   have := fin_get hf h1
   obtain ⟨v, h3, h4⟩ := hR.dat i x (lm _ _ this)
   exact ⟨v, h3, h4.mono k.same⟩
  ·obtain ⟨l, h1, h2⟩ := at_map h
   cases h2
   obtain ⟨⟨ys, h3⟩, h4⟩ := fin_own hf h1
   obtain ⟨a, us, h5, h6, h7, h8⟩ := f.r.mt i x h4
   obtain ⟨b, ws, g1, g2, _⟩ := hR.mt i ys (lm _ _ h3)
   obtain ⟨u, g3, g4⟩ := at_map g1
   cases g4
   have := f.par i _ (gar i ys _ h3 g3)
   rw [h5] at this; cases this
   exact ⟨a, us, g1, g2, h7, h8.mono (hid_less f.sS)⟩
  ·obtain ⟨l, h1, h2⟩ := at_map h
   cases h2
   have := fin_get hf h1
   obtain ⟨a, us, h3, h4, h5⟩ := hR.cst i x (lm _ _ this)
   exact ⟨a, us, h3, k.same.seq h4, h5.mono k.same⟩
  ·obtain ⟨l1, g1, g2⟩ := at_map h1
   obtain ⟨l2, g3, g4⟩ := at_map h2
   cases g2; cases g4
   obtain ⟨⟨zs, h5⟩, _⟩ := fin_own hf g1
   obtain ⟨⟨ws, h6⟩, _⟩ := fin_own hf g3
   exact hR.inj i j zs ws a (lm _ _ h5) (lm _ _ h6) h3 h4
  ·obtain ⟨l, h1, h2⟩ := at_map h
   cases h2
   exact fin_get hf h1
 refine hb ⟨S, Mx, H, ar⟩ S Mx _ _ H _ o hnp f0 e1 ?_
 cases o with
 | nx τ' =>
  cases fr with
  | false =>
   obtain ⟨ls1, e2, e⟩ := oM e
   intro S' M' σ' H' f k
   exact done f e2 e.symm rfl
  | true => cases e
 | bk τ' => cases e
 | ct τ' => cases e
 | rt d τ' =>
  obtain ⟨ls1, e2, e⟩ := oM e
  intro S' M' σ' H' v f res
  exact done f e2 e.symm res
end DL
end
section
set_option Elab.async false
set_option linter.all false
set_option maxRecDepth 100000
namespace DL
open PySem L2 PyProof.Rows
variable {K : KW}
def fLen : List PyData -> Option PyData
 | [.list xs] => some (.int xs.length)
 | [.tuple xs] => some (.int xs.length)
 | [.str x] => if x.length <= sizeLine then some (.int x.length) else none
 | _ => none
theorem c_len : BR K false (fun xs H Q => ∃ x n, xs = [x] /\ LenV K x H n /\ Q (.int n) H) fLen := by
 intro S H vs ds d Q _ l e q
 unfold fLen at e
 split at e
 ·cases e
  obtain ⟨v, us, rfl, ⟨a, ws, rfl, h, lw⟩, iu⟩ := l
  cases (show us = [] from iu)
  exact ⟨_, ws.length, rfl, .inl ⟨ws, SqL.of (hid_iff.mp h).2, rfl⟩, q _ H (fun _ _ e => e) (by rw [lw.length]; rfl)⟩
 ·cases e
  obtain ⟨v, us, rfl, ⟨a, ws, rfl, h, lw⟩, iu⟩ := l
  cases (show us = [] from iu)
  exact ⟨_, ws.length, rfl, .inr ⟨ws, Same.tup same_hid h, rfl⟩, q _ H (fun _ _ e => e) (by rw [lw.length]; rfl)⟩
 ·split at e
  ·rename_i hz
   cases e
   obtain ⟨v, us, rfl, iv, iu⟩ := l
   cases (show us = [] from iu)
   cases (show v = .str _ from iv)
   exact ⟨_, _, rfl, ⟨hz, rfl⟩, q _ H (fun _ _ e => e) rfl⟩
  ·cases e
 ·cases e
def f1 (g : Int -> Int) : List PyData -> Option PyData
 | [.int i] => some (.int (g i))
 | _ => none
def f2 (g : Int -> Int -> Int) : List PyData -> Option PyData
 | [.int i, .int j] => some (.int (g i j))
 | _ => none
theorem c_1 {g : Int -> Int} : BR K false (fun xs H Q => ∃ i, xs = [.int i] /\ Q (.int (g i)) H) (f1 g) := by
 intro S H vs ds d Q _ l e q
 unfold f1 at e
 split at e
 ·cases e
  obtain ⟨v, us, rfl, iv, iu⟩ := l
  cases (show us = [] from iu)
  cases (show v = .int _ from iv)
  exact ⟨_, rfl, q _ H (fun _ _ e => e) rfl⟩
 ·cases e
def fAbs := f1 fun i => if i < 0 then -i else i
def fMax2 := f2 fun i j => if j > i then j else i
def fMin2 := f2 fun i j => if j < i then j else i
theorem c_abs : BR K false (fun xs H Q => ∃ i, xs = [.int i] /\ Q (.int (if i < 0 then -i else i)) H) fAbs := c_1
def fInt1 : List PyData -> Option PyData
 | [.int i] => some (.int i)
 | [.bool b] => some (.int (if b then 1 else 0))
 | _ => none
def fListOf : List PyData -> Option PyData
 | [.list xs] => some (.list xs)
 | [.tuple xs] => some (.list xs)
 | _ => none
theorem c_list : BR K true (fun xs H Q => ∃ p ys, xs = [.ref p] /\ (SqL K H p ys \/ SqT K H p ys) /\ ∀ l, H l = none -> Q (.ref l) (upd H l (.lst ys))) fListOf := by
 intro S H vs ds d Q _ l e q
 unfold fListOf at e
 split at e
 ·cases e
  obtain ⟨v, us, rfl, ⟨a, ws, rfl, h, lw⟩, iu⟩ := l
  cases (show us = [] from iu)
  exact ⟨a, ws, rfl, .inl (SqL.of (hid_iff.mp h).2), fun p hp => q _ _ (same_new hp _) (res_new hp lw)⟩
 ·cases e
  obtain ⟨v, us, rfl, ⟨a, ws, rfl, h, lw⟩, iu⟩ := l
  cases (show us = [] from iu)
  exact ⟨a, ws, rfl, .inr (Same.tup same_hid h), fun p hp => q _ _ (same_new hp _) (res_new hp lw)⟩
 ·cases e
def tyN : PyData -> String
 | .none => "NoneType"
 | .bool _ => "bool"
 | .int _ => "int"
 | .str _ => "str"
 | .list _ => "list"
 | .tuple _ => "tuple"
 | .dict _ => "dict"
def rIsi (K : KW) : List V -> Hp -> VK -> Prop := fun xs H Q => ∃ x T d b, xs = [x, .ty T] /\ Is K H d x /\ PySem.W.kitOne K (.type (tyN d)) (.type T) = some b /\ Q (.bl b) H
theorem call_isiK {X : Cx} : CallR X (.builtin "isinstance") (rIsi (kwOf X)) := by
 intro pins s σ H xs us Q I r h
 obtain ⟨x, T, d, b, rfl, ix, k, q⟩ := h
 obtain ⟨u, w', rfl, rx, rT⟩ := vals2 r
 cases (show w' = Value.type T from rT)
 have fin : ∀ tk, EP X pins σ Q (.bool b) { s with toks := tk } := fun tk => ⟨.bl b, H, I.tok _, rfl, q⟩
 cases d with
 | none => cases (show x = .non from ix); exact isinst_ok I rx .non k fin
 | bool y => cases (show x = .bl y from ix); exact isinst_ok I rx (.bl y) k fin
 | int y => cases (show x = .int y from ix); exact isinst_ok I rx (.int y) k fin
 | str y => cases (show x = .str y from ix); exact isinst_ok I rx (.str y) k fin
 | list y => obtain ⟨a, vs, rfl, h, _⟩ := ix; exact isinst_ok I rx (.lst h) k fin
 | tuple y =>
  obtain ⟨a, vs, rfl, h, _⟩ := ix
  cases (show u = Value.ref a from rx)
  obtain ⟨its, _, ⟨o, h1, h2, _⟩, _⟩ := I.tuple h
  exact PySem.W.kia_one PySem.W.kitx_tuple I.kIn ⟨o, h1, h2⟩ k (fun z => nomatch z) fin
 | dict y =>
  obtain ⟨a, ts, rfl, h, _⟩ := ix
  cases (show u = Value.ref a from rx)
  obtain ⟨⟨_, _, _, xs, pr, o, es, ep, ho, he, hd, hes⟩, _, _⟩ := (show ObjOk X.prog X.w H s.heap a (.ext (phiD a ts)) from I.hok a _ h)
  exact PySem.W.kia_one PySem.W.kitx_dict I.kIn ⟨o, ho, he.1⟩ k (fun z => nomatch z) fin
def isiT (T t : String) : Bool := t == T || (T == "int" && t == "bool")
def isiD (T : String) (d : PyData) : Bool := isiT T (tyN d)
def tyOk (T : String) : Bool := ["int", "bool", "str", "list", "tuple"].contains T
theorem kit_names {T t : String} (hT : T ∈ ["int", "bool", "str", "list", "tuple"]) (ht : t ∈ ["NoneType", "bool", "int", "str", "list", "tuple", "dict"]) : PySem.W.kitOne K (.type t) (.type T) = some (isiT T t) := by
 simp only [List.mem_cons, List.not_mem_nil, or_false] at hT ht
 rcases hT with rfl | rfl | rfl | rfl | rfl <;> rcases ht with rfl | rfl | rfl | rfl | rfl | rfl | rfl <;> first
  | exact kit_same _
  | exact kit_ty (by decide +kernel) (by decide +kernel) (by decide +kernel)
theorem kit_all {T : String} {d : PyData} (h : tyOk T = true) : PySem.W.kitOne K (.type (tyN d)) (.type T) = some (isiD T d) :=
 kit_names (by simpa [tyOk] using h) (by cases d <;> simp [tyN])
def dIsi (T : String) (a : DX) (τ : DS) : Option (PyData × DS) := (a τ).bind fun p => if tyOk T then some (.bool (isiD T p.1), p.2) else none
theorem e_isi {T : String} {fr : Bool} {t : TE} {a : DX} (ha : E K t fr a) : E K (tCB (rIsi K) (tCons t (tCons (tC (.ty T)) tNil))) false (dIsi T a) := by
 refine ⟨fun τ d τ' e => ?_, ?_⟩
 ·unfold dIsi at e
  obtain ⟨⟨x, τ1⟩, e1, e⟩ := oB e
  split at e
  ·cases e; exact ha.like _ _ _ e1
  ·cases e
 intro S M τ σ H Q d τ' r e q
 unfold dIsi at e
 obtain ⟨⟨x, τ1⟩, e1, e⟩ := oB e
 split at e
 ·rename_i hT
  cases e
  refine ha.weak.run S M τ σ H _ x _ r e1 fun v H1 r1 c1 i1 => ?_
  exact ⟨v, T, x, _, rfl, Is.mono same_hid i1, kit_all hT, q _ H1 r1 c1 rfl⟩
 ·cases e
def dPar (i j : Nat) (a : DA) (τ : DS) : Option Out := (a τ).bind fun p => (allD p.1).bind fun ds => match ds with
 | [x, y] => (dN i x p.2).bind fun τ1 => (dN j y τ1).map .nx
 | _ => none
theorem b_par {np : Nat} {fr : Bool} {i j : Nat} {ta : TA} {a : DA} (ha : A K ta a) : B K np (tPar i j ta) fr (dPar i j a) := by
 intro F S M τ σ H D out hnp f ee q
 unfold dPar at ee
 obtain ⟨⟨x, τ1⟩, e1, ee⟩ := oB ee
 obtain ⟨ds, e2, ee⟩ := oB ee
 split at ee
 ·rename_i x y
  obtain ⟨τ2, e3, ee⟩ := oB ee
  obtain ⟨τ3, e4, ee⟩ := oM ee
  cases ee
  refine ha.run S M τ σ H _ _ τ1 f.r e1 fun vs H1 r1 c1 i1 => ?_
  obtain ⟨v, us, rfl, iv, w, us', rfl, iw, iu⟩ := allD_is i1 e2
  cases (show us' = [] from iu)
  refine ⟨v, w, rfl, ?_⟩
  have f1 := f.step r1 c1 (ha.like _ _ _ e1)
  refine (g_name (K := K) (i := i)).run S M τ1 σ H1 v x τ2 (fun σ' H' => D.nx (σ'.set j (some w)) H') r1 iv e3 fun σ2 r2 k2 => ?_
  have f2 := f1.stay r2 ((g_name (K := K) (i := i)).ms _ _ _ e3) k2
  refine (g_name (K := K) (i := j)).run S M τ2 σ2 H1 w y τ3 (fun σ' H' => D.nx σ' H') r2 iw e4 fun σ3 r3 k3 => ?_
  exact q S M σ3 H1 (f2.stay r3 ((g_name (K := K) (i := j)).ms _ _ _ e4) k3) (c1.keep f.r.sub)
 ·cases ee
end DL
end
section
set_option Elab.async false
set_option linter.all false
set_option maxRecDepth 100000
namespace DL
open PySem L2
variable {K : KW}
def dTBor (i : Nat) (f : DT) (τ : DS) : Option (Bool × DS) := match τ[i]? with
 | some (some (.m xs)) => (f (τ.set i (some (.d (.list xs))))).bind fun q => if q.2.all okM then some (q.1, q.2.set i (some (.m xs))) else none
 | some (some (.k xs)) => (f (τ.set i (some (.d (.dict (dctP xs)))))).bind fun q => if q.2.all okM then some (q.1, q.2.set i (some (.k xs))) else none
 | _ => none
theorem dTBor_some {i : Nat} {f : DT} {τ : DS} {d : Bool} {τ' : DS} (e : dTBor i f τ = some (d, τ')) : ∃ w τ1, τ[i]? = some (some (Ow.L w)) /\ f (τ.set i (some (.d w.D))) = some (d, τ1) /\ τ1.all okM = true /\ τ' = τ1.set i (some w.L) := by
 unfold dTBor at e
 split at e
 ·rename_i xs hx
  obtain ⟨⟨z, τ1⟩, e1, e⟩ := oB e
  dsimp only at e
  split at e
  ·rename_i h
   cases e
   exact ⟨.l xs, τ1, hx, e1, h, rfl⟩
  ·cases e
 ·rename_i xs hx
  obtain ⟨⟨z, τ1⟩, e1, e⟩ := oB e
  dsimp only at e
  split at e
  ·rename_i h
   cases e
   exact ⟨.t xs, τ1, hx, e1, h, rfl⟩
  ·cases e
 ·cases e
theorem t_bor {i : Nat} {t : TT} {f : DT} (h : T K t f) : T K t (dTBor i f) := by
 refine ⟨fun τ d τ' e => ?_, ?_⟩
 ·obtain ⟨xs, τ1, e1, e2, _, rfl⟩ := dTBor_some e
  exact like_bor e1 (h.like _ _ _ e2)
 intro S M τ σ H Q d τ' r e q
 obtain ⟨xs, τ1, e1, e2, ok, rfl⟩ := dTBor_some e
 obtain ⟨p, us, hp, hM, hl, ll⟩ := r.mt i xs e1
 refine h.run _ _ _ σ H _ d τ1 (frz r e1 hp) e2 fun H' r' c => ?_
 exact q H' (unfrz r e1 hp r' (h.like _ _ _ e2) c ok) (fun b o hn e => c b o (fun z => hn z.1) e)
def dYes (τ : DS) : Option (Bool × DS) := some (true, τ)
theorem t_yes : T K tYes dYes := by
 refine ⟨fun τ d τ' e => ?_, ?_⟩
 ·cases e; exact .refl
 intro S M τ σ H Q d τ' r e q
 cases e
 exact q H r .refl
def lcChk (N' : List Str) (own : Nat) (fr : List Nat) (scope : Scope) (N : List Str) (sc : Scope) : Bool :=
 (scope.kind == .function) && decide (N'.length = own + fr.length) && (scope.names.all fun y => y.2 != .cell) && (scope.names.all fun y => y.2 != .local || scope.names.lookup y.1 == some .local) &&
 (scope.names.all fun y => y.2 != .free || sc.names.lookup y.1 == some .cell || sc.names.lookup y.1 == some .free) &&
 (fr.zipIdx.all fun p => match N'[own + p.2]?, N[p.1]? with | some x, some y => decide (x = y) && scope.names.lookup x == some .free | _, _ => false)
theorem lc_ok {X : Cx} {N' : List Str} {own : Nat} {fr : List Nat} {scope : Scope} {N : List Str} {sc : Scope} (hN : X.N = N) (hs : X.env.scope = sc) (h : lcChk N' own fr scope N sc = true) : LcOk X N' own fr scope := by
 unfold lcChk at h
 simp only [Bool.and_eq_true] at h
 obtain ⟨⟨⟨⟨⟨h1, h2⟩, h3⟩, h4⟩, h5⟩, h6⟩ := h
 subst hN hs
 refine ⟨eq_of_beq h1, of_decide_eq_true h2, fun y hy => ?_, fun y hy e => ?_, fun x hx => ?_, fun k j e => ?_⟩
 ·have := List.all_eq_true.mp h3 y hy
  intro z
  rw [z] at this
  simp at this
 ·have := List.all_eq_true.mp h4 y hy
  rw [e] at this
  simpa using this
 ·have := List.all_eq_true.mp h5 _ hx
  simpa using this
 ·have hm : (j, k) ∈ fr.zipIdx := by
   rw [List.mem_zipIdx_iff_getElem?]
   exact e
  have := List.all_eq_true.mp h6 _ hm
  dsimp only at this
  split at this
  ·rename_i x y hx hy
   rw [Bool.and_eq_true] at this
   have e1 : x = y := of_decide_eq_true this.1
   subst e1
   exact ⟨x, hx, hy, eq_of_beq this.2⟩
  ·cases this
end DL
end
section
set_option Elab.async false
set_option linter.all false
set_option maxRecDepth 100000
namespace DL
open PySem L2
theorem fin_nil {τ : DS} : fin [] τ = some [] := by cases τ <;> rfl
theorem fin_d {x : PyData} {ls : List L} {o : Option L} {τ : DS} : fin (.d x :: ls) (o :: τ) = (fin ls τ).map (.d x :: ·) := rfl
theorem fin_c {x : List PyData} {ls : List L} {o : Option L} {τ : DS} : fin (.c x :: ls) (o :: τ) = (fin ls τ).map (.c x :: ·) := rfl
theorem fin_m {x xs : List PyData} {ls : List L} {τ : DS} : fin (.m x :: ls) (some (.m xs) :: τ) = (fin ls τ).map (.m xs :: ·) := rfl
theorem fun_rt {fr : Bool} {np nl : Nat} {b : DB} {ls ls' : List L} {d : PyData} {τ : DS} (h : b (ls.map some ++ List.replicate nl none) = some (.rt d τ)) (hl : ls.length = np) (hf : fin ls τ = some ls') : dFun fr np nl b ls = some (d, ls') := by
 unfold dFun
 rw [if_pos hl, h]
 show (fin ls τ).map _ = _
 rw [hf]
 rfl
theorem seq_nx {a b : DB} {τ τ1 : DS} (h : a τ = some (.nx τ1)) : dSeq a b τ = b τ1 := by
 unfold dSeq
 rw [h]
 rfl
theorem seq_rt {a b : DB} {τ τ1 : DS} {d : PyData} (h : a τ = some (.rt d τ1)) : dSeq a b τ = some (.rt d τ1) := by
 unfold dSeq
 rw [h]
 rfl
theorem asg_nx {e : DX} {g : DG} {τ τ1 τ2 : DS} {d : PyData} (h : e τ = some (d, τ1)) (k : g d τ1 = some τ2) : dAsg e g τ = some (.nx τ2) := by
 unfold dAsg
 rw [h]
 show (g d τ1).map _ = _
 rw [k]
 rfl
theorem ret_rt {e : DX} {τ τ1 : DS} {d : PyData} (h : e τ = some (d, τ1)) : dRet e τ = some (.rt d τ1) := by
 unfold dRet
 rw [h]
 rfl
theorem ifs_t {c : DT} {a b : DB} {τ τ1 : DS} (h : c τ = some (true, τ1)) : dIfS c a b τ = a τ1 := by
 unfold dIfS
 rw [h]
 rfl
theorem ifs_f {c : DT} {a b : DB} {τ τ1 : DS} (h : c τ = some (false, τ1)) : dIfS c a b τ = b τ1 := by
 unfold dIfS
 rw [h]
 rfl
theorem call_eq {G : List L -> Option (PyData × List L)} {a : DA} {τ τ1 : DS} {rs : List Ar} {ds : List PyData} {r : PyData} {ls : List L} (h : a τ = some (rs, τ1)) (k : allD rs = some ds) (g : G (ds.map L.d) = some (r, ls)) : dCall G a τ = some (r, τ1) := by
 unfold dCall
 rw [h]
 show (allD rs).bind _ = _
 rw [k]
 show (G (ds.map L.d)).map _ = _
 rw [g]
 rfl
theorem callC_eq {i : Nat} {G : List L -> Option (PyData × List L)} {a : DA} {τ τ1 : DS} {rs : List Ar} {ds : List PyData} {r : PyData} {ls : List L} {xs : List PyData} (h : a τ = some (rs, τ1)) (k : allD rs = some ds) (m : τ1[i]? = some (some (.c xs))) (g : G (.c xs :: ds.map L.d) = some (r, ls)) : dCallC i G a τ = some (r, τ1) := by
 unfold dCallC
 rw [h]
 show (allD rs).bind _ = _
 rw [k]
 show (match τ1[i]? with | some (some (.c xs)) => _ | _ => _) = _
 rw [m]
 show (G (.c xs :: ds.map L.d)).map _ = _
 rw [g]
 rfl
theorem for_eq {it : DI} {g : DG} {b : DB} {τ τ1 : DS} {ds : List PyData} (h : it τ = some (ds, τ1)) : dFor it g b τ = dLoop g b ds τ1 := by
 unfold dFor
 rw [h]
 rfl
theorem loop_list {α : Type} {enc : α -> PyData} {g : DG} {b : DB} (J : List α -> DS -> Prop) : ∀ {xs pre : List α} {τ : DS}, J pre τ -> (∀ x pre τ, x ∈ xs -> J pre τ -> ∃ τ1 τ2, g (enc x) τ = some τ1 /\ b τ1 = some (.nx τ2) /\ J (pre ++ [x]) τ2) -> ∃ τ', dLoop g b (xs.map enc) τ = some (.nx τ') /\ J (pre ++ xs) τ'
 | [], pre, τ, h0, _ => ⟨τ, rfl, by rw [List.append_nil]; exact h0⟩
 | x :: xs, pre, τ, h0, h => by
  obtain ⟨τ1, τ2, e1, e2, h1⟩ := h x pre τ List.mem_cons_self h0
  obtain ⟨τ', e3, h3⟩ := loop_list J (xs := xs) (pre := pre ++ [x]) (τ := τ2) h1 (fun y p t hy hj => h y p t (List.mem_cons_of_mem _ hy) hj)
  refine ⟨τ', ?_, by rw [List.append_assoc] at h3; exact h3⟩
  rw [List.map_cons, dLoop, e1]
  show (b τ1).bind _ = _
  rw [e2]
  exact e3
theorem lc_list {α : Type} {enc : α -> PyData} {g : DG} {c : DT} {e : DX} (J : DS -> Prop) (p : α -> Bool) (f : α -> PyData) : ∀ {xs : List α} {acc : List PyData} {τ : DS}, J τ ->
  (∀ x τ, x ∈ xs -> J τ -> ∃ τ1 τ2, g (enc x) τ = some τ1 /\ c τ1 = some (p x, τ2) /\ (p x = false -> J τ2) /\ (p x = true -> ∃ τ3, e τ2 = some (f x, τ3) /\ J τ3)) -> ∃ τ', lcLoop g c e (xs.map enc) acc τ = some (acc ++ (xs.filter p).map f, τ')
 | [], acc, τ, h0, _ => ⟨τ, by simp [lcLoop]⟩
 | x :: xs, acc, τ, h0, h => by
  obtain ⟨τ1, τ2, e1, e2, hf, ht⟩ := h x τ List.mem_cons_self h0
  have hr : ∀ y t, y ∈ xs -> J t -> _ := fun y t hy hj => h y t (List.mem_cons_of_mem _ hy) hj
  cases hp : p x with
  | false =>
   obtain ⟨τ', e3⟩ := lc_list J p f (xs := xs) (acc := acc) (τ := τ2) (hf hp) hr
   refine ⟨τ', ?_⟩
   rw [List.map_cons, lcLoop, e1]
   show (c τ1).bind _ = _
   rw [e2, hp]
   show lcLoop g c e (xs.map enc) acc τ2 = _
   rw [e3, List.filter_cons, hp]
   rfl
  | true =>
   obtain ⟨τ3, e4, h4⟩ := ht hp
   obtain ⟨τ', e3⟩ := lc_list J p f (xs := xs) (acc := acc ++ [f x]) (τ := τ3) h4 hr
   refine ⟨τ', ?_⟩
   rw [List.map_cons, lcLoop, e1]
   show (c τ1).bind _ = _
   rw [e2, hp]
   show (e τ2).bind _ = _
   rw [e4]
   show lcLoop g c e (xs.map enc) (acc ++ [f x]) τ3 = _
   rw [e3, List.filter_cons, hp, List.append_assoc]
   rfl
theorem dlc_eq {own : Nat} {fr : List Nat} {it : DI} {g : DG} {c : DT} {e : DX} {τ τ1 τb : DS} {ds acc : List PyData} (h : it τ = some (ds, τ1)) (hz : ds.length <= sizeLine) (hm : (fr.all fun j => !isM τ1 j) = true) (hl : lcLoop g c e ds [] (blkD own fr τ1) = some (acc, τb)) : dLC own fr it g c e τ = some (.list acc, τ1) := by
 unfold dLC
 rw [h]
 show (if ds.length <= sizeLine /\ (fr.all fun j => !isM τ1 j) = true then _ else _) = _
 rw [if_pos ⟨hz, hm⟩, hl]
 rfl
theorem sz {n : Nat} (h : n <= 1000) : n <= sizeLine := Nat.le_trans h (by decide)
theorem sz' {n : Nat} (h : n <= 1000) : (n <= sizeLine) = True := eq_true (sz h)
theorem bd_small {m : Int} (h0 : 0 < m) (h1 : m < 10 ^ 70) : Bd 8000 m := by
 have : Bd 240 m := Bd.of (m := 10 ^ 70) (by omega) (by omega) (by decide)
 exact this.mono (by decide)
theorem cst_same {K : KW} {H : Hp} {a : Addr} {xs : List V} (h : SqL K H a xs) : SqL K (hid (fun _ => False) H) a xs := Same.seq (fun b o e => hid_iff.mpr ⟨fun z => z, e⟩) h
theorem isl_ints {K : KW} {H : Hp} : ∀ ns : List Int, IsL K H (ns.map PyData.int) (ns.map V.int)
 | [] => rfl
 | _ :: ns => ⟨_, _, rfl, rfl, isl_ints ns⟩
structure Enc {α : Type} [DecidableEq α] (enc : α -> PyData) : Prop where
 eqv : ∀ a b, PyData.eqv (enc a) (enc b) = decide (a = b)
 can : ∀ a, (enc a).canLay0 = true
 dep : ∀ a, (enc a).depth <= 20
 fix : ∀ a, fixD (enc a) = true
section
variable {α : Type} [DecidableEq α] {enc : α -> PyData}
theorem Enc.ok (h : Enc enc) (a : α) : okD (enc a) = true := by
 unfold okD SeqAt.shaped
 rw [Bool.and_eq_true]
 exact ⟨h.can a, decide_eq_true (Nat.le_trans (h.dep a) (by decide))⟩
theorem Enc.canL (h : Enc enc) : ∀ xs : List α, PyData.canLayAll0 (xs.map enc) = true
 | [] => rfl
 | x :: xs => by
  rw [List.map_cons, PyData.canLayAll0, h.can, Enc.canL h xs]; rfl
theorem Enc.depL (h : Enc enc) : ∀ xs : List α, PyData.depthAll (xs.map enc) <= 20
 | [] => Nat.zero_le _
 | x :: xs => by
  rw [List.map_cons, PyData.depthAll]
  have := h.dep x
  have := Enc.depL h xs
  omega
theorem Enc.okL (h : Enc enc) (xs : List α) : okD (.list (xs.map enc)) = true := by
 unfold okD SeqAt.shaped
 rw [Bool.and_eq_true, PyData.canLay0, PyData.depth]
 exact ⟨h.canL xs, decide_eq_true (by have := h.depL xs; omega)⟩
theorem Enc.eqvL (h : Enc enc) : ∀ xs ys : List α, PyData.eqvAll (xs.map enc) (ys.map enc) = decide (xs = ys)
 | [], [] => rfl
 | [], _ :: _ => rfl
 | _ :: _, [] => rfl
 | x :: xs, y :: ys => by
  rw [List.map_cons, List.map_cons, PyData.eqvAll, h.eqv, Enc.eqvL h xs ys]
  by_cases e : x = y
  ·subst e
   by_cases e' : xs = ys
   ·subst e'; simp
   ·simp [e']
  ·simp [e]
theorem Enc.eqL (h : Enc enc) (xs ys : List α) : PyData.eqv (.list (xs.map enc)) (.list (ys.map enc)) = decide (xs = ys) := by
 rw [PyData.eqv]; exact h.eqvL xs ys
theorem Enc.any (h : Enc enc) (x : α) : ∀ xs : List α, ((xs.map enc).any fun y => PyData.eqv y (enc x)) = decide (x ∈ xs)
 | [] => by simp
 | y :: ys => by
  rw [List.map_cons, List.any_cons, h.eqv, Enc.any h x ys]
  by_cases e : y = x
  ·subst e; simp
  ·have : ¬ x = y := fun z => e z.symm
   simp [e, this]
theorem Enc.fixL (h : Enc enc) : ∀ xs : List α, fixDs (xs.map enc) = true
 | [] => rfl
 | x :: xs => by rw [List.map_cons, fixDs, h.fix, Enc.fixL h xs]; rfl
theorem Enc.fEq (h : Enc enc) (a b : α) : DL.fEq (enc a) (enc b) = some (.bool (decide (a = b))) := by
 unfold DL.fEq; rw [h.ok, h.ok, h.eqv]; rfl
theorem Enc.fNe (h : Enc enc) (a b : α) : DL.fNe (enc a) (enc b) = some (.bool (!decide (a = b))) := by
 unfold DL.fNe; rw [h.ok, h.ok, h.eqv]; rfl
theorem Enc.fEqL (h : Enc enc) (a b : List α) : DL.fEq (.list (a.map enc)) (.list (b.map enc)) = some (.bool (decide (a = b))) := by
 unfold DL.fEq; rw [h.okL, h.okL, h.eqL]; rfl
theorem Enc.fNeL (h : Enc enc) (a b : List α) : DL.fNe (.list (a.map enc)) (.list (b.map enc)) = some (.bool (!decide (a = b))) := by
 unfold DL.fNe; rw [h.okL, h.okL, h.eqL]; rfl
theorem Enc.fIn (h : Enc enc) (a : α) (xs : List α) : DL.fIn false (enc a) (.list (xs.map enc)) = some (.bool (decide (a ∈ xs))) := by
 simp only [DL.fIn, h.ok, h.okL, h.any, Bool.and_self, if_true, Bool.false_eq_true, if_false]
theorem Enc.fNotIn (h : Enc enc) (a : α) (xs : List α) : DL.fIn true (enc a) (.list (xs.map enc)) = some (.bool (!decide (a ∈ xs))) := by
 simp only [DL.fIn, h.ok, h.okL, h.any, Bool.and_self, if_true]
end
theorem encI : Enc (α := Int) PyData.int := ⟨fun a b => by rw [PyData.eqv]; by_cases h : a = b <;> simp [h], fun _ => rfl, fun _ => by rw [PyData.depth]; decide, fun _ => rfl⟩
def ec (p : Int × Int) : PyData := .tuple [.int p.1, .int p.2]
theorem encC : Enc ec := by
 refine ⟨fun a b => ?_, fun _ => rfl, fun a => ?_, fun _ => rfl⟩
 ·unfold ec
  simp only [PyData.eqv, PyData.eqvAll, Bool.and_true]
  obtain ⟨a1, a2⟩ := a
  obtain ⟨b1, b2⟩ := b
  by_cases h1 : a1 = b1
  ·by_cases h2 : a2 = b2 <;> simp [h1, h2]
  ·simp [h1]
 ·unfold ec; simp [PyData.depth, PyData.depthAll]
structure Bx where
 x : Int
 y : Int
 w : Int
 h : Int
 deriving DecidableEq
def eb (b : Bx) : PyData := .tuple [.int b.x, .int b.y, .int b.w, .int b.h]
end DL
end
section
set_option Elab.async false
set_option linter.all false
namespace DL
open PySem L2
def rng (lo : Int) (n : Nat) : List Int := (List.range n).map fun (k : Nat) => lo + (k : Int)
theorem rangeD_eq (lo : Int) (n : Nat) : rangeD lo n = (rng lo n).map PyData.int := by
 unfold rangeD rng
 rw [List.map_map]
 rfl
theorem mem_rng {lo v n : Int} : v ∈ rng lo n.toNat ↔ lo <= v /\ v < lo + n := by
 unfold rng
 rw [List.mem_map]
 constructor
 ·rintro ⟨k, hk, rfl⟩
  rw [List.mem_range] at hk
  omega
 ·rintro ⟨h1, h2⟩
  exact ⟨(v - lo).toNat, by rw [List.mem_range]; omega, by omega⟩
abbrev Cl := Int × Int
def rowC (x v : Int) (w : Nat) : List Cl := (rng x w).map fun u => (u, v)
def cells (b : Bx) : List Cl := (rng b.y b.h.toNat).flatMap fun v => rowC b.x v b.w.toNat
def inB (b : Bx) (p : Cl) : Prop := b.x <= p.1 /\ p.1 < b.x + b.w /\ b.y <= p.2 /\ p.2 < b.y + b.h
instance {b : Bx} {p : Cl} : Decidable (inB b p) := by unfold inB; infer_instance
def nM (o : Option L) : Prop := (∀ xs, o ≠ some (.m xs)) /\ ∀ xs, o ≠ some (.k xs)
theorem nM_none : nM none := ⟨fun xs z => (nomatch z), fun xs z => (nomatch z)⟩
theorem nM_d {x : PyData} : nM (some (.d x)) := ⟨fun xs z => (nomatch z), fun xs z => (nomatch z)⟩
theorem dN_eq {i : Nat} {d : PyData} {τ : DS} {o : Option L} (h : τ[i]? = some o) (hn : nM o) : dN i d τ = some (τ.set i (some (.d d))) := by
 unfold dN
 rw [h]
 cases o with
 | none => rfl
 | some l => cases l with
  | m xs => exact absurd rfl (hn.1 xs)
  | k xs => exact absurd rfl (hn.2 xs)
  | d x => rfl
  | c x => rfl
  | g x => rfl
end DL
end
section
set_option Elab.async false
set_option linter.all false
set_option maxRecDepth 100000
namespace DL
open PySem L2
variable {K : KW}
def isC (τ : DS) (j : Nat) : Bool := match τ[j]? with
 | some (some (.c _)) => true
 | _ => false
def dAS (i : Nat) (r : DA) (τ : DS) : Option (List Ar × DS) := if (isM τ i || isC τ i) = true then (r τ).map fun q => (.s i :: q.1, q.2) else none
def mkL (τ : DS) : List Ar -> Option (List L)
 | [] => some []
 | .d x :: r => (mkL τ r).map (.d x :: ·)
 | .s i :: r => match τ[i]? with
  | some (some (.m xs)) => (mkL τ r).map (.m xs :: ·)
  | some (some (.c xs)) => (mkL τ r).map (.c xs :: ·)
  | _ => none
def nMb : L -> Bool
 | .m _ => false
 | .k _ => false
 | _ => true
def dCallP (k i : Nat) (G : List L -> Option (PyData × List L)) (a : DA) (τ : DS) : Option (PyData × DS) := (a τ).bind fun p => (mkL p.2 p.1).bind fun ls => match p.1[k]?, ls[k]? with
 | some (.s j), some (.m _) => if j = i /\ (ls.set k (.d .none)).all nMb = true then (G ls).bind fun q => match q.2[k]? with
   | some (.m xs) => some (q.1, p.2.set i (some (.m xs)))
   | _ => none
  else none
 | _, _ => none
theorem loop_pre_go {α : Type} {enc : α -> PyData} {g : DG} {b : DB} {all : List α} (J : List α -> DS -> Prop) (h : ∀ pre x post τ, all = pre ++ x :: post -> J pre τ -> ∃ τ1 τ2, g (enc x) τ = some τ1 /\ b τ1 = some (.nx τ2) /\ J (pre ++ [x]) τ2) :
  ∀ {xs pre : List α} {τ : DS}, all = pre ++ xs -> J pre τ -> ∃ τ', dLoop g b (xs.map enc) τ = some (.nx τ') /\ J all τ'
 | [], pre, τ, e, h0 => ⟨τ, rfl, by rw [e, List.append_nil]; exact h0⟩
 | x :: xs, pre, τ, e, h0 => by
  obtain ⟨τ1, τ2, e1, e2, h1⟩ := h pre x xs τ e h0
  obtain ⟨τ', e3, h3⟩ := loop_pre_go J h (xs := xs) (pre := pre ++ [x]) (τ := τ2) (by rw [e, List.append_assoc]; rfl) h1
  refine ⟨τ', ?_, h3⟩
  rw [List.map_cons, dLoop, e1]
  show (b τ1).bind _ = _
  rw [e2]
  exact e3
theorem loop_pre {α : Type} {enc : α -> PyData} {g : DG} {b : DB} {xs : List α} {τ : DS} (J : List α -> DS -> Prop) (h0 : J [] τ) (h : ∀ pre x post τ, xs = pre ++ x :: post -> J pre τ -> ∃ τ1 τ2, g (enc x) τ = some τ1 /\ b τ1 = some (.nx τ2) /\ J (pre ++ [x]) τ2) :
  ∃ τ', dLoop g b (xs.map enc) τ = some (.nx τ') /\ J xs τ' := loop_pre_go J h (pre := []) rfl h0
theorem r1_eq {n : Int} {τ τ1 : DS} {a : DA} (h : a τ = some ([.d (.int n)], τ1)) (h0 : -100000 <= n) (h1 : n <= 100000) : dR1 a τ = some ((rng 0 n.toNat).map PyData.int, τ1) := by
 unfold dR1
 rw [h]
 show (if -(2 ^ 62) <= n /\ n < 2 ^ 62 then some (rangeD 0 n.toNat, τ1) else none) = _
 rw [if_pos (by omega), rangeD_eq]
theorem split_len {α : Type} {xs pre post : List α} {x : α} (e : xs = pre ++ x :: post) : pre.length < xs.length := by rw [e, List.length_append, List.length_cons]; omega
theorem split_mem {α : Type} {xs pre post : List α} {x : α} (e : xs = pre ++ x :: post) : x ∈ xs := by rw [e]; exact List.mem_append_right _ List.mem_cons_self
end DL
end
section
set_option Elab.async false
set_option linter.all false
set_option maxRecDepth 100000
namespace DL
open PySem PySem.Spec L2 PyProof.Rows
section
variable {prog : Program} {w : World} {A : Around} {s : Shared} {R : Result -> Shared -> Prop}
variable {I : Addr} {fp wr : List Addr} {G : Array GenState -> Array GenState -> Prop} {n : Nat} {P : Nat -> Value -> Prop} {St : Nat -> Shared -> Prop}
end
section
variable {prog : Program} {w : World} {A : Around} {E : Value -> Shared -> Prop} {s : Shared}
variable {I : Addr} {fp wr : List Addr} {G : Array GenState -> Array GenState -> Prop} {n : Nat} {P : Nat -> Value -> Prop} {St : Nat -> Shared -> Prop}
end
variable {K : KW}
def dRev (f : DX) (τ : DS) : Option (PyData × DS) := (f τ).bind fun p => match p.1 with
 | .list xs => some (.list xs.reverse, p.2)
 | _ => none
theorem okM_none : okM none = true := rfl
theorem okM_d {x : PyData} : okM (some (.d x)) = true := rfl
theorem okM_c {x : List PyData} : okM (some (.c x)) = true := rfl
theorem okM_m {x : List PyData} : okM (some (.m x)) = fixDs x := rfl
theorem okM_n {o : Option L} (h : nM o) : okM o = true := by
 cases o with
 | none => rfl
 | some l => cases l with
  | m xs => exact absurd rfl (h.1 xs)
  | k xs => exact absurd rfl (h.2 xs)
  | d x => rfl
  | c x => rfl
  | g x => rfl
end DL
end
section
set_option Elab.async false
set_option linter.all false
set_option maxRecDepth 100000
namespace Srt
open PySem PySem.W PyProof.Rows
variable {n : Nat} {r : Nat -> Nat -> Bool}
end Srt
end
section
set_option Elab.async false
set_option linter.all false
set_option maxRecDepth 100000
namespace Srt
open PySem PySem.W PyProof.Rows HT
section
variable {prog : Program} {w : World} {A : Around} {E : Value -> Shared -> Prop} {s : Shared}
end
end Srt
end
section
set_option Elab.async false
set_option linter.all false
set_option maxRecDepth 100000
namespace TS
open PySem PyProof.Rows
section
variable {prog : Program} {w : World} {A : Around} {E : Value -> Shared -> Prop} {s : Shared} {κ : SortKind} {rk : Keyed -> Nat} {a₀ : Array Keyed}
end
end TS
end
section
set_option Elab.async false
set_option linter.all false
set_option maxRecDepth 100000
namespace TS
open PySem PyProof.Rows
section
variable {prog : Program} {w : World} {A : Around} {E : Value -> Shared -> Prop} {s : Shared} {κ : SortKind} {rk : Keyed -> Nat} {a₀ : Array Keyed}
end
end TS
end
section
set_option Elab.async false
set_option linter.all false
set_option maxRecDepth 100000
namespace TS
open PySem PyProof.Rows
section
variable {prog : Program} {w : World} {A : Around} {E : Value -> Shared -> Prop} {s : Shared} {κ : SortKind} {rk : Keyed -> Nat} {a₀ : Array Keyed}
end
end TS
end
section
set_option Elab.async false
set_option linter.all false
set_option maxRecDepth 100000
namespace TS
open PySem PyProof.Rows
section
variable {rk : Keyed -> Nat}
end
end TS
end
section
set_option Elab.async false
set_option linter.all false
set_option maxRecDepth 100000
namespace TS
open PySem PyProof.Rows
section
variable {prog : Program} {w : World} {A : Around} {E : Value -> Shared -> Prop} {s : Shared} {κ : SortKind} {rk : Keyed -> Nat} {a₀ : Array Keyed}
end
end TS
end
section
set_option Elab.async false
set_option linter.all false
set_option maxRecDepth 100000
namespace TS
open PySem PyProof.Rows
section
variable {rk : Keyed -> Nat}
end
section
variable {prog : Program} {w : World} {A : Around} {E : Value -> Shared -> Prop} {s : Shared} {κ : SortKind} {rk : Keyed -> Nat} {a₀ : Array Keyed}
end
end TS
end
section
set_option Elab.async false
set_option linter.all false
set_option maxRecDepth 100000
namespace TS
open PySem PyProof.Rows
section
variable {rk : Keyed -> Nat}
end
section
variable {prog : Program} {w : World} {A : Around} {E : Value -> Shared -> Prop} {s : Shared} {κ : SortKind} {rk : Keyed -> Nat} {a₀ : Array Keyed}
end
end TS
end
section
set_option Elab.async false
set_option linter.all false
set_option maxRecDepth 100000
namespace TS
open PySem PyProof.Rows
section
variable {rk : Keyed -> Nat}
end
section
variable {prog : Program} {w : World} {A : Around} {E : Value -> Shared -> Prop} {s : Shared} {κ : SortKind} {rk : Keyed -> Nat} {a₀ : Array Keyed}
end
end TS
end
section
set_option Elab.async false
set_option linter.all false
set_option maxRecDepth 100000
namespace TS
open PySem PySem.W PyProof.Rows HT Srt
section
variable {prog : Program} {w : World} {A : Around} {E : Value -> Shared -> Prop} {s : Shared} {vs : List Value} {ks : List (List Int)} {d : Nat}
open Classical in
end
end TS
end
section
set_option Elab.async false
set_option linter.all false
set_option maxRecDepth 100000
namespace Srt
open PySem PySem.W PyProof.Rows HT
section
variable {prog : Program} {w : World} {A : Around} {E : Value -> Shared -> Prop} {s : Shared}
end
end Srt
end
section
set_option Elab.async false
set_option linter.all false
set_option maxRecDepth 100000
namespace DL
open PySem L2 PyProof.Rows
variable {K : KW}
end DL
end
section
set_option Elab.async false
set_option linter.all false
set_option maxRecDepth 100000
namespace DL
open PySem L2
variable {K : KW}
abbrev DO := DS -> Option (Option Int × DS)
structure OO (K : KW) (t : TO) (f : DO) : Prop where
 like : ∀ τ b τ', f τ = some (b, τ') -> Like τ τ'
 run : ∀ S M τ σ H (Q : Option Int -> Hp -> Prop) b τ', R K S M τ σ H -> f τ = some (b, τ') -> (∀ H', R K S M τ' σ H' -> Chg M H H' -> Q b H') -> t σ H Q
def dNoP : DO := fun τ => some (none, τ)
def dPt (f : DX) : DO := fun τ => (f τ).bind fun p => match p.1 with
 | .int i => some (some i, p.2)
 | _ => none
theorem o_nop : OO K tNoPart dNoP := ⟨fun τ b τ' e => by cases e; exact Like.refl, fun S M τ σ H Q b τ' r e q => by cases e; exact q H r Chg.refl⟩
theorem o_pt {fr : Bool} {t : TE} {f : DX} (h : E K t fr f) : OO K (tPart t) (dPt f) := by
 refine ⟨fun τ b τ' e => ?_, ?_⟩
 ·unfold dPt at e
  obtain ⟨⟨x, τ1⟩, e1, e⟩ := oB e
  dsimp only at e
  split at e
  ·cases e; exact h.like _ _ _ e1
  ·cases e
 intro S M τ σ H Q b τ' r e q
 unfold dPt at e
 obtain ⟨⟨x, τ1⟩, e1, e⟩ := oB e
 dsimp only at e
 split at e
 ·rename_i i
  cases e
  refine h.run S M τ σ H _ _ _ r e1 fun v H' r' c iv => ?_
  exact ⟨i, (show v = .int i from r.isr iv), q H' r' c⟩
 ·cases e
def cutD (xs : List PyData) (lo hi : Option Int) : List PyData := (xs.drop (HT.sIx xs.length 0 lo)).take (HT.sIx xs.length xs.length hi - HT.sIx xs.length 0 lo)
theorem isl_drop {H : Hp} : ∀ {xs : List PyData} {vs : List V} (n : Nat), IsL K H xs vs -> IsL K H (xs.drop n) (vs.drop n)
 | _, _, 0, h => h
 | [], _, n + 1, h => by rw [show _ = [] from h]; rfl
 | x :: xs, _, n + 1, ⟨v, us, e, _, l⟩ => by subst e; exact isl_drop n l
theorem isl_take {H : Hp} : ∀ {xs : List PyData} {vs : List V} (n : Nat), IsL K H xs vs -> IsL K H (xs.take n) (vs.take n)
 | _, _, 0, h => rfl
 | [], _, n + 1, h => by rw [show _ = [] from h]; rfl
 | x :: xs, _, n + 1, ⟨v, us, e, i, l⟩ => by subst e; exact ⟨v, _, rfl, i, isl_take n l⟩
theorem isl_cut {H : Hp} {xs : List PyData} {vs : List V} {lo hi : Option Int} (h : IsL K H xs vs) : IsL K H (cutD xs lo hi) (cutV vs lo hi) := by
 unfold cutD cutV
 rw [h.length]
 exact isl_take _ (isl_drop _ h)
def dSl (f : DX) (lo hi : DO) (τ : DS) : Option (PyData × DS) := (f τ).bind fun p => (lo p.2).bind fun l => (hi l.2).bind fun u => match p.1 with
 | .list xs => some (.list (cutD xs l.1 u.1), u.2)
 | _ => none
theorem e_sl {fr : Bool} {te : TE} {tl th : TO} {f : DX} {lo hi : DO} (h : E K te fr f) (hl : OO K tl lo) (hh : OO K th hi) : E K (tSl (rSlL K) te tl th) true (dSl f lo hi) := by
 refine ⟨fun τ d τ' e => ?_, ?_⟩
 ·unfold dSl at e
  obtain ⟨⟨x, τ1⟩, e1, e⟩ := oB e
  obtain ⟨⟨l, τ2⟩, e2, e⟩ := oB e
  obtain ⟨⟨u, τ3⟩, e3, e⟩ := oB e
  dsimp only at e
  split at e
  ·cases e; exact ((h.like _ _ _ e1).trans (hl.like _ _ _ e2)).trans (hh.like _ _ _ e3)
  ·cases e
 intro S M τ σ H Q d τ' r e q
 unfold dSl at e
 obtain ⟨⟨x, τ1⟩, e1, e⟩ := oB e
 obtain ⟨⟨l, τ2⟩, e2, e⟩ := oB e
 obtain ⟨⟨u, τ3⟩, e3, e⟩ := oB e
 dsimp only at e e2 e3
 cases x with
 | list xs =>
  cases e
  refine h.run S M τ σ H _ _ _ r e1 fun v1 H1 r1 c1 i1 => ?_
  refine hl.run S M τ1 σ H1 _ _ _ r1 e2 fun H2 r2 c2 => ?_
  refine hh.run S M τ2 σ H2 _ _ _ r2 e3 fun H3 r3 c3 => ?_
  have i1' : Is K (hid S H3) (.list xs) v1 := ((r.isr i1).mono (c2.keep r1.sub).same).mono (c3.keep r2.sub).same
  obtain ⟨a, vs, rfl, ha, la⟩ := i1'
  refine ⟨a, vs, rfl, SqL.of (hid_iff.mp ha).2, fun p hp => ?_⟩
  have s := same_new hp (HO.lst (cutV vs l u))
  exact q _ _ (r3.same s) (((c1.trans c2).trans c3).trans (.of s)) ((res_new hp (isl_cut la)).back r3 ((c1.trans c2).trans c3))
 | _ => cases e
end DL
end
section
set_option Elab.async false
set_option linter.all false
set_option maxRecDepth 100000
namespace L2
open PySem PySem.Spec PyProof.Rows
section
variable {X : Cx} {pins : List (Addr × Obj)} {σ : L2.St} {H : Hp} {s : Shared}
end
section
variable {X : Cx} {elts : List Expr} {tp : Pos}
end
end L2
end
section
set_option Elab.async false
set_option linter.all false
set_option maxRecDepth 100000
namespace DL
open PySem L2
variable {K : KW}
end DL
end
section
set_option Elab.async false
set_option linter.all false
set_option maxRecDepth 100000
namespace DL
open PySem L2 PyProof.Rows
variable {K : KW}
end DL
end
section
set_option Elab.async false
set_option linter.all false
set_option maxRecDepth 100000
namespace DL
open PySem L2
variable {K : KW}
end DL
end
section
set_option Elab.async false
set_option linter.all false
namespace Stb
open PySem
end Stb
end
section
set_option Elab.async false
set_option linter.all false
namespace Stb
open PySem SetTable
end Stb
end
section
set_option Elab.async false
set_option linter.all false
namespace Stb
open PySem SetTable
end Stb
end
section
set_option Elab.async false
set_option linter.all false
namespace Stb
open PySem SetTable
end Stb
end
section
set_option Elab.async false
set_option linter.all false
namespace Stb
open PySem SetTable
end Stb
end
section
set_option Elab.async false
set_option linter.all false
set_option maxRecDepth 100000
namespace Stb
open PySem PyProof.Rows SetTable
section
variable {prog : Program} {w : World} {A : Around} {E : Value -> Shared -> Prop} {s : Shared}
end
end Stb
end
section
set_option Elab.async false
set_option linter.all false
set_option maxRecDepth 100000
namespace Stb
open PySem PyProof.Rows SetTable
section
variable {prog : Program} {w : World} {A : Around} {E : Value -> Shared -> Prop} {s : Shared}
end
end Stb
end
section
set_option Elab.async false
set_option linter.all false
set_option maxRecDepth 100000
namespace Stb
open PySem PyProof.Rows SetTable
section
variable {prog : Program} {w : World} {A : Around} {E : Value -> Shared -> Prop} {s : Shared}
end
end Stb
end
section
set_option Elab.async false
set_option linter.all false
set_option maxRecDepth 100000
namespace Stb
open PySem PyProof.Rows SetTable
section
variable {prog : Program} {w : World} {A : Around} {R : Result -> Shared -> Prop} {I : Addr} {fp wr : List Addr} {G : Array GenState -> Array GenState -> Prop} {n : Nat} {P : Nat -> Value -> Prop} {St : Nat -> Shared -> Prop}
end
end Stb
end
section
set_option Elab.async false
set_option linter.all false
set_option maxRecDepth 100000
namespace Stb
open PySem PyProof.Rows SetTable
section
variable {prog : Program} {w : World} {A : Around} {E : Value -> Shared -> Prop} {s : Shared}
end
end Stb
end
section
set_option Elab.async false
set_option linter.all false
set_option maxRecDepth 100000
namespace Stb
open PySem PyProof.Rows SetTable
section
variable {prog : Program} {w : World} {A : Around} {E : Value -> Shared -> Prop} {s : Shared}
end
end Stb
end
section
set_option Elab.async false
set_option linter.all false
set_option maxRecDepth 100000
namespace Stb
open PySem PyProof.Rows SetTable
section
variable {prog : Program} {w : World} {A : Around} {E : Value -> Shared -> Prop} {s : Shared}
end
end Stb
end
section
set_option Elab.async false
set_option linter.all false
set_option maxRecDepth 100000
namespace Stb
open PySem PyProof.Rows SetTable
section
variable {prog : Program} {w : World} {A : Around} {E : Value -> Shared -> Prop} {s : Shared}
end
end Stb
end
section
set_option Elab.async false
set_option linter.all false
set_option maxRecDepth 100000
namespace Stb
open PySem PyProof.Rows SetTable
section
variable {prog : Program} {w : World} {A : Around} {E : Value -> Shared -> Prop} {s : Shared}
end
end Stb
end
section
set_option Elab.async false
set_option linter.all false
set_option maxRecDepth 100000
namespace DL
open PySem L2 PyProof.Rows
variable {K : PySem.W.Frag}
end DL
end
section
set_option Elab.async false
set_option linter.all false
set_option maxRecDepth 100000
namespace DL
open PySem L2 PyProof.Rows
variable {K : KW}
end DL
end
section
set_option Elab.async false
set_option linter.all false
namespace DL
open PySem L2
def fuelI (i : Nat) (τ : DS) : Nat := match τ[i]? with
 | some (some (.d (.int s))) => s.toNat + 1
 | _ => 0
end DL
end
section
set_option Elab.async false
set_option linter.all false
set_option maxRecDepth 100000
namespace Dwk
open PySem
variable {prog : Program} {w : World} {A : Around} {E : Value -> Shared -> Prop} {s : Shared}
end Dwk
end
section
set_option Elab.async false
set_option linter.all false
set_option maxRecDepth 100000
namespace DL
open PySem L2 PyProof.Rows
variable {K : PySem.W.Frag}
section
variable {X : Cx} {pins : List (Addr × Obj)} {σ : L2.St} {H : Hp} {s : Shared}
end
end DL
end
section
set_option Elab.async false
set_option linter.all false
set_option maxRecDepth 100000
namespace DL
open PySem L2 PyProof.Rows
variable {K : KW}
def fCatT : PyData -> PyData -> Option PyData
 | .tuple (x :: xs), .tuple (y :: ys) => if xs.length + ys.length + 2 <= sizeLine then some (.tuple (x :: xs ++ y :: ys)) else none
 | _, _ => none
theorem o_catT : OR K false (rCatT K) fCatT := by
 intro S H x y dx dy d Q hS ix iy e q
 unfold fCatT at e
 split at e
 ·rename_i x1 xs y1 ys
  split at e
  ·rename_i hz
   cases e
   obtain ⟨a, vs, rfl, ha, la⟩ := ix
   obtain ⟨b, us, rfl, hb, lb⟩ := iy
   have l1 := la.length
   have l2 := lb.length
   rw [List.length_cons] at l1 l2
   refine ⟨a, b, vs, us, rfl, rfl, Same.tup same_hid ha, Same.tup same_hid hb, fun z => (by subst z; cases l1), by omega, fun z => (by subst z; cases l2), fun _ p hp => ?_⟩
   have s := same_new hp (HO.tup (vs ++ us))
   refine q _ _ s ⟨p, vs ++ us, rfl, .inl (.inl (hid_iff.mpr ⟨hS p hp, upd_same⟩)), ?_⟩
   exact (isl_append la lb).mono (Same.keep s).same
  ·cases e
 ·cases e
end DL
end
section
set_option Elab.async false
set_option linter.all false
set_option maxRecDepth 100000
namespace DL
open PySem L2
variable {K : KW}
end DL
end
section
set_option Elab.async false
set_option linter.all false
set_option maxRecDepth 100000
namespace L2
open PySem
end L2
namespace DL
open PySem L2
variable {K : KW}
end DL
end
section
set_option Elab.async false
set_option linter.all false
set_option maxRecDepth 100000
namespace EnG
open PySem PyProof.Rows
section
variable {prog : Program} {w : World} {A : Around} {E : Value -> Shared -> Prop} {s : Shared}
end
end EnG
namespace EnG
open PySem PyProof.Rows
open Sem (wp)
open AutoSeq1 (wpAny_loadPart')
section
variable {prog : Program} {w : World} {A : Around} {E : Value -> Shared -> Prop} {s : Shared}
end
end EnG
namespace L2
open PySem PySem.Spec PyProof.Rows EnG
section
variable {X : Cx} {elts : List Expr} {tp : Pos}
end
end L2
end
section
set_option Elab.async false
set_option linter.all false
set_option maxRecDepth 100000
namespace DL
open PySem L2 PyProof.Rows
variable {K : KW}
def fCatS : PyData -> PyData -> Option PyData
 | .str x, .str y => if x.length + y.length <= sizeLine then some (.str (x ++ y)) else none
 | _, _ => none
theorem o_catS : OR K false (fun x y H Q => ∃ i j, x = .str i /\ y = .str j /\ i.length + j.length <= sizeLine /\ Q (.str (i ++ j)) H) fCatS := by
 intro S H x y dx dy d Q _ ix iy e q
 unfold fCatS at e
 split at e
 ·split at e
  ·rename_i hz
   cases e
   cases (show x = .str _ from ix)
   cases (show y = .str _ from iy)
   exact ⟨_, _, rfl, rfl, hz, q _ H (fun _ _ e => e) rfl⟩
  ·cases e
 ·cases e
def fIxS : PyData -> PyData -> Option PyData
 | .str z, .int i => if z.length <= sizeLine then (atI z.cps.toList i).map fun c => .str ⟨#[c]⟩ else none
 | _, _ => none
theorem o_ixS : OR K false rIxS fIxS := by
 intro S H x y dx dy d Q _ ix iy e q
 unfold fIxS at e
 split at e
 ·split at e
  ·rename_i hz
   obtain ⟨c, e1, rfl⟩ := oM e
   cases (show x = .str _ from ix)
   cases (show y = .int _ from iy)
   exact ⟨_, _, c, rfl, rfl, hz, e1, q _ H (fun _ _ e => e) rfl⟩
  ·cases e
 ·cases e
def fTupOf : List PyData -> Option PyData
 | [.list xs] => some (.tuple xs)
 | [.tuple xs] => some (.tuple xs)
 | _ => none
theorem c_tupOf : BR K false (fun xs H Q => ∃ p ys, xs = [.ref p] /\ ((SqL K H p ys /\ ∀ l, H l = none -> Q (.ref l) (upd H l (.tup ys))) \/ (SqT K H p ys /\ Q (.ref p) H))) fTupOf := by
 intro S H vs ds d Q hS l e q
 unfold fTupOf at e
 split at e
 ·cases e
  obtain ⟨v, us, rfl, ⟨a, ws, rfl, h, lw⟩, iu⟩ := l
  cases (show us = [] from iu)
  refine ⟨a, ws, rfl, .inl ⟨SqL.of (hid_iff.mp h).2, fun p hp => ?_⟩⟩
  have s := same_new hp (HO.tup ws)
  exact q _ _ s ⟨p, ws, rfl, .inl (.inl (hid_iff.mpr ⟨hS p hp, upd_same⟩)), lw.mono (Same.keep s).same⟩
 ·cases e
  obtain ⟨v, us, rfl, ⟨a, ws, rfl, h, lw⟩, iu⟩ := l
  cases (show us = [] from iu)
  exact ⟨a, ws, rfl, .inr ⟨Same.tup same_hid h, q _ H (fun _ _ e => e) ⟨a, ws, rfl, h, lw⟩⟩⟩
 ·cases e
end DL
end
section
set_option Elab.async false
set_option linter.all false
set_option maxRecDepth 100000
namespace L2
open PySem PySem.Spec PyProof.Rows
section
variable {X : Cx} {pos : Pos}
end
end L2
namespace DL
open PySem L2
variable {K : KW}
end DL
end
section
set_option Elab.async false
set_option linter.all false
set_option maxRecDepth 100000
namespace DL
open PySem L2
variable {K : KW}
end DL
end
section
set_option Elab.async false
set_option linter.all false
set_option maxRecDepth 100000
namespace L2
open PySem PySem.Spec PyProof.Rows
section
variable {X : Cx}
end
end L2
namespace DL
open PySem L2 PyProof.Rows
variable {K : KW}
end DL
end
section
set_option Elab.async false
set_option linter.all false
set_option maxRecDepth 100000
namespace L2
open PySem PySem.Spec PyProof.Rows
structure Pt (N : Addr -> Prop) (fs : List Addr) (h h' : Heap) : Prop where
 same : ∀ b o, h.get? b = some o -> ¬ N b -> b ∉ fs -> h'.get? b = some o
 slot : ∀ b o, h.get? b = some o -> ¬ N b -> ∃ sl, h'.get? b = some { o with slots := sl }
 size : h.objs.size <= h'.objs.size
theorem Pt.trans {N : Addr -> Prop} {fs : List Addr} {h h1 h2 : Heap} (a : Pt N fs h h1) (b : Pt N fs h1 h2) : Pt N fs h h2 :=
 ⟨fun c o e n f => b.same c o (a.same c o e n f) n f, fun c o e n => let ⟨_, e1⟩ := a.slot c o e n; let ⟨sl, e2⟩ := b.slot c _ e1 n; ⟨sl, e2⟩, Nat.le_trans a.size b.size⟩
theorem funs_pt {N : Addr -> Prop} {fs : List Addr} {h h' base : Heap} (p : Pt N fs h h') : ∀ {l : List Env}, (∀ b ∈ frs l, ¬ N b) -> h.FunFrames base l -> h'.FunFrames base l
 | [], _, _ => trivial
 | env :: r, hn, ⟨hk, ⟨L, o, hf, hb, ho, hd⟩, hr⟩ => by
  have hL : L ∈ frs (env :: r) := by unfold frs; rw [List.filterMap_cons, hf]; exact List.mem_cons_self
  obtain ⟨sl, e⟩ := p.slot L o ho (hn L hL)
  exact ⟨hk, ⟨L, _, hf, hb, e, hd⟩, funs_pt p (fun b hb => hn b (by unfold frs; rw [List.filterMap_cons, hf]; exact List.mem_cons_of_mem _ hb)) hr⟩
def XAt (N : Addr -> Prop) (h : Heap) (e : Addr) (C : Addr) (fl : Value) : Prop :=
 ∃ oe vs T oT ts, h.get? e = some oe /\ (oe.cls = .ref C /\ oe.dict = none) /\ oe.data = .fields vs /\ vs[1]? = some (.ref T) /\ N T /\ T ≠ e /\ h.get? T = some oT /\ oT.data = .fields ts /\ ts[3]? = some fl
theorem mf_cls (o : Obj) (f : Array Value -> Array Value) : (o.mapFields f).cls = o.cls /\ (o.mapFields f).dict = o.dict := by
 obtain ⟨c, d, dt, sl⟩ := o
 cases dt <;> exact ⟨rfl, rfl⟩
section
variable {M : Model} {A : Around} {E : Value -> Shared -> Prop} {s : Shared} {N : Addr -> Prop} {base : Heap} {env : Env} {outer : List Env} {L e C : Addr} {Q : Unit -> Shared -> Prop}
theorem xe_entry {oe : Obj} {vs : Array Value} {head : Value} {hadNext : Bool} (hfr : A.frames = some (env :: outer)) (hl : s.heap.FunFrames base (env :: outer)) (hf : env.frame = some L)
  (hNf : ∀ b ∈ frs (env :: outer), ¬ N b) (hNn : ∀ b, s.heap.objs.size <= b -> N b) (hNe : N e) (he : s.heap.get? e = some oe) (hc : oe.cls = .ref C /\ oe.dict = none) (hd : oe.data = .fields vs) (hsz : 1 < vs.size)
  (h : ∀ h', Pt N (frs (env :: outer)) s.heap h' -> XAt N h' e C (rawInt L) -> Q () { s with heap := h' }) :
  wpAny M A (do let a <- frameOf env; let pl <- entryPlaceOf L hadNext; let b <- EntryCells.newEntry head a .none (rawInt L) .none pl; setField (.ref e) 1 b) Q E s := by
 have hef : e ∉ frs (env :: outer) := fun z => hNf e z hNe
 refine wpAny_bind (wpAny_frameOf_fun hfr hl hf fun h1 hs1 => ?_)
 refine wpAny_bind (wpAny_entryPlaceOf fun pl hpl => ?_)
 unfold EntryCells.newEntry newFields
 refine wpAny_bind (wpAny_newObj_type ?_ (hpl.sizeOk5 _ _ _ _ _))
 have he1 : h1.get? e = some oe := (hs1.2.1 e hef).trans he
 have hz1 : h1.objs.size = s.heap.objs.size := hs1.1
 generalize hot : ({ cls := .type "traceback", dict := none, data := .fields ([head, .ref L, .none, rawInt L, .none] ++ (if pl.isEmpty then List.replicate 6 Value.none else pl)).toArray } : Obj) = ot
 have hotd : ot.data = .fields ([head, .ref L, .none, rawInt L, .none] ++ (if pl.isEmpty then List.replicate 6 Value.none else pl)).toArray := by rw [<- hot]
 have he2 := Heap.get?_push_of_some (h := h1) ot he1
 refine wpAny_setField he2 hd hsz (h _ ?_ ?_)
 ·have hTe : h1.objs.size ≠ e := Nat.ne_of_gt (Heap.lt_size he1)
  refine ⟨fun b o eb nb fb => ?_, fun b o eb nb => ?_, ?_⟩
  ·have hb : b ≠ e := fun z => nb (z ▸ hNe)
   rw [Heap.get?_update_other _ _ (Ne.symm hb)]
   exact Heap.get?_push_of_some _ ((hs1.2.1 b fb).trans eb)
  ·have hb : b ≠ e := fun z => nb (z ▸ hNe)
   obtain ⟨sl, q⟩ := hs1.2.2 b o eb
   exact ⟨sl, by rw [Heap.get?_update_other _ _ (Ne.symm hb)]; exact Heap.get?_push_of_some _ q⟩
  ·rw [Heap.size_after_update, Heap.size_push, hz1]; exact Nat.le_succ _
 ·have hTe : h1.objs.size ≠ e := Nat.ne_of_gt (Heap.lt_size he1)
  have hd3 := Obj.data_mapFields hd (·.setIfInBounds 1 (Value.ref h1.objs.size))
  have he3 := Heap.get?_update_self (Obj.mapFields (·.setIfInBounds 1 (Value.ref h1.objs.size))) he2 (Obj.isFreed_of_fields hd3)
  have hT3 := (Heap.get?_update_other (h1.push ot) (Obj.mapFields (·.setIfInBounds 1 (Value.ref h1.objs.size))) (Ne.symm hTe)).trans (Heap.get?_push_size h1 (Obj.isFreed_of_fields hotd))
  refine ⟨_, _, h1.objs.size, _, _, he3, ⟨(mf_cls _ _).1.trans hc.1, (mf_cls _ _).2.trans hc.2⟩, hd3, by simp [hsz], hNn _ (by rw [hz1]; exact Nat.le_refl _), hTe, hT3, hotd, ?_⟩
  first | (simp; done) | (rcases hpl with rfl | ⟨_, _, _, _, _, _, _, rfl⟩ <;> simp)
theorem xe_first {oe : Obj} {vs : Array Value} (hfr : A.frames = some (env :: outer)) (hl : s.heap.FunFrames base (env :: outer)) (hf : env.frame = some L)
  (hNf : ∀ b ∈ frs (env :: outer), ¬ N b) (hNn : ∀ b, s.heap.objs.size <= b -> N b) (hNe : N e) (he : s.heap.get? e = some oe) (hc : oe.cls = .ref C /\ oe.dict = none) (hd : oe.data = .fields vs) (h1 : vs[1]? = some .none)
  (h : ∀ h', Pt N (frs (env :: outer)) s.heap h' -> XAt N h' e C (rawInt L) -> Q () { s with heap := h' }) : wpAny M A (noteFrame (.ref e) env) Q E s := by
 unfold noteFrame
 simp only [hf]
 refine wpAny_bind (wpAny_field he hd h1 ?_)
 rw [if_neg (by decide)]
 exact xe_entry hfr hl hf hNf hNn hNe he hc hd (Array.getElem?_eq_some_iff.mp h1).1 h
theorem xe_next (hfr : A.frames = some (env :: outer)) (hl : s.heap.FunFrames base (env :: outer)) (hf : env.frame = some L)
  (hNf : ∀ b ∈ frs (env :: outer), ¬ N b) (hNn : ∀ b, s.heap.objs.size <= b -> N b) (hNe : N e) (x : XAt N s.heap e C .none)
  (h : ∀ h', Pt N (frs (env :: outer)) s.heap h' -> XAt N h' e C (rawInt L) -> Q () { s with heap := h' }) : wpAny M A (noteFrame (.ref e) env) Q E s := by
 obtain ⟨oe, vs, T, oT, ts, he, hc, hd, h1, hNT, hTe, hT, hdT, h3⟩ := x
 unfold noteFrame
 simp only [hf]
 refine wpAny_bind (wpAny_field he hd h1 ?_)
 rw [if_pos (show (Value.ref T != Value.none) = true from by simp)]
 refine wpAny_bind (wpAny_field hT hdT h3 ?_)
 rw [if_neg (show ¬ ((Value.none == rawInt L) = true) from by simp [rawInt])]
 refine wpAny_bind (wpAny_setField hT hdT (Array.getElem?_eq_some_iff.mp h3).1 ?_)
 have other : ∀ b, b ≠ T -> (s.heap.update T (Obj.mapFields (·.setIfInBounds 3 Value.none))).get? b = s.heap.get? b := fun b hb => Heap.get?_update_other _ _ (Ne.symm hb)
 have hsz : (s.heap.update T (Obj.mapFields (·.setIfInBounds 3 Value.none))).objs.size = s.heap.objs.size := Heap.size_after_update ..
 have p1 : Pt N (frs (env :: outer)) s.heap (s.heap.update T (Obj.mapFields (·.setIfInBounds 3 Value.none))) :=
  ⟨fun b o eb nb _ => (other b fun z => nb (z ▸ hNT)).trans eb, fun b o eb nb => ⟨o.slots, (other b fun z => nb (z ▸ hNT)).trans eb⟩, Nat.le_of_eq hsz.symm⟩
 refine xe_entry (s := { s with heap := s.heap.update T (Obj.mapFields (·.setIfInBounds 3 Value.none)) }) (base := base) hfr (funs_pt p1 hNf hl) hf hNf (fun b hb => hNn b (by rw [<- hsz]; exact hb)) hNe ((other e (Ne.symm hTe)).trans he) hc hd (Array.getElem?_eq_some_iff.mp h1).1 fun h' p2 x2 => ?_
 exact h h' (p1.trans p2) x2
theorem xe_land {fl : Value} {fs : List Addr} (x : XAt N s.heap e C fl) (hNe : N e) (h : ∀ h', Pt N fs s.heap h' -> XAt N h' e C .none -> Q () { s with heap := h' }) : wpAny M A (setFlight (.ref e) none) Q E s := by
 obtain ⟨oe, vs, T, oT, ts, he, hc, hd, h1, hNT, hTe, hT, hdT, h3⟩ := x
 have hsz3 : 3 < ts.size := (Array.getElem?_eq_some_iff.mp h3).1
 have other : ∀ b, b ≠ T -> (s.heap.update T (Obj.mapFields (·.setIfInBounds 3 ((none : Option Addr).elim Value.none fun f => rawInt f)))).get? b = s.heap.get? b :=
  fun b hb => Heap.get?_update_other _ _ (Ne.symm hb)
 unfold setFlight
 refine wpAny_bind (wpAny_field he hd h1 ?_)
 rw [if_pos (show (Value.ref T != Value.none) = true from by simp)]
 refine wpAny_setField hT hdT hsz3 (h _ ⟨fun b o eb nb _ => (other b fun z => nb (z ▸ hNT)).trans eb, fun b o eb nb => ⟨o.slots, (other b fun z => nb (z ▸ hNT)).trans eb⟩, Nat.le_of_eq (Heap.size_after_update ..).symm⟩ ?_)
 exact ⟨oe, vs, T, _, _, (other e (Ne.symm hTe)).trans he, hc, hd, h1, hNT, hTe, Heap.get?_update_self _ hT (Obj.isFreed_of_fields (Obj.data_mapFields hdT _)), Obj.data_mapFields hdT _, by simp [hsz3]⟩
end
end L2
end
section
set_option Elab.async false
set_option linter.all false
set_option maxRecDepth 100000
namespace L2
open PySem PySem.Spec PyProof.Rows
theorem ObjOk.some {P : Program} {w : World} {H : Hp} {h : Heap} {a : Addr} {o : HO} (x : ObjOk P w H h a o) : ∃ u, h.get? a = Option.some u := by
 cases o with
 | lst xs => obtain ⟨_, _, _, _, e⟩ := x; exact ⟨_, e⟩
 | tup xs => obtain ⟨_, _, _, o, e, _⟩ := x; exact ⟨_, e⟩
 | dK kvs => obtain ⟨_, _, _, _, o, _, _, e, _⟩ := x; exact ⟨_, e⟩
 | dT kvs => obtain ⟨_, _, _, _, o, _, _, e, _⟩ := x; exact ⟨_, e⟩
 | set S n => obtain ⟨o, _, _, _, e, _⟩ := x; exact ⟨_, e⟩
 | ins C dx fs => obtain ⟨_, _, _, e, _⟩ := x; exact ⟨_, e⟩
 | own y => obtain ⟨_, e⟩ := x; exact ⟨_, e⟩
 | xd fs => obtain ⟨_, ⟨_, _, _, e, _⟩, _⟩ := x; exact ⟨_, e⟩
 | rng lo hi => obtain ⟨_, _, _, e⟩ := x; exact ⟨_, e⟩
 | frz ob u => obtain ⟨e, _⟩ := x; exact ⟨_, e⟩
 | tbl ps => exact ⟨_, (show h.get? a = Option.some _ from x)⟩
 | met f y => exact ⟨_, (show h.get? a = Option.some _ from x)⟩
 | ext φ => obtain ⟨_, ⟨_, e⟩, _⟩ := x; exact ⟨_, e⟩
def Nw (h : Heap) (H : Hp) : Addr -> Prop := fun b => h.get? b = none /\ H b = none
theorem XAt.mono {N N' : Addr -> Prop} {h : Heap} {e C : Addr} {fl : Value} (x : XAt N h e C fl) (k : ∀ b, N b -> N' b) : XAt N' h e C fl := by
 obtain ⟨oe, vs, T, oT, ts, he, hc, hd, h1, hNT, r⟩ := x
 exact ⟨oe, vs, T, oT, ts, he, hc, hd, h1, k T hNT, r⟩
theorem Nw.fresh {P : Program} {w : World} {h h' : Heap} {H : Hp} (hok : HOk P w H h') (k : ∀ b o, h.get? b = some o -> ∃ o', h'.get? b = some o') {b : Addr} (hb : h'.objs.size <= b) : Nw h H b := by
 refine ⟨?_, hok.fresh hb⟩
 cases q : h.get? b with
 | none => rfl
 | some o =>
  obtain ⟨o', e⟩ := k b o q
  exact absurd (Nat.lt_of_lt_of_le (Heap.lt_size e) hb) (Nat.lt_irrefl _)
def CXr (P : Program) (w : World) : CXT := fun outer H s E e s' => ∃ (ea C : Addr) (H' : Hp), e = .ref ea /\ s'.os = s.os /\ AllBare s'.gens /\ Un (frs outer) [] H H' s.heap s'.heap /\ HOk P w H' s'.heap /\ Nw s.heap H' ea /\ XAt (Nw s.heap H') s'.heap ea C .none /\ E (.ref C) none H'
def RaisesOk (X : Cx) (C : Addr) (E : XK) : Prop := ∀ (pins : List (Addr × Obj)) (σ : St) (H : Hp) (s : Shared) (h' : Heap) (e : Addr) (vs : List Value), Inv X pins σ H s -> Heap.MadeExcOf s.heap h' e (.ref C) vs -> E (.ref C) none H -> X.xe (.ref e) { s with heap := h' }
theorem un_pt {N : Addr -> Prop} {fs gs : List Addr} {H H1 : Hp} {h h1 h2 : Heap} (u : Un fs [] H H1 h h1) (p : Pt N gs h1 h2) (hN : ∀ b o, h.get? b = some o -> ¬ N b) (hg : ∀ b o, h.get? b = some o -> b ∈ gs -> b ∈ fs) : Un fs [] H H1 h h2 where
 keep := fun b o q n hb hx => p.same b o (u.keep b o q n hb hx) (hN b o q) fun z => hb (hg b o q z)
 slot := fun b o q n hb hx => by
  obtain ⟨sl, e⟩ := u.slot b o q n hb hx
  obtain ⟨sl', e'⟩ := p.slot b _ e (hN b o q)
  exact ⟨sl', e'⟩
 free := u.free
 there := fun b o q hx => by
  obtain ⟨o', e⟩ := u.there b o q hx
  obtain ⟨sl', e'⟩ := p.slot b _ e (hN b o q)
  exact ⟨_, e'⟩
 tups := u.tups
 frzs := u.frzs
 tbls := u.tbls
theorem hok_pt {P : Program} {w : World} {N : Addr -> Prop} {gs : List Addr} {H : Hp} {h h' : Heap} (hok : HOk P w H h) (p : Pt N gs h h') (hN : ∀ b, N b -> H b = none) (hg : ∀ b ∈ gs, H b = none) : HOk P w H h' := fun a o e => by
 have tr : ∀ b x u, H b = some x -> h.get? b = some u -> h'.get? b = some u := fun b x u q e1 => p.same b u e1 (fun z => by rw [hN b z] at q; cases q) fun z => by rw [hg b z] at q; cases q
 refine (hok a o e).stay (fun b u hb q => ?_) (fun _ q => q) fun _ _ q => q
 rcases hb with rfl | hb
 ·exact tr b o u e q
 ·exact tr b _ u hb q
theorem raises_cxOf {P : Program} {w : World} {K : PySem.W.Frag} {mg : Str -> Option Value} {base : Heap} {N : List Str} {qual : Str} {scope : Scope} {f : Addr} {cd : Value} {A : Around} {outer : List Env} {s : Shared} {H : Hp} {E : XK} {C : Addr} :
  RaisesOk (cxOf (CXr P w) P w K mg base N qual scope f cd A outer s H E) C E := by
 intro pins σ H1 s1 h' e vs I hx hE
 have hst := I.stack
 have hfree := I.stkFree
 have hfr := I.ok.frames
 have hun : Un (frs outer) [] H H1 s.heap s1.heap := I.base
 have hok : HOk P w H1 s1.heap := I.hok
 have hlt : s.heap.objs.size <= s1.heap.objs.size := I.sz
 change s1.heap.FunFrames base (envOfC qual scope s.heap.objs.size f cd :: outer) at hst
 change ∀ b ∈ frs (envOfC qual scope s.heap.objs.size f cd :: outer), H1 b = none at hfree
 change (A.deeper (envOfC qual scope s.heap.objs.size f cd)).frames = some (envOfC qual scope s.heap.objs.size f cd :: outer) at hfr
 generalize henv : envOfC qual scope s.heap.objs.size f cd = env at hst hfree hfr
 show wpAny (model P w) (A.deeper (envOfC qual scope s.heap.objs.size f cd)) (leaving (envOfC qual scope s.heap.objs.size f cd) (.ref e)) (fun _ s'' => CXr P w outer H s E (.ref e) s'') (fun e' s'' => CXr P w outer H s E e' s'') { s1 with heap := h' }
 have hf : env.frame = some s.heap.objs.size := by rw [<- henv]; rfl
 rw [henv]
 obtain ⟨t, he, _, _⟩ := hx.there
 have hNf : ∀ b ∈ frs (env :: outer), ¬ Nw s1.heap H1 b := fun b hb z => by
  obtain ⟨_, o, ho, _⟩ := hst.mem hb
  rw [z.1] at ho; cases ho
 have hok' : HOk P w H1 h' := hok.kept hx.keeps
 have hNn : ∀ b, h'.objs.size <= b -> Nw s1.heap H1 b := fun b hb => Nw.fresh hok' (fun c o q => ⟨o, hx.keeps c o q⟩) hb
 have hNe : Nw s1.heap H1 e := by
  refine ⟨hx.new, ?_⟩
  cases q : H1 e with
  | none => rfl
  | some u =>
   obtain ⟨v, r⟩ := ObjOk.some (hok e u q)
   rw [hx.new] at r; cases r
 have hun' : Un (frs outer) [] H H1 s.heap h' := hun.trans (Un.kept hx.keeps)
 have hold : ∀ b o, s.heap.get? b = some o -> ¬ Nw s1.heap H1 b := fun b o q z => by
  obtain ⟨o', r⟩ := hun.there b o q (by simp)
  rw [z.1] at r; cases r
 have hmono : ∀ b, Nw s1.heap H1 b -> Nw s.heap H1 b := fun b z => ⟨by
  cases q : s.heap.get? b with
  | none => rfl
  | some o => exact absurd z (hold b o q), z.2⟩
 have hl' : h'.FunFrames base (env :: outer) := hst.of_keeps fun b o q _ => ⟨o, hx.keeps b o q, rfl⟩
 unfold leaving
 refine wpAny_bind (xe_first (s := { s1 with heap := h' }) (base := base) (N := Nw s1.heap H1) (C := C) hfr hl' hf hNf hNn hNe he ⟨rfl, rfl⟩ rfl rfl fun h2 p1 x1 => ?_)
 refine xe_land (fs := frs (env :: outer)) x1 hNe fun h3 p2 x2 => ?_
 have p := p1.trans p2
 refine ⟨e, C, H1, rfl, I.os, I.bare, un_pt hun' p hold (fun b o q z => ?_), hok_pt hok' p (fun b z => z.2) hfree, hmono e hNe, x2.mono hmono, hE⟩
 unfold frs at z
 rw [List.filterMap_cons, hf] at z
 rcases List.mem_cons.mp z with z | z
 ·exact absurd (Heap.lt_size q) (by rw [z]; exact Nat.lt_irrefl _)
 ·exact z
theorem exc_of_in {K : PySem.W.Frag} {h : Heap} {C : Addr} {bmB : List Value} {newId : String} (X : K.In h) (q : PySem.W.excIn K C bmB newId = true) :
  ∃ bm N nm q bs hdct sn sub ab col dd k0 k1 k2 k3 k5 mN, h.get? C = some (excClassObj nm q C N bs bm hdct sn sub ab col dd k0 k1 k2 k3 k5 newId) /\ h.Ns N mN /\ mN "__init__" = none /\ OwnTail h bmB bm := by
 unfold PySem.W.excIn at q
 split at q
 ·rename_i dd cd sl ho
  split at q
  ·rename_i C' bm k0 k1 k2 k3 n k5 hm hs
   simp only [Bool.and_eq_true, beq_iff_eq, Bool.not_eq_true'] at q
   obtain ⟨⟨⟨⟨⟨rfl, rfl⟩, hdel⟩, ht⟩, hok⟩, hni⟩ := q
   obtain ⟨nm, bs, mro, ns, qn, hd, sn, sub, ab, col, del⟩ := cd
   dsimp only at hm hdel hok hni
   subst hm hdel
   have hsl : sl = #[k0, k1, k2, k3, some (.builtin n), k5] := by
    obtain ⟨l⟩ := sl
    simp only at hs
    rw [hs]
   subst hsl
   exact ⟨bm, ns, nm, qn, bs, hd, sn, sub, ab, col, dd, k0, k1, k2, k3, k5, _, X _ _ ho, .of_isNs (PySem.W.isNs_of_in X hok), PySem.W.nsMap_none_of_in X hok hni, PySem.W.tail_of_in X ht⟩
  ·cases q
 ·cases q
def tRaise (C : Addr) (E : XK) (ta : TA) : TS := fun _ σ H => ta σ H fun vs H1 => vs.length <= sizeLine /\ E (.ref C) none H1
theorem ps_raise {X : Cx} {C : Addr} {E : XK} {x : Str} {np cpos pos : Pos} {e₀ : Expr} {rest : List Expr} {ta : TA} {B newId initId : String} {bm : List Value} (ha : PA X (e₀ :: rest) ta) (hR : RaisesOk X C E)
  (hg : Gl X x) (hm : X.mg x = some (.ref C)) (hq : PySem.W.excIn X.K C bm newId = true) (FB : ExcBaseFacts B newId initId bm) (hh : X.A.handled = none)
  (hplain : (backTo cpos (starEach rest X.env)).any (·.1) = false := by rfl) (hd : (x == ("__debug__" : Str)) = false := by decide)
  (he : starEach (e₀ :: rest) X.env = (false, eval e₀ X.env) :: starEach rest X.env := by rfl) : PS X (.Raise (some (.Call (.Name x np) (e₀ :: rest) [] cpos)) none pos) (tRaise C E ta) := by
 intro pins s σ H D I h
 obtain ⟨tl, N, nm, q, bs, hdct, sn, sub, ab, col, dd, k0, k1, k2, k3, k5, mN, hC, hN, hni, T⟩ := exc_of_in I.ok.mod.kin hq
 refine wpAny_Raise_call_subT (C := C) (nm := nm) (q := q) (N := N) (bs := bs) (bm := tl) (hdct := hdct) (sn := sn) (sub := sub) (ab := ab) (col := col) (dd := dd) (k0 := k0) (k1 := k1) (k2 := k2) (k3 := k3) (k5 := k5)
  FB (mN := mN) (T.hasType FB.hasBase) hh (by rw [he]; show (false || (backTo cpos (starEach rest X.env)).any (·.1)) = false; rw [hplain]; rfl) hni (ld_glob I hg hm ⟨rfl, ?_⟩ hd)
 have hz := ha cpos pins s σ H _ I h
 rw [he] at hz ⊢
 refine Calls.evalArgs_plain (wpAny_mono hz (fun us s2 ⟨vs, H2, I2, r, z, hE⟩ => ⟨rfl, by rw [<- r.length]; exact z, I2.bk _ _ hC, hN.keeps I2.bk, T.keeps I2.bk, fun h' e hx => hR pins σ H2 s2 h' e us I2 hx hE⟩) fun _ _ y => y)
theorem exc_match {M : Model} {A : Around} {E : Value -> Shared -> Prop} {s : Shared} {K : PySem.W.Frag} {e C D : Addr} {oe : Obj} {Q : Bool -> Shared -> Prop} (X : K.In s.heap) (he : s.heap.get? e = some oe) (hc : oe.cls = .ref C)
  (h1 : PySem.W.typeIn K (.ref D) = some (.type "type")) (h2 : (PySem.W.clsIn K D).isSome = true) (h3 : PySem.W.subIn K (.ref C) (.ref D) = some true) (h4 : PySem.W.subIn K (.ref D) (.type "BaseException") = some true)
  (h : Q true s) : wpAny M A (excMatches (.ref e) (.ref D)) Q E s := by
 have L1 := PySem.W.looks_typeIn (M := M) X h1
 have L2 : PySem.W.Looks M s.heap (isSubtype (.type "type") (.type "tuple")) false := PySem.W.Looks.of_pure PySem.tc_notTuple
 have L3 := PySem.W.looks_subIn (M := M) X h3
 have L4 := PySem.W.looks_subIn (M := M) X h4
 have L5 : PySem.W.Looks M s.heap (isType (.ref D)) true := by
  unfold PySem.W.clsIn at h2
  split at h2
  ·rename_i c' d' cd' sl' ho
   intro A' Q' E' s' k q
   unfold isType loadHead
   exact wpAny_bind (wpAny_loadPart (k _ _ (X _ _ ho)) (wpAny_pure q))
  ·cases h2
 have L6 : PySem.W.Looks M s.heap (typeOf (.ref e)) (.ref C) := hc ▸ (PySem.W.Looks.ld he).andThen .now
 unfold excMatches isInstance isExcClass
 refine wpAny_bind (wpAny_bind (L1.at (L2.at ?_)))
 simp only [Bool.false_eq_true, if_false]
 refine wpAny_bind (wpAny_pure ?_)
 simp only [List.forIn_cons, List.forIn_nil]
 refine wpAny_bind (wpAny_bind (wpAny_bind (wpAny_bind (L5.at ?_))))
 simp only [if_true]
 refine L4.at ?_
 simp only [Bool.not_true, Bool.false_eq_true, if_false]
 refine wpAny_pure (wpAny_pure ?_)
 refine wpAny_bind (L6.at (wpAny_bind (wpAny_bind (wpAny_bind (L3.at ?_)))))
 simp only [if_true]
 exact wpAny_pure (wpAny_pure (wpAny_pure h))
end L2
end
section
set_option Elab.async false
set_option linter.all false
set_option maxRecDepth 100000
namespace L2
open PySem PySem.Spec PyProof.Rows
abbrev Cx.within (X : Cx) (ea : Addr) (oe : Obj) : Cx := { X with A := X.A.mark (some (.ref ea)), calm := false, pn := X.pn ++ [(ea, oe)], xe := fun _ _ => False }
theorem Inv.within {X : Cx} {pins : List (Addr × Obj)} {σ : St} {H : Hp} {s : Shared} {ea : Addr} {oe : Obj} (I : Inv X pins σ H s) (h : s.heap.get? ea = some oe /\ H ea = none /\ ea ≠ X.env.locals /\ ea ∉ X.fs /\ ∀ v, oe.data ≠ .cell v) :
  Inv (X.within ea oe) pins σ H s := by
 have ok := I.ok
 refine ⟨⟨ok.mod, ok.kind, ok.glob, ok.blt, ok.above, ok.inj, ok.has, ok.cab, (fun z => nomatch z), ok.frames, ok.stk, ok.exf, ok.bs, ok.bsz, ok.noex, ok.exfs, ok.funs, ok.frf⟩, I.os, I.bare, I.base, I.loc, I.cell, I.free, I.freeC, fun p hp => ?_, I.hok, I.len⟩
 rcases List.mem_append.mp hp with hp | hp
 ·rcases List.mem_append.mp hp with hp | hp
  ·exact I.pin p (List.mem_append_left _ hp)
  ·obtain rfl := List.mem_singleton.mp hp
   exact h
 ·exact I.pin p (List.mem_append_right _ hp)
theorem Inv.without {X : Cx} {pins : List (Addr × Obj)} {σ : St} {H : Hp} {s : Shared} {ea : Addr} {oe : Obj} (ok : X.Ok) (I : Inv (X.within ea oe) pins σ H s) : Inv X pins σ H s :=
 ⟨ok, I.os, I.bare, I.base, I.loc, I.cell, I.free, I.freeC, fun p hp => (List.mem_append.mp hp).elim (fun z => I.pin p (List.mem_append_left _ (List.mem_append_left _ z))) (fun z => I.pin p (List.mem_append_right _ z)), I.hok, I.len⟩
structure Got1 (X : Cx) (pins : List (Addr × Obj)) (σ : St) (H H' : Hp) (s : Shared) (ea C : Addr) (fl : Value) (s3 : Shared) : Prop where
 os : s3.os = s.os
 bare : AllBare s3.gens
 un : Un (frs X.stack) [] H H' s.heap s3.heap
 hok : HOk X.prog X.w H' s3.heap
 new : Nw s.heap H' ea
 xat : XAt (Nw s.heap H') s3.heap ea C fl
section
variable {X : Cx} {pins : List (Addr × Obj)} {σ : St} {H H' : Hp} {s s3 : Shared} {ea C : Addr} {fl : Value}
theorem Got1.inv (g : Got1 X pins σ H H' s ea C fl s3) (I : Inv X pins σ H s) : Inv X pins σ H' s3 := I.call' g.os g.un g.hok g.bare fun _ z => nomatch z
theorem Got1.old {b : Addr} {o : Obj} (e : s.heap.get? b = some o) : ¬ Nw s.heap H' b := fun z => by rw [z.1] at e; cases e
theorem Got1.fresh (g : Got1 X pins σ H H' s ea C fl s3) : ∀ b, s3.heap.objs.size <= b -> Nw s.heap H' b := fun b hb => Nw.fresh g.hok (fun c o q => g.un.there c o q (by simp)) hb
theorem Got1.step {fl' : Value} {h4 : Heap} (g : Got1 X pins σ H H' s ea C fl s3) (I : Inv X pins σ H s) (p : Pt (Nw s.heap H') (frs X.stack) s3.heap h4) (x : XAt (Nw s.heap H') h4 ea C fl') : Got1 X pins σ H H' s ea C fl' { s3 with heap := h4 } :=
 ⟨g.os, g.bare, un_pt g.un p (fun b o e => Got1.old e) fun _ _ _ z => z, hok_pt g.hok p (fun b z => z.2) (g.inv I).stkFree, g.new, x⟩
theorem Got1.pin (g : Got1 X pins σ H H' s ea C fl s3) (I : Inv X pins σ H s) : ∃ oe, (s3.heap.get? ea = some oe /\ H' ea = none /\ ea ≠ X.env.locals /\ ea ∉ X.fs /\ ∀ v, oe.data ≠ .cell v) /\ oe.cls = .ref C /\ oe.dict = none /\ PySem.W.notCls oe = true := by
 obtain ⟨oe, vs, T, oT, ts, he, hc, hd, _⟩ := g.xat
 refine ⟨oe, ⟨he, g.new.2, fun z => ?_, fun z => ?_, fun v => by rw [hd]; intro q; cases q⟩, hc.1, hc.2, ?_⟩
 ·obtain ⟨m, ⟨o, _, _, ho, _⟩, _⟩ := I.loc
  have := g.new.1
  rw [z, ho] at this; cases this
 ·obtain ⟨_, o, ho, _⟩ := I.funs.mem z
  have := g.new.1
  rw [ho] at this; cases this
 ·obtain ⟨c, d, dt, sl⟩ := oe
  cases hd
  rfl
theorem Got1.lands {M : Model} {A : Around} {E0 : Value -> Shared -> Prop} {R : Shared -> Prop} (g : Got1 X pins σ H H' s ea C .none s3) (I : Inv X pins σ H s) (hst : X.stack = X.env :: X.outer /\ X.env.frame = some X.env.locals) (hA : A.frames = some X.stack)
  (h : ∀ s4, Got1 X pins σ H H' s ea C .none s4 -> R s4) :
  wpAny M A (noteFrame (.ref ea) X.env) (fun _ s₂ => wpAny M A (setFlight (.ref ea) none) (fun _ s₃ => R s₃) E0 s₂) E0 s3 := by
 have J := g.inv I
 have hl := J.stack
 have hNf : ∀ b ∈ frs X.stack, ¬ Nw s.heap H' b := fun b hb => by
  obtain ⟨_, o, ho, _⟩ := I.stack.mem hb
  exact Got1.old ho
 rw [hst.1] at hA hl
 refine xe_next (base := X.base) (N := Nw s.heap H') (C := C) hA hl hst.2 (by rw [<- hst.1]; exact hNf) g.fresh g.new g.xat fun h4 p x => ?_
 rw [<- hst.1] at p
 have g4 := g.step I p x
 refine xe_land (fs := frs X.stack) x g.new fun h5 p5 x5 => ?_
 exact h _ (g4.step I p5 x5)
theorem Got1.again {M : Model} {A : Around} {E0 : Value -> Shared -> Prop} {R : Shared -> Prop} (g : Got1 X pins σ H H' s ea C .none s3) (I : Inv X pins σ H s)
  (h : ∀ s4, Got1 X pins σ H H' s ea C .none s4 -> R s4) : wpAny M A (setFlight (.ref ea) none) (fun _ s₃ => R s₃) E0 s3 :=
 xe_land (fs := frs X.stack) g.xat g.new fun h5 p5 x5 => h _ (g.step I p5 x5)
end
structure Catches (K : PySem.W.Frag) (C D : Addr) : Prop where
 ty : PySem.W.typeIn K (.ref D) = some (.type "type")
 cl : (PySem.W.clsIn K D).isSome = true
 sub : PySem.W.subIn K (.ref C) (.ref D) = some true
 exc : PySem.W.subIn K (.ref D) (.type "BaseException") = some true
section
variable {X : Cx} {k : Nat} {f C D' : Addr} {fd : FuncData} {ps : List Str} {sp : Sp} {x cn : Str} {p pos p1 np hp p2 : Pos} {e : Expr} {es : List Expr} {t : TA} {b₀ : Stmt} {suite : List Stmt} {ts : Addr -> TS}
theorem try_call {pins : List (Addr × Obj)} {s : Shared} {σ : St} {H : Hp} {Q : Flow -> Shared -> Prop} {E0 : Value -> Shared -> Prop} {E : XK} (F : FnOk X.prog X.w X.K X.mg X.base (CXr X.prog X.w) k f fd ps sp) (hr : Room k X.A) (hg : Gl X x) (hm : X.mg x = some (.ref f)) (hk : PySem.W.keepIn X.K (.ref f) = true)
  (hb : Binds X.K fd ps []) (ha : PA X.nox (e :: es) t) (I : Inv X pins σ H s) (h : t σ H fun vs H1 => sp vs H1 (fun _ _ => False) E)
  (hE : ∀ s1 H1 H2 s3 ea C, Inv X pins σ H1 s1 -> Got1 X pins σ H1 H2 s1 ea C .none s3 -> E (.ref C) none H2 -> E0 (.ref ea) s3)
  (hdb : (x == ("__debug__" : Str)) = false := by decide) (he : starEach (e :: es) X.env = (false, eval e X.env) :: starEach es X.env := by rfl) (hpl : (backTo pos (starEach es X.env)).any (·.1) = false := by rfl)
  (hs : swapsWith (.Call (.Name x p) (e :: es) [] pos) none p1.line X.env = pure false := by rfl) :
  wpAny (model X.prog X.w) X.A (execs [.Expr (.Call (.Name x p) (e :: es) [] pos) p1] X.env) Q E0 s := by
 refine wpAny_execs_cons (wpAny_Expr_any ?_ I.quiet hs)
 refine wpAny_Call_Name_kw (ld_glob I hg hm ?_ hdb)
 refine PySem.W.callWith_K (h₀ := X.base) I.ok.mod.kin hk (wpAny_mono (ha pos pins s σ H _ (I.wish _) h) (fun us s1 ⟨vs, H1, I1, r, q⟩ => ⟨I1.kIn, ?_⟩) fun _ _ z => False.elim z) he hpl
 have J : Inv X pins σ H1 s1 := I1.unwish
 have hl : us.length = ps.length := by rw [<- r.length]; exact F.len _ _ _ _ q
 refine wpAny_call (codeAny_mono (F.run X.A X.stack s1 H1 ⟨us, []⟩ us vs _ E hr J.env0 (by have := hb s1 us J.kIn (by simpa using hl); simpa using this) r q) fun rr s' hq => ?_)
 cases rr with
 | error ee =>
  obtain ⟨ea, C, H2, rfl, h1, h2, h3, h4, h5, h6, h7⟩ := hq
  exact hE s1 H1 H2 s' ea C J ⟨h1, h2, h3, h4, h5, h6⟩ h7
 | ok fl =>
  cases fl with
  | ret u => obtain ⟨_, _, _, _, _, _, _, z⟩ := hq; exact z.elim
  | next => exact False.elim hq
  | brk => exact False.elim hq
  | cont => exact False.elim hq
end
end L2
end
section
set_option Elab.async false
set_option linter.all false
set_option maxRecDepth 100000
namespace L2
open PySem PySem.Spec PyProof.Rows PySem.W
section
variable {prog : Program} {w : World} {A : Around} {E : Value -> Shared -> Prop} {s : Shared} {K : Frag} {x C : Addr} {ox : Obj}
structure XCls (K : Frag) (C : Addr) : Prop where
 ga : findIn K (.ref C) "__getattribute__" = some (some (.builtin "BaseException.__getattribute__"))
 gt : findIn K (.ref C) "__getattr__" = some none
 cl : (clsIn K C).isSome = true
 ha : findIn K (.ref C) "__class__" = some (some (.builtin "object.__class__"))
 hn : specialIn K (.builtin "object.__class__") "__get__" = some (some (.builtin "getset_descriptor.__get__"))
 ht : takesIn K (.builtin "object.__class__") = some true
 ob : mroIn K C (.type "object") = some true
 be : mroIn K C (.type "BaseException") = some true
theorem XCls.cf (c : XCls K C) : findObj K C none "__class__" = some (.bind (.builtin "getset_descriptor.__get__") (.builtin "object.__class__")) := by
 obtain ⟨cd, hc⟩ := Option.isSome_iff_exists.mp c.cl
 unfold findObj
 rw [hc, Option.bind_some, c.ha, Option.bind_some]
 simp [c.hn, c.ht]
theorem xc_entry {tk : Tok} {Q : Fin -> Shared -> Prop} (c : XCls K C) (X : K.In s.heap) (I : InstAt s.heap x ox C none) (h : Q (.done (.ret (.ref C))) s) :
  wpAny (model prog w) A (Builtin.«object.__getattribute__» ⟨[.ref x, .str "__class__" tk], []⟩) Q E s := by
 obtain ⟨hh, g, d, t, os⟩ := s
 have L0 := I.type (M := model prog w)
 have L1 := looks_find (M := model prog w) X I c.cf
 unfold Builtin.«object.__getattribute__»
 refine wpAny_bind (wpAny_pure ?_)
 refine wpAny_bind (wpAny_pure ?_)
 refine wpAny_bind (L0.at (wpAny_bind (L1.at ?_)))
 show wpAny _ _ (Builtin.ObjectAttr.bindTo (.builtin "getset_descriptor.__get__") (.builtin "object.__class__") (.ref x) (.ref C)) _ _ _
 unfold Builtin.ObjectAttr.bindTo
 refine wpAny_bind (wpAny_holding (wpAny_call (class_get X I c.ob ?_)))
 exact wpAny_pure h
theorem xc_check {M : Model} {nv : Value} {Q : Unit -> Shared -> Prop} (c : XCls K C) (X : K.In s.heap) (I : InstAt s.heap x ox C none) (h : Q () s) :
  wpAny M A (checkBuiltinCall "BaseException.__getattribute__" ⟨[.ref x, nv], []⟩) Q E s := by
 obtain ⟨hh, g, d, t, os⟩ := s
 have L0 := I.type (M := M)
 have L1 := looks_mroIn (M := M) X c.be
 have hk : builtinKind "BaseException.__getattribute__" = some .slot := by decide +kernel
 have hsplit : splitId "BaseException.__getattribute__" = some ("BaseException", "__getattribute__") := by decide +kernel
 have ha := F.args_bexc_ga (.ref x) nv
 simp only [checkBuiltinCall, hk, hsplit]
 refine wpAny_bind ?_
 unfold isInstance
 refine wpAny_bind (L0.at (L1.at ?_))
 repeat (first | assumption | wp_step)
theorem xc_class {Q : Option Value -> Shared -> Prop} (c : XCls K C) (X : K.In s.heap) (I : InstAt s.heap x ox C none) (h : Q (some (.ref C)) { s with toks := s.toks + 1 }) :
  wpAny (model prog w) A (getAttr? (.ref x) "__class__") Q E s := by
 obtain ⟨hh, g, d, t, os⟩ := s
 have L0 := I.type (M := model prog w)
 have L1 := looks_findIn (M := model prog w) X c.ga
 have L2 := looks_findIn (M := model prog w) X c.gt
 have fb := F.excAttr_ValueError.ga.bind (.ref x)
 unfold getAttr? getAttrBy? getAttrBy
 refine wpAny_bind (wpAny_mkText (wpAny_bind (wpAny_attempt (wpAny_holding (wpAny_bind (L0.at (wpAny_bind (L1.at ?_))))))))
 have hx2 : (onTheHeap (Value.ref C) && Value.builtin "BaseException.__getattribute__" == Value.builtin "object.__getattribute__") = false := by
  rw [show (Value.builtin "BaseException.__getattribute__" == Value.builtin "object.__getattribute__") = false by decide +kernel, Bool.and_false]
 simp only [hx2, Bool.false_eq_true, if_false]
 unfold getAttrByItsOwn hookBefore callGetattribute boundAndCalled
 rw [if_pos (show onTheHeap (Value.ref C) = true from rfl)]
 refine wpAny_bind (L2.at ?_)
 refine wpAny_bind (wpAny_attempt (wpAny_holding ?_))
 simp only [Bool.false_and, Bool.false_eq_true, if_false]
 rw [fb]
 refine wpAny_bind (wpAny_pure (wpAny_call (codeAny_call_builtin F.excAttr_ValueError.ga.plain F.entry_bexc_ga (xc_check c X I (xc_entry c X I ?_)))))
 exact handed_on rfl (wpAny_pure h)
theorem kitx_exc (c : XCls K C) : KitX K (.ref x) (.ref C) (fun h => InstAt h x ox C none) where
 ty := fun _ _ _ I => I.type
 it := fun _ _ X _ => by
  have hcl := c.cl
  unfold clsIn at hcl
  split at hcl
  ·rename_i c' d' cd' sl' ho
   intro A' Q' E' s' k q
   unfold isType loadHead
   exact wpAny_bind (wpAny_loadPart (k _ _ (X _ _ ho)) (wpAny_pure q))
  ·cases hcl
 ne := fun h tp dd its n sl X htp => by
  refine Bool.eq_false_iff.mpr fun q => ?_
  have e : C = tp := Value.ref.inj (beq_iff_eq.mp q)
  subst e
  have hcl := c.cl
  unfold clsIn at hcl
  split at hcl
  ·rename_i c' d' cd' sl' ho
   have z := (X _ _ ho).symm.trans htp
   cases z
  ·cases hcl
 ca := fun X I k => xc_class c X I k
end
theorem refs_val : ∀ {cs : List Addr} {its : List Value}, Vals (cs.map V.ref) its -> its = cs.map Value.ref
 | [], _, .nil => rfl
 | a :: r, _, .cons z zs => by rw [refs_val zs, show _ = Value.ref a from z]; rfl
section
variable {X : Cx} {ea C : Addr} {oe : Obj}
theorem call_isiX {T : String} {b : Bool} (hp : (ea, oe) ∈ X.pn) (hc : oe.cls = .ref C) (hd : oe.dict = none) (hn : notCls oe = true) (c : XCls X.K C) (hk : kitOne X.K (.ref C) (.type T) = some b) :
  CallR X (.builtin "isinstance") (fun xs H Q => xs = [.ref ea, .ty T] /\ Q (.bl b) H) := by
 intro pins s σ H Q us vs I rv h
 obtain ⟨rfl, q⟩ := h
 cases rv with
 | cons r1 rv =>
  cases rv with
  | cons r2 rv =>
   cases rv
   cases (show _ = Value.ref ea from r1)
   cases (show _ = Value.type T from r2)
   have hpin := I.pin (ea, oe) (List.mem_append_left _ hp)
   refine kia_one (kitx_exc c) I.kIn ⟨hpin.1, hc, hn, by rw [hd]; trivial⟩ hk (fun z => nomatch z) fun tk => ⟨.bl b, H, I.tok _, rfl, q⟩
theorem call_isiXT {b : Bool} {cs : List Addr} (hp : (ea, oe) ∈ X.pn) (hc : oe.cls = .ref C) (hd : oe.dict = none) (hn : notCls oe = true) (c : XCls X.K C) (hk : kitAny X.K (.ref C) (cs.map .ref) = some b) :
  CallR X (.builtin "isinstance") (fun xs H Q => ∃ tp, xs = [.ref ea, .ref tp] /\ H tp = some (.tup (cs.map .ref)) /\ Q (.bl b) H) := by
 intro pins s σ H Q us vs I rv h
 obtain ⟨tp, rfl, ht, q⟩ := h
 cases rv with
 | cons r1 rv =>
  cases rv with
  | cons r2 rv =>
   cases rv
   cases (show _ = Value.ref ea from r1)
   cases (show _ = Value.ref tp from r2)
   have hpin := I.pin (ea, oe) (List.mem_append_left _ hp)
   obtain ⟨_, its, rits, o, h1, h2, n, h3⟩ := (show ObjOk X.prog X.w H s.heap tp (.tup (cs.map .ref)) from I.hok tp _ ht)
   have hits : its = cs.map Value.ref := refs_val rits
   subst hits
   obtain ⟨oc, od, odt, osl⟩ := o
   cases h2
   cases h3
   exact kia_tup (kitx_exc c) I.kIn ⟨hpin.1, hc, hn, by rw [hd]; trivial⟩ h1 hk (fun z => nomatch z) fun tk => ⟨.bl b, H, I.tok _, rfl, q⟩
end
end L2
end
section
set_option Elab.async false
set_option linter.all false
set_option maxRecDepth 100000
namespace L2
open PySem PySem.Spec PyProof.Rows
theorem Inv.gone {X : Cx} {pins : List (Addr × Obj)} {σ : St} {H : Hp} {s : Shared} {h' : Heap} {m' : Str -> Option Value} {t' : Nat} (I : Inv X pins σ H s) (hn : h'.Ns X.env.locals m') (hs : Heap.SameBut X.env.locals s.heap h') :
  Inv X pins (σ.map fun _ => none) H { s with heap := h', toks := t' } := by
 refine ⟨I.ok, I.os, I.bare, ⟨fun b o e n hb hx => ?_, fun b o e n hb hx => ?_, I.base.free, fun b o e hx => ?_, I.base.tups, I.base.frzs, I.base.tbls⟩, ⟨_, hn, fun j y v' e1 e2 e3 => ?_⟩, fun y c e => ?_, I.free, I.freeC, fun p hp => ?_, fun b ob e => ?_, by simpa using I.len⟩
 ·exact (hs.2 b (Nat.ne_of_lt (Nat.lt_of_lt_of_le (Heap.lt_size e) I.ok.above))).trans (I.base.keep b o e n hb hx)
 ·obtain ⟨sl, e1⟩ := I.base.slot b o e n hb hx
  exact ⟨sl, (hs.2 b (Nat.ne_of_lt (Nat.lt_of_lt_of_le (Heap.lt_size e) I.ok.above))).trans e1⟩
 ·obtain ⟨o', e1⟩ := I.base.there b o e hx
  exact ⟨o', (hs.2 b (Nat.ne_of_lt (Nat.lt_of_lt_of_le (Heap.lt_size e) I.ok.above))).trans e1⟩
 ·rw [List.getElem?_map] at e2
  cases q : σ[j]? with
  | none => rw [q] at e2; cases e2
  | some z => rw [q] at e2; cases e2
 ·obtain ⟨w', z⟩ := I.cell y c e
  exact ⟨w', z.sameBut hs (I.cne y c e)⟩
 ·obtain ⟨e, n, ne, nf, d⟩ := I.pin p hp
  exact ⟨(hs.2 p.1 ne).trans e, n, ne, nf, d⟩
 ·refine (I.hok b ob e).stay (fun c w' hc q => (hs.2 c ?_).trans q) (fun _ q => q) fun _ _ q => q
  rintro rfl
  rcases hc with rfl | hc
  ·rw [I.free] at e; cases e
  ·rw [I.free] at hc; cases hc
def tTryAs (sp : Sp) (ta : TA) (C : Addr) (i : Nat) (ts : Addr -> TS) : TS := fun D σ H => ta σ H fun vs H1 => sp vs H1 (fun _ _ => False) (fun c _ H2 => c = .ref C /\ ∀ ea, H2 ea = none -> ts ea { nx := fun _ _ => False, rt := D.rt } (σ.set i (some (.ref ea))) H2)
section
variable {X : Cx} {k i : Nat} {f C D' : Addr} {fd : FuncData} {ps : List Str} {sp : Sp} {x cn n : Str} {p pos p1 np hp p2 : Pos} {e : Expr} {es : List Expr} {t : TA} {b₀ : Stmt} {suite : List Stmt} {ts : Addr -> TS}
theorem ps_tryAs (F : FnOk X.prog X.w X.K X.mg X.base (CXr X.prog X.w) k f fd ps sp) (hr : Room k X.A) (hg : Gl X x) (hm : X.mg x = some (.ref f)) (hk : PySem.W.keepIn X.K (.ref f) = true)
  (hb : Binds X.K fd ps []) (ha : PA X.nox (e :: es) t) (hst : X.stack = X.env :: X.outer /\ X.env.frame = some X.env.locals) (hgD : Gl X cn) (hmD : X.mg cn = some (.ref D')) (hC : Catches X.K C D')
  (hN : X.N.Nodup) (hi : X.N[i]? = some n) (hl : X.env.scope.names.lookup n = some .local)
  (hsu : ∀ ea oe, oe.cls = .ref C -> oe.dict = none -> PySem.W.notCls oe = true -> PSs (X.within ea oe) (b₀ :: suite) (ts ea))
  (hdb : (x == ("__debug__" : Str)) = false := by decide) (hdc : (cn == ("__debug__" : Str)) = false := by decide) (he : starEach (e :: es) X.env = (false, eval e X.env) :: starEach es X.env := by rfl) (hpl : (backTo pos (starEach es X.env)).any (·.1) = false := by rfl)
  (hs : swapsWith (.Call (.Name x p) (e :: es) [] pos) none p1.line X.env = pure false := by rfl) :
  PS X (.Try [.Expr (.Call (.Name x p) (e :: es) [] pos) p1] [.ExceptHandler (some (.Name cn np)) (some n) (b₀ :: suite) hp] [] [] p2) (tTryAs sp t C i ts) := by
 intro pins s σ H D I h
 refine wpAny_Try_except (try_call F hr hg hm hk hb ha I h (fun s1 H1 H2 s3 ea C' J g hE => ?_) hdb he hpl hs)
 obtain ⟨hc, hts⟩ := hE
 cases hc
 refine g.lands J hst J.ok.frames fun s4 g4 => ?_
 obtain ⟨oe, hpin, hcls, hdict, hnc⟩ := g4.pin J
 have W4 := (g4.inv J).within hpin
 refine wpAny_handleBy_cons (codeAny_handlers_test ?_) (by intro q; cases q)
 refine ld_glob (X := X.within ea oe) W4 hgD hmD ?_ hdc
 refine exc_match W4.kIn hpin.1 hcls hC.ty hC.cl hC.sub hC.exc ?_
 simp only [if_true]
 refine codeAny_handlers_suite_as (g4.again J fun s5 g5 => ?_)
 obtain ⟨oe5, hpin5, hcls5, hdict5, hnc5⟩ := g5.pin J
 refine store_ok (X := X.within ea oe5) (v := .ref ea) ((g5.inv J).within hpin5) hN hi (.inl hl) rfl (fun s6 I6 => ?_) (.inr hl)
 refine wpAny_mono (hsu ea oe5 hcls5 hdict5 hnc5 pins s6 (σ.set i (some (.ref ea))) H2 _ I6 (hts ea hpin5.2.1)) (fun fl s7 q => ?_) fun _ _ z => False.elim z
 cases fl with
 | next => obtain ⟨_, _, _, z⟩ := q; exact z.elim
 | brk => obtain ⟨_, _, _, z⟩ := q; exact z.elim
 | cont => obtain ⟨_, _, _, z⟩ := q; exact z.elim
 | ret u =>
  obtain ⟨v, σ', H', I7, rv, z⟩ := q
  have J7 := I7.without J.ok
  obtain ⟨m, hm7, _⟩ := id J7.loc
  refine wpAny_nameGoes hl hm7 (by rw [J.ok.kind]; rfl) fun h' m' hn' hs' => ?_
  exact ⟨v, _, H', J7.gone hn' hs', rv, z⟩
end
end L2
end
section
set_option Elab.async false
set_option linter.all false
set_option maxRecDepth 100000
namespace L2
open PySem PySem.Spec PyProof.Rows
theorem pss_false {X : Cx} {ss : List Stmt} : PSs X ss (fun _ _ _ => False) := fun _ _ _ _ _ _ h => h.elim
theorem Fun.okX {P : Program} {w : World} {K : PySem.W.Frag} {mg : Str -> Option Value} {base : Heap} {x qual : Str} {st : Stmt} {f : Addr} {fd : FuncData} {N ps : List Str} {k : Nat} {sp : Sp} (F : Fun K x qual st f fd) (S : FnScope N ps (defScope st)) (len : ∀ vs H Q E, sp vs H Q E -> vs.length = ps.length)
  (hbody : ∀ (cdv : Value) (A : Around) (outer : List Env) (s : Shared) (H : Hp) (vs : List V) (Q : VK) (E : XK), Room k (A.deeper (envOfC qual (defScope st) s.heap.objs.size f cdv)) -> sp vs H Q E ->
   ∃ t, PSs (cxOf (CXr P w) P w K mg base N qual (defScope st) f cdv A outer s H E) (defBody st) t /\ t { nx := fun _ H' => Q .non H', rt := Q } (start N vs) H) : FnOk P w K mg base (CXr P w) (k + 1) f fd ps sp := by
 obtain ⟨oc, od, kV, doc, pm, an, cdv, ct, osl, rfl, lk, hcd⟩ := F.ex
 exact fn_of lk hcd S len fun A outer s H vs Q E hr hsp => hbody cdv A outer s H vs Q E hr hsp
end L2
namespace DL
open PySem L2
instance {i j : Int} : Decidable (CDivM i j) := by unfold CDivM Bd; infer_instance
end DL
end
section
set_option Elab.async false
set_option linter.all false
set_option maxRecDepth 100000
namespace L2
open PySem PySem.Spec PyProof.Rows
end L2
namespace DL
open PySem L2 PyProof.Rows
variable {K : KW}
end DL
end
section
set_option Elab.async false
set_option linter.all false
set_option maxRecDepth 100000
namespace DL
open PySem L2
variable {K : KW}
section
variable {S S' : Addr -> Prop} {H : Hp}
mutual
theorem Dp.is (k : TSm (hid S H) (hid S' H)) : ∀ {d : PyData} {v : V} {F : List Addr}, (∀ a ∈ F, ¬ S' a) -> Dp K S H d v F -> Is K (hid S' H) d v
 | .none, _, _, _, h => h.1
 | .bool _, _, _, _, h => h.1
 | .int _, _, _, _, h => h.1
 | .str _, _, _, _, h => h.1
 | .tuple _, _, _, f, ⟨a, vs, e, h, l⟩ => ⟨a, vs, e, k.tup h, DpL.is k f l⟩
 | .list _, _, _, f, ⟨a, vs, G, e, e2, h, l⟩ => ⟨a, vs, e, hid_iff.mpr ⟨f a (by rw [e2]; exact List.mem_cons_self ..), h⟩, DpL.is k (fun b hb => f b (by rw [e2]; exact List.mem_cons_of_mem _ hb)) l⟩
theorem DpL.is (k : TSm (hid S H) (hid S' H)) : ∀ {ds : List PyData} {vs : List V} {F : List Addr}, (∀ a ∈ F, ¬ S' a) -> DpL K S H ds vs F -> IsL K (hid S' H) ds vs
 | [], _, _, _, h => h.1
 | _ :: _, _, _, f, ⟨x, xs, F1, F2, e, e2, h, l⟩ => ⟨x, xs, e, Dp.is k (fun b hb => f b (by rw [e2]; exact List.mem_append_left _ hb)) h, DpL.is k (fun b hb => f b (by rw [e2]; exact List.mem_append_right _ hb)) l⟩
end
mutual
theorem Dp.lst : ∀ {d : PyData} {v : V} {F : List Addr}, Dp K S H d v F -> ∀ a ∈ F, ∃ vs, H a = some (.lst vs)
 | .none, _, _, h, a, q => by rw [h.2] at q; cases q
 | .bool _, _, _, h, a, q => by rw [h.2] at q; cases q
 | .int _, _, _, h, a, q => by rw [h.2] at q; cases q
 | .str _, _, _, h, a, q => by rw [h.2] at q; cases q
 | .tuple _, _, _, ⟨_, vs, e, h, l⟩, a, q => DpL.lst l a q
 | .list _, _, _, ⟨b, vs, G, e, e2, h, l⟩, a, q => by
  rw [e2] at q
  rcases List.mem_cons.mp q with rfl | q
  ·exact ⟨vs, h⟩
  ·exact DpL.lst l a q
theorem DpL.lst : ∀ {ds : List PyData} {vs : List V} {F : List Addr}, DpL K S H ds vs F -> ∀ a ∈ F, ∃ vs, H a = some (.lst vs)
 | [], _, _, h, a, q => by rw [h.2] at q; cases q
 | _ :: _, _, _, ⟨x, xs, F1, F2, e, e2, h, l⟩, a, q => by
  rw [e2] at q
  rcases List.mem_append.mp q with q | q
  ·exact Dp.lst h a q
  ·exact DpL.lst l a q
end
mutual
theorem Dp.fix : ∀ {d : PyData} {v : V}, fixD d = true -> Is K (hid S H) d v -> Dp K S H d v []
 | .none, _, _, h => ⟨h, rfl⟩
 | .bool _, _, _, h => ⟨h, rfl⟩
 | .int _, _, _, h => ⟨h, rfl⟩
 | .str _, _, _, h => ⟨h, rfl⟩
 | .tuple _, _, f, ⟨a, vs, e, h, l⟩ => ⟨a, vs, e, h, DpL.fix f l⟩
 | .list _, _, f, _ => absurd f Bool.false_ne_true
 | .dict _, _, f, _ => absurd f Bool.false_ne_true
theorem DpL.fix : ∀ {ds : List PyData} {vs : List V}, fixDs ds = true -> IsL K (hid S H) ds vs -> DpL K S H ds vs []
 | [], _, _, h => ⟨h, rfl⟩
 | _ :: _, _, f, ⟨x, xs, e, h, l⟩ => ⟨x, xs, [], [], e, rfl, Dp.fix (by rw [fixDs, Bool.and_eq_true] at f; exact f.1) h, DpL.fix (by rw [fixDs, Bool.and_eq_true] at f; exact f.2) l⟩
end
mutual
theorem Dp.unfix : ∀ {d : PyData} {v : V} {F : List Addr}, fixD d = true -> Dp K S H d v F -> F = [] /\ Is K (hid S H) d v
 | .none, _, _, _, h => ⟨h.2, h.1⟩
 | .bool _, _, _, _, h => ⟨h.2, h.1⟩
 | .int _, _, _, _, h => ⟨h.2, h.1⟩
 | .str _, _, _, _, h => ⟨h.2, h.1⟩
 | .tuple _, _, _, f, ⟨a, vs, e, h, l⟩ => let ⟨z, y⟩ := DpL.unfix f l; ⟨z, a, vs, e, h, y⟩
 | .list _, _, _, f, _ => absurd f Bool.false_ne_true
 | .dict _, _, _, f, _ => absurd f Bool.false_ne_true
theorem DpL.unfix : ∀ {ds : List PyData} {vs : List V} {F : List Addr}, fixDs ds = true -> DpL K S H ds vs F -> F = [] /\ IsL K (hid S H) ds vs
 | [], _, _, _, h => ⟨h.2, h.1⟩
 | _ :: _, _, _, f, ⟨x, xs, F1, F2, e, e2, h, l⟩ => by
  rw [fixDs, Bool.and_eq_true] at f
  obtain ⟨rfl, y1⟩ := Dp.unfix f.1 h
  obtain ⟨rfl, y2⟩ := DpL.unfix f.2 l
  exact ⟨e2, x, xs, e, y1, y2⟩
end
theorem DpL.length : ∀ {ds : List PyData} {vs : List V} {F : List Addr}, DpL K S H ds vs F -> vs.length = ds.length
 | [], _, _, h => by rw [h.1]; rfl
 | _ :: _, _, _, ⟨x, xs, F1, F2, e, e2, h, l⟩ => by rw [e, List.length_cons, List.length_cons, DpL.length l]
theorem DpL.at : ∀ {ds : List PyData} {vs : List V} {F : List Addr} {y : Nat} {d : PyData}, DpL K S H ds vs F -> F.Nodup -> ds[y]? = some d -> ∃ x Fy, vs[y]? = some x /\ (∀ a ∈ Fy, a ∈ F) /\ Fy.Nodup /\ Dp K S H d x Fy /\
  ∀ (H' : Hp) (d' : PyData), TSm (hid S H) (hid S H') -> (∀ a ∈ F, a ∉ Fy -> H' a = H a) -> Dp K S H' d' x Fy -> DpL K S H' (ds.set y d') vs F
 | [], _, _, _, _, _, _, e => by simp at e
 | d0 :: ds, _, _, 0, d, ⟨x, xs, F1, F2, e, e2, h, l⟩, hn, q => by
  subst e e2
  simp at q
  subst q
  obtain ⟨n1, n2, n3⟩ := List.nodup_append.mp hn
  refine ⟨x, F1, rfl, fun a ha => List.mem_append_left _ ha, n1, h, fun H' d' ts hh hd => ⟨x, xs, F1, F2, rfl, rfl, hd, l.mono ts fun a ha => hh a (List.mem_append_right _ ha) fun z => n3 a z a ha rfl⟩⟩
 | d0 :: ds, _, _, y + 1, d, ⟨x, xs, F1, F2, e, e2, h, l⟩, hn, q => by
  subst e e2
  obtain ⟨n1, n2, n3⟩ := List.nodup_append.mp hn
  obtain ⟨x', Fy, a1, a2, a3, a4, a5⟩ := DpL.at (y := y) (d := d) l n2 (by simpa using q)
  refine ⟨x', Fy, by simpa using a1, fun a ha => List.mem_append_right _ (a2 a ha), a3, a4, fun H' d' ts hh hd => ⟨x, xs, F1, F2, rfl, rfl, h.mono ts fun a ha => hh a (List.mem_append_left _ ha) fun z => n3 a ha a (a2 a z) rfl, a5 H' d' ts (fun a ha => hh a (List.mem_append_right _ ha)) hd⟩⟩
end
def mem (F : List Addr) (b : Addr) : Prop := b ∈ F
theorem frzG {S M : Addr -> Prop} {τ : DS} {σ : St} {H : Hp} (r : R K S M τ σ H) {i : Nat} {ds : List PyData} (hi : τ[i]? = some (some (.g (.list ds)))) :
  ∃ v F, σ[i]? = some (some v) /\ Dp K S H (.list ds) v F /\ F.Nodup /\ (∀ a ∈ F, M a) /\ (∀ (j : Nat) (o : Ow) (a : Addr), τ[j]? = some (some o.L) -> σ[j]? = some (some (.ref a)) -> a ∉ F) /\ R K (fun b => S b /\ b ∉ F) (fun b => M b /\ b ∉ F) (τ.set i (some (.d (.list ds)))) σ H := by
 obtain ⟨φ, g⟩ := r.gr
 obtain ⟨⟨v, g1, g2⟩, g3, g4, g5, g6⟩ := g i _ hi
 have g2 : Dp K S H (.list ds) v (φ i) := g2
 refine ⟨v, φ i, g1, g2, g3, g4, g5, ?_⟩
 have hlt : i < τ.length := (List.getElem?_eq_some_iff.mp hi).1
 have ne : ∀ j, j ≠ i -> (τ.set i (some (.d (.list ds))))[j]? = τ[j]? := fun j hj => List.getElem?_set_ne (Ne.symm hj)
 have se : (τ.set i (some (.d (.list ds))))[i]? = some (some (.d (.list ds))) := List.getElem?_set_self hlt
 have k : Same (hid S H) (hid (fun b => S b /\ b ∉ φ i) H) := hid_less fun a z => z.1
 have mn : ∀ (j : Nat) (ys : Ow), (τ.set i (some (.d (.list ds))))[j]? = some (some ys.L) -> j ≠ i /\ τ[j]? = some (some ys.L) := fun j ys e => by
  by_cases hj : j = i
  ·subst hj; rw [se] at e; exact absurd (Option.some.inj (Option.some.inj e)).symm Ow.not_d
  ·rw [ne j hj] at e; exact ⟨hj, e⟩
 have cs : ∀ (j : Nat) (ys : List PyData), (τ.set i (some (.d (.list ds))))[j]? = some (some (.c ys)) -> τ[j]? = some (some (.c ys)) := fun j ys e => by
  by_cases hj : j = i
  ·subst hj; rw [se] at e; cases e
  ·rw [ne j hj] at e; exact e
 refine ⟨by rw [List.length_set]; exact r.len, fun j x e => ?_, fun j ys e => ?_, fun j ys e => let ⟨a, vs, h1, h2, h3⟩ := r.cst j ys (cs j ys e); ⟨a, vs, h1, k.seq h2, h3.mono k⟩, fun j1 j2 ys zs b e1 e2 f1 f2 => ?_, fun a h => ⟨r.sub a h.1, h.2⟩, fun a h => r.ex a h.1, ?_⟩
 ·by_cases hj : j = i
  ·subst hj
   rw [se] at e
   cases e
   exact ⟨v, g1, g2.is (tsS k) fun a ha z => z.2 ha⟩
  ·rw [ne j hj] at e
   obtain ⟨v, h1, h2⟩ := r.dat j x e
   exact ⟨v, h1, h2.mono k⟩
 ·obtain ⟨hj, e⟩ := mn j ys e
  obtain ⟨b, us, h1, h2, h3, h4⟩ := r.mt j ys e
  exact ⟨b, us, h1, ⟨h2, g5 j ys b e h1⟩, h3, h4.mono k⟩
 ·exact r.inj j1 j2 ys zs b (mn _ _ e1).2 (mn _ _ e2).2 f1 f2
 ·refine ⟨φ, fun j x e => ?_⟩
  by_cases hj : j = i
  ·subst hj; rw [se] at e; cases e
  ·rw [ne j hj] at e
   obtain ⟨⟨v', q1, q2⟩, q3, q4, q5, q6⟩ := g j x e
   refine ⟨⟨v', q1, q2.mono (tsS k) fun _ _ => rfl⟩, q3, fun a ha => ⟨q4 a ha, q6 i _ (Ne.symm hj) hi a ha⟩, fun j' o a z1 z2 => q5 j' o a (mn j' o z1).2 z2, fun j' x' hj' z => ?_⟩
   by_cases hj2 : j' = i
   ·subst hj2; rw [se] at z; cases z
   ·rw [ne j' hj2] at z; exact q6 j' x' hj' z
theorem unfrzG {S M : Addr -> Prop} {τ τ1 : DS} {σ : St} {H H3 H4 : Hp} (r : R K S M τ σ H) {i : Nat} {d d' : PyData} {v : V} {F : List Addr} (hi : τ[i]? = some (some (.g d))) (hv : σ[i]? = some (some v)) (hn : F.Nodup) (hM : ∀ a ∈ F, M a)
  (ho : ∀ (j : Nat) (o : Ow) (a : Addr), τ[j]? = some (some o.L) -> σ[j]? = some (some (.ref a)) -> a ∉ F)
  (r1 : R K (fun b => S b /\ b ∉ F) (fun b => M b /\ b ∉ F) τ1 σ H3) (lk : Like (τ.set i (some (.d d))) τ1) (c : Chg (fun b => M b /\ b ∉ F) H H3) (ok : τ1.all okM = true)
  (hl3 : ∀ a ∈ F, ∃ vs, H3 a = some (.lst vs)) (c4 : ∀ b, b ∉ F -> H4 b = H3 b) (hd : Dp K S H4 d' v F) : R K S M (τ1.set i (some (.g d'))) σ H4 := by
 have hlt : i < τ.length := (List.getElem?_eq_some_iff.mp hi).1
 have hl1 : τ1.length = τ.length := by have := lk.1; rw [List.length_set] at this; exact this
 have hlt1 : i < τ1.length := by omega
 have ne : ∀ j, j ≠ i -> (τ1.set i (some (.g d')))[j]? = τ1[j]? := fun j hj => List.getElem?_set_ne (Ne.symm hj)
 have se : (τ1.set i (some (.g d')))[i]? = some (some (.g d')) := List.getElem?_set_self hlt1
 have ne0 : ∀ j, j ≠ i -> (τ.set i (some (.d d)))[j]? = τ[j]? := fun j hj => List.getElem?_set_ne (Ne.symm hj)
 have k : Keep S H S H4 := fun b o h e => ⟨h, by
  have hb : b ∉ F := fun z => h (r.sub b (hM b z))
  rw [c4 b hb]; exact c b o (fun z => h (r.sub b z.1)) e⟩
 have ts : TSm (hid (fun b => S b /\ b ∉ F) H3) (hid S H4) := fun b o e nl ne => by
  obtain ⟨e1, e2⟩ := hid_iff.mp e
  have hb : b ∉ F := fun z => by
   obtain ⟨vs, q⟩ := hl3 b z
   rw [e2] at q; cases q; exact nl _ rfl
  exact hid_iff.mpr ⟨fun z => e1 ⟨z, hb⟩, by rw [c4 b hb]; exact e2⟩
 have own : ∀ (j : Nat) (ys : Ow), (τ1.set i (some (.g d')))[j]? = some (some ys.L) -> j ≠ i /\ τ1[j]? = some (some ys.L) := fun j ys e => by
  by_cases hj : j = i
  ·subst hj; rw [se] at e; exact absurd (Option.some.inj (Option.some.inj e)).symm Ow.not_g
  ·rw [ne j hj] at e; exact ⟨hj, e⟩
 have mm : ∀ (j : Nat) (ys : Ow), j ≠ i -> τ1[j]? = some (some ys.L) -> ∃ zs : Ow, τ[j]? = some (some zs.L) := fun j ys hj e => by
  obtain ⟨zs, q⟩ := (lk.own j).mp ⟨_, e⟩
  rw [ne0 j hj] at q
  exact ⟨zs, q⟩
 have cs : ∀ (j : Nat) (ys : List PyData), (τ1.set i (some (.g d')))[j]? = some (some (.c ys)) -> τ[j]? = some (some (.c ys)) := fun j ys e => by
  by_cases hj : j = i
  ·subst hj; rw [se] at e; cases e
  ·rw [ne j hj] at e
   have := ((lk.2 j).1.2 ys).mp e
   rw [ne0 j hj] at this
   exact this
 refine ⟨by rw [List.length_set]; exact r1.len, fun j x e => ?_, fun j ys e => ?_, fun j ys e => let ⟨a, vs, h1, h2, h3⟩ := r.cst j ys (cs j ys e); ⟨a, vs, h1, k.same.seq h2, h3.mono k.same⟩, fun j1 j2 ys zs b e1 e2 f1 f2 => ?_, r.sub, fun a h => ?_, ?_⟩
 ·by_cases hj : j = i
  ·subst hj; rw [se] at e; cases e
  ·rw [ne j hj] at e
   have := ((lk.2 j).1.1 x).mp e
   rw [ne0 j hj] at this
   obtain ⟨v, h5, h6⟩ := r.dat j x this
   exact ⟨v, h5, h6.mono k.same⟩
 ·obtain ⟨hj, e⟩ := own j ys e
  obtain ⟨b, ws, h5, h6, h7, h8⟩ := r1.mt j ys e
  have fx : okM (some ys.L) = true := List.all_eq_true.mp ok (some ys.L) (List.mem_of_getElem? e)
  exact ⟨b, ws, h5, h6.1, by rw [c4 b h6.2]; exact h7, h8.monoT ts fx⟩
 ·obtain ⟨g1, e1⟩ := own _ _ e1
  obtain ⟨g2, e2⟩ := own _ _ e2
  obtain ⟨_, q1⟩ := mm j1 ys g1 e1
  obtain ⟨_, q2⟩ := mm j2 zs g2 e2
  exact r.inj _ _ _ _ b q1 q2 f1 f2
 ·by_cases e : a ∈ F
  ·obtain ⟨vs, q⟩ := hd.lst a e; exact ⟨_, q⟩
  ·obtain ⟨o, q⟩ := r1.ex a ⟨h, e⟩; exact ⟨o, by rw [c4 a e]; exact q⟩
 ·obtain ⟨φ, g⟩ := r1.gr
  refine ⟨fun j => if j = i then F else φ j, fun j x e => ?_⟩
  have gs : ∀ (j : Nat) (x : PyData), j ≠ i -> (τ1.set i (some (.g d')))[j]? = some (some (.g x)) -> τ1[j]? = some (some (.g x)) := fun j x hj e => by rw [ne j hj] at e; exact e
  by_cases hj : j = i
  ·subst hj
   rw [se] at e; cases e
   simp only [if_true]
   refine ⟨⟨v, hv, DpT.of hd⟩, hn, hM, fun j' o a z1 z2 => ?_, fun j' x' hj' z a ha => ?_⟩
   ·obtain ⟨q1, q2⟩ := own j' o z1
    obtain ⟨zs, q3⟩ := mm j' o q1 q2
    exact ho j' zs a q3 z2
   ·rw [if_neg hj']
    intro hq
    obtain ⟨_, _, q4, _, _⟩ := g j' x' (gs j' x' hj' z)
    exact (q4 a hq).2 ha
  ·dsimp only
   simp only [if_neg hj]
   obtain ⟨⟨v', q1, q2⟩, q3, q4, q5, q6⟩ := g j x (gs j x hj e)
   refine ⟨⟨v', q1, q2.mono ts fun a ha => c4 a (q4 a ha).2⟩, q3, fun a ha => (q4 a ha).1, fun j' o a z1 z2 => q5 j' o a (own j' o z1).2 z2, fun j' x' hj' z a ha => ?_⟩
   by_cases hj2 : j' = i
   ·rw [if_pos hj2]; exact (q4 a ha).2
   ·rw [if_neg hj2]; exact q6 j' x' hj' (gs j' x' hj2 z) a ha
end DL
end
section
set_option Elab.async false
set_option linter.all false
set_option maxRecDepth 100000
namespace DL
open PySem L2
variable {K : KW}
theorem R.hideX {S M : Addr -> Prop} {τ τ1 : DS} {σ : St} {H H' : Hp} (r : R K S M τ σ H) {X : List Addr} (r1 : R K S M τ1 σ H') (c : Chg M H H') (lk : Like τ τ1) (ok : ∀ (j : Nat) (o : Ow), τ1[j]? = some (some o.L) -> okM (some o.L) = true) (hX : ∀ a ∈ X, H a = Option.none) (h' : ∀ a ∈ X, ∃ vs, H' a = some (.lst vs)) :
  R K (fun b => S b \/ b ∈ X) M τ1 σ H' := by
 have k : Keep S H (fun b => S b \/ b ∈ X) H' := fun b o hn e => ⟨fun z => z.elim hn (fun z => by rw [hX b z] at e; cases e), c b o (fun z => hn (r.sub b z)) e⟩
 have ts : TSm (hid S H') (hid (fun b => S b \/ b ∈ X) H') := tsame_hid fun b z => z.elim .inl fun z => let ⟨vs, e⟩ := h' b z; .inr ⟨_, e, .inl ⟨vs, rfl⟩⟩
 refine ⟨r1.len, fun j x e => ?_, fun j x e => ?_, fun j x e => ?_, r1.inj, fun b h => .inl (r.sub b h), fun b h => ?_, r1.gr.to (fun i d e => ⟨e, rfl⟩) (fun j o a e q => .inl ⟨o, e, q⟩) (fun a h _ => ⟨h, rfl⟩) ts⟩
 ·obtain ⟨v, h1, h2⟩ := r.dat j x (((lk.2 j).1.1 x).mp e)
  exact ⟨v, h1, h2.mono k.same⟩
 ·obtain ⟨b, vs, h1, h2, h3, h4⟩ := r1.mt j x e
  exact ⟨b, vs, h1, h2, h3, h4.monoT ts (ok j x e)⟩
 ·obtain ⟨b, vs, h1, h2, h3⟩ := r.cst j x (((lk.2 j).1.2 x).mp e)
  exact ⟨b, vs, h1, k.same.seq h2, h3.mono k.same⟩
 ·rcases h with h | h
  ·exact r1.ex b h
  ·obtain ⟨vs, e⟩ := h' b h
   exact ⟨_, e⟩
theorem RF.hideG {F : Frm} {S M : Addr -> Prop} {τ τ1 : DS} {σ : St} {H H' : Hp} (f : RF K F S M τ σ H) {X : List Addr} (r1 : R K S M τ1 σ H') (c : Chg M H H') (lk : Like τ τ1) (ok : τ1.all okM = true) (hX : ∀ a ∈ X, H a = none) (h' : ∀ a ∈ X, ∃ vs, H' a = some (.lst vs)) :
  RF K F (fun b => S b \/ b ∈ X) M τ1 σ H' := by
 have f1 := f.step r1 c lk
 exact ⟨f.r.hideX r1 c lk (fun j o e => List.all_eq_true.mp ok (some o.L) (List.mem_of_getElem? e)) hX h', fun b h => .inl (f.sS b h), f1.old, f.new, f.fm, f.fs, f.fsub, fun b h => h.elim (f.snew b) fun z => .inr (f.hnone (hX b z)), f.par, f1.pm, f.fma⟩
theorem RF.newG {F : Frm} {S M : Addr -> Prop} {τ : DS} {σ : St} {H : Hp} (f : RF K F S M τ σ H) {X : List Addr} {i : Nat} {d : PyData} {v : V} (hi : i < τ.length) (hnp : F.ar.length <= i) (hS : ∀ a ∈ X, S a) (hM : ∀ a ∈ X, ¬ M a) (hF : ∀ a ∈ X, F.H a = none) (hn : X.Nodup)
  (h : DpT K S H d v X) : RF K F S (fun b => M b \/ b ∈ X) (τ.set i (some (.g d))) (σ.set i (some v)) H := by
 have hs : i < σ.length := by rw [f.r.len]; exact hi
 have ne : ∀ j, j ≠ i -> (τ.set i (some (.g d)))[j]? = τ[j]? := fun j hj => List.getElem?_set_ne (Ne.symm hj)
 have ne' : ∀ j, j ≠ i -> (σ.set i (some v))[j]? = σ[j]? := fun j hj => List.getElem?_set_ne (Ne.symm hj)
 have se : (τ.set i (some (.g d)))[i]? = some (some (.g d)) := List.getElem?_set_self hi
 have se' : (σ.set i (some v))[i]? = some (some v) := List.getElem?_set_self hs
 have own : ∀ (j : Nat) (ys : Ow), (τ.set i (some (.g d)))[j]? = some (some ys.L) -> j ≠ i /\ τ[j]? = some (some ys.L) := fun j ys e => by
  by_cases hj : j = i
  ·subst hj; rw [se] at e; exact absurd (Option.some.inj (Option.some.inj e)).symm Ow.not_g
  ·rw [ne j hj] at e; exact ⟨hj, e⟩
 have jn : ∀ {j : Nat} {v : V}, F.ar[j]? = some (some v) -> j ≠ i := fun {j v} e z => by
  subst z
  have := (List.getElem?_eq_some_iff.mp e).1
  omega
 refine ⟨⟨by rw [List.length_set, List.length_set]; exact f.r.len, fun j x e => ?_, fun j ys e => ?_, fun j ys e => ?_, fun j1 j2 ys zs b e1 e2 f1 f2 => ?_, fun b h => h.elim (f.r.sub b) (hS b), f.r.ex, ?_⟩, f.sS, f.old, fun b h => h.elim (f.new b) fun z => .inr (hF b z), fun b h => .inl (f.fm b h), f.fs, f.fsub, f.snew, fun j v e => ?_, fun j v e => ?_, f.fma⟩
 ·by_cases hj : j = i
  ·subst hj; rw [se] at e; cases e
  ·rw [ne j hj] at e
   rw [ne' j hj]
   exact f.r.dat j x e
 ·obtain ⟨hj, e⟩ := own j ys e
  rw [ne' j hj]
  obtain ⟨b, us, h1, h2, h3, h4⟩ := f.r.mt j ys e
  exact ⟨b, us, h1, .inl h2, h3, h4⟩
 ·by_cases hj : j = i
  ·subst hj; rw [se] at e; cases e
  ·rw [ne j hj] at e
   rw [ne' j hj]
   exact f.r.cst j ys e
 ·obtain ⟨h1, e1⟩ := own _ _ e1
  obtain ⟨h2, e2⟩ := own _ _ e2
  rw [ne' j1 h1] at f1
  rw [ne' j2 h2] at f2
  exact f.r.inj _ _ _ _ b e1 e2 f1 f2
 ·obtain ⟨φ, g⟩ := f.r.gr
  refine ⟨fun j => if j = i then X else φ j, fun j x e => ?_⟩
  by_cases hj : j = i
  ·subst hj
   rw [se] at e; cases e
   simp only [if_true]
   refine ⟨⟨v, se', h⟩, hn, fun a ha => .inr ha, fun j' o a z1 z2 ha => ?_, fun j' x' hj' z a ha => ?_⟩
   ·obtain ⟨q1, q2⟩ := own j' o z1
    rw [ne' j' q1] at z2
    obtain ⟨b, us, h1, h2, _⟩ := f.r.mt j' o q2
    rw [z2] at h1; cases h1
    exact hM a ha h2
   ·rw [if_neg hj']
    intro hq
    rw [ne j' hj'] at z
    obtain ⟨_, _, q4, _, _⟩ := g j' x' z
    exact hM a ha (q4 a hq)
  ·dsimp only
   simp only [if_neg hj]
   rw [ne j hj] at e
   obtain ⟨⟨v', q1, q2⟩, q3, q4, q5, q6⟩ := g j x e
   refine ⟨⟨v', by rw [ne' j hj]; exact q1, q2⟩, q3, fun a ha => .inl (q4 a ha), fun j' o a z1 z2 => ?_, fun j' x' hj' z a ha => ?_⟩
   ·obtain ⟨w1, w2⟩ := own j' o z1
    rw [ne' j' w1] at z2
    exact q5 j' o a w2 z2
   ·by_cases hj2 : j' = i
    ·rw [if_pos hj2]; exact fun hq => hM a hq (q4 a ha)
    ·rw [if_neg hj2]
     rw [ne j' hj2] at z
     exact q6 j' x' hj' z a ha
 ·rw [ne' j (jn e)]
  exact f.par j v e
 ·rw [ne j (jn e)]
  exact f.pm j v e
structure EG (K : KW) (t : TE) (f : DX) : Prop where
 like : ∀ τ d τ', f τ = some (d, τ') -> Like τ τ'
 isl : ∀ τ d τ', f τ = some (d, τ') -> ∃ ds, d = .list ds
 run : ∀ S M τ σ H (Q : VK) d τ', R K S M τ σ H -> f τ = some (d, τ') -> (∀ v H' F, R K S M τ' σ H' -> Chg M H H' -> F.Nodup -> (∀ a ∈ F, H a = none) -> Dp K S H' d v F -> Q v H') -> t σ H Q
def dFx (f : DX) (τ : DS) : Option (PyData × DS) := (f τ).bind fun p => match p.1 with
 | .list ds => if fixDs ds = true then some p else none
 | _ => none
theorem dFx_some {f : DX} {τ τ' : DS} {d : PyData} (e : dFx f τ = some (d, τ')) : ∃ ds, d = .list ds /\ fixDs ds = true /\ f τ = some (.list ds, τ') := by
 unfold dFx at e
 obtain ⟨⟨x, τ1⟩, e1, e⟩ := oB e
 cases x with
 | list ds =>
  have e : (if fixDs ds = true then some (PyData.list ds, τ1) else none) = some (d, τ') := e
  split at e
  ·rename_i h
   cases e
   exact ⟨ds, rfl, h, e1⟩
  ·cases e
 | _ => cases e
theorem eg_fx {t : TE} {f : DX} (h : E K t true f) : EG K t (dFx f) := by
 refine ⟨fun τ d τ' e => ?_, fun τ d τ' e => ?_, ?_⟩
 ·obtain ⟨ds, rfl, _, e1⟩ := dFx_some e; exact h.like _ _ _ e1
 ·obtain ⟨ds, rfl, _⟩ := dFx_some e; exact ⟨ds, rfl⟩
 intro S M τ σ H Q d τ' r e q
 obtain ⟨ds, rfl, fx, e1⟩ := dFx_some e
 refine h.run S M τ σ H Q _ τ' r e1 fun v H' r' c res => ?_
 obtain ⟨o, a, ho, e2, rfl, h1, h2, h3⟩ := res
 obtain rfl := Ow.D_list e2
 obtain ⟨vs, rfl, l⟩ := h3
 exact q _ H' [a] r' c (by simp) (fun b hb => by rw [List.mem_singleton.mp hb]; exact h1) ⟨a, vs, [], rfl, rfl, h2, DpL.fix fx (l.mono (hid_less fun b z => .inl z))⟩
def dSetG (np i : Nat) (e : DX) (τ : DS) : Option Out := (e τ).bind fun p => if np <= i /\ i < p.2.length /\ p.2.all okM = true then some (.nx (p.2.set i (some (.g p.1)))) else none
variable {np : Nat}
theorem b_setG {fr : Bool} {i : Nat} {te : TE} {e : DX} (he : EG K te e) : B K np (tAsg te (gName i)) fr (dSetG np i e) := by
 intro F S M τ σ H D out hnp f ee q
 unfold dSetG at ee
 obtain ⟨⟨x, τ1⟩, e1, ee⟩ := oB ee
 dsimp only at ee
 split at ee
 ·rename_i hi
  cases ee
  refine he.run S M τ σ H _ x τ1 f.r e1 fun v H1 X r1 c1 hn hX hd => ?_
  have lk := he.like _ _ _ e1
  have f1 := f.hideG r1 c1 lk hi.2.2 hX hd.lst
  have ts : TSm (hid S H1) (hid (fun b => S b \/ b ∈ X) H1) := tsame_hid fun b z => z.elim .inl fun z => let ⟨vs, e⟩ := hd.lst b z; .inr ⟨_, e, .inl ⟨vs, rfl⟩⟩
  exact q _ _ _ _ (f1.newG hi.2.1 (Nat.le_trans hnp hi.1) (fun a ha => .inr ha) (fun a ha z => f.r.fresh (hX a ha) (f.r.sub a z)) (fun a ha => f.hnone (hX a ha)) hn (DpT.of (hd.mono ts fun _ _ => rfl))) fun b o hn e => ⟨fun z => z.elim hn (fun z => by rw [hX b z] at e; cases e), c1 b o (fun z => hn (f.r.sub b z)) e⟩
 ·cases ee
end DL
end
section
set_option Elab.async false
set_option linter.all false
set_option maxRecDepth 100000
namespace DL
open PySem L2
variable {K : KW}
end DL
end
section
set_option Elab.async false
set_option linter.all false
set_option maxRecDepth 100000
namespace DL
open PySem L2
variable {K : KW}
end DL
end
section
set_option Elab.async false
set_option linter.all false
set_option maxRecDepth 100000
namespace DL
open PySem L2
end DL
end
section
set_option Elab.async false
set_option linter.all false
set_option maxRecDepth 100000
namespace DL
open PySem L2
variable {K : KW}
def dSlT (f : DX) (lo hi : DO) (τ : DS) : Option (PyData × DS) := (f τ).bind fun p => (lo p.2).bind fun l => (hi l.2).bind fun u => match p.1 with
 | .tuple xs => if HT.sIx xs.length 0 l.1 = 0 /\ HT.sIx xs.length xs.length u.1 = xs.length then none else some (.tuple (cutD xs l.1 u.1), u.2)
 | _ => none
theorem e_slT {fr : Bool} {te : TE} {tl th : TO} {f : DX} {lo hi : DO} (h : E K te fr f) (hl : OO K tl lo) (hh : OO K th hi) : E K (tSl (rSlT K) te tl th) false (dSlT f lo hi) := by
 refine ⟨fun τ d τ' e => ?_, ?_⟩
 ·unfold dSlT at e
  obtain ⟨⟨x, τ1⟩, e1, e⟩ := oB e
  obtain ⟨⟨l, τ2⟩, e2, e⟩ := oB e
  obtain ⟨⟨u, τ3⟩, e3, e⟩ := oB e
  dsimp only at e
  split at e
  ·split at e
   ·cases e
   ·cases e; exact ((h.like _ _ _ e1).trans (hl.like _ _ _ e2)).trans (hh.like _ _ _ e3)
  ·cases e
 intro S M τ σ H Q d τ' r e q
 unfold dSlT at e
 obtain ⟨⟨x, τ1⟩, e1, e⟩ := oB e
 obtain ⟨⟨l, τ2⟩, e2, e⟩ := oB e
 obtain ⟨⟨u, τ3⟩, e3, e⟩ := oB e
 dsimp only at e e2 e3
 cases x with
 | tuple xs =>
  dsimp only at e
  split at e
  ·cases e
  ·rename_i hw
   cases e
   refine h.run S M τ σ H _ _ _ r e1 fun v1 H1 r1 c1 i1 => ?_
   refine hl.run S M τ1 σ H1 _ _ _ r1 e2 fun H2 r2 c2 => ?_
   refine hh.run S M τ2 σ H2 _ _ _ r2 e3 fun H3 r3 c3 => ?_
   have i1' : Is K (hid S H3) (.tuple xs) v1 := ((r.isr i1).mono (c2.keep r1.sub).same).mono (c3.keep r2.sub).same
   obtain ⟨a, vs, rfl, ha, la⟩ := i1'
   refine ⟨a, vs, rfl, Same.tup same_hid ha, by rw [la.length]; exact hw, fun p hp => ?_⟩
   have s := same_new hp (HO.tup (cutV vs l u))
   exact q _ _ (r3.same s) (((c1.trans c2).trans c3).trans (.of s)) ⟨p, _, rfl, SqT.of (hid_iff.mpr ⟨r3.fresh hp, upd_same⟩), (isl_cut la).mono (Same.keep s).same⟩
 | _ => cases e
end DL
end
section
set_option Elab.async false
set_option linter.all false
set_option maxRecDepth 100000
namespace DL
open PySem L2 PyProof.Rows
def getX : List (Str × V) -> Str -> Option V
 | [], _ => none
 | t :: r, k => if t.1 = k then some t.2 else getX r k
def putX (ts : List (Str × V)) (k : Str) (v : V) : List (Str × V) := if ts.any (fun t => decide (t.1 = k)) = true then ts.map (fun t => if t.1 = k then (t.1, v) else t) else ts ++ [(k, v)]
theorem getX_rel {k : Str} : ∀ {ts : List (Str × V)} {vs : List (Key × Value)}, KV (txK ts) vs -> (match getX ts k with
  | some v => ∃ u, valueAt vs (Sum.inr k) = some u /\ RelV v u
  | none => valueAt vs (Sum.inr k) = none)
 | [], vs, h => by cases (show Paired _ [] vs from h); rfl
 | t :: ts, vs, h => by
  cases (show Paired _ ((Sum.inr t.1, t.2) :: txK ts) vs from h) with
  | @cons _ q _ qs h1 h2 =>
   obtain ⟨e1, e2⟩ := h1
   have ih := getX_rel (k := k) (ts := ts) h2
   unfold getX
   by_cases e : t.1 = k
   ·rw [if_pos e]
    have e' : q.1 = Sum.inr k := by rw [<- e1, e]
    exact ⟨q.2, by simp [valueAt, List.find?_cons, e'], e2⟩
   ·rw [if_neg e]
    have e' : ¬ q.1 = Sum.inr k := fun z => e (by have := e1.trans z; exact Sum.inr.inj this)
    have : valueAt (q :: qs) (Sum.inr k) = valueAt qs (Sum.inr k) := by simp [valueAt, List.find?_cons, e']
    rw [this]; exact ih
theorem isSomeX {k : Str} {ts : List (Str × V)} {vs : List (Key × Value)} (h : KV (txK ts) vs) : (valueAt vs (Sum.inr k)).isSome = (getX ts k).isSome := by
 have g := getX_rel (k := k) h
 cases e : getX ts k with
 | none => rw [e] at g; rw [show valueAt vs (Sum.inr k) = none from g]; rfl
 | some v => rw [e] at g; obtain ⟨u, hu, _⟩ := g; rw [hu]; rfl
theorem anyX {k : Str} : ∀ {ts : List (Str × V)} {vs : List (Key × Value)}, KV (txK ts) vs -> (vs.any fun kv => decide (kv.1 = Sum.inr k)) = ts.any fun t => decide (t.1 = k)
 | [], vs, h => by cases (show Paired _ [] vs from h); rfl
 | t :: ts, vs, h => by
  cases (show Paired _ ((Sum.inr t.1, t.2) :: txK ts) vs from h) with
  | @cons _ q _ qs h1 h2 =>
   rw [List.any_cons, List.any_cons, anyX (k := k) (ts := ts) h2, <- h1.1]
   congr 1
   by_cases e : t.1 = k
   ·rw [e]; simp
   ·rw [decide_eq_false e, decide_eq_false (fun z => e (Sum.inr.inj z))]
theorem mapX {k : Str} {v : V} {u : Value} (hv : RelV v u) : ∀ {ts : List (Str × V)} {vs : List (Key × Value)}, KV (txK ts) vs -> KV (txK (ts.map fun t => if t.1 = k then (t.1, v) else t)) (vs.map fun kv => if kv.1 = Sum.inr k then (kv.1, u) else kv)
 | [], vs, h => by cases (show Paired _ [] vs from h); exact .nil
 | t :: ts, vs, h => by
  cases (show Paired _ ((Sum.inr t.1, t.2) :: txK ts) vs from h) with
  | @cons _ q _ qs h1 h2 =>
   refine .cons ?_ (mapX hv (ts := ts) h2)
   obtain ⟨e1, e2⟩ := h1
   dsimp only at e1 e2 ⊢
   by_cases e : t.1 = k
   ·rw [if_pos e, if_pos (by rw [<- e1, e])]; exact ⟨e1, hv⟩
   ·rw [if_neg e, if_neg (fun z => e (Sum.inr.inj (e1.trans z)))]; exact ⟨e1, e2⟩
theorem appX {k : Str} {v : V} {u : Value} (hv : RelV v u) : ∀ {ts : List (Str × V)} {vs : List (Key × Value)}, KV (txK ts) vs -> KV (txK (ts ++ [(k, v)])) (vs ++ [(Sum.inr k, u)])
 | [], vs, h => by cases (show Paired _ [] vs from h); exact .cons ⟨rfl, hv⟩ .nil
 | t :: ts, vs, h => by
  cases (show Paired _ ((Sum.inr t.1, t.2) :: txK ts) vs from h) with
  | @cons _ q _ qs h1 h2 => exact .cons h1 (appX hv (ts := ts) h2)
theorem putX_rel {k : Str} {v : V} {u : Value} {ts : List (Str × V)} {vs : List (Key × Value)} (hv : RelV v u) (h : KV (txK ts) vs) : KV (txK (putX ts k v)) (stored vs (Sum.inr k) u) := by
 unfold putX stored
 rw [anyX h]
 split
 ·exact mapX hv h
 ·exact appX hv h
theorem lenX {ts : List (Str × V)} {vs : List (Key × Value)} (h : KV (txK ts) vs) : ts.length = vs.length := by
 have := Paired.length h
 unfold txK at this
 rw [List.length_map] at this
 exact this
theorem putX_len (ts : List (Str × V)) (k : Str) (v : V) : (putX ts k v).length <= ts.length + 1 := by
 unfold putX
 split
 ·rw [List.length_map]; omega
 ·rw [List.length_append]; exact Nat.le_refl _
section
variable {X : Cx} {pins : List (Addr × Obj)} {σ : L2.St} {H : Hp} {s : Shared}
theorem dx_at (I : Inv X pins σ H s) {a : Addr} {ts : List (Str × V)} (h : H a = some (.dK (txK ts))) : ts.length <= sizeLine /\ (a == sysModules) = false /\ ∃ vs, KV (txK ts) vs /\ s.heap.DictOf (mixKind X.prog X.w) a vs := by
 obtain ⟨h1, h2, vs, h3, h4⟩ := (show ObjOk X.prog X.w H s.heap a (.dK (txK ts)) from I.hok a _ h)
 refine ⟨?_, h2, vs, h3, h4⟩
 unfold txK at h1
 rw [List.length_map] at h1
 exact h1
end
theorem key_str {P : Program} {w : World} {k : Str} {u : Value} (h : RelV (.str k) u) : (mixKind P w).is (Sum.inr k) u = true := by
 obtain ⟨t, rfl⟩ := h
 exact mixKind_str P w k t
def rIxX : R2 := fun x y H Q => ∃ a ts k v, x = .ref a /\ y = .str k /\ H a = some (.dK (txK ts)) /\ getX ts k = some v /\ Q v H
theorem ix_X {X : Cx} : IxR X rIxX := by
 intro value slice pins s σ H x y v u Q I rx ry h hs
 obtain ⟨a, ts, k, z, rfl, rfl, hq, e, q⟩ := h
 cases rx
 obtain ⟨h1, h2, vs, pr, dd⟩ := dx_at I hq
 have g := getX_rel (k := k) pr
 rw [e] at g
 obtain ⟨p, hp, rp⟩ := g
 exact tail_any dd.mapOf.typeIs PySem.F.slot_dict_getitem.lookup (wpAny_getItem_of (key_str ry) dd.mapOf hp ⟨z, H, I.tok _, rp, q⟩) hs
def rInX (neg : Bool) : R2 := fun y x H Q => ∃ a ts k, x = .ref a /\ y = .str k /\ H a = some (.dK (txK ts)) /\ Q (.bl (neg != (getX ts k).isSome)) H
theorem op_inX {X : Cx} : OpR X (compareOp .In) (rInX false) := by
 intro pins s σ H x y v u Q I rx ry h
 obtain ⟨a, ts, k, rfl, rfl, hq, q⟩ := h
 cases ry
 obtain ⟨h1, h2, vs, pr, dd⟩ := dx_at I hq
 refine wpAny_in_of (key_str rx) h2 dd.mapOf ?_
 rw [isSomeX pr]
 exact ⟨.bl _, H, I.tok _, rfl, by simpa using q⟩
def rSetX : V -> V -> V -> Hp -> (Hp -> Prop) -> Prop := fun o i v H Q => ∃ a ts k, o = .ref a /\ i = .str k /\ H a = some (.dK (txK ts)) /\ ts.length < sizeLine /\ Q (upd H a (.dK (txK (putX ts k v))))
theorem set_X {X : Cx} : PSet X rSetX := by
 intro pins s σ H o i v ov iv u Q I ro ri rv h
 obtain ⟨a, ts, k, rfl, rfl, hq, hl, q⟩ := h
 cases ro
 obtain ⟨h1, h2, vs, pr, dd⟩ := dx_at I hq
 have hz : vs.length <= sizeLine := by rw [<- lenX pr]; exact h1
 refine wpAny_setItem_pairs (hsz := hz) (key_str ri) dd fun h' dd' hs => ⟨_, ?_, q⟩
 have he : ∃ q, h'.get? a = some q := let ⟨q, _, _, hq, _⟩ := dd'; ⟨q, hq⟩
 refine I.write (x := a) (e := a) (by rw [hq]; exact True.intro) (.inl rfl) (fun c z hc e => (hs.2 c hc).trans e) he ?_
 have hl2 := putX_len ts k v
 exact ⟨by unfold txK; rw [List.length_map]; omega, h2, _, putX_rel rv pr, dd'⟩
def tNewX : TE := fun _ H Q => ∀ p, H p = none -> Q (.ref p) (upd H p (.dK (txK [])))
theorem pe_newX {X : Cx} {pos : Pos} : PE X (.Dict [] [] pos) tNewX := fun pins s σ H Q I h => by
 have hb : sysModules < s.heap.objs.size := Nat.lt_trans (by decide) (show mainGlobals < s.heap.objs.size from (I.mod.glob.keeps I.bk).lt)
 refine wpAny_Dict_empty ⟨.ref s.heap.objs.size, _, I.laid (a := s.heap.objs.size) (o := .dK (txK [])) (t' := s.toks) (fun _ _ q => Heap.get?_push_of_some _ q) (Nat.le_refl _) ?_, rfl, h _ (I.hok.fresh (Nat.le_refl _))⟩
 exact ⟨Nat.zero_le _, beq_eq_false_iff_ne.mpr (Ne.symm (Nat.ne_of_lt hb)), [], .nil, Heap.DictOf.new s.heap⟩
end DL
end
section
set_option Elab.async false
set_option linter.all false
set_option maxRecDepth 100000
namespace DL
open PySem L2
variable {K : KW}
theorem R_setG {S M : Addr -> Prop} {τ : DS} {σ : St} {H : Hp} (r : R K S M τ σ H) {i : Nat} {d : PyData} (hi : τ[i]? = some (some (.g d))) :
  ∃ v F, σ[i]? = some (some v) /\ DpT K S H d v F /\ (∀ a ∈ F, M a) /\ ∀ (H' : Hp) (d' : PyData), Chg (fun b => b ∈ F) H H' -> (∀ a ∈ F, ∃ o, H' a = some o) -> DpT K S H' d' v F -> R K S M (τ.set i (some (.g d'))) σ H' := by
 obtain ⟨φ, g⟩ := r.gr
 obtain ⟨⟨v, g1, g2⟩, g3, g4, g5, g6⟩ := g i d hi
 refine ⟨v, φ i, g1, g2, g4, fun H' d' c ho hd => ?_⟩
 have hlt : i < τ.length := (List.getElem?_eq_some_iff.mp hi).1
 have ne : ∀ j, j ≠ i -> (τ.set i (some (.g d')))[j]? = τ[j]? := fun j hj => List.getElem?_set_ne (Ne.symm hj)
 have se : (τ.set i (some (.g d')))[i]? = some (some (.g d')) := List.getElem?_set_self hlt
 have k : Keep S H S H' := c.keep fun b hb => r.sub b (g4 b hb)
 have own : ∀ (j : Nat) (ys : Ow), (τ.set i (some (.g d')))[j]? = some (some ys.L) -> j ≠ i /\ τ[j]? = some (some ys.L) := fun j ys e => by
  by_cases hj : j = i
  ·subst hj; rw [se] at e; exact absurd (Option.some.inj (Option.some.inj e)).symm Ow.not_g
  ·rw [ne j hj] at e; exact ⟨hj, e⟩
 refine ⟨by rw [List.length_set]; exact r.len, fun j x e => ?_, fun j ys e => ?_, fun j ys e => ?_, fun j1 j2 ys zs b e1 e2 f1 f2 => r.inj _ _ _ _ b (own _ _ e1).2 (own _ _ e2).2 f1 f2, r.sub, fun a h => ?_, ?_⟩
 ·by_cases hj : j = i
  ·subst hj; rw [se] at e; cases e
  ·rw [ne j hj] at e
   obtain ⟨u, h1, h2⟩ := r.dat j x e
   exact ⟨u, h1, h2.mono k.same⟩
 ·obtain ⟨hj, e⟩ := own j ys e
  obtain ⟨b, us, h1, h2, h3, h4⟩ := r.mt j ys e
  exact ⟨b, us, h1, h2, c b _ (g5 j ys b e h1) h3, h4.mono k.same⟩
 ·by_cases hj : j = i
  ·subst hj; rw [se] at e; cases e
  ·rw [ne j hj] at e
   obtain ⟨b, us, h1, h2, h3⟩ := r.cst j ys e
   exact ⟨b, us, h1, k.same.seq h2, h3.mono k.same⟩
 ·by_cases hb : a ∈ φ i
  ·exact ho a hb
  ·obtain ⟨o, e⟩ := r.ex a h
   exact ⟨o, c a o hb e⟩
 ·refine ⟨φ, fun j x e => ?_⟩
  by_cases hj : j = i
  ·subst hj
   rw [se] at e; cases e
   refine ⟨⟨v, g1, hd⟩, g3, g4, fun j' o a z1 z2 => g5 j' o a (own j' o z1).2 z2, fun j' x' hj' z => ?_⟩
   rw [ne j' hj'] at z
   exact g6 j' x' hj' z
  ·rw [ne j hj] at e
   obtain ⟨⟨v', q1, q2⟩, q3, q4, q5, q6⟩ := g j x e
   have on : ∀ a ∈ φ j, H' a = H a := fun a ha => by
    obtain ⟨o, e'⟩ := r.ex a (r.sub a (q4 a ha))
    rw [e']; exact c a o (fun z => q6 i d (Ne.symm hj) hi a ha z) e'
   refine ⟨⟨v', q1, q2.mono (tsS k.same) on⟩, q3, q4, fun j' o a z1 z2 => q5 j' o a (own j' o z1).2 z2, fun j' x' hj' z => ?_⟩
   by_cases hj2 : j' = i
   ·subst hj2; exact q6 j' d hj' hi
   ·rw [ne j' hj2] at z; exact q6 j' x' hj' z
def dNewX (np i : Nat) (τ : DS) : Option Out := if np <= i /\ i < τ.length then some (.nx (τ.set i (some (.g (.dict []))))) else none
theorem b_newX {np : Nat} {fr : Bool} {i : Nat} : B K np (tAsg tNewX (gName i)) fr (dNewX np i) := by
 intro F S M τ σ H D out hnp f ee q
 unfold dNewX at ee
 split at ee
 ·rename_i hi
  cases ee
  intro a ha
  have s := same_new ha (HO.dK (txK []))
  have f1 := f.hide s ha ⟨_, upd_same⟩
  have hM : ¬ M a := fun z => f.r.fresh ha (f.r.sub a z)
  refine q _ _ _ _ (f1.newG (X := [a]) hi.2 (Nat.le_trans hnp hi.1) (fun b hb => .inr (List.mem_singleton.mp hb)) (fun b hb => by rw [List.mem_singleton.mp hb]; exact hM) (fun b hb => by rw [List.mem_singleton.mp hb]; exact f.hnone ha) (by simp) ⟨a, [], rfl, rfl, upd_same, rfl⟩) fun b o hn e => ⟨fun z => z.elim hn (ne_of_none e ha), s b o e⟩
 ·cases ee
def getS : List (PyData × PyData) -> Str -> Option PyData
 | [], _ => none
 | (.str x, d) :: r, k => if x = k then some d else getS r k
 | _ :: r, k => getS r k
theorem get_isX {H : Hp} {k : Str} : ∀ {kvs : List (PyData × PyData)} {ts : List (Str × V)}, IsX K H kvs ts -> (match getS kvs k with
  | some d => ∃ v, getX ts k = some v /\ Is K H d v /\ fixD d = true
  | none => getX ts k = none)
 | [], _, h => by rw [show _ = [] from h]; rfl
 | (_, d) :: r, _, ⟨t, tr, e, ek, f, h, l⟩ => by
  subst e ek
  have ih := get_isX (k := k) l
  unfold getS getX
  by_cases e : t.1 = k
  ·rw [if_pos e, if_pos e]; exact ⟨t.2, rfl, h, f⟩
  ·rw [if_neg e, if_neg e]; exact ih
def dIxX (i : Nat) (f : DX) (τ : DS) : Option (PyData × DS) := match τ[i]? with
 | some (some (.g (.dict _))) => (f τ).bind fun p => match p.1, p.2[i]? with
  | .str k, some (some (.g (.dict kvs))) => (getS kvs k).map fun d => (d, p.2)
  | _, _ => none
 | _ => none
theorem e_ixX {i : Nat} {fr : Bool} {tb : TE} {f : DX} (h : E K tb fr f) : E K (tOp rIxX (tVar i) tb) false (dIxX i f) := by
 refine ⟨fun τ d τ' e => ?_, ?_⟩
 ·unfold dIxX at e
  split at e
  ·obtain ⟨⟨x, τ1⟩, e1, e⟩ := oB e
   dsimp only at e
   split at e
   ·obtain ⟨z, e3, e⟩ := oM e
    cases e; exact h.like _ _ _ e1
   ·cases e
  ·cases e
 intro S M τ σ H Q d τ' r e q
 unfold dIxX at e
 split at e
 ·rename_i kv0 h0
  obtain ⟨⟨x, τ1⟩, e1, e⟩ := oB e
  dsimp only at e
  split at e
  ·rename_i k kvs hk
   obtain ⟨z, e3, e⟩ := oM e
   cases e
   obtain ⟨v0, F0, hv0, _⟩ := R_setG r h0
   refine ⟨v0, hv0, h.weak.run S M τ σ H _ _ _ r e1 fun u H1 r1 c1 i1 => ?_⟩
   obtain ⟨v1, F1, hv1, ⟨a, ts, ea, _, hH, l⟩, _⟩ := R_setG r1 hk
   rw [hv0] at hv1; cases hv1
   subst ea
   have g := get_isX (k := k) l
   rw [e3] at g
   obtain ⟨v, gv, iv, _⟩ := g
   exact ⟨a, ts, k, v, rfl, i1, hH, gv, q v H1 r1 c1 iv⟩
  ·cases e
 ·cases e
def dInX (neg : Bool) (f : DX) (i : Nat) (τ : DS) : Option (PyData × DS) := (f τ).bind fun p => match p.1, p.2[i]? with
 | .str k, some (some (.g (.dict kvs))) => some (.bool (neg != (getS kvs k).isSome), p.2)
 | _, _ => none
theorem e_inX {neg : Bool} {i : Nat} {fr : Bool} {ta : TE} {f : DX} (h : E K ta fr f) : E K (tOp (rInX neg) ta (tVar i)) false (dInX neg f i) := by
 refine ⟨fun τ d τ' e => ?_, ?_⟩
 ·unfold dInX at e
  obtain ⟨⟨x, τ1⟩, e1, e⟩ := oB e
  dsimp only at e
  split at e
  ·cases e; exact h.like _ _ _ e1
  ·cases e
 intro S M τ σ H Q d τ' r e q
 unfold dInX at e
 obtain ⟨⟨x, τ1⟩, e1, e⟩ := oB e
 dsimp only at e
 split at e
 ·rename_i k kvs hk
  cases e
  refine h.weak.run S M τ σ H _ _ _ r e1 fun u H1 r1 c1 i1 => ?_
  obtain ⟨v1, F1, hv1, ⟨a, ts, ea, _, hH, l⟩, _⟩ := R_setG r1 hk
  subst ea
  have g := get_isX (k := k) l
  have eq : (getX ts k).isSome = (getS kvs k).isSome := by
   cases z : getS kvs k with
   | none => rw [z] at g; rw [show getX ts k = none from g]; rfl
   | some y => rw [z] at g; obtain ⟨v, gv, _⟩ := g; rw [gv]; rfl
  refine ⟨.ref a, hv1, a, ts, k, rfl, i1, hH, ?_⟩
  rw [eq]
  exact q _ H1 r1 c1 rfl
 ·cases e
def putS (kvs : List (PyData × PyData)) (k : Str) (d : PyData) : List (PyData × PyData) := if (getS kvs k).isSome = true then kvs.map (fun p => match p with
  | (.str x, y) => if x = k then (.str x, d) else (.str x, y)
  | p => p) else kvs ++ [(.str k, d)]
theorem anyS {H : Hp} {k : Str} : ∀ {kvs : List (PyData × PyData)} {ts : List (Str × V)}, IsX K H kvs ts -> (ts.any fun t => decide (t.1 = k)) = (getS kvs k).isSome
 | [], _, h => by rw [show _ = [] from h]; rfl
 | (_, d) :: r, _, ⟨t, tr, e, ek, f, h, l⟩ => by
  subst e ek
  unfold getS
  rw [List.any_cons, anyS (k := k) l]
  by_cases e : t.1 = k
  ·rw [if_pos e, decide_eq_true e]; rfl
  ·rw [if_neg e, decide_eq_false e, Bool.false_or]
theorem mapS {H : Hp} {k : Str} {d : PyData} {v : V} (fd : fixD d = true) (hv : Is K H d v) : ∀ {kvs : List (PyData × PyData)} {ts : List (Str × V)}, IsX K H kvs ts -> IsX K H (kvs.map fun p => match p with
  | (.str x, y) => if x = k then (.str x, d) else (.str x, y)
  | p => p) (ts.map fun t => if t.1 = k then (t.1, v) else t)
 | [], _, h => by rw [show _ = [] from h]; rfl
 | (_, y) :: r, _, ⟨t, tr, e, ek, f, h, l⟩ => by
  subst e ek
  have ih := mapS (k := k) fd hv l
  rw [List.map_cons, List.map_cons]
  dsimp only
  by_cases e : t.1 = k
  ·rw [if_pos e, if_pos e]; exact ⟨_, _, rfl, rfl, fd, hv, ih⟩
  ·rw [if_neg e, if_neg e]; exact ⟨_, _, rfl, rfl, f, h, ih⟩
theorem appS {H : Hp} {k : Str} {d : PyData} {v : V} (fd : fixD d = true) (hv : Is K H d v) : ∀ {kvs : List (PyData × PyData)} {ts : List (Str × V)}, IsX K H kvs ts -> IsX K H (kvs ++ [(.str k, d)]) (ts ++ [(k, v)])
 | [], _, h => by rw [show _ = [] from h]; exact ⟨_, _, rfl, rfl, fd, hv, rfl⟩
 | (_, y) :: r, _, ⟨t, tr, e, ek, f, h, l⟩ => by
  subst e ek
  exact ⟨_, _, rfl, rfl, f, h, appS fd hv l⟩
theorem put_isX {H : Hp} {k : Str} {d : PyData} {v : V} {kvs : List (PyData × PyData)} {ts : List (Str × V)} (fd : fixD d = true) (hv : Is K H d v) (h : IsX K H kvs ts) : IsX K H (putS kvs k d) (putX ts k v) := by
 unfold putS putX
 rw [anyS h]
 split
 ·exact mapS fd hv h
 ·exact appS fd hv h
theorem len_isX {H : Hp} : ∀ {kvs : List (PyData × PyData)} {ts : List (Str × V)}, IsX K H kvs ts -> ts.length = kvs.length
 | [], _, h => by rw [show _ = [] from h]; rfl
 | (_, _) :: _, _, ⟨t, tr, e, _, _, _, l⟩ => by subst e; rw [List.length_cons, List.length_cons, len_isX l]
def dPutX (i : Nat) (e k : DX) (τ : DS) : Option Out := (e τ).bind fun p => match p.2[i]? with
 | some (some (.g (.dict _))) => (k p.2).bind fun q => match q.1, q.2[i]? with
  | .str x, some (some (.g (.dict kvs))) => if fixD p.1 = true /\ kvs.length < sizeLine then some (.nx (q.2.set i (some (.g (.dict (putS kvs x p.1)))))) else none
  | _, _ => none
 | _ => none
theorem b_putX {np : Nat} {fr f1 f2 : Bool} {i : Nat} {te tk : TE} {e k : DX} (he : E K te f1 e) (hk : E K tk f2 k) : B K np (tAsg te (gSub (tVar i) tk rSetX)) fr (dPutX i e k) := by
 intro F S M τ σ H D out hnp f ee q
 unfold dPutX at ee
 obtain ⟨⟨x, τ1⟩, e1, ee⟩ := oB ee
 dsimp only at ee
 split at ee
 ·rename_i kv0 h0
  obtain ⟨⟨y, τ2⟩, e2, ee⟩ := oB ee
  dsimp only at ee
  split at ee
  ·rename_i z kvs h2
   split at ee
   ·rename_i hc
    cases ee
    refine he.weak.run S M τ σ H _ x τ1 f.r e1 fun v H1 r1 c1 i1 => ?_
    obtain ⟨v0, F0, hv0, _⟩ := R_setG r1 h0
    refine ⟨v0, hv0, hk.weak.run S M τ1 σ H1 _ _ τ2 r1 e2 fun u H2 r2 c2 i2 => ?_⟩
    obtain ⟨v1, F1, hv1, ⟨a, ts, ea, eF, hH, l⟩, hM, go⟩ := R_setG r2 h2
    rw [hv0] at hv1; cases hv1
    subst ea eF
    have Sa : S a := r2.sub a (hM a (List.mem_singleton_self a))
    refine ⟨a, ts, z, rfl, i2, hH, by rw [len_isX l]; exact hc.2, ?_⟩
    have iv : Is K (hid S H2) x v := Is.mono (c2.keep r1.sub).same i1
    have c3 : Chg (fun b => b ∈ [a]) H2 (upd H2 a (.dK (txK (putX ts z v)))) := fun b o hn e => by rw [upd_ne (fun w => hn (by rw [w]; exact List.mem_singleton_self a))]; exact e
    have r3 := go (upd H2 a (.dK (txK (putX ts z v)))) (.dict (putS kvs z x)) c3 (fun b hb => by rw [List.mem_singleton.mp hb]; exact ⟨_, upd_same⟩) ⟨a, putX ts z v, rfl, rfl, upd_same, by rw [hid_upd Sa]; exact put_isX hc.1 iv l⟩
    have c4 : Chg M H (upd H2 a (.dK (txK (putX ts z v)))) := (c1.trans c2).trans fun b o hn e => c3 b o (fun w => hn (by rw [List.mem_singleton.mp w]; exact hM a (List.mem_singleton_self a))) e
    have lk := (he.like _ _ _ e1).trans (hk.like _ _ _ e2)
    refine q S M σ _ ⟨r3, f.sS, fun b o e n => c4 b o (fun w => (f.new b w).elim n fun y => by rw [y] at e; cases e) (f.old b o e n), f.new, f.fm, f.fs, f.fsub, f.snew, f.par, fun j v' e => ?_, f.fma⟩ (c4.keep f.r.sub)
    obtain ⟨o, ho'⟩ := f.pm j v' e
    obtain ⟨o2, h2'⟩ := (lk.own j).mpr ⟨o, ho'⟩
    have hj : j ≠ i := fun w => by subst w; rw [h2] at h2'; exact Ow.not_g (Option.some.inj (Option.some.inj h2')).symm
    exact ⟨o2, by rw [List.getElem?_set_ne (Ne.symm hj)]; exact h2'⟩
   ·cases ee
  ·cases ee
 ·cases ee
end DL
namespace L2
open PySem
theorem pe_callC0 {X : Cx} {k : Nat} {ps : List Str} {sp : Sp} {x : Str} {p pos : Pos} (C : Cal X.prog X.w X.K X.mg X.base k x ps sp) (hr : Room k X.A) (hg : Gl X x) (hdb : (x == ("__debug__" : Str)) = false := by decide) : PE X (.Call (.Name x p) [] [] pos) (tCall sp [] E0 tNil) := by
 obtain ⟨f, fd, F, b, kp, m⟩ := C.ex
 exact pe_call0 F hr hg m kp b .nil pass0 hdb
end L2
end
section
set_option Elab.async false
set_option linter.all false
set_option maxRecDepth 100000
namespace DL
open PySem L2
variable {K : KW}
theorem like_borG {τ τ1 : DS} {i : Nat} {ds : List PyData} (hi : τ[i]? = some (some (.g (.list ds)))) (lk : Like (τ.set i (some (.d (.list ds)))) τ1) : Like τ (τ1.set i (some (.g (.list ds)))) := by
 have hlt : i < τ.length := (List.getElem?_eq_some_iff.mp hi).1
 have hl1 : τ1.length = τ.length := by have := lk.1; rw [List.length_set] at this; exact this
 refine ⟨by rw [List.length_set]; exact hl1, fun j => ?_⟩
 by_cases hj : j = i
 ·subst hj
  rw [List.getElem?_set_self (by omega), hi]
  exact ⟨⟨fun x => Iff.rfl, fun x => Iff.rfl⟩, fun b => Iff.rfl⟩
 ·have := lk.2 j
  rw [List.getElem?_set_ne (Ne.symm hj)] at this ⊢
  exact this
theorem back_borG {S M : Addr -> Prop} {τ τ1 : DS} {σ : St} {H H' : Hp} {i : Nat} {ds : List PyData} {v : V} {F : List Addr} (r : R K S M τ σ H) (hi : τ[i]? = some (some (.g (.list ds)))) (hv : σ[i]? = some (some v)) (hd : Dp K S H (.list ds) v F) (hn : F.Nodup) (hM : ∀ a ∈ F, M a)
  (ho : ∀ (j : Nat) (o : Ow) (a : Addr), τ[j]? = some (some o.L) -> σ[j]? = some (some (.ref a)) -> a ∉ F) (r1 : R K (fun b => S b /\ b ∉ F) (fun b => M b /\ b ∉ F) τ1 σ H') (lk : Like (τ.set i (some (.d (.list ds)))) τ1) (c : Chg (fun b => M b /\ b ∉ F) H H') (ok : τ1.all okM = true) :
  R K S M (τ1.set i (some (.g (.list ds)))) σ H' /\ TSm (hid (fun b => S b /\ b ∉ F) H') (hid S H') := by
 have on : ∀ a ∈ F, H' a = H a := fun a ha => by
  obtain ⟨vs, z⟩ := hd.lst a ha
  rw [z]; exact c a _ (fun z => z.2 ha) z
 have kp : Keep S H S H' := fun b o h z => ⟨h, c b o (fun z => h (r.sub b z.1)) z⟩
 have l3 : ∀ a ∈ F, ∃ vs, H' a = some (.lst vs) := fun a ha => by rw [on a ha]; exact hd.lst a ha
 refine ⟨unfrzG (H4 := H') r hi hv hn hM ho r1 lk c ok l3 (fun _ _ => rfl) (hd.mono (tsS kp.same) on), fun b o e nl ne => ?_⟩
 obtain ⟨e1, e2⟩ := hid_iff.mp e
 have hb : b ∉ F := fun z => by
  obtain ⟨vs, q⟩ := l3 b z
  rw [e2] at q; cases q; exact nl _ rfl
 exact hid_iff.mpr ⟨fun z => e1 ⟨z, hb⟩, e2⟩
def dTBorG (i : Nat) (f : DT) (τ : DS) : Option (Bool × DS) := match τ[i]? with
 | some (some (.g (.list ds))) => (f (τ.set i (some (.d (.list ds))))).bind fun q => if q.2.all okM then some (q.1, q.2.set i (some (.g (.list ds)))) else none
 | _ => none
theorem dTBorG_some {i : Nat} {f : DT} {τ τ' : DS} {d : Bool} (e : dTBorG i f τ = some (d, τ')) : ∃ ds τ1, τ[i]? = some (some (.g (.list ds))) /\ f (τ.set i (some (.d (.list ds)))) = some (d, τ1) /\ τ1.all okM = true /\ τ' = τ1.set i (some (.g (.list ds))) := by
 unfold dTBorG at e
 split at e
 ·rename_i ds hx
  obtain ⟨⟨z, τ1⟩, e1, e⟩ := oB e
  dsimp only at e
  split at e
  ·rename_i h
   cases e
   exact ⟨ds, τ1, hx, e1, h, rfl⟩
  ·cases e
 ·cases e
theorem t_borG {i : Nat} {t : TT} {f : DT} (h : T K t f) : T K t (dTBorG i f) := by
 refine ⟨fun τ d τ' e => ?_, ?_⟩
 ·obtain ⟨ds, τ1, e1, e2, _, rfl⟩ := dTBorG_some e
  exact like_borG e1 (h.like _ _ _ e2)
 intro S M τ σ H Q d τ' r e q
 obtain ⟨ds, τ1, e1, e2, ok, rfl⟩ := dTBorG_some e
 obtain ⟨v, F, hv, hd, hn, hM, ho, rz⟩ := frzG r e1
 refine h.run _ _ _ σ H _ d τ1 rz e2 fun H' r' c => ?_
 obtain ⟨r2, ts⟩ := back_borG r e1 hv hd hn hM ho r' (h.like _ _ _ e2) c ok
 exact q H' r2 (fun b o hb z => c b o (fun w => hb w.1) z)
end DL
end
section
set_option Elab.async false
set_option linter.all false
set_option maxRecDepth 100000
namespace DL
open PySem L2
variable {K : KW} {np : Nat}
theorem Dp.row {S : Addr -> Prop} {H : Hp} {rows cs : List PyData} {v : V} {F : List Addr} {y : Nat} (h : Dp K S H (.list rows) v F) (hn : F.Nodup) (hS : ∀ a ∈ F, S a) (hy : rows[y]? = some (.list cs)) (hf : fixDs cs = true) :
  ∃ a vs p cvs, v = .ref a /\ H a = some (.lst vs) /\ vs.length = rows.length /\ a ∈ F /\ vs[y]? = some (.ref p) /\ p ∈ F /\ H p = some (.lst cvs) /\ IsL K (hid S H) cs cvs /\ ∀ (cs' : List PyData) (cvs' : List V), fixDs cs' = true -> IsL K (hid S H) cs' cvs' -> Dp K S (upd H p (.lst cvs')) (.list (rows.set y (.list cs'))) v F := by
 obtain ⟨a, vs, G, rfl, rfl, ha, l⟩ := h
 obtain ⟨na, nG⟩ := List.nodup_cons.mp hn
 obtain ⟨u, Fy, h1, h2, h3, ⟨p, cvs, Gy, rfl, rfl, hp, lc⟩, h5⟩ := DpL.at l nG hy
 obtain ⟨rfl, lc'⟩ := DpL.unfix hf lc
 have pG : p ∈ G := h2 p (List.mem_cons_self ..)
 have pF : p ∈ a :: G := List.mem_cons_of_mem _ pG
 have ap : a ≠ p := fun z => na (z ▸ pG)
 refine ⟨a, vs, p, cvs, rfl, ha, l.length, List.mem_cons_self .., h1, pF, hp, lc', fun cs' cvs' f' l' => ⟨a, vs, G, rfl, rfl, by rw [upd_ne ap]; exact ha, ?_⟩⟩
 have eh : hid S (upd H p (.lst cvs')) = hid S H := hid_upd (hS p pF)
 exact h5 _ _ (by rw [eh]; exact .refl) (fun b hb hn => upd_ne fun z => hn (by rw [z]; exact List.mem_cons_self ..)) ⟨p, _, [], rfl, rfl, upd_same, DpL.fix f' (by rw [eh]; exact l')⟩
def app2 (rows : List PyData) (y : Int) (d : PyData) : Option (List PyData) := (ixN rows.length y).bind fun a => match rows[a]? with
 | some (.list cs) => if fixDs cs = true /\ cs.length < sizeLine then some (rows.set a (.list (cs ++ [d]))) else none
 | _ => none
theorem app2_some {rows rows' : List PyData} {y : Int} {d : PyData} (h : app2 rows y d = some rows') : ∃ a cs, ixN rows.length y = some a /\ rows[a]? = some (.list cs) /\ fixDs cs = true /\ cs.length < sizeLine /\ rows' = rows.set a (.list (cs ++ [d])) := by
 unfold app2 at h
 obtain ⟨a, e1, h⟩ := oB h
 split at h
 ·rename_i cs hc
  split at h
  ·rename_i hf
   exact ⟨a, cs, e1, hc, hf.1, hf.2, (Option.some.inj h).symm⟩
  ·cases h
 ·cases h
theorem fix_snoc {cs : List PyData} {d : PyData} (h : fixDs cs = true) (hd : fixD d = true) : fixDs (cs ++ [d]) = true := by
 induction cs with
 | nil => show (fixD d && true) = true; rw [hd]; rfl
 | cons c cs ih =>
  rw [fixDs, Bool.and_eq_true] at h
  rw [List.cons_append, fixDs, Bool.and_eq_true]
  exact ⟨h.1, ih h.2⟩
def dAppG (i : Nat) (e1 : DX) (a : DA) (τ : DS) : Option Out := match τ[i]? with
 | some (some (.g (.list rows))) => (e1 (τ.set i (some (.d (.list rows))))).bind fun q => match q.1 with
  | .int y => (a q.2).bind fun w => (allD w.1).bind fun ds => match ds with
   | [d] => if fixD d = true /\ w.2.all okM = true then (app2 rows y d).map fun rows' => .nx (w.2.set i (some (.g (.list rows')))) else none
   | _ => none
  | _ => none
 | _ => none
theorem b_appG {fr f1 : Bool} {i : Nat} {t1 : TE} {ta : TA} {e1 : DX} {a : DA} (h1 : E K t1 f1 e1) (ha : A K ta a) : B K np (tDrop (tBM K "list" rAppend (tOp (rIxL K) (tVar i) t1) ta)) fr (dAppG i e1 a) := by
 intro F S M τ σ H D out hnp f ee q
 unfold dAppG at ee
 split at ee
 ·rename_i rows hi
  obtain ⟨⟨y1, τ2⟩, eb, ee⟩ := oB ee
  dsimp only at ee
  split at ee
  ·rename_i y
   obtain ⟨⟨rs, τ3⟩, ec, ee⟩ := oB ee
   obtain ⟨ds, ed, ee⟩ := oB ee
   dsimp only at ee
   split at ee
   ·rename_i d
    split at ee
    ·rename_i hc
     obtain ⟨fx, ok⟩ := hc
     obtain ⟨rows', es, ee⟩ := oM ee
     cases ee
     obtain ⟨ya, cs, iy, hr, hf, hz, rfl⟩ := app2_some es
     obtain ⟨v, X, hv, hd, hn, hM, ho, rz⟩ := frzG f.r hi
     have hS : ∀ a ∈ X, S a := fun a ha => f.r.sub a (hM a ha)
     have lk : Like (τ.set i (some (.d (.list rows)))) τ3 := (h1.like _ _ _ eb).trans (ha.like _ _ _ ec)
     have onX : ∀ {Hx : Hp}, Chg (fun b => M b /\ b ∉ X) H Hx -> ∀ a ∈ X, Hx a = H a := fun {Hx} cx a ha => by
      obtain ⟨vs, z⟩ := hd.lst a ha
      rw [z]; exact cx a _ (fun z => z.2 ha) z
     have kp : ∀ {Hx : Hp}, Chg (fun b => M b /\ b ∉ X) H Hx -> Keep S H S Hx := fun {Hx} cx b o h z => ⟨h, cx b o (fun z => h (f.r.sub b z.1)) z⟩
     refine ⟨v, hv, h1.weak.run _ _ _ σ H _ _ τ2 rz eb fun u Hb rb cB ib => ?_⟩
     cases (show u = .int y from ib)
     obtain ⟨a', vs, p, cvs, rfl, ha', hvl, aX, hp, pX, hpp, hcl, _⟩ := Dp.row hd hn hS hr hf
     refine ⟨a', vs, y, .ref p, rfl, rfl, SqL.of (by rw [onX cB a' aX]; exact ha'), by unfold atI; rw [hvl, iy]; exact hp, .inl ⟨rfl, cvs, SqL.of (by rw [onX cB p pX]; exact hpp)⟩, ?_⟩
     refine ha.run _ _ τ2 σ Hb _ rs τ3 rb ec fun us Hc rc cc ic => ?_
     have l := allD_is ic ed
     obtain ⟨w, ws, rfl, iw, iws⟩ := l
     cases (show ws = [] from iws)
     have cC : Chg (fun b => M b /\ b ∉ X) H Hc := cB.trans cc
     have hdc : Dp K S Hc (.list rows) (.ref a') X := hd.mono (tsS (kp cC).same) (onX cC)
     have i3 : Is K (hid S Hc) d w := Is.monoT (fun b o z nl ne => by
      obtain ⟨z1, z2⟩ := hid_iff.mp z
      have hb : b ∉ X := fun hb => by
       obtain ⟨us, zz⟩ := hd.lst b hb
       rw [<- onX cC b hb, z2] at zz; cases zz; exact nl _ rfl
      exact hid_iff.mpr ⟨fun hs => z1 ⟨hs, hb⟩, z2⟩) fx iw
     obtain ⟨a2, vs2, p2, cvs2, e0, ha2, hvl2, aX2, hp2, pX2, hpp2, lc2, go⟩ := Dp.row hdc hn hS hr hf
     cases e0
     rw [onX cC a' aX, ha'] at ha2
     cases ha2
     rw [hp] at hp2
     cases hp2
     have hcp : Hc p = some (.lst cvs2) := hpp2
     refine ⟨p, cvs2, w, rfl, rfl, hcp, by rw [lc2.length]; exact hz, ?_⟩
     have hd4 := go (cs ++ [d]) (cvs2 ++ [w]) (fix_snoc hf fx) (isl_snoc lc2 i3)
     have r4 := unfrzG (H4 := upd Hc p (.lst (cvs2 ++ [w]))) f.r hi hv hn hM ho rc lk cC ok (fun b hb => by rw [onX cC b hb]; exact hd.lst b hb) (fun b hb => upd_ne fun z => hb (z ▸ pX)) hd4
     have c4 : Chg M H (upd Hc p (.lst (cvs2 ++ [w]))) := fun b o h z => by
      have hb : b ≠ p := fun w => h (by rw [w]; exact hM p pX)
      rw [upd_ne hb]
      exact cC b o (fun z => h z.1) z
     refine q S M σ _ ⟨r4, f.sS, fun b o e n => c4 b o (fun z => (f.new b z).elim n fun w => by rw [w] at e; cases e) (f.old b o e n), f.new, f.fm, f.fs, f.fsub, f.snew, f.par, fun j v' e => ?_, f.fma⟩ (c4.keep f.r.sub)
     obtain ⟨o, ho'⟩ := f.pm j v' e
     have hj : j ≠ i := fun z => by subst z; rw [hi] at ho'; exact Ow.not_g (Option.some.inj (Option.some.inj ho')).symm
     obtain ⟨o2, h2'⟩ := (lk.own j).mpr ⟨o, by rw [List.getElem?_set_ne (Ne.symm hj)]; exact ho'⟩
     exact ⟨o2, by rw [List.getElem?_set_ne (Ne.symm hj)]; exact h2'⟩
    ·cases ee
   ·cases ee
  ·cases ee
 ·cases ee
end DL
end
section
set_option Elab.async false
set_option linter.all false
set_option maxRecDepth 100000
namespace DL
open PySem L2
variable {K : KW}
structure AG (K : KW) (t : TA) (f : DS -> Option (List PyData × DS)) : Prop where
 like : ∀ τ ds τ', f τ = some (ds, τ') -> Like τ τ'
 run : ∀ S M τ σ H (Q : List V -> Hp -> Prop) ds τ', R K S M τ σ H -> f τ = some (ds, τ') -> (∀ vs H' F, R K S M τ' σ H' -> Chg M H H' -> F.Nodup -> (∀ a ∈ F, H a = none) -> DpL K S H' ds vs F -> Q vs H') -> t σ H Q
def dGNl (τ : DS) : Option (List PyData × DS) := some ([], τ)
theorem ag_nil : AG K tNil dGNl := by
 refine ⟨fun τ ds τ' e => by cases e; exact .refl, fun S M τ σ H Q ds τ' r e q => ?_⟩
 cases e
 exact q [] H [] r .refl List.nodup_nil (fun a ha => by cases ha) ⟨rfl, rfl⟩
def dGCs (e : DX) (r : DS -> Option (List PyData × DS)) (τ : DS) : Option (List PyData × DS) := (e τ).bind fun p => (r p.2).map fun q => (p.1 :: q.1, q.2)
theorem ag_cons {te : TE} {t : TA} {e : DX} {g : DS -> Option (List PyData × DS)} (he : EG K te e) (hg : AG K t g) : AG K (tCons te t) (dGCs e g) := by
 refine ⟨fun τ ds τ' ee => ?_, fun S M τ σ H Q ds τ' r ee q => ?_⟩
 ·unfold dGCs at ee
  obtain ⟨⟨x, τ1⟩, e1, ee⟩ := oB ee
  obtain ⟨⟨y, τ2⟩, e2, ee⟩ := oM ee
  cases ee
  exact (he.like _ _ _ e1).trans (hg.like _ _ _ e2)
 unfold dGCs at ee
 obtain ⟨⟨x, τ1⟩, e1, ee⟩ := oB ee
 obtain ⟨⟨y, τ2⟩, e2, ee⟩ := oM ee
 cases ee
 refine he.run S M τ σ H _ x τ1 r e1 fun v1 H1 F1 r1 c1 n1 h1 d1 => ?_
 refine hg.run S M τ1 σ H1 _ y _ r1 e2 fun vs H2 F2 r2 c2 n2 h2 d2 => ?_
 have nM1 : ∀ a ∈ F1, ¬ M a := fun a ha z => r.fresh (h1 a ha) (r.sub a z)
 have on : ∀ a ∈ F1, H2 a = H1 a := fun a ha => by
  obtain ⟨us, z⟩ := d1.lst a ha
  rw [z]; exact c2 a _ (nM1 a ha) z
 refine q (v1 :: vs) H2 (F1 ++ F2) r2 (c1.trans c2) (List.nodup_append.mpr ⟨n1, n2, fun a ha b hb z => ?_⟩) (fun a ha => ?_) ⟨v1, vs, F1, F2, rfl, rfl, d1.mono (tsS (c2.keep r1.sub).same) on, d2⟩
 ·subst z
  obtain ⟨us, w⟩ := d1.lst a ha
  rw [h2 a hb] at w; cases w
 ·rcases List.mem_append.mp ha with ha | ha
  ·exact h1 a ha
  ·exact r1.none c1 (h2 a ha)
def dLstG (f : DS -> Option (List PyData × DS)) (τ : DS) : Option (PyData × DS) := (f τ).bind fun p => if p.1.length <= sizeLine then some (.list p.1, p.2) else none
theorem eg_lst {t : TA} {f : DS -> Option (List PyData × DS)} (h : AG K t f) : EG K (tLst t) (dLstG f) := by
 refine ⟨fun τ d τ' e => ?_, fun τ d τ' e => ?_, fun S M τ σ H Q d τ' r e q => ?_⟩
 ·unfold dLstG at e
  obtain ⟨⟨x, τ1⟩, e1, e⟩ := oB e
  dsimp only at e
  split at e
  ·cases e; exact h.like _ _ _ e1
  ·cases e
 ·unfold dLstG at e
  obtain ⟨⟨x, τ1⟩, e1, e⟩ := oB e
  dsimp only at e
  split at e
  ·cases e; exact ⟨_, rfl⟩
  ·cases e
 unfold dLstG at e
 obtain ⟨⟨x, τ1⟩, e1, e⟩ := oB e
 dsimp only at e
 split at e
 ·rename_i hz
  cases e
  refine h.run S M τ σ H _ x _ r e1 fun vs H1 F r1 c1 hn hF hd => ?_
  refine ⟨by rw [hd.length]; exact hz, fun p hp => ?_⟩
  have s := same_new hp (HO.lst vs)
  have pF : p ∉ F := fun z => by
   obtain ⟨us, w⟩ := hd.lst p z
   rw [hp] at w; cases w
  refine q _ _ (p :: F) (r1.same s) (c1.trans (.of s)) (List.nodup_cons.mpr ⟨pF, hn⟩) (fun a ha => ?_) ⟨p, vs, F, rfl, rfl, upd_same, hd.mono (tsS (Same.keep s).same) fun a ha => upd_ne fun z => pF (z ▸ ha)⟩
  rcases List.mem_cons.mp ha with rfl | ha
  ·exact r1.none c1 hp
  ·exact hF a ha
 ·cases e
end DL
end
section
set_option Elab.async false
set_option linter.all false
set_option maxRecDepth 100000
namespace DL
open PySem L2 PyProof.Rows
variable {K : KW}
end DL
end
section
set_option Elab.async false
set_option linter.all false
set_option maxRecDepth 100000
namespace L2
open PySem PySem.Spec PyProof.Rows
section
variable {X : Cx} {a b : Expr} {p pos : Pos} {e : Expr} {es : List Expr} {te : TE} {t : TA}
end
end L2
namespace DL
open PySem L2 PyProof.Rows
variable {K : KW}
abbrev Mir := List L -> Option (PyData × List L)
inductive TMs (T : Addr -> Mir -> Prop) : List (Str × Addr) -> List (Str × Mir) -> Prop
 | nil : TMs T [] []
 | cons {k : Str} {f : Addr} {G : Mir} {tb : List (Str × Addr)} {tm : List (Str × Mir)} (h : T f G) (r : TMs T tb tm) : TMs T ((k, f) :: tb) ((k, G) :: tm)
end DL
end
set_option Elab.async false
set_option linter.all false
set_option maxRecDepth 100000
set_option maxHeartbeats 2000000
namespace My
open PySem L2 DL
local macro_rules | `(tactic| trivial) => `(tactic| first | rfl | (intro _; rfl) | exact .inl rfl | exact .inr rfl | with_unfolding_all rfl | decide | assumption)
local macro_rules | `(tactic| walk_at "dk") => `(tactic| decide +kernel)
abbrev dbP (x : Str) : Prop := (x == ("__debug__" : Str)) = false
abbrev clP (x : Str) : Prop := (x == ("__classdict__" : Str)) = false
abbrev glP (s : Stmt) (x : Str) : Prop := (defScope s).names.lookup x = some NameKind.globalImplicit
theorem viL {sc : Scope} {x : Str} (h : L2.Loc sc x) : Vis sc x := h.elim Or.inl fun h => Or.inr (Or.inl h)
def top (i : Nat) : Stmt := PySem.Challenge.pw_scenemend_k27_who_holds_whom.main.body.getD i (.Pass ⟨0, 0, 0, 0⟩)
theorem dbg__law_at : dbP "_law_at" := by decide +kernel
theorem cls__law_at : clP "_law_at" := by decide +kernel
theorem dbg__law_big : dbP "_law_big" := by decide +kernel
theorem dbg__law_big_here : dbP "_law_big_here" := by decide +kernel
theorem cls__law_big_here : clP "_law_big_here" := by decide +kernel
theorem dbg__law_bottom : dbP "_law_bottom" := by decide +kernel
theorem cls__law_bottom : clP "_law_bottom" := by decide +kernel
theorem dbg__law_by : dbP "_law_by" := by decide +kernel
theorem cls__law_by : clP "_law_by" := by decide +kernel
theorem dbg__law_by_name : dbP "_law_by_name" := by decide +kernel
theorem cls__law_by_name : clP "_law_by_name" := by decide +kernel
theorem dbg__law_cell : dbP "_law_cell" := by decide +kernel
theorem cls__law_cell : clP "_law_cell" := by decide +kernel
theorem dbg__law_cell_at : dbP "_law_cell_at" := by decide +kernel
theorem dbg__law_chain : dbP "_law_chain" := by decide +kernel
theorem dbg__law_chain_here : dbP "_law_chain_here" := by decide +kernel
theorem cls__law_chain_here : clP "_law_chain_here" := by decide +kernel
theorem dbg__law_data : dbP "_law_data" := by decide +kernel
theorem cls__law_data : clP "_law_data" := by decide +kernel
theorem dbg__law_data_of : dbP "_law_data_of" := by decide +kernel
theorem dbg__law_due : dbP "_law_due" := by decide +kernel
theorem cls__law_due : clP "_law_due" := by decide +kernel
theorem dbg__law_first : dbP "_law_first" := by decide +kernel
theorem cls__law_first : clP "_law_first" := by decide +kernel
theorem dbg__law_found : dbP "_law_found" := by decide +kernel
theorem cls__law_found : clP "_law_found" := by decide +kernel
theorem dbg__law_h : dbP "_law_h" := by decide +kernel
theorem cls__law_h : clP "_law_h" := by decide +kernel
theorem dbg__law_handed : dbP "_law_handed" := by decide +kernel
theorem cls__law_handed : clP "_law_handed" := by decide +kernel
theorem dbg__law_high : dbP "_law_high" := by decide +kernel
theorem cls__law_high : clP "_law_high" := by decide +kernel
theorem dbg__law_holder : dbP "_law_holder" := by decide +kernel
theorem cls__law_holder : clP "_law_holder" := by decide +kernel
theorem dbg__law_holders : dbP "_law_holders" := by decide +kernel
theorem cls__law_holders : clP "_law_holders" := by decide +kernel
theorem dbg__law_inner : dbP "_law_inner" := by decide +kernel
theorem dbg__law_k : dbP "_law_k" := by decide +kernel
theorem cls__law_k : clP "_law_k" := by decide +kernel
theorem dbg__law_kind : dbP "_law_kind" := by decide +kernel
theorem cls__law_kind : clP "_law_kind" := by decide +kernel
theorem dbg__law_kinds : dbP "_law_kinds" := by decide +kernel
theorem dbg__law_leaves : dbP "_law_leaves" := by decide +kernel
theorem cls__law_leaves : clP "_law_leaves" := by decide +kernel
theorem dbg__law_low : dbP "_law_low" := by decide +kernel
theorem dbg__law_many : dbP "_law_many" := by decide +kernel
theorem dbg__law_many_here : dbP "_law_many_here" := by decide +kernel
theorem cls__law_many_here : clP "_law_many_here" := by decide +kernel
theorem dbg__law_most : dbP "_law_most" := by decide +kernel
theorem cls__law_most : clP "_law_most" := by decide +kernel
theorem dbg__law_name : dbP "_law_name" := by decide +kernel
theorem cls__law_name : clP "_law_name" := by decide +kernel
theorem dbg__law_name_of : dbP "_law_name_of" := by decide +kernel
theorem dbg__law_names : dbP "_law_names" := by decide +kernel
theorem cls__law_names : clP "_law_names" := by decide +kernel
theorem dbg__law_no_row : dbP "_law_no_row" := by decide +kernel
theorem dbg__law_one : dbP "_law_one" := by decide +kernel
theorem cls__law_one : clP "_law_one" := by decide +kernel
theorem dbg__law_other : dbP "_law_other" := by decide +kernel
theorem cls__law_other : clP "_law_other" := by decide +kernel
theorem dbg__law_paint_of : dbP "_law_paint_of" := by decide +kernel
theorem dbg__law_prime : dbP "_law_prime" := by decide +kernel
theorem cls__law_prime : clP "_law_prime" := by decide +kernel
theorem dbg__law_row : dbP "_law_row" := by decide +kernel
theorem cls__law_row : clP "_law_row" := by decide +kernel
theorem dbg__law_row_of : dbP "_law_row_of" := by decide +kernel
theorem dbg__law_rows : dbP "_law_rows" := by decide +kernel
theorem cls__law_rows : clP "_law_rows" := by decide +kernel
theorem dbg__law_scene_of : dbP "_law_scene_of" := by decide +kernel
theorem dbg__law_script : dbP "_law_script" := by decide +kernel
theorem cls__law_script : clP "_law_script" := by decide +kernel
theorem dbg__law_shade : dbP "_law_shade" := by decide +kernel
theorem cls__law_shade : clP "_law_shade" := by decide +kernel
theorem dbg__law_share : dbP "_law_share" := by decide +kernel
theorem cls__law_share : clP "_law_share" := by decide +kernel
theorem dbg__law_share_of : dbP "_law_share_of" := by decide +kernel
theorem dbg__law_shown : dbP "_law_shown" := by decide +kernel
theorem cls__law_shown : clP "_law_shown" := by decide +kernel
theorem dbg__law_size : dbP "_law_size" := by decide +kernel
theorem cls__law_size : clP "_law_size" := by decide +kernel
theorem dbg__law_size_of : dbP "_law_size_of" := by decide +kernel
theorem dbg__law_stencil_of : dbP "_law_stencil_of" := by decide +kernel
theorem dbg__law_step_of : dbP "_law_step_of" := by decide +kernel
theorem dbg__law_sx : dbP "_law_sx" := by decide +kernel
theorem cls__law_sx : clP "_law_sx" := by decide +kernel
theorem dbg__law_sy : dbP "_law_sy" := by decide +kernel
theorem cls__law_sy : clP "_law_sy" := by decide +kernel
theorem dbg__law_text : dbP "_law_text" := by decide +kernel
theorem cls__law_text : clP "_law_text" := by decide +kernel
theorem dbg__law_texts : dbP "_law_texts" := by decide +kernel
theorem dbg__law_told : dbP "_law_told" := by decide +kernel
theorem cls__law_told : clP "_law_told" := by decide +kernel
theorem dbg__law_top : dbP "_law_top" := by decide +kernel
theorem cls__law_top : clP "_law_top" := by decide +kernel
theorem dbg__law_up : dbP "_law_up" := by decide +kernel
theorem dbg__law_up_here : dbP "_law_up_here" := by decide +kernel
theorem cls__law_up_here : clP "_law_up_here" := by decide +kernel
theorem dbg__law_w : dbP "_law_w" := by decide +kernel
theorem cls__law_w : clP "_law_w" := by decide +kernel
theorem dbg__law_wide : dbP "_law_wide" := by decide +kernel
theorem cls__law_wide : clP "_law_wide" := by decide +kernel
theorem dbg__law_word_of : dbP "_law_word_of" := by decide +kernel
theorem dbg__law_x : dbP "_law_x" := by decide +kernel
theorem cls__law_x : clP "_law_x" := by decide +kernel
theorem dbg__law_y : dbP "_law_y" := by decide +kernel
theorem cls__law_y : clP "_law_y" := by decide +kernel
theorem dbg_abs : dbP "abs" := by decide +kernel
theorem nam_abs : ("abs" : Str) ≠ "__name__" := by decide +kernel
theorem dbg_holders : dbP "holders" := by decide +kernel
theorem cls_holders : clP "holders" := by decide +kernel
theorem dbg_holders_of : dbP "holders_of" := by decide +kernel
theorem dbg_isinstance : dbP "isinstance" := by decide +kernel
theorem nam_isinstance : ("isinstance" : Str) ≠ "__name__" := by decide +kernel
theorem dbg_kid_rows : dbP "kid_rows" := by decide +kernel
theorem dbg_kids_of : dbP "kids_of" := by decide +kernel
theorem dbg_len : dbP "len" := by decide +kernel
theorem nam_len : ("len" : Str) ≠ "__name__" := by decide +kernel
theorem dbg_list : dbP "list" := by decide +kernel
theorem nam_list : ("list" : Str) ≠ "__name__" := by decide +kernel
theorem dbg_name : dbP "name" := by decide +kernel
theorem cls_name : clP "name" := by decide +kernel
theorem dbg_parts_in : dbP "parts_in" := by decide +kernel
theorem dbg_row : dbP "row" := by decide +kernel
theorem cls_row : clP "row" := by decide +kernel
theorem dbg_row_found : dbP "row_found" := by decide +kernel
theorem dbg_row_holder : dbP "row_holder" := by decide +kernel
theorem dbg_row_name : dbP "row_name" := by decide +kernel
theorem dbg_row_of : dbP "row_of" := by decide +kernel
theorem dbg_rows : dbP "rows" := by decide +kernel
theorem cls_rows : clP "rows" := by decide +kernel
theorem dbg_str : dbP "str" := by decide +kernel
theorem nam_str : ("str" : Str) ≠ "__name__" := by decide +kernel
theorem dbg_tuple : dbP "tuple" := by decide +kernel
theorem nam_tuple : ("tuple" : Str) ≠ "__name__" := by decide +kernel
abbrev s_L_name_of : Stmt := top 23
theorem sc_L_name_of : FnScope ["_law_big_here", "_law_name", "_law_size", "_law_k"] ["_law_big_here"] (defScope s_L_name_of) := ⟨rfl, rfl, rfl, by decide +kernel, rfl, by decide +kernel, by decide +kernel⟩
theorem n_L_name_of_0 : L2.Loc (defScope s_L_name_of) "_law_big_here" := by unfold L2.Loc; decide +kernel
theorem v_L_name_of_0 : Vis (defScope s_L_name_of) "_law_big_here" := viL n_L_name_of_0
theorem n_L_name_of_1 : L2.Loc (defScope s_L_name_of) "_law_name" := by unfold L2.Loc; decide +kernel
theorem v_L_name_of_1 : Vis (defScope s_L_name_of) "_law_name" := viL n_L_name_of_1
theorem n_L_name_of_2 : L2.Loc (defScope s_L_name_of) "_law_size" := by unfold L2.Loc; decide +kernel
theorem v_L_name_of_2 : Vis (defScope s_L_name_of) "_law_size" := viL n_L_name_of_2
theorem n_L_name_of_3 : L2.Loc (defScope s_L_name_of) "_law_k" := by unfold L2.Loc; decide +kernel
theorem g_L_name_of_range : glP s_L_name_of "range" := by decide +kernel
abbrev s_L_step_of : Stmt := top 24
theorem sc_L_step_of : FnScope ["_law_big_here"] ["_law_big_here"] (defScope s_L_step_of) := ⟨rfl, rfl, rfl, by decide +kernel, rfl, by decide +kernel, by decide +kernel⟩
theorem n_L_step_of_0 : L2.Loc (defScope s_L_step_of) "_law_big_here" := by unfold L2.Loc; decide +kernel
theorem v_L_step_of_0 : Vis (defScope s_L_step_of) "_law_big_here" := viL n_L_step_of_0
abbrev s_L_up : Stmt := top 31
theorem sc_L_up : FnScope ["_law_rows", "_law_name", "_law_up_here", "_law_by_name", "_law_row"] ["_law_rows", "_law_name"] (defScope s_L_up) := ⟨rfl, rfl, rfl, by decide +kernel, rfl, by decide +kernel, by decide +kernel⟩
theorem n_L_up_0 : L2.Loc (defScope s_L_up) "_law_rows" := by unfold L2.Loc; decide +kernel
theorem v_L_up_0 : Vis (defScope s_L_up) "_law_rows" := viL n_L_up_0
theorem n_L_up_1 : L2.Loc (defScope s_L_up) "_law_name" := by unfold L2.Loc; decide +kernel
theorem v_L_up_1 : Vis (defScope s_L_up) "_law_name" := viL n_L_up_1
theorem n_L_up_2 : L2.Loc (defScope s_L_up) "_law_up_here" := by unfold L2.Loc; decide +kernel
theorem v_L_up_2 : Vis (defScope s_L_up) "_law_up_here" := viL n_L_up_2
theorem n_L_up_3 : L2.Loc (defScope s_L_up) "_law_by_name" := by unfold L2.Loc; decide +kernel
theorem v_L_up_3 : Vis (defScope s_L_up) "_law_by_name" := viL n_L_up_3
theorem n_L_up_4 : L2.Loc (defScope s_L_up) "_law_row" := by unfold L2.Loc; decide +kernel
theorem v_L_up_4 : Vis (defScope s_L_up) "_law_row" := viL n_L_up_4
abbrev s_L_low : Stmt := top 18
theorem sc_L_low : FnScope ["_law_top", "_law_bottom", "_law_one", "_law_other"] ["_law_top", "_law_bottom"] (defScope s_L_low) := ⟨rfl, rfl, rfl, by decide +kernel, rfl, by decide +kernel, by decide +kernel⟩
theorem n_L_low_0 : L2.Loc (defScope s_L_low) "_law_top" := by unfold L2.Loc; decide +kernel
theorem v_L_low_0 : Vis (defScope s_L_low) "_law_top" := viL n_L_low_0
theorem n_L_low_1 : L2.Loc (defScope s_L_low) "_law_bottom" := by unfold L2.Loc; decide +kernel
theorem v_L_low_1 : Vis (defScope s_L_low) "_law_bottom" := viL n_L_low_1
theorem n_L_low_2 : L2.Loc (defScope s_L_low) "_law_one" := by unfold L2.Loc; decide +kernel
theorem v_L_low_2 : Vis (defScope s_L_low) "_law_one" := viL n_L_low_2
theorem l_L_low_2 : (defScope s_L_low).names.lookup ("_law_one" : Str) = some NameKind.local := by decide +kernel
theorem n_L_low_3 : L2.Loc (defScope s_L_low) "_law_other" := by unfold L2.Loc; decide +kernel
theorem v_L_low_3 : Vis (defScope s_L_low) "_law_other" := viL n_L_low_3
theorem l_L_low_3 : (defScope s_L_low).names.lookup ("_law_other" : Str) = some NameKind.local := by decide +kernel
theorem g_L_low_abs : glP s_L_low "abs" := by decide +kernel
abbrev s_L_share_of : Stmt := top 22
theorem sc_L_share_of : FnScope ["_law_big_here", "_law_bottom"] ["_law_big_here"] (defScope s_L_share_of) := ⟨rfl, rfl, rfl, by decide +kernel, rfl, by decide +kernel, by decide +kernel⟩
theorem n_L_share_of_0 : L2.Loc (defScope s_L_share_of) "_law_big_here" := by unfold L2.Loc; decide +kernel
theorem v_L_share_of_0 : Vis (defScope s_L_share_of) "_law_big_here" := viL n_L_share_of_0
theorem n_L_share_of_1 : L2.Loc (defScope s_L_share_of) "_law_bottom" := by unfold L2.Loc; decide +kernel
theorem v_L_share_of_1 : Vis (defScope s_L_share_of) "_law_bottom" := viL n_L_share_of_1
theorem g_L_share_of__law_low : glP s_L_share_of "_law_low" := by decide +kernel
abbrev s_L_paint_of : Stmt := top 27
theorem sc_L_paint_of : FnScope ["_law_big_here", "_law_shade", "_law_share"] ["_law_big_here"] (defScope s_L_paint_of) := ⟨rfl, rfl, rfl, by decide +kernel, rfl, by decide +kernel, by decide +kernel⟩
theorem n_L_paint_of_0 : L2.Loc (defScope s_L_paint_of) "_law_big_here" := by unfold L2.Loc; decide +kernel
theorem v_L_paint_of_0 : Vis (defScope s_L_paint_of) "_law_big_here" := viL n_L_paint_of_0
theorem n_L_paint_of_1 : L2.Loc (defScope s_L_paint_of) "_law_shade" := by unfold L2.Loc; decide +kernel
theorem v_L_paint_of_1 : Vis (defScope s_L_paint_of) "_law_shade" := viL n_L_paint_of_1
theorem n_L_paint_of_2 : L2.Loc (defScope s_L_paint_of) "_law_share" := by unfold L2.Loc; decide +kernel
theorem v_L_paint_of_2 : Vis (defScope s_L_paint_of) "_law_share" := viL n_L_paint_of_2
theorem g_L_paint_of__law_share_of : glP s_L_paint_of "_law_share_of" := by decide +kernel
abbrev s_L_stencil_of : Stmt := top 26
theorem sc_L_stencil_of : FnScope ["_law_big_here", "_law_wide", "_law_high", "_law_rows", "_law_j", "_law_row", "_law_i"] ["_law_big_here"] (defScope s_L_stencil_of) := ⟨rfl, rfl, rfl, by decide +kernel, rfl, by decide +kernel, by decide +kernel⟩
theorem n_L_stencil_of_0 : L2.Loc (defScope s_L_stencil_of) "_law_big_here" := by unfold L2.Loc; decide +kernel
theorem v_L_stencil_of_0 : Vis (defScope s_L_stencil_of) "_law_big_here" := viL n_L_stencil_of_0
theorem n_L_stencil_of_1 : L2.Loc (defScope s_L_stencil_of) "_law_wide" := by unfold L2.Loc; decide +kernel
theorem v_L_stencil_of_1 : Vis (defScope s_L_stencil_of) "_law_wide" := viL n_L_stencil_of_1
theorem n_L_stencil_of_2 : L2.Loc (defScope s_L_stencil_of) "_law_high" := by unfold L2.Loc; decide +kernel
theorem v_L_stencil_of_2 : Vis (defScope s_L_stencil_of) "_law_high" := viL n_L_stencil_of_2
theorem n_L_stencil_of_3 : L2.Loc (defScope s_L_stencil_of) "_law_rows" := by unfold L2.Loc; decide +kernel
theorem v_L_stencil_of_3 : Vis (defScope s_L_stencil_of) "_law_rows" := viL n_L_stencil_of_3
theorem n_L_stencil_of_4 : L2.Loc (defScope s_L_stencil_of) "_law_j" := by unfold L2.Loc; decide +kernel
theorem n_L_stencil_of_5 : L2.Loc (defScope s_L_stencil_of) "_law_row" := by unfold L2.Loc; decide +kernel
theorem v_L_stencil_of_5 : Vis (defScope s_L_stencil_of) "_law_row" := viL n_L_stencil_of_5
theorem n_L_stencil_of_6 : L2.Loc (defScope s_L_stencil_of) "_law_i" := by unfold L2.Loc; decide +kernel
theorem g_L_stencil_of_range : glP s_L_stencil_of "range" := by decide +kernel
theorem g_L_stencil_of_tuple : glP s_L_stencil_of "tuple" := by decide +kernel
abbrev s_L_size_of : Stmt := top 25
theorem sc_L_size_of : FnScope ["_law_big_here", "_law_most"] ["_law_big_here", "_law_most"] (defScope s_L_size_of) := ⟨rfl, rfl, rfl, by decide +kernel, rfl, by decide +kernel, by decide +kernel⟩
theorem n_L_size_of_0 : L2.Loc (defScope s_L_size_of) "_law_big_here" := by unfold L2.Loc; decide +kernel
theorem v_L_size_of_0 : Vis (defScope s_L_size_of) "_law_big_here" := viL n_L_size_of_0
theorem n_L_size_of_1 : L2.Loc (defScope s_L_size_of) "_law_most" := by unfold L2.Loc; decide +kernel
theorem v_L_size_of_1 : Vis (defScope s_L_size_of) "_law_most" := viL n_L_size_of_1
abbrev s_L_word_of : Stmt := top 28
theorem sc_L_word_of : FnScope ["_law_big_here", "_law_text", "_law_size", "_law_k"] ["_law_big_here"] (defScope s_L_word_of) := ⟨rfl, rfl, rfl, by decide +kernel, rfl, by decide +kernel, by decide +kernel⟩
theorem n_L_word_of_0 : L2.Loc (defScope s_L_word_of) "_law_big_here" := by unfold L2.Loc; decide +kernel
theorem v_L_word_of_0 : Vis (defScope s_L_word_of) "_law_big_here" := viL n_L_word_of_0
theorem n_L_word_of_1 : L2.Loc (defScope s_L_word_of) "_law_text" := by unfold L2.Loc; decide +kernel
theorem v_L_word_of_1 : Vis (defScope s_L_word_of) "_law_text" := viL n_L_word_of_1
theorem n_L_word_of_2 : L2.Loc (defScope s_L_word_of) "_law_size" := by unfold L2.Loc; decide +kernel
theorem v_L_word_of_2 : Vis (defScope s_L_word_of) "_law_size" := viL n_L_word_of_2
theorem n_L_word_of_3 : L2.Loc (defScope s_L_word_of) "_law_k" := by unfold L2.Loc; decide +kernel
theorem g_L_word_of_range : glP s_L_word_of "range" := by decide +kernel
abbrev s_L_data_of : Stmt := top 29
theorem sc_L_data_of : FnScope ["_law_kind", "_law_big_here", "_law_data", "_law_w", "_law_h", "_law_sx", "_law_sy", "_law_shade", "_law_share", "_law_text", "_law_rows"] ["_law_kind", "_law_big_here"] (defScope s_L_data_of) := ⟨rfl, rfl, rfl, by decide +kernel, rfl, by decide +kernel, by decide +kernel⟩
theorem n_L_data_of_0 : L2.Loc (defScope s_L_data_of) "_law_kind" := by unfold L2.Loc; decide +kernel
theorem v_L_data_of_0 : Vis (defScope s_L_data_of) "_law_kind" := viL n_L_data_of_0
theorem n_L_data_of_1 : L2.Loc (defScope s_L_data_of) "_law_big_here" := by unfold L2.Loc; decide +kernel
theorem v_L_data_of_1 : Vis (defScope s_L_data_of) "_law_big_here" := viL n_L_data_of_1
theorem n_L_data_of_2 : L2.Loc (defScope s_L_data_of) "_law_data" := by unfold L2.Loc; decide +kernel
theorem v_L_data_of_2 : Vis (defScope s_L_data_of) "_law_data" := viL n_L_data_of_2
theorem n_L_data_of_3 : L2.Loc (defScope s_L_data_of) "_law_w" := by unfold L2.Loc; decide +kernel
theorem v_L_data_of_3 : Vis (defScope s_L_data_of) "_law_w" := viL n_L_data_of_3
theorem n_L_data_of_4 : L2.Loc (defScope s_L_data_of) "_law_h" := by unfold L2.Loc; decide +kernel
theorem v_L_data_of_4 : Vis (defScope s_L_data_of) "_law_h" := viL n_L_data_of_4
theorem n_L_data_of_5 : L2.Loc (defScope s_L_data_of) "_law_sx" := by unfold L2.Loc; decide +kernel
theorem v_L_data_of_5 : Vis (defScope s_L_data_of) "_law_sx" := viL n_L_data_of_5
theorem n_L_data_of_6 : L2.Loc (defScope s_L_data_of) "_law_sy" := by unfold L2.Loc; decide +kernel
theorem v_L_data_of_6 : Vis (defScope s_L_data_of) "_law_sy" := viL n_L_data_of_6
theorem n_L_data_of_7 : L2.Loc (defScope s_L_data_of) "_law_shade" := by unfold L2.Loc; decide +kernel
theorem v_L_data_of_7 : Vis (defScope s_L_data_of) "_law_shade" := viL n_L_data_of_7
theorem n_L_data_of_8 : L2.Loc (defScope s_L_data_of) "_law_share" := by unfold L2.Loc; decide +kernel
theorem v_L_data_of_8 : Vis (defScope s_L_data_of) "_law_share" := viL n_L_data_of_8
theorem n_L_data_of_9 : L2.Loc (defScope s_L_data_of) "_law_text" := by unfold L2.Loc; decide +kernel
theorem v_L_data_of_9 : Vis (defScope s_L_data_of) "_law_text" := viL n_L_data_of_9
theorem n_L_data_of_10 : L2.Loc (defScope s_L_data_of) "_law_rows" := by unfold L2.Loc; decide +kernel
theorem v_L_data_of_10 : Vis (defScope s_L_data_of) "_law_rows" := viL n_L_data_of_10
theorem g_L_data_of__law_size_of : glP s_L_data_of "_law_size_of" := by decide +kernel
theorem g_L_data_of__law_step_of : glP s_L_data_of "_law_step_of" := by decide +kernel
theorem g_L_data_of__law_paint_of : glP s_L_data_of "_law_paint_of" := by decide +kernel
theorem g_L_data_of__law_word_of : glP s_L_data_of "_law_word_of" := by decide +kernel
theorem g_L_data_of__law_stencil_of : glP s_L_data_of "_law_stencil_of" := by decide +kernel
abbrev s_L_kinds : Stmt := top 30
theorem sc_L_kinds : FnScope ["_law_leaves"] [] (defScope s_L_kinds) := ⟨rfl, rfl, rfl, by decide +kernel, rfl, by decide +kernel, by decide +kernel⟩
theorem n_L_kinds_0 : L2.Loc (defScope s_L_kinds) "_law_leaves" := by unfold L2.Loc; decide +kernel
theorem v_L_kinds_0 : Vis (defScope s_L_kinds) "_law_leaves" := viL n_L_kinds_0
abbrev s_L_row_of : Stmt := top 32
theorem sc_L_row_of : FnScope ["_law_rows", "_law_big_here", "_law_name", "_law_holders", "_law_row", "_law_holder", "_law_x", "_law_y", "_law_kind", "_law_up_here", "_law_shown", "_law_data"] ["_law_rows", "_law_big_here"] (defScope s_L_row_of) := ⟨rfl, rfl, rfl, by decide +kernel, rfl, by decide +kernel, by decide +kernel⟩
theorem n_L_row_of_0 : L2.Loc (defScope s_L_row_of) "_law_rows" := by unfold L2.Loc; decide +kernel
theorem v_L_row_of_0 : Vis (defScope s_L_row_of) "_law_rows" := viL n_L_row_of_0
theorem n_L_row_of_1 : L2.Loc (defScope s_L_row_of) "_law_big_here" := by unfold L2.Loc; decide +kernel
theorem v_L_row_of_1 : Vis (defScope s_L_row_of) "_law_big_here" := viL n_L_row_of_1
theorem n_L_row_of_2 : L2.Loc (defScope s_L_row_of) "_law_name" := by unfold L2.Loc; decide +kernel
theorem v_L_row_of_2 : Vis (defScope s_L_row_of) "_law_name" := viL n_L_row_of_2
theorem n_L_row_of_3 : L2.Loc (defScope s_L_row_of) "_law_holders" := by unfold L2.Loc; decide +kernel
theorem v_L_row_of_3 : Vis (defScope s_L_row_of) "_law_holders" := viL n_L_row_of_3
theorem n_L_row_of_4 : L2.Loc (defScope s_L_row_of) "_law_row" := by unfold L2.Loc; decide +kernel
theorem v_L_row_of_4 : Vis (defScope s_L_row_of) "_law_row" := viL n_L_row_of_4
theorem n_L_row_of_5 : L2.Loc (defScope s_L_row_of) "_law_holder" := by unfold L2.Loc; decide +kernel
theorem v_L_row_of_5 : Vis (defScope s_L_row_of) "_law_holder" := viL n_L_row_of_5
theorem n_L_row_of_6 : L2.Loc (defScope s_L_row_of) "_law_x" := by unfold L2.Loc; decide +kernel
theorem v_L_row_of_6 : Vis (defScope s_L_row_of) "_law_x" := viL n_L_row_of_6
theorem n_L_row_of_7 : L2.Loc (defScope s_L_row_of) "_law_y" := by unfold L2.Loc; decide +kernel
theorem v_L_row_of_7 : Vis (defScope s_L_row_of) "_law_y" := viL n_L_row_of_7
theorem n_L_row_of_8 : L2.Loc (defScope s_L_row_of) "_law_kind" := by unfold L2.Loc; decide +kernel
theorem v_L_row_of_8 : Vis (defScope s_L_row_of) "_law_kind" := viL n_L_row_of_8
theorem n_L_row_of_9 : L2.Loc (defScope s_L_row_of) "_law_up_here" := by unfold L2.Loc; decide +kernel
theorem n_L_row_of_10 : L2.Loc (defScope s_L_row_of) "_law_shown" := by unfold L2.Loc; decide +kernel
theorem v_L_row_of_10 : Vis (defScope s_L_row_of) "_law_shown" := viL n_L_row_of_10
theorem n_L_row_of_11 : L2.Loc (defScope s_L_row_of) "_law_data" := by unfold L2.Loc; decide +kernel
theorem v_L_row_of_11 : Vis (defScope s_L_row_of) "_law_data" := viL n_L_row_of_11
theorem g_L_row_of__law_name_of : glP s_L_row_of "_law_name_of" := by decide +kernel
theorem g_L_row_of__law_up : glP s_L_row_of "_law_up" := by decide +kernel
theorem g_L_row_of_len : glP s_L_row_of "len" := by decide +kernel
theorem g_L_row_of__law_kinds : glP s_L_row_of "_law_kinds" := by decide +kernel
theorem g_L_row_of__law_step_of : glP s_L_row_of "_law_step_of" := by decide +kernel
theorem g_L_row_of__law_data_of : glP s_L_row_of "_law_data_of" := by decide +kernel
theorem nd0_L_row_of : List.Nodup (["_law_row", "_law_up_here"] : List Str) := by decide +kernel
abbrev s_L_cell_at : Stmt := top 16
theorem sc_L_cell_at : FnScope ["_law_script", "_law_k"] ["_law_script", "_law_k"] (defScope s_L_cell_at) := ⟨rfl, rfl, rfl, by decide +kernel, rfl, by decide +kernel, by decide +kernel⟩
theorem n_L_cell_at_0 : L2.Loc (defScope s_L_cell_at) "_law_script" := by unfold L2.Loc; decide +kernel
theorem v_L_cell_at_0 : Vis (defScope s_L_cell_at) "_law_script" := viL n_L_cell_at_0
theorem n_L_cell_at_1 : L2.Loc (defScope s_L_cell_at) "_law_k" := by unfold L2.Loc; decide +kernel
theorem v_L_cell_at_1 : Vis (defScope s_L_cell_at) "_law_k" := viL n_L_cell_at_1
theorem g_L_cell_at_len : glP s_L_cell_at "len" := by decide +kernel
abbrev s_L_big : Stmt := top 17
theorem sc_L_big : FnScope ["_law_script", "_law_at", "_law_by", "_law_prime", "_law_cell", "_law_big_here", "_law_k", "_law_one"] ["_law_script", "_law_at"] (defScope s_L_big) := ⟨rfl, rfl, rfl, by decide +kernel, rfl, by decide +kernel, by decide +kernel⟩
theorem n_L_big_0 : L2.Loc (defScope s_L_big) "_law_script" := by unfold L2.Loc; decide +kernel
theorem v_L_big_0 : Vis (defScope s_L_big) "_law_script" := viL n_L_big_0
theorem n_L_big_1 : L2.Loc (defScope s_L_big) "_law_at" := by unfold L2.Loc; decide +kernel
theorem v_L_big_1 : Vis (defScope s_L_big) "_law_at" := viL n_L_big_1
theorem n_L_big_2 : L2.Loc (defScope s_L_big) "_law_by" := by unfold L2.Loc; decide +kernel
theorem v_L_big_2 : Vis (defScope s_L_big) "_law_by" := viL n_L_big_2
theorem n_L_big_3 : L2.Loc (defScope s_L_big) "_law_prime" := by unfold L2.Loc; decide +kernel
theorem v_L_big_3 : Vis (defScope s_L_big) "_law_prime" := viL n_L_big_3
theorem n_L_big_4 : L2.Loc (defScope s_L_big) "_law_cell" := by unfold L2.Loc; decide +kernel
theorem v_L_big_4 : Vis (defScope s_L_big) "_law_cell" := viL n_L_big_4
theorem n_L_big_5 : L2.Loc (defScope s_L_big) "_law_big_here" := by unfold L2.Loc; decide +kernel
theorem v_L_big_5 : Vis (defScope s_L_big) "_law_big_here" := viL n_L_big_5
theorem n_L_big_6 : L2.Loc (defScope s_L_big) "_law_k" := by unfold L2.Loc; decide +kernel
theorem v_L_big_6 : Vis (defScope s_L_big) "_law_k" := viL n_L_big_6
theorem n_L_big_7 : L2.Loc (defScope s_L_big) "_law_one" := by unfold L2.Loc; decide +kernel
theorem v_L_big_7 : Vis (defScope s_L_big) "_law_one" := viL n_L_big_7
theorem g_L_big__law_cell_at : glP s_L_big "_law_cell_at" := by decide +kernel
theorem g_L_big_range : glP s_L_big "range" := by decide +kernel
abbrev s_L_scene_of : Stmt := top 33
theorem sc_L_scene_of : FnScope ["_law_script", "_law_first", "_law_many_here", "_law_rows", "_law_k", "_law_row", "_law_big_here"] ["_law_script", "_law_first", "_law_many_here"] (defScope s_L_scene_of) := ⟨rfl, rfl, rfl, by decide +kernel, rfl, by decide +kernel, by decide +kernel⟩
theorem n_L_scene_of_0 : L2.Loc (defScope s_L_scene_of) "_law_script" := by unfold L2.Loc; decide +kernel
theorem v_L_scene_of_0 : Vis (defScope s_L_scene_of) "_law_script" := viL n_L_scene_of_0
theorem n_L_scene_of_1 : L2.Loc (defScope s_L_scene_of) "_law_first" := by unfold L2.Loc; decide +kernel
theorem v_L_scene_of_1 : Vis (defScope s_L_scene_of) "_law_first" := viL n_L_scene_of_1
theorem n_L_scene_of_2 : L2.Loc (defScope s_L_scene_of) "_law_many_here" := by unfold L2.Loc; decide +kernel
theorem v_L_scene_of_2 : Vis (defScope s_L_scene_of) "_law_many_here" := viL n_L_scene_of_2
theorem n_L_scene_of_3 : L2.Loc (defScope s_L_scene_of) "_law_rows" := by unfold L2.Loc; decide +kernel
theorem v_L_scene_of_3 : Vis (defScope s_L_scene_of) "_law_rows" := viL n_L_scene_of_3
theorem n_L_scene_of_4 : L2.Loc (defScope s_L_scene_of) "_law_k" := by unfold L2.Loc; decide +kernel
theorem v_L_scene_of_4 : Vis (defScope s_L_scene_of) "_law_k" := viL n_L_scene_of_4
theorem n_L_scene_of_5 : L2.Loc (defScope s_L_scene_of) "_law_row" := by unfold L2.Loc; decide +kernel
theorem v_L_scene_of_5 : Vis (defScope s_L_scene_of) "_law_row" := viL n_L_scene_of_5
theorem n_L_scene_of_6 : L2.Loc (defScope s_L_scene_of) "_law_big_here" := by unfold L2.Loc; decide +kernel
theorem g_L_scene_of_range : glP s_L_scene_of "range" := by decide +kernel
theorem g_L_scene_of__law_big : glP s_L_scene_of "_law_big" := by decide +kernel
theorem g_L_scene_of__law_row_of : glP s_L_scene_of "_law_row_of" := by decide +kernel
theorem nd0_L_scene_of : List.Nodup (["_law_one"] : List Str) := by decide +kernel
abbrev s_L_many : Stmt := top 39
theorem sc_L_many : FnScope ["_law_script", "_law_many_here", "_law_most"] ["_law_script", "_law_many_here", "_law_most"] (defScope s_L_many) := ⟨rfl, rfl, rfl, by decide +kernel, rfl, by decide +kernel, by decide +kernel⟩
theorem n_L_many_0 : L2.Loc (defScope s_L_many) "_law_script" := by unfold L2.Loc; decide +kernel
theorem v_L_many_0 : Vis (defScope s_L_many) "_law_script" := viL n_L_many_0
theorem n_L_many_1 : L2.Loc (defScope s_L_many) "_law_many_here" := by unfold L2.Loc; decide +kernel
theorem v_L_many_1 : Vis (defScope s_L_many) "_law_many_here" := viL n_L_many_1
theorem n_L_many_2 : L2.Loc (defScope s_L_many) "_law_most" := by unfold L2.Loc; decide +kernel
theorem v_L_many_2 : Vis (defScope s_L_many) "_law_most" := viL n_L_many_2
theorem g_L_many__law_cell_at : glP s_L_many "_law_cell_at" := by decide +kernel
abbrev s_L_texts : Stmt := top 37
theorem sc_L_texts : FnScope ["_law_found", "_law_due"] ["_law_found", "_law_due"] (defScope s_L_texts) := ⟨rfl, rfl, rfl, by decide +kernel, rfl, by decide +kernel, by decide +kernel⟩
theorem n_L_texts_0 : L2.Loc (defScope s_L_texts) "_law_found" := by unfold L2.Loc; decide +kernel
theorem v_L_texts_0 : Vis (defScope s_L_texts) "_law_found" := viL n_L_texts_0
theorem n_L_texts_1 : L2.Loc (defScope s_L_texts) "_law_due" := by unfold L2.Loc; decide +kernel
theorem v_L_texts_1 : Vis (defScope s_L_texts) "_law_due" := viL n_L_texts_1
theorem g_L_texts_list : glP s_L_texts "list" := by decide +kernel
theorem g_L_texts_isinstance : glP s_L_texts "isinstance" := by decide +kernel
theorem nd0_L_texts : List.Nodup (["_law_one"] : List Str) := by decide +kernel
abbrev s_row_name : Stmt := top 6
theorem sc_row_name : FnScope ["row"] ["row"] (defScope s_row_name) := ⟨rfl, rfl, rfl, by decide +kernel, rfl, by decide +kernel, by decide +kernel⟩
theorem n_row_name_0 : L2.Loc (defScope s_row_name) "row" := by unfold L2.Loc; decide +kernel
theorem v_row_name_0 : Vis (defScope s_row_name) "row" := viL n_row_name_0
abbrev s_row_holder : Stmt := top 7
theorem sc_row_holder : FnScope ["row"] ["row"] (defScope s_row_holder) := ⟨rfl, rfl, rfl, by decide +kernel, rfl, by decide +kernel, by decide +kernel⟩
theorem n_row_holder_0 : L2.Loc (defScope s_row_holder) "row" := by unfold L2.Loc; decide +kernel
theorem v_row_holder_0 : Vis (defScope s_row_holder) "row" := viL n_row_holder_0
abbrev s_kid_rows : Stmt := top 11
theorem sc_kid_rows : FnScope ["rows", "name"] ["rows", "name"] (defScope s_kid_rows) := ⟨rfl, rfl, rfl, by decide +kernel, rfl, by decide +kernel, by decide +kernel⟩
theorem n_kid_rows_0 : L2.Loc (defScope s_kid_rows) "rows" := by unfold L2.Loc; decide +kernel
theorem v_kid_rows_0 : Vis (defScope s_kid_rows) "rows" := viL n_kid_rows_0
theorem nd0_kid_rows : List.Nodup (["row", "name"] : List Str) := by decide +kernel
abbrev s_kids_of : Stmt := top 12
theorem sc_kids_of : FnScope ["rows", "name"] ["rows", "name"] (defScope s_kids_of) := ⟨rfl, rfl, rfl, by decide +kernel, rfl, by decide +kernel, by decide +kernel⟩
theorem n_kids_of_0 : L2.Loc (defScope s_kids_of) "rows" := by unfold L2.Loc; decide +kernel
theorem v_kids_of_0 : Vis (defScope s_kids_of) "rows" := viL n_kids_of_0
theorem n_kids_of_1 : L2.Loc (defScope s_kids_of) "name" := by unfold L2.Loc; decide +kernel
theorem v_kids_of_1 : Vis (defScope s_kids_of) "name" := viL n_kids_of_1
theorem g_kids_of_kid_rows : glP s_kids_of "kid_rows" := by decide +kernel
theorem nd0_kids_of : List.Nodup (["row"] : List Str) := by decide +kernel
abbrev s_row_found : Stmt := top 9
theorem sc_row_found : FnScope ["rows", "name", "row"] ["rows", "name"] (defScope s_row_found) := ⟨rfl, rfl, rfl, by decide +kernel, rfl, by decide +kernel, by decide +kernel⟩
theorem n_row_found_0 : L2.Loc (defScope s_row_found) "rows" := by unfold L2.Loc; decide +kernel
theorem v_row_found_0 : Vis (defScope s_row_found) "rows" := viL n_row_found_0
theorem n_row_found_1 : L2.Loc (defScope s_row_found) "name" := by unfold L2.Loc; decide +kernel
theorem v_row_found_1 : Vis (defScope s_row_found) "name" := viL n_row_found_1
theorem n_row_found_2 : L2.Loc (defScope s_row_found) "row" := by unfold L2.Loc; decide +kernel
theorem v_row_found_2 : Vis (defScope s_row_found) "row" := viL n_row_found_2
theorem g_row_found_row_name : glP s_row_found "row_name" := by decide +kernel
abbrev s_row_of : Stmt := top 10
theorem sc_row_of : FnScope ["rows", "name", "row"] ["rows", "name"] (defScope s_row_of) := ⟨rfl, rfl, rfl, by decide +kernel, rfl, by decide +kernel, by decide +kernel⟩
theorem n_row_of_0 : L2.Loc (defScope s_row_of) "rows" := by unfold L2.Loc; decide +kernel
theorem v_row_of_0 : Vis (defScope s_row_of) "rows" := viL n_row_of_0
theorem n_row_of_1 : L2.Loc (defScope s_row_of) "name" := by unfold L2.Loc; decide +kernel
theorem v_row_of_1 : Vis (defScope s_row_of) "name" := viL n_row_of_1
theorem n_row_of_2 : L2.Loc (defScope s_row_of) "row" := by unfold L2.Loc; decide +kernel
theorem v_row_of_2 : Vis (defScope s_row_of) "row" := viL n_row_of_2
theorem g_row_of_row_found : glP s_row_of "row_found" := by decide +kernel
abbrev s_holders_of : Stmt := top 13
theorem sc_holders_of : FnScope ["rows", "name", "holders", "row"] ["rows", "name"] (defScope s_holders_of) := ⟨rfl, rfl, rfl, by decide +kernel, rfl, by decide +kernel, by decide +kernel⟩
theorem n_holders_of_0 : L2.Loc (defScope s_holders_of) "rows" := by unfold L2.Loc; decide +kernel
theorem v_holders_of_0 : Vis (defScope s_holders_of) "rows" := viL n_holders_of_0
theorem n_holders_of_1 : L2.Loc (defScope s_holders_of) "name" := by unfold L2.Loc; decide +kernel
theorem v_holders_of_1 : Vis (defScope s_holders_of) "name" := viL n_holders_of_1
theorem n_holders_of_2 : L2.Loc (defScope s_holders_of) "holders" := by unfold L2.Loc; decide +kernel
theorem v_holders_of_2 : Vis (defScope s_holders_of) "holders" := viL n_holders_of_2
theorem n_holders_of_3 : L2.Loc (defScope s_holders_of) "row" := by unfold L2.Loc; decide +kernel
theorem v_holders_of_3 : Vis (defScope s_holders_of) "row" := viL n_holders_of_3
theorem g_holders_of_row_found : glP s_holders_of "row_found" := by decide +kernel
theorem g_holders_of_row_holder : glP s_holders_of "row_holder" := by decide +kernel
abbrev s_parts_in : Stmt := top 14
theorem sc_parts_in : FnScope ["rows", "name"] ["rows", "name"] (defScope s_parts_in) := ⟨rfl, rfl, rfl, by decide +kernel, rfl, by decide +kernel, by decide +kernel⟩
theorem n_parts_in_0 : L2.Loc (defScope s_parts_in) "rows" := by unfold L2.Loc; decide +kernel
theorem v_parts_in_0 : Vis (defScope s_parts_in) "rows" := viL n_parts_in_0
theorem nd0_parts_in : List.Nodup (["row", "name", "rows"] : List Str) := by decide +kernel
abbrev s_L_chain : Stmt := top 35
theorem sc_L_chain : FnScope ["_law_rows", "_law_name", "_law_by_name", "_law_row", "_law_chain_here"] ["_law_rows", "_law_name"] (defScope s_L_chain) := ⟨rfl, rfl, rfl, by decide +kernel, rfl, by decide +kernel, by decide +kernel⟩
theorem n_L_chain_0 : L2.Loc (defScope s_L_chain) "_law_rows" := by unfold L2.Loc; decide +kernel
theorem v_L_chain_0 : Vis (defScope s_L_chain) "_law_rows" := viL n_L_chain_0
theorem n_L_chain_1 : L2.Loc (defScope s_L_chain) "_law_name" := by unfold L2.Loc; decide +kernel
theorem v_L_chain_1 : Vis (defScope s_L_chain) "_law_name" := viL n_L_chain_1
theorem n_L_chain_2 : L2.Loc (defScope s_L_chain) "_law_by_name" := by unfold L2.Loc; decide +kernel
theorem v_L_chain_2 : Vis (defScope s_L_chain) "_law_by_name" := viL n_L_chain_2
theorem n_L_chain_3 : L2.Loc (defScope s_L_chain) "_law_row" := by unfold L2.Loc; decide +kernel
theorem v_L_chain_3 : Vis (defScope s_L_chain) "_law_row" := viL n_L_chain_3
theorem n_L_chain_4 : L2.Loc (defScope s_L_chain) "_law_chain_here" := by unfold L2.Loc; decide +kernel
theorem v_L_chain_4 : Vis (defScope s_L_chain) "_law_chain_here" := viL n_L_chain_4
abbrev s_L_inner : Stmt := top 36
theorem sc_L_inner : FnScope ["_law_rows", "_law_name"] ["_law_rows", "_law_name"] (defScope s_L_inner) := ⟨rfl, rfl, rfl, by decide +kernel, rfl, by decide +kernel, by decide +kernel⟩
theorem n_L_inner_0 : L2.Loc (defScope s_L_inner) "_law_rows" := by unfold L2.Loc; decide +kernel
theorem v_L_inner_0 : Vis (defScope s_L_inner) "_law_rows" := viL n_L_inner_0
theorem nd0_L_inner : List.Nodup (["_law_row", "_law_name", "_law_rows"] : List Str) := by decide +kernel
abbrev s_L_no_row : Stmt := top 38
abbrev s_law : Stmt := top 40
theorem sc_law : FnScope ["_law_script", "_law_rows", "_law_handed", "_law_turn", "_law_row", "_law_told", "_law_due", "_law_k", "_law_names", "_law_name"] ["_law_script"] (defScope s_law) := ⟨rfl, rfl, rfl, by decide +kernel, rfl, by decide +kernel, by decide +kernel⟩
theorem n_law_0 : L2.Loc (defScope s_law) "_law_script" := by unfold L2.Loc; decide +kernel
theorem v_law_0 : Vis (defScope s_law) "_law_script" := viL n_law_0
theorem n_law_1 : L2.Loc (defScope s_law) "_law_rows" := by unfold L2.Loc; decide +kernel
theorem v_law_1 : Vis (defScope s_law) "_law_rows" := viL n_law_1
theorem n_law_2 : L2.Loc (defScope s_law) "_law_handed" := by unfold L2.Loc; decide +kernel
theorem v_law_2 : Vis (defScope s_law) "_law_handed" := viL n_law_2
theorem n_law_3 : L2.Loc (defScope s_law) "_law_turn" := by unfold L2.Loc; decide +kernel
theorem n_law_4 : L2.Loc (defScope s_law) "_law_row" := by unfold L2.Loc; decide +kernel
theorem v_law_4 : Vis (defScope s_law) "_law_row" := viL n_law_4
theorem n_law_5 : L2.Loc (defScope s_law) "_law_told" := by unfold L2.Loc; decide +kernel
theorem v_law_5 : Vis (defScope s_law) "_law_told" := viL n_law_5
theorem n_law_6 : L2.Loc (defScope s_law) "_law_due" := by unfold L2.Loc; decide +kernel
theorem v_law_6 : Vis (defScope s_law) "_law_due" := viL n_law_6
theorem n_law_7 : L2.Loc (defScope s_law) "_law_k" := by unfold L2.Loc; decide +kernel
theorem v_law_7 : Vis (defScope s_law) "_law_k" := viL n_law_7
theorem n_law_8 : L2.Loc (defScope s_law) "_law_names" := by unfold L2.Loc; decide +kernel
theorem v_law_8 : Vis (defScope s_law) "_law_names" := viL n_law_8
theorem l_law_8 : (defScope s_law).names.lookup ("_law_names" : Str) = some NameKind.local := by decide +kernel
theorem n_law_9 : L2.Loc (defScope s_law) "_law_name" := by unfold L2.Loc; decide +kernel
theorem v_law_9 : Vis (defScope s_law) "_law_name" := viL n_law_9
theorem g_law__law_big : glP s_law "_law_big" := by decide +kernel
theorem g_law__law_many : glP s_law "_law_many" := by decide +kernel
theorem g_law__law_scene_of : glP s_law "_law_scene_of" := by decide +kernel
theorem g_law_list : glP s_law "list" := by decide +kernel
theorem g_law_range : glP s_law "range" := by decide +kernel
theorem g_law_kids_of : glP s_law "kids_of" := by decide +kernel
theorem g_law__law_texts : glP s_law "_law_texts" := by decide +kernel
theorem g_law_row_of : glP s_law "row_of" := by decide +kernel
theorem g_law_parts_in : glP s_law "parts_in" := by decide +kernel
theorem g_law_holders_of : glP s_law "holders_of" := by decide +kernel
theorem g_law__law_inner : glP s_law "_law_inner" := by decide +kernel
theorem g_law__law_chain : glP s_law "_law_chain" := by decide +kernel
theorem g_law__law_name_of : glP s_law "_law_name_of" := by decide +kernel
theorem g_law__law_no_row : glP s_law "_law_no_row" := by decide +kernel
theorem nd0_law : List.Nodup (["_law_row"] : List Str) := by decide +kernel
theorem nd1_law : List.Nodup (["_law_one", "_law_row"] : List Str) := by decide +kernel
theorem nd2_law : List.Nodup (["_law_row"] : List Str) := by decide +kernel
def m_L_name_of : List L -> Option (PyData × List L) := dFun false 1 3 (dSeq (dAsg (dC (.str "")) (dN 1)) (dSeq (dAsg (dOp fAdd (dC (.int 1)) (dOp fMod (dVar 0) (dC (.int 8)))) (dN 2)) (dSeq (dAsg (dOp fDiv (dVar 0) (dC (.int 8))) (dN 0)) (dSeq (dFor (dR1 (dACons (dVar 2) dANil)) (dN 3) (dSeq (dAsg (dOp fCatS (dVar 1) (dOp fIxS (dC (.str "abcdefghijklmnopqrstuvwxyz0123456789")) (dOp fMod (dVar 0) (dC (.int 36))))) (dN 1)) (dAsg (dOp fDiv (dVar 0) (dC (.int 36))) (dN 0)))) (dRet (dTup (dACons (dVar 1) (dACons (dVar 0) dANil))))))))
def m_L_step_of : List L -> Option (PyData × List L) := dFun false 1 0 (dSeq (dIfS (dTest (dOp fEq (dOp fMod (dVar 0) (dC (.int 6))) (dC (.int 0)))) (dRet (dTup (dACons (dOp fSub (dOp fMod (dOp fDiv (dVar 0) (dC (.int 6))) (dC (.int 121))) (dC (.int 60))) (dACons (dOp fDiv (dVar 0) (dC (.int 726))) dANil)))) dNil) (dRet (dTup (dACons (dOp fSub (dOp fMod (dOp fDiv (dVar 0) (dC (.int 6))) (dC (.int 12))) (dC (.int 3))) (dACons (dOp fDiv (dVar 0) (dC (.int 72))) dANil)))))
def m_L_up : List L -> Option (PyData × List L) := dFun true 2 3 (dSeq (dNew 2 2) (dSeq (dNewX 2 3) (dSeq (dFor (dIL (dVar 0)) (dN 4) (dPutX 3 (dVar 4) (dOp fIxT (dVar 4) (dC (.int 0))))) (dSeq (dWhile (fun _ => 100) (dTAnd (dTest (dOp fNe (dVar 1) (dC (.str "")))) (dTest (dInX false (dVar 1) 3))) (dSeq (dExpr (dMt 2 gAppend (dACons (dVar 1) dANil))) (dAsg (dOp fIxT (dIxX 3 (dVar 1)) (dC (.int 1))) (dN 1)))) (dRetM 2 2)))))
def m_L_low : List L -> Option (PyData × List L) := dFun false 2 2 (dSeq (dPar 2 3 (dACons (dApp fAbs (dACons (dVar 0) dANil)) (dACons (dVar 1) dANil))) (dSeq (dWhile (fuelI 3) (dTest (dOp fGt (dVar 3) (dC (.int 0)))) (dPar 2 3 (dACons (dVar 3) (dACons (dOp fMod (dVar 2) (dVar 3)) dANil)))) (dRet (dTup (dACons (dOp fDiv (dVar 0) (dVar 2)) (dACons (dOp fDiv (dVar 1) (dVar 2)) dANil))))))
def m_L_share_of : List L -> Option (PyData × List L) := dFun false 1 1 (dSeq (dAsg (dOp fIxT (dTup (dACons (dC (.int 1)) (dACons (dC (.int 1)) (dACons (dC (.int 2)) (dACons (dC (.int 3)) dANil))))) (dOp fMod (dVar 0) (dC (.int 4)))) (dN 1)) (dSeq (dIfS (dTest (dOp fEq (dOp fMod (dOp fDiv (dVar 0) (dC (.int 4))) (dC (.int 4))) (dC (.int 0)))) (dAsg (dOp fAdd (dC (.int 1)) (dOp fMod (dOp fDiv (dVar 0) (dC (.int 16))) (dC (.int 12)))) (dN 1)) dNil) (dSeq (dIfS (dTest (dOp fEq (dOp fMod (dOp fDiv (dVar 0) (dC (.int 4))) (dC (.int 16))) (dC (.int 1)))) (dAsg (dOp fAdd (dC (.int 1)) (dOp fMod (dOp fDiv (dVar 0) (dC (.int 16))) (dC (.int 1000)))) (dN 1)) dNil) (dSeq (dAsg (dOp fDiv (dVar 0) (dC (.int 16000))) (dN 0)) (dRet (dTup (dACons (dCall m_L_low (dACons (dOp fMod (dVar 0) (dOp fAdd (dVar 1) (dC (.int 1)))) (dACons (dVar 1) dANil))) (dACons (dOp fDiv (dVar 0) (dOp fAdd (dVar 1) (dC (.int 1)))) dANil))))))))
def m_L_paint_of : List L -> Option (PyData × List L) := dFun false 1 2 (dSeq (dAsg (dCall m_L_share_of (dACons (dVar 0) dANil)) (dGT (dGCons (dN 1) (dGCons (dN 0) dGNil)))) (dSeq (dIfS (dTest (dOp fEq (dOp fMod (dVar 0) (dC (.int 3))) (dC (.int 0)))) (dRet (dTup (dACons (dVar 1) (dACons (dTup (dACons (dC (.int 1)) (dACons (dC (.int 1)) dANil))) (dACons (dOp fDiv (dVar 0) (dC (.int 3))) dANil))))) dNil) (dSeq (dAsg (dCall m_L_share_of (dACons (dOp fDiv (dVar 0) (dC (.int 3))) dANil)) (dGT (dGCons (dN 2) (dGCons (dN 0) dGNil)))) (dRet (dTup (dACons (dVar 1) (dACons (dVar 2) (dACons (dVar 0) dANil))))))))
def m_L_stencil_of : List L -> Option (PyData × List L) := dFun false 1 6 (dSeq (dAsg (dOp fAdd (dC (.int 1)) (dOp fMod (dVar 0) (dC (.int 8)))) (dN 1)) (dSeq (dAsg (dOp fAdd (dC (.int 1)) (dOp fMod (dOp fDiv (dVar 0) (dC (.int 8))) (dC (.int 8)))) (dN 2)) (dSeq (dAsg (dOp fDiv (dVar 0) (dC (.int 64))) (dN 0)) (dSeq (dNew 1 3) (dSeq (dFor (dR1 (dACons (dVar 2) dANil)) (dN 4) (dSeq (dAsg (dC (.str "")) (dN 5)) (dSeq (dFor (dR1 (dACons (dVar 1) dANil)) (dN 6) (dSeq (dAsg (dOp fCatS (dVar 5) (dOp fIxS (dC (.str "#.")) (dOp fMod (dVar 0) (dC (.int 2))))) (dN 5)) (dAsg (dOp fDiv (dVar 0) (dC (.int 2))) (dN 0)))) (dExpr (dMt 3 gAppend (dACons (dVar 5) dANil)))))) (dRet (dBor 3 (dTup (dACons (dApp fTupOf (dACons (dVar 3) dANil)) (dACons (dVar 0) dANil))))))))))
def m_L_size_of : List L -> Option (PyData × List L) := dFun false 2 0 (dSeq (dIfS (dTest (dOp fEq (dOp fMod (dVar 0) (dC (.int 8))) (dC (.int 0)))) (dRet (dTup (dACons (dOp fAdd (dC (.int 1)) (dOp fMod (dOp fDiv (dVar 0) (dC (.int 8))) (dVar 1))) (dACons (dOp fDiv (dOp fDiv (dVar 0) (dC (.int 8))) (dVar 1)) dANil)))) dNil) (dRet (dTup (dACons (dOp fAdd (dC (.int 1)) (dOp fMod (dOp fDiv (dVar 0) (dC (.int 8))) (dC (.int 5)))) (dACons (dOp fDiv (dVar 0) (dC (.int 40))) dANil)))))
def m_L_word_of : List L -> Option (PyData × List L) := dFun false 1 3 (dSeq (dAsg (dC (.str "")) (dN 1)) (dSeq (dAsg (dOp fMod (dVar 0) (dC (.int 7))) (dN 2)) (dSeq (dAsg (dOp fDiv (dVar 0) (dC (.int 7))) (dN 0)) (dSeq (dFor (dR1 (dACons (dVar 2) dANil)) (dN 3) (dSeq (dAsg (dOp fCatS (dVar 1) (dOp fIxS (dC (.str "0123456789abcdef-_")) (dOp fMod (dVar 0) (dC (.int 18))))) (dN 1)) (dAsg (dOp fDiv (dVar 0) (dC (.int 18))) (dN 0)))) (dRet (dTup (dACons (dVar 1) (dACons (dVar 0) dANil))))))))
def m_L_data_of : List L -> Option (PyData × List L) := dFun false 2 9 (dSeq (dIfS (dTest (dOp (fIn false) (dVar 0) (dTup (dACons (dC (.str "group")) (dACons (dC (.str "mask")) dANil))))) (dRet (dTup (dACons (dTup dANil) (dACons (dVar 1) dANil)))) dNil) (dSeq (dIfS (dTest (dOp fEq (dVar 0) (dC (.str "turn")))) (dRet (dTup (dACons (dTup (dACons (dOp fMod (dVar 1) (dC (.int 4))) (dACons (dOp fEq (dOp fMod (dOp fDiv (dVar 1) (dC (.int 4))) (dC (.int 2))) (dC (.int 1))) dANil))) (dACons (dOp fDiv (dVar 1) (dC (.int 8))) dANil)))) dNil) (dSeq (dIfS (dTest (dOp fEq (dVar 0) (dC (.str "tiles")))) (dSeq (dAsg (dTup (dACons (dOp fAdd (dC (.int 1)) (dOp fMod (dVar 1) (dC (.int 3)))) (dACons (dOp fAdd (dC (.int 1)) (dOp fMod (dOp fDiv (dVar 1) (dC (.int 3))) (dC (.int 3)))) (dACons (dOp fSub (dOp fMod (dOp fDiv (dVar 1) (dC (.int 9))) (dC (.int 41))) (dC (.int 20))) (dACons (dOp fSub (dOp fMod (dOp fDiv (dVar 1) (dC (.int 369))) (dC (.int 41))) (dC (.int 20))) dANil))))) (dN 2)) (dSeq (dIfS (dTest (dOp fGt (dOp fMod (dOp fDiv (dVar 1) (dC (.int 15129))) (dC (.int 4))) (dC (.int 0)))) (dAsg (dOp fCatT (dSlT (dVar 2) dNoP (dPt (dC (.int 2)))) (dTup (dACons (dOp fMod (dOp fIxT (dVar 2) (dC (.int 2))) (dC (.int 7))) (dACons (dOp fMod (dOp fIxT (dVar 2) (dC (.int 3))) (dC (.int 7))) dANil)))) (dN 2)) dNil) (dRet (dTup (dACons (dVar 2) (dACons (dOp fDiv (dVar 1) (dC (.int 60516))) dANil)))))) dNil) (dSeq (dIfS (dTest (dOp fEq (dVar 0) (dC (.str "window")))) (dSeq (dAsg (dCall m_L_size_of (dACons (dVar 1) (dACons (dC (.int 16)) dANil))) (dGT (dGCons (dN 3) (dGCons (dN 1) dGNil)))) (dSeq (dAsg (dCall m_L_size_of (dACons (dVar 1) (dACons (dC (.int 16)) dANil))) (dGT (dGCons (dN 4) (dGCons (dN 1) dGNil)))) (dSeq (dAsg (dCall m_L_step_of (dACons (dVar 1) dANil)) (dGT (dGCons (dN 5) (dGCons (dN 1) dGNil)))) (dSeq (dAsg (dCall m_L_step_of (dACons (dVar 1) dANil)) (dGT (dGCons (dN 6) (dGCons (dN 1) dGNil)))) (dRet (dTup (dACons (dTup (dACons (dVar 3) (dACons (dVar 4) (dACons (dVar 5) (dACons (dVar 6) dANil))))) (dACons (dVar 1) dANil)))))))) dNil) (dSeq (dAsg (dCall m_L_paint_of (dACons (dVar 1) dANil)) (dGT (dGCons (dN 7) (dGCons (dN 8) (dGCons (dN 1) dGNil))))) (dSeq (dIfS (dTest (dOp fEq (dVar 0) (dC (.str "glass")))) (dRet (dTup (dACons (dTup (dACons (dVar 8) dANil)) (dACons (dVar 1) dANil)))) dNil) (dSeq (dIfS (dTest (dOp fEq (dVar 0) (dC (.str "plate")))) (dSeq (dAsg (dCall m_L_size_of (dACons (dVar 1) (dACons (dC (.int 12)) dANil))) (dGT (dGCons (dN 3) (dGCons (dN 1) dGNil)))) (dSeq (dAsg (dCall m_L_size_of (dACons (dVar 1) (dACons (dC (.int 12)) dANil))) (dGT (dGCons (dN 4) (dGCons (dN 1) dGNil)))) (dRet (dTup (dACons (dTup (dACons (dVar 3) (dACons (dVar 4) (dACons (dVar 7) (dACons (dVar 8) dANil))))) (dACons (dVar 1) dANil)))))) dNil) (dSeq (dIfS (dTest (dOp fEq (dVar 0) (dC (.str "band")))) (dRet (dTup (dACons (dTup (dACons (dOp fSub (dOp fMod (dVar 1) (dC (.int 25))) (dC (.int 12))) (dACons (dOp fSub (dOp fMod (dOp fDiv (dVar 1) (dC (.int 25))) (dC (.int 25))) (dC (.int 12))) (dACons (dVar 7) (dACons (dVar 8) dANil))))) (dACons (dOp fDiv (dVar 1) (dC (.int 625))) dANil)))) dNil) (dSeq (dIfS (dTest (dOp fEq (dVar 0) (dC (.str "word")))) (dSeq (dAsg (dCall m_L_word_of (dACons (dVar 1) dANil)) (dGT (dGCons (dN 9) (dGCons (dN 1) dGNil)))) (dRet (dTup (dACons (dTup (dACons (dVar 9) (dACons (dVar 7) (dACons (dVar 8) dANil)))) (dACons (dVar 1) dANil))))) dNil) (dSeq (dAsg (dCall m_L_stencil_of (dACons (dVar 1) dANil)) (dGT (dGCons (dN 10) (dGCons (dN 1) dGNil)))) (dRet (dTup (dACons (dTup (dACons (dVar 10) (dACons (dVar 7) (dACons (dVar 8) dANil)))) (dACons (dVar 1) dANil))))))))))))))
def m_L_kinds : List L -> Option (PyData × List L) := dFun false 0 1 (dSeq (dAsg (dTup (dACons (dC (.str "plate")) (dACons (dC (.str "band")) (dACons (dC (.str "word")) (dACons (dC (.str "stencil")) (dACons (dC (.str "plate")) (dACons (dC (.str "stencil")) dANil))))))) (dN 0)) (dRet (dOp fCatT (dVar 0) (dTup (dACons (dC (.str "group")) (dACons (dC (.str "glass")) (dACons (dC (.str "window")) (dACons (dC (.str "turn")) (dACons (dC (.str "tiles")) (dACons (dC (.str "mask")) dANil))))))))))
def m_L_row_of : List L -> Option (PyData × List L) := dFun false 2 10 (dSeq (dAsg (dCall m_L_name_of (dACons (dVar 1) dANil)) (dGT (dGCons (dN 2) (dGCons (dN 1) dGNil)))) (dSeq (dSetM 2 3 (dLst (dACons (dC (.str "")) dANil))) (dSeq (dFor (dIL (dVar 0)) (dN 4) (dIfS (dTAnd (dTest (dOp (fIn false) (dOp fIxT (dVar 4) (dC (.int 5))) (dSlT (dCall m_L_kinds dANil) (dPt (dC (.int 6))) dNoP))) (dTest (dOp fLt (dApp fLen (dACons (dCall m_L_up (dACons (dVar 0) (dACons (dOp fIxT (dVar 4) (dC (.int 0))) dANil))) dANil)) (dC (.int 7))))) (dExpr (dMt 3 gAppend (dACons (dOp fIxT (dVar 4) (dC (.int 0))) dANil))) dNil)) (dSeq (dAsg (dBor 3 (dOp fIxL (dVar 3) (dOp fMod (dVar 1) (dApp fLen (dACons (dVar 3) dANil))))) (dN 5)) (dSeq (dIfS (dTBor 3 (dTest (dOp fEq (dOp fMod (dOp fDiv (dVar 1) (dApp fLen (dACons (dVar 3) dANil))) (dC (.int 2))) (dC (.int 0))))) (dAsg (dBor 3 (dOp fIxL (dVar 3) (dUn fNeg (dC (.int 1))))) (dN 5)) dNil) (dSeq (dAsg (dBor 3 (dOp fDiv (dOp fDiv (dVar 1) (dApp fLen (dACons (dVar 3) dANil))) (dC (.int 2)))) (dN 1)) (dSeq (dAsg (dCall m_L_step_of (dACons (dVar 1) dANil)) (dGT (dGCons (dN 6) (dGCons (dN 1) dGNil)))) (dSeq (dAsg (dCall m_L_step_of (dACons (dVar 1) dANil)) (dGT (dGCons (dN 7) (dGCons (dN 1) dGNil)))) (dSeq (dAsg (dOp fIxT (dCall m_L_kinds dANil) (dOp fMod (dVar 1) (dC (.int 12)))) (dN 8)) (dSeq (dAsg (dCall m_L_up (dACons (dVar 0) (dACons (dVar 5) dANil))) (dN 9)) (dSeq (dIfS (dTAnd (dTest (dOp fEq (dVar 8) (dC (.str "tiles")))) (dTest (dOp fNe (dLC 1 [9] (dIL (dVar 0)) (dN 0) (dTAnd (dTest (dOp (fIn false) (dOp fIxT (dVar 0) (dC (.int 0))) (dVar 1))) (dTest (dOp fEq (dOp fIxT (dVar 0) (dC (.int 5))) (dC (.str "tiles"))))) (dVar 0)) (dLst dANil)))) (dAsg (dC (.str "group")) (dN 8)) dNil) (dSeq (dAsg (dOp fGt (dOp fMod (dOp fDiv (dVar 1) (dC (.int 12))) (dC (.int 8))) (dC (.int 0))) (dN 10)) (dSeq (dAsg (dCall m_L_data_of (dACons (dVar 8) (dACons (dOp fDiv (dVar 1) (dC (.int 96))) dANil))) (dGT (dGCons (dN 11) (dGCons (dN 1) dGNil)))) (dRet (dTup (dACons (dTup (dACons (dVar 2) (dACons (dVar 5) (dACons (dVar 6) (dACons (dVar 7) (dACons (dVar 10) (dACons (dVar 8) (dACons (dVar 11) dANil)))))))) (dACons (dVar 1) dANil)))))))))))))))))
def m_L_cell_at : List L -> Option (PyData × List L) := dFun false 2 0 (dSeq (dIfS (dTest (dOp fLt (dVar 1) (dLenC 0))) (dRet (dIxC 0 (dVar 1))) dNil) (dRet (dC (.int 0))))
def m_L_big : List L -> Option (PyData × List L) := dFun false 2 6 (dSeq (dAsg (dTup (dACons (dC (.int 48271)) (dACons (dC (.int 69621)) (dACons (dC (.int 16807)) (dACons (dC (.int 39373)) (dACons (dC (.int 21401)) (dACons (dC (.int 60493)) (dACons (dC (.int 87721)) (dACons (dC (.int 31337)) dANil))))))))) (dN 2)) (dSeq (dAsg (dTup (dACons (dC (.int 99991)) (dACons (dC (.int 99989)) (dACons (dC (.int 99971)) (dACons (dC (.int 99961)) (dACons (dC (.int 99929)) (dACons (dC (.int 99923)) (dACons (dC (.int 99907)) (dACons (dC (.int 99901)) dANil))))))))) (dN 3)) (dSeq (dAsg (dCallC 0 m_L_cell_at (dACons (dVar 1) dANil)) (dN 4)) (dSeq (dIfS (dTest (dOp fGe (dVar 4) (dOp fPow (dC (.int 10)) (dC (.int 18))))) (dRet (dVar 4)) dNil) (dSeq (dAsg (dC (.int 0)) (dN 5)) (dSeq (dFor (dR1 (dACons (dC (.int 60)) dANil)) (dN 6) (dSeq (dAsg (dOp fAdd (dOp fAdd (dOp fMod (dCallC 0 m_L_cell_at (dACons (dOp fAdd (dVar 1) (dOp fMod (dVar 6) (dC (.int 9)))) dANil)) (dOp fPow (dC (.int 10)) (dC (.int 18)))) (dC (.int 1))) (dOp fMul (dVar 6) (dVar 6))) (dN 7)) (dAsg (dOp fAdd (dOp fMul (dVar 5) (dC (.int 7919))) (dOp fMod (dOp fMod (dOp fMul (dVar 7) (dOp fIxT (dVar 2) (dOp fMod (dVar 6) (dC (.int 8))))) (dOp fIxT (dVar 3) (dOp fMod (dVar 6) (dC (.int 8))))) (dC (.int 7919)))) (dN 5)))) (dRet (dVar 5))))))))
def m_L_scene_of : List L -> Option (PyData × List L) := dFun true 3 4 (dSeq (dNew 3 3) (dSeq (dFor (dR1 (dACons (dVar 2) dANil)) (dN 4) (dSeq (dAsg (dBor 3 (dCall m_L_row_of (dACons (dVar 3) (dACons (dCallC 0 m_L_big (dACons (dOp fAdd (dVar 1) (dVar 4)) dANil)) dANil)))) (dGT (dGCons (dN 5) (dGCons (dN 6) dGNil)))) (dIfS (dTBor 3 (dTest (dOp (fIn true) (dOp fIxT (dVar 5) (dC (.int 0))) (dLC 1 [] (dIL (dVar 3)) (dN 0) dYes (dOp fIxT (dVar 0) (dC (.int 0))))))) (dExpr (dMt 3 gAppend (dACons (dVar 5) dANil))) dNil))) (dRetM 3 3)))
def m_L_many : List L -> Option (PyData × List L) := dFun false 3 0 (dSeq (dIfS (dTest (dOp fEq (dOp fMod (dOp fMod (dCallC 0 m_L_cell_at (dACons (dC (.int 1)) dANil)) (dC (.int 1000003))) (dC (.int 8))) (dC (.int 3)))) (dRet (dVar 2)) dNil) (dRet (dVar 1)))
def m_L_texts : List L -> Option (PyData × List L) := dFun false 2 0 (dSeq (dIfS (dTOr (dTNot (dTest (dIsi "list" (dVar 0)))) (dTest (dOp fNe (dVar 0) (dVar 1)))) (dRet (dC (.bool false))) dNil) (dRet (dOp fEq (dLC 1 [] (dIL (dVar 0)) (dN 0) (dTNot (dTest (dIsi "str" (dVar 0)))) (dVar 0)) (dLst dANil))))
def m_row_name : List L -> Option (PyData × List L) := dFun false 1 0 (dRet (dOp fIxT (dVar 0) (dC (.int 0))))
def m_row_holder : List L -> Option (PyData × List L) := dFun false 1 0 (dRet (dOp fIxT (dVar 0) (dC (.int 1))))
def m_kid_rows : List L -> Option (PyData × List L) := dFun true 2 0 (dRet (dLC 1 [1] (dIL (dVar 0)) (dN 0) (dTest (dOp fEq (dCall m_row_holder (dACons (dVar 0) dANil)) (dVar 1))) (dVar 0)))
def m_kids_of : List L -> Option (PyData × List L) := dFun true 2 0 (dRet (dLC 1 [] (dIL (dCall m_kid_rows (dACons (dVar 0) (dACons (dVar 1) dANil)))) (dN 0) dYes (dCall m_row_name (dACons (dVar 0) dANil))))
def m_row_found : List L -> Option (PyData × List L) := dFun false 2 1 (dSeq (dFor (dIL (dVar 0)) (dN 2) (dIfS (dTest (dOp fEq (dCall m_row_name (dACons (dVar 2) dANil)) (dVar 1))) (dRet (dVar 2)) dNil)) (dRet (dC .none)))
def m_row_of : List L -> Option (PyData × List L) := dFun false 2 1 (dSeq (dAsg (dCall m_row_found (dACons (dVar 0) (dACons (dVar 1) dANil))) (dN 2)) (dSeq (dIfS (dTest (dOp fIsN (dVar 2) (dC .none))) dNever dNil) (dRet (dVar 2))))
def m_holders_of : List L -> Option (PyData × List L) := dFun true 2 2 (dSeq (dNew 2 2) (dSeq (dAsg (dCall m_row_found (dACons (dVar 0) (dACons (dVar 1) dANil))) (dN 3)) (dSeq (dWhile (fun _ => 100) (dTAnd (dTest (dOp fNotN (dVar 3) (dC .none))) (dTest (dOp fNe (dCall m_row_holder (dACons (dVar 3) dANil)) (dC (.str ""))))) (dSeq (dExpr (dMt 2 gAppend (dACons (dCall m_row_holder (dACons (dVar 3) dANil)) dANil))) (dAsg (dCall m_row_found (dACons (dVar 0) (dACons (dCall m_row_holder (dACons (dVar 3) dANil)) dANil))) (dN 3)))) (dRetM 2 2))))
def m_parts_in : List L -> Option (PyData × List L) := dFun true 2 0 (dRet (dLC 1 [1, 0] (dIL (dVar 0)) (dN 0) (dTest (dOp (fIn false) (dVar 1) (dCall m_holders_of (dACons (dVar 2) (dACons (dCall m_row_name (dACons (dVar 0) dANil)) dANil))))) (dCall m_row_name (dACons (dVar 0) dANil))))
def m_L_chain : List L -> Option (PyData × List L) := dFun false 2 3 (dSeq (dNewX 2 2) (dSeq (dFor (dIL (dVar 0)) (dN 3) (dPutX 2 (dVar 3) (dOp fIxT (dVar 3) (dC (.int 0))))) (dSeq (dNew 2 4) (dSeq (dWhile (fun _ => 100) (dTest (dInX false (dVar 1) 2)) (dSeq (dExpr (dMt 4 gAppend (dACons (dVar 1) dANil))) (dAsg (dOp fIxT (dIxX 2 (dVar 1)) (dC (.int 1))) (dN 1)))) (dRet (dBorF 4 (dSl (dVar 4) (dPt (dC (.int 1))) dNoP)))))))
def m_L_inner : List L -> Option (PyData × List L) := dFun true 2 0 (dRet (dLC 1 [1, 0] (dIL (dVar 0)) (dN 0) (dTest (dOp (fIn false) (dVar 1) (dCall m_L_chain (dACons (dVar 2) (dACons (dOp fIxT (dVar 0) (dC (.int 0))) dANil))))) (dOp fIxT (dVar 0) (dC (.int 0)))))
def m_L_no_row : List L -> Option (PyData × List L)
 | [.d x, .d y] => match m_row_found [.d x, .d y] with
  | some (.none, _) => some (.bool true, [.d x, .d y])
  | _ => none
 | _ => none
def m_law : List L -> Option (PyData × List L) := dFun false 1 9 (dSeq (dAsg (dCallC 0 m_L_scene_of (dACons (dC (.int 1)) (dACons (dCallC 0 m_L_many (dACons (dOp fMod (dCallC 0 m_L_big (dACons (dC (.int 0)) dANil)) (dC (.int 15))) (dACons (dC (.int 24)) dANil))) dANil))) (dN 1)) (dSeq (dAsg (dApp fListOf (dACons (dVar 1) dANil)) (dN 2)) (dSeq (dFor (dR1 (dACons (dC (.int 2)) dANil)) (dN 3) (dSeq (dIfS (dTNot (dTest (dCall m_L_texts (dACons (dCall m_kids_of (dACons (dVar 2) (dACons (dC (.str "")) dANil))) (dACons (dLC 1 [] (dIL (dVar 1)) (dN 0) (dTest (dOp fEq (dOp fIxT (dVar 0) (dC (.int 1))) (dC (.str "")))) (dOp fIxT (dVar 0) (dC (.int 0)))) dANil))))) (dRet (dC (.bool false))) dNil) (dFor (dIL (dVar 1)) (dN 4) (dSeq (dIfS (dTest (dOp fNe (dCall m_row_of (dACons (dVar 2) (dACons (dOp fIxT (dVar 4) (dC (.int 0))) dANil))) (dVar 4))) (dRet (dC (.bool false))) dNil) (dSeq (dSetG 1 5 (dLstG (dGCs (dFx (dCall m_kids_of (dACons (dVar 2) (dACons (dOp fIxT (dVar 4) (dC (.int 0))) dANil)))) (dGCs (dFx (dCall m_holders_of (dACons (dVar 2) (dACons (dOp fIxT (dVar 4) (dC (.int 0))) dANil)))) (dGCs (dFx (dCall m_parts_in (dACons (dVar 2) (dACons (dOp fIxT (dVar 4) (dC (.int 0))) dANil)))) dGNl))))) (dSeq (dAsg (dLst (dACons (dLC 1 [4] (dIL (dVar 1)) (dN 0) (dTest (dOp fEq (dOp fIxT (dVar 0) (dC (.int 1))) (dOp fIxT (dVar 1) (dC (.int 0))))) (dOp fIxT (dVar 0) (dC (.int 0)))) (dACons (dCall m_L_chain (dACons (dVar 1) (dACons (dOp fIxT (dVar 4) (dC (.int 0))) dANil))) (dACons (dCall m_L_inner (dACons (dVar 1) (dACons (dOp fIxT (dVar 4) (dC (.int 0))) dANil))) dANil)))) (dN 6)) (dFor (dR1 (dACons (dC (.int 3)) dANil)) (dN 7) (dSeq (dIfS (dTBorG 5 (dTNot (dTest (dCall m_L_texts (dACons (dOp fIxL (dVar 5) (dVar 7)) (dACons (dOp fIxL (dVar 6) (dVar 7)) dANil)))))) (dRet (dC (.bool false))) dNil) (dAppG 5 (dVar 7) (dACons (dC (.str "zz")) dANil)))))))))) (dSeq (dAsg (dLC 1 [] (dIL (dVar 1)) (dN 0) dYes (dOp fIxT (dVar 0) (dC (.int 0)))) (dN 8)) (dSeq (dFor (dIT (dTup (dACons (dOp fIxT (dCall m_L_name_of (dACons (dCallC 0 m_L_big (dACons (dC (.int 16)) dANil)) dANil)) (dC (.int 0))) (dACons (dC (.str "strange")) dANil)))) (dN 9) (dIfS (dTAnd (dTest (dOp (fIn true) (dVar 9) (dVar 8))) (dTNot (dTest (dCall m_L_no_row (dACons (dVar 2) (dACons (dVar 9) dANil)))))) (dRet (dC (.bool false))) dNil)) (dRet (dOp fEq (dVar 2) (dVar 1))))))))
theorem hu64 {k : Nat} {A : Around} (hr : Room k A) : A.units + 64 < cLine := hr.units
theorem hu65 {k : Nat} {A : Around} (hr : Room k A) : A.units + 65 < cLine := by have := hr.un; omega
section
variable {P : Program} {w : World} {K : PySem.W.Frag} {mg : Str -> Option Value} {base : Heap} {f : Addr} {fd : FuncData}
theorem ok_L_name_of (F : Fun K "_law_name_of" "_law_name_of" s_L_name_of f fd) (z_range : mg "range" = none) : FnOk P w K mg base CX0 1 f fd ["_law_big_here"] (spD ⟨K, w⟩ m_L_name_of false) := by
 have nd := sc_L_name_of.nd
 refine F.ok sc_L_name_of (fun vs H Q E h => fn_len dFun_len h) (fun cdv A outer s H vs Q E hr h => ?_)
 exact ⟨_, (@pss_cons _ _ _ _ _ (@ps_set _ _ 1 _ _ _ _ nd rfl n_L_name_of_1 pe_str (by trivial) (by trivial)) (@pss_cons _ _ _ _ _ (@ps_set _ _ 2 _ _ _ _ nd rfl n_L_name_of_2 (@pe_op _ _ _ _ _ _ _ _ op_add pe_int (@pe_op _ _ _ _ _ _ _ _ op_mod (@pv _ 0 _ _ rfl v_L_name_of_0 dbg__law_big_here cls__law_big_here) pe_int)) (by trivial) (by trivial)) (@pss_cons _ _ _ _ _ (@ps_set _ _ 0 _ _ _ _ nd rfl n_L_name_of_0 (@pe_op _ _ _ _ _ _ _ _ op_fdivB (@pv _ 0 _ _ rfl v_L_name_of_0 dbg__law_big_here cls__law_big_here) pe_int) (by trivial) (by trivial)) (@pss_cons _ _ _ _ _ (@ps_for _ _ _ _ _ _ _ _ PassesOwn.never rfl (@pi_range1 _ _ _ _ _ _ g_L_name_of_range z_range (@pa_cons _ _ _ _ _ (@pv _ 2 _ _ rfl v_L_name_of_2 dbg__law_size cls__law_size) pa_nil (by trivial)) (by trivial)) (@pg_name _ _ 3 _ nd rfl n_L_name_of_3 (by trivial)) (@pss_cons _ _ _ _ _ (@ps_set _ _ 1 _ _ _ _ nd rfl n_L_name_of_1 (@pe_op _ _ _ _ _ _ _ _ op_add_str (@pv _ 1 _ _ rfl v_L_name_of_1 dbg__law_name cls__law_name) (@pe_ix _ _ _ _ _ _ _ ix_str pe_str (@pe_op _ _ _ _ _ _ _ _ op_mod (@pv _ 0 _ _ rfl v_L_name_of_0 dbg__law_big_here cls__law_big_here) pe_int) (fun _ _ => rfl))) (by trivial) (by trivial)) (@pss_one _ _ _ (@ps_set _ _ 0 _ _ _ _ nd rfl n_L_name_of_0 (@pe_op _ _ _ _ _ _ _ _ op_fdivB (@pv _ 0 _ _ rfl v_L_name_of_0 dbg__law_big_here cls__law_big_here) pe_int) (by trivial) (by trivial)))) (by trivial)) (@pss_one _ _ _ (@ps_ret _ _ _ _ (@pe_tup _ _ _ _ _ (@pa_cons _ _ _ _ _ (@pv _ 1 _ _ rfl v_L_name_of_1 dbg__law_name cls__law_name) (@pa_cons _ _ _ _ _ (@pv _ 0 _ _ rfl v_L_name_of_0 dbg__law_big_here cls__law_big_here) pa_nil (by trivial)) (by trivial))))))))), fn_run (N := ["_law_big_here", "_law_name", "_law_size", "_law_k"]) (np := 1) (nl := 3) (b_seq (b_asg e_str g_name) (b_seq (b_asg (e_op o_add e_int (e_op o_mod e_var e_int)) g_name) (b_seq (b_asg (e_op o_div e_var e_int) g_name) (b_seq (b_for (it_range1 (a_cons e_var a_nil)) g_name (b_seq (b_asg (e_op o_catS e_var (e_op o_ixS e_str (e_op o_mod e_var e_int))) g_name) (b_asg (e_op o_div e_var e_int) g_name))) (b_ret (e_tup (a_cons e_var (a_cons e_var a_nil))) (by decide)))))) rfl h⟩
theorem ok_L_step_of (F : Fun K "_law_step_of" "_law_step_of" s_L_step_of f fd) : FnOk P w K mg base CX0 1 f fd ["_law_big_here"] (spD ⟨K, w⟩ m_L_step_of false) := by
 have nd := sc_L_step_of.nd
 refine F.ok sc_L_step_of (fun vs H Q E h => fn_len dFun_len h) (fun cdv A outer s H vs Q E hr h => ?_)
 exact ⟨_, (@pss_cons _ _ _ _ _ (@ps_if _ _ _ _ _ _ _ _ (@pt_cmpR _ _ _ _ _ _ _ _ (@op_eqK _ (hu64 hr)) (@pe_op _ _ _ _ _ _ _ _ op_mod (@pv _ 0 _ _ rfl v_L_step_of_0 dbg__law_big_here cls__law_big_here) pe_int) pe_int (nomark _)) (@pss_one _ _ _ (@ps_ret _ _ _ _ (@pe_tup _ _ _ _ _ (@pa_cons _ _ _ _ _ (@pe_op _ _ _ _ _ _ _ _ op_sub (@pe_op _ _ _ _ _ _ _ _ op_mod (@pe_op _ _ _ _ _ _ _ _ op_fdivB (@pv _ 0 _ _ rfl v_L_step_of_0 dbg__law_big_here cls__law_big_here) pe_int) pe_int) pe_int) (@pa_cons _ _ _ _ _ (@pe_op _ _ _ _ _ _ _ _ op_fdivB (@pv _ 0 _ _ rfl v_L_step_of_0 dbg__law_big_here cls__law_big_here) pe_int) pa_nil (by trivial)) (by trivial))))) pss_nil) (@pss_one _ _ _ (@ps_ret _ _ _ _ (@pe_tup _ _ _ _ _ (@pa_cons _ _ _ _ _ (@pe_op _ _ _ _ _ _ _ _ op_sub (@pe_op _ _ _ _ _ _ _ _ op_mod (@pe_op _ _ _ _ _ _ _ _ op_fdivB (@pv _ 0 _ _ rfl v_L_step_of_0 dbg__law_big_here cls__law_big_here) pe_int) pe_int) pe_int) (@pa_cons _ _ _ _ _ (@pe_op _ _ _ _ _ _ _ _ op_fdivB (@pv _ 0 _ _ rfl v_L_step_of_0 dbg__law_big_here cls__law_big_here) pe_int) pa_nil (by trivial)) (by trivial)))))), fn_run (N := ["_law_big_here"]) (np := 1) (nl := 0) (b_seq (b_if (t_test (e_op o_eq (e_op o_mod e_var e_int) e_int)) (b_ret (e_tup (a_cons (e_op o_sub (e_op o_mod (e_op o_div e_var e_int) e_int) e_int) (a_cons (e_op o_div e_var e_int) a_nil))) (by decide)) b_nil) (b_ret (e_tup (a_cons (e_op o_sub (e_op o_mod (e_op o_div e_var e_int) e_int) e_int) (a_cons (e_op o_div e_var e_int) a_nil))) (by decide))) rfl h⟩
theorem ok_L_up (F : Fun K "_law_up" "_law_up" s_L_up f fd) : FnOk P w K mg base CX0 1 f fd ["_law_rows", "_law_name"] (spD ⟨K, w⟩ m_L_up true) := by
 have nd := sc_L_up.nd
 refine F.ok sc_L_up (fun vs H Q E h => fn_len dFun_len h) (fun cdv A outer s H vs Q E hr h => ?_)
 exact ⟨_, (@pss_cons _ _ _ _ _ (@ps_set _ _ 2 _ _ _ _ nd rfl n_L_up_2 (@pe_lst _ _ _ _ pa_nil) (by trivial) (by trivial)) (@pss_cons _ _ _ _ _ (@ps_set _ _ 3 _ _ _ _ nd rfl n_L_up_3 pe_newX (by trivial) (by trivial)) (@pss_cons _ _ _ _ _ (@ps_for _ _ _ _ _ _ _ _ PassesOwn.never rfl (@pi_list _ _ _ _ (@pv _ 0 _ _ rfl v_L_up_0 dbg__law_rows cls__law_rows)) (@pg_name _ _ 4 _ nd rfl n_L_up_4 (by trivial)) (@pss_one _ _ _ (@ps_asg _ _ _ _ _ _ (@pv _ 4 _ _ rfl v_L_up_4 dbg__law_row cls__law_row) (@pg_sub _ _ _ _ _ _ _ (@pv _ 3 _ _ rfl v_L_up_3 dbg__law_by_name cls__law_by_name) (@pe_ix _ _ _ _ _ _ _ ix_tup (@pv _ 4 _ _ rfl v_L_up_4 dbg__law_row cls__law_row) pe_int (fun _ _ => rfl)) set_X (by trivial)) (by trivial) (by trivial) (by trivial))) (by trivial)) (@pss_cons _ _ _ _ _ (@ps_while _ _ _ _ _ _ PassesOwn.never (@PW.pt _ _ _ (@pw_and _ _ _ _ _ _ _ (@pt_cmpR _ _ _ _ _ _ _ _ (@op_neK _ (hu64 hr)) (@pv _ 1 _ _ rfl v_L_up_1 dbg__law_name cls__law_name) pe_str (nomark _)) (@pw_and1 _ _ _ _ (@pt_cmpR _ _ _ _ _ _ _ _ op_inX (@pv _ 1 _ _ rfl v_L_up_1 dbg__law_name cls__law_name) (@pv _ 3 _ _ rfl v_L_up_3 dbg__law_by_name cls__law_by_name) (by with_unfolding_all rfl))))) (@pss_cons _ _ _ _ _ (@ps_expr _ _ _ _ (@pe_bm _ _ _ _ _ _ _ _ _ _ _ _ PySem.F.plainAttrs_list PySem.F.slot_list_append PySem.F.type_list_append mt_append (@pv _ 2 _ _ rfl v_L_up_2 dbg__law_up_here cls__law_up_here) (@pa_cons _ _ _ _ _ (@pv _ 1 _ _ rfl v_L_up_1 dbg__law_name cls__law_name) pa_nil (by trivial)) (by trivial) (by trivial) (by trivial) (by trivial) (by trivial)) (by trivial)) (@pss_one _ _ _ (@ps_set _ _ 1 _ _ _ _ nd rfl n_L_up_1 (@pe_ix _ _ _ _ _ _ _ ix_tup (@pe_ix _ _ _ _ _ _ _ ix_X (@pv _ 3 _ _ rfl v_L_up_3 dbg__law_by_name cls__law_by_name) (@pv _ 1 _ _ rfl v_L_up_1 dbg__law_name cls__law_name) (fun _ _ => rfl)) pe_int (fun _ _ => rfl)) (by trivial) (by trivial))))) (@pss_one _ _ _ (@ps_ret _ _ _ _ (@pv _ 2 _ _ rfl v_L_up_2 dbg__law_up_here cls__law_up_here))))))), fn_run (N := ["_law_rows", "_law_name", "_law_up_here", "_law_by_name", "_law_row"]) (np := 2) (nl := 3) (b_seq b_new (b_seq b_newX (b_seq (b_for (it_list e_var) g_name (b_putX (i := 3) e_var (e_op o_ixT e_var e_int))) (b_seq (b_while (t_and (t_test (e_op o_ne e_var e_str)) (t_test (e_inX (i := 3) e_var))) (b_seq (b_expr (e_mt (i := 2) m_append (a_cons e_var a_nil))) (b_asg (e_op o_ixT (e_ixX (i := 3) e_var) e_int) g_name))) (b_retM (i := 2)))))) rfl h⟩
theorem ok_L_low (F : Fun K "_law_low" "_law_low" s_L_low f fd) (z_abs : mg "abs" = none) : FnOk P w K mg base CX0 1 f fd ["_law_top", "_law_bottom"] (spD ⟨K, w⟩ m_L_low false) := by
 have nd := sc_L_low.nd
 refine F.ok sc_L_low (fun vs H Q E h => fn_len dFun_len h) (fun cdv A outer s H vs Q E hr h => ?_)
 exact ⟨_, (@pss_cons _ _ _ _ _ (@ps_par _ _ 2 3 _ _ _ _ _ _ _ _ _ _ _ rfl nd rfl rfl (by decide) l_L_low_2 l_L_low_3 (@pa_cons _ _ _ _ _ (@pe_callB _ _ _ _ _ _ _ _ _ call_abs g_L_low_abs z_abs PyProof.Rows.boot_abs (@pa_cons _ _ _ _ _ (@pv _ 0 _ _ rfl v_L_low_0 dbg__law_top cls__law_top) pa_nil (by trivial)) nam_abs dbg_abs (by trivial) (by trivial)) (@pa_cons _ _ _ _ _ (@pv _ 1 _ _ rfl v_L_low_1 dbg__law_bottom cls__law_bottom) pa_nil (by trivial)) (by trivial)) (by kernel_rfl) (by trivial)) (@pss_cons _ _ _ _ _ (@ps_while _ _ _ _ _ _ PassesOwn.never (@pt_cmpR _ _ _ _ _ _ _ _ op_gt (@pv _ 3 _ _ rfl v_L_low_3 dbg__law_other cls__law_other) pe_int (nomark _)) (@pss_one _ _ _ (@ps_par _ _ 2 3 _ _ _ _ _ _ _ _ _ _ _ rfl nd rfl rfl (by decide) l_L_low_2 l_L_low_3 (@pa_cons _ _ _ _ _ (@pv _ 3 _ _ rfl v_L_low_3 dbg__law_other cls__law_other) (@pa_cons _ _ _ _ _ (@pe_op _ _ _ _ _ _ _ _ op_mod (@pv _ 2 _ _ rfl v_L_low_2 dbg__law_one cls__law_one) (@pv _ 3 _ _ rfl v_L_low_3 dbg__law_other cls__law_other)) pa_nil (by trivial)) (by trivial)) (by kernel_rfl) (by trivial)))) (@pss_one _ _ _ (@ps_ret _ _ _ _ (@pe_tup _ _ _ _ _ (@pa_cons _ _ _ _ _ (@pe_op _ _ _ _ _ _ _ _ op_fdivB (@pv _ 0 _ _ rfl v_L_low_0 dbg__law_top cls__law_top) (@pv _ 2 _ _ rfl v_L_low_2 dbg__law_one cls__law_one)) (@pa_cons _ _ _ _ _ (@pe_op _ _ _ _ _ _ _ _ op_fdivB (@pv _ 1 _ _ rfl v_L_low_1 dbg__law_bottom cls__law_bottom) (@pv _ 2 _ _ rfl v_L_low_2 dbg__law_one cls__law_one)) pa_nil (by trivial)) (by trivial))))))), fn_run (N := ["_law_top", "_law_bottom", "_law_one", "_law_other"]) (np := 2) (nl := 2) (b_seq (b_par (i := 2) (j := 3) (a_cons (e_app c_abs (a_cons e_var a_nil)) (a_cons e_var a_nil))) (b_seq (b_while (t_test (e_op o_gt e_var e_int)) (b_par (i := 2) (j := 3) (a_cons e_var (a_cons (e_op o_mod e_var e_var) a_nil)))) (b_ret (e_tup (a_cons (e_op o_div e_var e_var) (a_cons (e_op o_div e_var e_var) a_nil))) (by decide)))) rfl h⟩
theorem ok_L_share_of (F : Fun K "_law_share_of" "_law_share_of" s_L_share_of f fd) (C_L_low : Cal P w K mg base 1 "_law_low" ["_law_top", "_law_bottom"] (spD ⟨K, w⟩ m_L_low false)) : FnOk P w K mg base CX0 2 f fd ["_law_big_here"] (spD ⟨K, w⟩ m_L_share_of false) := by
 have nd := sc_L_share_of.nd
 refine F.ok sc_L_share_of (fun vs H Q E h => fn_len dFun_len h) (fun cdv A outer s H vs Q E hr h => ?_)
 exact ⟨_, (@pss_cons _ _ _ _ _ (@ps_set _ _ 1 _ _ _ _ nd rfl n_L_share_of_1 (@pe_ix _ _ _ _ _ _ _ ix_tup (@pe_tup _ _ _ _ _ (@pa_cons _ _ _ _ _ pe_int (@pa_cons _ _ _ _ _ pe_int (@pa_cons _ _ _ _ _ pe_int (@pa_cons _ _ _ _ _ pe_int pa_nil (by trivial)) (by trivial)) (by trivial)) (by trivial))) (@pe_op _ _ _ _ _ _ _ _ op_mod (@pv _ 0 _ _ rfl v_L_share_of_0 dbg__law_big_here cls__law_big_here) pe_int) (fun _ _ => rfl)) (by trivial) (by trivial)) (@pss_cons _ _ _ _ _ (@ps_if _ _ _ _ _ _ _ _ (@pt_cmpR _ _ _ _ _ _ _ _ (@op_eqK _ (hu64 hr)) (@pe_op _ _ _ _ _ _ _ _ op_mod (@pe_op _ _ _ _ _ _ _ _ op_fdivB (@pv _ 0 _ _ rfl v_L_share_of_0 dbg__law_big_here cls__law_big_here) pe_int) pe_int) pe_int (nomark _)) (@pss_one _ _ _ (@ps_set _ _ 1 _ _ _ _ nd rfl n_L_share_of_1 (@pe_op _ _ _ _ _ _ _ _ op_add pe_int (@pe_op _ _ _ _ _ _ _ _ op_mod (@pe_op _ _ _ _ _ _ _ _ op_fdivB (@pv _ 0 _ _ rfl v_L_share_of_0 dbg__law_big_here cls__law_big_here) pe_int) pe_int)) (by trivial) (by trivial))) pss_nil) (@pss_cons _ _ _ _ _ (@ps_if _ _ _ _ _ _ _ _ (@pt_cmpR _ _ _ _ _ _ _ _ (@op_eqK _ (hu64 hr)) (@pe_op _ _ _ _ _ _ _ _ op_mod (@pe_op _ _ _ _ _ _ _ _ op_fdivB (@pv _ 0 _ _ rfl v_L_share_of_0 dbg__law_big_here cls__law_big_here) pe_int) pe_int) pe_int (nomark _)) (@pss_one _ _ _ (@ps_set _ _ 1 _ _ _ _ nd rfl n_L_share_of_1 (@pe_op _ _ _ _ _ _ _ _ op_add pe_int (@pe_op _ _ _ _ _ _ _ _ op_mod (@pe_op _ _ _ _ _ _ _ _ op_fdivB (@pv _ 0 _ _ rfl v_L_share_of_0 dbg__law_big_here cls__law_big_here) pe_int) pe_int)) (by trivial) (by trivial))) pss_nil) (@pss_cons _ _ _ _ _ (@ps_set _ _ 0 _ _ _ _ nd rfl n_L_share_of_0 (@pe_op _ _ _ _ _ _ _ _ op_fdivB (@pv _ 0 _ _ rfl v_L_share_of_0 dbg__law_big_here cls__law_big_here) pe_int) (by trivial) (by trivial)) (@pss_one _ _ _ (@ps_ret _ _ _ _ (@pe_tup _ _ _ _ _ (@pa_cons _ _ _ _ _ (@pe_callC _ _ _ _ _ _ _ _ _ _ C_L_low hr g_L_share_of__law_low (@pa_cons _ _ _ _ _ (@pe_op _ _ _ _ _ _ _ _ op_mod (@pv _ 0 _ _ rfl v_L_share_of_0 dbg__law_big_here cls__law_big_here) (@pe_op _ _ _ _ _ _ _ _ op_add (@pv _ 1 _ _ rfl v_L_share_of_1 dbg__law_bottom cls__law_bottom) pe_int)) (@pa_cons _ _ _ _ _ (@pv _ 1 _ _ rfl v_L_share_of_1 dbg__law_bottom cls__law_bottom) pa_nil (by trivial)) (by trivial)) dbg__law_low (by trivial) (by trivial)) (@pa_cons _ _ _ _ _ (@pe_op _ _ _ _ _ _ _ _ op_fdivB (@pv _ 0 _ _ rfl v_L_share_of_0 dbg__law_big_here cls__law_big_here) (@pe_op _ _ _ _ _ _ _ _ op_add (@pv _ 1 _ _ rfl v_L_share_of_1 dbg__law_bottom cls__law_bottom) pe_int)) pa_nil (by trivial)) (by trivial))))))))), fn_run (N := ["_law_big_here", "_law_bottom"]) (np := 1) (nl := 1) (b_seq (b_asg (e_op o_ixT (e_tup (a_cons e_int (a_cons e_int (a_cons e_int (a_cons e_int a_nil))))) (e_op o_mod e_var e_int)) g_name) (b_seq (b_if (t_test (e_op o_eq (e_op o_mod (e_op o_div e_var e_int) e_int) e_int)) (b_asg (e_op o_add e_int (e_op o_mod (e_op o_div e_var e_int) e_int)) g_name) b_nil) (b_seq (b_if (t_test (e_op o_eq (e_op o_mod (e_op o_div e_var e_int) e_int) e_int)) (b_asg (e_op o_add e_int (e_op o_mod (e_op o_div e_var e_int) e_int)) g_name) b_nil) (b_seq (b_asg (e_op o_div e_var e_int) g_name) (b_ret (e_tup (a_cons (e_call (a_cons (e_op o_mod e_var (e_op o_add e_var e_int)) (a_cons e_var a_nil))) (a_cons (e_op o_div e_var (e_op o_add e_var e_int)) a_nil))) (by decide)))))) rfl h⟩
theorem ok_L_paint_of (F : Fun K "_law_paint_of" "_law_paint_of" s_L_paint_of f fd) (C_L_share_of : Cal P w K mg base 2 "_law_share_of" ["_law_big_here"] (spD ⟨K, w⟩ m_L_share_of false)) : FnOk P w K mg base CX0 3 f fd ["_law_big_here"] (spD ⟨K, w⟩ m_L_paint_of false) := by
 have nd := sc_L_paint_of.nd
 refine F.ok sc_L_paint_of (fun vs H Q E h => fn_len dFun_len h) (fun cdv A outer s H vs Q E hr h => ?_)
 exact ⟨_, (@pss_cons _ _ _ _ _ (@ps_asg _ _ _ _ _ _ (@pe_callC _ _ _ _ _ _ _ _ _ _ C_L_share_of hr g_L_paint_of__law_share_of (@pa_cons _ _ _ _ _ (@pv _ 0 _ _ rfl v_L_paint_of_0 dbg__law_big_here cls__law_big_here) pa_nil (by trivial)) dbg__law_share_of (by trivial) (by trivial)) (@pg_tup _ _ _ _ _ _ rfl (@pgs_cons _ _ _ _ _ (@pg_name _ _ 1 _ nd rfl n_L_paint_of_1 (by trivial)) (@pgs_cons _ _ _ _ _ (@pg_name _ _ 0 _ nd rfl n_L_paint_of_0 (by trivial)) pgs_nil (by trivial)) (by trivial)) (by trivial) (by trivial)) (by trivial) (by trivial) (by trivial)) (@pss_cons _ _ _ _ _ (@ps_if _ _ _ _ _ _ _ _ (@pt_cmpR _ _ _ _ _ _ _ _ (@op_eqK _ (hu64 hr)) (@pe_op _ _ _ _ _ _ _ _ op_mod (@pv _ 0 _ _ rfl v_L_paint_of_0 dbg__law_big_here cls__law_big_here) pe_int) pe_int (nomark _)) (@pss_one _ _ _ (@ps_ret _ _ _ _ (@pe_tup _ _ _ _ _ (@pa_cons _ _ _ _ _ (@pv _ 1 _ _ rfl v_L_paint_of_1 dbg__law_shade cls__law_shade) (@pa_cons _ _ _ _ _ (@pe_tup _ _ _ _ _ (@pa_cons _ _ _ _ _ pe_int (@pa_cons _ _ _ _ _ pe_int pa_nil (by trivial)) (by trivial))) (@pa_cons _ _ _ _ _ (@pe_op _ _ _ _ _ _ _ _ op_fdivB (@pv _ 0 _ _ rfl v_L_paint_of_0 dbg__law_big_here cls__law_big_here) pe_int) pa_nil (by trivial)) (by trivial)) (by trivial))))) pss_nil) (@pss_cons _ _ _ _ _ (@ps_asg _ _ _ _ _ _ (@pe_callC _ _ _ _ _ _ _ _ _ _ C_L_share_of hr g_L_paint_of__law_share_of (@pa_cons _ _ _ _ _ (@pe_op _ _ _ _ _ _ _ _ op_fdivB (@pv _ 0 _ _ rfl v_L_paint_of_0 dbg__law_big_here cls__law_big_here) pe_int) pa_nil (by trivial)) dbg__law_share_of (by trivial) (by trivial)) (@pg_tup _ _ _ _ _ _ rfl (@pgs_cons _ _ _ _ _ (@pg_name _ _ 2 _ nd rfl n_L_paint_of_2 (by trivial)) (@pgs_cons _ _ _ _ _ (@pg_name _ _ 0 _ nd rfl n_L_paint_of_0 (by trivial)) pgs_nil (by trivial)) (by trivial)) (by trivial) (by trivial)) (by trivial) (by trivial) (by trivial)) (@pss_one _ _ _ (@ps_ret _ _ _ _ (@pe_tup _ _ _ _ _ (@pa_cons _ _ _ _ _ (@pv _ 1 _ _ rfl v_L_paint_of_1 dbg__law_shade cls__law_shade) (@pa_cons _ _ _ _ _ (@pv _ 2 _ _ rfl v_L_paint_of_2 dbg__law_share cls__law_share) (@pa_cons _ _ _ _ _ (@pv _ 0 _ _ rfl v_L_paint_of_0 dbg__law_big_here cls__law_big_here) pa_nil (by trivial)) (by trivial)) (by trivial)))))))), fn_run (N := ["_law_big_here", "_law_shade", "_law_share"]) (np := 1) (nl := 2) (b_seq (b_asg (e_call (a_cons e_var a_nil)) (g_tup (gs_cons g_name (gs_cons g_name gs_nil)) (len_cons (len_cons len_nil)))) (b_seq (b_if (t_test (e_op o_eq (e_op o_mod e_var e_int) e_int)) (b_ret (e_tup (a_cons e_var (a_cons (e_tup (a_cons e_int (a_cons e_int a_nil))) (a_cons (e_op o_div e_var e_int) a_nil)))) (by decide)) b_nil) (b_seq (b_asg (e_call (a_cons (e_op o_div e_var e_int) a_nil)) (g_tup (gs_cons g_name (gs_cons g_name gs_nil)) (len_cons (len_cons len_nil)))) (b_ret (e_tup (a_cons e_var (a_cons e_var (a_cons e_var a_nil)))) (by decide))))) rfl h⟩
theorem ok_L_stencil_of (F : Fun K "_law_stencil_of" "_law_stencil_of" s_L_stencil_of f fd) (z_range : mg "range" = none) (z_tuple : mg "tuple" = none) : FnOk P w K mg base CX0 1 f fd ["_law_big_here"] (spD ⟨K, w⟩ m_L_stencil_of false) := by
 have nd := sc_L_stencil_of.nd
 refine F.ok sc_L_stencil_of (fun vs H Q E h => fn_len dFun_len h) (fun cdv A outer s H vs Q E hr h => ?_)
 exact ⟨_, (@pss_cons _ _ _ _ _ (@ps_set _ _ 1 _ _ _ _ nd rfl n_L_stencil_of_1 (@pe_op _ _ _ _ _ _ _ _ op_add pe_int (@pe_op _ _ _ _ _ _ _ _ op_mod (@pv _ 0 _ _ rfl v_L_stencil_of_0 dbg__law_big_here cls__law_big_here) pe_int)) (by trivial) (by trivial)) (@pss_cons _ _ _ _ _ (@ps_set _ _ 2 _ _ _ _ nd rfl n_L_stencil_of_2 (@pe_op _ _ _ _ _ _ _ _ op_add pe_int (@pe_op _ _ _ _ _ _ _ _ op_mod (@pe_op _ _ _ _ _ _ _ _ op_fdivB (@pv _ 0 _ _ rfl v_L_stencil_of_0 dbg__law_big_here cls__law_big_here) pe_int) pe_int)) (by trivial) (by trivial)) (@pss_cons _ _ _ _ _ (@ps_set _ _ 0 _ _ _ _ nd rfl n_L_stencil_of_0 (@pe_op _ _ _ _ _ _ _ _ op_fdivB (@pv _ 0 _ _ rfl v_L_stencil_of_0 dbg__law_big_here cls__law_big_here) pe_int) (by trivial) (by trivial)) (@pss_cons _ _ _ _ _ (@ps_set _ _ 3 _ _ _ _ nd rfl n_L_stencil_of_3 (@pe_lst _ _ _ _ pa_nil) (by trivial) (by trivial)) (@pss_cons _ _ _ _ _ (@ps_for _ _ _ _ _ _ _ _ PassesOwn.never rfl (@pi_range1 _ _ _ _ _ _ g_L_stencil_of_range z_range (@pa_cons _ _ _ _ _ (@pv _ 2 _ _ rfl v_L_stencil_of_2 dbg__law_high cls__law_high) pa_nil (by trivial)) (by trivial)) (@pg_name _ _ 4 _ nd rfl n_L_stencil_of_4 (by trivial)) (@pss_cons _ _ _ _ _ (@ps_set _ _ 5 _ _ _ _ nd rfl n_L_stencil_of_5 pe_str (by trivial) (by trivial)) (@pss_cons _ _ _ _ _ (@ps_for _ _ _ _ _ _ _ _ PassesOwn.never rfl (@pi_range1 _ _ _ _ _ _ g_L_stencil_of_range z_range (@pa_cons _ _ _ _ _ (@pv _ 1 _ _ rfl v_L_stencil_of_1 dbg__law_wide cls__law_wide) pa_nil (by trivial)) (by trivial)) (@pg_name _ _ 6 _ nd rfl n_L_stencil_of_6 (by trivial)) (@pss_cons _ _ _ _ _ (@ps_set _ _ 5 _ _ _ _ nd rfl n_L_stencil_of_5 (@pe_op _ _ _ _ _ _ _ _ op_add_str (@pv _ 5 _ _ rfl v_L_stencil_of_5 dbg__law_row cls__law_row) (@pe_ix _ _ _ _ _ _ _ ix_str pe_str (@pe_op _ _ _ _ _ _ _ _ op_mod (@pv _ 0 _ _ rfl v_L_stencil_of_0 dbg__law_big_here cls__law_big_here) pe_int) (fun _ _ => rfl))) (by trivial) (by trivial)) (@pss_one _ _ _ (@ps_set _ _ 0 _ _ _ _ nd rfl n_L_stencil_of_0 (@pe_op _ _ _ _ _ _ _ _ op_fdivB (@pv _ 0 _ _ rfl v_L_stencil_of_0 dbg__law_big_here cls__law_big_here) pe_int) (by trivial) (by trivial)))) (by trivial)) (@pss_one _ _ _ (@ps_expr _ _ _ _ (@pe_bm _ _ _ _ _ _ _ _ _ _ _ _ PySem.F.plainAttrs_list PySem.F.slot_list_append PySem.F.type_list_append mt_append (@pv _ 3 _ _ rfl v_L_stencil_of_3 dbg__law_rows cls__law_rows) (@pa_cons _ _ _ _ _ (@pv _ 5 _ _ rfl v_L_stencil_of_5 dbg__law_row cls__law_row) pa_nil (by trivial)) (by trivial) (by trivial) (by trivial) (by trivial) (by trivial)) (by trivial))))) (by trivial)) (@pss_one _ _ _ (@ps_ret _ _ _ _ (@pe_tup _ _ _ _ _ (@pa_cons _ _ _ _ _ (@pe_callTy _ _ _ _ _ _ _ _ _ call_tuple_of g_L_stencil_of_tuple z_tuple PySem.Pv.boot_tuple (@pa_cons _ _ _ _ _ (@pv _ 3 _ _ rfl v_L_stencil_of_3 dbg__law_rows cls__law_rows) pa_nil (by trivial)) nam_tuple dbg_tuple (by trivial) (by trivial)) (@pa_cons _ _ _ _ _ (@pv _ 0 _ _ rfl v_L_stencil_of_0 dbg__law_big_here cls__law_big_here) pa_nil (by trivial)) (by trivial)))))))))), fn_run (N := ["_law_big_here", "_law_wide", "_law_high", "_law_rows", "_law_j", "_law_row", "_law_i"]) (np := 1) (nl := 6) (b_seq (b_asg (e_op o_add e_int (e_op o_mod e_var e_int)) g_name) (b_seq (b_asg (e_op o_add e_int (e_op o_mod (e_op o_div e_var e_int) e_int)) g_name) (b_seq (b_asg (e_op o_div e_var e_int) g_name) (b_seq b_new (b_seq (b_for (it_range1 (a_cons e_var a_nil)) g_name (b_seq (b_asg e_str g_name) (b_seq (b_for (it_range1 (a_cons e_var a_nil)) g_name (b_seq (b_asg (e_op o_catS e_var (e_op o_ixS e_str (e_op o_mod e_var e_int))) g_name) (b_asg (e_op o_div e_var e_int) g_name))) (b_expr (e_mt (i := 3) m_append (a_cons e_var a_nil)))))) (b_ret (e_bor (i := 3) (e_tup (a_cons (e_app c_tupOf (a_cons e_var a_nil)) (a_cons e_var a_nil)))) (by decide))))))) rfl h⟩
theorem ok_L_size_of (F : Fun K "_law_size_of" "_law_size_of" s_L_size_of f fd) : FnOk P w K mg base CX0 1 f fd ["_law_big_here", "_law_most"] (spD ⟨K, w⟩ m_L_size_of false) := by
 have nd := sc_L_size_of.nd
 refine F.ok sc_L_size_of (fun vs H Q E h => fn_len dFun_len h) (fun cdv A outer s H vs Q E hr h => ?_)
 exact ⟨_, (@pss_cons _ _ _ _ _ (@ps_if _ _ _ _ _ _ _ _ (@pt_cmpR _ _ _ _ _ _ _ _ (@op_eqK _ (hu64 hr)) (@pe_op _ _ _ _ _ _ _ _ op_mod (@pv _ 0 _ _ rfl v_L_size_of_0 dbg__law_big_here cls__law_big_here) pe_int) pe_int (nomark _)) (@pss_one _ _ _ (@ps_ret _ _ _ _ (@pe_tup _ _ _ _ _ (@pa_cons _ _ _ _ _ (@pe_op _ _ _ _ _ _ _ _ op_add pe_int (@pe_op _ _ _ _ _ _ _ _ op_mod (@pe_op _ _ _ _ _ _ _ _ op_fdivB (@pv _ 0 _ _ rfl v_L_size_of_0 dbg__law_big_here cls__law_big_here) pe_int) (@pv _ 1 _ _ rfl v_L_size_of_1 dbg__law_most cls__law_most))) (@pa_cons _ _ _ _ _ (@pe_op _ _ _ _ _ _ _ _ op_fdivB (@pe_op _ _ _ _ _ _ _ _ op_fdivB (@pv _ 0 _ _ rfl v_L_size_of_0 dbg__law_big_here cls__law_big_here) pe_int) (@pv _ 1 _ _ rfl v_L_size_of_1 dbg__law_most cls__law_most)) pa_nil (by trivial)) (by trivial))))) pss_nil) (@pss_one _ _ _ (@ps_ret _ _ _ _ (@pe_tup _ _ _ _ _ (@pa_cons _ _ _ _ _ (@pe_op _ _ _ _ _ _ _ _ op_add pe_int (@pe_op _ _ _ _ _ _ _ _ op_mod (@pe_op _ _ _ _ _ _ _ _ op_fdivB (@pv _ 0 _ _ rfl v_L_size_of_0 dbg__law_big_here cls__law_big_here) pe_int) pe_int)) (@pa_cons _ _ _ _ _ (@pe_op _ _ _ _ _ _ _ _ op_fdivB (@pv _ 0 _ _ rfl v_L_size_of_0 dbg__law_big_here cls__law_big_here) pe_int) pa_nil (by trivial)) (by trivial)))))), fn_run (N := ["_law_big_here", "_law_most"]) (np := 2) (nl := 0) (b_seq (b_if (t_test (e_op o_eq (e_op o_mod e_var e_int) e_int)) (b_ret (e_tup (a_cons (e_op o_add e_int (e_op o_mod (e_op o_div e_var e_int) e_var)) (a_cons (e_op o_div (e_op o_div e_var e_int) e_var) a_nil))) (by decide)) b_nil) (b_ret (e_tup (a_cons (e_op o_add e_int (e_op o_mod (e_op o_div e_var e_int) e_int)) (a_cons (e_op o_div e_var e_int) a_nil))) (by decide))) rfl h⟩
theorem ok_L_word_of (F : Fun K "_law_word_of" "_law_word_of" s_L_word_of f fd) (z_range : mg "range" = none) : FnOk P w K mg base CX0 1 f fd ["_law_big_here"] (spD ⟨K, w⟩ m_L_word_of false) := by
 have nd := sc_L_word_of.nd
 refine F.ok sc_L_word_of (fun vs H Q E h => fn_len dFun_len h) (fun cdv A outer s H vs Q E hr h => ?_)
 exact ⟨_, (@pss_cons _ _ _ _ _ (@ps_set _ _ 1 _ _ _ _ nd rfl n_L_word_of_1 pe_str (by trivial) (by trivial)) (@pss_cons _ _ _ _ _ (@ps_set _ _ 2 _ _ _ _ nd rfl n_L_word_of_2 (@pe_op _ _ _ _ _ _ _ _ op_mod (@pv _ 0 _ _ rfl v_L_word_of_0 dbg__law_big_here cls__law_big_here) pe_int) (by trivial) (by trivial)) (@pss_cons _ _ _ _ _ (@ps_set _ _ 0 _ _ _ _ nd rfl n_L_word_of_0 (@pe_op _ _ _ _ _ _ _ _ op_fdivB (@pv _ 0 _ _ rfl v_L_word_of_0 dbg__law_big_here cls__law_big_here) pe_int) (by trivial) (by trivial)) (@pss_cons _ _ _ _ _ (@ps_for _ _ _ _ _ _ _ _ PassesOwn.never rfl (@pi_range1 _ _ _ _ _ _ g_L_word_of_range z_range (@pa_cons _ _ _ _ _ (@pv _ 2 _ _ rfl v_L_word_of_2 dbg__law_size cls__law_size) pa_nil (by trivial)) (by trivial)) (@pg_name _ _ 3 _ nd rfl n_L_word_of_3 (by trivial)) (@pss_cons _ _ _ _ _ (@ps_set _ _ 1 _ _ _ _ nd rfl n_L_word_of_1 (@pe_op _ _ _ _ _ _ _ _ op_add_str (@pv _ 1 _ _ rfl v_L_word_of_1 dbg__law_text cls__law_text) (@pe_ix _ _ _ _ _ _ _ ix_str pe_str (@pe_op _ _ _ _ _ _ _ _ op_mod (@pv _ 0 _ _ rfl v_L_word_of_0 dbg__law_big_here cls__law_big_here) pe_int) (fun _ _ => rfl))) (by trivial) (by trivial)) (@pss_one _ _ _ (@ps_set _ _ 0 _ _ _ _ nd rfl n_L_word_of_0 (@pe_op _ _ _ _ _ _ _ _ op_fdivB (@pv _ 0 _ _ rfl v_L_word_of_0 dbg__law_big_here cls__law_big_here) pe_int) (by trivial) (by trivial)))) (by trivial)) (@pss_one _ _ _ (@ps_ret _ _ _ _ (@pe_tup _ _ _ _ _ (@pa_cons _ _ _ _ _ (@pv _ 1 _ _ rfl v_L_word_of_1 dbg__law_text cls__law_text) (@pa_cons _ _ _ _ _ (@pv _ 0 _ _ rfl v_L_word_of_0 dbg__law_big_here cls__law_big_here) pa_nil (by trivial)) (by trivial))))))))), fn_run (N := ["_law_big_here", "_law_text", "_law_size", "_law_k"]) (np := 1) (nl := 3) (b_seq (b_asg e_str g_name) (b_seq (b_asg (e_op o_mod e_var e_int) g_name) (b_seq (b_asg (e_op o_div e_var e_int) g_name) (b_seq (b_for (it_range1 (a_cons e_var a_nil)) g_name (b_seq (b_asg (e_op o_catS e_var (e_op o_ixS e_str (e_op o_mod e_var e_int))) g_name) (b_asg (e_op o_div e_var e_int) g_name))) (b_ret (e_tup (a_cons e_var (a_cons e_var a_nil))) (by decide)))))) rfl h⟩
theorem ok_L_data_of (F : Fun K "_law_data_of" "_law_data_of" s_L_data_of f fd) (C_L_size_of : Cal P w K mg base 3 "_law_size_of" ["_law_big_here", "_law_most"] (spD ⟨K, w⟩ m_L_size_of false)) (C_L_step_of : Cal P w K mg base 3 "_law_step_of" ["_law_big_here"] (spD ⟨K, w⟩ m_L_step_of false)) (C_L_paint_of : Cal P w K mg base 3 "_law_paint_of" ["_law_big_here"] (spD ⟨K, w⟩ m_L_paint_of false)) (C_L_word_of : Cal P w K mg base 3 "_law_word_of" ["_law_big_here"] (spD ⟨K, w⟩ m_L_word_of false)) (C_L_stencil_of : Cal P w K mg base 3 "_law_stencil_of" ["_law_big_here"] (spD ⟨K, w⟩ m_L_stencil_of false)) : FnOk P w K mg base CX0 4 f fd ["_law_kind", "_law_big_here"] (spD ⟨K, w⟩ m_L_data_of false) := by
 have nd := sc_L_data_of.nd
 refine F.ok sc_L_data_of (fun vs H Q E h => fn_len dFun_len h) (fun cdv A outer s H vs Q E hr h => ?_)
 exact ⟨_, (@pss_cons _ _ _ _ _ (@ps_if _ _ _ _ _ _ _ _ (@pt_cmpR _ _ _ _ _ _ _ _ (@op_inK _ (hu65 hr)) (@pv _ 0 _ _ rfl v_L_data_of_0 dbg__law_kind cls__law_kind) (@pe_tup _ _ _ _ _ (@pa_cons _ _ _ _ _ pe_str (@pa_cons _ _ _ _ _ pe_str pa_nil (by trivial)) (by trivial))) (by with_unfolding_all rfl)) (@pss_one _ _ _ (@ps_ret _ _ _ _ (@pe_tup _ _ _ _ _ (@pa_cons _ _ _ _ _ (@pe_tup _ _ _ _ _ pa_nil) (@pa_cons _ _ _ _ _ (@pv _ 1 _ _ rfl v_L_data_of_1 dbg__law_big_here cls__law_big_here) pa_nil (by trivial)) (by trivial))))) pss_nil) (@pss_cons _ _ _ _ _ (@ps_if _ _ _ _ _ _ _ _ (@pt_cmpR _ _ _ _ _ _ _ _ (@op_eqK _ (hu64 hr)) (@pv _ 0 _ _ rfl v_L_data_of_0 dbg__law_kind cls__law_kind) pe_str (nomark _)) (@pss_one _ _ _ (@ps_ret _ _ _ _ (@pe_tup _ _ _ _ _ (@pa_cons _ _ _ _ _ (@pe_tup _ _ _ _ _ (@pa_cons _ _ _ _ _ (@pe_op _ _ _ _ _ _ _ _ op_mod (@pv _ 1 _ _ rfl v_L_data_of_1 dbg__law_big_here cls__law_big_here) pe_int) (@pa_cons _ _ _ _ _ (@pe_cmpR _ _ _ _ _ _ _ _ (@op_eqK _ (hu64 hr)) (@pe_op _ _ _ _ _ _ _ _ op_mod (@pe_op _ _ _ _ _ _ _ _ op_fdivB (@pv _ 1 _ _ rfl v_L_data_of_1 dbg__law_big_here cls__law_big_here) pe_int) pe_int) pe_int (nomark _)) pa_nil (by trivial)) (by trivial))) (@pa_cons _ _ _ _ _ (@pe_op _ _ _ _ _ _ _ _ op_fdivB (@pv _ 1 _ _ rfl v_L_data_of_1 dbg__law_big_here cls__law_big_here) pe_int) pa_nil (by trivial)) (by trivial))))) pss_nil) (@pss_cons _ _ _ _ _ (@ps_if _ _ _ _ _ _ _ _ (@pt_cmpR _ _ _ _ _ _ _ _ (@op_eqK _ (hu64 hr)) (@pv _ 0 _ _ rfl v_L_data_of_0 dbg__law_kind cls__law_kind) pe_str (nomark _)) (@pss_cons _ _ _ _ _ (@ps_set _ _ 2 _ _ _ _ nd rfl n_L_data_of_2 (@pe_tup _ _ _ _ _ (@pa_cons _ _ _ _ _ (@pe_op _ _ _ _ _ _ _ _ op_add pe_int (@pe_op _ _ _ _ _ _ _ _ op_mod (@pv _ 1 _ _ rfl v_L_data_of_1 dbg__law_big_here cls__law_big_here) pe_int)) (@pa_cons _ _ _ _ _ (@pe_op _ _ _ _ _ _ _ _ op_add pe_int (@pe_op _ _ _ _ _ _ _ _ op_mod (@pe_op _ _ _ _ _ _ _ _ op_fdivB (@pv _ 1 _ _ rfl v_L_data_of_1 dbg__law_big_here cls__law_big_here) pe_int) pe_int)) (@pa_cons _ _ _ _ _ (@pe_op _ _ _ _ _ _ _ _ op_sub (@pe_op _ _ _ _ _ _ _ _ op_mod (@pe_op _ _ _ _ _ _ _ _ op_fdivB (@pv _ 1 _ _ rfl v_L_data_of_1 dbg__law_big_here cls__law_big_here) pe_int) pe_int) pe_int) (@pa_cons _ _ _ _ _ (@pe_op _ _ _ _ _ _ _ _ op_sub (@pe_op _ _ _ _ _ _ _ _ op_mod (@pe_op _ _ _ _ _ _ _ _ op_fdivB (@pv _ 1 _ _ rfl v_L_data_of_1 dbg__law_big_here cls__law_big_here) pe_int) pe_int) pe_int) pa_nil (by trivial)) (by trivial)) (by trivial)) (by trivial))) (by trivial) (by trivial)) (@pss_cons _ _ _ _ _ (@ps_if _ _ _ _ _ _ _ _ (@pt_cmpR _ _ _ _ _ _ _ _ op_gt (@pe_op _ _ _ _ _ _ _ _ op_mod (@pe_op _ _ _ _ _ _ _ _ op_fdivB (@pv _ 1 _ _ rfl v_L_data_of_1 dbg__law_big_here cls__law_big_here) pe_int) pe_int) pe_int (nomark _)) (@pss_one _ _ _ (@ps_set _ _ 2 _ _ _ _ nd rfl n_L_data_of_2 (@pe_op _ _ _ _ _ _ _ _ op_catT (@pe_slice _ _ _ _ _ _ _ _ _ _ sl_tup (@pv _ 2 _ _ rfl v_L_data_of_2 dbg__law_data cls__law_data) po_none (@po_some _ _ _ pe_int)) (@pe_tup _ _ _ _ _ (@pa_cons _ _ _ _ _ (@pe_op _ _ _ _ _ _ _ _ op_mod (@pe_ix _ _ _ _ _ _ _ ix_tup (@pv _ 2 _ _ rfl v_L_data_of_2 dbg__law_data cls__law_data) pe_int (fun _ _ => rfl)) pe_int) (@pa_cons _ _ _ _ _ (@pe_op _ _ _ _ _ _ _ _ op_mod (@pe_ix _ _ _ _ _ _ _ ix_tup (@pv _ 2 _ _ rfl v_L_data_of_2 dbg__law_data cls__law_data) pe_int (fun _ _ => rfl)) pe_int) pa_nil (by trivial)) (by trivial)))) (by trivial) (by trivial))) pss_nil) (@pss_one _ _ _ (@ps_ret _ _ _ _ (@pe_tup _ _ _ _ _ (@pa_cons _ _ _ _ _ (@pv _ 2 _ _ rfl v_L_data_of_2 dbg__law_data cls__law_data) (@pa_cons _ _ _ _ _ (@pe_op _ _ _ _ _ _ _ _ op_fdivB (@pv _ 1 _ _ rfl v_L_data_of_1 dbg__law_big_here cls__law_big_here) pe_int) pa_nil (by trivial)) (by trivial))))))) pss_nil) (@pss_cons _ _ _ _ _ (@ps_if _ _ _ _ _ _ _ _ (@pt_cmpR _ _ _ _ _ _ _ _ (@op_eqK _ (hu64 hr)) (@pv _ 0 _ _ rfl v_L_data_of_0 dbg__law_kind cls__law_kind) pe_str (nomark _)) (@pss_cons _ _ _ _ _ (@ps_asg _ _ _ _ _ _ (@pe_callC _ _ _ _ _ _ _ _ _ _ C_L_size_of hr g_L_data_of__law_size_of (@pa_cons _ _ _ _ _ (@pv _ 1 _ _ rfl v_L_data_of_1 dbg__law_big_here cls__law_big_here) (@pa_cons _ _ _ _ _ pe_int pa_nil (by trivial)) (by trivial)) dbg__law_size_of (by trivial) (by trivial)) (@pg_tup _ _ _ _ _ _ rfl (@pgs_cons _ _ _ _ _ (@pg_name _ _ 3 _ nd rfl n_L_data_of_3 (by trivial)) (@pgs_cons _ _ _ _ _ (@pg_name _ _ 1 _ nd rfl n_L_data_of_1 (by trivial)) pgs_nil (by trivial)) (by trivial)) (by trivial) (by trivial)) (by trivial) (by trivial) (by trivial)) (@pss_cons _ _ _ _ _ (@ps_asg _ _ _ _ _ _ (@pe_callC _ _ _ _ _ _ _ _ _ _ C_L_size_of hr g_L_data_of__law_size_of (@pa_cons _ _ _ _ _ (@pv _ 1 _ _ rfl v_L_data_of_1 dbg__law_big_here cls__law_big_here) (@pa_cons _ _ _ _ _ pe_int pa_nil (by trivial)) (by trivial)) dbg__law_size_of (by trivial) (by trivial)) (@pg_tup _ _ _ _ _ _ rfl (@pgs_cons _ _ _ _ _ (@pg_name _ _ 4 _ nd rfl n_L_data_of_4 (by trivial)) (@pgs_cons _ _ _ _ _ (@pg_name _ _ 1 _ nd rfl n_L_data_of_1 (by trivial)) pgs_nil (by trivial)) (by trivial)) (by trivial) (by trivial)) (by trivial) (by trivial) (by trivial)) (@pss_cons _ _ _ _ _ (@ps_asg _ _ _ _ _ _ (@pe_callC _ _ _ _ _ _ _ _ _ _ C_L_step_of hr g_L_data_of__law_step_of (@pa_cons _ _ _ _ _ (@pv _ 1 _ _ rfl v_L_data_of_1 dbg__law_big_here cls__law_big_here) pa_nil (by trivial)) dbg__law_step_of (by trivial) (by trivial)) (@pg_tup _ _ _ _ _ _ rfl (@pgs_cons _ _ _ _ _ (@pg_name _ _ 5 _ nd rfl n_L_data_of_5 (by trivial)) (@pgs_cons _ _ _ _ _ (@pg_name _ _ 1 _ nd rfl n_L_data_of_1 (by trivial)) pgs_nil (by trivial)) (by trivial)) (by trivial) (by trivial)) (by trivial) (by trivial) (by trivial)) (@pss_cons _ _ _ _ _ (@ps_asg _ _ _ _ _ _ (@pe_callC _ _ _ _ _ _ _ _ _ _ C_L_step_of hr g_L_data_of__law_step_of (@pa_cons _ _ _ _ _ (@pv _ 1 _ _ rfl v_L_data_of_1 dbg__law_big_here cls__law_big_here) pa_nil (by trivial)) dbg__law_step_of (by trivial) (by trivial)) (@pg_tup _ _ _ _ _ _ rfl (@pgs_cons _ _ _ _ _ (@pg_name _ _ 6 _ nd rfl n_L_data_of_6 (by trivial)) (@pgs_cons _ _ _ _ _ (@pg_name _ _ 1 _ nd rfl n_L_data_of_1 (by trivial)) pgs_nil (by trivial)) (by trivial)) (by trivial) (by trivial)) (by trivial) (by trivial) (by trivial)) (@pss_one _ _ _ (@ps_ret _ _ _ _ (@pe_tup _ _ _ _ _ (@pa_cons _ _ _ _ _ (@pe_tup _ _ _ _ _ (@pa_cons _ _ _ _ _ (@pv _ 3 _ _ rfl v_L_data_of_3 dbg__law_w cls__law_w) (@pa_cons _ _ _ _ _ (@pv _ 4 _ _ rfl v_L_data_of_4 dbg__law_h cls__law_h) (@pa_cons _ _ _ _ _ (@pv _ 5 _ _ rfl v_L_data_of_5 dbg__law_sx cls__law_sx) (@pa_cons _ _ _ _ _ (@pv _ 6 _ _ rfl v_L_data_of_6 dbg__law_sy cls__law_sy) pa_nil (by trivial)) (by trivial)) (by trivial)) (by trivial))) (@pa_cons _ _ _ _ _ (@pv _ 1 _ _ rfl v_L_data_of_1 dbg__law_big_here cls__law_big_here) pa_nil (by trivial)) (by trivial))))))))) pss_nil) (@pss_cons _ _ _ _ _ (@ps_asg _ _ _ _ _ _ (@pe_callC _ _ _ _ _ _ _ _ _ _ C_L_paint_of hr g_L_data_of__law_paint_of (@pa_cons _ _ _ _ _ (@pv _ 1 _ _ rfl v_L_data_of_1 dbg__law_big_here cls__law_big_here) pa_nil (by trivial)) dbg__law_paint_of (by trivial) (by trivial)) (@pg_tup _ _ _ _ _ _ rfl (@pgs_cons _ _ _ _ _ (@pg_name _ _ 7 _ nd rfl n_L_data_of_7 (by trivial)) (@pgs_cons _ _ _ _ _ (@pg_name _ _ 8 _ nd rfl n_L_data_of_8 (by trivial)) (@pgs_cons _ _ _ _ _ (@pg_name _ _ 1 _ nd rfl n_L_data_of_1 (by trivial)) pgs_nil (by trivial)) (by trivial)) (by trivial)) (by trivial) (by trivial)) (by trivial) (by trivial) (by trivial)) (@pss_cons _ _ _ _ _ (@ps_if _ _ _ _ _ _ _ _ (@pt_cmpR _ _ _ _ _ _ _ _ (@op_eqK _ (hu64 hr)) (@pv _ 0 _ _ rfl v_L_data_of_0 dbg__law_kind cls__law_kind) pe_str (nomark _)) (@pss_one _ _ _ (@ps_ret _ _ _ _ (@pe_tup _ _ _ _ _ (@pa_cons _ _ _ _ _ (@pe_tup _ _ _ _ _ (@pa_cons _ _ _ _ _ (@pv _ 8 _ _ rfl v_L_data_of_8 dbg__law_share cls__law_share) pa_nil (by trivial))) (@pa_cons _ _ _ _ _ (@pv _ 1 _ _ rfl v_L_data_of_1 dbg__law_big_here cls__law_big_here) pa_nil (by trivial)) (by trivial))))) pss_nil) (@pss_cons _ _ _ _ _ (@ps_if _ _ _ _ _ _ _ _ (@pt_cmpR _ _ _ _ _ _ _ _ (@op_eqK _ (hu64 hr)) (@pv _ 0 _ _ rfl v_L_data_of_0 dbg__law_kind cls__law_kind) pe_str (nomark _)) (@pss_cons _ _ _ _ _ (@ps_asg _ _ _ _ _ _ (@pe_callC _ _ _ _ _ _ _ _ _ _ C_L_size_of hr g_L_data_of__law_size_of (@pa_cons _ _ _ _ _ (@pv _ 1 _ _ rfl v_L_data_of_1 dbg__law_big_here cls__law_big_here) (@pa_cons _ _ _ _ _ pe_int pa_nil (by trivial)) (by trivial)) dbg__law_size_of (by trivial) (by trivial)) (@pg_tup _ _ _ _ _ _ rfl (@pgs_cons _ _ _ _ _ (@pg_name _ _ 3 _ nd rfl n_L_data_of_3 (by trivial)) (@pgs_cons _ _ _ _ _ (@pg_name _ _ 1 _ nd rfl n_L_data_of_1 (by trivial)) pgs_nil (by trivial)) (by trivial)) (by trivial) (by trivial)) (by trivial) (by trivial) (by trivial)) (@pss_cons _ _ _ _ _ (@ps_asg _ _ _ _ _ _ (@pe_callC _ _ _ _ _ _ _ _ _ _ C_L_size_of hr g_L_data_of__law_size_of (@pa_cons _ _ _ _ _ (@pv _ 1 _ _ rfl v_L_data_of_1 dbg__law_big_here cls__law_big_here) (@pa_cons _ _ _ _ _ pe_int pa_nil (by trivial)) (by trivial)) dbg__law_size_of (by trivial) (by trivial)) (@pg_tup _ _ _ _ _ _ rfl (@pgs_cons _ _ _ _ _ (@pg_name _ _ 4 _ nd rfl n_L_data_of_4 (by trivial)) (@pgs_cons _ _ _ _ _ (@pg_name _ _ 1 _ nd rfl n_L_data_of_1 (by trivial)) pgs_nil (by trivial)) (by trivial)) (by trivial) (by trivial)) (by trivial) (by trivial) (by trivial)) (@pss_one _ _ _ (@ps_ret _ _ _ _ (@pe_tup _ _ _ _ _ (@pa_cons _ _ _ _ _ (@pe_tup _ _ _ _ _ (@pa_cons _ _ _ _ _ (@pv _ 3 _ _ rfl v_L_data_of_3 dbg__law_w cls__law_w) (@pa_cons _ _ _ _ _ (@pv _ 4 _ _ rfl v_L_data_of_4 dbg__law_h cls__law_h) (@pa_cons _ _ _ _ _ (@pv _ 7 _ _ rfl v_L_data_of_7 dbg__law_shade cls__law_shade) (@pa_cons _ _ _ _ _ (@pv _ 8 _ _ rfl v_L_data_of_8 dbg__law_share cls__law_share) pa_nil (by trivial)) (by trivial)) (by trivial)) (by trivial))) (@pa_cons _ _ _ _ _ (@pv _ 1 _ _ rfl v_L_data_of_1 dbg__law_big_here cls__law_big_here) pa_nil (by trivial)) (by trivial))))))) pss_nil) (@pss_cons _ _ _ _ _ (@ps_if _ _ _ _ _ _ _ _ (@pt_cmpR _ _ _ _ _ _ _ _ (@op_eqK _ (hu64 hr)) (@pv _ 0 _ _ rfl v_L_data_of_0 dbg__law_kind cls__law_kind) pe_str (nomark _)) (@pss_one _ _ _ (@ps_ret _ _ _ _ (@pe_tup _ _ _ _ _ (@pa_cons _ _ _ _ _ (@pe_tup _ _ _ _ _ (@pa_cons _ _ _ _ _ (@pe_op _ _ _ _ _ _ _ _ op_sub (@pe_op _ _ _ _ _ _ _ _ op_mod (@pv _ 1 _ _ rfl v_L_data_of_1 dbg__law_big_here cls__law_big_here) pe_int) pe_int) (@pa_cons _ _ _ _ _ (@pe_op _ _ _ _ _ _ _ _ op_sub (@pe_op _ _ _ _ _ _ _ _ op_mod (@pe_op _ _ _ _ _ _ _ _ op_fdivB (@pv _ 1 _ _ rfl v_L_data_of_1 dbg__law_big_here cls__law_big_here) pe_int) pe_int) pe_int) (@pa_cons _ _ _ _ _ (@pv _ 7 _ _ rfl v_L_data_of_7 dbg__law_shade cls__law_shade) (@pa_cons _ _ _ _ _ (@pv _ 8 _ _ rfl v_L_data_of_8 dbg__law_share cls__law_share) pa_nil (by trivial)) (by trivial)) (by trivial)) (by trivial))) (@pa_cons _ _ _ _ _ (@pe_op _ _ _ _ _ _ _ _ op_fdivB (@pv _ 1 _ _ rfl v_L_data_of_1 dbg__law_big_here cls__law_big_here) pe_int) pa_nil (by trivial)) (by trivial))))) pss_nil) (@pss_cons _ _ _ _ _ (@ps_if _ _ _ _ _ _ _ _ (@pt_cmpR _ _ _ _ _ _ _ _ (@op_eqK _ (hu64 hr)) (@pv _ 0 _ _ rfl v_L_data_of_0 dbg__law_kind cls__law_kind) pe_str (nomark _)) (@pss_cons _ _ _ _ _ (@ps_asg _ _ _ _ _ _ (@pe_callC _ _ _ _ _ _ _ _ _ _ C_L_word_of hr g_L_data_of__law_word_of (@pa_cons _ _ _ _ _ (@pv _ 1 _ _ rfl v_L_data_of_1 dbg__law_big_here cls__law_big_here) pa_nil (by trivial)) dbg__law_word_of (by trivial) (by trivial)) (@pg_tup _ _ _ _ _ _ rfl (@pgs_cons _ _ _ _ _ (@pg_name _ _ 9 _ nd rfl n_L_data_of_9 (by trivial)) (@pgs_cons _ _ _ _ _ (@pg_name _ _ 1 _ nd rfl n_L_data_of_1 (by trivial)) pgs_nil (by trivial)) (by trivial)) (by trivial) (by trivial)) (by trivial) (by trivial) (by trivial)) (@pss_one _ _ _ (@ps_ret _ _ _ _ (@pe_tup _ _ _ _ _ (@pa_cons _ _ _ _ _ (@pe_tup _ _ _ _ _ (@pa_cons _ _ _ _ _ (@pv _ 9 _ _ rfl v_L_data_of_9 dbg__law_text cls__law_text) (@pa_cons _ _ _ _ _ (@pv _ 7 _ _ rfl v_L_data_of_7 dbg__law_shade cls__law_shade) (@pa_cons _ _ _ _ _ (@pv _ 8 _ _ rfl v_L_data_of_8 dbg__law_share cls__law_share) pa_nil (by trivial)) (by trivial)) (by trivial))) (@pa_cons _ _ _ _ _ (@pv _ 1 _ _ rfl v_L_data_of_1 dbg__law_big_here cls__law_big_here) pa_nil (by trivial)) (by trivial)))))) pss_nil) (@pss_cons _ _ _ _ _ (@ps_asg _ _ _ _ _ _ (@pe_callC _ _ _ _ _ _ _ _ _ _ C_L_stencil_of hr g_L_data_of__law_stencil_of (@pa_cons _ _ _ _ _ (@pv _ 1 _ _ rfl v_L_data_of_1 dbg__law_big_here cls__law_big_here) pa_nil (by trivial)) dbg__law_stencil_of (by trivial) (by trivial)) (@pg_tup _ _ _ _ _ _ rfl (@pgs_cons _ _ _ _ _ (@pg_name _ _ 10 _ nd rfl n_L_data_of_10 (by trivial)) (@pgs_cons _ _ _ _ _ (@pg_name _ _ 1 _ nd rfl n_L_data_of_1 (by trivial)) pgs_nil (by trivial)) (by trivial)) (by trivial) (by trivial)) (by trivial) (by trivial) (by trivial)) (@pss_one _ _ _ (@ps_ret _ _ _ _ (@pe_tup _ _ _ _ _ (@pa_cons _ _ _ _ _ (@pe_tup _ _ _ _ _ (@pa_cons _ _ _ _ _ (@pv _ 10 _ _ rfl v_L_data_of_10 dbg__law_rows cls__law_rows) (@pa_cons _ _ _ _ _ (@pv _ 7 _ _ rfl v_L_data_of_7 dbg__law_shade cls__law_shade) (@pa_cons _ _ _ _ _ (@pv _ 8 _ _ rfl v_L_data_of_8 dbg__law_share cls__law_share) pa_nil (by trivial)) (by trivial)) (by trivial))) (@pa_cons _ _ _ _ _ (@pv _ 1 _ _ rfl v_L_data_of_1 dbg__law_big_here cls__law_big_here) pa_nil (by trivial)) (by trivial))))))))))))))), fn_run (N := ["_law_kind", "_law_big_here", "_law_data", "_law_w", "_law_h", "_law_sx", "_law_sy", "_law_shade", "_law_share", "_law_text", "_law_rows"]) (np := 2) (nl := 9) (b_seq (b_if (t_test (e_op o_in e_var (e_tup (a_cons e_str (a_cons e_str a_nil))))) (b_ret (e_tup (a_cons (e_tup a_nil) (a_cons e_var a_nil))) (by decide)) b_nil) (b_seq (b_if (t_test (e_op o_eq e_var e_str)) (b_ret (e_tup (a_cons (e_tup (a_cons (e_op o_mod e_var e_int) (a_cons (e_op o_eq (e_op o_mod (e_op o_div e_var e_int) e_int) e_int) a_nil))) (a_cons (e_op o_div e_var e_int) a_nil))) (by decide)) b_nil) (b_seq (b_if (t_test (e_op o_eq e_var e_str)) (b_seq (b_asg (e_tup (a_cons (e_op o_add e_int (e_op o_mod e_var e_int)) (a_cons (e_op o_add e_int (e_op o_mod (e_op o_div e_var e_int) e_int)) (a_cons (e_op o_sub (e_op o_mod (e_op o_div e_var e_int) e_int) e_int) (a_cons (e_op o_sub (e_op o_mod (e_op o_div e_var e_int) e_int) e_int) a_nil))))) g_name) (b_seq (b_if (t_test (e_op o_gt (e_op o_mod (e_op o_div e_var e_int) e_int) e_int)) (b_asg (e_op o_catT (e_slT e_var o_nop (o_pt e_int)) (e_tup (a_cons (e_op o_mod (e_op o_ixT e_var e_int) e_int) (a_cons (e_op o_mod (e_op o_ixT e_var e_int) e_int) a_nil)))) g_name) b_nil) (b_ret (e_tup (a_cons e_var (a_cons (e_op o_div e_var e_int) a_nil))) (by decide)))) b_nil) (b_seq (b_if (t_test (e_op o_eq e_var e_str)) (b_seq (b_asg (e_call (a_cons e_var (a_cons e_int a_nil))) (g_tup (gs_cons g_name (gs_cons g_name gs_nil)) (len_cons (len_cons len_nil)))) (b_seq (b_asg (e_call (a_cons e_var (a_cons e_int a_nil))) (g_tup (gs_cons g_name (gs_cons g_name gs_nil)) (len_cons (len_cons len_nil)))) (b_seq (b_asg (e_call (a_cons e_var a_nil)) (g_tup (gs_cons g_name (gs_cons g_name gs_nil)) (len_cons (len_cons len_nil)))) (b_seq (b_asg (e_call (a_cons e_var a_nil)) (g_tup (gs_cons g_name (gs_cons g_name gs_nil)) (len_cons (len_cons len_nil)))) (b_ret (e_tup (a_cons (e_tup (a_cons e_var (a_cons e_var (a_cons e_var (a_cons e_var a_nil))))) (a_cons e_var a_nil))) (by decide)))))) b_nil) (b_seq (b_asg (e_call (a_cons e_var a_nil)) (g_tup (gs_cons g_name (gs_cons g_name (gs_cons g_name gs_nil))) (len_cons (len_cons (len_cons len_nil))))) (b_seq (b_if (t_test (e_op o_eq e_var e_str)) (b_ret (e_tup (a_cons (e_tup (a_cons e_var a_nil)) (a_cons e_var a_nil))) (by decide)) b_nil) (b_seq (b_if (t_test (e_op o_eq e_var e_str)) (b_seq (b_asg (e_call (a_cons e_var (a_cons e_int a_nil))) (g_tup (gs_cons g_name (gs_cons g_name gs_nil)) (len_cons (len_cons len_nil)))) (b_seq (b_asg (e_call (a_cons e_var (a_cons e_int a_nil))) (g_tup (gs_cons g_name (gs_cons g_name gs_nil)) (len_cons (len_cons len_nil)))) (b_ret (e_tup (a_cons (e_tup (a_cons e_var (a_cons e_var (a_cons e_var (a_cons e_var a_nil))))) (a_cons e_var a_nil))) (by decide)))) b_nil) (b_seq (b_if (t_test (e_op o_eq e_var e_str)) (b_ret (e_tup (a_cons (e_tup (a_cons (e_op o_sub (e_op o_mod e_var e_int) e_int) (a_cons (e_op o_sub (e_op o_mod (e_op o_div e_var e_int) e_int) e_int) (a_cons e_var (a_cons e_var a_nil))))) (a_cons (e_op o_div e_var e_int) a_nil))) (by decide)) b_nil) (b_seq (b_if (t_test (e_op o_eq e_var e_str)) (b_seq (b_asg (e_call (a_cons e_var a_nil)) (g_tup (gs_cons g_name (gs_cons g_name gs_nil)) (len_cons (len_cons len_nil)))) (b_ret (e_tup (a_cons (e_tup (a_cons e_var (a_cons e_var (a_cons e_var a_nil)))) (a_cons e_var a_nil))) (by decide))) b_nil) (b_seq (b_asg (e_call (a_cons e_var a_nil)) (g_tup (gs_cons g_name (gs_cons g_name gs_nil)) (len_cons (len_cons len_nil)))) (b_ret (e_tup (a_cons (e_tup (a_cons e_var (a_cons e_var (a_cons e_var a_nil)))) (a_cons e_var a_nil))) (by decide)))))))))))) rfl h⟩
theorem ok_L_kinds (F : Fun K "_law_kinds" "_law_kinds" s_L_kinds f fd) : FnOk P w K mg base CX0 1 f fd [] (spD ⟨K, w⟩ m_L_kinds false) := by
 have nd := sc_L_kinds.nd
 refine F.ok sc_L_kinds (fun vs H Q E h => fn_len dFun_len h) (fun cdv A outer s H vs Q E hr h => ?_)
 exact ⟨_, (@pss_cons _ _ _ _ _ (@ps_set _ _ 0 _ _ _ _ nd rfl n_L_kinds_0 (@pe_tup _ _ _ _ _ (@pa_cons _ _ _ _ _ pe_str (@pa_cons _ _ _ _ _ pe_str (@pa_cons _ _ _ _ _ pe_str (@pa_cons _ _ _ _ _ pe_str (@pa_cons _ _ _ _ _ pe_str (@pa_cons _ _ _ _ _ pe_str pa_nil (by trivial)) (by trivial)) (by trivial)) (by trivial)) (by trivial)) (by trivial))) (by trivial) (by trivial)) (@pss_one _ _ _ (@ps_ret _ _ _ _ (@pe_op _ _ _ _ _ _ _ _ op_catT (@pv _ 0 _ _ rfl v_L_kinds_0 dbg__law_leaves cls__law_leaves) (@pe_tup _ _ _ _ _ (@pa_cons _ _ _ _ _ pe_str (@pa_cons _ _ _ _ _ pe_str (@pa_cons _ _ _ _ _ pe_str (@pa_cons _ _ _ _ _ pe_str (@pa_cons _ _ _ _ _ pe_str (@pa_cons _ _ _ _ _ pe_str pa_nil (by trivial)) (by trivial)) (by trivial)) (by trivial)) (by trivial)) (by trivial))))))), fn_run (N := ["_law_leaves"]) (np := 0) (nl := 1) (b_seq (b_asg (e_tup (a_cons e_str (a_cons e_str (a_cons e_str (a_cons e_str (a_cons e_str (a_cons e_str a_nil))))))) g_name) (b_ret (e_op o_catT e_var (e_tup (a_cons e_str (a_cons e_str (a_cons e_str (a_cons e_str (a_cons e_str (a_cons e_str a_nil)))))))) (by decide))) rfl h⟩
theorem ok_L_row_of (F : Fun K "_law_row_of" "_law_row_of" s_L_row_of f fd) (C_L_name_of : Cal P w K mg base 4 "_law_name_of" ["_law_big_here"] (spD ⟨K, w⟩ m_L_name_of false)) (C_L_up : Cal P w K mg base 4 "_law_up" ["_law_rows", "_law_name"] (spD ⟨K, w⟩ m_L_up true)) (C_L_kinds : Cal P w K mg base 4 "_law_kinds" [] (spD ⟨K, w⟩ m_L_kinds false)) (C_L_step_of : Cal P w K mg base 4 "_law_step_of" ["_law_big_here"] (spD ⟨K, w⟩ m_L_step_of false)) (C_L_data_of : Cal P w K mg base 4 "_law_data_of" ["_law_kind", "_law_big_here"] (spD ⟨K, w⟩ m_L_data_of false)) (z_len : mg "len" = none) : FnOk P w K mg base CX0 5 f fd ["_law_rows", "_law_big_here"] (spD ⟨K, w⟩ m_L_row_of false) := by
 have nd := sc_L_row_of.nd
 refine F.ok sc_L_row_of (fun vs H Q E h => fn_len dFun_len h) (fun cdv A outer s H vs Q E hr h => ?_)
 exact ⟨_, (@pss_cons _ _ _ _ _ (@ps_asg _ _ _ _ _ _ (@pe_callC _ _ _ _ _ _ _ _ _ _ C_L_name_of hr g_L_row_of__law_name_of (@pa_cons _ _ _ _ _ (@pv _ 1 _ _ rfl v_L_row_of_1 dbg__law_big_here cls__law_big_here) pa_nil (by trivial)) dbg__law_name_of (by trivial) (by trivial)) (@pg_tup _ _ _ _ _ _ rfl (@pgs_cons _ _ _ _ _ (@pg_name _ _ 2 _ nd rfl n_L_row_of_2 (by trivial)) (@pgs_cons _ _ _ _ _ (@pg_name _ _ 1 _ nd rfl n_L_row_of_1 (by trivial)) pgs_nil (by trivial)) (by trivial)) (by trivial) (by trivial)) (by trivial) (by trivial) (by trivial)) (@pss_cons _ _ _ _ _ (@ps_set _ _ 3 _ _ _ _ nd rfl n_L_row_of_3 (@pe_lst _ _ _ _ (@pa_cons _ _ _ _ _ pe_str pa_nil (by trivial))) (by trivial) (by trivial)) (@pss_cons _ _ _ _ _ (@ps_for _ _ _ _ _ _ _ _ PassesOwn.never rfl (@pi_list _ _ _ _ (@pv _ 0 _ _ rfl v_L_row_of_0 dbg__law_rows cls__law_rows)) (@pg_name _ _ 4 _ nd rfl n_L_row_of_4 (by trivial)) (@pss_one _ _ _ (@ps_if _ _ _ _ _ _ _ _ (@PW.pt _ _ _ (@pw_and _ _ _ _ _ _ _ (@pt_cmpR _ _ _ _ _ _ _ _ (@op_inK _ (hu65 hr)) (@pe_ix _ _ _ _ _ _ _ ix_tup (@pv _ 4 _ _ rfl v_L_row_of_4 dbg__law_row cls__law_row) pe_int (fun _ _ => rfl)) (@pe_slice _ _ _ _ _ _ _ _ _ _ sl_tup (@pe_callC0 _ _ _ _ _ _ _ C_L_kinds hr g_L_row_of__law_kinds dbg__law_kinds) (@po_some _ _ _ pe_int) po_none) (by with_unfolding_all rfl)) (@pw_and1 _ _ _ _ (@pt_cmpR _ _ _ _ _ _ _ _ op_lt (@pe_callB _ _ _ _ _ _ _ _ _ call_len g_L_row_of_len z_len PySem.boot_len (@pa_cons _ _ _ _ _ (@pe_callC _ _ _ _ _ _ _ _ _ _ C_L_up hr g_L_row_of__law_up (@pa_cons _ _ _ _ _ (@pv _ 0 _ _ rfl v_L_row_of_0 dbg__law_rows cls__law_rows) (@pa_cons _ _ _ _ _ (@pe_ix _ _ _ _ _ _ _ ix_tup (@pv _ 4 _ _ rfl v_L_row_of_4 dbg__law_row cls__law_row) pe_int (fun _ _ => rfl)) pa_nil (by trivial)) (by trivial)) dbg__law_up (by trivial) (by trivial)) pa_nil (by trivial)) nam_len dbg_len (by trivial) (by trivial)) pe_int (nomark _))))) (@pss_one _ _ _ (@ps_expr _ _ _ _ (@pe_bm _ _ _ _ _ _ _ _ _ _ _ _ PySem.F.plainAttrs_list PySem.F.slot_list_append PySem.F.type_list_append mt_append (@pv _ 3 _ _ rfl v_L_row_of_3 dbg__law_holders cls__law_holders) (@pa_cons _ _ _ _ _ (@pe_ix _ _ _ _ _ _ _ ix_tup (@pv _ 4 _ _ rfl v_L_row_of_4 dbg__law_row cls__law_row) pe_int (fun _ _ => rfl)) pa_nil (by trivial)) (by trivial) (by trivial) (by trivial) (by trivial) (by trivial)) (by trivial))) pss_nil)) (by trivial)) (@pss_cons _ _ _ _ _ (@ps_set _ _ 5 _ _ _ _ nd rfl n_L_row_of_5 (@pe_ix _ _ _ _ _ _ _ ix_list (@pv _ 3 _ _ rfl v_L_row_of_3 dbg__law_holders cls__law_holders) (@pe_op _ _ _ _ _ _ _ _ op_mod (@pv _ 1 _ _ rfl v_L_row_of_1 dbg__law_big_here cls__law_big_here) (@pe_callB _ _ _ _ _ _ _ _ _ call_len g_L_row_of_len z_len PySem.boot_len (@pa_cons _ _ _ _ _ (@pv _ 3 _ _ rfl v_L_row_of_3 dbg__law_holders cls__law_holders) pa_nil (by trivial)) nam_len dbg_len (by trivial) (by trivial))) (fun _ _ => rfl)) (by trivial) (by trivial)) (@pss_cons _ _ _ _ _ (@ps_if _ _ _ _ _ _ _ _ (@pt_cmpR _ _ _ _ _ _ _ _ (@op_eqK _ (hu64 hr)) (@pe_op _ _ _ _ _ _ _ _ op_mod (@pe_op _ _ _ _ _ _ _ _ op_fdivB (@pv _ 1 _ _ rfl v_L_row_of_1 dbg__law_big_here cls__law_big_here) (@pe_callB _ _ _ _ _ _ _ _ _ call_len g_L_row_of_len z_len PySem.boot_len (@pa_cons _ _ _ _ _ (@pv _ 3 _ _ rfl v_L_row_of_3 dbg__law_holders cls__law_holders) pa_nil (by trivial)) nam_len dbg_len (by trivial) (by trivial))) pe_int) pe_int (nomark _)) (@pss_one _ _ _ (@ps_set _ _ 5 _ _ _ _ nd rfl n_L_row_of_5 (@pe_ix _ _ _ _ _ _ _ ix_list (@pv _ 3 _ _ rfl v_L_row_of_3 dbg__law_holders cls__law_holders) (@pe_un _ _ _ _ _ _ un_neg pe_int) (fun _ _ => rfl)) (by trivial) (by trivial))) pss_nil) (@pss_cons _ _ _ _ _ (@ps_set _ _ 1 _ _ _ _ nd rfl n_L_row_of_1 (@pe_op _ _ _ _ _ _ _ _ op_fdivB (@pe_op _ _ _ _ _ _ _ _ op_fdivB (@pv _ 1 _ _ rfl v_L_row_of_1 dbg__law_big_here cls__law_big_here) (@pe_callB _ _ _ _ _ _ _ _ _ call_len g_L_row_of_len z_len PySem.boot_len (@pa_cons _ _ _ _ _ (@pv _ 3 _ _ rfl v_L_row_of_3 dbg__law_holders cls__law_holders) pa_nil (by trivial)) nam_len dbg_len (by trivial) (by trivial))) pe_int) (by trivial) (by trivial)) (@pss_cons _ _ _ _ _ (@ps_asg _ _ _ _ _ _ (@pe_callC _ _ _ _ _ _ _ _ _ _ C_L_step_of hr g_L_row_of__law_step_of (@pa_cons _ _ _ _ _ (@pv _ 1 _ _ rfl v_L_row_of_1 dbg__law_big_here cls__law_big_here) pa_nil (by trivial)) dbg__law_step_of (by trivial) (by trivial)) (@pg_tup _ _ _ _ _ _ rfl (@pgs_cons _ _ _ _ _ (@pg_name _ _ 6 _ nd rfl n_L_row_of_6 (by trivial)) (@pgs_cons _ _ _ _ _ (@pg_name _ _ 1 _ nd rfl n_L_row_of_1 (by trivial)) pgs_nil (by trivial)) (by trivial)) (by trivial) (by trivial)) (by trivial) (by trivial) (by trivial)) (@pss_cons _ _ _ _ _ (@ps_asg _ _ _ _ _ _ (@pe_callC _ _ _ _ _ _ _ _ _ _ C_L_step_of hr g_L_row_of__law_step_of (@pa_cons _ _ _ _ _ (@pv _ 1 _ _ rfl v_L_row_of_1 dbg__law_big_here cls__law_big_here) pa_nil (by trivial)) dbg__law_step_of (by trivial) (by trivial)) (@pg_tup _ _ _ _ _ _ rfl (@pgs_cons _ _ _ _ _ (@pg_name _ _ 7 _ nd rfl n_L_row_of_7 (by trivial)) (@pgs_cons _ _ _ _ _ (@pg_name _ _ 1 _ nd rfl n_L_row_of_1 (by trivial)) pgs_nil (by trivial)) (by trivial)) (by trivial) (by trivial)) (by trivial) (by trivial) (by trivial)) (@pss_cons _ _ _ _ _ (@ps_set _ _ 8 _ _ _ _ nd rfl n_L_row_of_8 (@pe_ix _ _ _ _ _ _ _ ix_tup (@pe_callC0 _ _ _ _ _ _ _ C_L_kinds hr g_L_row_of__law_kinds dbg__law_kinds) (@pe_op _ _ _ _ _ _ _ _ op_mod (@pv _ 1 _ _ rfl v_L_row_of_1 dbg__law_big_here cls__law_big_here) pe_int) (fun _ _ => rfl)) (by trivial) (by trivial)) (@pss_cons _ _ _ _ _ (@ps_set _ _ 9 _ _ _ _ nd rfl n_L_row_of_9 (@pe_callC _ _ _ _ _ _ _ _ _ _ C_L_up hr g_L_row_of__law_up (@pa_cons _ _ _ _ _ (@pv _ 0 _ _ rfl v_L_row_of_0 dbg__law_rows cls__law_rows) (@pa_cons _ _ _ _ _ (@pv _ 5 _ _ rfl v_L_row_of_5 dbg__law_holder cls__law_holder) pa_nil (by trivial)) (by trivial)) dbg__law_up (by trivial) (by trivial)) (by trivial) (by trivial)) (@pss_cons _ _ _ _ _ (@ps_if _ _ _ _ _ _ _ _ (@PW.pt _ _ _ (@pw_and _ _ _ _ _ _ _ (@pt_cmpR _ _ _ _ _ _ _ _ (@op_eqK _ (hu64 hr)) (@pv _ 8 _ _ rfl v_L_row_of_8 dbg__law_kind cls__law_kind) pe_str (nomark _)) (@pw_and1 _ _ _ _ (@pt_cmpR _ _ _ _ _ _ _ _ (@op_neK _ (hu64 hr)) (@pe_lc _ ["_law_row", "_law_up_here"] 1 [9] _ _ _ _ _ _ _ _ _ _ rfl (@lc_ok _ ["_law_row", "_law_up_here"] 1 [9] _ ["_law_rows", "_law_big_here", "_law_name", "_law_holders", "_law_row", "_law_holder", "_law_x", "_law_y", "_law_kind", "_law_up_here", "_law_shown", "_law_data"] (defScope s_L_row_of) rfl rfl (by walk_at "dk")) (@pi_list _ _ _ _ (@pv _ 0 _ _ rfl v_L_row_of_0 dbg__law_rows cls__law_rows)) (fun cl fp s3 H3 => (@pg_name _ _ 0 _ nd0_L_row_of rfl (loc_local (by walk_at "dk")) (Or.inr (rl_local (by walk_at "dk"))))) (fun cl fp s3 H3 => (@pts_one _ _ _ (@PW.pt _ _ _ (@pw_and _ _ _ _ _ _ _ (@pt_cmpR _ _ _ _ _ _ _ _ (@op_inK _ (hu65 hr)) (@pe_ix _ _ _ _ _ _ _ ix_tup (@pv _ 0 _ _ rfl (vis_local (by walk_at "dk")) dbg__law_row cls__law_row) pe_int (fun _ _ => rfl)) (@pv _ 1 _ _ rfl (vis_free (by walk_at "dk")) dbg__law_up_here cls__law_up_here) (by with_unfolding_all rfl)) (@pw_and1 _ _ _ _ (@pt_cmpR _ _ _ _ _ _ _ _ (@op_eqK _ (hu64 hr)) (@pe_ix _ _ _ _ _ _ _ ix_tup (@pv _ 0 _ _ rfl (vis_local (by walk_at "dk")) dbg__law_row cls__law_row) pe_int (fun _ _ => rfl)) pe_str (nomark _))))))) (fun cl fp s3 H3 => (@pv _ 0 _ _ rfl (vis_local (by walk_at "dk")) dbg__law_row cls__law_row)) (by trivial)) (@pe_lst _ _ _ _ pa_nil) (nomark _))))) (@pss_one _ _ _ (@ps_set _ _ 8 _ _ _ _ nd rfl n_L_row_of_8 pe_str (by trivial) (by trivial))) pss_nil) (@pss_cons _ _ _ _ _ (@ps_set _ _ 10 _ _ _ _ nd rfl n_L_row_of_10 (@pe_cmpR _ _ _ _ _ _ _ _ op_gt (@pe_op _ _ _ _ _ _ _ _ op_mod (@pe_op _ _ _ _ _ _ _ _ op_fdivB (@pv _ 1 _ _ rfl v_L_row_of_1 dbg__law_big_here cls__law_big_here) pe_int) pe_int) pe_int (nomark _)) (by trivial) (by trivial)) (@pss_cons _ _ _ _ _ (@ps_asg _ _ _ _ _ _ (@pe_callC _ _ _ _ _ _ _ _ _ _ C_L_data_of hr g_L_row_of__law_data_of (@pa_cons _ _ _ _ _ (@pv _ 8 _ _ rfl v_L_row_of_8 dbg__law_kind cls__law_kind) (@pa_cons _ _ _ _ _ (@pe_op _ _ _ _ _ _ _ _ op_fdivB (@pv _ 1 _ _ rfl v_L_row_of_1 dbg__law_big_here cls__law_big_here) pe_int) pa_nil (by trivial)) (by trivial)) dbg__law_data_of (by trivial) (by trivial)) (@pg_tup _ _ _ _ _ _ rfl (@pgs_cons _ _ _ _ _ (@pg_name _ _ 11 _ nd rfl n_L_row_of_11 (by trivial)) (@pgs_cons _ _ _ _ _ (@pg_name _ _ 1 _ nd rfl n_L_row_of_1 (by trivial)) pgs_nil (by trivial)) (by trivial)) (by trivial) (by trivial)) (by trivial) (by trivial) (by trivial)) (@pss_one _ _ _ (@ps_ret _ _ _ _ (@pe_tup _ _ _ _ _ (@pa_cons _ _ _ _ _ (@pe_tup _ _ _ _ _ (@pa_cons _ _ _ _ _ (@pv _ 2 _ _ rfl v_L_row_of_2 dbg__law_name cls__law_name) (@pa_cons _ _ _ _ _ (@pv _ 5 _ _ rfl v_L_row_of_5 dbg__law_holder cls__law_holder) (@pa_cons _ _ _ _ _ (@pv _ 6 _ _ rfl v_L_row_of_6 dbg__law_x cls__law_x) (@pa_cons _ _ _ _ _ (@pv _ 7 _ _ rfl v_L_row_of_7 dbg__law_y cls__law_y) (@pa_cons _ _ _ _ _ (@pv _ 10 _ _ rfl v_L_row_of_10 dbg__law_shown cls__law_shown) (@pa_cons _ _ _ _ _ (@pv _ 8 _ _ rfl v_L_row_of_8 dbg__law_kind cls__law_kind) (@pa_cons _ _ _ _ _ (@pv _ 11 _ _ rfl v_L_row_of_11 dbg__law_data cls__law_data) pa_nil (by trivial)) (by trivial)) (by trivial)) (by trivial)) (by trivial)) (by trivial)) (by trivial))) (@pa_cons _ _ _ _ _ (@pv _ 1 _ _ rfl v_L_row_of_1 dbg__law_big_here cls__law_big_here) pa_nil (by trivial)) (by trivial)))))))))))))))))), fn_run (N := ["_law_rows", "_law_big_here", "_law_name", "_law_holders", "_law_row", "_law_holder", "_law_x", "_law_y", "_law_kind", "_law_up_here", "_law_shown", "_law_data"]) (np := 2) (nl := 10) (b_seq (b_asg (e_call (a_cons e_var a_nil)) (g_tup (gs_cons g_name (gs_cons g_name gs_nil)) (len_cons (len_cons len_nil)))) (b_seq (b_setM (e_lst (a_cons e_str a_nil))) (b_seq (b_for (it_list e_var) g_name (b_if (t_and (t_test (e_op o_in (e_op o_ixT e_var e_int) (e_slT (e_call a_nil) (o_pt e_int) o_nop))) (t_test (e_op o_lt (e_app c_len (a_cons (e_call (a_cons e_var (a_cons (e_op o_ixT e_var e_int) a_nil))) a_nil)) e_int))) (b_expr (e_mt (i := 3) m_append (a_cons (e_op o_ixT e_var e_int) a_nil))) b_nil)) (b_seq (b_asg (e_bor (i := 3) (e_op o_ixL e_var (e_op o_mod e_var (e_app c_len (a_cons e_var a_nil))))) g_name) (b_seq (b_if (t_bor (i := 3) (t_test (e_op o_eq (e_op o_mod (e_op o_div e_var (e_app c_len (a_cons e_var a_nil))) e_int) e_int))) (b_asg (e_bor (i := 3) (e_op o_ixL e_var (e_un u_neg e_int))) g_name) b_nil) (b_seq (b_asg (e_bor (i := 3) (e_op o_div (e_op o_div e_var (e_app c_len (a_cons e_var a_nil))) e_int)) g_name) (b_seq (b_asg (e_call (a_cons e_var a_nil)) (g_tup (gs_cons g_name (gs_cons g_name gs_nil)) (len_cons (len_cons len_nil)))) (b_seq (b_asg (e_call (a_cons e_var a_nil)) (g_tup (gs_cons g_name (gs_cons g_name gs_nil)) (len_cons (len_cons len_nil)))) (b_seq (b_asg (e_op o_ixT (e_call a_nil) (e_op o_mod e_var e_int)) g_name) (b_seq (b_asg (e_call (a_cons e_var (a_cons e_var a_nil))) g_name) (b_seq (b_if (t_and (t_test (e_op o_eq e_var e_str)) (t_test (e_op o_ne (e_lc (it_list e_var) g_name (t_and (t_test (e_op o_in (e_op o_ixT e_var e_int) e_var)) (t_test (e_op o_eq (e_op o_ixT e_var e_int) e_str))) e_var) (e_lst a_nil)))) (b_asg e_str g_name) b_nil) (b_seq (b_asg (e_op o_gt (e_op o_mod (e_op o_div e_var e_int) e_int) e_int) g_name) (b_seq (b_asg (e_call (a_cons e_var (a_cons (e_op o_div e_var e_int) a_nil))) (g_tup (gs_cons g_name (gs_cons g_name gs_nil)) (len_cons (len_cons len_nil)))) (b_ret (e_tup (a_cons (e_tup (a_cons e_var (a_cons e_var (a_cons e_var (a_cons e_var (a_cons e_var (a_cons e_var (a_cons e_var a_nil)))))))) (a_cons e_var a_nil))) (by decide))))))))))))))) rfl h⟩
theorem ok_L_cell_at (F : Fun K "_law_cell_at" "_law_cell_at" s_L_cell_at f fd) (z_len : mg "len" = none) : FnOk P w K mg base CX0 1 f fd ["_law_script", "_law_k"] (spD ⟨K, w⟩ m_L_cell_at false) := by
 have nd := sc_L_cell_at.nd
 refine F.ok sc_L_cell_at (fun vs H Q E h => fn_len dFun_len h) (fun cdv A outer s H vs Q E hr h => ?_)
 exact ⟨_, (@pss_cons _ _ _ _ _ (@ps_if _ _ _ _ _ _ _ _ (@pt_cmpR _ _ _ _ _ _ _ _ op_lt (@pv _ 1 _ _ rfl v_L_cell_at_1 dbg__law_k cls__law_k) (@pe_callB _ _ _ _ _ _ _ _ _ call_len g_L_cell_at_len z_len PySem.boot_len (@pa_cons _ _ _ _ _ (@pv _ 0 _ _ rfl v_L_cell_at_0 dbg__law_script cls__law_script) pa_nil (by trivial)) nam_len dbg_len (by trivial) (by trivial)) (nomark _)) (@pss_one _ _ _ (@ps_ret _ _ _ _ (@pe_ix _ _ _ _ _ _ _ ix_list (@pv _ 0 _ _ rfl v_L_cell_at_0 dbg__law_script cls__law_script) (@pv _ 1 _ _ rfl v_L_cell_at_1 dbg__law_k cls__law_k) (fun _ _ => rfl)))) pss_nil) (@pss_one _ _ _ (@ps_ret _ _ _ _ pe_int))), fn_run (N := ["_law_script", "_law_k"]) (np := 2) (nl := 0) (b_seq (b_if (t_test (e_op o_lt e_var (e_lenC (i := 0)))) (b_ret (e_ixC (i := 0) e_var) (by decide)) b_nil) (b_ret e_int (by decide))) rfl h⟩
theorem ok_L_big (F : Fun K "_law_big" "_law_big" s_L_big f fd) (C_L_cell_at : Cal P w K mg base 1 "_law_cell_at" ["_law_script", "_law_k"] (spD ⟨K, w⟩ m_L_cell_at false)) (z_range : mg "range" = none) : FnOk P w K mg base CX0 2 f fd ["_law_script", "_law_at"] (spD ⟨K, w⟩ m_L_big false) := by
 have nd := sc_L_big.nd
 refine F.ok sc_L_big (fun vs H Q E h => fn_len dFun_len h) (fun cdv A outer s H vs Q E hr h => ?_)
 exact ⟨_, (@pss_cons _ _ _ _ _ (@ps_set _ _ 2 _ _ _ _ nd rfl n_L_big_2 (@pe_tup _ _ _ _ _ (@pa_cons _ _ _ _ _ pe_int (@pa_cons _ _ _ _ _ pe_int (@pa_cons _ _ _ _ _ pe_int (@pa_cons _ _ _ _ _ pe_int (@pa_cons _ _ _ _ _ pe_int (@pa_cons _ _ _ _ _ pe_int (@pa_cons _ _ _ _ _ pe_int (@pa_cons _ _ _ _ _ pe_int pa_nil (by trivial)) (by trivial)) (by trivial)) (by trivial)) (by trivial)) (by trivial)) (by trivial)) (by trivial))) (by trivial) (by trivial)) (@pss_cons _ _ _ _ _ (@ps_set _ _ 3 _ _ _ _ nd rfl n_L_big_3 (@pe_tup _ _ _ _ _ (@pa_cons _ _ _ _ _ pe_int (@pa_cons _ _ _ _ _ pe_int (@pa_cons _ _ _ _ _ pe_int (@pa_cons _ _ _ _ _ pe_int (@pa_cons _ _ _ _ _ pe_int (@pa_cons _ _ _ _ _ pe_int (@pa_cons _ _ _ _ _ pe_int (@pa_cons _ _ _ _ _ pe_int pa_nil (by trivial)) (by trivial)) (by trivial)) (by trivial)) (by trivial)) (by trivial)) (by trivial)) (by trivial))) (by trivial) (by trivial)) (@pss_cons _ _ _ _ _ (@ps_set _ _ 4 _ _ _ _ nd rfl n_L_big_4 (@pe_callC _ _ _ _ _ _ _ _ _ _ C_L_cell_at hr g_L_big__law_cell_at (@pa_cons _ _ _ _ _ (@pv _ 0 _ _ rfl v_L_big_0 dbg__law_script cls__law_script) (@pa_cons _ _ _ _ _ (@pv _ 1 _ _ rfl v_L_big_1 dbg__law_at cls__law_at) pa_nil (by trivial)) (by trivial)) dbg__law_cell_at (by trivial) (by trivial)) (by trivial) (by trivial)) (@pss_cons _ _ _ _ _ (@ps_if _ _ _ _ _ _ _ _ (@pt_cmpR _ _ _ _ _ _ _ _ op_ge (@pv _ 4 _ _ rfl v_L_big_4 dbg__law_cell cls__law_cell) (@pe_op _ _ _ _ _ _ _ _ op_pow pe_int pe_int) (nomark _)) (@pss_one _ _ _ (@ps_ret _ _ _ _ (@pv _ 4 _ _ rfl v_L_big_4 dbg__law_cell cls__law_cell))) pss_nil) (@pss_cons _ _ _ _ _ (@ps_set _ _ 5 _ _ _ _ nd rfl n_L_big_5 pe_int (by trivial) (by trivial)) (@pss_cons _ _ _ _ _ (@ps_for _ _ _ _ _ _ _ _ PassesOwn.never rfl (@pi_range1 _ _ _ _ _ _ g_L_big_range z_range (@pa_cons _ _ _ _ _ pe_int pa_nil (by trivial)) (by trivial)) (@pg_name _ _ 6 _ nd rfl n_L_big_6 (by trivial)) (@pss_cons _ _ _ _ _ (@ps_set _ _ 7 _ _ _ _ nd rfl n_L_big_7 (@pe_op _ _ _ _ _ _ _ _ op_add (@pe_op _ _ _ _ _ _ _ _ op_add (@pe_op _ _ _ _ _ _ _ _ op_mod (@pe_callC _ _ _ _ _ _ _ _ _ _ C_L_cell_at hr g_L_big__law_cell_at (@pa_cons _ _ _ _ _ (@pv _ 0 _ _ rfl v_L_big_0 dbg__law_script cls__law_script) (@pa_cons _ _ _ _ _ (@pe_op _ _ _ _ _ _ _ _ op_add (@pv _ 1 _ _ rfl v_L_big_1 dbg__law_at cls__law_at) (@pe_op _ _ _ _ _ _ _ _ op_mod (@pv _ 6 _ _ rfl v_L_big_6 dbg__law_k cls__law_k) pe_int)) pa_nil (by trivial)) (by trivial)) dbg__law_cell_at (by trivial) (by trivial)) (@pe_op _ _ _ _ _ _ _ _ op_pow pe_int pe_int)) pe_int) (@pe_op _ _ _ _ _ _ _ _ op_mulB (@pv _ 6 _ _ rfl v_L_big_6 dbg__law_k cls__law_k) (@pv _ 6 _ _ rfl v_L_big_6 dbg__law_k cls__law_k))) (by trivial) (by trivial)) (@pss_one _ _ _ (@ps_set _ _ 5 _ _ _ _ nd rfl n_L_big_5 (@pe_op _ _ _ _ _ _ _ _ op_add (@pe_op _ _ _ _ _ _ _ _ op_mulB (@pv _ 5 _ _ rfl v_L_big_5 dbg__law_big_here cls__law_big_here) pe_int) (@pe_op _ _ _ _ _ _ _ _ op_mod (@pe_op _ _ _ _ _ _ _ _ op_mod (@pe_op _ _ _ _ _ _ _ _ op_mulB (@pv _ 7 _ _ rfl v_L_big_7 dbg__law_one cls__law_one) (@pe_ix _ _ _ _ _ _ _ ix_tup (@pv _ 2 _ _ rfl v_L_big_2 dbg__law_by cls__law_by) (@pe_op _ _ _ _ _ _ _ _ op_mod (@pv _ 6 _ _ rfl v_L_big_6 dbg__law_k cls__law_k) pe_int) (fun _ _ => rfl))) (@pe_ix _ _ _ _ _ _ _ ix_tup (@pv _ 3 _ _ rfl v_L_big_3 dbg__law_prime cls__law_prime) (@pe_op _ _ _ _ _ _ _ _ op_mod (@pv _ 6 _ _ rfl v_L_big_6 dbg__law_k cls__law_k) pe_int) (fun _ _ => rfl))) pe_int)) (by trivial) (by trivial)))) (by trivial)) (@pss_one _ _ _ (@ps_ret _ _ _ _ (@pv _ 5 _ _ rfl v_L_big_5 dbg__law_big_here cls__law_big_here))))))))), fn_run (N := ["_law_script", "_law_at", "_law_by", "_law_prime", "_law_cell", "_law_big_here", "_law_k", "_law_one"]) (np := 2) (nl := 6) (b_seq (b_asg (e_tup (a_cons e_int (a_cons e_int (a_cons e_int (a_cons e_int (a_cons e_int (a_cons e_int (a_cons e_int (a_cons e_int a_nil))))))))) g_name) (b_seq (b_asg (e_tup (a_cons e_int (a_cons e_int (a_cons e_int (a_cons e_int (a_cons e_int (a_cons e_int (a_cons e_int (a_cons e_int a_nil))))))))) g_name) (b_seq (b_asg (e_callC (i := 0) (a_cons e_var a_nil)) g_name) (b_seq (b_if (t_test (e_op o_ge e_var (e_op o_pow e_int e_int))) (b_ret e_var (by decide)) b_nil) (b_seq (b_asg e_int g_name) (b_seq (b_for (it_range1 (a_cons e_int a_nil)) g_name (b_seq (b_asg (e_op o_add (e_op o_add (e_op o_mod (e_callC (i := 0) (a_cons (e_op o_add e_var (e_op o_mod e_var e_int)) a_nil)) (e_op o_pow e_int e_int)) e_int) (e_op o_mul e_var e_var)) g_name) (b_asg (e_op o_add (e_op o_mul e_var e_int) (e_op o_mod (e_op o_mod (e_op o_mul e_var (e_op o_ixT e_var (e_op o_mod e_var e_int))) (e_op o_ixT e_var (e_op o_mod e_var e_int))) e_int)) g_name))) (b_ret e_var (by decide)))))))) rfl h⟩
theorem ok_L_scene_of (F : Fun K "_law_scene_of" "_law_scene_of" s_L_scene_of f fd) (C_L_row_of : Cal P w K mg base 5 "_law_row_of" ["_law_rows", "_law_big_here"] (spD ⟨K, w⟩ m_L_row_of false)) (C_L_big : Cal P w K mg base 5 "_law_big" ["_law_script", "_law_at"] (spD ⟨K, w⟩ m_L_big false)) (z_range : mg "range" = none) : FnOk P w K mg base CX0 6 f fd ["_law_script", "_law_first", "_law_many_here"] (spD ⟨K, w⟩ m_L_scene_of true) := by
 have nd := sc_L_scene_of.nd
 refine F.ok sc_L_scene_of (fun vs H Q E h => fn_len dFun_len h) (fun cdv A outer s H vs Q E hr h => ?_)
 exact ⟨_, (@pss_cons _ _ _ _ _ (@ps_set _ _ 3 _ _ _ _ nd rfl n_L_scene_of_3 (@pe_lst _ _ _ _ pa_nil) (by trivial) (by trivial)) (@pss_cons _ _ _ _ _ (@ps_for _ _ _ _ _ _ _ _ PassesOwn.never rfl (@pi_range1 _ _ _ _ _ _ g_L_scene_of_range z_range (@pa_cons _ _ _ _ _ (@pv _ 2 _ _ rfl v_L_scene_of_2 dbg__law_many_here cls__law_many_here) pa_nil (by trivial)) (by trivial)) (@pg_name _ _ 4 _ nd rfl n_L_scene_of_4 (by trivial)) (@pss_cons _ _ _ _ _ (@ps_asg _ _ _ _ _ _ (@pe_callC _ _ _ _ _ _ _ _ _ _ C_L_row_of hr g_L_scene_of__law_row_of (@pa_cons _ _ _ _ _ (@pv _ 3 _ _ rfl v_L_scene_of_3 dbg__law_rows cls__law_rows) (@pa_cons _ _ _ _ _ (@pe_callC _ _ _ _ _ _ _ _ _ _ C_L_big hr g_L_scene_of__law_big (@pa_cons _ _ _ _ _ (@pv _ 0 _ _ rfl v_L_scene_of_0 dbg__law_script cls__law_script) (@pa_cons _ _ _ _ _ (@pe_op _ _ _ _ _ _ _ _ op_add (@pv _ 1 _ _ rfl v_L_scene_of_1 dbg__law_first cls__law_first) (@pv _ 4 _ _ rfl v_L_scene_of_4 dbg__law_k cls__law_k)) pa_nil (by trivial)) (by trivial)) dbg__law_big (by trivial) (by trivial)) pa_nil (by trivial)) (by trivial)) dbg__law_row_of (by trivial) (by trivial)) (@pg_tup _ _ _ _ _ _ rfl (@pgs_cons _ _ _ _ _ (@pg_name _ _ 5 _ nd rfl n_L_scene_of_5 (by trivial)) (@pgs_cons _ _ _ _ _ (@pg_name _ _ 6 _ nd rfl n_L_scene_of_6 (by trivial)) pgs_nil (by trivial)) (by trivial)) (by trivial) (by trivial)) (by trivial) (by trivial) (by trivial)) (@pss_one _ _ _ (@ps_if _ _ _ _ _ _ _ _ (@pt_cmpR _ _ _ _ _ _ _ _ (@op_notInK _ (hu65 hr)) (@pe_ix _ _ _ _ _ _ _ ix_tup (@pv _ 5 _ _ rfl v_L_scene_of_5 dbg__law_row cls__law_row) pe_int (fun _ _ => rfl)) (@pe_lc _ ["_law_one"] 1 [] _ _ _ _ _ _ _ _ _ _ rfl (@lc_ok _ ["_law_one"] 1 [] _ ["_law_script", "_law_first", "_law_many_here", "_law_rows", "_law_k", "_law_row", "_law_big_here"] (defScope s_L_scene_of) rfl rfl (by walk_at "dk")) (@pi_list _ _ _ _ (@pv _ 3 _ _ rfl v_L_scene_of_3 dbg__law_rows cls__law_rows)) (fun cl fp s3 H3 => (@pg_name _ _ 0 _ nd0_L_scene_of rfl (loc_local (by walk_at "dk")) (Or.inr (rl_local (by walk_at "dk"))))) (fun cl fp s3 H3 => pts_nil) (fun cl fp s3 H3 => (@pe_ix _ _ _ _ _ _ _ ix_tup (@pv _ 0 _ _ rfl (vis_local (by walk_at "dk")) dbg__law_one cls__law_one) pe_int (fun _ _ => rfl))) (by trivial)) (by with_unfolding_all rfl)) (@pss_one _ _ _ (@ps_expr _ _ _ _ (@pe_bm _ _ _ _ _ _ _ _ _ _ _ _ PySem.F.plainAttrs_list PySem.F.slot_list_append PySem.F.type_list_append mt_append (@pv _ 3 _ _ rfl v_L_scene_of_3 dbg__law_rows cls__law_rows) (@pa_cons _ _ _ _ _ (@pv _ 5 _ _ rfl v_L_scene_of_5 dbg__law_row cls__law_row) pa_nil (by trivial)) (by trivial) (by trivial) (by trivial) (by trivial) (by trivial)) (by trivial))) pss_nil))) (by trivial)) (@pss_one _ _ _ (@ps_ret _ _ _ _ (@pv _ 3 _ _ rfl v_L_scene_of_3 dbg__law_rows cls__law_rows))))), fn_run (N := ["_law_script", "_law_first", "_law_many_here", "_law_rows", "_law_k", "_law_row", "_law_big_here"]) (np := 3) (nl := 4) (b_seq b_new (b_seq (b_for (it_range1 (a_cons e_var a_nil)) g_name (b_seq (b_asg (e_bor (i := 3) (e_call (a_cons e_var (a_cons (e_callC (i := 0) (a_cons (e_op o_add e_var e_var) a_nil)) a_nil)))) (g_tup (gs_cons g_name (gs_cons g_name gs_nil)) (len_cons (len_cons len_nil)))) (b_if (t_bor (i := 3) (t_test (e_op o_in (e_op o_ixT e_var e_int) (e_lc (it_list e_var) g_name t_yes (e_op o_ixT e_var e_int))))) (b_expr (e_mt (i := 3) m_append (a_cons e_var a_nil))) b_nil))) (b_retM (i := 3)))) rfl h⟩
theorem ok_L_many (F : Fun K "_law_many" "_law_many" s_L_many f fd) (C_L_cell_at : Cal P w K mg base 1 "_law_cell_at" ["_law_script", "_law_k"] (spD ⟨K, w⟩ m_L_cell_at false)) : FnOk P w K mg base CX0 2 f fd ["_law_script", "_law_many_here", "_law_most"] (spD ⟨K, w⟩ m_L_many false) := by
 have nd := sc_L_many.nd
 refine F.ok sc_L_many (fun vs H Q E h => fn_len dFun_len h) (fun cdv A outer s H vs Q E hr h => ?_)
 exact ⟨_, (@pss_cons _ _ _ _ _ (@ps_if _ _ _ _ _ _ _ _ (@pt_cmpR _ _ _ _ _ _ _ _ (@op_eqK _ (hu64 hr)) (@pe_op _ _ _ _ _ _ _ _ op_mod (@pe_op _ _ _ _ _ _ _ _ op_mod (@pe_callC _ _ _ _ _ _ _ _ _ _ C_L_cell_at hr g_L_many__law_cell_at (@pa_cons _ _ _ _ _ (@pv _ 0 _ _ rfl v_L_many_0 dbg__law_script cls__law_script) (@pa_cons _ _ _ _ _ pe_int pa_nil (by trivial)) (by trivial)) dbg__law_cell_at (by trivial) (by trivial)) pe_int) pe_int) pe_int (nomark _)) (@pss_one _ _ _ (@ps_ret _ _ _ _ (@pv _ 2 _ _ rfl v_L_many_2 dbg__law_most cls__law_most))) pss_nil) (@pss_one _ _ _ (@ps_ret _ _ _ _ (@pv _ 1 _ _ rfl v_L_many_1 dbg__law_many_here cls__law_many_here)))), fn_run (N := ["_law_script", "_law_many_here", "_law_most"]) (np := 3) (nl := 0) (b_seq (b_if (t_test (e_op o_eq (e_op o_mod (e_op o_mod (e_callC (i := 0) (a_cons e_int a_nil)) e_int) e_int) e_int)) (b_ret e_var (by decide)) b_nil) (b_ret e_var (by decide))) rfl h⟩
theorem ok_L_texts (F : Fun K "_law_texts" "_law_texts" s_L_texts f fd) (z_list : mg "list" = none) (z_isinstance : mg "isinstance" = none) (z_str : mg "str" = none) : FnOk P w K mg base CX0 1 f fd ["_law_found", "_law_due"] (spD ⟨K, w⟩ m_L_texts false) := by
 have nd := sc_L_texts.nd
 refine F.ok sc_L_texts (fun vs H Q E h => fn_len dFun_len h) (fun cdv A outer s H vs Q E hr h => ?_)
 exact ⟨_, (@pss_cons _ _ _ _ _ (@ps_if _ _ _ _ _ _ _ _ (@PW.pt _ _ _ (@pw_or _ _ _ _ _ _ _ (@pt_not _ _ _ _ (@pt_val _ _ _ (@pe_callB _ _ _ _ _ _ _ _ _ call_isiK g_L_texts_isinstance z_isinstance PyProof.Rows.boot_isinstance (@pa_cons _ _ _ _ _ (@pv _ 0 _ _ rfl v_L_texts_0 dbg__law_found cls__law_found) (@pa_cons _ _ _ _ _ (pe_ty g_L_texts_list z_list PySem.Pv.boot_list nam_list dbg_list) pa_nil (by trivial)) (by trivial)) nam_isinstance dbg_isinstance (by trivial) (by trivial)) (by trivial))) (@pw_or1 _ _ _ _ (@pt_cmpR _ _ _ _ _ _ _ _ (@op_neK _ (hu64 hr)) (@pv _ 0 _ _ rfl v_L_texts_0 dbg__law_found cls__law_found) (@pv _ 1 _ _ rfl v_L_texts_1 dbg__law_due cls__law_due) (nomark _))))) (@pss_one _ _ _ (@ps_ret _ _ _ _ pe_bl)) pss_nil) (@pss_one _ _ _ (@ps_ret _ _ _ _ (@pe_cmpR _ _ _ _ _ _ _ _ (@op_eqK _ (hu64 hr)) (@pe_lc _ ["_law_one"] 1 [] _ _ _ _ _ _ _ _ _ _ rfl (@lc_ok _ ["_law_one"] 1 [] _ ["_law_found", "_law_due"] (defScope s_L_texts) rfl rfl (by walk_at "dk")) (@pi_list _ _ _ _ (@pv _ 0 _ _ rfl v_L_texts_0 dbg__law_found cls__law_found)) (fun cl fp s3 H3 => (@pg_name _ _ 0 _ nd0_L_texts rfl (loc_local (by walk_at "dk")) (Or.inr (rl_local (by walk_at "dk"))))) (fun cl fp s3 H3 => (@pts_one _ _ _ (@pt_not _ _ _ _ (@pt_val _ _ _ (@pe_callB _ _ _ _ _ _ _ _ _ call_isiK (rl_glob (by walk_at "dk")) z_isinstance PyProof.Rows.boot_isinstance (@pa_cons _ _ _ _ _ (@pv _ 0 _ _ rfl (vis_local (by walk_at "dk")) dbg__law_one cls__law_one) (@pa_cons _ _ _ _ _ (pe_ty (rl_glob (by walk_at "dk")) z_str PySem.Pv.boot_str nam_str dbg_str) pa_nil (by trivial)) (by trivial)) nam_isinstance dbg_isinstance (by trivial) (by trivial)) (by trivial))))) (fun cl fp s3 H3 => (@pv _ 0 _ _ rfl (vis_local (by walk_at "dk")) dbg__law_one cls__law_one)) (by trivial)) (@pe_lst _ _ _ _ pa_nil) (nomark _))))), fn_run (N := ["_law_found", "_law_due"]) (np := 2) (nl := 0) (b_seq (b_if (t_or (t_not (t_val (e_isi (T := "list") e_var))) (t_test (e_op o_ne e_var e_var))) (b_ret e_bl (by decide)) b_nil) (b_ret (e_op o_eq (e_lc (it_list e_var) g_name (t_not (t_val (e_isi (T := "str") e_var))) e_var) (e_lst a_nil)) (by decide))) rfl h⟩
theorem ok_row_name (F : Fun K "row_name" "row_name" s_row_name f fd) : FnOk P w K mg base CX0 1 f fd ["row"] (spD ⟨K, w⟩ m_row_name false) := by
 have nd := sc_row_name.nd
 refine F.ok sc_row_name (fun vs H Q E h => fn_len dFun_len h) (fun cdv A outer s H vs Q E hr h => ?_)
 exact ⟨_, (@pss_one _ _ _ (@ps_ret _ _ _ _ (@pe_ix _ _ _ _ _ _ _ ix_tup (@pv _ 0 _ _ rfl v_row_name_0 dbg_row cls_row) pe_int (fun _ _ => rfl)))), fn_run (N := ["row"]) (np := 1) (nl := 0) (b_ret (e_op o_ixT e_var e_int) (by decide)) rfl h⟩
theorem ok_row_holder (F : Fun K "row_holder" "row_holder" s_row_holder f fd) : FnOk P w K mg base CX0 1 f fd ["row"] (spD ⟨K, w⟩ m_row_holder false) := by
 have nd := sc_row_holder.nd
 refine F.ok sc_row_holder (fun vs H Q E h => fn_len dFun_len h) (fun cdv A outer s H vs Q E hr h => ?_)
 exact ⟨_, (@pss_one _ _ _ (@ps_ret _ _ _ _ (@pe_ix _ _ _ _ _ _ _ ix_tup (@pv _ 0 _ _ rfl v_row_holder_0 dbg_row cls_row) pe_int (fun _ _ => rfl)))), fn_run (N := ["row"]) (np := 1) (nl := 0) (b_ret (e_op o_ixT e_var e_int) (by decide)) rfl h⟩
theorem ok_kid_rows (F : Fun K "kid_rows" "kid_rows" s_kid_rows f fd) (C_row_holder : Cal P w K mg base 1 "row_holder" ["row"] (spD ⟨K, w⟩ m_row_holder false)) : FnOk P w K mg base CX0 2 f fd ["rows", "name"] (spD ⟨K, w⟩ m_kid_rows true) := by
 have nd := sc_kid_rows.nd
 refine F.ok sc_kid_rows (fun vs H Q E h => fn_len dFun_len h) (fun cdv A outer s H vs Q E hr h => ?_)
 exact ⟨_, (@pss_one _ _ _ (@ps_ret _ _ _ _ (@pe_lc _ ["row", "name"] 1 [1] _ _ _ _ _ _ _ _ _ _ rfl (@lc_ok _ ["row", "name"] 1 [1] _ ["rows", "name"] (defScope s_kid_rows) rfl rfl (by walk_at "dk")) (@pi_list _ _ _ _ (@pv _ 0 _ _ rfl v_kid_rows_0 dbg_rows cls_rows)) (fun cl fp s3 H3 => (@pg_name _ _ 0 _ nd0_kid_rows rfl (loc_local (by walk_at "dk")) (Or.inr (rl_local (by walk_at "dk"))))) (fun cl fp s3 H3 => (@pts_one _ _ _ (@pt_cmpR _ _ _ _ _ _ _ _ (@op_eqK _ (hu64 hr)) (@pe_callC _ _ _ _ _ _ _ _ _ _ C_row_holder hr (rl_glob (by walk_at "dk")) (@pa_cons _ _ _ _ _ (@pv _ 0 _ _ rfl (vis_local (by walk_at "dk")) dbg_row cls_row) pa_nil (by trivial)) dbg_row_holder (by trivial) (by trivial)) (@pv _ 1 _ _ rfl (vis_free (by walk_at "dk")) dbg_name cls_name) (nomark _)))) (fun cl fp s3 H3 => (@pv _ 0 _ _ rfl (vis_local (by walk_at "dk")) dbg_row cls_row)) (by trivial)))), fn_run (N := ["rows", "name"]) (np := 2) (nl := 0) (b_ret (e_lc (it_list e_var) g_name (t_test (e_op o_eq (e_call (a_cons e_var a_nil)) e_var)) e_var) (by decide)) rfl h⟩
theorem ok_kids_of (F : Fun K "kids_of" "kids_of" s_kids_of f fd) (C_kid_rows : Cal P w K mg base 2 "kid_rows" ["rows", "name"] (spD ⟨K, w⟩ m_kid_rows true)) (C_row_name : Cal P w K mg base 2 "row_name" ["row"] (spD ⟨K, w⟩ m_row_name false)) : FnOk P w K mg base CX0 3 f fd ["rows", "name"] (spD ⟨K, w⟩ m_kids_of true) := by
 have nd := sc_kids_of.nd
 refine F.ok sc_kids_of (fun vs H Q E h => fn_len dFun_len h) (fun cdv A outer s H vs Q E hr h => ?_)
 exact ⟨_, (@pss_one _ _ _ (@ps_ret _ _ _ _ (@pe_lc _ ["row"] 1 [] _ _ _ _ _ _ _ _ _ _ rfl (@lc_ok _ ["row"] 1 [] _ ["rows", "name"] (defScope s_kids_of) rfl rfl (by walk_at "dk")) (@pi_list _ _ _ _ (@pe_callC _ _ _ _ _ _ _ _ _ _ C_kid_rows hr g_kids_of_kid_rows (@pa_cons _ _ _ _ _ (@pv _ 0 _ _ rfl v_kids_of_0 dbg_rows cls_rows) (@pa_cons _ _ _ _ _ (@pv _ 1 _ _ rfl v_kids_of_1 dbg_name cls_name) pa_nil (by trivial)) (by trivial)) dbg_kid_rows (by trivial) (by trivial))) (fun cl fp s3 H3 => (@pg_name _ _ 0 _ nd0_kids_of rfl (loc_local (by walk_at "dk")) (Or.inr (rl_local (by walk_at "dk"))))) (fun cl fp s3 H3 => pts_nil) (fun cl fp s3 H3 => (@pe_callC _ _ _ _ _ _ _ _ _ _ C_row_name hr (rl_glob (by walk_at "dk")) (@pa_cons _ _ _ _ _ (@pv _ 0 _ _ rfl (vis_local (by walk_at "dk")) dbg_row cls_row) pa_nil (by trivial)) dbg_row_name (by trivial) (by trivial))) (by trivial)))), fn_run (N := ["rows", "name"]) (np := 2) (nl := 0) (b_ret (e_lc (it_list (e_call (a_cons e_var (a_cons e_var a_nil)))) g_name t_yes (e_call (a_cons e_var a_nil))) (by decide)) rfl h⟩
theorem ok_row_found (F : Fun K "row_found" "row_found" s_row_found f fd) (C_row_name : Cal P w K mg base 1 "row_name" ["row"] (spD ⟨K, w⟩ m_row_name false)) : FnOk P w K mg base CX0 2 f fd ["rows", "name"] (spD ⟨K, w⟩ m_row_found false) := by
 have nd := sc_row_found.nd
 refine F.ok sc_row_found (fun vs H Q E h => fn_len dFun_len h) (fun cdv A outer s H vs Q E hr h => ?_)
 exact ⟨_, (@pss_cons _ _ _ _ _ (@ps_for _ _ _ _ _ _ _ _ PassesOwn.never rfl (@pi_list _ _ _ _ (@pv _ 0 _ _ rfl v_row_found_0 dbg_rows cls_rows)) (@pg_name _ _ 2 _ nd rfl n_row_found_2 (by trivial)) (@pss_one _ _ _ (@ps_if _ _ _ _ _ _ _ _ (@pt_cmpR _ _ _ _ _ _ _ _ (@op_eqK _ (hu64 hr)) (@pe_callC _ _ _ _ _ _ _ _ _ _ C_row_name hr g_row_found_row_name (@pa_cons _ _ _ _ _ (@pv _ 2 _ _ rfl v_row_found_2 dbg_row cls_row) pa_nil (by trivial)) dbg_row_name (by trivial) (by trivial)) (@pv _ 1 _ _ rfl v_row_found_1 dbg_name cls_name) (nomark _)) (@pss_one _ _ _ (@ps_ret _ _ _ _ (@pv _ 2 _ _ rfl v_row_found_2 dbg_row cls_row))) pss_nil)) (by trivial)) (@pss_one _ _ _ (@ps_ret _ _ _ _ pe_non))), fn_run (N := ["rows", "name", "row"]) (np := 2) (nl := 1) (b_seq (b_for (it_list e_var) g_name (b_if (t_test (e_op o_eq (e_call (a_cons e_var a_nil)) e_var)) (b_ret e_var (by decide)) b_nil)) (b_ret e_non (by decide))) rfl h⟩
theorem ok_row_of (F : Fun K "row_of" "row_of" s_row_of f fd) (C_row_found : Cal P w K mg base 2 "row_found" ["rows", "name"] (spD ⟨K, w⟩ m_row_found false)) : FnOk P w K mg base CX0 3 f fd ["rows", "name"] (spD ⟨K, w⟩ m_row_of false) := by
 have nd := sc_row_of.nd
 refine F.ok sc_row_of (fun vs H Q E h => fn_len dFun_len h) (fun cdv A outer s H vs Q E hr h => ?_)
 exact ⟨_, (@pss_cons _ _ _ _ _ (@ps_set _ _ 2 _ _ _ _ nd rfl n_row_of_2 (@pe_callC _ _ _ _ _ _ _ _ _ _ C_row_found hr g_row_of_row_found (@pa_cons _ _ _ _ _ (@pv _ 0 _ _ rfl v_row_of_0 dbg_rows cls_rows) (@pa_cons _ _ _ _ _ (@pv _ 1 _ _ rfl v_row_of_1 dbg_name cls_name) pa_nil (by trivial)) (by trivial)) dbg_row_found (by trivial) (by trivial)) (by trivial) (by trivial)) (@pss_cons _ _ _ _ _ (@ps_if _ _ _ _ _ _ _ _ (@pt_cmpR _ _ _ _ _ _ _ _ op_isN (@pv _ 2 _ _ rfl v_row_of_2 dbg_row cls_row) pe_non (nomark _)) (@pss_one _ _ _ ps_never) pss_nil) (@pss_one _ _ _ (@ps_ret _ _ _ _ (@pv _ 2 _ _ rfl v_row_of_2 dbg_row cls_row))))), fn_run (N := ["rows", "name", "row"]) (np := 2) (nl := 1) (b_seq (b_asg (e_call (a_cons e_var (a_cons e_var a_nil))) g_name) (b_seq (b_if (t_test (e_op o_isN e_var e_non)) b_never b_nil) (b_ret e_var (by decide)))) rfl h⟩
theorem ok_holders_of (F : Fun K "holders_of" "holders_of" s_holders_of f fd) (C_row_found : Cal P w K mg base 2 "row_found" ["rows", "name"] (spD ⟨K, w⟩ m_row_found false)) (C_row_holder : Cal P w K mg base 2 "row_holder" ["row"] (spD ⟨K, w⟩ m_row_holder false)) : FnOk P w K mg base CX0 3 f fd ["rows", "name"] (spD ⟨K, w⟩ m_holders_of true) := by
 have nd := sc_holders_of.nd
 refine F.ok sc_holders_of (fun vs H Q E h => fn_len dFun_len h) (fun cdv A outer s H vs Q E hr h => ?_)
 exact ⟨_, (@pss_cons _ _ _ _ _ (@ps_set _ _ 2 _ _ _ _ nd rfl n_holders_of_2 (@pe_lst _ _ _ _ pa_nil) (by trivial) (by trivial)) (@pss_cons _ _ _ _ _ (@ps_set _ _ 3 _ _ _ _ nd rfl n_holders_of_3 (@pe_callC _ _ _ _ _ _ _ _ _ _ C_row_found hr g_holders_of_row_found (@pa_cons _ _ _ _ _ (@pv _ 0 _ _ rfl v_holders_of_0 dbg_rows cls_rows) (@pa_cons _ _ _ _ _ (@pv _ 1 _ _ rfl v_holders_of_1 dbg_name cls_name) pa_nil (by trivial)) (by trivial)) dbg_row_found (by trivial) (by trivial)) (by trivial) (by trivial)) (@pss_cons _ _ _ _ _ (@ps_while _ _ _ _ _ _ PassesOwn.never (@PW.pt _ _ _ (@pw_and _ _ _ _ _ _ _ (@pt_cmpR _ _ _ _ _ _ _ _ op_notN (@pv _ 3 _ _ rfl v_holders_of_3 dbg_row cls_row) pe_non (nomark _)) (@pw_and1 _ _ _ _ (@pt_cmpR _ _ _ _ _ _ _ _ (@op_neK _ (hu64 hr)) (@pe_callC _ _ _ _ _ _ _ _ _ _ C_row_holder hr g_holders_of_row_holder (@pa_cons _ _ _ _ _ (@pv _ 3 _ _ rfl v_holders_of_3 dbg_row cls_row) pa_nil (by trivial)) dbg_row_holder (by trivial) (by trivial)) pe_str (nomark _))))) (@pss_cons _ _ _ _ _ (@ps_expr _ _ _ _ (@pe_bm _ _ _ _ _ _ _ _ _ _ _ _ PySem.F.plainAttrs_list PySem.F.slot_list_append PySem.F.type_list_append mt_append (@pv _ 2 _ _ rfl v_holders_of_2 dbg_holders cls_holders) (@pa_cons _ _ _ _ _ (@pe_callC _ _ _ _ _ _ _ _ _ _ C_row_holder hr g_holders_of_row_holder (@pa_cons _ _ _ _ _ (@pv _ 3 _ _ rfl v_holders_of_3 dbg_row cls_row) pa_nil (by trivial)) dbg_row_holder (by trivial) (by trivial)) pa_nil (by trivial)) (by trivial) (by trivial) (by trivial) (by trivial) (by trivial)) (by trivial)) (@pss_one _ _ _ (@ps_set _ _ 3 _ _ _ _ nd rfl n_holders_of_3 (@pe_callC _ _ _ _ _ _ _ _ _ _ C_row_found hr g_holders_of_row_found (@pa_cons _ _ _ _ _ (@pv _ 0 _ _ rfl v_holders_of_0 dbg_rows cls_rows) (@pa_cons _ _ _ _ _ (@pe_callC _ _ _ _ _ _ _ _ _ _ C_row_holder hr g_holders_of_row_holder (@pa_cons _ _ _ _ _ (@pv _ 3 _ _ rfl v_holders_of_3 dbg_row cls_row) pa_nil (by trivial)) dbg_row_holder (by trivial) (by trivial)) pa_nil (by trivial)) (by trivial)) dbg_row_found (by trivial) (by trivial)) (by trivial) (by trivial))))) (@pss_one _ _ _ (@ps_ret _ _ _ _ (@pv _ 2 _ _ rfl v_holders_of_2 dbg_holders cls_holders)))))), fn_run (N := ["rows", "name", "holders", "row"]) (np := 2) (nl := 2) (b_seq b_new (b_seq (b_asg (e_call (a_cons e_var (a_cons e_var a_nil))) g_name) (b_seq (b_while (t_and (t_test (e_op o_notN e_var e_non)) (t_test (e_op o_ne (e_call (a_cons e_var a_nil)) e_str))) (b_seq (b_expr (e_mt (i := 2) m_append (a_cons (e_call (a_cons e_var a_nil)) a_nil))) (b_asg (e_call (a_cons e_var (a_cons (e_call (a_cons e_var a_nil)) a_nil))) g_name))) (b_retM (i := 2))))) rfl h⟩
theorem ok_parts_in (F : Fun K "parts_in" "parts_in" s_parts_in f fd) (C_holders_of : Cal P w K mg base 3 "holders_of" ["rows", "name"] (spD ⟨K, w⟩ m_holders_of true)) (C_row_name : Cal P w K mg base 3 "row_name" ["row"] (spD ⟨K, w⟩ m_row_name false)) : FnOk P w K mg base CX0 4 f fd ["rows", "name"] (spD ⟨K, w⟩ m_parts_in true) := by
 have nd := sc_parts_in.nd
 refine F.ok sc_parts_in (fun vs H Q E h => fn_len dFun_len h) (fun cdv A outer s H vs Q E hr h => ?_)
 exact ⟨_, (@pss_one _ _ _ (@ps_ret _ _ _ _ (@pe_lc _ ["row", "name", "rows"] 1 [1, 0] _ _ _ _ _ _ _ _ _ _ rfl (@lc_ok _ ["row", "name", "rows"] 1 [1, 0] _ ["rows", "name"] (defScope s_parts_in) rfl rfl (by walk_at "dk")) (@pi_list _ _ _ _ (@pv _ 0 _ _ rfl v_parts_in_0 dbg_rows cls_rows)) (fun cl fp s3 H3 => (@pg_name _ _ 0 _ nd0_parts_in rfl (loc_local (by walk_at "dk")) (Or.inr (rl_local (by walk_at "dk"))))) (fun cl fp s3 H3 => (@pts_one _ _ _ (@pt_cmpR _ _ _ _ _ _ _ _ (@op_inK _ (hu65 hr)) (@pv _ 1 _ _ rfl (vis_free (by walk_at "dk")) dbg_name cls_name) (@pe_callC _ _ _ _ _ _ _ _ _ _ C_holders_of hr (rl_glob (by walk_at "dk")) (@pa_cons _ _ _ _ _ (@pv _ 2 _ _ rfl (vis_free (by walk_at "dk")) dbg_rows cls_rows) (@pa_cons _ _ _ _ _ (@pe_callC _ _ _ _ _ _ _ _ _ _ C_row_name hr (rl_glob (by walk_at "dk")) (@pa_cons _ _ _ _ _ (@pv _ 0 _ _ rfl (vis_local (by walk_at "dk")) dbg_row cls_row) pa_nil (by trivial)) dbg_row_name (by trivial) (by trivial)) pa_nil (by trivial)) (by trivial)) dbg_holders_of (by trivial) (by trivial)) (by with_unfolding_all rfl)))) (fun cl fp s3 H3 => (@pe_callC _ _ _ _ _ _ _ _ _ _ C_row_name hr (rl_glob (by walk_at "dk")) (@pa_cons _ _ _ _ _ (@pv _ 0 _ _ rfl (vis_local (by walk_at "dk")) dbg_row cls_row) pa_nil (by trivial)) dbg_row_name (by trivial) (by trivial))) (by trivial)))), fn_run (N := ["rows", "name"]) (np := 2) (nl := 0) (b_ret (e_lc (it_list e_var) g_name (t_test (e_op o_in e_var (e_call (a_cons e_var (a_cons (e_call (a_cons e_var a_nil)) a_nil))))) (e_call (a_cons e_var a_nil))) (by decide)) rfl h⟩
theorem ok_L_chain (F : Fun K "_law_chain" "_law_chain" s_L_chain f fd) : FnOk P w K mg base CX0 1 f fd ["_law_rows", "_law_name"] (spD ⟨K, w⟩ m_L_chain false) := by
 have nd := sc_L_chain.nd
 refine F.ok sc_L_chain (fun vs H Q E h => fn_len dFun_len h) (fun cdv A outer s H vs Q E hr h => ?_)
 exact ⟨_, (@pss_cons _ _ _ _ _ (@ps_set _ _ 2 _ _ _ _ nd rfl n_L_chain_2 pe_newX (by trivial) (by trivial)) (@pss_cons _ _ _ _ _ (@ps_for _ _ _ _ _ _ _ _ PassesOwn.never rfl (@pi_list _ _ _ _ (@pv _ 0 _ _ rfl v_L_chain_0 dbg__law_rows cls__law_rows)) (@pg_name _ _ 3 _ nd rfl n_L_chain_3 (by trivial)) (@pss_one _ _ _ (@ps_asg _ _ _ _ _ _ (@pv _ 3 _ _ rfl v_L_chain_3 dbg__law_row cls__law_row) (@pg_sub _ _ _ _ _ _ _ (@pv _ 2 _ _ rfl v_L_chain_2 dbg__law_by_name cls__law_by_name) (@pe_ix _ _ _ _ _ _ _ ix_tup (@pv _ 3 _ _ rfl v_L_chain_3 dbg__law_row cls__law_row) pe_int (fun _ _ => rfl)) set_X (by trivial)) (by trivial) (by trivial) (by trivial))) (by trivial)) (@pss_cons _ _ _ _ _ (@ps_set _ _ 4 _ _ _ _ nd rfl n_L_chain_4 (@pe_lst _ _ _ _ pa_nil) (by trivial) (by trivial)) (@pss_cons _ _ _ _ _ (@ps_while _ _ _ _ _ _ PassesOwn.never (@pt_cmpR _ _ _ _ _ _ _ _ op_inX (@pv _ 1 _ _ rfl v_L_chain_1 dbg__law_name cls__law_name) (@pv _ 2 _ _ rfl v_L_chain_2 dbg__law_by_name cls__law_by_name) (by with_unfolding_all rfl)) (@pss_cons _ _ _ _ _ (@ps_expr _ _ _ _ (@pe_bm _ _ _ _ _ _ _ _ _ _ _ _ PySem.F.plainAttrs_list PySem.F.slot_list_append PySem.F.type_list_append mt_append (@pv _ 4 _ _ rfl v_L_chain_4 dbg__law_chain_here cls__law_chain_here) (@pa_cons _ _ _ _ _ (@pv _ 1 _ _ rfl v_L_chain_1 dbg__law_name cls__law_name) pa_nil (by trivial)) (by trivial) (by trivial) (by trivial) (by trivial) (by trivial)) (by trivial)) (@pss_one _ _ _ (@ps_set _ _ 1 _ _ _ _ nd rfl n_L_chain_1 (@pe_ix _ _ _ _ _ _ _ ix_tup (@pe_ix _ _ _ _ _ _ _ ix_X (@pv _ 2 _ _ rfl v_L_chain_2 dbg__law_by_name cls__law_by_name) (@pv _ 1 _ _ rfl v_L_chain_1 dbg__law_name cls__law_name) (fun _ _ => rfl)) pe_int (fun _ _ => rfl)) (by trivial) (by trivial))))) (@pss_one _ _ _ (@ps_ret _ _ _ _ (@pe_slice _ _ _ _ _ _ _ _ _ _ sl_list (@pv _ 4 _ _ rfl v_L_chain_4 dbg__law_chain_here cls__law_chain_here) (@po_some _ _ _ pe_int) po_none))))))), fn_run (N := ["_law_rows", "_law_name", "_law_by_name", "_law_row", "_law_chain_here"]) (np := 2) (nl := 3) (b_seq b_newX (b_seq (b_for (it_list e_var) g_name (b_putX (i := 2) e_var (e_op o_ixT e_var e_int))) (b_seq b_new (b_seq (b_while (t_test (e_inX (i := 2) e_var)) (b_seq (b_expr (e_mt (i := 4) m_append (a_cons e_var a_nil))) (b_asg (e_op o_ixT (e_ixX (i := 2) e_var) e_int) g_name))) (b_ret (e_borF (i := 4) (e_sl e_var (o_pt e_int) o_nop)) (by decide)))))) rfl h⟩
theorem ok_L_inner (F : Fun K "_law_inner" "_law_inner" s_L_inner f fd) (C_L_chain : Cal P w K mg base 1 "_law_chain" ["_law_rows", "_law_name"] (spD ⟨K, w⟩ m_L_chain false)) : FnOk P w K mg base CX0 2 f fd ["_law_rows", "_law_name"] (spD ⟨K, w⟩ m_L_inner true) := by
 have nd := sc_L_inner.nd
 refine F.ok sc_L_inner (fun vs H Q E h => fn_len dFun_len h) (fun cdv A outer s H vs Q E hr h => ?_)
 exact ⟨_, (@pss_one _ _ _ (@ps_ret _ _ _ _ (@pe_lc _ ["_law_row", "_law_name", "_law_rows"] 1 [1, 0] _ _ _ _ _ _ _ _ _ _ rfl (@lc_ok _ ["_law_row", "_law_name", "_law_rows"] 1 [1, 0] _ ["_law_rows", "_law_name"] (defScope s_L_inner) rfl rfl (by walk_at "dk")) (@pi_list _ _ _ _ (@pv _ 0 _ _ rfl v_L_inner_0 dbg__law_rows cls__law_rows)) (fun cl fp s3 H3 => (@pg_name _ _ 0 _ nd0_L_inner rfl (loc_local (by walk_at "dk")) (Or.inr (rl_local (by walk_at "dk"))))) (fun cl fp s3 H3 => (@pts_one _ _ _ (@pt_cmpR _ _ _ _ _ _ _ _ (@op_inK _ (hu65 hr)) (@pv _ 1 _ _ rfl (vis_free (by walk_at "dk")) dbg__law_name cls__law_name) (@pe_callC _ _ _ _ _ _ _ _ _ _ C_L_chain hr (rl_glob (by walk_at "dk")) (@pa_cons _ _ _ _ _ (@pv _ 2 _ _ rfl (vis_free (by walk_at "dk")) dbg__law_rows cls__law_rows) (@pa_cons _ _ _ _ _ (@pe_ix _ _ _ _ _ _ _ ix_tup (@pv _ 0 _ _ rfl (vis_local (by walk_at "dk")) dbg__law_row cls__law_row) pe_int (fun _ _ => rfl)) pa_nil (by trivial)) (by trivial)) dbg__law_chain (by trivial) (by trivial)) (by with_unfolding_all rfl)))) (fun cl fp s3 H3 => (@pe_ix _ _ _ _ _ _ _ ix_tup (@pv _ 0 _ _ rfl (vis_local (by walk_at "dk")) dbg__law_row cls__law_row) pe_int (fun _ _ => rfl))) (by trivial)))), fn_run (N := ["_law_rows", "_law_name"]) (np := 2) (nl := 0) (b_ret (e_lc (it_list e_var) g_name (t_test (e_op o_in e_var (e_call (a_cons e_var (a_cons (e_op o_ixT e_var e_int) a_nil))))) (e_op o_ixT e_var e_int)) (by decide)) rfl h⟩
theorem no_row_of {ls ls' : List L} {r : PyData} (h : m_L_no_row ls = some (r, ls')) : ∃ (x y : PyData) (l : List L), ls = [.d x, .d y] /\ m_row_found [.d x, .d y] = some (.none, l) /\ r = .bool true /\ ls' = ls := by
 unfold m_L_no_row at h
 split at h
 ·split at h
  ·rename_i x y d l e
   cases h
   exact ⟨_, _, _, rfl, e, rfl, rfl⟩
  ·cases h
 ·cases h
def spXF (K : KW) (C : Addr) : Sp := fun vs H _ E => ∃ (S : Addr -> Prop) (x y : PyData) (v0 v1 : V) (l : List L), vs = [v0, v1] /\ Is K (hid S H) x v0 /\ Is K (hid S H) y v1 /\ (∀ a, S a -> ∃ o, H a = some o) /\ m_row_found [.d x, .d y] = some (.none, l) /\ ∀ H', Same H H' -> E (.ref C) none H'
theorem r3 {K : KW} {S : Addr -> Prop} {H : Hp} {x y : PyData} {v0 v1 : V} (h0 : Is K (hid S H) x v0) (h1 : Is K (hid S H) y v1) (hs : ∀ a, S a -> ∃ o, H a = some o) : R K S (fun _ => False) [some (.d x), some (.d y), none] [some v0, some v1, none] H := by
 have own : ∀ (i : Nat) (o : Ow), ([some (.d x), some (.d y), none] : DS)[i]? ≠ some (some o.L) := fun i o e => by
  match i, e with
  | 0, e => exact Ow.not_d (Option.some.inj (Option.some.inj e)).symm
  | 1, e => exact Ow.not_d (Option.some.inj (Option.some.inj e)).symm
  | 2, e => cases e
  | n + 3, e => cases e
 refine ⟨rfl, fun i z e => ?_, fun i o e => absurd e (own i o), fun i z e => ?_, fun i j o p a e => absurd e (own i o), fun _ h => h.elim, hs, GR.nil fun i z e => ?_⟩
 ·match i, e with
  | 0, e => cases e; exact ⟨v0, rfl, h0⟩
  | 1, e => cases e; exact ⟨v1, rfl, h1⟩
  | 2, e => cases e
  | n + 3, e => cases e
 ·match i, e with
  | 0, e => cases e
  | 1, e => cases e
  | 2, e => cases e
  | n + 3, e => cases e
 ·match i, e with
  | 0, e => cases e
  | 1, e => cases e
  | 2, e => cases e
  | n + 3, e => cases e
theorem gx_row_of : (defScope s_row_of).names.lookup ("NoName" : Str) = some NameKind.globalImplicit := by decide +kernel
theorem dbz_NoName : (("NoName" : Str) == ("__debug__" : Str)) = false := by decide +kernel
theorem ok_row_ofX {C : Addr} (F : Fun K "row_of" "row_of" s_row_of f fd) (C_row_found : Cal P w K mg base 2 "row_found" ["rows", "name"] (spD ⟨K, w⟩ m_row_found false)) (hm : mg "NoName" = some (.ref C)) (hq : PySem.W.excIn K C [.type "ValueError", .type "Exception", .type "BaseException", .type "object"] "ValueError.__new__" = true) :
  FnOk P w K mg base (CXr P w) 3 f fd ["rows", "name"] (spXF ⟨K, w⟩ C) := by
 have nd := sc_row_of.nd
 refine F.okX sc_row_of (fun vs H Q E h => by obtain ⟨_, _, _, _, _, _, rfl, _⟩ := h; rfl) (fun cdv A outer s H vs Q E hr h => ?_)
 obtain ⟨S, x, y, v0, v1, l, rfl, h0, h1, hs, hf, hE⟩ := h
 refine ⟨_, (@pss_cons _ _ _ _ _ (@ps_set _ _ 2 _ _ _ _ nd rfl n_row_of_2 (@pe_callC _ _ _ _ _ _ _ _ _ _ C_row_found hr g_row_of_row_found (@pa_cons _ _ _ _ _ (@pv _ 0 _ _ rfl v_row_of_0 dbg_rows cls_rows) (@pa_cons _ _ _ _ _ (@pv _ 1 _ _ rfl v_row_of_1 dbg_name cls_name) pa_nil (by trivial)) (by trivial)) dbg_row_found (by trivial) (by trivial)) (by trivial) (by trivial)) (@pss_cons _ _ _ _ _ (@ps_if _ _ _ _ _ _ _ _ (@pt_cmpR _ _ _ _ _ _ _ _ op_isN (@pv _ 2 _ _ rfl v_row_of_2 dbg_row cls_row) pe_non (nomark _)) (@pss_one _ _ _ (ps_raise (C := C) (E := E) (@pa_cons _ _ _ _ _ (@pe_str _ _ _ _) (@pa_nil _) (by trivial)) raises_cxOf gx_row_of hm hq PySem.F.excBase_ValueError hr.hd (by trivial) dbz_NoName (by trivial))) pss_nil) pss_false)), ?_⟩
 have hev : DL.E (⟨K, w⟩ : KW) (tCall (spD ⟨K, w⟩ m_row_found false) [] E0 (tCons (tVar 0) (tCons (tVar 1) tNil))) false (dCall m_row_found (dACons (dVar 0) (dACons (dVar 1) dANil))) := e_call (a_cons e_var (a_cons e_var a_nil))
 refine hev.run S (fun _ => False) [some (.d x), some (.d y), none] _ H _ .none _ (r3 h0 h1 hs) (call_eq (τ1 := [some (.d x), some (.d y), none]) (rs := [.d x, .d y]) (ds := [x, y]) rfl rfl hf) fun v H' r' c' i' => ?_
 cases (show v = .non from i')
 have sm : Same H H' := fun b o e => c' b o (fun z => z) e
 refine ⟨.non, rfl, rfl, decide (V.non = V.non), rfl, ?_⟩
 rw [decide_eq_true rfl]
 exact iteT ⟨by decide, hE H' sm⟩
theorem call_isiXC {X : Cx} {ea C c1 : Addr} {oe : Obj} {b : Bool} (hp : (ea, oe) ∈ X.pn) (hc : oe.cls = .ref C) (hd : oe.dict = none) (hn : PySem.W.notCls oe = true) (c : XCls X.K C) (hk : PySem.W.kitOne X.K (.ref C) (.ref c1) = some b) :
  CallR X (.builtin "isinstance") (fun xs H Q => xs = [.ref ea, .ref c1] /\ Q (.bl b) H) := by
 intro pins s σ H Q us vs I rv h
 obtain ⟨rfl, q⟩ := h
 cases rv with
 | cons r1 rv =>
  cases rv with
  | cons r2 rv =>
   cases rv
   cases (show _ = Value.ref ea from r1)
   cases (show _ = Value.ref c1 from r2)
   have hpin := I.pin (ea, oe) (List.mem_append_left _ hp)
   exact PySem.W.kia_one (kitx_exc c) I.kIn ⟨hpin.1, hc, hn, by rw [hd]; trivial⟩ hk (fun z => nomatch z) fun tk => ⟨.bl b, H, I.tok _, rfl, q⟩
theorem sc_L_no_row : FnScope ["_law_rows", "_law_name", "e"] ["_law_rows", "_law_name"] (defScope s_L_no_row) := ⟨rfl, rfl, rfl, by decide +kernel, rfl, by decide +kernel, by decide +kernel⟩
theorem gr_row_of : (defScope s_L_no_row).names.lookup ("row_of" : Str) = some NameKind.globalImplicit := by decide +kernel
theorem gr_SceneError : (defScope s_L_no_row).names.lookup ("SceneError" : Str) = some NameKind.globalImplicit := by decide +kernel
theorem gr_isinstance : (defScope s_L_no_row).names.lookup ("isinstance" : Str) = some NameKind.globalImplicit := by decide +kernel
theorem gr_ValueError : (defScope s_L_no_row).names.lookup ("ValueError" : Str) = some NameKind.globalImplicit := by decide +kernel
theorem gr_NoName : (defScope s_L_no_row).names.lookup ("NoName" : Str) = some NameKind.globalImplicit := by decide +kernel
theorem gr_NoPart : (defScope s_L_no_row).names.lookup ("NoPart" : Str) = some NameKind.globalImplicit := by decide +kernel
theorem gr_WrongKind : (defScope s_L_no_row).names.lookup ("WrongKind" : Str) = some NameKind.globalImplicit := by decide +kernel
theorem dbx_row_of : (("row_of" : Str) == ("__debug__" : Str)) = false := by decide +kernel
theorem dbx_SceneError : (("SceneError" : Str) == ("__debug__" : Str)) = false := by decide +kernel
theorem dbx_isinstance : (("isinstance" : Str) == ("__debug__" : Str)) = false := by decide +kernel
theorem dbx_ValueError : (("ValueError" : Str) == ("__debug__" : Str)) = false := by decide +kernel
theorem dbx_NoPart : (("NoPart" : Str) == ("__debug__" : Str)) = false := by decide +kernel
theorem dbx_WrongKind : (("WrongKind" : Str) == ("__debug__" : Str)) = false := by decide +kernel
theorem dbx_e : (("e" : Str) == ("__debug__" : Str)) = false := by decide +kernel
theorem clx_e : (("e" : Str) == ("__classdict__" : Str)) = false := by decide +kernel
theorem vr_0 : Vis (defScope s_L_no_row) "_law_rows" := by unfold Vis; decide +kernel
theorem vr_1 : Vis (defScope s_L_no_row) "_law_name" := by unfold Vis; decide +kernel
theorem vr_2 : Vis (defScope s_L_no_row) "e" := by unfold Vis; decide +kernel
theorem lr_2 : (defScope s_L_no_row).names.lookup ("e" : Str) = some NameKind.local := by decide +kernel
theorem bi_isi : bootBuiltins "isinstance" = some (.builtin "isinstance") := by first | rfl | decide +kernel
theorem bi_VE : bootBuiltins "ValueError" = some (.type "ValueError") := by first | rfl | decide +kernel
theorem nm_isi : ("isinstance" : Str) ≠ "__name__" := by decide +kernel
theorem nm_VE : ("ValueError" : Str) ≠ "__name__" := by decide +kernel
theorem ok_L_no_row {C D c2 c3 ff : Addr} {ffd : FuncData} (F : Fun K "_law_no_row" "_law_no_row" s_L_no_row f fd) (CF : FnOk P w K mg base (CXr P w) 3 ff ffd ["rows", "name"] (spXF ⟨K, w⟩ C))
  (mf : mg "row_of" = some (.ref ff)) (kf : PySem.W.keepIn K (.ref ff) = true) (bf : Binds K ffd ["rows", "name"] []) (mC : mg "NoName" = some (.ref C)) (mD : mg "SceneError" = some (.ref D))
  (m2 : mg "NoPart" = some (.ref c2)) (m3 : mg "WrongKind" = some (.ref c3)) (t2 : Catches K C D) (xc : XCls K C)
  (k0 : PySem.W.kitOne K (.ref C) (.ref C) = some true) (k1 : PySem.W.kitOne K (.ref C) (.type "ValueError") = some true) (k2 : PySem.W.kitAny K (.ref C) [.ref c2, .ref c3] = some false) (zi : mg "isinstance" = none) (zv : mg "ValueError" = none) :
  FnOk P w K mg base CX0 4 f fd ["_law_rows", "_law_name"] (spD ⟨K, w⟩ m_L_no_row false) := by
 have nd := sc_L_no_row.nd
 refine F.ok sc_L_no_row (fun vs H Q E h => ?_) (fun cdv A outer s H vs Q E hr h => ?_)
 ·obtain ⟨S, M, ls, r, ls', hR, hG, _⟩ := h
  obtain ⟨x, y, l, rfl, _⟩ := no_row_of hG
  have := hR.len
  simpa using this
 obtain ⟨S, M, ls, r, ls', hR, hG, hq⟩ := h
 obtain ⟨x, y, l, rfl, hf, rfl, rfl⟩ := no_row_of hG
 obtain ⟨v0, hv0, hi0⟩ := hR.dat 0 x rfl
 obtain ⟨v1, hv1, hi1⟩ := hR.dat 1 y rfl
 have hvs : vs = [v0, v1] := by
  match vs, hv0, hv1, hR.len with
  | [a, b], h0, h1, _ => cases h0; cases h1; rfl
  | [], h0, _, _ => cases h0
  | [_], _, h1, _ => cases h1
  | _ :: _ :: _ :: _, _, _, hl => simp at hl
 subst hvs
 have one : ∀ {X : Cx} {x : Stmt} {u : TS}, PS X x u -> PSs X [x] u := fun h => pss_one h
 refine ⟨_, @pss_cons _ _ _ _ _ (ps_tryAs (C := C) (i := 2) CF hr gr_row_of mf kf bf (@pa_cons _ _ _ _ _ (@pv _ 0 _ _ rfl vr_0 dbg__law_rows cls__law_rows) (@pa_cons _ _ _ _ _ (@pv _ 1 _ _ rfl vr_1 dbg__law_name cls__law_name) pa_nil (by trivial)) (by trivial)) ⟨rfl, rfl⟩ gr_SceneError mD t2 nd rfl lr_2
    (fun ea oe hc hd hn => one (ps_ret (pe_and
     (pe_callB (call_isiXC (ea := ea) (oe := oe) (C := C) (c1 := C) (List.mem_append_right _ (List.mem_singleton.mpr rfl)) hc hd hn xc k0) gr_isinstance zi bi_isi (@pa_cons _ _ _ _ _ (@pv _ 2 _ _ rfl vr_2 dbx_e clx_e) (@pa_cons _ _ _ _ _ (pe_glob (v := .ref C) gr_NoName mC rfl dbz_NoName) (@pa_nil _) (by trivial)) (by trivial)) nm_isi dbx_isinstance) (pe_and
     (pe_callB (call_isiX (ea := ea) (oe := oe) (C := C) (T := "ValueError") (List.mem_append_right _ (List.mem_singleton.mpr rfl)) hc hd hn xc k1) gr_isinstance zi bi_isi (@pa_cons _ _ _ _ _ (@pv _ 2 _ _ rfl vr_2 dbx_e clx_e) (@pa_cons _ _ _ _ _ (pe_bltn (v := .ty "ValueError") gr_ValueError zv bi_VE rfl nm_VE dbx_ValueError) (@pa_nil _) (by trivial)) (by trivial)) nm_isi dbx_isinstance)
     (pe_one (pe_not (pe_callB (call_isiXT (ea := ea) (oe := oe) (C := C) (cs := [c2, c3]) (List.mem_append_right _ (List.mem_singleton.mpr rfl)) hc hd hn xc k2) gr_isinstance zi bi_isi (@pa_cons _ _ _ _ _ (@pv _ 2 _ _ rfl vr_2 dbx_e clx_e) (@pa_cons _ _ _ _ _
      (pe_tup (@pa_cons _ _ _ _ _ (pe_glob (v := .ref c2) gr_NoPart m2 rfl dbx_NoPart) (@pa_cons _ _ _ _ _ (pe_glob (v := .ref c3) gr_WrongKind m3 rfl dbx_WrongKind) (@pa_nil _) (by trivial)) (by trivial)))
      (@pa_nil _) (by trivial)) (by trivial)) nm_isi dbx_isinstance))))))) dbx_row_of dbx_SceneError (by trivial) (by trivial) (by trivial))
  (@pss_one _ _ _ (@ps_ret _ _ _ _ (@pe_bl _ _ _ _))), ?_⟩
 refine ⟨v0, rfl, v1, rfl, S, x, y, v0, v1, l, rfl, hi0, hi1, hR.ex, hf, fun H' sm => ⟨rfl, fun ea _ => ?_⟩⟩
 refine ⟨.ref ea, rfl, rfl, true, rfl, iteT ?_⟩
 refine ⟨.ref ea, rfl, rfl, true, rfl, iteT ?_⟩
 refine ⟨.ref ea, rfl, (by decide : 2 <= sizeLine), fun p hp => ⟨p, rfl, upd_same, false, rfl, ?_⟩⟩
 have sm2 := same_new hp (HO.tup [V.ref c2, V.ref c3])
 have sm3 : Same H _ := fun b o e => sm2 b o (sm b o e)
 exact hq _ _ (hR.same sm3) (.of sm3) rfl
theorem ok_law (F : Fun K "law" "law" s_law f fd) (C_L_scene_of : Cal P w K mg base 6 "_law_scene_of" ["_law_script", "_law_first", "_law_many_here"] (spD ⟨K, w⟩ m_L_scene_of true)) (C_L_many : Cal P w K mg base 6 "_law_many" ["_law_script", "_law_many_here", "_law_most"] (spD ⟨K, w⟩ m_L_many false)) (C_L_big : Cal P w K mg base 6 "_law_big" ["_law_script", "_law_at"] (spD ⟨K, w⟩ m_L_big false)) (C_L_texts : Cal P w K mg base 6 "_law_texts" ["_law_found", "_law_due"] (spD ⟨K, w⟩ m_L_texts false)) (C_kids_of : Cal P w K mg base 6 "kids_of" ["rows", "name"] (spD ⟨K, w⟩ m_kids_of true)) (C_row_of : Cal P w K mg base 6 "row_of" ["rows", "name"] (spD ⟨K, w⟩ m_row_of false)) (C_parts_in : Cal P w K mg base 6 "parts_in" ["rows", "name"] (spD ⟨K, w⟩ m_parts_in true)) (C_holders_of : Cal P w K mg base 6 "holders_of" ["rows", "name"] (spD ⟨K, w⟩ m_holders_of true)) (C_L_inner : Cal P w K mg base 6 "_law_inner" ["_law_rows", "_law_name"] (spD ⟨K, w⟩ m_L_inner true)) (C_L_chain : Cal P w K mg base 6 "_law_chain" ["_law_rows", "_law_name"] (spD ⟨K, w⟩ m_L_chain false)) (C_L_name_of : Cal P w K mg base 6 "_law_name_of" ["_law_big_here"] (spD ⟨K, w⟩ m_L_name_of false)) (C_L_no_row : Cal P w K mg base 6 "_law_no_row" ["_law_rows", "_law_name"] (spD ⟨K, w⟩ m_L_no_row false)) (z_list : mg "list" = none) (z_range : mg "range" = none) : FnOk P w K mg base CX0 7 f fd ["_law_script"] (spD ⟨K, w⟩ m_law false) := by
 have nd := sc_law.nd
 refine F.ok sc_law (fun vs H Q E h => fn_len dFun_len h) (fun cdv A outer s H vs Q E hr h => ?_)
 exact ⟨_, (@pss_cons _ _ _ _ _ (@ps_set _ _ 1 _ _ _ _ nd rfl n_law_1 (@pe_callC _ _ _ _ _ _ _ _ _ _ C_L_scene_of hr g_law__law_scene_of (@pa_cons _ _ _ _ _ (@pv _ 0 _ _ rfl v_law_0 dbg__law_script cls__law_script) (@pa_cons _ _ _ _ _ pe_int (@pa_cons _ _ _ _ _ (@pe_callC _ _ _ _ _ _ _ _ _ _ C_L_many hr g_law__law_many (@pa_cons _ _ _ _ _ (@pv _ 0 _ _ rfl v_law_0 dbg__law_script cls__law_script) (@pa_cons _ _ _ _ _ (@pe_op _ _ _ _ _ _ _ _ op_mod (@pe_callC _ _ _ _ _ _ _ _ _ _ C_L_big hr g_law__law_big (@pa_cons _ _ _ _ _ (@pv _ 0 _ _ rfl v_law_0 dbg__law_script cls__law_script) (@pa_cons _ _ _ _ _ pe_int pa_nil (by trivial)) (by trivial)) dbg__law_big (by trivial) (by trivial)) pe_int) (@pa_cons _ _ _ _ _ pe_int pa_nil (by trivial)) (by trivial)) (by trivial)) dbg__law_many (by trivial) (by trivial)) pa_nil (by trivial)) (by trivial)) (by trivial)) dbg__law_scene_of (by trivial) (by trivial)) (by trivial) (by trivial)) (@pss_cons _ _ _ _ _ (@ps_set _ _ 2 _ _ _ _ nd rfl n_law_2 (@pe_callTy _ _ _ _ _ _ _ _ _ call_list_of g_law_list z_list PySem.Pv.boot_list (@pa_cons _ _ _ _ _ (@pv _ 1 _ _ rfl v_law_1 dbg__law_rows cls__law_rows) pa_nil (by trivial)) nam_list dbg_list (by trivial) (by trivial)) (by trivial) (by trivial)) (@pss_cons _ _ _ _ _ (@ps_for _ _ _ _ _ _ _ _ PassesOwn.never rfl (@pi_range1 _ _ _ _ _ _ g_law_range z_range (@pa_cons _ _ _ _ _ pe_int pa_nil (by trivial)) (by trivial)) (@pg_name _ _ 3 _ nd rfl n_law_3 (by trivial)) (@pss_cons _ _ _ _ _ (@ps_if _ _ _ _ _ _ _ _ (@pt_not _ _ _ _ (@pt_val _ _ _ (@pe_callC _ _ _ _ _ _ _ _ _ _ C_L_texts hr g_law__law_texts (@pa_cons _ _ _ _ _ (@pe_callC _ _ _ _ _ _ _ _ _ _ C_kids_of hr g_law_kids_of (@pa_cons _ _ _ _ _ (@pv _ 2 _ _ rfl v_law_2 dbg__law_handed cls__law_handed) (@pa_cons _ _ _ _ _ pe_str pa_nil (by trivial)) (by trivial)) dbg_kids_of (by trivial) (by trivial)) (@pa_cons _ _ _ _ _ (@pe_lc _ ["_law_row"] 1 [] _ _ _ _ _ _ _ _ _ _ rfl (@lc_ok _ ["_law_row"] 1 [] _ ["_law_script", "_law_rows", "_law_handed", "_law_turn", "_law_row", "_law_told", "_law_due", "_law_k", "_law_names", "_law_name"] (defScope s_law) rfl rfl (by walk_at "dk")) (@pi_list _ _ _ _ (@pv _ 1 _ _ rfl v_law_1 dbg__law_rows cls__law_rows)) (fun cl fp s3 H3 => (@pg_name _ _ 0 _ nd0_law rfl (loc_local (by walk_at "dk")) (Or.inr (rl_local (by walk_at "dk"))))) (fun cl fp s3 H3 => (@pts_one _ _ _ (@pt_cmpR _ _ _ _ _ _ _ _ (@op_eqK _ (hu64 hr)) (@pe_ix _ _ _ _ _ _ _ ix_tup (@pv _ 0 _ _ rfl (vis_local (by walk_at "dk")) dbg__law_row cls__law_row) pe_int (fun _ _ => rfl)) pe_str (nomark _)))) (fun cl fp s3 H3 => (@pe_ix _ _ _ _ _ _ _ ix_tup (@pv _ 0 _ _ rfl (vis_local (by walk_at "dk")) dbg__law_row cls__law_row) pe_int (fun _ _ => rfl))) (by trivial)) pa_nil (by trivial)) (by trivial)) dbg__law_texts (by trivial) (by trivial)) (by trivial))) (@pss_one _ _ _ (@ps_ret _ _ _ _ pe_bl)) pss_nil) (@pss_one _ _ _ (@ps_for _ _ _ _ _ _ _ _ PassesOwn.never rfl (@pi_list _ _ _ _ (@pv _ 1 _ _ rfl v_law_1 dbg__law_rows cls__law_rows)) (@pg_name _ _ 4 _ nd rfl n_law_4 (by trivial)) (@pss_cons _ _ _ _ _ (@ps_if _ _ _ _ _ _ _ _ (@pt_cmpR _ _ _ _ _ _ _ _ (@op_neK _ (hu64 hr)) (@pe_callC _ _ _ _ _ _ _ _ _ _ C_row_of hr g_law_row_of (@pa_cons _ _ _ _ _ (@pv _ 2 _ _ rfl v_law_2 dbg__law_handed cls__law_handed) (@pa_cons _ _ _ _ _ (@pe_ix _ _ _ _ _ _ _ ix_tup (@pv _ 4 _ _ rfl v_law_4 dbg__law_row cls__law_row) pe_int (fun _ _ => rfl)) pa_nil (by trivial)) (by trivial)) dbg_row_of (by trivial) (by trivial)) (@pv _ 4 _ _ rfl v_law_4 dbg__law_row cls__law_row) (nomark _)) (@pss_one _ _ _ (@ps_ret _ _ _ _ pe_bl)) pss_nil) (@pss_cons _ _ _ _ _ (@ps_set _ _ 5 _ _ _ _ nd rfl n_law_5 (@pe_lst _ _ _ _ (@pa_cons _ _ _ _ _ (@pe_callC _ _ _ _ _ _ _ _ _ _ C_kids_of hr g_law_kids_of (@pa_cons _ _ _ _ _ (@pv _ 2 _ _ rfl v_law_2 dbg__law_handed cls__law_handed) (@pa_cons _ _ _ _ _ (@pe_ix _ _ _ _ _ _ _ ix_tup (@pv _ 4 _ _ rfl v_law_4 dbg__law_row cls__law_row) pe_int (fun _ _ => rfl)) pa_nil (by trivial)) (by trivial)) dbg_kids_of (by trivial) (by trivial)) (@pa_cons _ _ _ _ _ (@pe_callC _ _ _ _ _ _ _ _ _ _ C_holders_of hr g_law_holders_of (@pa_cons _ _ _ _ _ (@pv _ 2 _ _ rfl v_law_2 dbg__law_handed cls__law_handed) (@pa_cons _ _ _ _ _ (@pe_ix _ _ _ _ _ _ _ ix_tup (@pv _ 4 _ _ rfl v_law_4 dbg__law_row cls__law_row) pe_int (fun _ _ => rfl)) pa_nil (by trivial)) (by trivial)) dbg_holders_of (by trivial) (by trivial)) (@pa_cons _ _ _ _ _ (@pe_callC _ _ _ _ _ _ _ _ _ _ C_parts_in hr g_law_parts_in (@pa_cons _ _ _ _ _ (@pv _ 2 _ _ rfl v_law_2 dbg__law_handed cls__law_handed) (@pa_cons _ _ _ _ _ (@pe_ix _ _ _ _ _ _ _ ix_tup (@pv _ 4 _ _ rfl v_law_4 dbg__law_row cls__law_row) pe_int (fun _ _ => rfl)) pa_nil (by trivial)) (by trivial)) dbg_parts_in (by trivial) (by trivial)) pa_nil (by trivial)) (by trivial)) (by trivial))) (by trivial) (by trivial)) (@pss_cons _ _ _ _ _ (@ps_set _ _ 6 _ _ _ _ nd rfl n_law_6 (@pe_lst _ _ _ _ (@pa_cons _ _ _ _ _ (@pe_lc _ ["_law_one", "_law_row"] 1 [4] _ _ _ _ _ _ _ _ _ _ rfl (@lc_ok _ ["_law_one", "_law_row"] 1 [4] _ ["_law_script", "_law_rows", "_law_handed", "_law_turn", "_law_row", "_law_told", "_law_due", "_law_k", "_law_names", "_law_name"] (defScope s_law) rfl rfl (by walk_at "dk")) (@pi_list _ _ _ _ (@pv _ 1 _ _ rfl v_law_1 dbg__law_rows cls__law_rows)) (fun cl fp s3 H3 => (@pg_name _ _ 0 _ nd1_law rfl (loc_local (by walk_at "dk")) (Or.inr (rl_local (by walk_at "dk"))))) (fun cl fp s3 H3 => (@pts_one _ _ _ (@pt_cmpR _ _ _ _ _ _ _ _ (@op_eqK _ (hu64 hr)) (@pe_ix _ _ _ _ _ _ _ ix_tup (@pv _ 0 _ _ rfl (vis_local (by walk_at "dk")) dbg__law_one cls__law_one) pe_int (fun _ _ => rfl)) (@pe_ix _ _ _ _ _ _ _ ix_tup (@pv _ 1 _ _ rfl (vis_free (by walk_at "dk")) dbg__law_row cls__law_row) pe_int (fun _ _ => rfl)) (nomark _)))) (fun cl fp s3 H3 => (@pe_ix _ _ _ _ _ _ _ ix_tup (@pv _ 0 _ _ rfl (vis_local (by walk_at "dk")) dbg__law_one cls__law_one) pe_int (fun _ _ => rfl))) (by trivial)) (@pa_cons _ _ _ _ _ (@pe_callC _ _ _ _ _ _ _ _ _ _ C_L_chain hr g_law__law_chain (@pa_cons _ _ _ _ _ (@pv _ 1 _ _ rfl v_law_1 dbg__law_rows cls__law_rows) (@pa_cons _ _ _ _ _ (@pe_ix _ _ _ _ _ _ _ ix_tup (@pv _ 4 _ _ rfl v_law_4 dbg__law_row cls__law_row) pe_int (fun _ _ => rfl)) pa_nil (by trivial)) (by trivial)) dbg__law_chain (by trivial) (by trivial)) (@pa_cons _ _ _ _ _ (@pe_callC _ _ _ _ _ _ _ _ _ _ C_L_inner hr g_law__law_inner (@pa_cons _ _ _ _ _ (@pv _ 1 _ _ rfl v_law_1 dbg__law_rows cls__law_rows) (@pa_cons _ _ _ _ _ (@pe_ix _ _ _ _ _ _ _ ix_tup (@pv _ 4 _ _ rfl v_law_4 dbg__law_row cls__law_row) pe_int (fun _ _ => rfl)) pa_nil (by trivial)) (by trivial)) dbg__law_inner (by trivial) (by trivial)) pa_nil (by trivial)) (by trivial)) (by trivial))) (by trivial) (by trivial)) (@pss_one _ _ _ (@ps_for _ _ _ _ _ _ _ _ PassesOwn.never rfl (@pi_range1 _ _ _ _ _ _ g_law_range z_range (@pa_cons _ _ _ _ _ pe_int pa_nil (by trivial)) (by trivial)) (@pg_name _ _ 7 _ nd rfl n_law_7 (by trivial)) (@pss_cons _ _ _ _ _ (@ps_if _ _ _ _ _ _ _ _ (@pt_not _ _ _ _ (@pt_val _ _ _ (@pe_callC _ _ _ _ _ _ _ _ _ _ C_L_texts hr g_law__law_texts (@pa_cons _ _ _ _ _ (@pe_ix _ _ _ _ _ _ _ ix_list (@pv _ 5 _ _ rfl v_law_5 dbg__law_told cls__law_told) (@pv _ 7 _ _ rfl v_law_7 dbg__law_k cls__law_k) (fun _ _ => rfl)) (@pa_cons _ _ _ _ _ (@pe_ix _ _ _ _ _ _ _ ix_list (@pv _ 6 _ _ rfl v_law_6 dbg__law_due cls__law_due) (@pv _ 7 _ _ rfl v_law_7 dbg__law_k cls__law_k) (fun _ _ => rfl)) pa_nil (by trivial)) (by trivial)) dbg__law_texts (by trivial) (by trivial)) (by trivial))) (@pss_one _ _ _ (@ps_ret _ _ _ _ pe_bl)) pss_nil) (@pss_one _ _ _ (@ps_expr _ _ _ _ (@pe_bm _ _ _ _ _ _ _ _ _ _ _ _ PySem.F.plainAttrs_list PySem.F.slot_list_append PySem.F.type_list_append mt_append (@pe_ix _ _ _ _ _ _ _ ix_list (@pv _ 5 _ _ rfl v_law_5 dbg__law_told cls__law_told) (@pv _ 7 _ _ rfl v_law_7 dbg__law_k cls__law_k) (fun _ _ => rfl)) (@pa_cons _ _ _ _ _ pe_str pa_nil (by trivial)) (by trivial) (by trivial) (by trivial) (by trivial) (by trivial)) (by trivial)))) (by trivial)))))) (by trivial)))) (by trivial)) (@pss_cons _ _ _ _ _ (@ps_setLC _ ["_law_row"] 1 [] _ _ _ _ _ _ _ _ _ _ 8 _ _ _ nd rfl l_law_8 rfl (@lc_ok _ ["_law_row"] 1 [] _ ["_law_script", "_law_rows", "_law_handed", "_law_turn", "_law_row", "_law_told", "_law_due", "_law_k", "_law_names", "_law_name"] (defScope s_law) rfl rfl (by walk_at "dk")) (@pi_list _ _ _ _ (@pv _ 1 _ _ rfl v_law_1 dbg__law_rows cls__law_rows)) (fun cl fp s3 H3 => (@pg_name _ _ 0 _ nd2_law rfl (loc_local (by walk_at "dk")) (Or.inr (rl_local (by walk_at "dk"))))) (fun cl fp s3 H3 => pts_nil) (fun cl fp s3 H3 => (@pe_ix _ _ _ _ _ _ _ ix_tup (@pv _ 0 _ _ rfl (vis_local (by walk_at "dk")) dbg__law_row cls__law_row) pe_int (fun _ _ => rfl))) (by trivial) (by trivial)) (@pss_cons _ _ _ _ _ (@ps_for _ _ _ _ _ _ _ _ PassesOwn.never rfl (@pi_tup _ _ _ _ (@pe_tup _ _ _ _ _ (@pa_cons _ _ _ _ _ (@pe_ix _ _ _ _ _ _ _ ix_tup (@pe_callC _ _ _ _ _ _ _ _ _ _ C_L_name_of hr g_law__law_name_of (@pa_cons _ _ _ _ _ (@pe_callC _ _ _ _ _ _ _ _ _ _ C_L_big hr g_law__law_big (@pa_cons _ _ _ _ _ (@pv _ 0 _ _ rfl v_law_0 dbg__law_script cls__law_script) (@pa_cons _ _ _ _ _ pe_int pa_nil (by trivial)) (by trivial)) dbg__law_big (by trivial) (by trivial)) pa_nil (by trivial)) dbg__law_name_of (by trivial) (by trivial)) pe_int (fun _ _ => rfl)) (@pa_cons _ _ _ _ _ pe_str pa_nil (by trivial)) (by trivial)))) (@pg_name _ _ 9 _ nd rfl n_law_9 (by trivial)) (@pss_one _ _ _ (@ps_if _ _ _ _ _ _ _ _ (@PW.pt _ _ _ (@pw_and _ _ _ _ _ _ _ (@pt_cmpR _ _ _ _ _ _ _ _ (@op_notInK _ (hu65 hr)) (@pv _ 9 _ _ rfl v_law_9 dbg__law_name cls__law_name) (@pv _ 8 _ _ rfl v_law_8 dbg__law_names cls__law_names) (by with_unfolding_all rfl)) (@pw_and1 _ _ _ _ (@pt_not _ _ _ _ (@pt_val _ _ _ (@pe_callC _ _ _ _ _ _ _ _ _ _ C_L_no_row hr g_law__law_no_row (@pa_cons _ _ _ _ _ (@pv _ 2 _ _ rfl v_law_2 dbg__law_handed cls__law_handed) (@pa_cons _ _ _ _ _ (@pv _ 9 _ _ rfl v_law_9 dbg__law_name cls__law_name) pa_nil (by trivial)) (by trivial)) dbg__law_no_row (by trivial) (by trivial)) (by trivial)))))) (@pss_one _ _ _ (@ps_ret _ _ _ _ pe_bl)) pss_nil)) (by trivial)) (@pss_one _ _ _ (@ps_ret _ _ _ _ (@pe_cmpR _ _ _ _ _ _ _ _ (@op_eqK _ (hu64 hr)) (@pv _ 2 _ _ rfl v_law_2 dbg__law_handed cls__law_handed) (@pv _ 1 _ _ rfl v_law_1 dbg__law_rows cls__law_rows) (nomark _))))))))), fn_run (N := ["_law_script", "_law_rows", "_law_handed", "_law_turn", "_law_row", "_law_told", "_law_due", "_law_k", "_law_names", "_law_name"]) (np := 1) (nl := 9) (b_seq (b_asg (e_callC (i := 0) (a_cons e_int (a_cons (e_callC (i := 0) (a_cons (e_op o_mod (e_callC (i := 0) (a_cons e_int a_nil)) e_int) (a_cons e_int a_nil))) a_nil))) g_name) (b_seq (b_asg (e_app c_list (a_cons e_var a_nil)) g_name) (b_seq (b_for (it_range1 (a_cons e_int a_nil)) g_name (b_seq (b_if (t_not (t_val (e_call (a_cons (e_call (a_cons e_var (a_cons e_str a_nil))) (a_cons (e_lc (it_list e_var) g_name (t_test (e_op o_eq (e_op o_ixT e_var e_int) e_str)) (e_op o_ixT e_var e_int)) a_nil))))) (b_ret e_bl (by decide)) b_nil) (b_for (it_list e_var) g_name (b_seq (b_if (t_test (e_op o_ne (e_call (a_cons e_var (a_cons (e_op o_ixT e_var e_int) a_nil))) e_var)) (b_ret e_bl (by decide)) b_nil) (b_seq (b_setG (eg_lst (ag_cons (eg_fx (e_call (a_cons e_var (a_cons (e_op o_ixT e_var e_int) a_nil)))) (ag_cons (eg_fx (e_call (a_cons e_var (a_cons (e_op o_ixT e_var e_int) a_nil)))) (ag_cons (eg_fx (e_call (a_cons e_var (a_cons (e_op o_ixT e_var e_int) a_nil)))) ag_nil))))) (b_seq (b_asg (e_lst (a_cons (e_lc (it_list e_var) g_name (t_test (e_op o_eq (e_op o_ixT e_var e_int) (e_op o_ixT e_var e_int))) (e_op o_ixT e_var e_int)) (a_cons (e_call (a_cons e_var (a_cons (e_op o_ixT e_var e_int) a_nil))) (a_cons (e_call (a_cons e_var (a_cons (e_op o_ixT e_var e_int) a_nil))) a_nil)))) g_name) (b_for (it_range1 (a_cons e_int a_nil)) g_name (b_seq (b_if (t_borG (i := 5) (t_not (t_val (e_call (a_cons (e_op o_ixL e_var e_var) (a_cons (e_op o_ixL e_var e_var) a_nil)))))) (b_ret e_bl (by decide)) b_nil) (b_appG (i := 5) e_var (a_cons e_str a_nil)))))))))) (b_seq (b_lcs (e_lc (it_list e_var) g_name t_yes (e_op o_ixT e_var e_int))) (b_seq (b_for (it_tup (e_tup (a_cons (e_op o_ixT (e_call (a_cons (e_callC (i := 0) (a_cons e_int a_nil)) a_nil)) e_int) (a_cons e_str a_nil)))) g_name (b_if (t_and (t_test (e_op o_in e_var e_var)) (t_not (t_val (e_call (a_cons e_var (a_cons e_var a_nil)))))) (b_ret e_bl (by decide)) b_nil)) (b_ret (e_op o_eq e_var e_var) (by decide))))))) rfl h⟩
end
theorem modI {i j : Int} (h : 0 < j) : fMod (.int i) (.int j) = some (.int (i % j)) := if_pos h
theorem divI {i j : Int} (h : 0 < j) (h1 : j < 10 ^ 70) : fDiv (.int i) (.int j) = some (.int (i / j)) := if_pos ⟨h, bd_small h h1⟩
theorem mulI {i j : Int} (h : CMulB i j) : fMul (.int i) (.int j) = some (.int (i * j)) := if_pos h
theorem pow18 : fPow (.int 10) (.int 18) = some (.int 1000000000000000000) := rfl
theorem L_cell_at {ns : List Int} {k : Int} (h0 : 0 <= k) : ∃ v : Int, m_L_cell_at [.c (ns.map .int), .d (.int k)] = some (.int v, [.c (ns.map .int), .d (.int k)]) := by
 by_cases h : k < (ns.length : Int)
 ·have hk : k.toNat < ns.length := by omega
  have e : (ns.map PyData.int)[k.toNat]? = some (.int ns[k.toNat]) := by simp [hk]
  exact ⟨ns[k.toNat], by simp only [m_L_cell_at, List.length_map, h0, h, decide_true, e, dFun, dSeq, dAsg, dN, dRet, dNil, dIfS, dPar, dVar, dC, dOp, fI, fAdd, fSub, fLt, fLe, fGt, fGe, fIxT, dTest, dANil, dACons, allD, dTup, dApp, dCall, dCallC, fin_nil, fin_d, fin_c, fin_m, dIxC, dLenC, atI, ixN, sz', Option.bind_some, Option.map_some, List.map_cons, List.map_nil, List.cons_append, List.nil_append, List.length_cons, List.length_nil, List.getElem?_cons_zero, List.getElem?_cons_succ, List.set_cons_zero, List.set_cons_succ, List.replicate_succ, List.replicate_zero, if_true, if_false, reduceIte, Bool.false_eq_true, Nat.reduceAdd, Nat.reduceLT, Int.reduceAdd, Int.reduceLT, Int.reduceLE, Int.reduceToNat, Nat.reduceLeDiff, and_self, Int.toNat_zero, Int.le_refl, Int.natCast_add, Int.cast_ofNat_Int, Nat.zero_add]⟩
 ·exact ⟨0, by simp only [m_L_cell_at, List.length_map, h0, h, decide_false, dFun, dSeq, dAsg, dN, dRet, dNil, dIfS, dPar, dVar, dC, dOp, fI, fAdd, fSub, fLt, fLe, fGt, fGe, fIxT, dTest, dANil, dACons, allD, dTup, dApp, dCall, dCallC, fin_nil, fin_d, fin_c, fin_m, dIxC, dLenC, atI, ixN, sz', Option.bind_some, Option.map_some, List.map_cons, List.map_nil, List.cons_append, List.nil_append, List.length_cons, List.length_nil, List.getElem?_cons_zero, List.getElem?_cons_succ, List.set_cons_zero, List.set_cons_succ, List.replicate_succ, List.replicate_zero, if_true, if_false, reduceIte, Bool.false_eq_true, Nat.reduceAdd, Nat.reduceLT, Int.reduceAdd, Int.reduceLT, Int.reduceLE, Int.reduceToNat, Nat.reduceLeDiff, and_self, Int.toNat_zero, Int.le_refl, Int.natCast_add, Int.cast_ofNat_Int, Nat.zero_add]⟩
theorem tabT {xs : List Int} {k : Int} (h0 : 0 <= k) (h : k < (xs.length : Int)) : ∃ v : Int, atI (xs.map PyData.int) k = some (.int v) /\ v ∈ xs := by
 have hk : k.toNat < xs.length := by omega
 refine ⟨xs[k.toNat], ?_, List.getElem_mem hk⟩
 unfold atI ixN
 rw [List.length_map, if_pos h0, if_pos h]
 simp [hk]
def by8 : PyData := .tuple ([48271, 69621, 16807, 39373, 21401, 60493, 87721, 31337].map .int)
def pr8 : PyData := .tuple ([99991, 99989, 99971, 99961, 99929, 99923, 99907, 99901].map .int)
theorem L_big {ns : List Int} {k : Int} (h0 : 0 <= k) : ∃ (v : Int) (ls : List L), m_L_big [.c (ns.map .int), .d (.int k)] = some (.int v, ls) := by
 obtain ⟨cell, hc⟩ := L_cell_at (ns := ns) h0
 by_cases hb : (1000000000000000000 : Int) <= cell
 ·exact ⟨cell, _, by simp only [m_L_big, hc, pow18, hb, decide_true, dFun, dSeq, dAsg, dN, dRet, dNil, dIfS, dPar, dVar, dC, dOp, fI, fAdd, fSub, fLt, fLe, fGt, fGe, fIxT, dTest, dANil, dACons, allD, dTup, dApp, dCall, dCallC, fin_nil, fin_d, fin_c, fin_m, dIxC, dLenC, atI, ixN, sz', Option.bind_some, Option.map_some, List.map_cons, List.map_nil, List.cons_append, List.nil_append, List.length_cons, List.length_nil, List.getElem?_cons_zero, List.getElem?_cons_succ, List.set_cons_zero, List.set_cons_succ, List.replicate_succ, List.replicate_zero, if_true, if_false, reduceIte, Bool.false_eq_true, Nat.reduceAdd, Nat.reduceLT, Int.reduceAdd, Int.reduceLT, Int.reduceLE, Int.reduceToNat, Nat.reduceLeDiff, and_self, Int.toNat_zero, Int.le_refl, Int.natCast_add, Int.cast_ofNat_Int, Nat.zero_add]; rfl⟩
 ·have lp : ∃ τ', dLoop (dN 6) (dSeq (dAsg (dOp fAdd (dOp fAdd (dOp fMod (dCallC 0 m_L_cell_at (dACons (dOp fAdd (dVar 1) (dOp fMod (dVar 6) (dC (.int 9)))) dANil)) (dOp fPow (dC (.int 10)) (dC (.int 18)))) (dC (.int 1))) (dOp fMul (dVar 6) (dVar 6))) (dN 7)) (dAsg (dOp fAdd (dOp fMul (dVar 5) (dC (.int 7919))) (dOp fMod (dOp fMod (dOp fMul (dVar 7) (dOp fIxT (dVar 2) (dOp fMod (dVar 6) (dC (.int 8))))) (dOp fIxT (dVar 3) (dOp fMod (dVar 6) (dC (.int 8))))) (dC (.int 7919)))) (dN 5)))
    ((rng 0 60).map PyData.int) [some (.c (ns.map .int)), some (.d (.int k)), some (.d by8), some (.d pr8), some (.d (.int cell)), some (.d (.int 0)), none, none] = some (.nx τ') /\
    ∃ (b : Int) (o1 o2 : Option L), nM o1 /\ nM o2 /\ τ' = [some (.c (ns.map .int)), some (.d (.int k)), some (.d by8), some (.d pr8), some (.d (.int cell)), some (.d (.int b)), o1, o2] := by
   refine loop_list (enc := PyData.int) (pre := []) (fun _ τ => ∃ (b : Int) (o1 o2 : Option L), nM o1 /\ nM o2 /\ τ = [some (.c (ns.map .int)), some (.d (.int k)), some (.d by8), some (.d pr8), some (.d (.int cell)), some (.d (.int b)), o1, o2]) ⟨0, none, none, nM_none, nM_none, rfl⟩ ?_
   rintro j _ τ hj ⟨b, o1, o2, n1, n2, rfl⟩
   have hj' := (mem_rng (n := 60)).mp hj
   have h9 : 0 <= j % 9 := Int.emod_nonneg _ (by decide)
   obtain ⟨c, hc⟩ := L_cell_at (ns := ns) (k := k + j % 9) (by omega)
   obtain ⟨u1, hu1, m1⟩ := tabT (xs := [48271, 69621, 16807, 39373, 21401, 60493, 87721, 31337]) (k := j % 8) (Int.emod_nonneg _ (by decide)) (Int.emod_lt_of_pos _ (by decide))
   obtain ⟨u2, hu2, m2⟩ := tabT (xs := [99991, 99989, 99971, 99961, 99929, 99923, 99907, 99901]) (k := j % 8) (Int.emod_nonneg _ (by decide)) (Int.emod_lt_of_pos _ (by decide))
   have hu1' : fIxT by8 (.int (j % 8)) = some (.int u1) := hu1
   have hu2' : fIxT pr8 (.int (j % 8)) = some (.int u2) := hu2
   have m1' : -(2 ^ 64) < u1 /\ u1 < 2 ^ 64 := by
    simp only [List.mem_cons, List.not_mem_nil, or_false] at m1
    omega
   have m2' : 0 < u2 := by
    simp only [List.mem_cons, List.not_mem_nil, or_false] at m2
    omega
   have x1 : fMul (.int j) (.int j) = some (.int (j * j)) := mulI (.inl (.inl ⟨by omega, by omega⟩))
   have x2 : fMul (.int b) (.int 7919) = some (.int (b * 7919)) := mulI (.inl (.inr ⟨by decide, by decide⟩))
   have x3 : ∀ z : Int, fMul (.int z) (.int u1) = some (.int (z * u1)) := fun z => mulI (.inl (.inr m1'))
   have x4 : ∀ z : Int, fMod (.int z) (.int u2) = some (.int (z % u2)) := fun z => modI m2'
   have x5 : ∀ z : Int, fMod (.int z) (.int 7919) = some (.int (z % 7919)) := fun z => modI (by decide)
   have x6 : ∀ z : Int, fMod (.int z) (.int 9) = some (.int (z % 9)) := fun z => modI (by decide)
   have x7 : ∀ z : Int, fMod (.int z) (.int 8) = some (.int (z % 8)) := fun z => modI (by decide)
   have x8 : ∀ z : Int, fMod (.int z) (.int 1000000000000000000) = some (.int (z % 1000000000000000000)) := fun z => modI (by decide)
   refine ⟨_, [some (.c (ns.map .int)), some (.d (.int k)), some (.d by8), some (.d pr8), some (.d (.int cell)), some (.d (.int (b * 7919 + (c % 1000000000000000000 + 1 + j * j) * u1 % u2 % 7919))), some (.d (.int j)), some (.d (.int (c % 1000000000000000000 + 1 + j * j)))], dN_eq rfl n1, ?_, _, _, _, nM_d, nM_d, rfl⟩
   refine (seq_nx (τ1 := [some (.c (ns.map .int)), some (.d (.int k)), some (.d by8), some (.d pr8), some (.d (.int cell)), some (.d (.int b)), some (.d (.int j)), some (.d (.int (c % 1000000000000000000 + 1 + j * j)))]) (asg_nx (d := .int (c % 1000000000000000000 + 1 + j * j)) (τ1 := [some (.c (ns.map .int)), some (.d (.int k)), some (.d by8), some (.d pr8), some (.d (.int cell)), some (.d (.int b)), some (.d (.int j)), o2]) ?_ (dN_eq rfl n2))).trans ?_
   ·simp only [dOp, dVar, dC, dCallC, dACons, dANil, allD, fAdd, fI, pow18, hc, x1, x6, x8, List.getElem?_cons_zero, List.getElem?_cons_succ, List.set_cons_zero, List.set_cons_succ, Option.bind_some, Option.map_some, List.map_cons, List.map_nil]
   ·simp only [dAsg, dN, dOp, dVar, dC, fAdd, fI, hu1', hu2', x2, x3, x4, x5, x7, List.getElem?_cons_zero, List.getElem?_cons_succ, List.set_cons_zero, List.set_cons_succ, Option.bind_some, Option.map_some]
  obtain ⟨τ', e, b, o1, o2, n1, n2, rfl⟩ := lp
  refine ⟨b, [.c (ns.map .int), .d (.int k)], ?_⟩
  have hr : dR1 (dACons (dC (.int 60)) dANil) [some (.c (ns.map .int)), some (.d (.int k)), some (.d by8), some (.d pr8), some (.d (.int cell)), some (.d (.int 0)), none, none] = some ((rng 0 60).map PyData.int, [some (.c (ns.map .int)), some (.d (.int k)), some (.d by8), some (.d pr8), some (.d (.int cell)), some (.d (.int 0)), none, none]) := by
   rw [<- rangeD_eq]; rfl
  refine fun_rt (τ := [some (.c (ns.map .int)), some (.d (.int k)), some (.d by8), some (.d pr8), some (.d (.int cell)), some (.d (.int b)), o1, o2]) ?_ rfl rfl
  refine (seq_nx rfl).trans ((seq_nx rfl).trans ((seq_nx (τ1 := [some (.c (ns.map .int)), some (.d (.int k)), some (.d by8), some (.d pr8), some (.d (.int cell)), none, none, none]) (asg_nx (callC_eq (xs := ns.map .int) rfl rfl rfl hc) rfl)).trans ?_))
  refine (seq_nx (τ1 := [some (.c (ns.map .int)), some (.d (.int k)), some (.d by8), some (.d pr8), some (.d (.int cell)), none, none, none]) ?_).trans ((seq_nx (τ1 := [some (.c (ns.map .int)), some (.d (.int k)), some (.d by8), some (.d pr8), some (.d (.int cell)), some (.d (.int 0)), none, none]) rfl).trans ((seq_nx ((for_eq hr).trans e)).trans rfl))
  simp only [pow18, hb, decide_false, dFun, dSeq, dAsg, dN, dRet, dNil, dIfS, dPar, dVar, dC, dOp, fI, fAdd, fSub, fLt, fLe, fGt, fGe, fIxT, dTest, dANil, dACons, allD, dTup, dApp, dCall, dCallC, fin_nil, fin_d, fin_c, fin_m, dIxC, dLenC, atI, ixN, sz', Option.bind_some, Option.map_some, List.map_cons, List.map_nil, List.cons_append, List.nil_append, List.length_cons, List.length_nil, List.getElem?_cons_zero, List.getElem?_cons_succ, List.set_cons_zero, List.set_cons_succ, List.replicate_succ, List.replicate_zero, if_true, if_false, reduceIte, Bool.false_eq_true, Nat.reduceAdd, Nat.reduceLT, Int.reduceAdd, Int.reduceLT, Int.reduceLE, Int.reduceToNat, Nat.reduceLeDiff, and_self, Int.toNat_zero, Int.le_refl, Int.natCast_add, Int.cast_ofNat_Int, Nat.zero_add]
def gI (a b : Int) : Int := (Int.gcd a b : Nat)
theorem gI_mod {a b : Int} (ha : 0 <= a) (hb : 0 < b) : gI b (a % b) = gI a b := by
 unfold gI
 rw [Int.gcd_eq_natAbs_gcd_natAbs, Int.gcd_eq_natAbs_gcd_natAbs]
 have e : (a % b).natAbs = a.natAbs % b.natAbs := by
  rw [Int.natAbs_emod_of_nonneg ha]
 rw [e, Nat.gcd_comm, <- Nat.gcd_rec, Nat.gcd_comm]
theorem gI_zero {a : Int} (ha : 0 <= a) : gI a 0 = a := by
 unfold gI
 rw [Int.gcd_zero_right]
 omega
theorem gI_pos {a b : Int} (hb : 0 < b) : 0 < gI a b := by
 unfold gI
 have : 0 < Int.gcd a b := Int.gcd_pos_of_ne_zero_right _ (by omega)
 omega
theorem gI_le {a b : Int} (hb : 0 < b) : gI a b <= b := by
 exact Int.gcd_le_right a hb
def frm (t b : Int) : Cl := (t / gI t b, b / gI t b)
def absI (i : Int) : Int := if i < 0 then -i else i
theorem absI_nn (i : Int) : 0 <= absI i := by unfold absI; split <;> omega
theorem gI_abs (a b : Int) : gI (absI a) b = gI a b := by
 unfold gI absI
 split
 ·rw [Int.neg_gcd]
 ·rfl
structure OkF (s : Cl) : Prop where
 lo : 0 <= s.1
 hi : s.1 <= s.2
 b1 : 1 <= s.2
 b2 : s.2 <= 1000
 zero : s.1 = 0 -> s = (0, 1)
 red : ∃ t b : Int, 0 < b /\ s = frm t b
theorem low_loop {d1 d2 : PyData} : ∀ (n : Nat) (a b : Int), 0 <= a -> 0 <= b -> b.toNat < n ->
  dWh (dTest (dOp fGt (dVar 3) (dC (.int 0)))) (dPar 2 3 (dACons (dVar 3) (dACons (dOp fMod (dVar 2) (dVar 3)) dANil))) n [some (.d d1), some (.d d2), some (.d (.int a)), some (.d (.int b))] = some (.nx [some (.d d1), some (.d d2), some (.d (.int (gI a b))), some (.d (.int 0))])
 | 0, a, b, _, _, h => absurd h (Nat.not_lt_zero _)
 | n + 1, a, b, ha, hb, h => by
  let st : Int -> Int -> DS := fun x y => [some (.d d1), some (.d d2), some (.d (.int x)), some (.d (.int y))]
  have t : dTest (dOp fGt (dVar 3) (dC (.int 0))) (st a b) = some (decide (0 < b), st a b) := rfl
  unfold dWh
  rw [show dTest (dOp fGt (dVar 3) (dC (.int 0))) [some (.d d1), some (.d d2), some (.d (.int a)), some (.d (.int b))] = some (decide (0 < b), st a b) from t]
  by_cases hz : b = 0
  ·subst hz
   rw [gI_zero ha]; rfl
  ·have hp : 0 < b := by omega
   have md := Int.emod_lt_of_pos a hp
   have mn := Int.emod_nonneg a (show b ≠ 0 by omega)
   have e := low_loop (d1 := d1) (d2 := d2) n b (a % b) hb mn (by omega)
   rw [decide_eq_true hp]
   have bd : dPar 2 3 (dACons (dVar 3) (dACons (dOp fMod (dVar 2) (dVar 3)) dANil)) (st a b) = some (.nx (st b (a % b))) := by
    have : dACons (dVar 3) (dACons (dOp fMod (dVar 2) (dVar 3)) dANil) (st a b) = some ([.d (.int b), .d (.int (a % b))], st a b) := by
     show (((((fMod (.int a) (.int b)).map fun d => (d, st a b)).bind fun p => _).map _)) = _
     rw [modI hp]; rfl
    unfold dPar
    rw [this]; rfl
   show ((dPar _ _ _ (st a b)).bind _) = _
   rw [bd]
   show dWh _ _ n (st b (a % b)) = _
   rw [<- gI_mod ha hp]
   exact e
theorem low_eq {t b : Int} (hb : 0 < b) (hb2 : b < 10 ^ 70) : m_L_low [.d (.int t), .d (.int b)] = some (ec (frm t b), [.d (.int t), .d (.int b)]) := by
 have gp := gI_pos (a := t) hb
 have gl := gI_le (a := t) hb
 have e := low_loop (d1 := .int t) (d2 := .int b) (b.toNat + 1) (absI t) b (absI_nn t) (by omega) (Nat.lt_succ_self _)
 rw [gI_abs] at e
 let st : Option L -> Option L -> DS := fun o p => [some (.d (.int t)), some (.d (.int b)), o, p]
 unfold m_L_low
 refine fun_rt (τ := st (some (.d (.int (gI t b)))) (some (.d (.int 0)))) ?_ rfl rfl
 refine (seq_nx (τ1 := st (some (.d (.int (absI t)))) (some (.d (.int b)))) rfl).trans ?_
 refine (seq_nx e).trans ?_
 refine ret_rt (τ1 := st (some (.d (.int (gI t b)))) (some (.d (.int 0)))) ?_
 have d1 := divI (i := t) gp (by omega)
 have d2 := divI (i := b) gp (by omega)
 simp only [st, d1, d2, ec, frm, dFun, dSeq, dAsg, dN, dRet, dNil, dIfS, dPar, dVar, dC, dOp, fI, fAdd, fSub, fLt, fLe, fGt, fGe, fIxT, dTest, dANil, dACons, allD, dTup, dApp, dCall, dCallC, fin_nil, fin_d, fin_c, fin_m, dIxC, dLenC, atI, ixN, sz', Option.bind_some, Option.map_some, List.map_cons, List.map_nil, List.cons_append, List.nil_append, List.length_cons, List.length_nil, List.getElem?_cons_zero, List.getElem?_cons_succ, List.set_cons_zero, List.set_cons_succ, List.replicate_succ, List.replicate_zero, if_true, if_false, reduceIte, Bool.false_eq_true, Nat.reduceAdd, Nat.reduceLT, Int.reduceAdd, Int.reduceLT, Int.reduceLE, Int.reduceToNat, Nat.reduceLeDiff, and_self, Int.toNat_zero, Int.le_refl, Int.natCast_add, Int.cast_ofNat_Int, Nat.zero_add]
theorem frm_ok {t b : Int} (h0 : 0 <= t) (h1 : t <= b) (h2 : 1 <= b) (h3 : b <= 1000) : OkF (frm t b) := by
 have gp := gI_pos (a := t) (show 0 < b by omega)
 have db : gI t b ∣ b := by unfold gI; exact Int.gcd_dvd_right ..
 obtain ⟨q, hq⟩ := db
 have eb : b / gI t b = q := Int.ediv_eq_of_eq_mul_right (by omega) hq
 have q1 : 1 <= q := by
  rcases Int.lt_or_le q 1 with z | z
  ·have : gI t b * q <= 0 := Int.mul_nonpos_of_nonneg_of_nonpos (by omega) (by omega)
   omega
  ·exact z
 have tl : t / gI t b <= b / gI t b := Int.ediv_le_ediv gp h1
 have bl : b / gI t b <= b := Int.ediv_le_self _ (by omega)
 refine ⟨Int.ediv_nonneg h0 (by omega), tl, by show 1 <= b / gI t b; omega, by show b / gI t b <= 1000; omega, fun z => ?_, t, b, by omega, rfl⟩
 have z : t / gI t b = 0 := z
 have dt : gI t b ∣ t := by unfold gI; exact Int.gcd_dvd_left ..
 obtain ⟨r, hr⟩ := dt
 have er : t / gI t b = r := Int.ediv_eq_of_eq_mul_right (by omega) hr
 have r0 : r = 0 := by omega
 have t0 : t = 0 := by rw [hr, r0, Int.mul_zero]
 have g0 : gI t b = b := by
  rw [t0]; unfold gI
  rw [Int.gcd_zero_left]; omega
 unfold frm
 rw [g0, t0, Int.zero_ediv, Int.ediv_self (by omega)]
theorem share_of_eq (v : Int) : ∃ (s : Cl) (w : Int) (ls : List L), m_L_share_of [.d (.int v)] = some (.tuple [ec s, .int w], ls) /\ OkF s := by
 obtain ⟨b0, e0, hb0⟩ := tabT (xs := [1, 1, 2, 3]) (k := v % 4) (by omega) (by show v % 4 < 4; omega)
 have hb0 : 1 <= b0 /\ b0 <= 1000 := by
  rcases List.mem_cons.mp hb0 with rfl | hb0
  ·decide
  ·rcases List.mem_cons.mp hb0 with rfl | hb0
   ·decide
   ·rcases List.mem_cons.mp hb0 with rfl | hb0
    ·decide
    ·rw [List.mem_singleton.mp hb0]; decide
 let st : Int -> Option L -> DS := fun x o => [some (.d (.int x)), o]
 have fin : ∀ b : Int, 1 <= b -> b <= 1000 -> ∃ (s : Cl) (w : Int), dSeq (dAsg (dOp fDiv (dVar 0) (dC (.int 16000))) (dN 0)) (dRet (dTup (dACons (dCall m_L_low (dACons (dOp fMod (dVar 0) (dOp fAdd (dVar 1) (dC (.int 1)))) (dACons (dVar 1) dANil))) (dACons (dOp fDiv (dVar 0) (dOp fAdd (dVar 1) (dC (.int 1)))) dANil)))) (st v (some (.d (.int b)))) = some (.rt (.tuple [ec s, .int w]) (st (v / 16000) (some (.d (.int b))))) /\ OkF s := fun b h1 h2 => by
  have m0 := Int.emod_nonneg (v / 16000) (show b + 1 ≠ 0 by omega)
  have m1 := Int.emod_lt_of_pos (v / 16000) (show 0 < b + 1 by omega)
  refine ⟨frm (v / 16000 % (b + 1)) b, v / 16000 / (b + 1), ?_, frm_ok m0 (by omega) h1 h2⟩
  have l := low_eq (t := v / 16000 % (b + 1)) (b := b) (by omega) (by omega)
  have d1 := divI (i := v) (j := 16000) (by decide) (by decide)
  have d2 := modI (i := v / 16000) (j := b + 1) (by omega)
  have d3 := divI (i := v / 16000) (j := b + 1) (by omega) (by omega)
  simp only [st, l, d1, d2, d3, dFun, dSeq, dAsg, dN, dRet, dNil, dIfS, dPar, dVar, dC, dOp, fI, fAdd, fSub, fLt, fLe, fGt, fGe, fIxT, dTest, dANil, dACons, allD, dTup, dApp, dCall, dCallC, fin_nil, fin_d, fin_c, fin_m, dIxC, dLenC, atI, ixN, sz', Option.bind_some, Option.map_some, List.map_cons, List.map_nil, List.cons_append, List.nil_append, List.length_cons, List.length_nil, List.getElem?_cons_zero, List.getElem?_cons_succ, List.set_cons_zero, List.set_cons_succ, List.replicate_succ, List.replicate_zero, if_true, if_false, reduceIte, Bool.false_eq_true, Nat.reduceAdd, Nat.reduceLT, Int.reduceAdd, Int.reduceLT, Int.reduceLE, Int.reduceToNat, Nat.reduceLeDiff, and_self, Int.toNat_zero, Int.le_refl, Int.natCast_add, Int.cast_ofNat_Int, Nat.zero_add]
 have c2 : ∀ b : Int, 1 <= b -> b <= 1000 -> ∃ b', 1 <= b' /\ b' <= 1000 /\ dIfS (dTest (dOp fEq (dOp fMod (dOp fDiv (dVar 0) (dC (.int 4))) (dC (.int 16))) (dC (.int 1)))) (dAsg (dOp fAdd (dC (.int 1)) (dOp fMod (dOp fDiv (dVar 0) (dC (.int 16))) (dC (.int 1000)))) (dN 1)) dNil (st v (some (.d (.int b)))) = some (.nx (st v (some (.d (.int b'))))) := fun b h1 h2 => by
  have d1 := divI (i := v) (j := 4) (by decide) (by decide)
  have d2 := modI (i := v / 4) (j := 16) (by decide)
  have d3 := divI (i := v) (j := 16) (by decide) (by decide)
  have d4 := modI (i := v / 16) (j := 1000) (by decide)
  by_cases h : v / 4 % 16 = 1
  ·refine ⟨1 + v / 16 % 1000, by omega, by omega, ?_⟩
   have q : fEq (.int (v / 4 % 16)) (.int 1) = some (.bool true) := by rw [encI.fEq, decide_eq_true h]
   simp only [st, d1, d2, q, d3, d4, dFun, dSeq, dAsg, dN, dRet, dNil, dIfS, dPar, dVar, dC, dOp, fI, fAdd, fSub, fLt, fLe, fGt, fGe, fIxT, dTest, dANil, dACons, allD, dTup, dApp, dCall, dCallC, fin_nil, fin_d, fin_c, fin_m, dIxC, dLenC, atI, ixN, sz', Option.bind_some, Option.map_some, List.map_cons, List.map_nil, List.cons_append, List.nil_append, List.length_cons, List.length_nil, List.getElem?_cons_zero, List.getElem?_cons_succ, List.set_cons_zero, List.set_cons_succ, List.replicate_succ, List.replicate_zero, if_true, if_false, reduceIte, Bool.false_eq_true, Nat.reduceAdd, Nat.reduceLT, Int.reduceAdd, Int.reduceLT, Int.reduceLE, Int.reduceToNat, Nat.reduceLeDiff, and_self, Int.toNat_zero, Int.le_refl, Int.natCast_add, Int.cast_ofNat_Int, Nat.zero_add]
  ·refine ⟨b, h1, h2, ?_⟩
   have q : fEq (.int (v / 4 % 16)) (.int 1) = some (.bool false) := by rw [encI.fEq, decide_eq_false h]
   simp only [st, d1, d2, q, dFun, dSeq, dAsg, dN, dRet, dNil, dIfS, dPar, dVar, dC, dOp, fI, fAdd, fSub, fLt, fLe, fGt, fGe, fIxT, dTest, dANil, dACons, allD, dTup, dApp, dCall, dCallC, fin_nil, fin_d, fin_c, fin_m, dIxC, dLenC, atI, ixN, sz', Option.bind_some, Option.map_some, List.map_cons, List.map_nil, List.cons_append, List.nil_append, List.length_cons, List.length_nil, List.getElem?_cons_zero, List.getElem?_cons_succ, List.set_cons_zero, List.set_cons_succ, List.replicate_succ, List.replicate_zero, if_true, if_false, reduceIte, Bool.false_eq_true, Nat.reduceAdd, Nat.reduceLT, Int.reduceAdd, Int.reduceLT, Int.reduceLE, Int.reduceToNat, Nat.reduceLeDiff, and_self, Int.toNat_zero, Int.le_refl, Int.natCast_add, Int.cast_ofNat_Int, Nat.zero_add]
 have c1 : ∀ b : Int, 1 <= b -> b <= 1000 -> ∃ b', 1 <= b' /\ b' <= 1000 /\ dIfS (dTest (dOp fEq (dOp fMod (dOp fDiv (dVar 0) (dC (.int 4))) (dC (.int 4))) (dC (.int 0)))) (dAsg (dOp fAdd (dC (.int 1)) (dOp fMod (dOp fDiv (dVar 0) (dC (.int 16))) (dC (.int 12)))) (dN 1)) dNil (st v (some (.d (.int b)))) = some (.nx (st v (some (.d (.int b'))))) := fun b h1 h2 => by
  have d1 := divI (i := v) (j := 4) (by decide) (by decide)
  have d2 := modI (i := v / 4) (j := 4) (by decide)
  have d3 := divI (i := v) (j := 16) (by decide) (by decide)
  have d4 := modI (i := v / 16) (j := 12) (by decide)
  by_cases h : v / 4 % 4 = 0
  ·refine ⟨1 + v / 16 % 12, by omega, by omega, ?_⟩
   have q : fEq (.int (v / 4 % 4)) (.int 0) = some (.bool true) := by rw [encI.fEq, decide_eq_true h]
   simp only [st, d1, d2, q, d3, d4, dFun, dSeq, dAsg, dN, dRet, dNil, dIfS, dPar, dVar, dC, dOp, fI, fAdd, fSub, fLt, fLe, fGt, fGe, fIxT, dTest, dANil, dACons, allD, dTup, dApp, dCall, dCallC, fin_nil, fin_d, fin_c, fin_m, dIxC, dLenC, atI, ixN, sz', Option.bind_some, Option.map_some, List.map_cons, List.map_nil, List.cons_append, List.nil_append, List.length_cons, List.length_nil, List.getElem?_cons_zero, List.getElem?_cons_succ, List.set_cons_zero, List.set_cons_succ, List.replicate_succ, List.replicate_zero, if_true, if_false, reduceIte, Bool.false_eq_true, Nat.reduceAdd, Nat.reduceLT, Int.reduceAdd, Int.reduceLT, Int.reduceLE, Int.reduceToNat, Nat.reduceLeDiff, and_self, Int.toNat_zero, Int.le_refl, Int.natCast_add, Int.cast_ofNat_Int, Nat.zero_add]
  ·refine ⟨b, h1, h2, ?_⟩
   have q : fEq (.int (v / 4 % 4)) (.int 0) = some (.bool false) := by rw [encI.fEq, decide_eq_false h]
   simp only [st, d1, d2, q, dFun, dSeq, dAsg, dN, dRet, dNil, dIfS, dPar, dVar, dC, dOp, fI, fAdd, fSub, fLt, fLe, fGt, fGe, fIxT, dTest, dANil, dACons, allD, dTup, dApp, dCall, dCallC, fin_nil, fin_d, fin_c, fin_m, dIxC, dLenC, atI, ixN, sz', Option.bind_some, Option.map_some, List.map_cons, List.map_nil, List.cons_append, List.nil_append, List.length_cons, List.length_nil, List.getElem?_cons_zero, List.getElem?_cons_succ, List.set_cons_zero, List.set_cons_succ, List.replicate_succ, List.replicate_zero, if_true, if_false, reduceIte, Bool.false_eq_true, Nat.reduceAdd, Nat.reduceLT, Int.reduceAdd, Int.reduceLT, Int.reduceLE, Int.reduceToNat, Nat.reduceLeDiff, and_self, Int.toNat_zero, Int.le_refl, Int.natCast_add, Int.cast_ofNat_Int, Nat.zero_add]
 obtain ⟨b1, g1, g2, e1⟩ := c1 b0 hb0.1 hb0.2
 obtain ⟨b2, g3, g4, e2⟩ := c2 b1 g1 g2
 obtain ⟨s, w, e3, hs⟩ := fin b2 g3 g4
 refine ⟨s, w, [.d (.int v)], ?_, hs⟩
 unfold m_L_share_of
 refine fun_rt (τ := st (v / 16000) (some (.d (.int b2)))) ?_ rfl rfl
 refine (seq_nx (τ1 := st v (some (.d (.int b0)))) (asg_nx (d := .int b0) (τ1 := st v none) ?_ rfl)).trans ((seq_nx e1).trans ((seq_nx e2).trans e3))
 have m := modI (i := v) (j := 4) (by decide)
 show (((fMod (.int v) (.int 4)).map fun d => (d, st v none)).bind fun q => (fIxT (.tuple ([1, 1, 2, 3].map PyData.int)) q.1).map fun d => (d, q.2)) = _
 rw [m]
 show ((atI ([1, 1, 2, 3].map PyData.int) (v % 4)).map fun d => (d, st v none)) = _
 rw [e0]; rfl
theorem acc {f : DX} {a : DA} {τ τ1 τ2 : DS} {d : PyData} {rs : List Ar} (h : f τ = some (d, τ1)) (k : a τ1 = some (rs, τ2)) : dACons f a τ = some (.d d :: rs, τ2) := by
 unfold dACons
 rw [h]
 show ((a τ1).map _) = _
 rw [k]; rfl
theorem tst {f : DX} {τ τ1 : DS} {b : Bool} (h : f τ = some (.bool b, τ1)) : dTest f τ = some (b, τ1) := by
 unfold dTest
 rw [h]; rfl
theorem tnot {t : DT} {τ τ1 : DS} {b : Bool} (h : t τ = some (b, τ1)) : dTNot t τ = some (!b, τ1) := by
 unfold dTNot
 rw [h]; rfl
theorem op2 {F : PyData -> PyData -> Option PyData} {f g : DX} {τ τ1 τ2 : DS} {x y r : PyData} (h : f τ = some (x, τ1)) (k : g τ1 = some (y, τ2)) (e : F x y = some r) : dOp F f g τ = some (r, τ2) := by
 unfold dOp
 rw [h]
 show ((g τ1).bind _) = _
 rw [k]
 show ((F x y).map _) = _
 rw [e]; rfl
theorem tbor_eq {i : Nat} {f : DT} {τ τ1 : DS} {b : Bool} {xs : List PyData} (hi : τ[i]? = some (some (.m xs))) (hf : f (τ.set i (some (.d (.list xs)))) = some (b, τ1)) (hx : τ1.all okM = true) : dTBor i f τ = some (b, τ1.set i (some (.m xs))) := by
 unfold dTBor
 rw [hi]
 dsimp only
 rw [hf]
 dsimp only [Option.bind]
 rw [if_pos hx]
theorem orFF {x y : DT} {τ τ1 τ2 : DS} (h1 : x τ = some (false, τ1)) (h2 : y τ1 = some (false, τ2)) : dTOr x y τ = some (false, τ2) := by
 unfold dTOr
 rw [h1]; exact h2
theorem tand {a b : DT} {τ : DS} {p q : Bool} (h1 : a τ = some (p, τ)) (h2 : b τ = some (q, τ)) : dTAnd a b τ = some (p && q, τ) := by
 unfold dTAnd
 rw [h1]
 cases p with
 | true => exact h2
 | false => rfl
abbrev Tx := { s : Str // PyData.strOk s = true }
def eT (t : Tx) : PyData := .str t.1
theorem encT : Enc eT := by
 refine ⟨fun a b => ?_, fun a => ?_, fun a => ?_, fun _ => rfl⟩
 ·unfold eT
  rw [PyData.eqv]
  by_cases h : a = b
  ·subst h; simp
  ·rw [decide_eq_false h]
   exact beq_eq_false_iff_ne.mpr fun z => h (Subtype.ext z)
 ·show PyData.canLay0 (.str a.1) = true
  rw [PyData.canLay0]; exact a.2
 ·show PyData.depth (.str a.1) <= 20
  rw [PyData.depth]; decide
def t0 : Tx := ⟨"", by decide +kernel⟩
inductive Dz where
 | plate (w h : Int) (a b : Cl)
 | band (w h : Int) (a b : Cl)
 | word (t : Tx) (a b : Cl)
 | stencil (rs : List Tx) (a b : Cl)
 | group
 | glass (a : Cl)
 | window (w h x y : Int)
 | turn (q : Int) (f : Bool)
 | tiles (a b x y : Int)
 | mask
 deriving DecidableEq
def kz : Dz -> Nat
 | .plate .. => 0
 | .band .. => 1
 | .word .. => 2
 | .stencil .. => 3
 | .group => 4
 | .glass _ => 5
 | .window .. => 6
 | .turn .. => 7
 | .tiles .. => 8
 | .mask => 9
def kS : Nat -> Tx
 | 0 => ⟨"plate", by decide +kernel⟩
 | 1 => ⟨"band", by decide +kernel⟩
 | 2 => ⟨"word", by decide +kernel⟩
 | 3 => ⟨"stencil", by decide +kernel⟩
 | 4 => ⟨"group", by decide +kernel⟩
 | 5 => ⟨"glass", by decide +kernel⟩
 | 6 => ⟨"window", by decide +kernel⟩
 | 7 => ⟨"turn", by decide +kernel⟩
 | 8 => ⟨"tiles", by decide +kernel⟩
 | _ => ⟨"mask", by decide +kernel⟩
theorem kS_all : ∀ i j : Fin 10, kS i = kS j -> i = j := by decide +kernel
theorem kz_lt (d : Dz) : kz d < 10 := by cases d <;> simp [kz]
theorem kS_inj {i j : Nat} (hi : i < 10) (hj : j < 10) (h : kS i = kS j) : i = j := Fin.mk.inj (kS_all ⟨i, hi⟩ ⟨j, hj⟩ h)
def eD : Dz -> PyData
 | .plate w h a b => .tuple [.int w, .int h, ec a, ec b]
 | .band w h a b => .tuple [.int w, .int h, ec a, ec b]
 | .word t a b => .tuple [eT t, ec a, ec b]
 | .stencil rs a b => .tuple [.tuple (rs.map eT), ec a, ec b]
 | .group => .tuple []
 | .glass a => .tuple [ec a]
 | .window w h x y => .tuple [.int w, .int h, .int x, .int y]
 | .turn q f => .tuple [.int q, .bool f]
 | .tiles a b x y => .tuple [.int a, .int b, .int x, .int y]
 | .mask => .tuple []
structure Rz where
 n : Tx
 h : Tx
 x : Int
 y : Int
 s : Bool
 d : Dz
 deriving DecidableEq
def eZ (r : Rz) : PyData := .tuple [eT r.n, eT r.h, .int r.x, .int r.y, .bool r.s, eT (kS (kz r.d)), eD r.d]
theorem ecq (a b : Cl) : PyData.eqv (ec a) (ec b) = decide (a = b) := encC.eqv a b
theorem intq (a b : Int) : PyData.eqv (.int a) (.int b) = decide (a = b) := encI.eqv a b
theorem boolq (a b : Bool) : PyData.eqv (.bool a) (.bool b) = decide (a = b) := by rw [PyData.eqv]; cases a <;> cases b <;> rfl
theorem beqI (a b : Int) : (a == b) = decide (a = b) := rfl
theorem beqB (a b : Bool) : (a == b) = decide (a = b) := by cases a <;> cases b <;> rfl
theorem eDq : ∀ a b : Dz, kz a = kz b -> PyData.eqv (eD a) (eD b) = decide (a = b) := by
 intro a b h
 cases a <;> cases b <;> first
  | (exfalso; simp [kz] at h; done)
  | (simp only [eD, PyData.eqv, PyData.eqvAll, ecq, intq, boolq, beqI, beqB, encT.eqv, encT.eqvL, Bool.and_true, Dz.plate.injEq, Dz.band.injEq, Dz.word.injEq, Dz.stencil.injEq, Dz.glass.injEq, Dz.window.injEq, Dz.turn.injEq, Dz.tiles.injEq, Bool.decide_and, decide_true])
theorem dep_T : ∀ rs : List Tx, PyData.depthAll (rs.map eT) <= 1
 | [] => by rw [List.map_nil, PyData.depthAll]; decide
 | r :: rs => by
  have := dep_T rs
  rw [List.map_cons, PyData.depthAll]
  unfold eT at *
  simp only [PyData.depth]
  omega
theorem encZ : Enc eZ := by
 refine ⟨fun a b => ?_, fun a => ?_, fun a => ?_, fun a => ?_⟩
 ·unfold eZ
  simp only [PyData.eqv, PyData.eqvAll, intq, boolq, encT.eqv, Bool.and_true]
  obtain ⟨a1, a2, a3, a4, a5, a6⟩ := a
  obtain ⟨b1, b2, b3, b4, b5, b6⟩ := b
  simp only [Rz.mk.injEq, Bool.decide_and]
  by_cases h : kz a6 = kz b6
  ·rw [eDq a6 b6 h, h, decide_eq_true rfl, Bool.true_and]
   simp [Bool.beq_eq_decide_eq]
  ·have h1 : kS (kz a6) ≠ kS (kz b6) := fun z => h (kS_inj (kz_lt _) (kz_lt _) z)
   have h2 : a6 ≠ b6 := fun z => h (by rw [z])
   rw [decide_eq_false h1, decide_eq_false h2]
   simp
 ·show PyData.canLay0 (.tuple _) = true
  simp only [PyData.canLay0, PyData.canLayAll0, encT.can, Bool.true_and, Bool.and_true]
  cases a.d <;> simp only [eD, PyData.canLay0, PyData.canLayAll0, encT.can, encC.can, encT.canL, Bool.true_and, Bool.and_true]
 ·have hc := encC.dep
  have key : PyData.depth (eD a.d) <= 10 := by
   cases a.d with
   | stencil rs x y =>
    have := dep_T rs
    simp only [eD, ec, PyData.depth, PyData.depthAll]
    omega
   | word t x y => simp [eD, eT, ec, PyData.depth, PyData.depthAll]
   | _ => simp [eD, ec, PyData.depth, PyData.depthAll]
  show PyData.depth (.tuple _) <= 20
  simp only [PyData.depth, PyData.depthAll, eT]
  omega
 ·show fixD (.tuple _) = true
  simp only [fixD, fixDs, encT.fix, Bool.true_and, Bool.and_true]
  cases a.d <;> simp only [eD, fixD, fixDs, encT.fix, encC.fix, encT.fixL, Bool.true_and, Bool.and_true]
theorem rng_nat (n : Nat) : (rng 0 n).map PyData.int = (List.range n).map fun (k : Nat) => PyData.int (k : Int) := by
 unfold rng
 rw [List.map_map]
 refine List.map_congr_left fun k _ => ?_
 show PyData.int (0 + (k : Int)) = _
 rw [Int.zero_add]
theorem bor_eq {i : Nat} {f : DX} {τ τ1 : DS} {d : PyData} {xs : List PyData} (hi : τ[i]? = some (some (.m xs))) (hf : f (τ.set i (some (.d (.list xs)))) = some (d, τ1)) (hx : (fixD d && τ1.all okM) = true) : dBor i f τ = some (d, τ1.set i (some (.m xs))) := by
 unfold dBor
 rw [hi]
 show (f _).bind _ = _
 rw [hf]
 show (if _ then _ else _) = _
 rw [if_pos hx]
theorem app1 {F : List PyData -> Option PyData} {f : DX} {τ τ1 : DS} {d r : PyData} (h : f τ = some (d, τ1)) (e : F [d] = some r) : dApp F (dACons f dANil) τ = some (r, τ1) := by
 unfold dApp
 rw [acc h rfl]
 show ((F [d]).map _) = _
 rw [e]; rfl
theorem appd {i : Nat} {a : DA} {τ τ1 : DS} {d : PyData} {xs : List PyData} (h : a τ = some ([.d d], τ1)) (m : τ1[i]? = some (some (.m xs))) (hz : xs.length < 900) : dExpr (dMt i gAppend a) τ = some (.nx (τ1.set i (some (.m (xs ++ [d]))))) := by
 have hs : xs.length < sizeLine := Nat.lt_of_lt_of_le hz (by decide)
 unfold dExpr dMt
 rw [h]
 show ((match τ1[i]? with | some (some (.m xs)) => _ | _ => _) : Option (PyData × DS)).map _ = _
 rw [m]
 show ((if xs.length < sizeLine then some (PyData.none, xs ++ [d]) else none).map _).map _ = _
 rw [if_pos hs]
 rfl
theorem tup_eq {a : DA} {τ τ1 : DS} {rs : List Ar} {ds : List PyData} (h : a τ = some (rs, τ1)) (k : allD rs = some ds) (hz : ds.length <= 1000) : dTup a τ = some (.tuple ds, τ1) := by
 unfold dTup
 rw [h]
 show (allD rs).bind _ = _
 rw [k]
 show (if ds.length <= sizeLine then _ else _) = _
 rw [if_pos (sz hz)]
theorem wh_f {c : DT} {b : DB} {n : Nat} {τ τ1 : DS} (h : c τ = some (false, τ1)) : dWh c b (n + 1) τ = some (.nx τ1) := by
 rw [dWh, h]; rfl
theorem wh_t {c : DT} {b : DB} {n : Nat} {τ τ1 τ2 : DS} (h : c τ = some (true, τ1)) (k : b τ1 = some (.nx τ2)) : dWh c b (n + 1) τ = dWh c b n τ2 := by
 rw [dWh, h]
 show (b τ1).bind _ = _
 rw [k]; rfl
theorem borL {i : Nat} {f : DX} {τ : DS} {xs : List PyData} {d : PyData} (hi : τ[i]? = some (some (.m xs))) (hf : f (τ.set i (some (.d (.list xs)))) = some (d, τ.set i (some (.d (.list xs))))) (hd : fixD d = true) (hok : (τ.set i (some (.d (.list xs)))).all okM = true) : dBor i f τ = some (d, τ) := by
 unfold dBor
 rw [hi]
 dsimp only
 rw [hf]
 dsimp only [Option.bind]
 rw [hd, hok, Bool.and_self, if_pos rfl, List.set_set]
 congr 2
 obtain ⟨hlt, he⟩ := List.getElem?_eq_some_iff.mp hi
 rw [<- he, List.set_getElem_self]
theorem borF {i : Nat} {f : DX} {τ : DS} {xs ys : List PyData} (hi : τ[i]? = some (some (.m xs))) (hf : f (τ.set i (some (.d (.list xs)))) = some (.list ys, τ.set i (some (.d (.list xs))))) (hd : fixDs ys = true) (hok : (τ.set i (some (.d (.list xs)))).all okM = true) : dBorF i f τ = some (.list ys, τ) := by
 unfold dBorF
 rw [hi]
 dsimp only
 rw [hf]
 dsimp only [Option.bind]
 rw [hd, hok, Bool.and_self, if_pos rfl, List.set_set]
 congr 2
 obtain ⟨hlt, he⟩ := List.getElem?_eq_some_iff.mp hi
 rw [<- he, List.set_getElem_self]
def inAl (al s : Str) : Prop := ∀ c ∈ s.cps.toList, c ∈ al.cps.toList
def alN : Str := "abcdefghijklmnopqrstuvwxyz0123456789"
def alW : Str := "0123456789abcdef-_"
def alS : Str := "#."
theorem inAl_ok {al s : Str} (ha : PyData.strOk al = true) (h : inAl al s) : PyData.strOk s = true := by
 unfold PyData.strOk at *
 rw [Array.all_eq_true_iff_forall_mem] at *
 exact fun c hc => ha c (Array.mem_toList_iff.mp (h c (Array.mem_toList_iff.mpr hc)))
theorem ixA {al : Str} {m : Int} (h0 : 0 < m) (hl : (al.length : Int) = m) (hz : m <= 100) (v : Int) : ∃ c, c ∈ al.cps.toList /\ fIxS (.str al) (.int (v % m)) = some (.str ⟨#[c]⟩) := by
 have hk0 := Int.emod_nonneg v (show m ≠ 0 by omega)
 have hk1 := Int.emod_lt_of_pos v h0
 have e : al.cps.toList.length = al.length := rfl
 have hk : (v % m).toNat < al.cps.toList.length := by omega
 refine ⟨al.cps.toList[(v % m).toNat], List.getElem_mem hk, ?_⟩
 show (if al.length <= sizeLine then _ else _) = _
 rw [if_pos (sz (by omega))]
 unfold atI ixN
 rw [if_pos hk0, if_pos (by omega)]
 show (al.cps.toList[(v % m).toNat]?).map _ = _
 rw [List.getElem?_eq_getElem hk]; rfl
theorem catC {s : Str} {c : Nat} (h : s.length <= 100) : fCatS (.str s) (.str ⟨#[c]⟩) = some (.str (s ++ (⟨#[c]⟩ : Str))) := by
 show (if s.length + 1 <= sizeLine then _ else _) = _
 rw [if_pos (sz (by omega))]
theorem cat_len (s : Str) (c : Nat) : (s ++ (⟨#[c]⟩ : Str)).length = s.length + 1 := by
 show (s.cps ++ #[c]).size = _
 rw [Array.size_append]; rfl
theorem cat_in {al s : Str} {c : Nat} (h : inAl al s) (hc : c ∈ al.cps.toList) : inAl al (s ++ (⟨#[c]⟩ : Str)) := by
 intro x hx
 have : x ∈ (s.cps ++ #[c]).toList := hx
 rw [Array.toList_append] at this
 rcases List.mem_append.mp this with z | z
 ·exact h x z
 ·rw [List.mem_singleton.mp z]; exact hc
theorem in_nil (al : Str) : inAl al "" := by
 intro c hc
 have : (Str.cps "").toList = [] := by decide +kernel
 rw [this] at hc; cases hc
def sgB (al : Str) (m : Int) : DB := dSeq (dAsg (dOp fCatS (dVar 1) (dOp fIxS (dC (.str al)) (dOp fMod (dVar 0) (dC (.int m))))) (dN 1)) (dAsg (dOp fDiv (dVar 0) (dC (.int m))) (dN 0))
theorem sg_loop {al : Str} {m : Int} (h0 : 0 < m) (hl : (al.length : Int) = m) (hz : m <= 100) (n : Int) (n0 : 0 <= n) (n1 : n <= 50) (v : Int) : ∃ (u : Int) (s : Str) (o : Option L), nM o /\ (s.length : Int) = n /\ inAl al s /\
  dLoop (dN 3) (sgB al m) ((rng 0 n.toNat).map PyData.int) [some (.d (.int v)), some (.d (.str "")), some (.d (.int n)), none] = some (.nx [some (.d (.int u)), some (.d (.str s)), some (.d (.int n)), o]) := by
 let st : Int -> Str -> Option L -> DS := fun u s o => [some (.d (.int u)), some (.d (.str s)), some (.d (.int n)), o]
 have lp : ∃ τ', dLoop (dN 3) (sgB al m) ((List.range n.toNat).map fun (k : Nat) => PyData.int (k : Int)) (st v "" none) = some (.nx τ') /\ ∃ u s o, nM o /\ s.length = (List.range n.toNat).length /\ inAl al s /\ τ' = st u s o := by
  refine loop_pre (fun (pre : List Nat) τ => ∃ u s o, nM o /\ s.length = pre.length /\ inAl al s /\ τ = st u s o) ⟨v, "", none, nM_none, by decide +kernel, in_nil al, rfl⟩ ?_
  rintro pre k post τ hp ⟨u, s, o, ho, hr, hall, rfl⟩
  have hl' := split_len hp
  rw [List.length_range] at hl'
  let K : Option L := some (.d (.int (k : Int)))
  obtain ⟨c, hc, ej⟩ := ixA h0 hl hz u
  let s' := s ++ (⟨#[c]⟩ : Str)
  have s1 : dAsg (dOp fCatS (dVar 1) (dOp fIxS (dC (.str al)) (dOp fMod (dVar 0) (dC (.int m))))) (dN 1) (st u s K) = some (.nx (st u s' K)) :=
   asg_nx (d := .str s') (τ1 := st u s K) (op2 (x := .str s) (y := .str ⟨#[c]⟩) (τ1 := st u s K) rfl (op2 (x := .str al) (y := .int (u % m)) (τ1 := st u s K) rfl (op2 (x := .int u) (y := .int m) (τ1 := st u s K) rfl rfl (modI h0)) ej) (catC (by omega))) rfl
  have s2 : dAsg (dOp fDiv (dVar 0) (dC (.int m))) (dN 0) (st u s' K) = some (.nx (st (u / m) s' K)) :=
   asg_nx (d := .int (u / m)) (τ1 := st u s' K) (op2 (x := .int u) (y := .int m) (τ1 := st u s' K) rfl rfl (divI h0 (by omega))) rfl
  exact ⟨st u s K, _, dN_eq (o := o) rfl ho, (seq_nx s1).trans s2, u / m, s', K, nM_d, by rw [cat_len, List.length_append, hr]; rfl, cat_in hall hc, rfl⟩
 obtain ⟨τ', e, u, s, o, ho, hl, hall, rfl⟩ := lp
 rw [<- rng_nat] at e
 rw [List.length_range] at hl
 exact ⟨u, s, o, ho, by omega, hall, e⟩
theorem name_of_eq (v : Int) : ∃ (t : Tx) (w : Int) (ls : List L), m_L_name_of [.d (.int v)] = some (.tuple [eT t, .int w], ls) /\ 1 <= t.1.length /\ t.1.length <= 8 /\ inAl alN t.1 := by
 obtain ⟨u, s, o, ho, hl, ha, e⟩ := sg_loop (al := alN) (m := 36) (by decide) (by decide +kernel) (by decide) (1 + v % 8) (by omega) (by omega) (v / 8)
 refine ⟨⟨s, inAl_ok (by decide +kernel) ha⟩, u, [.d (.int v)], ?_, by show 1 <= s.length; omega, by show s.length <= 8; omega, ha⟩
 unfold m_L_name_of
 let I : Int -> Option L := fun i => some (.d (.int i))
 let T : Option L := some (.d (.str ""))
 refine fun_rt (τ := [I u, some (.d (.str s)), I (1 + v % 8), o]) ?_ rfl rfl
 have z2 : dAsg (dOp fAdd (dC (.int 1)) (dOp fMod (dVar 0) (dC (.int 8)))) (dN 2) [I v, T, none, none] = some (.nx [I v, T, I (1 + v % 8), none]) := by
  have d := modI (i := v) (j := 8) (by decide)
  simp only [I, T, d, dFun, dSeq, dAsg, dN, dRet, dNil, dIfS, dPar, dVar, dC, dOp, fI, fAdd, fSub, fLt, fLe, fGt, fGe, fIxT, dTest, dANil, dACons, allD, dTup, dApp, dCall, dCallC, fin_nil, fin_d, fin_c, fin_m, dIxC, dLenC, atI, ixN, sz', Option.bind_some, Option.map_some, List.map_cons, List.map_nil, List.cons_append, List.nil_append, List.length_cons, List.length_nil, List.getElem?_cons_zero, List.getElem?_cons_succ, List.set_cons_zero, List.set_cons_succ, List.replicate_succ, List.replicate_zero, if_true, if_false, reduceIte, Bool.false_eq_true, Nat.reduceAdd, Nat.reduceLT, Int.reduceAdd, Int.reduceLT, Int.reduceLE, Int.reduceToNat, Nat.reduceLeDiff, and_self, Int.toNat_zero, Int.le_refl, Int.natCast_add, Int.cast_ofNat_Int, Nat.zero_add]
 have z3 : dAsg (dOp fDiv (dVar 0) (dC (.int 8))) (dN 0) [I v, T, I (1 + v % 8), none] = some (.nx [I (v / 8), T, I (1 + v % 8), none]) := by
  have d := divI (i := v) (j := 8) (by decide) (by decide)
  simp only [I, T, d, dFun, dSeq, dAsg, dN, dRet, dNil, dIfS, dPar, dVar, dC, dOp, fI, fAdd, fSub, fLt, fLe, fGt, fGe, fIxT, dTest, dANil, dACons, allD, dTup, dApp, dCall, dCallC, fin_nil, fin_d, fin_c, fin_m, dIxC, dLenC, atI, ixN, sz', Option.bind_some, Option.map_some, List.map_cons, List.map_nil, List.cons_append, List.nil_append, List.length_cons, List.length_nil, List.getElem?_cons_zero, List.getElem?_cons_succ, List.set_cons_zero, List.set_cons_succ, List.replicate_succ, List.replicate_zero, if_true, if_false, reduceIte, Bool.false_eq_true, Nat.reduceAdd, Nat.reduceLT, Int.reduceAdd, Int.reduceLT, Int.reduceLE, Int.reduceToNat, Nat.reduceLeDiff, and_self, Int.toNat_zero, Int.le_refl, Int.natCast_add, Int.cast_ofNat_Int, Nat.zero_add]
 refine (seq_nx rfl).trans ((seq_nx z2).trans ((seq_nx z3).trans ?_))
 exact (seq_nx ((for_eq (r1_eq (n := 1 + v % 8) (τ1 := [I (v / 8), T, I (1 + v % 8), none]) rfl (by omega) (by omega))).trans e)).trans rfl
theorem word_of_eq (v : Int) : ∃ (t : Tx) (w : Int) (ls : List L), m_L_word_of [.d (.int v)] = some (.tuple [eT t, .int w], ls) /\ t.1.length <= 6 /\ inAl alW t.1 := by
 obtain ⟨u, s, o, ho, hl, ha, e⟩ := sg_loop (al := alW) (m := 18) (by decide) (by decide +kernel) (by decide) (v % 7) (by omega) (by omega) (v / 7)
 refine ⟨⟨s, inAl_ok (by decide +kernel) ha⟩, u, [.d (.int v)], ?_, by show s.length <= 6; omega, ha⟩
 unfold m_L_word_of
 let I : Int -> Option L := fun i => some (.d (.int i))
 let T : Option L := some (.d (.str ""))
 refine fun_rt (τ := [I u, some (.d (.str s)), I (v % 7), o]) ?_ rfl rfl
 have z2 : dAsg (dOp fMod (dVar 0) (dC (.int 7))) (dN 2) [I v, T, none, none] = some (.nx [I v, T, I (v % 7), none]) := by
  have d := modI (i := v) (j := 7) (by decide)
  simp only [I, T, d, dFun, dSeq, dAsg, dN, dRet, dNil, dIfS, dPar, dVar, dC, dOp, fI, fAdd, fSub, fLt, fLe, fGt, fGe, fIxT, dTest, dANil, dACons, allD, dTup, dApp, dCall, dCallC, fin_nil, fin_d, fin_c, fin_m, dIxC, dLenC, atI, ixN, sz', Option.bind_some, Option.map_some, List.map_cons, List.map_nil, List.cons_append, List.nil_append, List.length_cons, List.length_nil, List.getElem?_cons_zero, List.getElem?_cons_succ, List.set_cons_zero, List.set_cons_succ, List.replicate_succ, List.replicate_zero, if_true, if_false, reduceIte, Bool.false_eq_true, Nat.reduceAdd, Nat.reduceLT, Int.reduceAdd, Int.reduceLT, Int.reduceLE, Int.reduceToNat, Nat.reduceLeDiff, and_self, Int.toNat_zero, Int.le_refl, Int.natCast_add, Int.cast_ofNat_Int, Nat.zero_add]
 have z3 : dAsg (dOp fDiv (dVar 0) (dC (.int 7))) (dN 0) [I v, T, I (v % 7), none] = some (.nx [I (v / 7), T, I (v % 7), none]) := by
  have d := divI (i := v) (j := 7) (by decide) (by decide)
  simp only [I, T, d, dFun, dSeq, dAsg, dN, dRet, dNil, dIfS, dPar, dVar, dC, dOp, fI, fAdd, fSub, fLt, fLe, fGt, fGe, fIxT, dTest, dANil, dACons, allD, dTup, dApp, dCall, dCallC, fin_nil, fin_d, fin_c, fin_m, dIxC, dLenC, atI, ixN, sz', Option.bind_some, Option.map_some, List.map_cons, List.map_nil, List.cons_append, List.nil_append, List.length_cons, List.length_nil, List.getElem?_cons_zero, List.getElem?_cons_succ, List.set_cons_zero, List.set_cons_succ, List.replicate_succ, List.replicate_zero, if_true, if_false, reduceIte, Bool.false_eq_true, Nat.reduceAdd, Nat.reduceLT, Int.reduceAdd, Int.reduceLT, Int.reduceLE, Int.reduceToNat, Nat.reduceLeDiff, and_self, Int.toNat_zero, Int.le_refl, Int.natCast_add, Int.cast_ofNat_Int, Nat.zero_add]
 refine (seq_nx rfl).trans ((seq_nx z2).trans ((seq_nx z3).trans ?_))
 exact (seq_nx ((for_eq (r1_eq (n := v % 7) (τ1 := [I (v / 7), T, I (v % 7), none]) rfl (by omega) (by omega))).trans e)).trans rfl
theorem step_of_eq (v : Int) : ∃ (x w : Int) (ls : List L), m_L_step_of [.d (.int v)] = some (.tuple [.int x, .int w], ls) /\ -60 <= x /\ x <= 60 := by
 have d1 := modI (i := v) (j := 6) (by decide)
 have d2 := divI (i := v) (j := 6) (by decide) (by decide)
 have d3 := modI (i := v / 6) (j := 121) (by decide)
 have d4 := modI (i := v / 6) (j := 12) (by decide)
 have d5 := divI (i := v) (j := 726) (by decide) (by decide)
 have d6 := divI (i := v) (j := 72) (by decide) (by decide)
 by_cases h : v % 6 = 0
 ·refine ⟨v / 6 % 121 - 60, v / 726, [.d (.int v)], ?_, by omega, by omega⟩
  have q : fEq (.int (v % 6)) (.int 0) = some (.bool true) := by rw [encI.fEq, decide_eq_true h]
  simp only [m_L_step_of, d1, d2, d3, d5, q, dFun, dSeq, dAsg, dN, dRet, dNil, dIfS, dPar, dVar, dC, dOp, fI, fAdd, fSub, fLt, fLe, fGt, fGe, fIxT, dTest, dANil, dACons, allD, dTup, dApp, dCall, dCallC, fin_nil, fin_d, fin_c, fin_m, dIxC, dLenC, atI, ixN, sz', Option.bind_some, Option.map_some, List.map_cons, List.map_nil, List.cons_append, List.nil_append, List.length_cons, List.length_nil, List.getElem?_cons_zero, List.getElem?_cons_succ, List.set_cons_zero, List.set_cons_succ, List.replicate_succ, List.replicate_zero, if_true, if_false, reduceIte, Bool.false_eq_true, Nat.reduceAdd, Nat.reduceLT, Int.reduceAdd, Int.reduceLT, Int.reduceLE, Int.reduceToNat, Nat.reduceLeDiff, and_self, Int.toNat_zero, Int.le_refl, Int.natCast_add, Int.cast_ofNat_Int, Nat.zero_add]
 ·refine ⟨v / 6 % 12 - 3, v / 72, [.d (.int v)], ?_, by omega, by omega⟩
  have q : fEq (.int (v % 6)) (.int 0) = some (.bool false) := by rw [encI.fEq, decide_eq_false h]
  simp only [m_L_step_of, d1, d2, d4, d6, q, dFun, dSeq, dAsg, dN, dRet, dNil, dIfS, dPar, dVar, dC, dOp, fI, fAdd, fSub, fLt, fLe, fGt, fGe, fIxT, dTest, dANil, dACons, allD, dTup, dApp, dCall, dCallC, fin_nil, fin_d, fin_c, fin_m, dIxC, dLenC, atI, ixN, sz', Option.bind_some, Option.map_some, List.map_cons, List.map_nil, List.cons_append, List.nil_append, List.length_cons, List.length_nil, List.getElem?_cons_zero, List.getElem?_cons_succ, List.set_cons_zero, List.set_cons_succ, List.replicate_succ, List.replicate_zero, if_true, if_false, reduceIte, Bool.false_eq_true, Nat.reduceAdd, Nat.reduceLT, Int.reduceAdd, Int.reduceLT, Int.reduceLE, Int.reduceToNat, Nat.reduceLeDiff, and_self, Int.toNat_zero, Int.le_refl, Int.natCast_add, Int.cast_ofNat_Int, Nat.zero_add]
theorem size_of_eq (v m : Int) (m0 : 5 <= m) (m1 : m <= 100) : ∃ (x w : Int) (ls : List L), m_L_size_of [.d (.int v), .d (.int m)] = some (.tuple [.int x, .int w], ls) /\ 1 <= x /\ x <= m := by
 have d1 := modI (i := v) (j := 8) (by decide)
 have d2 := divI (i := v) (j := 8) (by decide) (by decide)
 have d3 := modI (i := v / 8) (j := m) (by omega)
 have d4 := divI (i := v / 8) (j := m) (by omega) (by omega)
 have d5 := modI (i := v / 8) (j := 5) (by decide)
 have d6 := divI (i := v) (j := 40) (by decide) (by decide)
 have g0 := Int.emod_nonneg (v / 8) (show m ≠ 0 by omega)
 have g1 := Int.emod_lt_of_pos (v / 8) (show 0 < m by omega)
 by_cases h : v % 8 = 0
 ·refine ⟨1 + v / 8 % m, v / 8 / m, [.d (.int v), .d (.int m)], ?_, by omega, by omega⟩
  have q : fEq (.int (v % 8)) (.int 0) = some (.bool true) := by rw [encI.fEq, decide_eq_true h]
  simp only [m_L_size_of, d1, d2, d3, d4, q, dFun, dSeq, dAsg, dN, dRet, dNil, dIfS, dPar, dVar, dC, dOp, fI, fAdd, fSub, fLt, fLe, fGt, fGe, fIxT, dTest, dANil, dACons, allD, dTup, dApp, dCall, dCallC, fin_nil, fin_d, fin_c, fin_m, dIxC, dLenC, atI, ixN, sz', Option.bind_some, Option.map_some, List.map_cons, List.map_nil, List.cons_append, List.nil_append, List.length_cons, List.length_nil, List.getElem?_cons_zero, List.getElem?_cons_succ, List.set_cons_zero, List.set_cons_succ, List.replicate_succ, List.replicate_zero, if_true, if_false, reduceIte, Bool.false_eq_true, Nat.reduceAdd, Nat.reduceLT, Int.reduceAdd, Int.reduceLT, Int.reduceLE, Int.reduceToNat, Nat.reduceLeDiff, and_self, Int.toNat_zero, Int.le_refl, Int.natCast_add, Int.cast_ofNat_Int, Nat.zero_add]
 ·refine ⟨1 + v / 8 % 5, v / 40, [.d (.int v), .d (.int m)], ?_, by omega, by omega⟩
  have q : fEq (.int (v % 8)) (.int 0) = some (.bool false) := by rw [encI.fEq, decide_eq_false h]
  simp only [m_L_size_of, d1, d2, d5, d6, q, dFun, dSeq, dAsg, dN, dRet, dNil, dIfS, dPar, dVar, dC, dOp, fI, fAdd, fSub, fLt, fLe, fGt, fGe, fIxT, dTest, dANil, dACons, allD, dTup, dApp, dCall, dCallC, fin_nil, fin_d, fin_c, fin_m, dIxC, dLenC, atI, ixN, sz', Option.bind_some, Option.map_some, List.map_cons, List.map_nil, List.cons_append, List.nil_append, List.length_cons, List.length_nil, List.getElem?_cons_zero, List.getElem?_cons_succ, List.set_cons_zero, List.set_cons_succ, List.replicate_succ, List.replicate_zero, if_true, if_false, reduceIte, Bool.false_eq_true, Nat.reduceAdd, Nat.reduceLT, Int.reduceAdd, Int.reduceLT, Int.reduceLE, Int.reduceToNat, Nat.reduceLeDiff, and_self, Int.toNat_zero, Int.le_refl, Int.natCast_add, Int.cast_ofNat_Int, Nat.zero_add]
theorem paint_of_eq (v : Int) : ∃ (a b : Cl) (w : Int) (ls : List L), m_L_paint_of [.d (.int v)] = some (.tuple [ec a, ec b, .int w], ls) /\ OkF a /\ OkF b := by
 obtain ⟨a, u, l1, e1, oa⟩ := share_of_eq v
 obtain ⟨b, w, l2, e2, ob⟩ := share_of_eq (u / 3)
 have d1 := modI (i := u) (j := 3) (by decide)
 have d2 := divI (i := u) (j := 3) (by decide) (by decide)
 by_cases h : u % 3 = 0
 ·refine ⟨a, (1, 1), u / 3, [.d (.int v)], ?_, oa, ?_⟩
  ·have q : fEq (.int (u % 3)) (.int 0) = some (.bool true) := by rw [encI.fEq, decide_eq_true h]
   simp only [m_L_paint_of, e1, q, d1, d2, dFun, dSeq, dAsg, dN, dNew, dSetM, dRet, dRetM, dRetN, dExpr, dMt, gAppend, gExtend, gClear, dSetI, dNil, dIfS, dBrk, dCnt, dNever, dFor, dPar, dVar, dC, dOp, dUn, fI, fAdd, fSub, fLt, fLe, fGt, fGe, fNeg, isNo, fIsN, fNotN, fIxL, fIxT, dTest, dTAnd, dTOr, dTNot, dIf, dAnd, dOr, dNot, dChain, dANil, dACons, allD, dTup, dLst, dApp, dCall, dCallM, dCallC, dCallP, dAS, mkL, nMb, isM, isC, dBor, dBorF, dTBor, dYes, dIL, dIT, dR1, dR2, dGNil, dGCons, dGT, fin_nil, fin_d, fin_c, fin_m, fLen, f1, f2, fAbs, fMax2, fMin2, fInt1, fListOf, dRev, dIsi, dIxC, dLenC, atI, ixN, okM_none, okM_d, okM_c, okM_m, fixD, fixDs, sz', Option.bind_some, Option.bind_none, Option.map_some, Option.map_none, List.map_cons, List.map_nil, List.cons_append, List.nil_append, List.length_cons, List.length_nil, List.getElem?_cons_zero, List.getElem?_cons_succ, List.set_cons_zero, List.set_cons_succ, List.replicate_succ, List.replicate_zero, List.all_cons, List.all_nil, Bool.and_self, Bool.and_true, Bool.true_and, Bool.false_and, Bool.and_false, Bool.or_true, Bool.true_or, Bool.false_or, Bool.or_false, Bool.not_true, Bool.not_false, if_true, if_false, reduceIte, Bool.false_eq_true, Nat.reduceAdd, Nat.reduceLT, Nat.reduceSub, Nat.reduceMul, Int.reduceEq, Int.reduceSub, Int.reduceMul, Int.reducePow, Int.reduceDiv, Int.reduceMod, Nat.reduceLeDiff, Nat.reduceEqDiff, and_self, and_true, true_and, Int.natCast_add, Int.reduceAdd, Int.reduceLT, Int.reduceLE, Int.reduceToNat, Int.reduceNeg, Int.toNat_zero, Int.toNat_one, Int.zero_lt_one, Int.le_refl, Int.reduceNegSucc, Int.cast_ofNat_Int, Nat.zero_add, Nat.add_zero]
   rfl
  ·have := frm_ok (t := 1) (b := 1) (by decide) (by decide) (by decide) (by decide)
   rwa [show frm 1 1 = (1, 1) by decide] at this
 ·refine ⟨a, b, w, [.d (.int v)], ?_, oa, ob⟩
  have q : fEq (.int (u % 3)) (.int 0) = some (.bool false) := by rw [encI.fEq, decide_eq_false h]
  simp only [m_L_paint_of, e1, e2, q, d1, d2, dFun, dSeq, dAsg, dN, dNew, dSetM, dRet, dRetM, dRetN, dExpr, dMt, gAppend, gExtend, gClear, dSetI, dNil, dIfS, dBrk, dCnt, dNever, dFor, dPar, dVar, dC, dOp, dUn, fI, fAdd, fSub, fLt, fLe, fGt, fGe, fNeg, isNo, fIsN, fNotN, fIxL, fIxT, dTest, dTAnd, dTOr, dTNot, dIf, dAnd, dOr, dNot, dChain, dANil, dACons, allD, dTup, dLst, dApp, dCall, dCallM, dCallC, dCallP, dAS, mkL, nMb, isM, isC, dBor, dBorF, dTBor, dYes, dIL, dIT, dR1, dR2, dGNil, dGCons, dGT, fin_nil, fin_d, fin_c, fin_m, fLen, f1, f2, fAbs, fMax2, fMin2, fInt1, fListOf, dRev, dIsi, dIxC, dLenC, atI, ixN, okM_none, okM_d, okM_c, okM_m, fixD, fixDs, sz', Option.bind_some, Option.bind_none, Option.map_some, Option.map_none, List.map_cons, List.map_nil, List.cons_append, List.nil_append, List.length_cons, List.length_nil, List.getElem?_cons_zero, List.getElem?_cons_succ, List.set_cons_zero, List.set_cons_succ, List.replicate_succ, List.replicate_zero, List.all_cons, List.all_nil, Bool.and_self, Bool.and_true, Bool.true_and, Bool.false_and, Bool.and_false, Bool.or_true, Bool.true_or, Bool.false_or, Bool.or_false, Bool.not_true, Bool.not_false, if_true, if_false, reduceIte, Bool.false_eq_true, Nat.reduceAdd, Nat.reduceLT, Nat.reduceSub, Nat.reduceMul, Int.reduceEq, Int.reduceSub, Int.reduceMul, Int.reducePow, Int.reduceDiv, Int.reduceMod, Nat.reduceLeDiff, Nat.reduceEqDiff, and_self, and_true, true_and, Int.natCast_add, Int.reduceAdd, Int.reduceLT, Int.reduceLE, Int.reduceToNat, Int.reduceNeg, Int.toNat_zero, Int.toNat_one, Int.zero_lt_one, Int.le_refl, Int.reduceNegSucc, Int.cast_ofNat_Int, Nat.zero_add, Nat.add_zero]
theorem fixT : ∀ rs : List Tx, fixDs (rs.map eT) = true := encT.fixL
theorem stencil_of_eq (v : Int) : ∃ (R : List Tx) (w : Nat) (v' : Int) (ls : List L), m_L_stencil_of [.d (.int v)] = some (.tuple [.tuple (R.map eT), .int v'], ls) /\ 1 <= R.length /\ R.length <= 8 /\ 1 <= w /\ w <= 8 /\ ∀ r ∈ R, r.1.length = w /\ inAl alS r.1 := by
 generalize hw : (1 + v % 8 : Int) = W
 generalize hh : (1 + v / 8 % 8 : Int) = Hh
 have w1 : 1 <= W := by omega
 have w2 : W <= 8 := by omega
 have h1 : 1 <= Hh := by omega
 have h2 : Hh <= 8 := by omega
 let I : Int -> Option L := fun i => some (.d (.int i))
 let st : Int -> List Tx -> Option L -> Option L -> Option L -> DS := fun u R o4 o5 o6 => [I u, I W, I Hh, some (.m (R.map eT)), o4, o5, o6]
 let S : Str -> Option L := fun r => some (.d (.str r))
 let Bi : DB := dSeq (dAsg (dOp fCatS (dVar 5) (dOp fIxS (dC (.str "#.")) (dOp fMod (dVar 0) (dC (.int 2))))) (dN 5)) (dAsg (dOp fDiv (dVar 0) (dC (.int 2))) (dN 0))
 have inner : ∀ (u : Int) (R : List Tx) (o4 o6 : Option L), nM o6 -> ∃ τ', dLoop (dN 6) Bi ((List.range W.toNat).map fun (k : Nat) => PyData.int (k : Int)) (st u R o4 (S "") o6) = some (.nx τ') /\ ∃ u' r o, nM o /\ r.length = (List.range W.toNat).length /\ inAl alS r /\ τ' = st u' R o4 (S r) o := by
  intro u R o4 o6 n6
  refine loop_pre (fun (pre : List Nat) τ => ∃ u' r o, nM o /\ r.length = pre.length /\ inAl alS r /\ τ = st u' R o4 (S r) o) ⟨u, "", o6, n6, by decide +kernel, in_nil _, rfl⟩ ?_
  rintro pre k post τ hp ⟨u', r, o, ho, hr, hall, rfl⟩
  have hl := split_len hp
  rw [List.length_range] at hl
  let K : Option L := I (k : Int)
  let τ1 := st u' R o4 (S r) K
  obtain ⟨c, hc, ej⟩ := ixA (al := alS) (m := 2) (by decide) (by decide +kernel) (by decide) u'
  let r' := r ++ (⟨#[c]⟩ : Str)
  have s1 : dAsg (dOp fCatS (dVar 5) (dOp fIxS (dC (.str "#.")) (dOp fMod (dVar 0) (dC (.int 2))))) (dN 5) τ1 = some (.nx (st u' R o4 (S r') K)) :=
   asg_nx (d := .str r') (τ1 := τ1) (op2 (x := .str r) (y := .str ⟨#[c]⟩) (τ1 := τ1) rfl (op2 (x := .str "#.") (y := .int (u' % 2)) (τ1 := τ1) rfl (op2 (x := .int u') (y := .int 2) (τ1 := τ1) rfl rfl (modI (by decide))) ej) (catC (by omega))) rfl
  have s2 : dAsg (dOp fDiv (dVar 0) (dC (.int 2))) (dN 0) (st u' R o4 (S r') K) = some (.nx (st (u' / 2) R o4 (S r') K)) :=
   asg_nx (d := .int (u' / 2)) (τ1 := st u' R o4 (S r') K) (op2 (x := .int u') (y := .int 2) (τ1 := st u' R o4 (S r') K) rfl rfl (divI (by decide) (by decide))) rfl
  exact ⟨τ1, _, dN_eq (o := o) rfl ho, (seq_nx s1).trans s2, u' / 2, r', K, nM_d, by rw [cat_len, List.length_append, hr]; rfl, cat_in hall hc, rfl⟩
 have outer : ∃ τ', dLoop (dN 4) (dSeq (dAsg (dC (.str "")) (dN 5)) (dSeq (dFor (dR1 (dACons (dVar 1) dANil)) (dN 6) Bi) (dExpr (dMt 3 gAppend (dACons (dVar 5) dANil))))) ((List.range Hh.toNat).map fun (k : Nat) => PyData.int (k : Int)) (st (v / 64) [] none none none) = some (.nx τ') /\ ∃ u R o4 o5 o6, nM o4 /\ nM o5 /\ nM o6 /\ R.length = (List.range Hh.toNat).length /\ (∀ r ∈ R, r.1.length = W.toNat /\ inAl alS r.1) /\ τ' = st u R o4 o5 o6 := by
  refine loop_pre (fun (pre : List Nat) τ => ∃ u R o4 o5 o6, nM o4 /\ nM o5 /\ nM o6 /\ R.length = pre.length /\ (∀ r ∈ R, r.1.length = W.toNat /\ inAl alS r.1) /\ τ = st u R o4 o5 o6) ⟨v / 64, [], none, none, none, nM_none, nM_none, nM_none, rfl, (fun r hr => by cases hr), rfl⟩ ?_
  rintro pre k post τ hp ⟨u, R, o4, o5, o6, n4, n5, n6, hR, hall, rfl⟩
  have hl := split_len hp
  rw [List.length_range] at hl
  let K : Option L := I (k : Int)
  have s1 : dAsg (dC (.str "")) (dN 5) (st u R K o5 o6) = some (.nx (st u R K (S "") o6)) := asg_nx (d := .str "") (τ1 := st u R K o5 o6) rfl (dN_eq (o := o5) rfl n5)
  obtain ⟨τ', e, u', r, o, ho, hr, hal, rfl⟩ := inner u R K o6 n6
  rw [<- rng_nat] at e
  let rt : Tx := ⟨r, inAl_ok (by decide +kernel) hal⟩
  have s2 : dFor (dR1 (dACons (dVar 1) dANil)) (dN 6) Bi (st u R K (S "") o6) = some (.nx (st u' R K (S r) o)) := (for_eq (r1_eq (n := W) (τ1 := st u R K (S "") o6) rfl (by omega) (by omega))).trans e
  have s3 : dExpr (dMt 3 gAppend (dACons (dVar 5) dANil)) (st u' R K (S r) o) = some (.nx (st u' (R ++ [rt]) K (S r) o)) := by
   refine (appd (i := 3) (d := eT rt) (xs := R.map eT) (τ1 := st u' R K (S r) o) rfl rfl (by rw [List.length_map]; omega)).trans ?_
   show some (Out.nx [_, _, _, some (.m (R.map eT ++ [eT rt])), _, _, _]) = _
   rw [show R.map eT ++ [eT rt] = (R ++ [rt]).map eT by rw [List.map_append]; rfl]
  refine ⟨st u R K o5 o6, st u' (R ++ [rt]) K (S r) o, dN_eq (o := o4) rfl n4, (seq_nx s1).trans ((seq_nx s2).trans s3), u', R ++ [rt], K, S r, o, nM_d, nM_d, ho, by rw [List.length_append, List.length_append, hR]; rfl, fun x hx => ?_, rfl⟩
  rcases List.mem_append.mp hx with z | z
  ·exact hall x z
  ·rw [List.mem_singleton.mp z]
   rw [List.length_range] at hr
   exact ⟨hr, hal⟩
 obtain ⟨τ', e, u, R, o4, o5, o6, n4, n5, n6, hR, hall, rfl⟩ := outer
 rw [<- rng_nat] at e
 rw [List.length_range] at hR
 unfold m_L_stencil_of
 let s0 : DS := [I v, none, none, none, none, none, none]
 let s1 : DS := [I v, I W, none, none, none, none, none]
 let s2 : DS := [I v, I W, I Hh, none, none, none, none]
 let s3 : DS := [I (v / 64), I W, I Hh, none, none, none, none]
 have z1 : dAsg (dOp fAdd (dC (.int 1)) (dOp fMod (dVar 0) (dC (.int 8)))) (dN 1) s0 = some (.nx s1) :=
  asg_nx (d := .int W) (τ1 := s0) (op2 (x := .int 1) (y := .int (v % 8)) (τ1 := s0) rfl (op2 (x := .int v) (y := .int 8) (τ1 := s0) rfl rfl (modI (by decide))) (by rw [<- hw]; rfl)) rfl
 have z2 : dAsg (dOp fAdd (dC (.int 1)) (dOp fMod (dOp fDiv (dVar 0) (dC (.int 8))) (dC (.int 8)))) (dN 2) s1 = some (.nx s2) :=
  asg_nx (d := .int Hh) (τ1 := s1) (op2 (x := .int 1) (y := .int (v / 8 % 8)) (τ1 := s1) rfl (op2 (x := .int (v / 8)) (y := .int 8) (τ1 := s1) (op2 (x := .int v) (y := .int 8) (τ1 := s1) rfl rfl (divI (by decide) (by decide))) rfl (modI (by decide))) (by rw [<- hh]; rfl)) rfl
 have z3 : dAsg (dOp fDiv (dVar 0) (dC (.int 64))) (dN 0) s2 = some (.nx s3) :=
  asg_nx (d := .int (v / 64)) (τ1 := s2) (op2 (x := .int v) (y := .int 64) (τ1 := s2) rfl rfl (divI (by decide) (by decide))) rfl
 have z4 : dNew 1 3 s3 = some (.nx (st (v / 64) [] none none none)) := rfl
 refine ⟨R, W.toNat, u, _, fun_rt (τ := st u R o4 o5 o6) ?_ rfl rfl, by omega, by omega, by omega, by omega, hall⟩
 refine (seq_nx z1).trans ((seq_nx z2).trans ((seq_nx z3).trans ((seq_nx z4).trans ?_)))
 refine (seq_nx ((for_eq (r1_eq (n := Hh) (τ1 := st (v / 64) [] none none none) rfl (by omega) (by omega))).trans e)).trans (ret_rt (τ1 := st u R o4 o5 o6) ?_)
 let τd : DS := [I u, I W, I Hh, some (.d (.list (R.map eT))), o4, o5, o6]
 refine bor_eq (i := 3) (xs := R.map eT) (τ1 := τd) rfl ?_ ?_
 ·unfold dTup
  show ((dACons (dApp fTupOf (dACons (dVar 3) dANil)) (dACons (dVar 0) dANil) τd).bind _) = _
  rw [acc (app1 (d := .list (R.map eT)) (r := .tuple (R.map eT)) rfl rfl) (acc (τ1 := τd) (d := .int u) rfl rfl)]
  rfl
 ·show ((fixDs (R.map eT) && (true && true)) && (true && (true && (true && (true && (okM o4 && (okM o5 && (okM o6 && true)))))))) = true
  rw [fixT, okM_n n4, okM_n n5, okM_n n6]; rfl
def OkDz : Dz -> Prop
 | .plate w h a b => 1 <= w /\ w <= 12 /\ 1 <= h /\ h <= 12 /\ OkF a /\ OkF b
 | .band w h a b => -12 <= w /\ w <= 12 /\ -12 <= h /\ h <= 12 /\ OkF a /\ OkF b
 | .word t a b => t.1.length <= 6 /\ inAl alW t.1 /\ OkF a /\ OkF b
 | .stencil R a b => 1 <= R.length /\ R.length <= 8 /\ (∃ w, 1 <= w /\ w <= 8 /\ ∀ r ∈ R, r.1.length = w /\ inAl alS r.1) /\ OkF a /\ OkF b
 | .group => True
 | .glass a => OkF a
 | .window w h x y => 1 <= w /\ w <= 16 /\ 1 <= h /\ h <= 16 /\ -60 <= x /\ x <= 60 /\ -60 <= y /\ y <= 60
 | .turn q _ => 0 <= q /\ q <= 3
 | .tiles a b x y => 1 <= a /\ a <= 3 /\ 1 <= b /\ b <= 3 /\ -20 <= x /\ x <= 20 /\ -20 <= y /\ y <= 20
 | .mask => True
theorem inT (t : Tx) (ts : List Tx) : fIn false (eT t) (.tuple (ts.map eT)) = some (.bool (decide (t ∈ ts))) := by
 simp only [DL.fIn, encT.ok, encT.okL, encT.any, Bool.and_self, if_true, Bool.false_eq_true, if_false]
 exact congrArg (fun b => some (PyData.bool b)) (decide_eq_decide.mpr Iff.rfl)
theorem sk {i j : Nat} (hi : i < 10) (hj : j < 10) (h : i ≠ j) {a : DB} {τ : DS} (e : τ[0]? = some (some (.d (eT (kS i))))) : dIfS (dTest (dOp fEq (dVar 0) (dC (eT (kS j))))) a dNil τ = some (.nx τ) := by
 refine (ifs_f (τ1 := τ) (tst (op2 (x := eT (kS i)) (y := eT (kS j)) (τ1 := τ) (by unfold dVar; rw [e]) rfl ?_))).trans rfl
 rw [encT.fEq, decide_eq_false fun z => h (kS_inj hi hj z)]
theorem tk {i : Nat} {a : DB} {τ : DS} (e : τ[0]? = some (some (.d (eT (kS i))))) : dIfS (dTest (dOp fEq (dVar 0) (dC (eT (kS i))))) a dNil τ = a τ := by
 refine ifs_t (τ1 := τ) (tst (op2 (x := eT (kS i)) (y := eT (kS i)) (τ1 := τ) (by unfold dVar; rw [e]) rfl ?_))
 rw [encT.fEq, decide_eq_true rfl]
theorem data_of_eq {i : Nat} (hi : i < 10) (v : Int) : ∃ (d : Dz) (w : Int) (ls : List L), m_L_data_of [.d (eT (kS i)), .d (.int v)] = some (.tuple [eD d, .int w], ls) /\ kz d = i /\ OkDz d := by
 let I : Int -> Option L := fun i => some (.d (.int i))
 let K : Option L := some (.d (eT (kS i)))
 let N : Option L := none
 let LS : List L := [.d (eT (kS i)), .d (.int v)]
 let τ0 : DS := [K, I v, N, N, N, N, N, N, N, N, N]
 have g1 : dTest (dOp (fIn false) (dVar 0) (dTup (dACons (dC (.str "group")) (dACons (dC (.str "mask")) dANil)))) τ0 = some (decide (kS i ∈ [kS 4, kS 9]), τ0) :=
  tst (op2 (x := eT (kS i)) (y := .tuple ([kS 4, kS 9].map eT)) (τ1 := τ0) rfl rfl (inT _ _))
 have g0 : i ≠ 4 -> i ≠ 9 -> ∀ a : DB, dIfS (dTest (dOp (fIn false) (dVar 0) (dTup (dACons (dC (.str "group")) (dACons (dC (.str "mask")) dANil))))) a dNil τ0 = some (.nx τ0) := fun h4 h9 a => by
  refine (ifs_f (τ1 := τ0) (g1.trans ?_)).trans rfl
  rw [decide_eq_false]
  intro z
  rcases List.mem_cons.mp z with z | z
  ·exact h4 (kS_inj hi (by decide) z)
  ·exact h9 (kS_inj hi (by decide) (List.mem_singleton.mp z))
 have g2 : i = 4 \/ i = 9 -> m_L_data_of [.d (eT (kS i)), .d (.int v)] = some (.tuple [.tuple [], .int v], [.d (eT (kS i)), .d (.int v)]) := fun h => by
  unfold m_L_data_of
  refine fun_rt (τ := τ0) ((seq_rt ((ifs_t (τ1 := τ0) (g1.trans ?_)).trans rfl))) rfl rfl
  rw [decide_eq_true]
  rcases h with rfl | rfl
  ·exact List.mem_cons_self
  ·exact List.mem_cons_of_mem _ List.mem_cons_self
 have q1 : i = 4 -> ∃ (d : Dz) (w : Int) (ls : List L), m_L_data_of [.d (eT (kS i)), .d (.int v)] = some (.tuple [eD d, .int w], ls) /\ kz d = i /\ OkDz d := fun h => ⟨.group, v, _, g2 (.inl h), by rw [h]; rfl, trivial⟩
 have q2 : i = 9 -> ∃ (d : Dz) (w : Int) (ls : List L), m_L_data_of [.d (eT (kS i)), .d (.int v)] = some (.tuple [eD d, .int w], ls) /\ kz d = i /\ OkDz d := fun h => ⟨.mask, v, _, g2 (.inr h), by rw [h]; rfl, trivial⟩
 by_cases h4 : i = 4
 ·exact q1 h4
 by_cases h9 : i = 9
 ·exact q2 h9
 have G0 := g0 h4 h9
 by_cases h7 : i = 7
 ·subst h7
  have d1 := modI (i := v) (j := 4) (by decide)
  have d2 := divI (i := v) (j := 4) (by decide) (by decide)
  have d3 := modI (i := v / 4) (j := 2) (by decide)
  have d4 := divI (i := v) (j := 8) (by decide) (by decide)
  have d5 : fEq (.int (v / 4 % 2)) (.int 1) = some (.bool (decide (v / 4 % 2 = 1))) := encI.fEq _ _
  refine ⟨.turn (v % 4) (decide (v / 4 % 2 = 1)), v / 8, LS, ?_, rfl, by show 0 <= v % 4; omega, by show v % 4 <= 3; omega⟩
  unfold m_L_data_of
  refine fun_rt (τ := τ0) ((seq_nx (G0 _)).trans (seq_rt ((tk (i := 7) (τ := τ0) rfl).trans (ret_rt (τ1 := τ0) ?_)))) rfl rfl
  simp only [τ0, K, I, N, d1, d2, d3, d4, d5, eD, dFun, dSeq, dAsg, dN, dRet, dNil, dIfS, dPar, dVar, dC, dOp, fI, fAdd, fSub, fLt, fLe, fGt, fGe, fIxT, dTest, dANil, dACons, allD, dTup, dApp, dCall, dCallC, fin_nil, fin_d, fin_c, fin_m, dIxC, dLenC, atI, ixN, sz', Option.bind_some, Option.map_some, List.map_cons, List.map_nil, List.cons_append, List.nil_append, List.length_cons, List.length_nil, List.getElem?_cons_zero, List.getElem?_cons_succ, List.set_cons_zero, List.set_cons_succ, List.replicate_succ, List.replicate_zero, if_true, if_false, reduceIte, Bool.false_eq_true, Nat.reduceAdd, Nat.reduceLT, Int.reduceAdd, Int.reduceLT, Int.reduceLE, Int.reduceToNat, Nat.reduceLeDiff, and_self, Int.toNat_zero, Int.le_refl, Int.natCast_add, Int.cast_ofNat_Int, Nat.zero_add]
 have G1 : ∀ a : DB, dIfS (dTest (dOp fEq (dVar 0) (dC (.str "turn")))) a dNil τ0 = some (.nx τ0) := fun a => sk hi (j := 7) (by decide) h7 rfl
 by_cases h8 : i = 8
 ·subst h8
  have d1 := modI (i := v) (j := 3) (by decide)
  have d2 := divI (i := v) (j := 3) (by decide) (by decide)
  have d3 := modI (i := v / 3) (j := 3) (by decide)
  have d4 := divI (i := v) (j := 9) (by decide) (by decide)
  have d5 := modI (i := v / 9) (j := 41) (by decide)
  have d6 := divI (i := v) (j := 369) (by decide) (by decide)
  have d7 := modI (i := v / 369) (j := 41) (by decide)
  have d8 := divI (i := v) (j := 15129) (by decide) (by decide)
  have d9 := modI (i := v / 15129) (j := 4) (by decide)
  have da := divI (i := v) (j := 60516) (by decide) (by decide)
  generalize ha : 1 + v % 3 = a
  generalize hb : 1 + v / 3 % 3 = b
  generalize hx : v / 9 % 41 - 20 = x
  generalize hy : v / 369 % 41 - 20 = y
  have db := modI (i := x) (j := 7) (by decide)
  have dc := modI (i := y) (j := 7) (by decide)
  let T : Int -> Int -> Option L := fun x y => some (.d (.tuple [.int a, .int b, .int x, .int y]))
  let τ1 : Int -> Int -> DS := fun x y => [K, I v, T x y, N, N, N, N, N, N, N, N]
  have s1 : dAsg (dTup (dACons (dOp fAdd (dC (.int 1)) (dOp fMod (dVar 1) (dC (.int 3)))) (dACons (dOp fAdd (dC (.int 1)) (dOp fMod (dOp fDiv (dVar 1) (dC (.int 3))) (dC (.int 3)))) (dACons (dOp fSub (dOp fMod (dOp fDiv (dVar 1) (dC (.int 9))) (dC (.int 41))) (dC (.int 20))) (dACons (dOp fSub (dOp fMod (dOp fDiv (dVar 1) (dC (.int 369))) (dC (.int 41))) (dC (.int 20))) dANil))))) (dN 2) τ0 = some (.nx (τ1 x y)) := by
   simp only [τ0, τ1, T, K, I, N, d1, d2, d3, d4, d5, d6, d7, ha, hb, hx, hy, dFun, dSeq, dAsg, dN, dRet, dNil, dIfS, dPar, dVar, dC, dOp, fI, fAdd, fSub, fLt, fLe, fGt, fGe, fIxT, dTest, dANil, dACons, allD, dTup, dApp, dCall, dCallC, fin_nil, fin_d, fin_c, fin_m, dIxC, dLenC, atI, ixN, sz', Option.bind_some, Option.map_some, List.map_cons, List.map_nil, List.cons_append, List.nil_append, List.length_cons, List.length_nil, List.getElem?_cons_zero, List.getElem?_cons_succ, List.set_cons_zero, List.set_cons_succ, List.replicate_succ, List.replicate_zero, if_true, if_false, reduceIte, Bool.false_eq_true, Nat.reduceAdd, Nat.reduceLT, Int.reduceAdd, Int.reduceLT, Int.reduceLE, Int.reduceToNat, Nat.reduceLeDiff, and_self, Int.toNat_zero, Int.le_refl, Int.natCast_add, Int.cast_ofNat_Int, Nat.zero_add]
  have fin : ∀ x y : Int, dRet (dTup (dACons (dVar 2) (dACons (dOp fDiv (dVar 1) (dC (.int 60516))) dANil))) (τ1 x y) = some (.rt (.tuple [.tuple [.int a, .int b, .int x, .int y], .int (v / 60516)]) (τ1 x y)) := fun x y => by
   simp only [τ0, τ1, T, K, I, N, da, dFun, dSeq, dAsg, dN, dRet, dNil, dIfS, dPar, dVar, dC, dOp, fI, fAdd, fSub, fLt, fLe, fGt, fGe, fIxT, dTest, dANil, dACons, allD, dTup, dApp, dCall, dCallC, fin_nil, fin_d, fin_c, fin_m, dIxC, dLenC, atI, ixN, sz', Option.bind_some, Option.map_some, List.map_cons, List.map_nil, List.cons_append, List.nil_append, List.length_cons, List.length_nil, List.getElem?_cons_zero, List.getElem?_cons_succ, List.set_cons_zero, List.set_cons_succ, List.replicate_succ, List.replicate_zero, if_true, if_false, reduceIte, Bool.false_eq_true, Nat.reduceAdd, Nat.reduceLT, Int.reduceAdd, Int.reduceLT, Int.reduceLE, Int.reduceToNat, Nat.reduceLeDiff, and_self, Int.toNat_zero, Int.le_refl, Int.natCast_add, Int.cast_ofNat_Int, Nat.zero_add]
  by_cases hp : v / 15129 % 4 > 0
  ·refine ⟨.tiles a b (x % 7) (y % 7), v / 60516, LS, ?_, rfl, ?_⟩
   ·unfold m_L_data_of
    refine fun_rt (τ := τ1 (x % 7) (y % 7)) ((seq_nx (G0 _)).trans ((seq_nx (G1 _)).trans (seq_rt ((tk (i := 8) (τ := τ0) rfl).trans ((seq_nx s1).trans ((seq_nx (τ1 := τ1 (x % 7) (y % 7)) ?_).trans (fin _ _))))))) rfl rfl
    refine (ifs_t (τ1 := τ1 x y) ?_).trans ?_
    ·simp only [τ1, T, K, I, N, d8, d9, hp, decide_true, dFun, dSeq, dAsg, dN, dRet, dNil, dIfS, dPar, dVar, dC, dOp, fI, fAdd, fSub, fLt, fLe, fGt, fGe, fIxT, dTest, dANil, dACons, allD, dTup, dApp, dCall, dCallC, fin_nil, fin_d, fin_c, fin_m, dIxC, dLenC, atI, ixN, sz', Option.bind_some, Option.map_some, List.map_cons, List.map_nil, List.cons_append, List.nil_append, List.length_cons, List.length_nil, List.getElem?_cons_zero, List.getElem?_cons_succ, List.set_cons_zero, List.set_cons_succ, List.replicate_succ, List.replicate_zero, if_true, if_false, reduceIte, Bool.false_eq_true, Nat.reduceAdd, Nat.reduceLT, Int.reduceAdd, Int.reduceLT, Int.reduceLE, Int.reduceToNat, Nat.reduceLeDiff, and_self, Int.toNat_zero, Int.le_refl, Int.natCast_add, Int.cast_ofNat_Int, Nat.zero_add]
    ·have e1 : dSlT (dVar 2) dNoP (dPt (dC (.int 2))) (τ1 x y) = some (.tuple [.int a, .int b], τ1 x y) := rfl
     refine asg_nx (d := .tuple [.int a, .int b, .int (x % 7), .int (y % 7)]) (τ1 := τ1 x y) (op2 e1 (y := .tuple [.int (x % 7), .int (y % 7)]) (τ2 := τ1 x y) ?_ rfl) rfl
     simp only [τ1, T, K, I, N, db, dc, dFun, dSeq, dAsg, dN, dRet, dNil, dIfS, dPar, dVar, dC, dOp, fI, fAdd, fSub, fLt, fLe, fGt, fGe, fIxT, dTest, dANil, dACons, allD, dTup, dApp, dCall, dCallC, fin_nil, fin_d, fin_c, fin_m, dIxC, dLenC, atI, ixN, sz', Option.bind_some, Option.map_some, List.map_cons, List.map_nil, List.cons_append, List.nil_append, List.length_cons, List.length_nil, List.getElem?_cons_zero, List.getElem?_cons_succ, List.set_cons_zero, List.set_cons_succ, List.replicate_succ, List.replicate_zero, if_true, if_false, reduceIte, Bool.false_eq_true, Nat.reduceAdd, Nat.reduceLT, Int.reduceAdd, Int.reduceLT, Int.reduceLE, Int.reduceToNat, Nat.reduceLeDiff, and_self, Int.toNat_zero, Int.le_refl, Int.natCast_add, Int.cast_ofNat_Int, Nat.zero_add]
   ·exact ⟨by omega, by omega, by omega, by omega, by omega, by omega, by omega, by omega⟩
  ·refine ⟨.tiles a b x y, v / 60516, LS, ?_, rfl, ?_⟩
   ·unfold m_L_data_of
    refine fun_rt (τ := τ1 x y) ((seq_nx (G0 _)).trans ((seq_nx (G1 _)).trans (seq_rt ((tk (i := 8) (τ := τ0) rfl).trans ((seq_nx s1).trans ((seq_nx (τ1 := τ1 x y) ?_).trans (fin _ _))))))) rfl rfl
    refine (ifs_f (τ1 := τ1 x y) ?_).trans rfl
    simp only [τ1, T, K, I, N, d8, d9, hp, decide_false, dFun, dSeq, dAsg, dN, dRet, dNil, dIfS, dPar, dVar, dC, dOp, fI, fAdd, fSub, fLt, fLe, fGt, fGe, fIxT, dTest, dANil, dACons, allD, dTup, dApp, dCall, dCallC, fin_nil, fin_d, fin_c, fin_m, dIxC, dLenC, atI, ixN, sz', Option.bind_some, Option.map_some, List.map_cons, List.map_nil, List.cons_append, List.nil_append, List.length_cons, List.length_nil, List.getElem?_cons_zero, List.getElem?_cons_succ, List.set_cons_zero, List.set_cons_succ, List.replicate_succ, List.replicate_zero, if_true, if_false, reduceIte, Bool.false_eq_true, Nat.reduceAdd, Nat.reduceLT, Int.reduceAdd, Int.reduceLT, Int.reduceLE, Int.reduceToNat, Nat.reduceLeDiff, and_self, Int.toNat_zero, Int.le_refl, Int.natCast_add, Int.cast_ofNat_Int, Nat.zero_add]
   ·exact ⟨by omega, by omega, by omega, by omega, by omega, by omega, by omega, by omega⟩
 have G2 : ∀ a : DB, dIfS (dTest (dOp fEq (dVar 0) (dC (.str "tiles")))) a dNil τ0 = some (.nx τ0) := fun a => sk hi (j := 8) (by decide) h8 rfl
 by_cases h6 : i = 6
 ·subst h6
  obtain ⟨w, v1, l1, e1, w0, w1⟩ := size_of_eq v 16 (by decide) (by decide)
  obtain ⟨h, v2, l2, e2, h0, h1⟩ := size_of_eq v1 16 (by decide) (by decide)
  obtain ⟨x, v3, l3, e3, x0, x1⟩ := step_of_eq v2
  obtain ⟨y, v4, l4, e4, y0, y1⟩ := step_of_eq v3
  refine ⟨.window w h x y, v4, LS, ?_, rfl, w0, w1, h0, h1, x0, x1, y0, y1⟩
  unfold m_L_data_of
  let st : Int -> Option L -> Option L -> Option L -> Option L -> DS := fun v a b c d => [K, I v, N, a, b, c, d, N, N, N, N]
  refine fun_rt (τ := st v4 (I w) (I h) (I x) (I y)) ((seq_nx (G0 _)).trans ((seq_nx (G1 _)).trans ((seq_nx (G2 _)).trans (seq_rt ((tk (i := 6) (τ := τ0) rfl).trans ?_))))) rfl rfl
  refine (seq_nx (τ1 := st v1 (I w) N N N) (asg_nx (call_eq (τ1 := τ0) (rs := [.d (.int v), .d (.int 16)]) (ds := [.int v, .int 16]) rfl rfl e1) rfl)).trans ?_
  refine (seq_nx (τ1 := st v2 (I w) (I h) N N) (asg_nx (call_eq (τ1 := st v1 (I w) N N N) (rs := [.d (.int v1), .d (.int 16)]) (ds := [.int v1, .int 16]) rfl rfl e2) rfl)).trans ?_
  refine (seq_nx (τ1 := st v3 (I w) (I h) (I x) N) (asg_nx (call_eq (τ1 := st v2 (I w) (I h) N N) (rs := [.d (.int v2)]) (ds := [.int v2]) rfl rfl e3) rfl)).trans ?_
  exact (seq_nx (τ1 := st v4 (I w) (I h) (I x) (I y)) (asg_nx (call_eq (τ1 := st v3 (I w) (I h) (I x) N) (rs := [.d (.int v3)]) (ds := [.int v3]) rfl rfl e4) rfl)).trans rfl
 have G3 : ∀ a : DB, dIfS (dTest (dOp fEq (dVar 0) (dC (.str "window")))) a dNil τ0 = some (.nx τ0) := fun a => sk hi (j := 6) (by decide) h6 rfl
 obtain ⟨p, q, v', lp, ep, op, oq⟩ := paint_of_eq v
 let A : Option L := some (.d (ec p))
 let B : Option L := some (.d (ec q))
 let st : Int -> Option L -> Option L -> Option L -> Option L -> DS := fun v a b c d => [K, I v, N, a, b, N, N, A, B, c, d]
 let τ1 := st v' N N N N
 have P : dAsg (dCall m_L_paint_of (dACons (dVar 1) dANil)) (dGT (dGCons (dN 7) (dGCons (dN 8) (dGCons (dN 1) dGNil)))) τ0 = some (.nx τ1) := asg_nx (call_eq (τ1 := τ0) (rs := [.d (.int v)]) (ds := [.int v]) rfl rfl ep) rfl
 by_cases h5 : i = 5
 ·subst h5
  refine ⟨.glass q, v', LS, ?_, rfl, oq⟩
  unfold m_L_data_of
  exact fun_rt (τ := τ1) ((seq_nx (G0 _)).trans ((seq_nx (G1 _)).trans ((seq_nx (G2 _)).trans ((seq_nx (G3 _)).trans ((seq_nx P).trans (seq_rt ((tk (i := 5) (τ := τ1) rfl).trans rfl))))))) rfl rfl
 have G5 : ∀ a : DB, dIfS (dTest (dOp fEq (dVar 0) (dC (.str "glass")))) a dNil τ1 = some (.nx τ1) := fun a => sk hi (j := 5) (by decide) h5 rfl
 by_cases hh : i = 0
 ·subst hh
  obtain ⟨w, v1, l1, e1, w0, w1⟩ := size_of_eq v' 12 (by decide) (by decide)
  obtain ⟨h, v2, l2, e2, h0, h1⟩ := size_of_eq v1 12 (by decide) (by decide)
  refine ⟨.plate w h p q, v2, LS, ?_, rfl, w0, w1, h0, h1, op, oq⟩
  unfold m_L_data_of
  refine fun_rt (τ := st v2 (I w) (I h) N N) ((seq_nx (G0 _)).trans ((seq_nx (G1 _)).trans ((seq_nx (G2 _)).trans ((seq_nx (G3 _)).trans ((seq_nx P).trans ((seq_nx (G5 _)).trans (seq_rt ((tk (i := 0) (τ := τ1) rfl).trans ?_)))))))) rfl rfl
  refine (seq_nx (τ1 := st v1 (I w) N N N) (asg_nx (call_eq (τ1 := τ1) (rs := [.d (.int v'), .d (.int 12)]) (ds := [.int v', .int 12]) rfl rfl e1) rfl)).trans ?_
  exact (seq_nx (τ1 := st v2 (I w) (I h) N N) (asg_nx (call_eq (τ1 := st v1 (I w) N N N) (rs := [.d (.int v1), .d (.int 12)]) (ds := [.int v1, .int 12]) rfl rfl e2) rfl)).trans rfl
 have G6 : ∀ a : DB, dIfS (dTest (dOp fEq (dVar 0) (dC (.str "plate")))) a dNil τ1 = some (.nx τ1) := fun a => sk hi (j := 0) (by decide) hh rfl
 by_cases h1 : i = 1
 ·subst h1
  have d1 := modI (i := v') (j := 25) (by decide)
  have d2 := divI (i := v') (j := 25) (by decide) (by decide)
  have d3 := modI (i := v' / 25) (j := 25) (by decide)
  have d4 := divI (i := v') (j := 625) (by decide) (by decide)
  refine ⟨.band (v' % 25 - 12) (v' / 25 % 25 - 12) p q, v' / 625, LS, ?_, rfl, by omega, by omega, by omega, by omega, op, oq⟩
  unfold m_L_data_of
  refine fun_rt (τ := τ1) ((seq_nx (G0 _)).trans ((seq_nx (G1 _)).trans ((seq_nx (G2 _)).trans ((seq_nx (G3 _)).trans ((seq_nx P).trans ((seq_nx (G5 _)).trans ((seq_nx (G6 _)).trans (seq_rt ((tk (i := 1) (τ := τ1) rfl).trans (ret_rt (τ1 := τ1) ?_)))))))))) rfl rfl
  simp only [τ1, st, K, I, N, A, B, d1, d2, d3, d4, eD, dFun, dSeq, dAsg, dN, dRet, dNil, dIfS, dPar, dVar, dC, dOp, fI, fAdd, fSub, fLt, fLe, fGt, fGe, fIxT, dTest, dANil, dACons, allD, dTup, dApp, dCall, dCallC, fin_nil, fin_d, fin_c, fin_m, dIxC, dLenC, atI, ixN, sz', Option.bind_some, Option.map_some, List.map_cons, List.map_nil, List.cons_append, List.nil_append, List.length_cons, List.length_nil, List.getElem?_cons_zero, List.getElem?_cons_succ, List.set_cons_zero, List.set_cons_succ, List.replicate_succ, List.replicate_zero, if_true, if_false, reduceIte, Bool.false_eq_true, Nat.reduceAdd, Nat.reduceLT, Int.reduceAdd, Int.reduceLT, Int.reduceLE, Int.reduceToNat, Nat.reduceLeDiff, and_self, Int.toNat_zero, Int.le_refl, Int.natCast_add, Int.cast_ofNat_Int, Nat.zero_add]
 have G7 : ∀ a : DB, dIfS (dTest (dOp fEq (dVar 0) (dC (.str "band")))) a dNil τ1 = some (.nx τ1) := fun a => sk hi (j := 1) (by decide) h1 rfl
 by_cases h2 : i = 2
 ·subst h2
  obtain ⟨t, v1, l1, e1, t6, ta⟩ := word_of_eq v'
  refine ⟨.word t p q, v1, LS, ?_, rfl, t6, ta, op, oq⟩
  unfold m_L_data_of
  refine fun_rt (τ := st v1 N N (some (.d (eT t))) N) ((seq_nx (G0 _)).trans ((seq_nx (G1 _)).trans ((seq_nx (G2 _)).trans ((seq_nx (G3 _)).trans ((seq_nx P).trans ((seq_nx (G5 _)).trans ((seq_nx (G6 _)).trans ((seq_nx (G7 _)).trans (seq_rt ((tk (i := 2) (τ := τ1) rfl).trans ?_)))))))))) rfl rfl
  exact (seq_nx (τ1 := st v1 N N (some (.d (eT t))) N) (asg_nx (call_eq (τ1 := τ1) (rs := [.d (.int v')]) (ds := [.int v']) rfl rfl e1) rfl)).trans rfl
 have G8 : ∀ a : DB, dIfS (dTest (dOp fEq (dVar 0) (dC (.str "word")))) a dNil τ1 = some (.nx τ1) := fun a => sk hi (j := 2) (by decide) h2 rfl
 have h3 : i = 3 := by omega
 subst h3
 obtain ⟨R, w, v1, l1, e1, r1, r2, w1, w2, hr⟩ := stencil_of_eq v'
 refine ⟨.stencil R p q, v1, LS, ?_, rfl, r1, r2, ⟨w, w1, w2, hr⟩, op, oq⟩
 unfold m_L_data_of
 refine fun_rt (τ := st v1 N N N (some (.d (.tuple (R.map eT))))) ((seq_nx (G0 _)).trans ((seq_nx (G1 _)).trans ((seq_nx (G2 _)).trans ((seq_nx (G3 _)).trans ((seq_nx P).trans ((seq_nx (G5 _)).trans ((seq_nx (G6 _)).trans ((seq_nx (G7 _)).trans ((seq_nx (G8 _)).trans ?_))))))))) rfl rfl
 exact (seq_nx (τ1 := st v1 N N N (some (.d (.tuple (R.map eT))))) (asg_nx (call_eq (τ1 := τ1) (rs := [.d (.int v')]) (ds := [.int v']) rfl rfl e1) rfl)).trans rfl
theorem lcg {α : Type} {enc : α -> PyData} {rs : List α} {τ : DS} {fr : List Nat} {it : DI} {ex : DS} {c : DT} {e : DX} (p : α -> Bool) (f : α -> PyData) (h : it τ = some (rs.map enc, τ)) (hz : rs.length <= 1000) (hm : (fr.all fun j => !isM τ j) = true) (hb : blkD 1 fr τ = none :: ex)
  (hc : ∀ r ∈ rs, c (some (.d (enc r)) :: ex) = some (p r, some (.d (enc r)) :: ex)) (he : ∀ r ∈ rs, p r = true -> e (some (.d (enc r)) :: ex) = some (f r, some (.d (enc r)) :: ex)) : dLC 1 fr it (dN 0) c e τ = some (.list ((rs.filter p).map f), τ) := by
 obtain ⟨τb, el⟩ := lc_list (enc := enc) (g := dN 0) (c := c) (e := e) (fun τ => ∃ o1, nM o1 /\ τ = o1 :: ex) p f (xs := rs) (acc := []) (τ := none :: ex) ⟨none, nM_none, rfl⟩ (by
  rintro x τ hx ⟨o1, n1, rfl⟩
  exact ⟨some (.d (enc x)) :: ex, some (.d (enc x)) :: ex, dN_eq (o := o1) rfl n1, hc x hx, fun _ => ⟨_, nM_d, rfl⟩, fun hp => ⟨some (.d (enc x)) :: ex, he x hx hp, _, nM_d, rfl⟩⟩)
 rw [List.nil_append] at el
 exact dlc_eq (ds := rs.map enc) (τ1 := τ) (τb := τb) h (by rw [List.length_map]; exact sz hz) hm (by rw [hb]; exact el)
theorem filt_true {α : Type} (l : List α) : l.filter (fun _ => true) = l := List.filter_eq_self.mpr fun _ _ => rfl
structure OkRow (r : Rz) : Prop where
 n1 : 1 <= r.n.1.length
 n8 : r.n.1.length <= 8
 na : inAl alN r.n.1
 x0 : -60 <= r.x
 x1 : r.x <= 60
 y0 : -60 <= r.y
 y1 : r.y <= 60
 d : OkDz r.d
def OkR : List Rz -> Prop
 | [] => True
 | r :: a => OkR a /\ OkRow r /\ (∀ q ∈ a, q.n ≠ r.n) /\ (r.h = t0 \/ ∃ q ∈ a, q.n = r.h)
def hsR : List Rz -> Tx -> List Tx
 | [], _ => []
 | r :: a, n => if r.n = n then n :: hsR a r.h else hsR a n
def fndZ (rs : List Rz) (t : Tx) : Option Rz := rs.find? fun r => decide (r.n = t)
theorem OkRow.ne {r : Rz} (h : OkRow r) : r.n ≠ t0 := fun z => by
 have := h.n1
 rw [z] at this
 exact absurd this (by decide +kernel)
theorem OkR.all {a : List Rz} (ok : OkR a) : ∀ r ∈ a, OkRow r := by
 induction a with
 | nil => intro r hr; cases hr
 | cons q a ih =>
  intro r hr
  rcases List.mem_cons.mp hr with h | h
  ·rw [h]; exact ok.2.1
  ·exact ih ok.1 r h
theorem OkR.suf {p q : List Rz} (ok : OkR (p ++ q)) : OkR q := by
 induction p with
 | nil => exact ok
 | cons x p ih => exact ih ok.1
theorem OkR.inj {a : List Rz} (ok : OkR a) : ∀ r ∈ a, ∀ q ∈ a, r.n = q.n -> r = q := by
 induction a with
 | nil => intro r hr; cases hr
 | cons x a ih =>
  intro r hr q hq e
  rcases List.mem_cons.mp hr with h1 | h1 <;> rcases List.mem_cons.mp hq with h2 | h2
  ·rw [h1, h2]
  ·rw [h1] at e; exact absurd e.symm (ok.2.2.1 q h2)
  ·rw [h2] at e; exact absurd e (ok.2.2.1 r h1)
  ·exact ih ok.1 r h1 q h2 e
theorem hsR_t0 : ∀ {a : List Rz}, OkR a -> hsR a t0 = []
 | [], _ => rfl
 | r :: a, ⟨h, o, _⟩ => by
  unfold hsR
  rw [if_neg o.ne]; exact hsR_t0 h
theorem hsR_mem : ∀ {a : List Rz} {n : Tx}, (∃ q ∈ a, q.n = n) -> ∃ l, hsR a n = n :: l
 | [], _, ⟨_, h, _⟩ => by cases h
 | r :: a, n, ⟨q, hq, e⟩ => by
  unfold hsR
  by_cases h : r.n = n
  ·rw [if_pos h]; exact ⟨_, rfl⟩
  ·rw [if_neg h]
   rcases List.mem_cons.mp hq with rfl | hq
   ·exact absurd e h
   ·exact hsR_mem ⟨q, hq, e⟩
theorem hsR_len : ∀ (a : List Rz) (n : Tx), (hsR a n).length <= a.length
 | [], _ => Nat.le_refl _
 | r :: a, n => by
  unfold hsR
  split
  ·have := hsR_len a r.h
   simp only [List.length_cons]; omega
  ·have := hsR_len a n
   simp only [List.length_cons]; omega
abbrev OkZ (rs : List Rz) : Prop := OkR rs.reverse
theorem fnd_some {rs : List Rz} (ok : OkZ rs) {r : Rz} (hr : r ∈ rs) : fndZ rs r.n = some r := by
 unfold fndZ
 cases e : rs.find? fun q => decide (q.n = r.n) with
 | none => exact absurd (List.find?_eq_none.mp e r hr) (by simp)
 | some q =>
  have h1 := List.find?_some e
  have h2 := List.mem_of_find?_eq_some e
  rw [OkR.inj ok q (List.mem_reverse.mpr h2) r (List.mem_reverse.mpr hr) (of_decide_eq_true h1)]
theorem fnd_none {rs : List Rz} {n : Tx} (h : ∀ q ∈ rs, q.n ≠ n) : fndZ rs n = none := List.find?_eq_none.mpr fun q hq => by simpa using h q hq
theorem fnd_t0 {rs : List Rz} (ok : OkZ rs) : fndZ rs t0 = none := fnd_none fun q hq => (OkR.all ok q (List.mem_reverse.mpr hq)).ne
def kvZ (rs : List Rz) : List (PyData × PyData) := rs.map fun r => (eT r.n, eZ r)
theorem get_kv (t : Tx) : ∀ rs : List Rz, getS (kvZ rs) t.1 = (fndZ rs t).map eZ
 | [] => rfl
 | r :: rs => by
  show (if r.n.1 = t.1 then some (eZ r) else getS (kvZ rs) t.1) = _
  unfold fndZ
  rw [List.find?_cons]
  by_cases h : r.n = t
  ·rw [if_pos (by rw [h]), decide_eq_true h]; rfl
  ·rw [if_neg (fun z => h (Subtype.ext z)), decide_eq_false h]; exact get_kv t rs
theorem put_kv {rs : List Rz} {r : Rz} (h : ∀ q ∈ rs, q.n ≠ r.n) : putS (kvZ rs) r.n.1 (eZ r) = kvZ (rs ++ [r]) := by
 unfold putS
 rw [get_kv, fnd_none h]
 show (if (none : Option PyData).isSome = true then _ else _) = _
 rw [if_neg (by decide)]
 unfold kvZ
 rw [List.map_append]; rfl
theorem split_ne {rs pre post : List Rz} {r : Rz} (ok : OkZ rs) (e : rs = pre ++ r :: post) : ∀ q ∈ pre, q.n ≠ r.n := by
 have : OkR (post.reverse ++ (r :: pre.reverse)) := by
  have := ok
  unfold OkZ at this
  rw [e] at this
  simpa using this
 exact fun q hq => this.suf.2.2.1 q (List.mem_reverse.mpr hq)
theorem fNeT (a b : Tx) : fNe (eT a) (eT b) = some (.bool (!decide (a = b))) := encT.fNe a b
theorem fEqT (a b : Tx) : fEq (eT a) (eT b) = some (.bool (decide (a = b))) := encT.fEq a b
theorem putX_nx {i : Nat} {e k : DX} {τ τ1 τ2 : DS} {d : PyData} {x : Str} {kv0 kvs : List (PyData × PyData)} (he : e τ = some (d, τ1)) (h1 : τ1[i]? = some (some (.g (.dict kv0)))) (hk : k τ1 = some (.str x, τ2)) (h2 : τ2[i]? = some (some (.g (.dict kvs)))) (hf : fixD d = true) (hz : kvs.length <= 1000) :
  dPutX i e k τ = some (.nx (τ2.set i (some (.g (.dict (putS kvs x d)))))) := by
 unfold dPutX
 rw [he]
 dsimp only [Option.bind]
 rw [h1]
 dsimp only
 rw [hk]
 dsimp only
 rw [h2]
 dsimp only
 rw [if_pos ⟨hf, Nat.lt_of_le_of_lt hz (by decide)⟩]
theorem inX_eq {i : Nat} {f : DX} {τ τ1 : DS} {x : Str} {kvs : List (PyData × PyData)} (hf : f τ = some (.str x, τ1)) (h : τ1[i]? = some (some (.g (.dict kvs)))) : dInX false f i τ = some (.bool (getS kvs x).isSome, τ1) := by
 unfold dInX
 rw [hf]
 dsimp only [Option.bind]
 rw [h]
 dsimp only
 rw [Bool.false_bne]
theorem ixX_eq {i : Nat} {f : DX} {τ τ1 : DS} {x : Str} {kv0 kvs : List (PyData × PyData)} {d : PyData} (h0 : τ[i]? = some (some (.g (.dict kv0)))) (hf : f τ = some (.str x, τ1)) (h : τ1[i]? = some (some (.g (.dict kvs)))) (hd : getS kvs x = some d) : dIxX i f τ = some (d, τ1) := by
 unfold dIxX
 rw [h0]
 dsimp only
 rw [hf]
 dsimp only [Option.bind]
 rw [h]
 dsimp only
 rw [hd]; rfl
theorem wh_of {c : DT} {b : DB} {n : Nat} {τ : DS} {o : Option Out} (h : dWh c b n τ = o) : dWhile (fun _ => n) c b τ = o := h
theorem up_eq {rs : List Rz} (ok : OkZ rs) (hl : rs.length <= 30) {a : Tx} (ha : a = t0 \/ ∃ q ∈ rs, q.n = a) : ∃ ls, m_L_up [.d (.list (rs.map eZ)), .d (eT a)] = some (.list ((hsR rs.reverse a).map eT), ls) := by
 let R : Option L := some (.d (.list (rs.map eZ)))
 let T : Tx -> Option L := fun a => some (.d (eT a))
 let M : List Tx -> Option L := fun l => some (.m (l.map eT))
 let G : List Rz -> Option L := fun l => some (.g (.dict (kvZ l)))
 let st : List Rz -> Option L -> DS := fun l o => [R, T a, M [], G l, o]
 have lp : ∃ τ', dLoop (dN 4) (dPutX 3 (dVar 4) (dOp fIxT (dVar 4) (dC (.int 0)))) (rs.map eZ) (st [] none) = some (.nx τ') /\ ∃ o, nM o /\ τ' = st rs o := by
  refine loop_pre (fun pre τ => ∃ o, nM o /\ τ = st pre o) ⟨none, nM_none, rfl⟩ ?_
  rintro pre r post τ e ⟨o, ho, rfl⟩
  have hz := split_len e
  refine ⟨st pre (some (.d (eZ r))), st (pre ++ [r]) (some (.d (eZ r))), dN_eq (o := o) rfl ho, ?_, _, nM_d, rfl⟩
  refine (putX_nx (d := eZ r) (x := r.n.1) (kv0 := kvZ pre) (kvs := kvZ pre) (τ1 := st pre (some (.d (eZ r)))) (τ2 := st pre (some (.d (eZ r)))) rfl rfl (op2 (x := eZ r) (y := .int 0) (τ1 := st pre (some (.d (eZ r)))) rfl rfl rfl) rfl (encZ.fix r) ?_).trans ?_
  ·rw [show (kvZ pre).length = pre.length from List.length_map ..]; omega
  ·rw [put_kv (split_ne ok e)]; rfl
 obtain ⟨τ', e1, o, ho, rfl⟩ := lp
 let C : DT := dTAnd (dTest (dOp fNe (dVar 1) (dC (.str "")))) (dTest (dInX false (dVar 1) 3))
 let B : DB := dSeq (dExpr (dMt 2 gAppend (dACons (dVar 1) dANil))) (dAsg (dOp fIxT (dIxX 3 (dVar 1)) (dC (.int 1))) (dN 1))
 let sw : Tx -> List Tx -> DS := fun a l => [R, T a, M l, G rs, o]
 have cT : ∀ b l, C (sw b l) = some (!decide (b = t0) && (fndZ rs b).isSome, sw b l) := fun b l => by
  refine tand (tst (op2 (x := eT b) (y := eT t0) (τ1 := sw b l) rfl rfl (fNeT b t0))) (tst ?_)
  rw [inX_eq (x := b.1) (kvs := kvZ rs) (τ1 := sw b l) rfl rfl, get_kv, Option.isSome_map]
 have wl : ∀ (ah post : List Rz) (b : Tx) (l : List Tx) (n : Nat), rs.reverse = post ++ ah -> (b = t0 \/ ∃ q ∈ ah, q.n = b) -> ah.length < n -> l.length + ah.length <= 60 -> ∃ b', dWh C B n (sw b l) = some (.nx (sw b' (l ++ hsR ah b))) := by
  have stop : ∀ (ah : List Rz) (l : List Tx) (n : Nat), OkR ah -> 0 < n -> ∃ b', dWh C B n (sw t0 l) = some (.nx (sw b' (l ++ hsR ah t0))) := fun ah l n oa hn => by
   obtain ⟨n, rfl⟩ : ∃ m, n = m + 1 := ⟨n - 1, by omega⟩
   refine ⟨t0, ?_⟩
   rw [hsR_t0 oa, List.append_nil]
   refine wh_f (τ1 := sw t0 l) ?_
   rw [cT, decide_eq_true rfl]; rfl
  intro ah
  induction ah with
  | nil =>
   intro post b l n e hb hn _
   rcases hb with rfl | ⟨q, hq, _⟩
   ·exact stop [] l n trivial (by omega)
   ·cases hq
  | cons r ah ih =>
   intro post b l n e hb hn hz
   have okr : OkR (r :: ah) := (show OkR (post ++ r :: ah) from e ▸ ok).suf
   rcases hb with rfl | ⟨q, hq, hqb⟩
   ·exact stop (r :: ah) l n okr (by omega)
   simp only [List.length_cons] at hn hz
   by_cases h : r.n = b
   ·obtain ⟨n, rfl⟩ : ∃ m, n = m + 1 := ⟨n - 1, by omega⟩
    have hr : r ∈ rs := List.mem_reverse.mp (e ▸ List.mem_append_right _ List.mem_cons_self)
    have hf : fndZ rs b = some r := h ▸ fnd_some ok hr
    obtain ⟨b', e2⟩ := ih (post ++ [r]) r.h (l ++ [b]) n (by rw [e]; simp) okr.2.2.2 (by omega) (by rw [List.length_append]; simp only [List.length_cons, List.length_nil]; omega)
    refine ⟨b', (wh_t (τ1 := sw b l) (τ2 := sw r.h (l ++ [b])) ?_ ?_).trans (e2.trans ?_)⟩
    ·rw [cT, hf, decide_eq_false (h ▸ okr.2.1.ne)]; rfl
    ·have s1 : dExpr (dMt 2 gAppend (dACons (dVar 1) dANil)) (sw b l) = some (.nx (sw b (l ++ [b]))) := by
      refine (appd (i := 2) (d := eT b) (xs := l.map eT) (τ1 := sw b l) rfl rfl (by rw [List.length_map]; omega)).trans ?_
      show some (Out.nx [R, T b, some (.m (l.map eT ++ [eT b])), G rs, o]) = _
      rw [show l.map eT ++ [eT b] = (l ++ [b]).map eT by rw [List.map_append]; rfl]
     refine (seq_nx s1).trans (asg_nx (d := eT r.h) (τ1 := sw b (l ++ [b])) (op2 (x := eZ r) (y := .int 1) (τ1 := sw b (l ++ [b])) (ixX_eq (x := b.1) (kv0 := kvZ rs) (kvs := kvZ rs) (τ1 := sw b (l ++ [b])) rfl rfl rfl (by rw [get_kv, hf]; rfl)) rfl rfl) rfl)
    ·rw [show hsR (r :: ah) b = b :: hsR ah r.h from by rw [hsR, if_pos h], List.append_assoc]
     rfl
   ·have : ∃ q ∈ ah, q.n = b := by
     rcases List.mem_cons.mp hq with rfl | hq
     ·exact absurd hqb h
     ·exact ⟨q, hq, hqb⟩
    obtain ⟨b', e2⟩ := ih (post ++ [r]) b l n (by rw [e]; simp) (.inr this) (by omega) (by omega)
    refine ⟨b', e2.trans ?_⟩
    rw [show hsR (r :: ah) b = hsR ah b from by rw [hsR, if_neg h]]
 obtain ⟨b', e2⟩ := wl rs.reverse [] a [] 100 rfl (ha.imp id fun ⟨q, hq, e⟩ => ⟨q, List.mem_reverse.mpr hq, e⟩) (by rw [List.length_reverse]; omega) (by rw [List.length_reverse, List.length_nil]; omega)
 rw [List.nil_append] at e2
 refine ⟨[.d (.list (rs.map eZ)), .d (eT a)], ?_⟩
 unfold m_L_up
 refine fun_rt (τ := sw b' (hsR rs.reverse a)) ?_ rfl rfl
 exact (seq_nx (τ1 := [R, T a, M [], none, none]) rfl).trans ((seq_nx (τ1 := st [] none) rfl).trans ((seq_nx ((for_eq (ds := rs.map eZ) (τ1 := st [] none) rfl).trans e1)).trans ((seq_nx (τ1 := sw b' (hsR rs.reverse a)) (wh_of e2)).trans rfl)))
theorem cut1 (xs : List PyData) : cutD xs (some 1) none = xs.tail := by
 unfold cutD
 have e : HT.sIx xs.length 0 (some 1) = min 1 xs.length := by
  show (if (1 : Int) < 0 then (1 + (xs.length : Int)).toNat else min (1 : Int).toNat xs.length) = _
  rw [if_neg (by decide)]; rfl
 rw [e]
 show (xs.drop (min 1 xs.length)).take (xs.length - min 1 xs.length) = _
 cases xs with
 | nil => rfl
 | cons x xs =>
  rw [show min 1 (x :: xs).length = 1 by simp only [List.length_cons]; omega]
  show xs.take (xs.length + 1 - 1) = xs
  rw [Nat.add_sub_cancel, List.take_length]
theorem chain_eq {rs : List Rz} (ok : OkZ rs) (hl : rs.length <= 30) {a : Tx} (ha : ∃ q ∈ rs, q.n = a) : ∃ ls, m_L_chain [.d (.list (rs.map eZ)), .d (eT a)] = some (.list ((hsR rs.reverse a).tail.map eT), ls) := by
 let R : Option L := some (.d (.list (rs.map eZ)))
 let T : Tx -> Option L := fun a => some (.d (eT a))
 let M : List Tx -> Option L := fun l => some (.m (l.map eT))
 let G : List Rz -> Option L := fun l => some (.g (.dict (kvZ l)))
 let st : List Rz -> Option L -> DS := fun l o => [R, T a, G l, o, none]
 have lp : ∃ τ', dLoop (dN 3) (dPutX 2 (dVar 3) (dOp fIxT (dVar 3) (dC (.int 0)))) (rs.map eZ) (st [] none) = some (.nx τ') /\ ∃ o, nM o /\ τ' = st rs o := by
  refine loop_pre (fun pre τ => ∃ o, nM o /\ τ = st pre o) ⟨none, nM_none, rfl⟩ ?_
  rintro pre r post τ e ⟨o, ho, rfl⟩
  have hz := split_len e
  refine ⟨st pre (some (.d (eZ r))), st (pre ++ [r]) (some (.d (eZ r))), dN_eq (o := o) rfl ho, ?_, _, nM_d, rfl⟩
  refine (putX_nx (d := eZ r) (x := r.n.1) (kv0 := kvZ pre) (kvs := kvZ pre) (τ1 := st pre (some (.d (eZ r)))) (τ2 := st pre (some (.d (eZ r)))) rfl rfl (op2 (x := eZ r) (y := .int 0) (τ1 := st pre (some (.d (eZ r)))) rfl rfl rfl) rfl (encZ.fix r) ?_).trans ?_
  ·rw [show (kvZ pre).length = pre.length from List.length_map ..]; omega
  ·rw [put_kv (split_ne ok e)]; rfl
 obtain ⟨τ', e1, o, ho, rfl⟩ := lp
 let C : DT := dTest (dInX false (dVar 1) 2)
 let B : DB := dSeq (dExpr (dMt 4 gAppend (dACons (dVar 1) dANil))) (dAsg (dOp fIxT (dIxX 2 (dVar 1)) (dC (.int 1))) (dN 1))
 let sw : Tx -> List Tx -> DS := fun a l => [R, T a, G rs, o, M l]
 have cT : ∀ b l, C (sw b l) = some ((fndZ rs b).isSome, sw b l) := fun b l => by
  refine tst ?_
  rw [inX_eq (x := b.1) (kvs := kvZ rs) (τ1 := sw b l) rfl rfl, get_kv, Option.isSome_map]
 have wl : ∀ (ah post : List Rz) (b : Tx) (l : List Tx) (n : Nat), rs.reverse = post ++ ah -> (b = t0 \/ ∃ q ∈ ah, q.n = b) -> ah.length < n -> l.length + ah.length <= 60 -> ∃ b', dWh C B n (sw b l) = some (.nx (sw b' (l ++ hsR ah b))) := by
  have stop : ∀ (ah : List Rz) (l : List Tx) (n : Nat), OkR ah -> 0 < n -> ∃ b', dWh C B n (sw t0 l) = some (.nx (sw b' (l ++ hsR ah t0))) := fun ah l n oa hn => by
   obtain ⟨n, rfl⟩ : ∃ m, n = m + 1 := ⟨n - 1, by omega⟩
   refine ⟨t0, ?_⟩
   rw [hsR_t0 oa, List.append_nil]
   refine wh_f (τ1 := sw t0 l) ?_
   rw [cT, fnd_t0 ok]; rfl
  intro ah
  induction ah with
  | nil =>
   intro post b l n e hb hn _
   rcases hb with rfl | ⟨q, hq, _⟩
   ·exact stop [] l n trivial (by omega)
   ·cases hq
  | cons r ah ih =>
   intro post b l n e hb hn hz
   have okr : OkR (r :: ah) := (show OkR (post ++ r :: ah) from e ▸ ok).suf
   rcases hb with rfl | ⟨q, hq, hqb⟩
   ·exact stop (r :: ah) l n okr (by omega)
   simp only [List.length_cons] at hn hz
   by_cases h : r.n = b
   ·obtain ⟨n, rfl⟩ : ∃ m, n = m + 1 := ⟨n - 1, by omega⟩
    have hr : r ∈ rs := List.mem_reverse.mp (e ▸ List.mem_append_right _ List.mem_cons_self)
    have hf : fndZ rs b = some r := h ▸ fnd_some ok hr
    obtain ⟨b', e2⟩ := ih (post ++ [r]) r.h (l ++ [b]) n (by rw [e]; simp) okr.2.2.2 (by omega) (by rw [List.length_append]; simp only [List.length_cons, List.length_nil]; omega)
    refine ⟨b', (wh_t (τ1 := sw b l) (τ2 := sw r.h (l ++ [b])) ?_ ?_).trans (e2.trans ?_)⟩
    ·rw [cT, hf]; rfl
    ·have s1 : dExpr (dMt 4 gAppend (dACons (dVar 1) dANil)) (sw b l) = some (.nx (sw b (l ++ [b]))) := by
      refine (appd (i := 4) (d := eT b) (xs := l.map eT) (τ1 := sw b l) rfl rfl (by rw [List.length_map]; omega)).trans ?_
      show some (Out.nx [R, T b, G rs, o, some (.m (l.map eT ++ [eT b]))]) = _
      rw [show l.map eT ++ [eT b] = (l ++ [b]).map eT by rw [List.map_append]; rfl]
     exact (seq_nx s1).trans (asg_nx (d := eT r.h) (τ1 := sw b (l ++ [b])) (op2 (x := eZ r) (y := .int 1) (τ1 := sw b (l ++ [b])) (ixX_eq (x := b.1) (kv0 := kvZ rs) (kvs := kvZ rs) (τ1 := sw b (l ++ [b])) rfl rfl rfl (by rw [get_kv, hf]; rfl)) rfl rfl) rfl)
    ·rw [show hsR (r :: ah) b = b :: hsR ah r.h from by rw [hsR, if_pos h], List.append_assoc]
     rfl
   ·have : ∃ q ∈ ah, q.n = b := by
     rcases List.mem_cons.mp hq with rfl | hq
     ·exact absurd hqb h
     ·exact ⟨q, hq, hqb⟩
    obtain ⟨b', e2⟩ := ih (post ++ [r]) b l n (by rw [e]; simp) (.inr this) (by omega) (by omega)
    refine ⟨b', e2.trans ?_⟩
    rw [show hsR (r :: ah) b = hsR ah b from by rw [hsR, if_neg h]]
 obtain ⟨b', e2⟩ := wl rs.reverse [] a [] 100 rfl (.inr (let ⟨q, hq, e⟩ := ha; ⟨q, List.mem_reverse.mpr hq, e⟩)) (by rw [List.length_reverse]; omega) (by rw [List.length_reverse, List.length_nil]; omega)
 rw [List.nil_append] at e2
 refine ⟨[.d (.list (rs.map eZ)), .d (eT a)], ?_⟩
 unfold m_L_chain
 let xs := (hsR rs.reverse a).map eT
 refine fun_rt (τ := sw b' (hsR rs.reverse a)) ?_ rfl rfl
 refine (seq_nx (τ1 := st [] none) rfl).trans ((seq_nx ((for_eq (ds := rs.map eZ) (τ1 := st [] none) rfl).trans e1)).trans ((seq_nx (τ1 := sw a []) rfl).trans ((seq_nx (τ1 := sw b' (hsR rs.reverse a)) (wh_of e2)).trans (ret_rt ?_))))
 rw [List.map_tail, <- cut1]
 have hok : okM o = true := okM_n ho
 refine borF (i := 4) (xs := xs) rfl rfl ?_ ?_
 ·rw [cut1, <- List.map_tail]; exact encT.fixL _
 ·show (true && (true && (true && (okM o && (true && true))))) = true
  rw [hok]; rfl
def oZ : Option Rz -> PyData
 | none => .none
 | some r => eZ r
theorem row_name_eq (r : Rz) : m_row_name [.d (eZ r)] = some (eT r.n, [.d (eZ r)]) := rfl
theorem row_holder_eq (r : Rz) : m_row_holder [.d (eZ r)] = some (eT r.h, [.d (eZ r)]) := rfl
theorem row_found_eq (rs : List Rz) (a : Tx) : ∃ ls, m_row_found [.d (.list (rs.map eZ)), .d (eT a)] = some (oZ (fndZ rs a), ls) := by
 let R : Option L := some (.d (.list (rs.map eZ)))
 let A : Option L := some (.d (eT a))
 let B : DB := dIfS (dTest (dOp fEq (dCall m_row_name (dACons (dVar 2) dANil)) (dVar 1))) (dRet (dVar 2)) dNil
 have tt : ∀ r : Rz, dTest (dOp fEq (dCall m_row_name (dACons (dVar 2) dANil)) (dVar 1)) [R, A, some (.d (eZ r))] = some (decide (r.n = a), [R, A, some (.d (eZ r))]) := fun r =>
  tst (op2 (x := eT r.n) (y := eT a) (τ1 := [R, A, some (.d (eZ r))]) (call_eq (τ1 := [R, A, some (.d (eZ r))]) (ds := [eZ r]) rfl rfl (row_name_eq r)) rfl (fEqT _ _))
 have lp : ∀ (xs : List Rz) (o : Option L), nM o -> (∀ r, fndZ xs a = some r -> dLoop (dN 2) B (xs.map eZ) [R, A, o] = some (.rt (eZ r) [R, A, some (.d (eZ r))])) /\ (fndZ xs a = none -> ∃ o', dLoop (dN 2) B (xs.map eZ) [R, A, o] = some (.nx [R, A, o'])) := by
  intro xs
  induction xs with
  | nil => exact fun o ho => ⟨fun r h => (by cases h), fun _ => ⟨o, rfl⟩⟩
  | cons x xs ih =>
   intro o ho
   have e0 : dN 2 (eZ x) [R, A, o] = some [R, A, some (.d (eZ x))] := dN_eq (o := o) rfl ho
   have un : dLoop (dN 2) B ((x :: xs).map eZ) [R, A, o] = (B [R, A, some (.d (eZ x))]).bind fun o => match o with
     | .nx τ2 => dLoop (dN 2) B (xs.map eZ) τ2
     | .ct τ2 => dLoop (dN 2) B (xs.map eZ) τ2
     | .bk τ2 => some (.nx τ2)
     | .rt d τ2 => some (.rt d τ2) := by
    rw [List.map_cons, dLoop, e0]; rfl
   by_cases h : x.n = a
   ·have eb : B [R, A, some (.d (eZ x))] = some (.rt (eZ x) [R, A, some (.d (eZ x))]) := (ifs_t (τ1 := [R, A, some (.d (eZ x))]) (by rw [tt, decide_eq_true h])).trans rfl
    have ef : fndZ (x :: xs) a = some x := by unfold fndZ; rw [List.find?_cons, decide_eq_true h]
    refine ⟨fun r hr => ?_, fun hn => ?_⟩
    ·rw [ef] at hr; cases hr
     rw [un, eb]; rfl
    ·rw [ef] at hn; cases hn
   ·have eb : B [R, A, some (.d (eZ x))] = some (.nx [R, A, some (.d (eZ x))]) := (ifs_f (τ1 := [R, A, some (.d (eZ x))]) (by rw [tt, decide_eq_false h])).trans rfl
    have ef : fndZ (x :: xs) a = fndZ xs a := by unfold fndZ; rw [List.find?_cons, decide_eq_false h]
    obtain ⟨i1, i2⟩ := ih (some (.d (eZ x))) nM_d
    rw [un, eb, ef]
    exact ⟨i1, i2⟩
 obtain ⟨l1, l2⟩ := lp rs none nM_none
 refine ⟨[.d (.list (rs.map eZ)), .d (eT a)], ?_⟩
 unfold m_row_found
 cases h : fndZ rs a with
 | some r => exact fun_rt (τ := [R, A, some (.d (eZ r))]) (seq_rt ((for_eq (ds := rs.map eZ) (τ1 := [R, A, none]) rfl).trans (l1 r h))) rfl rfl
 | none =>
  obtain ⟨o', e⟩ := l2 h
  exact fun_rt (τ := [R, A, o']) ((seq_nx ((for_eq (ds := rs.map eZ) (τ1 := [R, A, none]) rfl).trans e)).trans rfl) rfl rfl
theorem row_of_eq {rs : List Rz} (ok : OkZ rs) {r : Rz} (hr : r ∈ rs) : ∃ ls, m_row_of [.d (.list (rs.map eZ)), .d (eT r.n)] = some (eZ r, ls) := by
 obtain ⟨ls, e⟩ := row_found_eq rs r.n
 rw [fnd_some ok hr] at e
 let τ : DS := [some (.d (.list (rs.map eZ))), some (.d (eT r.n)), some (.d (eZ r))]
 refine ⟨[.d (.list (rs.map eZ)), .d (eT r.n)], ?_⟩
 unfold m_row_of
 exact fun_rt (τ := τ) ((seq_nx (τ1 := τ) (asg_nx (call_eq (τ1 := [some (.d (.list (rs.map eZ))), some (.d (eT r.n)), none]) (ds := [.list (rs.map eZ), eT r.n]) rfl rfl e) rfl)).trans ((seq_nx (τ1 := τ) ((ifs_f (τ1 := τ) (tst (op2 (x := eZ r) (y := .none) (τ1 := τ) rfl rfl rfl))).trans rfl)).trans rfl)) rfl rfl
theorem holders_eq {rs : List Rz} (ok : OkZ rs) (hl : rs.length <= 30) {a : Tx} (ha : a = t0 \/ ∃ q ∈ rs, q.n = a) : ∃ ls, m_holders_of [.d (.list (rs.map eZ)), .d (eT a)] = some (.list ((hsR rs.reverse a).tail.map eT), ls) := by
 let R : Option L := some (.d (.list (rs.map eZ)))
 let A : Option L := some (.d (eT a))
 let M : List Tx -> Option L := fun l => some (.m (l.map eT))
 let sw : Tx -> List Tx -> DS := fun b l => [R, A, M l, some (.d (oZ (fndZ rs b)))]
 let C : DT := dTAnd (dTest (dOp fNotN (dVar 3) (dC .none))) (dTest (dOp fNe (dCall m_row_holder (dACons (dVar 3) dANil)) (dC (.str ""))))
 let B : DB := dSeq (dExpr (dMt 2 gAppend (dACons (dCall m_row_holder (dACons (dVar 3) dANil)) dANil))) (dAsg (dCall m_row_found (dACons (dVar 0) (dACons (dCall m_row_holder (dACons (dVar 3) dANil)) dANil))) (dN 3))
 have cN : ∀ b l, fndZ rs b = none -> C (sw b l) = some (false, sw b l) := fun b l h => by
  have e : sw b l = [R, A, M l, some (.d .none)] := by show [R, A, M l, some (.d (oZ (fndZ rs b)))] = _; rw [h]; rfl
  rw [e]; rfl
 have cS : ∀ b l r, fndZ rs b = some r -> C (sw b l) = some (!decide (r.h = t0), sw b l) := fun b l r h => by
  have e : sw b l = [R, A, M l, some (.d (eZ r))] := by show [R, A, M l, some (.d (oZ (fndZ rs b)))] = _; rw [h]; rfl
  rw [e]
  exact (tand (p := true) (τ := [R, A, M l, some (.d (eZ r))]) rfl (tst (op2 (x := eT r.h) (y := eT t0) (τ1 := [R, A, M l, some (.d (eZ r))]) (call_eq (τ1 := [R, A, M l, some (.d (eZ r))]) (ds := [eZ r]) rfl rfl (row_holder_eq r)) rfl (fNeT _ _)))).trans (by rw [Bool.true_and])
 have stop : ∀ (b : Tx) (l : List Tx) (n : Nat), 0 < n -> (C (sw b l) = some (false, sw b l)) -> dWh C B n (sw b l) = some (.nx (sw b l)) := fun b l n hn h => by
  obtain ⟨n, rfl⟩ : ∃ m, n = m + 1 := ⟨n - 1, by omega⟩
  exact wh_f h
 have wl : ∀ (ah post : List Rz) (b : Tx) (l : List Tx) (n : Nat), rs.reverse = post ++ ah -> (b = t0 \/ ∃ q ∈ ah, q.n = b) -> ah.length < n -> l.length + ah.length <= 60 -> ∃ b', dWh C B n (sw b l) = some (.nx (sw b' (l ++ (hsR ah b).tail))) := by
  intro ah
  induction ah with
  | nil =>
   intro post b l n e hb hn _
   rcases hb with rfl | ⟨q, hq, _⟩
   ·exact ⟨t0, by rw [show (hsR [] t0).tail = [] from rfl, List.append_nil]; exact stop _ _ _ (by omega) (cN _ _ (fnd_t0 ok))⟩
   ·cases hq
  | cons r ah ih =>
   intro post b l n e hb hn hz
   have okr : OkR (r :: ah) := (show OkR (post ++ r :: ah) from e ▸ ok).suf
   rcases hb with rfl | ⟨q, hq, hqb⟩
   ·exact ⟨t0, by rw [hsR_t0 okr, List.tail_nil, List.append_nil]; exact stop _ _ _ (by omega) (cN _ _ (fnd_t0 ok))⟩
   simp only [List.length_cons] at hn hz
   by_cases h : r.n = b
   ·have hr : r ∈ rs := List.mem_reverse.mp (e ▸ List.mem_append_right _ List.mem_cons_self)
    have hf : fndZ rs b = some r := h ▸ fnd_some ok hr
    rw [show (hsR (r :: ah) b).tail = hsR ah r.h from by rw [hsR, if_pos h, List.tail_cons]]
    rcases okr.2.2.2 with hh | hh
    ·refine ⟨b, ?_⟩
     rw [hh, hsR_t0 okr.1, List.append_nil]
     exact stop _ _ _ (by omega) (by rw [cS b l r hf, hh, decide_eq_true rfl]; rfl)
    ·have hne : r.h ≠ t0 := fun z => by
      obtain ⟨q, hq, hz⟩ := hh
      exact (OkR.all okr.1 q hq).ne (hz.trans z)
     obtain ⟨tl, htl⟩ := hsR_mem hh
     obtain ⟨n, rfl⟩ : ∃ m, n = m + 1 := ⟨n - 1, by omega⟩
     obtain ⟨b', e2⟩ := ih (post ++ [r]) r.h (l ++ [r.h]) n (by rw [e]; simp) (.inr hh) (by omega) (by rw [List.length_append]; simp only [List.length_cons, List.length_nil]; omega)
     refine ⟨b', (wh_t (τ1 := sw b l) (τ2 := sw r.h (l ++ [r.h])) ?_ ?_).trans (e2.trans ?_)⟩
     ·rw [cS b l r hf, decide_eq_false hne]; rfl
     ·obtain ⟨lf, ef⟩ := row_found_eq rs r.h
      let s2 : List Tx -> DS := fun l => [R, A, M l, some (.d (eZ r))]
      have es : sw b l = s2 l := by show [R, A, M l, some (.d (oZ (fndZ rs b)))] = _; rw [hf]; rfl
      rw [es]
      have hx : ∀ l, dCall m_row_holder (dACons (dVar 3) dANil) (s2 l) = some (eT r.h, s2 l) := fun l => call_eq (τ1 := s2 l) (ds := [eZ r]) rfl rfl (row_holder_eq r)
      have s1 : dExpr (dMt 2 gAppend (dACons (dCall m_row_holder (dACons (dVar 3) dANil)) dANil)) (s2 l) = some (.nx (s2 (l ++ [r.h]))) := by
       refine (appd (i := 2) (d := eT r.h) (xs := l.map eT) (τ1 := s2 l) (acc (hx l) rfl) rfl (by rw [List.length_map]; omega)).trans ?_
       show some (Out.nx [R, A, some (.m (l.map eT ++ [eT r.h])), some (.d (eZ r))]) = _
       rw [show l.map eT ++ [eT r.h] = (l ++ [r.h]).map eT by rw [List.map_append]; rfl]
      exact (seq_nx s1).trans (asg_nx (d := oZ (fndZ rs r.h)) (τ1 := s2 (l ++ [r.h])) (call_eq (τ1 := s2 (l ++ [r.h])) (rs := [.d (.list (rs.map eZ)), .d (eT r.h)]) (ds := [.list (rs.map eZ), eT r.h]) (acc (τ1 := s2 (l ++ [r.h])) rfl (acc (hx _) rfl)) rfl ef) rfl)
     ·rw [htl, List.tail_cons, List.append_assoc]
      rfl
   ·have : ∃ q ∈ ah, q.n = b := by
     rcases List.mem_cons.mp hq with rfl | hq
     ·exact absurd hqb h
     ·exact ⟨q, hq, hqb⟩
    obtain ⟨b', e2⟩ := ih (post ++ [r]) b l n (by rw [e]; simp) (.inr this) (by omega) (by omega)
    refine ⟨b', e2.trans ?_⟩
    rw [show hsR (r :: ah) b = hsR ah b from by rw [hsR, if_neg h]]
 obtain ⟨b', e2⟩ := wl rs.reverse [] a [] 100 rfl (ha.imp id fun ⟨q, hq, e⟩ => ⟨q, List.mem_reverse.mpr hq, e⟩) (by rw [List.length_reverse]; omega) (by rw [List.length_reverse, List.length_nil]; omega)
 rw [List.nil_append] at e2
 obtain ⟨lf, ef⟩ := row_found_eq rs a
 refine ⟨[.d (.list (rs.map eZ)), .d (eT a)], ?_⟩
 unfold m_holders_of
 refine fun_rt (τ := sw b' (hsR rs.reverse a).tail) ?_ rfl rfl
 exact (seq_nx (τ1 := [R, A, M [], none]) rfl).trans ((seq_nx (τ1 := sw a []) (asg_nx (call_eq (τ1 := [R, A, M [], none]) (rs := [.d (.list (rs.map eZ)), .d (eT a)]) (ds := [.list (rs.map eZ), eT a]) rfl rfl ef) rfl)).trans ((seq_nx (τ1 := sw b' (hsR rs.reverse a).tail) (wh_of e2)).trans rfl))
theorem at_map {α : Type} {enc : α -> PyData} {xs : List α} {k : Int} (h0 : 0 <= k) (h1 : k < (xs.length : Int)) : ∃ a, atI (xs.map enc) k = some (enc a) /\ xs[k.toNat]? = some a := by
 have hk : k.toNat < xs.length := by omega
 refine ⟨xs[k.toNat], ?_, List.getElem?_eq_getElem hk⟩
 unfold atI ixN
 rw [List.length_map, if_pos h0, if_pos h1]
 simp [hk]
theorem at_last {α : Type} {enc : α -> PyData} {xs : List α} (h : 0 < xs.length) : ∃ a ∈ xs, atI (xs.map enc) (-1) = some (enc a) := by
 have hk : xs.length - 1 < xs.length := by omega
 refine ⟨xs[xs.length - 1], List.getElem_mem hk, ?_⟩
 unfold atI ixN
 rw [List.length_map, if_neg (by decide), if_pos (by omega)]
 show (xs.map enc)[((-1 : Int) + (xs.length : Int)).toNat]? = _
 rw [show ((-1 : Int) + (xs.length : Int)).toNat = xs.length - 1 by omega]
 simp [hk]
def KH : List Tx := [kS 4, kS 5, kS 6, kS 7, kS 8, kS 9]
def KA : List Nat := [0, 1, 2, 3, 0, 3, 4, 5, 6, 7, 8, 9]
theorem kinds_h {τ : DS} : dSlT (dCall m_L_kinds dANil) (dPt (dC (.int 6))) dNoP τ = some (.tuple (KH.map eT), τ) := rfl
theorem kh_mem {i : Nat} (hi : i < 10) : kS i ∈ KH ↔ 4 <= i := by
 have : ∀ i : Fin 10, decide (kS i ∈ KH) = decide (4 <= i.1) := by decide +kernel
 have := this ⟨i, hi⟩
 rwa [decide_eq_decide] at this
theorem inL (t : Tx) (ts : List Tx) : fIn false (eT t) (.list (ts.map eT)) = some (.bool (decide (t ∈ ts))) :=
 (encT.fIn t ts).trans (congrArg (fun b => some (PyData.bool b)) (decide_eq_decide.mpr Iff.rfl))
theorem inLn (t : Tx) (ts : List Tx) : fIn true (eT t) (.list (ts.map eT)) = some (.bool (!decide (t ∈ ts))) :=
 (encT.fNotIn t ts).trans (congrArg (fun b => some (PyData.bool (!b))) (decide_eq_decide.mpr Iff.rfl))
theorem L_row_of_eq {rs : List Rz} (ok : OkZ rs) (hl : rs.length <= 30) (v : Int) : ∃ (r : Rz) (w : Int) (ls : List L), m_L_row_of [.d (.list (rs.map eZ)), .d (.int v)] = some (.tuple [eZ r, .int w], ls) /\ OkRow r /\
  (r.h = t0 \/ ∃ q ∈ rs, q.n = r.h /\ 4 <= kz q.d /\ (hsR rs.reverse q.n).length < 7) /\ (kz r.d = 8 -> ∀ q ∈ rs, q.n ∈ hsR rs.reverse r.h -> kz q.d ≠ 8) := by
 let D : PyData := .list (rs.map eZ)
 let R : Option L := some (.d D)
 let I : Int -> Option L := fun i => some (.d (.int i))
 let T : Tx -> Option L := fun a => some (.d (eT a))
 let M : List Tx -> Option L := fun l => some (.m (l.map eT))
 obtain ⟨nm, u, l1, e1, n1, n8, na⟩ := name_of_eq v
 let p : Rz -> Bool := fun r => decide (kS (kz r.d) ∈ KH) && decide (((hsR rs.reverse r.n).length : Int) < 7)
 let hsO : List Rz -> List Tx := fun l => t0 :: (l.filter p).map (·.n)
 let ex : DS := [none, none, none, none, none, none]
 let s3 : List Tx -> Option L -> DS := fun hs o4 => R :: I u :: T nm :: M hs :: o4 :: none :: ex
 have lp : ∃ τ', dLoop (dN 4) (dIfS (dTAnd (dTest (dOp (fIn false) (dOp fIxT (dVar 4) (dC (.int 5))) (dSlT (dCall m_L_kinds dANil) (dPt (dC (.int 6))) dNoP))) (dTest (dOp fLt (dApp fLen (dACons (dCall m_L_up (dACons (dVar 0) (dACons (dOp fIxT (dVar 4) (dC (.int 0))) dANil))) dANil)) (dC (.int 7))))) (dExpr (dMt 3 gAppend (dACons (dOp fIxT (dVar 4) (dC (.int 0))) dANil))) dNil) (rs.map eZ) (s3 (hsO []) none) = some (.nx τ') /\ ∃ o, nM o /\ τ' = s3 (hsO rs) o := by
  refine loop_pre (fun pre τ => ∃ o, nM o /\ τ = s3 (hsO pre) o) ⟨none, nM_none, rfl⟩ ?_
  rintro pre r post τ e ⟨o, ho, rfl⟩
  have hz := split_len e
  have hr : r ∈ rs := split_mem e
  let τ1 := s3 (hsO pre) (some (.d (eZ r)))
  obtain ⟨lu, eu⟩ := up_eq ok hl (a := r.n) (.inr ⟨r, hr, rfl⟩)
  have c1 : dTest (dOp (fIn false) (dOp fIxT (dVar 4) (dC (.int 5))) (dSlT (dCall m_L_kinds dANil) (dPt (dC (.int 6))) dNoP)) τ1 = some (decide (kS (kz r.d) ∈ KH), τ1) :=
   tst (op2 (x := eT (kS (kz r.d))) (y := .tuple (KH.map eT)) (τ1 := τ1) (op2 (x := eZ r) (y := .int 5) (τ1 := τ1) rfl rfl rfl) kinds_h (inT _ _))
  have c2 : dTest (dOp fLt (dApp fLen (dACons (dCall m_L_up (dACons (dVar 0) (dACons (dOp fIxT (dVar 4) (dC (.int 0))) dANil))) dANil)) (dC (.int 7))) τ1 = some (decide (((hsR rs.reverse r.n).length : Int) < 7), τ1) := by
   refine tst (op2 (x := .int ((hsR rs.reverse r.n).length : Int)) (y := .int 7) (τ1 := τ1) (app1 (d := .list ((hsR rs.reverse r.n).map eT)) (call_eq (τ1 := τ1) (rs := [.d D, .d (eT r.n)]) (ds := [D, eT r.n]) (acc (τ1 := τ1) rfl (acc (τ1 := τ1) (op2 (x := eZ r) (y := .int 0) (τ1 := τ1) rfl rfl rfl) rfl)) rfl eu) ?_) rfl rfl)
   show some (PyData.int (((hsR rs.reverse r.n).map eT).length : Int)) = _
   rw [List.length_map]
  have c := tand c1 c2
  refine ⟨τ1, s3 (hsO (pre ++ [r])) (some (.d (eZ r))), dN_eq (o := o) rfl ho, ?_, _, nM_d, rfl⟩
  cases hp : p r with
  | true =>
   refine (ifs_t (τ1 := τ1) (c.trans (by rw [show (_ && _) = true from hp]))).trans ?_
   have hpl : (pre.filter p).length <= pre.length := List.length_filter_le ..
   refine (appd (i := 3) (d := eT r.n) (xs := (hsO pre).map eT) (τ1 := τ1) (acc (τ1 := τ1) (op2 (x := eZ r) (y := .int 0) (τ1 := τ1) rfl rfl rfl) rfl) rfl ?_).trans ?_
   ·rw [List.length_map]
    show ((pre.filter p).map (·.n)).length + 1 < 900
    rw [List.length_map]; omega
   ·have : (hsO pre).map eT ++ [eT r.n] = (hsO (pre ++ [r])).map eT := by
     show eT t0 :: ((pre.filter p).map (·.n)).map eT ++ [eT r.n] = eT t0 :: (((pre ++ [r]).filter p).map (·.n)).map eT
     rw [List.filter_append, List.filter_cons, hp]
     simp
    show some (Out.nx (R :: I u :: T nm :: some (.m ((hsO pre).map eT ++ [eT r.n])) :: some (.d (eZ r)) :: none :: ex)) = _
    rw [this]
  | false =>
   refine (ifs_f (τ1 := τ1) (c.trans (by rw [show (_ && _) = false from hp]))).trans ?_
   have : hsO (pre ++ [r]) = hsO pre := by
    show t0 :: ((pre ++ [r]).filter p).map (·.n) = t0 :: (pre.filter p).map (·.n)
    rw [List.filter_append, List.filter_cons, hp]
    simp
   rw [this]; rfl
 obtain ⟨τ', e3, o4, ho4, rfl⟩ := lp
 generalize hhs : hsO rs = hs at e3
 have hs0 : 0 < hs.length := by rw [<- hhs]; exact Nat.succ_pos _
 have hs1 : hs.length <= 31 := by
  rw [<- hhs]
  show ((rs.filter p).map (·.n)).length + 1 <= 31
  have hpl : (rs.filter p).length <= rs.length := List.length_filter_le ..
  rw [List.length_map]; omega
 have hsm : ∀ h ∈ hs, h = t0 \/ ∃ q ∈ rs, q.n = h /\ 4 <= kz q.d /\ (hsR rs.reverse q.n).length < 7 := fun h hh => by
  rw [<- hhs] at hh
  rcases List.mem_cons.mp hh with rfl | hh
  ·exact .inl rfl
  ·obtain ⟨q, hq, rfl⟩ := List.mem_map.mp hh
   obtain ⟨hq1, hq2⟩ := List.mem_filter.mp hq
   have hq2 : (decide (kS (kz q.d) ∈ KH) && decide (((hsR rs.reverse q.n).length : Int) < 7)) = true := hq2
   rw [Bool.and_eq_true, decide_eq_true_eq, decide_eq_true_eq, kh_mem (kz_lt _)] at hq2
   exact .inr ⟨q, hq1, rfl, hq2.1, by omega⟩
 have okm4 : okM o4 = true := okM_n ho4
 let s5 : Int -> Option L -> DS := fun u o5 => R :: I u :: T nm :: M hs :: o4 :: o5 :: ex
 let b5 : Int -> Option L -> DS := fun u o5 => R :: I u :: T nm :: some (.d (.list (hs.map eT))) :: o4 :: o5 :: ex
 have hok : ∀ u o5, okM o5 = true -> (b5 u o5).all okM = true := fun u o5 h => by
  show (true && (true && (true && (true && (okM o4 && (okM o5 && true)))))) = true
  rw [okm4, h]; rfl
 have ln : ∀ u o5, dApp fLen (dACons (dVar 3) dANil) (b5 u o5) = some (.int (hs.length : Int), b5 u o5) := fun u o5 => by
  refine app1 (d := .list (hs.map eT)) (τ1 := b5 u o5) rfl ?_
  show some (PyData.int ((hs.map eT).length : Int)) = _
  rw [List.length_map]
 have n0 : (0 : Int) < (hs.length : Int) := by omega
 have k0 := Int.emod_nonneg u (show (hs.length : Int) ≠ 0 by omega)
 have k1 := Int.emod_lt_of_pos u n0
 obtain ⟨ha, ea, ha2⟩ := at_map (enc := eT) (xs := hs) k0 k1
 have ha3 : ha ∈ hs := List.mem_of_getElem? ha2
 have z4 : dAsg (dBor 3 (dOp fIxL (dVar 3) (dOp fMod (dVar 1) (dApp fLen (dACons (dVar 3) dANil))))) (dN 5) (s5 u none) = some (.nx (s5 u (T ha))) := by
  refine asg_nx (d := eT ha) (τ1 := s5 u none) (borL (i := 3) (xs := hs.map eT) rfl ?_ rfl (hok u none rfl)) rfl
  exact op2 (x := .list (hs.map eT)) (y := .int (u % (hs.length : Int))) (τ1 := b5 u none) rfl (op2 (x := .int u) (y := .int (hs.length : Int)) (τ1 := b5 u none) rfl (ln u none) (modI n0)) ea
 have z5 : ∃ h ∈ hs, dIfS (dTBor 3 (dTest (dOp fEq (dOp fMod (dOp fDiv (dVar 1) (dApp fLen (dACons (dVar 3) dANil))) (dC (.int 2))) (dC (.int 0))))) (dAsg (dBor 3 (dOp fIxL (dVar 3) (dUn fNeg (dC (.int 1))))) (dN 5)) dNil (s5 u (T ha)) = some (.nx (s5 u (T h))) := by
  have c : dTBor 3 (dTest (dOp fEq (dOp fMod (dOp fDiv (dVar 1) (dApp fLen (dACons (dVar 3) dANil))) (dC (.int 2))) (dC (.int 0)))) (s5 u (T ha)) = some (decide (u / (hs.length : Int) % 2 = 0), s5 u (T ha)) := by
   refine tbor_eq (i := 3) (xs := hs.map eT) (τ1 := b5 u (T ha)) rfl (tst (op2 (x := .int (u / (hs.length : Int) % 2)) (y := .int 0) (τ1 := b5 u (T ha)) (op2 (x := .int (u / (hs.length : Int))) (y := .int 2) (τ1 := b5 u (T ha)) (op2 (x := .int u) (y := .int (hs.length : Int)) (τ1 := b5 u (T ha)) rfl (ln u _) (divI n0 (by omega))) rfl (modI (by decide))) rfl (encI.fEq _ _))) (hok u _ rfl)
  by_cases h : u / (hs.length : Int) % 2 = 0
  ·obtain ⟨hb, hb1, eb⟩ := at_last (enc := eT) hs0
   refine ⟨hb, hb1, (ifs_t (τ1 := s5 u (T ha)) (by rw [c, decide_eq_true h])).trans ?_⟩
   refine asg_nx (d := eT hb) (τ1 := s5 u (T ha)) (borL (i := 3) (xs := hs.map eT) rfl ?_ rfl (hok u _ rfl)) rfl
   exact op2 (x := .list (hs.map eT)) (y := .int (-1)) (τ1 := b5 u (T ha)) rfl rfl eb
  ·exact ⟨ha, ha3, (ifs_f (τ1 := s5 u (T ha)) (by rw [c, decide_eq_false h])).trans rfl⟩
 obtain ⟨h, hh, z5⟩ := z5
 generalize hu2 : u / (hs.length : Int) / 2 = u2
 have z6 : dAsg (dBor 3 (dOp fDiv (dOp fDiv (dVar 1) (dApp fLen (dACons (dVar 3) dANil))) (dC (.int 2)))) (dN 1) (s5 u (T h)) = some (.nx (s5 u2 (T h))) := by
  refine asg_nx (d := .int u2) (τ1 := s5 u (T h)) (borL (i := 3) (xs := hs.map eT) rfl ?_ rfl (hok u _ rfl)) rfl
  rw [<- hu2]
  exact op2 (x := .int (u / (hs.length : Int))) (y := .int 2) (τ1 := b5 u (T h)) (op2 (x := .int u) (y := .int (hs.length : Int)) (τ1 := b5 u (T h)) rfl (ln u _) (divI n0 (by omega))) rfl (divI (by decide) (by decide))
 obtain ⟨x, u3, l3, ex3, x0, x1⟩ := step_of_eq u2
 obtain ⟨y, u4, l4, ey4, y0, y1⟩ := step_of_eq u3
 let s9 : Int -> Option L -> Option L -> Option L -> Option L -> Option L -> Option L -> DS := fun u o6 o7 o8 o9 o10 o11 => [R, I u, T nm, M hs, o4, T h, o6, o7, o8, o9, o10, o11]
 have z7 : dAsg (dCall m_L_step_of (dACons (dVar 1) dANil)) (dGT (dGCons (dN 6) (dGCons (dN 1) dGNil))) (s9 u2 none none none none none none) = some (.nx (s9 u3 (I x) none none none none none)) :=
  asg_nx (call_eq (τ1 := s9 u2 none none none none none none) (rs := [.d (.int u2)]) (ds := [.int u2]) rfl rfl ex3) rfl
 have z8 : dAsg (dCall m_L_step_of (dACons (dVar 1) dANil)) (dGT (dGCons (dN 7) (dGCons (dN 1) dGNil))) (s9 u3 (I x) none none none none none) = some (.nx (s9 u4 (I x) (I y) none none none none)) :=
  asg_nx (call_eq (τ1 := s9 u3 (I x) none none none none none) (rs := [.d (.int u3)]) (ds := [.int u3]) rfl rfl ey4) rfl
 have m12 : fMod (.int u4) (.int 12) = some (.int (u4 % 12)) := modI (by decide)
 obtain ⟨j, ej, ej2⟩ := at_map (enc := fun i => eT (kS i)) (xs := KA) (k := u4 % 12) (by omega) (by show u4 % 12 < 12; omega)
 have hj : j < 10 := by
  have := List.mem_of_getElem? ej2
  have q : ∀ i ∈ KA, i < 10 := by decide
  exact q j this
 let t8 : Nat -> DS := fun j => s9 u4 (I x) (I y) (T (kS j)) none none none
 have z9 : dAsg (dOp fIxT (dCall m_L_kinds dANil) (dOp fMod (dVar 1) (dC (.int 12)))) (dN 8) (s9 u4 (I x) (I y) none none none none) = some (.nx (t8 j)) :=
  asg_nx (d := eT (kS j)) (τ1 := s9 u4 (I x) (I y) none none none none) (op2 (x := .tuple (KA.map fun i => eT (kS i))) (y := .int (u4 % 12)) (τ1 := s9 u4 (I x) (I y) none none none none) rfl (op2 (x := .int u4) (y := .int 12) (τ1 := s9 u4 (I x) (I y) none none none none) rfl rfl m12) ej) rfl
 have hup : h = t0 \/ ∃ q ∈ rs, q.n = h := (hsm h hh).imp id fun ⟨q, a, b, _⟩ => ⟨q, a, b⟩
 obtain ⟨lu, eu⟩ := up_eq ok hl hup
 let up := hsR rs.reverse h
 let U : Option L := some (.d (.list (up.map eT)))
 let ta : Nat -> DS := fun j => s9 u4 (I x) (I y) (T (kS j)) U none none
 have za : dAsg (dCall m_L_up (dACons (dVar 0) (dACons (dVar 5) dANil))) (dN 9) (t8 j) = some (.nx (ta j)) :=
  asg_nx (call_eq (τ1 := t8 j) (rs := [.d D, .d (eT h)]) (ds := [D, eT h]) rfl rfl eu) rfl
 let pt : Rz -> Bool := fun r => decide (r.n ∈ up) && decide (kS (kz r.d) = kS 8)
 have zb : ∃ j', j' < 10 /\ (j' = 8 -> rs.filter pt = []) /\ dIfS (dTAnd (dTest (dOp fEq (dVar 8) (dC (.str "tiles")))) (dTest (dOp fNe (dLC 1 [9] (dIL (dVar 0)) (dN 0) (dTAnd (dTest (dOp (fIn false) (dOp fIxT (dVar 0) (dC (.int 0))) (dVar 1))) (dTest (dOp fEq (dOp fIxT (dVar 0) (dC (.int 5))) (dC (.str "tiles"))))) (dVar 0)) (dLst dANil)))) (dAsg (dC (.str "group")) (dN 8)) dNil (ta j) = some (.nx (ta j')) := by
  have c1 : dTest (dOp fEq (dVar 8) (dC (.str "tiles"))) (ta j) = some (decide (kS j = kS 8), ta j) := tst (op2 (x := eT (kS j)) (y := eT (kS 8)) (τ1 := ta j) rfl rfl (fEqT _ _))
  have lc : dLC 1 [9] (dIL (dVar 0)) (dN 0) (dTAnd (dTest (dOp (fIn false) (dOp fIxT (dVar 0) (dC (.int 0))) (dVar 1))) (dTest (dOp fEq (dOp fIxT (dVar 0) (dC (.int 5))) (dC (.str "tiles"))))) (dVar 0) (ta j) = some (.list ((rs.filter pt).map eZ), ta j) := by
   refine lcg (enc := eZ) (rs := rs) (ex := [U]) pt eZ rfl (by omega) rfl rfl (fun r hr => ?_) (fun r hr _ => rfl)
   let τ : DS := [some (.d (eZ r)), U]
   exact tand (τ := τ) (tst (op2 (x := eT r.n) (y := .list (up.map eT)) (τ1 := τ) (op2 (x := eZ r) (y := .int 0) (τ1 := τ) rfl rfl rfl) rfl (inL _ _))) (tst (op2 (x := eT (kS (kz r.d))) (y := eT (kS 8)) (τ1 := τ) (op2 (x := eZ r) (y := .int 5) (τ1 := τ) rfl rfl rfl) rfl (fEqT _ _)))
  have c2 : dTest (dOp fNe (dLC 1 [9] (dIL (dVar 0)) (dN 0) (dTAnd (dTest (dOp (fIn false) (dOp fIxT (dVar 0) (dC (.int 0))) (dVar 1))) (dTest (dOp fEq (dOp fIxT (dVar 0) (dC (.int 5))) (dC (.str "tiles"))))) (dVar 0)) (dLst dANil)) (ta j) = some (!decide (rs.filter pt = []), ta j) :=
   tst (op2 (x := .list ((rs.filter pt).map eZ)) (y := .list (([] : List Rz).map eZ)) (τ1 := ta j) lc rfl (encZ.fNeL _ _))
  have c := tand c1 c2
  by_cases hc : (decide (kS j = kS 8) && !decide (rs.filter pt = [])) = true
  ·exact ⟨4, by decide, fun z => absurd z (by decide), (ifs_t (τ1 := ta j) (by rw [c, hc])).trans rfl⟩
  ·have hc := Bool.eq_false_iff.mpr hc
   refine ⟨j, hj, fun z => ?_, (ifs_f (τ1 := ta j) (by rw [c, hc])).trans rfl⟩
   rw [z, decide_eq_true rfl, Bool.true_and, Bool.not_eq_false', decide_eq_true_eq] at hc
   exact hc
 obtain ⟨k, hk, hk8, zb⟩ := zb
 generalize hsh : decide (u4 / 12 % 8 > 0) = sh
 let S : Option L := some (.d (.bool sh))
 have zc : dAsg (dOp fGt (dOp fMod (dOp fDiv (dVar 1) (dC (.int 12))) (dC (.int 8))) (dC (.int 0))) (dN 10) (ta k) = some (.nx (s9 u4 (I x) (I y) (T (kS k)) U S none)) := by
  refine asg_nx (d := .bool sh) (τ1 := ta k) (op2 (x := .int (u4 / 12 % 8)) (y := .int 0) (τ1 := ta k) (op2 (x := .int (u4 / 12)) (y := .int 8) (τ1 := ta k) (op2 (x := .int u4) (y := .int 12) (τ1 := ta k) rfl rfl (divI (by decide) (by decide))) rfl (modI (by decide))) rfl ?_) rfl
  rw [<- hsh]; rfl
 obtain ⟨d, w, ld, ed, kd, okd⟩ := data_of_eq hk (u4 / 96)
 let tz : DS := s9 w (I x) (I y) (T (kS k)) U S (some (.d (eD d)))
 have zd : dAsg (dCall m_L_data_of (dACons (dVar 8) (dACons (dOp fDiv (dVar 1) (dC (.int 96))) dANil))) (dGT (dGCons (dN 11) (dGCons (dN 1) dGNil))) (s9 u4 (I x) (I y) (T (kS k)) U S none) = some (.nx tz) :=
  asg_nx (call_eq (τ1 := s9 u4 (I x) (I y) (T (kS k)) U S none) (rs := [.d (eT (kS k)), .d (.int (u4 / 96))]) (ds := [eT (kS k), .int (u4 / 96)]) (acc (τ1 := s9 u4 (I x) (I y) (T (kS k)) U S none) rfl (acc (op2 (x := .int u4) (y := .int 96) (τ1 := s9 u4 (I x) (I y) (T (kS k)) U S none) rfl rfl (divI (by decide) (by decide))) rfl)) rfl ed) rfl
 refine ⟨⟨nm, h, x, y, sh, d⟩, w, [.d D, .d (.int v)], ?_, ⟨n1, n8, na, x0, x1, y0, y1, okd⟩, hsm h hh, fun hd8 q hq hqu z => ?_⟩
 ·unfold m_L_row_of
  refine fun_rt (τ := tz) ?_ rfl rfl
  refine (seq_nx (τ1 := R :: I u :: T nm :: none :: none :: none :: ex) (asg_nx (call_eq (τ1 := R :: I v :: none :: none :: none :: none :: ex) (rs := [.d (.int v)]) (ds := [.int v]) rfl rfl e1) rfl)).trans ?_
  refine (seq_nx (τ1 := s3 (hsO []) none) rfl).trans ((seq_nx ((for_eq (ds := rs.map eZ) (τ1 := s3 (hsO []) none) rfl).trans e3)).trans ?_)
  refine (seq_nx z4).trans ((seq_nx z5).trans ((seq_nx z6).trans ((seq_nx z7).trans ((seq_nx z8).trans ((seq_nx z9).trans ((seq_nx za).trans ((seq_nx zb).trans ((seq_nx zc).trans ((seq_nx zd).trans (ret_rt ?_))))))))))
  have ez : eZ ⟨nm, h, x, y, sh, d⟩ = .tuple [eT nm, eT h, .int x, .int y, .bool sh, eT (kS k), eD d] := by rw [<- kd]; rfl
  rw [ez]; rfl
 ·have f := hk8 (kd ▸ hd8)
  have : q ∈ rs.filter pt := List.mem_filter.mpr ⟨hq, by
   show (decide (q.n ∈ up) && decide (kS (kz q.d) = kS 8)) = true
   rw [decide_eq_true hqu, z, decide_eq_true rfl]; rfl⟩
  rw [f] at this; cases this
def VtR : List Rz -> Prop
 | [] => True
 | r :: a => VtR a /\ (r.h = t0 \/ ∃ q ∈ a, q.n = r.h /\ 4 <= kz q.d /\ (hsR a q.n).length < 7) /\ (kz r.d = 8 -> ∀ q ∈ a, q.n ∈ hsR a r.h -> kz q.d ≠ 8)
theorem scene_of_eq {ns : List Int} {f m : Int} (f0 : 0 <= f) (m0 : 0 <= m) (m1 : m <= 24) : ∃ (rs : List Rz) (ls : List L), m_L_scene_of [.c (ns.map .int), .d (.int f), .d (.int m)] = some (.list (rs.map eZ), ls) /\ OkZ rs /\ VtR rs.reverse /\ (rs.length : Int) <= m /\ (1 <= m -> 1 <= rs.length) := by
 let C : Option L := some (.c (ns.map .int))
 let I : Int -> Option L := fun i => some (.d (.int i))
 let st : List Rz -> Option L -> Option L -> Option L -> DS := fun rs o4 o5 o6 => [C, I f, I m, some (.m (rs.map eZ)), o4, o5, o6]
 let bt : List Rz -> Option L -> Option L -> Option L -> DS := fun rs o4 o5 o6 => [C, I f, I m, some (.d (.list (rs.map eZ))), o4, o5, o6]
 have hok : ∀ rs o4 o5 o6, nM o4 -> nM o5 -> nM o6 -> (bt rs o4 o5 o6).all okM = true := fun rs o4 o5 o6 h4 h5 h6 => by
  show (true && (true && (true && (true && (okM o4 && (okM o5 && (okM o6 && true))))))) = true
  rw [okM_n h4, okM_n h5, okM_n h6]; rfl
 have lp : ∃ τ', dLoop (dN 4) (dSeq (dAsg (dBor 3 (dCall m_L_row_of (dACons (dVar 3) (dACons (dCallC 0 m_L_big (dACons (dOp fAdd (dVar 1) (dVar 4)) dANil)) dANil)))) (dGT (dGCons (dN 5) (dGCons (dN 6) dGNil)))) (dIfS (dTBor 3 (dTest (dOp (fIn true) (dOp fIxT (dVar 5) (dC (.int 0))) (dLC 1 [] (dIL (dVar 3)) (dN 0) dYes (dOp fIxT (dVar 0) (dC (.int 0))))))) (dExpr (dMt 3 gAppend (dACons (dVar 5) dANil))) dNil)) ((List.range m.toNat).map fun (k : Nat) => PyData.int (k : Int)) (st [] none none none) = some (.nx τ') /\ ∃ rs o4 o5 o6, nM o4 /\ nM o5 /\ nM o6 /\ OkZ rs /\ VtR rs.reverse /\ rs.length <= (List.range m.toNat).length /\ (0 < (List.range m.toNat).length -> 0 < rs.length) /\ τ' = st rs o4 o5 o6 := by
  refine loop_pre (fun (pre : List Nat) τ => ∃ rs o4 o5 o6, nM o4 /\ nM o5 /\ nM o6 /\ OkZ rs /\ VtR rs.reverse /\ rs.length <= pre.length /\ (0 < pre.length -> 0 < rs.length) /\ τ = st rs o4 o5 o6) ⟨[], none, none, none, nM_none, nM_none, nM_none, trivial, trivial, Nat.le_refl _, fun h => h, rfl⟩ ?_
  rintro pre k post τ e ⟨rs, o4, o5, o6, n4, n5, n6, ok, vt, hle, hpos, rfl⟩
  have hz := split_len e
  rw [List.length_range] at hz
  have hl : rs.length <= 30 := by omega
  let K : Option L := I (k : Int)
  obtain ⟨v, l1, e1⟩ := L_big (ns := ns) (k := f + (k : Int)) (by omega)
  obtain ⟨r, w, l2, e2, okr, hh, ht⟩ := L_row_of_eq ok hl v
  let X : Option L := some (.d (eZ r))
  have z1 : dAsg (dBor 3 (dCall m_L_row_of (dACons (dVar 3) (dACons (dCallC 0 m_L_big (dACons (dOp fAdd (dVar 1) (dVar 4)) dANil)) dANil)))) (dGT (dGCons (dN 5) (dGCons (dN 6) dGNil))) (st rs K o5 o6) = some (.nx (st rs K X (I w))) := by
   refine asg_nx (d := .tuple [eZ r, .int w]) (τ1 := st rs K o5 o6) (borL (i := 3) (xs := rs.map eZ) rfl ?_ ?_ (hok rs K o5 o6 nM_d n5 n6)) ?_
   ·refine call_eq (τ1 := bt rs K o5 o6) (rs := [.d (.list (rs.map eZ)), .d (.int v)]) (ds := [.list (rs.map eZ), .int v]) (acc (τ1 := bt rs K o5 o6) rfl (acc (τ1 := bt rs K o5 o6) (callC_eq (xs := ns.map .int) (τ1 := bt rs K o5 o6) (rs := [.d (.int (f + (k : Int)))]) (ds := [.int (f + (k : Int))]) rfl rfl rfl e1) rfl)) rfl e2
   ·show (fixD (eZ r) && (true && true)) = true
    rw [encZ.fix]; rfl
   ·show (dN 5 (eZ r) (st rs K o5 o6)).bind _ = _
    rw [dN_eq (o := o5) rfl n5]
    show (dN 6 (.int w) (st rs K X o6)).bind _ = _
    rw [dN_eq (o := o6) rfl n6]; rfl
  have z2 : dTBor 3 (dTest (dOp (fIn true) (dOp fIxT (dVar 5) (dC (.int 0))) (dLC 1 [] (dIL (dVar 3)) (dN 0) dYes (dOp fIxT (dVar 0) (dC (.int 0)))))) (st rs K X (I w)) = some (!decide (r.n ∈ rs.map (·.n)), st rs K X (I w)) := by
   let τd := bt rs K X (I w)
   have lc : dLC 1 [] (dIL (dVar 3)) (dN 0) dYes (dOp fIxT (dVar 0) (dC (.int 0))) τd = some (.list ((rs.map (·.n)).map eT), τd) := by
    have := lcg (enc := eZ) (rs := rs) (τ := τd) (fr := []) (it := dIL (dVar 3)) (ex := []) (c := dYes) (e := dOp fIxT (dVar 0) (dC (.int 0))) (fun _ => true) (fun r => eT r.n) rfl (by omega) rfl rfl (fun r _ => rfl) (fun r _ _ => rfl)
    rw [this, filt_true, List.map_map]; rfl
   exact tbor_eq (i := 3) (xs := rs.map eZ) (τ1 := τd) rfl (tst (op2 (x := eT r.n) (y := .list ((rs.map (·.n)).map eT)) (τ1 := τd) (op2 (x := eZ r) (y := .int 0) (τ1 := τd) rfl rfl rfl) lc (inLn _ _))) (hok rs K X (I w) nM_d nM_d nM_d)
  by_cases hn : r.n ∈ rs.map (·.n)
  ·refine ⟨st rs K o5 o6, st rs K X (I w), dN_eq (o := o4) rfl n4, (seq_nx z1).trans ((ifs_f (τ1 := st rs K X (I w)) (by rw [z2, decide_eq_true hn]; rfl)).trans rfl), rs, K, X, I w, nM_d, nM_d, nM_d, ok, vt, by rw [List.length_append]; omega, fun _ => by obtain ⟨q, hq, _⟩ := List.mem_map.mp hn; exact List.length_pos_of_mem hq, rfl⟩
  ·have z3 : dExpr (dMt 3 gAppend (dACons (dVar 5) dANil)) (st rs K X (I w)) = some (.nx (st (rs ++ [r]) K X (I w))) := by
    refine (appd (i := 3) (d := eZ r) (xs := rs.map eZ) (τ1 := st rs K X (I w)) rfl rfl (by rw [List.length_map]; omega)).trans ?_
    show some (Out.nx [C, I f, I m, some (.m (rs.map eZ ++ [eZ r])), K, X, I w]) = _
    rw [show rs.map eZ ++ [eZ r] = (rs ++ [r]).map eZ by rw [List.map_append]; rfl]
   have er : (rs ++ [r]).reverse = r :: rs.reverse := by simp
   refine ⟨st rs K o5 o6, st (rs ++ [r]) K X (I w), dN_eq (o := o4) rfl n4, (seq_nx z1).trans ((ifs_t (τ1 := st rs K X (I w)) (by rw [z2, decide_eq_false hn]; rfl)).trans z3), rs ++ [r], K, X, I w, nM_d, nM_d, nM_d, ?_, ?_, by rw [List.length_append, List.length_append]; simp only [List.length_cons, List.length_nil]; omega, fun _ => by rw [List.length_append]; exact Nat.succ_pos _, rfl⟩
   ·show OkR (rs ++ [r]).reverse
    rw [er]
    exact ⟨ok, okr, fun q hq z => hn (List.mem_map.mpr ⟨q, List.mem_reverse.mp hq, z⟩), hh.imp id fun ⟨q, hq, e, _⟩ => ⟨q, List.mem_reverse.mpr hq, e⟩⟩
   ·rw [er]
    exact ⟨vt, hh.imp id fun ⟨q, hq, e, h4, h7⟩ => ⟨q, List.mem_reverse.mpr hq, e, h4, h7⟩, fun h8 q hq => ht h8 q (List.mem_reverse.mp hq)⟩
 obtain ⟨τ', e, rs, o4, o5, o6, n4, n5, n6, ok, vt, hle, hpos, rfl⟩ := lp
 rw [<- rng_nat] at e
 rw [List.length_range] at hle hpos
 refine ⟨rs, [.c (ns.map .int), .d (.int f), .d (.int m)], ?_, ok, vt, by omega, fun h => hpos (by omega)⟩
 unfold m_L_scene_of
 refine fun_rt (τ := st rs o4 o5 o6) ?_ rfl rfl
 exact (seq_nx (τ1 := st [] none none none) rfl).trans ((seq_nx ((for_eq (r1_eq (n := m) (τ1 := st [] none none none) rfl (by omega) (by omega))).trans e)).trans rfl)
theorem many_eq {ns : List Int} {a b : Int} : ∃ (c : Int) (ls : List L), m_L_many [.c (ns.map .int), .d (.int a), .d (.int b)] = some (.int c, ls) /\ (c = a \/ c = b) := by
 obtain ⟨v, e⟩ := L_cell_at (ns := ns) (k := 1) (by decide)
 have d1 := modI (i := v) (j := 1000003) (by decide)
 have d2 := modI (i := v % 1000003) (j := 8) (by decide)
 by_cases h : v % 1000003 % 8 = 3
 ·have q : fEq (.int (v % 1000003 % 8)) (.int 3) = some (.bool true) := by rw [encI.fEq, decide_eq_true h]
  exact ⟨b, [.c (ns.map .int), .d (.int a), .d (.int b)], by simp only [m_L_many, e, d1, d2, q, dFun, dSeq, dAsg, dN, dRet, dNil, dIfS, dPar, dVar, dC, dOp, fI, fAdd, fSub, fLt, fLe, fGt, fGe, fIxT, dTest, dANil, dACons, allD, dTup, dApp, dCall, dCallC, fin_nil, fin_d, fin_c, fin_m, dIxC, dLenC, atI, ixN, sz', Option.bind_some, Option.map_some, List.map_cons, List.map_nil, List.cons_append, List.nil_append, List.length_cons, List.length_nil, List.getElem?_cons_zero, List.getElem?_cons_succ, List.set_cons_zero, List.set_cons_succ, List.replicate_succ, List.replicate_zero, if_true, if_false, reduceIte, Bool.false_eq_true, Nat.reduceAdd, Nat.reduceLT, Int.reduceAdd, Int.reduceLT, Int.reduceLE, Int.reduceToNat, Nat.reduceLeDiff, and_self, Int.toNat_zero, Int.le_refl, Int.natCast_add, Int.cast_ofNat_Int, Nat.zero_add], .inr rfl⟩
 ·have q : fEq (.int (v % 1000003 % 8)) (.int 3) = some (.bool false) := by rw [encI.fEq, decide_eq_false h]
  exact ⟨a, [.c (ns.map .int), .d (.int a), .d (.int b)], by simp only [m_L_many, e, d1, d2, q, dFun, dSeq, dAsg, dN, dRet, dNil, dIfS, dPar, dVar, dC, dOp, fI, fAdd, fSub, fLt, fLe, fGt, fGe, fIxT, dTest, dANil, dACons, allD, dTup, dApp, dCall, dCallC, fin_nil, fin_d, fin_c, fin_m, dIxC, dLenC, atI, ixN, sz', Option.bind_some, Option.map_some, List.map_cons, List.map_nil, List.cons_append, List.nil_append, List.length_cons, List.length_nil, List.getElem?_cons_zero, List.getElem?_cons_succ, List.set_cons_zero, List.set_cons_succ, List.replicate_succ, List.replicate_zero, if_true, if_false, reduceIte, Bool.false_eq_true, Nat.reduceAdd, Nat.reduceLT, Int.reduceAdd, Int.reduceLT, Int.reduceLE, Int.reduceToNat, Nat.reduceLeDiff, and_self, Int.toNat_zero, Int.le_refl, Int.natCast_add, Int.cast_ofNat_Int, Nat.zero_add], .inl rfl⟩
def innZ (rs : List Rz) (a : Tx) : List Tx := (rs.filter fun r => decide (a ∈ (hsR rs.reverse r.n).tail)).map (·.n)
theorem inn_len (rs : List Rz) (a : Tx) : (innZ rs a).length <= rs.length := by
 unfold innZ; rw [List.length_map]; exact List.length_filter_le ..
theorem parts_eq {rs : List Rz} (ok : OkZ rs) (hl : rs.length <= 30) (a : Tx) : ∃ ls, m_parts_in [.d (.list (rs.map eZ)), .d (eT a)] = some (.list ((innZ rs a).map eT), ls) := by
 let D : Option L := some (.d (.list (rs.map eZ)))
 let τ : DS := [D, some (.d (eT a))]
 refine ⟨[.d (.list (rs.map eZ)), .d (eT a)], ?_⟩
 unfold m_parts_in
 refine fun_rt (τ := τ) (ret_rt ?_) rfl rfl
 have := lcg (enc := eZ) (rs := rs) (τ := τ) (fr := [1, 0]) (it := dIL (dVar 0)) (ex := [some (.d (eT a)), D]) (c := dTest (dOp (fIn false) (dVar 1) (dCall m_holders_of (dACons (dVar 2) (dACons (dCall m_row_name (dACons (dVar 0) dANil)) dANil))))) (e := dCall m_row_name (dACons (dVar 0) dANil)) (fun r => decide (a ∈ (hsR rs.reverse r.n).tail)) (fun r => eT r.n) rfl (by omega) rfl rfl (fun r hr => by
  obtain ⟨l1, e1⟩ := holders_eq ok hl (a := r.n) (.inr ⟨r, hr, rfl⟩)
  let t : DS := [some (.d (eZ r)), some (.d (eT a)), D]
  exact tst (op2 (x := eT a) (y := .list ((hsR rs.reverse r.n).tail.map eT)) (τ1 := t) rfl (call_eq (τ1 := t) (rs := [.d (.list (rs.map eZ)), .d (eT r.n)]) (ds := [.list (rs.map eZ), eT r.n]) (acc (τ1 := t) rfl (acc (τ1 := t) (call_eq (τ1 := t) (ds := [eZ r]) rfl rfl (row_name_eq r)) rfl)) rfl e1) (inL _ _))) (fun r _ _ => rfl)
 refine this.trans ?_
 unfold innZ
 rw [List.map_map]; rfl
theorem inner_eq {rs : List Rz} (ok : OkZ rs) (hl : rs.length <= 30) (a : Tx) : ∃ ls, m_L_inner [.d (.list (rs.map eZ)), .d (eT a)] = some (.list ((innZ rs a).map eT), ls) := by
 let D : Option L := some (.d (.list (rs.map eZ)))
 let τ : DS := [D, some (.d (eT a))]
 refine ⟨[.d (.list (rs.map eZ)), .d (eT a)], ?_⟩
 unfold m_L_inner
 refine fun_rt (τ := τ) (ret_rt ?_) rfl rfl
 have := lcg (enc := eZ) (rs := rs) (τ := τ) (fr := [1, 0]) (it := dIL (dVar 0)) (ex := [some (.d (eT a)), D]) (c := dTest (dOp (fIn false) (dVar 1) (dCall m_L_chain (dACons (dVar 2) (dACons (dOp fIxT (dVar 0) (dC (.int 0))) dANil))))) (e := dOp fIxT (dVar 0) (dC (.int 0))) (fun r => decide (a ∈ (hsR rs.reverse r.n).tail)) (fun r => eT r.n) rfl (by omega) rfl rfl (fun r hr => by
  obtain ⟨l1, e1⟩ := chain_eq ok hl (a := r.n) ⟨r, hr, rfl⟩
  let t : DS := [some (.d (eZ r)), some (.d (eT a)), D]
  exact tst (op2 (x := eT a) (y := .list ((hsR rs.reverse r.n).tail.map eT)) (τ1 := t) rfl (call_eq (τ1 := t) (rs := [.d (.list (rs.map eZ)), .d (eT r.n)]) (ds := [.list (rs.map eZ), eT r.n]) (acc (τ1 := t) rfl (acc (τ1 := t) (op2 (x := eZ r) (y := .int 0) (τ1 := t) rfl rfl rfl) rfl)) rfl e1) (inL _ _))) (fun r _ _ => rfl)
 refine this.trans ?_
 unfold innZ
 rw [List.map_map]; rfl
theorem texts_eq (ts : List Tx) (hz : ts.length <= 1000) : ∃ ls, m_L_texts [.d (.list (ts.map eT)), .d (.list (ts.map eT))] = some (.bool true, ls) := by
 let D : Option L := some (.d (.list (ts.map eT)))
 let τ : DS := [D, D]
 refine ⟨[.d (.list (ts.map eT)), .d (.list (ts.map eT))], ?_⟩
 unfold m_L_texts
 refine fun_rt (τ := τ) ?_ rfl rfl
 have c1 : dTest (dOp fNe (dVar 0) (dVar 1)) τ = some (false, τ) := tst (op2 (x := .list (ts.map eT)) (y := .list (ts.map eT)) (τ1 := τ) rfl rfl (by rw [encT.fNeL, decide_eq_true rfl]; rfl))
 refine (seq_nx (τ1 := τ) ((ifs_f (τ1 := τ) (orFF (τ1 := τ) rfl c1)).trans rfl)).trans (ret_rt ?_)
 have lc : dLC 1 [] (dIL (dVar 0)) (dN 0) (dTNot (dTest (dIsi "str" (dVar 0)))) (dVar 0) τ = some (.list ([] : List PyData), τ) := by
  have := lcg (enc := eT) (rs := ts) (τ := τ) (fr := []) (it := dIL (dVar 0)) (ex := []) (c := dTNot (dTest (dIsi "str" (dVar 0)))) (e := dVar 0) (fun _ => false) eT rfl hz rfl rfl (fun r _ => rfl) (fun r _ z => by cases z)
  rw [this]
  simp
 exact op2 (x := .list ([] : List PyData)) (y := .list []) (τ1 := τ) lc rfl (encT.fEqL [] [])
theorem kid_rows_eq {rs : List Rz} (hl : rs.length <= 30) (a : Tx) : ∃ ls, m_kid_rows [.d (.list (rs.map eZ)), .d (eT a)] = some (.list ((rs.filter fun r => decide (r.h = a)).map eZ), ls) := by
 let τ : DS := [some (.d (.list (rs.map eZ))), some (.d (eT a))]
 refine ⟨[.d (.list (rs.map eZ)), .d (eT a)], ?_⟩
 unfold m_kid_rows
 refine fun_rt (τ := τ) (ret_rt ?_) rfl rfl
 refine lcg (enc := eZ) (rs := rs) (ex := [some (.d (eT a))]) (fun r => decide (r.h = a)) eZ rfl (by omega) rfl rfl (fun r hr => ?_) (fun r hr _ => rfl)
 let t : DS := [some (.d (eZ r)), some (.d (eT a))]
 exact tst (op2 (x := eT r.h) (y := eT a) (τ1 := t) (call_eq (τ1 := t) (ds := [eZ r]) rfl rfl (row_holder_eq r)) rfl (fEqT _ _))
def kidsZ (rs : List Rz) (a : Tx) : List Tx := (rs.filter fun r => decide (r.h = a)).map (·.n)
def chZ (rs : List Rz) (a : Tx) : List Tx := (hsR rs.reverse a).tail
theorem kids_len (rs : List Rz) (a : Tx) : (kidsZ rs a).length <= rs.length := by
 unfold kidsZ; rw [List.length_map]; exact List.length_filter_le ..
theorem ch_len (rs : List Rz) (a : Tx) : (chZ rs a).length <= rs.length := by
 unfold chZ
 have := hsR_len rs.reverse a
 rw [List.length_reverse] at this
 rw [List.length_tail]; omega
theorem kids_eq {rs : List Rz} (hl : rs.length <= 30) (a : Tx) : ∃ ls, m_kids_of [.d (.list (rs.map eZ)), .d (eT a)] = some (.list ((kidsZ rs a).map eT), ls) := by
 obtain ⟨l1, e1⟩ := kid_rows_eq hl a
 let τ : DS := [some (.d (.list (rs.map eZ))), some (.d (eT a))]
 refine ⟨[.d (.list (rs.map eZ)), .d (eT a)], ?_⟩
 unfold m_kids_of
 refine fun_rt (τ := τ) (ret_rt ?_) rfl rfl
 have hit : dIL (dCall m_kid_rows (dACons (dVar 0) (dACons (dVar 1) dANil))) τ = some ((rs.filter fun r => decide (r.h = a)).map eZ, τ) := by
  unfold dIL
  rw [call_eq (τ1 := τ) (rs := [.d (.list (rs.map eZ)), .d (eT a)]) (ds := [.list (rs.map eZ), eT a]) rfl rfl e1]; rfl
 have hz : (rs.filter fun r => decide (r.h = a)).length <= rs.length := List.length_filter_le ..
 have := lcg (enc := eZ) (rs := rs.filter fun r => decide (r.h = a)) (τ := τ) (fr := []) (ex := []) (c := dYes) (e := dCall m_row_name (dACons (dVar 0) dANil)) (fun _ => true) (fun r => eT r.n) hit (by omega) rfl rfl (fun r _ => rfl) (fun r _ _ => rfl)
 refine this.trans ?_
 rw [filt_true]
 unfold kidsZ
 rw [List.map_map]; rfl
theorem no_row_eq {rs : List Rz} {a : Tx} (h : a ∉ rs.map (·.n)) : ∃ ls, m_L_no_row [.d (.list (rs.map eZ)), .d (eT a)] = some (.bool true, ls) := by
 obtain ⟨ls, e⟩ := row_found_eq rs a
 rw [fnd_none fun q hq z => h (List.mem_map.mpr ⟨q, hq, z⟩)] at e
 refine ⟨[.d (.list (rs.map eZ)), .d (eT a)], ?_⟩
 unfold m_L_no_row
 dsimp only
 rw [e]; rfl
theorem tborG_eq {i : Nat} {f : DT} {τ τ1 : DS} {b : Bool} {xs : List PyData} (hi : τ[i]? = some (some (.g (.list xs)))) (hf : f (τ.set i (some (.d (.list xs)))) = some (b, τ1)) (hx : τ1.all okM = true) : dTBorG i f τ = some (b, τ1.set i (some (.g (.list xs)))) := by
 unfold dTBorG
 rw [hi]
 dsimp only
 rw [hf]
 dsimp only [Option.bind]
 rw [if_pos hx]
theorem appG_eq {i : Nat} {e1 : DX} {a : DA} {τ τ1 τ2 : DS} {rows rows' : List PyData} {y : Int} {d : PyData} {rs : List Ar} (hi : τ[i]? = some (some (.g (.list rows)))) (he : e1 (τ.set i (some (.d (.list rows)))) = some (.int y, τ1)) (ha : a τ1 = some (rs, τ2)) (hd : allD rs = some [d]) (hf : fixD d = true /\ τ2.all okM = true) (h2 : app2 rows y d = some rows') :
  dAppG i e1 a τ = some (.nx (τ2.set i (some (.g (.list rows'))))) := by
 unfold dAppG
 rw [hi]
 dsimp only
 rw [he]
 dsimp only [Option.bind]
 rw [ha]
 dsimp only
 rw [hd]
 dsimp only
 rw [if_pos hf, h2]; rfl
theorem dfx_eq {f : DX} {τ τ1 : DS} {ds : List PyData} (h : f τ = some (.list ds, τ1)) (hf : fixDs ds = true) : dFx f τ = some (.list ds, τ1) := by
 unfold dFx
 rw [h]
 dsimp only [Option.bind]
 rw [if_pos hf]
theorem gcs_eq {e : DX} {r : DS -> Option (List PyData × DS)} {τ τ1 τ2 : DS} {d : PyData} {ds : List PyData} (h : e τ = some (d, τ1)) (k : r τ1 = some (ds, τ2)) : dGCs e r τ = some (d :: ds, τ2) := by
 unfold dGCs
 rw [h]
 dsimp only [Option.bind]
 rw [k]; rfl
theorem m_law_holds (ns : List Int) (hns : ns.length <= 63) : ∃ ls, m_law [.c (ns.map .int)] = some (.bool true, ls) := by
 obtain ⟨v, lb, eb⟩ := L_big (ns := ns) (k := 0) (by decide)
 have dm := modI (i := v) (j := 15) (by decide)
 obtain ⟨c, lc, ec', hc⟩ := many_eq (ns := ns) (a := v % 15) (b := 24)
 obtain ⟨rs, lr, er, ok, _, hle, _⟩ := scene_of_eq (ns := ns) (f := 1) (m := c) (by decide) (by rcases hc with rfl | rfl <;> omega) (by rcases hc with rfl | rfl <;> omega)
 have hl : rs.length <= 30 := by rcases hc with rfl | rfl <;> omega
 let D : PyData := .list (rs.map eZ)
 let C : Option L := some (.c (ns.map .int))
 let R : Option L := some (.d D)
 let I : Int -> Option L := fun i => some (.d (.int i))
 let N : Option L := none
 let s0 : DS := [C, N, N, N, N, N, N, N, N, N]
 let s1 : DS := [C, R, N, N, N, N, N, N, N, N]
 let s2 : DS := [C, R, R, N, N, N, N, N, N, N]
 have z1 : dAsg (dCallC 0 m_L_scene_of (dACons (dC (.int 1)) (dACons (dCallC 0 m_L_many (dACons (dOp fMod (dCallC 0 m_L_big (dACons (dC (.int 0)) dANil)) (dC (.int 15))) (dACons (dC (.int 24)) dANil))) dANil))) (dN 1) s0 = some (.nx s1) := by
  refine asg_nx (d := D) (τ1 := s0) (callC_eq (xs := ns.map .int) (τ1 := s0) (rs := [.d (.int 1), .d (.int c)]) (ds := [.int 1, .int c]) (acc (τ1 := s0) rfl (acc (τ1 := s0) ?_ rfl)) rfl rfl er) rfl
  refine callC_eq (xs := ns.map .int) (τ1 := s0) (rs := [.d (.int (v % 15)), .d (.int 24)]) (ds := [.int (v % 15), .int 24]) (acc (τ1 := s0) ?_ rfl) rfl rfl ec'
  exact op2 (x := .int v) (y := .int 15) (τ1 := s0) (callC_eq (xs := ns.map .int) (τ1 := s0) (rs := [.d (.int 0)]) (ds := [.int 0]) rfl rfl rfl eb) rfl dm
 have z2 : dAsg (dApp fListOf (dACons (dVar 1) dANil)) (dN 2) s1 = some (.nx s2) := asg_nx (d := D) (τ1 := s1) (app1 (d := D) (τ1 := s1) rfl rfl) rfl
 let L3 : List Tx -> List Tx -> List Tx -> PyData := fun a b c => .list [.list (a.map eT), .list (b.map eT), .list (c.map eT)]
 let zz : Tx := ⟨"zz", by decide +kernel⟩
 let st : Option L -> Option L -> Option L -> Option L -> Option L -> DS := fun o3 o4 o5 o6 o7 => [C, R, R, o3, o4, o5, o6, o7, N, N]
 -- the three lists, looked at and changed
 have in3 : ∀ (a b c : List Tx) (o3 o4 : Option L) (o7 : Option L), a.length <= 40 -> b.length <= 40 -> c.length <= 40 -> nM o3 -> nM o4 -> nM o7 ->
   ∃ o5', dFor (dR1 (dACons (dC (.int 3)) dANil)) (dN 7) (dSeq (dIfS (dTBorG 5 (dTNot (dTest (dCall m_L_texts (dACons (dOp fIxL (dVar 5) (dVar 7)) (dACons (dOp fIxL (dVar 6) (dVar 7)) dANil)))))) (dRet (dC (.bool false))) dNil) (dAppG 5 (dVar 7) (dACons (dC (.str "zz")) dANil))) (st o3 o4 (some (.g (L3 a b c))) (some (.d (L3 a b c))) o7) = some (.nx (st o3 o4 (some (.g o5')) (some (.d (L3 a b c))) (I 2))) := by
  intro a b c o3 o4 o7 ha hb hc n3 n4 n7
  let B : DB := dSeq (dIfS (dTBorG 5 (dTNot (dTest (dCall m_L_texts (dACons (dOp fIxL (dVar 5) (dVar 7)) (dACons (dOp fIxL (dVar 6) (dVar 7)) dANil)))))) (dRet (dC (.bool false))) dNil) (dAppG 5 (dVar 7) (dACons (dC (.str "zz")) dANil))
  have hok : ∀ X k, List.all ([C, R, R, o3, o4, some (.d X), some (.d (L3 a b c)), I k, N, N] : DS) okM = true := fun X k => by
   show (true && (true && (true && (okM o3 && (okM o4 && (true && (true && (true && (true && (true && true)))))))))) = true
   rw [okM_n n3, okM_n n4]; rfl
  have step : ∀ (k : Int) (xs ys : List PyData) (t : List Tx), t.length <= 40 -> atI xs k = some (.list (t.map eT)) -> atI [PyData.list (a.map eT), PyData.list (b.map eT), PyData.list (c.map eT)] k = some (PyData.list (t.map eT)) -> app2 xs k (eT zz) = some ys ->
    B (st o3 o4 (some (.g (.list xs))) (some (.d (L3 a b c))) (I k)) = some (.nx (st o3 o4 (some (.g (.list ys))) (some (.d (L3 a b c))) (I k))) := fun k xs ys t ht hx hd hy => by
   obtain ⟨l1, e1⟩ := texts_eq t (by omega)
   let τ := st o3 o4 (some (.g (.list xs))) (some (.d (L3 a b c))) (I k)
   let τd := st o3 o4 (some (.d (.list xs))) (some (.d (L3 a b c))) (I k)
   have c1 : dTBorG 5 (dTNot (dTest (dCall m_L_texts (dACons (dOp fIxL (dVar 5) (dVar 7)) (dACons (dOp fIxL (dVar 6) (dVar 7)) dANil))))) τ = some (false, τ) :=
    tborG_eq (i := 5) (xs := xs) (τ1 := τd) rfl (tnot (b := true) (tst (call_eq (τ1 := τd) (rs := [.d (.list (t.map eT)), .d (.list (t.map eT))]) (ds := [.list (t.map eT), .list (t.map eT)]) (acc (τ1 := τd) (op2 (x := .list xs) (y := .int k) (τ1 := τd) rfl rfl hx) (acc (τ1 := τd) (op2 (x := L3 a b c) (y := .int k) (τ1 := τd) rfl rfl hd) rfl)) rfl e1))) (hok _ _)
   refine (seq_nx (τ1 := τ) ((ifs_f (τ1 := τ) c1).trans rfl)).trans ?_
   exact appG_eq (i := 5) (rows := xs) (y := k) (d := eT zz) (τ1 := τd) (τ2 := τd) rfl rfl rfl rfl ⟨rfl, hok _ _⟩ hy
  have ap : ∀ (xs : List PyData) (k : Nat) (t : List Tx), xs.length = 3 -> k < 3 -> xs[k]? = some (.list (t.map eT)) -> t.length <= 40 -> app2 xs (k : Int) (eT zz) = some (xs.set k (.list (t.map eT ++ [eT zz]))) := fun xs k t hx hk e ht => by
   unfold app2 ixN
   rw [if_pos (by omega), if_pos (by omega)]
   dsimp only [Option.bind]
   rw [Int.toNat_natCast, e]
   dsimp only
   rw [if_pos ⟨encT.fixL _, by rw [List.length_map]; exact Nat.lt_of_le_of_lt ht (by decide)⟩]
  let A := a.map eT
  let B' := b.map eT
  let C' := c.map eT
  let Z := eT zz
  refine ⟨.list [.list (A ++ [Z]), .list (B' ++ [Z]), .list (C' ++ [Z])], ?_⟩
  refine (for_eq (r1_eq (n := 3) (τ1 := st o3 o4 (some (.g (L3 a b c))) (some (.d (L3 a b c))) o7) rfl (by decide) (by decide))).trans ?_
  show dLoop (dN 7) B [.int 0, .int 1, .int 2] (st o3 o4 (some (.g (L3 a b c))) (some (.d (L3 a b c))) o7) = _
  have d0 : ∀ (G : Option L) (k : Int) (o : Option L), nM o -> dN 7 (.int k) (st o3 o4 G (some (.d (L3 a b c))) o) = some (st o3 o4 G (some (.d (L3 a b c))) (I k)) := fun G k o ho => dN_eq (o := o) rfl ho
  have p0 := step 0 [.list A, .list B', .list C'] [.list (A ++ [Z]), .list B', .list C'] a ha rfl rfl (ap [.list A, .list B', .list C'] 0 a rfl (by decide) rfl ha)
  have p1 := step 1 [.list (A ++ [Z]), .list B', .list C'] [.list (A ++ [Z]), .list (B' ++ [Z]), .list C'] b hb rfl rfl (ap [.list (A ++ [Z]), .list B', .list C'] 1 b rfl (by decide) rfl hb)
  have p2 := step 2 [.list (A ++ [Z]), .list (B' ++ [Z]), .list C'] [.list (A ++ [Z]), .list (B' ++ [Z]), .list (C' ++ [Z])] c hc rfl rfl (ap [.list (A ++ [Z]), .list (B' ++ [Z]), .list C'] 2 c rfl (by decide) rfl hc)
  have lc : ∀ {d : PyData} {ds : List PyData} {τ τ1 τ2 : DS}, dN 7 d τ = some τ1 -> B τ1 = some (.nx τ2) -> dLoop (dN 7) B (d :: ds) τ = dLoop (dN 7) B ds τ2 := fun h1 h2 => by
   rw [dLoop, h1]
   dsimp only [Option.bind]
   rw [h2]
  refine (lc (d0 _ 0 o7 n7) p0).trans ((lc (d0 _ 1 _ nM_d) p1).trans ((lc (d0 _ 2 _ nM_d) p2).trans rfl))
 have krow : ∀ (o3 : Option L) (o5 : Option L) (o6 o7 : Option L) (r : Rz), r ∈ rs -> nM o3 -> nM o6 -> nM o7 -> okM o5 = true -> ∃ o5' o6', okM o5' = true /\ nM o6' /\
   dSeq (dIfS (dTest (dOp fNe (dCall m_row_of (dACons (dVar 2) (dACons (dOp fIxT (dVar 4) (dC (.int 0))) dANil))) (dVar 4))) (dRet (dC (.bool false))) dNil) (dSeq (dSetG 1 5 (dLstG (dGCs (dFx (dCall m_kids_of (dACons (dVar 2) (dACons (dOp fIxT (dVar 4) (dC (.int 0))) dANil)))) (dGCs (dFx (dCall m_holders_of (dACons (dVar 2) (dACons (dOp fIxT (dVar 4) (dC (.int 0))) dANil)))) (dGCs (dFx (dCall m_parts_in (dACons (dVar 2) (dACons (dOp fIxT (dVar 4) (dC (.int 0))) dANil)))) dGNl))))) (dSeq (dAsg (dLst (dACons (dLC 1 [4] (dIL (dVar 1)) (dN 0) (dTest (dOp fEq (dOp fIxT (dVar 0) (dC (.int 1))) (dOp fIxT (dVar 1) (dC (.int 0))))) (dOp fIxT (dVar 0) (dC (.int 0)))) (dACons (dCall m_L_chain (dACons (dVar 1) (dACons (dOp fIxT (dVar 4) (dC (.int 0))) dANil))) (dACons (dCall m_L_inner (dACons (dVar 1) (dACons (dOp fIxT (dVar 4) (dC (.int 0))) dANil))) dANil)))) (dN 6)) (dFor (dR1 (dACons (dC (.int 3)) dANil)) (dN 7) (dSeq (dIfS (dTBorG 5 (dTNot (dTest (dCall m_L_texts (dACons (dOp fIxL (dVar 5) (dVar 7)) (dACons (dOp fIxL (dVar 6) (dVar 7)) dANil)))))) (dRet (dC (.bool false))) dNil) (dAppG 5 (dVar 7) (dACons (dC (.str "zz")) dANil)))))) (st o3 (some (.d (eZ r))) o5 o6 o7) = some (.nx (st o3 (some (.d (eZ r))) o5' o6' (I 2))) := by
  intro o3 o5 o6 o7 r hr n3 n6 n7 ok5
  let X : Option L := some (.d (eZ r))
  let τ := st o3 X o5 o6 o7
  obtain ⟨la, ea⟩ := row_of_eq ok hr
  obtain ⟨lb, ebk⟩ := kids_eq hl r.n
  obtain ⟨lh, eh⟩ := holders_eq ok hl (a := r.n) (.inr ⟨r, hr, rfl⟩)
  obtain ⟨lp, ep⟩ := parts_eq ok hl r.n
  obtain ⟨lch, ech⟩ := chain_eq ok hl (a := r.n) ⟨r, hr, rfl⟩
  obtain ⟨li, ei⟩ := inner_eq ok hl r.n
  have ar : ∀ (i : Nat) (τ : DS), τ[i]? = some R -> τ[4]? = some X -> dACons (dVar i) (dACons (dOp fIxT (dVar 4) (dC (.int 0))) dANil) τ = some ([.d D, .d (eT r.n)], τ) := fun i τ h1 h2 =>
   acc (τ1 := τ) (by unfold dVar; rw [h1]) (acc (τ1 := τ) (op2 (x := eZ r) (y := .int 0) (τ1 := τ) (by unfold dVar; rw [h2]) rfl rfl) rfl)
  have y1 : dTest (dOp fNe (dCall m_row_of (dACons (dVar 2) (dACons (dOp fIxT (dVar 4) (dC (.int 0))) dANil))) (dVar 4)) τ = some (false, τ) :=
   tst (op2 (x := eZ r) (y := eZ r) (τ1 := τ) (call_eq (τ1 := τ) (ds := [D, eT r.n]) (ar 2 τ rfl rfl) rfl ea) rfl (by rw [encZ.fNe, decide_eq_true rfl]; rfl))
  let W := L3 (kidsZ rs r.n) (chZ rs r.n) (innZ rs r.n)
  have y2 : dSetG 1 5 (dLstG (dGCs (dFx (dCall m_kids_of (dACons (dVar 2) (dACons (dOp fIxT (dVar 4) (dC (.int 0))) dANil)))) (dGCs (dFx (dCall m_holders_of (dACons (dVar 2) (dACons (dOp fIxT (dVar 4) (dC (.int 0))) dANil)))) (dGCs (dFx (dCall m_parts_in (dACons (dVar 2) (dACons (dOp fIxT (dVar 4) (dC (.int 0))) dANil)))) dGNl)))) τ = some (.nx (st o3 X (some (.g W)) o6 o7)) := by
   have q : dLstG (dGCs (dFx (dCall m_kids_of (dACons (dVar 2) (dACons (dOp fIxT (dVar 4) (dC (.int 0))) dANil)))) (dGCs (dFx (dCall m_holders_of (dACons (dVar 2) (dACons (dOp fIxT (dVar 4) (dC (.int 0))) dANil)))) (dGCs (dFx (dCall m_parts_in (dACons (dVar 2) (dACons (dOp fIxT (dVar 4) (dC (.int 0))) dANil)))) dGNl))) τ = some (W, τ) := by
    unfold dLstG
    rw [gcs_eq (τ1 := τ) (dfx_eq (call_eq (τ1 := τ) (ds := [D, eT r.n]) (ar 2 τ rfl rfl) rfl ebk) (encT.fixL _)) (gcs_eq (τ1 := τ) (dfx_eq (call_eq (τ1 := τ) (ds := [D, eT r.n]) (ar 2 τ rfl rfl) rfl eh) (encT.fixL _)) (gcs_eq (τ1 := τ) (τ2 := τ) (ds := []) (dfx_eq (call_eq (τ1 := τ) (ds := [D, eT r.n]) (ar 2 τ rfl rfl) rfl ep) (encT.fixL _)) rfl))]
    dsimp only [Option.bind]
    rw [if_pos (sz (by simp))]; rfl
   unfold dSetG
   rw [q]
   dsimp only [Option.bind]
   have hk : List.all τ okM = true := by
    show (true && (true && (true && (okM o3 && (true && (okM o5 && (okM o6 && (okM o7 && (true && (true && true)))))))))) = true
    rw [okM_n n3, ok5, okM_n n6, okM_n n7]; rfl
   rw [if_pos ⟨by decide, (by decide : 5 < 10), hk⟩]; rfl
  let τ2 := st o3 X (some (.g W)) o6 o7
  have y3 : dAsg (dLst (dACons (dLC 1 [4] (dIL (dVar 1)) (dN 0) (dTest (dOp fEq (dOp fIxT (dVar 0) (dC (.int 1))) (dOp fIxT (dVar 1) (dC (.int 0))))) (dOp fIxT (dVar 0) (dC (.int 0)))) (dACons (dCall m_L_chain (dACons (dVar 1) (dACons (dOp fIxT (dVar 4) (dC (.int 0))) dANil))) (dACons (dCall m_L_inner (dACons (dVar 1) (dACons (dOp fIxT (dVar 4) (dC (.int 0))) dANil))) dANil)))) (dN 6) τ2 = some (.nx (st o3 X (some (.g W)) (some (.d W)) o7)) := by
   have lk : dLC 1 [4] (dIL (dVar 1)) (dN 0) (dTest (dOp fEq (dOp fIxT (dVar 0) (dC (.int 1))) (dOp fIxT (dVar 1) (dC (.int 0))))) (dOp fIxT (dVar 0) (dC (.int 0))) τ2 = some (.list ((kidsZ rs r.n).map eT), τ2) := by
    have := lcg (enc := eZ) (rs := rs) (τ := τ2) (fr := [4]) (it := dIL (dVar 1)) (ex := [X]) (c := dTest (dOp fEq (dOp fIxT (dVar 0) (dC (.int 1))) (dOp fIxT (dVar 1) (dC (.int 0))))) (e := dOp fIxT (dVar 0) (dC (.int 0))) (fun q => decide (q.h = r.n)) (fun q => eT q.n) rfl (by omega) rfl rfl (fun q _ => by
     let t : DS := [some (.d (eZ q)), X]
     exact tst (op2 (x := eT q.h) (y := eT r.n) (τ1 := t) (op2 (x := eZ q) (y := .int 1) (τ1 := t) rfl rfl rfl) (op2 (x := eZ r) (y := .int 0) (τ1 := t) rfl rfl rfl) (fEqT _ _))) (fun q _ _ => rfl)
    refine this.trans ?_
    unfold kidsZ
    rw [List.map_map]; rfl
   refine asg_nx (d := W) (τ1 := τ2) ?_ (dN_eq (o := o6) rfl n6)
   unfold dLst
   rw [acc (τ1 := τ2) lk (acc (τ1 := τ2) (call_eq (τ1 := τ2) (ds := [D, eT r.n]) (ar 1 τ2 rfl rfl) rfl ech) (acc (τ1 := τ2) (call_eq (τ1 := τ2) (ds := [D, eT r.n]) (ar 1 τ2 rfl rfl) rfl ei) rfl))]
   dsimp only [Option.bind, allD]
   rfl
  have k1 := kids_len rs r.n
  have k2 := ch_len rs r.n
  have k3 := inn_len rs r.n
  obtain ⟨o5', y4⟩ := in3 (kidsZ rs r.n) (chZ rs r.n) (innZ rs r.n) o3 X o7 (by omega) (by omega) (by omega) n3 nM_d n7
  exact ⟨some (.g o5'), some (.d W), rfl, nM_d, (seq_nx (τ1 := τ) ((ifs_f (τ1 := τ) y1).trans rfl)).trans ((seq_nx y2).trans ((seq_nx y3).trans y4))⟩
 -- one turn
 let TB : DB := dSeq (dIfS (dTNot (dTest (dCall m_L_texts (dACons (dCall m_kids_of (dACons (dVar 2) (dACons (dC (.str "")) dANil))) (dACons (dLC 1 [] (dIL (dVar 1)) (dN 0) (dTest (dOp fEq (dOp fIxT (dVar 0) (dC (.int 1))) (dC (.str "")))) (dOp fIxT (dVar 0) (dC (.int 0)))) dANil))))) (dRet (dC (.bool false))) dNil) (dFor (dIL (dVar 1)) (dN 4) (dSeq (dIfS (dTest (dOp fNe (dCall m_row_of (dACons (dVar 2) (dACons (dOp fIxT (dVar 4) (dC (.int 0))) dANil))) (dVar 4))) (dRet (dC (.bool false))) dNil) (dSeq (dSetG 1 5 (dLstG (dGCs (dFx (dCall m_kids_of (dACons (dVar 2) (dACons (dOp fIxT (dVar 4) (dC (.int 0))) dANil)))) (dGCs (dFx (dCall m_holders_of (dACons (dVar 2) (dACons (dOp fIxT (dVar 4) (dC (.int 0))) dANil)))) (dGCs (dFx (dCall m_parts_in (dACons (dVar 2) (dACons (dOp fIxT (dVar 4) (dC (.int 0))) dANil)))) dGNl))))) (dSeq (dAsg (dLst (dACons (dLC 1 [4] (dIL (dVar 1)) (dN 0) (dTest (dOp fEq (dOp fIxT (dVar 0) (dC (.int 1))) (dOp fIxT (dVar 1) (dC (.int 0))))) (dOp fIxT (dVar 0) (dC (.int 0)))) (dACons (dCall m_L_chain (dACons (dVar 1) (dACons (dOp fIxT (dVar 4) (dC (.int 0))) dANil))) (dACons (dCall m_L_inner (dACons (dVar 1) (dACons (dOp fIxT (dVar 4) (dC (.int 0))) dANil))) dANil)))) (dN 6)) (dFor (dR1 (dACons (dC (.int 3)) dANil)) (dN 7) (dSeq (dIfS (dTBorG 5 (dTNot (dTest (dCall m_L_texts (dACons (dOp fIxL (dVar 5) (dVar 7)) (dACons (dOp fIxL (dVar 6) (dVar 7)) dANil)))))) (dRet (dC (.bool false))) dNil) (dAppG 5 (dVar 7) (dACons (dC (.str "zz")) dANil))))))))
 have turn : ∀ (o3 o4 o5 o6 o7 : Option L), nM o3 -> nM o4 -> nM o6 -> nM o7 -> okM o5 = true -> ∃ o4' o5' o6' o7', nM o4' /\ nM o6' /\ nM o7' /\ okM o5' = true /\ TB (st o3 o4 o5 o6 o7) = some (.nx (st o3 o4' o5' o6' o7')) := by
  intro o3 o4 o5 o6 o7 n3 n4 n6 n7 k5
  let τ := st o3 o4 o5 o6 o7
  obtain ⟨lk, ek⟩ := kids_eq hl t0
  have hk := kids_len rs t0
  obtain ⟨lt, et⟩ := texts_eq (kidsZ rs t0) (by omega)
  have lc : dLC 1 [] (dIL (dVar 1)) (dN 0) (dTest (dOp fEq (dOp fIxT (dVar 0) (dC (.int 1))) (dC (.str "")))) (dOp fIxT (dVar 0) (dC (.int 0))) τ = some (.list ((kidsZ rs t0).map eT), τ) := by
   have := lcg (enc := eZ) (rs := rs) (τ := τ) (fr := []) (it := dIL (dVar 1)) (ex := []) (c := dTest (dOp fEq (dOp fIxT (dVar 0) (dC (.int 1))) (dC (.str "")))) (e := dOp fIxT (dVar 0) (dC (.int 0))) (fun q => decide (q.h = t0)) (fun q => eT q.n) rfl (by omega) rfl rfl (fun q _ => by
    let t : DS := [some (.d (eZ q))]
    exact tst (op2 (x := eT q.h) (y := eT t0) (τ1 := t) (op2 (x := eZ q) (y := .int 1) (τ1 := t) rfl rfl rfl) rfl (fEqT _ _))) (fun q _ _ => rfl)
   refine this.trans ?_
   unfold kidsZ
   rw [List.map_map]; rfl
  have y1 : dTNot (dTest (dCall m_L_texts (dACons (dCall m_kids_of (dACons (dVar 2) (dACons (dC (.str "")) dANil))) (dACons (dLC 1 [] (dIL (dVar 1)) (dN 0) (dTest (dOp fEq (dOp fIxT (dVar 0) (dC (.int 1))) (dC (.str "")))) (dOp fIxT (dVar 0) (dC (.int 0)))) dANil)))) τ = some (false, τ) :=
   tnot (b := true) (tst (call_eq (τ1 := τ) (rs := [.d (.list ((kidsZ rs t0).map eT)), .d (.list ((kidsZ rs t0).map eT))]) (ds := [.list ((kidsZ rs t0).map eT), .list ((kidsZ rs t0).map eT)]) (acc (τ1 := τ) (call_eq (τ1 := τ) (rs := [.d D, .d (eT t0)]) (ds := [D, eT t0]) rfl rfl ek) (acc (τ1 := τ) lc rfl)) rfl et))
  have lp := loop_pre (enc := eZ) (xs := rs) (τ := τ) (g := dN 4) (b := dSeq (dIfS (dTest (dOp fNe (dCall m_row_of (dACons (dVar 2) (dACons (dOp fIxT (dVar 4) (dC (.int 0))) dANil))) (dVar 4))) (dRet (dC (.bool false))) dNil) (dSeq (dSetG 1 5 (dLstG (dGCs (dFx (dCall m_kids_of (dACons (dVar 2) (dACons (dOp fIxT (dVar 4) (dC (.int 0))) dANil)))) (dGCs (dFx (dCall m_holders_of (dACons (dVar 2) (dACons (dOp fIxT (dVar 4) (dC (.int 0))) dANil)))) (dGCs (dFx (dCall m_parts_in (dACons (dVar 2) (dACons (dOp fIxT (dVar 4) (dC (.int 0))) dANil)))) dGNl))))) (dSeq (dAsg (dLst (dACons (dLC 1 [4] (dIL (dVar 1)) (dN 0) (dTest (dOp fEq (dOp fIxT (dVar 0) (dC (.int 1))) (dOp fIxT (dVar 1) (dC (.int 0))))) (dOp fIxT (dVar 0) (dC (.int 0)))) (dACons (dCall m_L_chain (dACons (dVar 1) (dACons (dOp fIxT (dVar 4) (dC (.int 0))) dANil))) (dACons (dCall m_L_inner (dACons (dVar 1) (dACons (dOp fIxT (dVar 4) (dC (.int 0))) dANil))) dANil)))) (dN 6)) (dFor (dR1 (dACons (dC (.int 3)) dANil)) (dN 7) (dSeq (dIfS (dTBorG 5 (dTNot (dTest (dCall m_L_texts (dACons (dOp fIxL (dVar 5) (dVar 7)) (dACons (dOp fIxL (dVar 6) (dVar 7)) dANil)))))) (dRet (dC (.bool false))) dNil) (dAppG 5 (dVar 7) (dACons (dC (.str "zz")) dANil)))))))
   (fun (pre : List Rz) τ => ∃ o4 o5 o6 o7, nM o4 /\ nM o6 /\ nM o7 /\ okM o5 = true /\ τ = st o3 o4 o5 o6 o7) ⟨o4, o5, o6, o7, n4, n6, n7, k5, rfl⟩ (by
    rintro pre r post τ e ⟨o4, o5, o6, o7, n4, n6, n7, k5, rfl⟩
    obtain ⟨o5', o6', k5', n6', er⟩ := krow o3 o5 o6 o7 r (split_mem e) n3 n6 n7 k5
    exact ⟨_, _, dN_eq (o := o4) rfl n4, er, _, _, _, _, nM_d, n6', nM_d, k5', rfl⟩)
  obtain ⟨τ', e, o4', o5', o6', o7', n4', n6', n7', k5', rfl⟩ := lp
  exact ⟨o4', o5', o6', o7', n4', n6', n7', k5', (seq_nx (τ1 := τ) ((ifs_f (τ1 := τ) y1).trans rfl)).trans ((for_eq (ds := rs.map eZ) (τ1 := τ) rfl).trans e)⟩
 have lp := loop_pre (enc := fun (k : Nat) => PyData.int (k : Int)) (xs := List.range 2) (τ := s2) (g := dN 3) (b := TB) (fun (pre : List Nat) τ => ∃ o3 o4 o5 o6 o7, nM o3 /\ nM o4 /\ nM o6 /\ nM o7 /\ okM o5 = true /\ τ = st o3 o4 o5 o6 o7) ⟨N, N, N, N, N, nM_none, nM_none, nM_none, nM_none, rfl, rfl⟩ (by
  rintro pre k post τ e ⟨o3, o4, o5, o6, o7, n3, n4, n6, n7, k5, rfl⟩
  obtain ⟨o4', o5', o6', o7', n4', n6', n7', k5', er⟩ := turn (I (k : Int)) o4 o5 o6 o7 nM_d n4 n6 n7 k5
  exact ⟨_, _, dN_eq (o := o3) rfl n3, er, _, _, _, _, _, nM_d, n4', n6', n7', k5', rfl⟩)
 obtain ⟨τ', e3, o3, o4, o5, o6, o7, n3, n4, n6, n7, k5, rfl⟩ := lp
 rw [<- rng_nat] at e3
 let NM : PyData := .list ((rs.map (·.n)).map eT)
 let sn : Option L -> DS := fun o9 => [C, R, R, o3, o4, o5, o6, o7, some (.d NM), o9]
 have z4 : dAsg (dLC 1 [] (dIL (dVar 1)) (dN 0) dYes (dOp fIxT (dVar 0) (dC (.int 0)))) (dN 8) (st o3 o4 o5 o6 o7) = some (.nx (sn N)) := by
  have := lcg (enc := eZ) (rs := rs) (τ := st o3 o4 o5 o6 o7) (fr := []) (it := dIL (dVar 1)) (ex := []) (c := dYes) (e := dOp fIxT (dVar 0) (dC (.int 0))) (fun _ => true) (fun r => eT r.n) rfl (by omega) rfl rfl (fun r _ => rfl) (fun r _ _ => rfl)
  rw [filt_true] at this
  refine asg_nx (d := NM) (τ1 := st o3 o4 o5 o6 o7) (this.trans ?_) rfl
  show _ = some (PyData.list ((rs.map (·.n)).map eT), _)
  rw [List.map_map]; rfl
 obtain ⟨v16, l16, e16⟩ := L_big (ns := ns) (k := 16) (by decide)
 obtain ⟨nm, w, ln, en, _, _, _⟩ := name_of_eq v16
 let str : Tx := ⟨"strange", by decide +kernel⟩
 have lp2 := loop_pre (enc := eT) (xs := [nm, str]) (τ := sn N) (g := dN 9) (b := dIfS (dTAnd (dTest (dOp (fIn true) (dVar 9) (dVar 8))) (dTNot (dTest (dCall m_L_no_row (dACons (dVar 2) (dACons (dVar 9) dANil)))))) (dRet (dC (.bool false))) dNil) (fun (pre : List Tx) τ => ∃ o9, nM o9 /\ τ = sn o9) ⟨N, nM_none, rfl⟩ (by
  rintro pre a post τ e ⟨o9, n9, rfl⟩
  let τ1 := sn (some (.d (eT a)))
  refine ⟨τ1, τ1, dN_eq (o := o9) rfl n9, ?_, _, nM_d, rfl⟩
  have c1 : dTest (dOp (fIn true) (dVar 9) (dVar 8)) τ1 = some (!decide (a ∈ rs.map (·.n)), τ1) := tst (op2 (x := eT a) (y := NM) (τ1 := τ1) rfl rfl (inLn _ _))
  refine (ifs_f (τ1 := τ1) ?_).trans rfl
  by_cases h : a ∈ rs.map (·.n)
  ·rw [decide_eq_true h] at c1
   unfold dTAnd
   rw [c1]; rfl
  ·rw [decide_eq_false h] at c1
   obtain ⟨l1, e1⟩ := no_row_eq h
   exact (tand c1 (tnot (b := true) (tst (call_eq (τ1 := τ1) (rs := [.d D, .d (eT a)]) (ds := [D, eT a]) rfl rfl e1)))).trans rfl)
 obtain ⟨τ', e5, o9, n9, rfl⟩ := lp2
 have it5 : dIT (dTup (dACons (dOp fIxT (dCall m_L_name_of (dACons (dCallC 0 m_L_big (dACons (dC (.int 16)) dANil)) dANil)) (dC (.int 0))) (dACons (dC (.str "strange")) dANil))) (sn N) = some ([nm, str].map eT, sn N) := by
  unfold dIT
  rw [tup_eq (τ1 := sn N) (rs := [.d (eT nm), .d (eT str)]) (ds := [eT nm, eT str]) (acc (τ1 := sn N) (op2 (x := .tuple [eT nm, .int w]) (y := .int 0) (τ1 := sn N) (call_eq (τ1 := sn N) (rs := [.d (.int v16)]) (ds := [.int v16]) (acc (τ1 := sn N) (callC_eq (xs := ns.map .int) (τ1 := sn N) (rs := [.d (.int 16)]) (ds := [.int 16]) rfl rfl rfl e16) rfl) rfl en) rfl rfl) rfl) rfl (by simp)]
  rfl
 refine ⟨[.c (ns.map .int)], ?_⟩
 unfold m_law
 refine fun_rt (τ := sn o9) ?_ rfl rfl
 refine (seq_nx z1).trans ((seq_nx z2).trans ((seq_nx ((for_eq (r1_eq (n := 2) (τ1 := s2) rfl (by decide) (by decide))).trans e3)).trans ((seq_nx z4).trans ((seq_nx ((for_eq it5).trans e5)).trans (ret_rt ?_)))))
 exact op2 (x := D) (y := D) (τ1 := sn o9) rfl rfl (by rw [encZ.fEqL, decide_eq_true rfl])
theorem all_mk {l : PySem.W.OpenLaw} {w : World} {K : PySem.W.Frag} {h : Heap} {mg : Str -> Option Value} {fa : Addr} (X : K.In h) (G : h.Ns mainGlobals mg) (hfa : mg "law" = some (.ref fa))
  {f0 : Addr} {od0 an0 : Option Addr} {sl0 : Array (Option Value)} {oc0 kV0 dc0 pm0 cd0 ct0 : Value}
  (a0 : PySem.W.nsIn K mainGlobals "_law_name_of" = some (some (.ref f0))) (l0 : K.lookup f0 = some ⟨oc0, od0, .func (PySem.W.fnOf "_law_name_of" "_law_name_of" (defArgs s_L_name_of) (defBody s_L_name_of) (defScope s_L_name_of) .none kV0 dc0 pm0 an0 cd0 ct0), sl0⟩) (c0 : PySem.W.codeIn K cd0 "_law_name_of" = true) (k0 : PySem.W.keepIn K (.ref f0) = true)
  {f1 : Addr} {od1 an1 : Option Addr} {sl1 : Array (Option Value)} {oc1 kV1 dc1 pm1 cd1 ct1 : Value}
  (a1 : PySem.W.nsIn K mainGlobals "_law_step_of" = some (some (.ref f1))) (l1 : K.lookup f1 = some ⟨oc1, od1, .func (PySem.W.fnOf "_law_step_of" "_law_step_of" (defArgs s_L_step_of) (defBody s_L_step_of) (defScope s_L_step_of) .none kV1 dc1 pm1 an1 cd1 ct1), sl1⟩) (c1 : PySem.W.codeIn K cd1 "_law_step_of" = true) (k1 : PySem.W.keepIn K (.ref f1) = true)
  {f2 : Addr} {od2 an2 : Option Addr} {sl2 : Array (Option Value)} {oc2 kV2 dc2 pm2 cd2 ct2 : Value}
  (a2 : PySem.W.nsIn K mainGlobals "_law_up" = some (some (.ref f2))) (l2 : K.lookup f2 = some ⟨oc2, od2, .func (PySem.W.fnOf "_law_up" "_law_up" (defArgs s_L_up) (defBody s_L_up) (defScope s_L_up) .none kV2 dc2 pm2 an2 cd2 ct2), sl2⟩) (c2 : PySem.W.codeIn K cd2 "_law_up" = true) (k2 : PySem.W.keepIn K (.ref f2) = true)
  {f3 : Addr} {od3 an3 : Option Addr} {sl3 : Array (Option Value)} {oc3 kV3 dc3 pm3 cd3 ct3 : Value}
  (a3 : PySem.W.nsIn K mainGlobals "_law_low" = some (some (.ref f3))) (l3 : K.lookup f3 = some ⟨oc3, od3, .func (PySem.W.fnOf "_law_low" "_law_low" (defArgs s_L_low) (defBody s_L_low) (defScope s_L_low) .none kV3 dc3 pm3 an3 cd3 ct3), sl3⟩) (c3 : PySem.W.codeIn K cd3 "_law_low" = true) (k3 : PySem.W.keepIn K (.ref f3) = true)
  {f4 : Addr} {od4 an4 : Option Addr} {sl4 : Array (Option Value)} {oc4 kV4 dc4 pm4 cd4 ct4 : Value}
  (a4 : PySem.W.nsIn K mainGlobals "_law_share_of" = some (some (.ref f4))) (l4 : K.lookup f4 = some ⟨oc4, od4, .func (PySem.W.fnOf "_law_share_of" "_law_share_of" (defArgs s_L_share_of) (defBody s_L_share_of) (defScope s_L_share_of) .none kV4 dc4 pm4 an4 cd4 ct4), sl4⟩) (c4 : PySem.W.codeIn K cd4 "_law_share_of" = true) (k4 : PySem.W.keepIn K (.ref f4) = true)
  {f5 : Addr} {od5 an5 : Option Addr} {sl5 : Array (Option Value)} {oc5 kV5 dc5 pm5 cd5 ct5 : Value}
  (a5 : PySem.W.nsIn K mainGlobals "_law_paint_of" = some (some (.ref f5))) (l5 : K.lookup f5 = some ⟨oc5, od5, .func (PySem.W.fnOf "_law_paint_of" "_law_paint_of" (defArgs s_L_paint_of) (defBody s_L_paint_of) (defScope s_L_paint_of) .none kV5 dc5 pm5 an5 cd5 ct5), sl5⟩) (c5 : PySem.W.codeIn K cd5 "_law_paint_of" = true) (k5 : PySem.W.keepIn K (.ref f5) = true)
  {f6 : Addr} {od6 an6 : Option Addr} {sl6 : Array (Option Value)} {oc6 kV6 dc6 pm6 cd6 ct6 : Value}
  (a6 : PySem.W.nsIn K mainGlobals "_law_stencil_of" = some (some (.ref f6))) (l6 : K.lookup f6 = some ⟨oc6, od6, .func (PySem.W.fnOf "_law_stencil_of" "_law_stencil_of" (defArgs s_L_stencil_of) (defBody s_L_stencil_of) (defScope s_L_stencil_of) .none kV6 dc6 pm6 an6 cd6 ct6), sl6⟩) (c6 : PySem.W.codeIn K cd6 "_law_stencil_of" = true) (k6 : PySem.W.keepIn K (.ref f6) = true)
  {f7 : Addr} {od7 an7 : Option Addr} {sl7 : Array (Option Value)} {oc7 kV7 dc7 pm7 cd7 ct7 : Value}
  (a7 : PySem.W.nsIn K mainGlobals "_law_size_of" = some (some (.ref f7))) (l7 : K.lookup f7 = some ⟨oc7, od7, .func (PySem.W.fnOf "_law_size_of" "_law_size_of" (defArgs s_L_size_of) (defBody s_L_size_of) (defScope s_L_size_of) .none kV7 dc7 pm7 an7 cd7 ct7), sl7⟩) (c7 : PySem.W.codeIn K cd7 "_law_size_of" = true) (k7 : PySem.W.keepIn K (.ref f7) = true)
  {f8 : Addr} {od8 an8 : Option Addr} {sl8 : Array (Option Value)} {oc8 kV8 dc8 pm8 cd8 ct8 : Value}
  (a8 : PySem.W.nsIn K mainGlobals "_law_word_of" = some (some (.ref f8))) (l8 : K.lookup f8 = some ⟨oc8, od8, .func (PySem.W.fnOf "_law_word_of" "_law_word_of" (defArgs s_L_word_of) (defBody s_L_word_of) (defScope s_L_word_of) .none kV8 dc8 pm8 an8 cd8 ct8), sl8⟩) (c8 : PySem.W.codeIn K cd8 "_law_word_of" = true) (k8 : PySem.W.keepIn K (.ref f8) = true)
  {f9 : Addr} {od9 an9 : Option Addr} {sl9 : Array (Option Value)} {oc9 kV9 dc9 pm9 cd9 ct9 : Value}
  (a9 : PySem.W.nsIn K mainGlobals "_law_data_of" = some (some (.ref f9))) (l9 : K.lookup f9 = some ⟨oc9, od9, .func (PySem.W.fnOf "_law_data_of" "_law_data_of" (defArgs s_L_data_of) (defBody s_L_data_of) (defScope s_L_data_of) .none kV9 dc9 pm9 an9 cd9 ct9), sl9⟩) (c9 : PySem.W.codeIn K cd9 "_law_data_of" = true) (k9 : PySem.W.keepIn K (.ref f9) = true)
  {f10 : Addr} {od10 an10 : Option Addr} {sl10 : Array (Option Value)} {oc10 kV10 dc10 pm10 cd10 ct10 : Value}
  (a10 : PySem.W.nsIn K mainGlobals "_law_kinds" = some (some (.ref f10))) (l10 : K.lookup f10 = some ⟨oc10, od10, .func (PySem.W.fnOf "_law_kinds" "_law_kinds" (defArgs s_L_kinds) (defBody s_L_kinds) (defScope s_L_kinds) .none kV10 dc10 pm10 an10 cd10 ct10), sl10⟩) (c10 : PySem.W.codeIn K cd10 "_law_kinds" = true) (k10 : PySem.W.keepIn K (.ref f10) = true)
  {f11 : Addr} {od11 an11 : Option Addr} {sl11 : Array (Option Value)} {oc11 kV11 dc11 pm11 cd11 ct11 : Value}
  (a11 : PySem.W.nsIn K mainGlobals "_law_row_of" = some (some (.ref f11))) (l11 : K.lookup f11 = some ⟨oc11, od11, .func (PySem.W.fnOf "_law_row_of" "_law_row_of" (defArgs s_L_row_of) (defBody s_L_row_of) (defScope s_L_row_of) .none kV11 dc11 pm11 an11 cd11 ct11), sl11⟩) (c11 : PySem.W.codeIn K cd11 "_law_row_of" = true) (k11 : PySem.W.keepIn K (.ref f11) = true)
  {f12 : Addr} {od12 an12 : Option Addr} {sl12 : Array (Option Value)} {oc12 kV12 dc12 pm12 cd12 ct12 : Value}
  (a12 : PySem.W.nsIn K mainGlobals "_law_cell_at" = some (some (.ref f12))) (l12 : K.lookup f12 = some ⟨oc12, od12, .func (PySem.W.fnOf "_law_cell_at" "_law_cell_at" (defArgs s_L_cell_at) (defBody s_L_cell_at) (defScope s_L_cell_at) .none kV12 dc12 pm12 an12 cd12 ct12), sl12⟩) (c12 : PySem.W.codeIn K cd12 "_law_cell_at" = true) (k12 : PySem.W.keepIn K (.ref f12) = true)
  {f13 : Addr} {od13 an13 : Option Addr} {sl13 : Array (Option Value)} {oc13 kV13 dc13 pm13 cd13 ct13 : Value}
  (a13 : PySem.W.nsIn K mainGlobals "_law_big" = some (some (.ref f13))) (l13 : K.lookup f13 = some ⟨oc13, od13, .func (PySem.W.fnOf "_law_big" "_law_big" (defArgs s_L_big) (defBody s_L_big) (defScope s_L_big) .none kV13 dc13 pm13 an13 cd13 ct13), sl13⟩) (c13 : PySem.W.codeIn K cd13 "_law_big" = true) (k13 : PySem.W.keepIn K (.ref f13) = true)
  {f14 : Addr} {od14 an14 : Option Addr} {sl14 : Array (Option Value)} {oc14 kV14 dc14 pm14 cd14 ct14 : Value}
  (a14 : PySem.W.nsIn K mainGlobals "_law_scene_of" = some (some (.ref f14))) (l14 : K.lookup f14 = some ⟨oc14, od14, .func (PySem.W.fnOf "_law_scene_of" "_law_scene_of" (defArgs s_L_scene_of) (defBody s_L_scene_of) (defScope s_L_scene_of) .none kV14 dc14 pm14 an14 cd14 ct14), sl14⟩) (c14 : PySem.W.codeIn K cd14 "_law_scene_of" = true) (k14 : PySem.W.keepIn K (.ref f14) = true)
  {f15 : Addr} {od15 an15 : Option Addr} {sl15 : Array (Option Value)} {oc15 kV15 dc15 pm15 cd15 ct15 : Value}
  (a15 : PySem.W.nsIn K mainGlobals "_law_many" = some (some (.ref f15))) (l15 : K.lookup f15 = some ⟨oc15, od15, .func (PySem.W.fnOf "_law_many" "_law_many" (defArgs s_L_many) (defBody s_L_many) (defScope s_L_many) .none kV15 dc15 pm15 an15 cd15 ct15), sl15⟩) (c15 : PySem.W.codeIn K cd15 "_law_many" = true) (k15 : PySem.W.keepIn K (.ref f15) = true)
  {f16 : Addr} {od16 an16 : Option Addr} {sl16 : Array (Option Value)} {oc16 kV16 dc16 pm16 cd16 ct16 : Value}
  (a16 : PySem.W.nsIn K mainGlobals "_law_texts" = some (some (.ref f16))) (l16 : K.lookup f16 = some ⟨oc16, od16, .func (PySem.W.fnOf "_law_texts" "_law_texts" (defArgs s_L_texts) (defBody s_L_texts) (defScope s_L_texts) .none kV16 dc16 pm16 an16 cd16 ct16), sl16⟩) (c16 : PySem.W.codeIn K cd16 "_law_texts" = true) (k16 : PySem.W.keepIn K (.ref f16) = true)
  {f17 : Addr} {od17 an17 : Option Addr} {sl17 : Array (Option Value)} {oc17 kV17 dc17 pm17 cd17 ct17 : Value}
  (a17 : PySem.W.nsIn K mainGlobals "row_name" = some (some (.ref f17))) (l17 : K.lookup f17 = some ⟨oc17, od17, .func (PySem.W.fnOf "row_name" "row_name" (defArgs s_row_name) (defBody s_row_name) (defScope s_row_name) .none kV17 dc17 pm17 an17 cd17 ct17), sl17⟩) (c17 : PySem.W.codeIn K cd17 "row_name" = true) (k17 : PySem.W.keepIn K (.ref f17) = true)
  {f18 : Addr} {od18 an18 : Option Addr} {sl18 : Array (Option Value)} {oc18 kV18 dc18 pm18 cd18 ct18 : Value}
  (a18 : PySem.W.nsIn K mainGlobals "row_holder" = some (some (.ref f18))) (l18 : K.lookup f18 = some ⟨oc18, od18, .func (PySem.W.fnOf "row_holder" "row_holder" (defArgs s_row_holder) (defBody s_row_holder) (defScope s_row_holder) .none kV18 dc18 pm18 an18 cd18 ct18), sl18⟩) (c18 : PySem.W.codeIn K cd18 "row_holder" = true) (k18 : PySem.W.keepIn K (.ref f18) = true)
  {f19 : Addr} {od19 an19 : Option Addr} {sl19 : Array (Option Value)} {oc19 kV19 dc19 pm19 cd19 ct19 : Value}
  (a19 : PySem.W.nsIn K mainGlobals "kid_rows" = some (some (.ref f19))) (l19 : K.lookup f19 = some ⟨oc19, od19, .func (PySem.W.fnOf "kid_rows" "kid_rows" (defArgs s_kid_rows) (defBody s_kid_rows) (defScope s_kid_rows) .none kV19 dc19 pm19 an19 cd19 ct19), sl19⟩) (c19 : PySem.W.codeIn K cd19 "kid_rows" = true) (k19 : PySem.W.keepIn K (.ref f19) = true)
  {f20 : Addr} {od20 an20 : Option Addr} {sl20 : Array (Option Value)} {oc20 kV20 dc20 pm20 cd20 ct20 : Value}
  (a20 : PySem.W.nsIn K mainGlobals "kids_of" = some (some (.ref f20))) (l20 : K.lookup f20 = some ⟨oc20, od20, .func (PySem.W.fnOf "kids_of" "kids_of" (defArgs s_kids_of) (defBody s_kids_of) (defScope s_kids_of) .none kV20 dc20 pm20 an20 cd20 ct20), sl20⟩) (c20 : PySem.W.codeIn K cd20 "kids_of" = true) (k20 : PySem.W.keepIn K (.ref f20) = true)
  {f21 : Addr} {od21 an21 : Option Addr} {sl21 : Array (Option Value)} {oc21 kV21 dc21 pm21 cd21 ct21 : Value}
  (a21 : PySem.W.nsIn K mainGlobals "row_found" = some (some (.ref f21))) (l21 : K.lookup f21 = some ⟨oc21, od21, .func (PySem.W.fnOf "row_found" "row_found" (defArgs s_row_found) (defBody s_row_found) (defScope s_row_found) .none kV21 dc21 pm21 an21 cd21 ct21), sl21⟩) (c21 : PySem.W.codeIn K cd21 "row_found" = true) (k21 : PySem.W.keepIn K (.ref f21) = true)
  {f22 : Addr} {od22 an22 : Option Addr} {sl22 : Array (Option Value)} {oc22 kV22 dc22 pm22 cd22 ct22 : Value}
  (a22 : PySem.W.nsIn K mainGlobals "row_of" = some (some (.ref f22))) (l22 : K.lookup f22 = some ⟨oc22, od22, .func (PySem.W.fnOf "row_of" "row_of" (defArgs s_row_of) (defBody s_row_of) (defScope s_row_of) .none kV22 dc22 pm22 an22 cd22 ct22), sl22⟩) (c22 : PySem.W.codeIn K cd22 "row_of" = true) (k22 : PySem.W.keepIn K (.ref f22) = true)
  {f23 : Addr} {od23 an23 : Option Addr} {sl23 : Array (Option Value)} {oc23 kV23 dc23 pm23 cd23 ct23 : Value}
  (a23 : PySem.W.nsIn K mainGlobals "holders_of" = some (some (.ref f23))) (l23 : K.lookup f23 = some ⟨oc23, od23, .func (PySem.W.fnOf "holders_of" "holders_of" (defArgs s_holders_of) (defBody s_holders_of) (defScope s_holders_of) .none kV23 dc23 pm23 an23 cd23 ct23), sl23⟩) (c23 : PySem.W.codeIn K cd23 "holders_of" = true) (k23 : PySem.W.keepIn K (.ref f23) = true)
  {f24 : Addr} {od24 an24 : Option Addr} {sl24 : Array (Option Value)} {oc24 kV24 dc24 pm24 cd24 ct24 : Value}
  (a24 : PySem.W.nsIn K mainGlobals "parts_in" = some (some (.ref f24))) (l24 : K.lookup f24 = some ⟨oc24, od24, .func (PySem.W.fnOf "parts_in" "parts_in" (defArgs s_parts_in) (defBody s_parts_in) (defScope s_parts_in) .none kV24 dc24 pm24 an24 cd24 ct24), sl24⟩) (c24 : PySem.W.codeIn K cd24 "parts_in" = true) (k24 : PySem.W.keepIn K (.ref f24) = true)
  {f25 : Addr} {od25 an25 : Option Addr} {sl25 : Array (Option Value)} {oc25 kV25 dc25 pm25 cd25 ct25 : Value}
  (a25 : PySem.W.nsIn K mainGlobals "_law_chain" = some (some (.ref f25))) (l25 : K.lookup f25 = some ⟨oc25, od25, .func (PySem.W.fnOf "_law_chain" "_law_chain" (defArgs s_L_chain) (defBody s_L_chain) (defScope s_L_chain) .none kV25 dc25 pm25 an25 cd25 ct25), sl25⟩) (c25 : PySem.W.codeIn K cd25 "_law_chain" = true) (k25 : PySem.W.keepIn K (.ref f25) = true)
  {f26 : Addr} {od26 an26 : Option Addr} {sl26 : Array (Option Value)} {oc26 kV26 dc26 pm26 cd26 ct26 : Value}
  (a26 : PySem.W.nsIn K mainGlobals "_law_inner" = some (some (.ref f26))) (l26 : K.lookup f26 = some ⟨oc26, od26, .func (PySem.W.fnOf "_law_inner" "_law_inner" (defArgs s_L_inner) (defBody s_L_inner) (defScope s_L_inner) .none kV26 dc26 pm26 an26 cd26 ct26), sl26⟩) (c26 : PySem.W.codeIn K cd26 "_law_inner" = true) (k26 : PySem.W.keepIn K (.ref f26) = true)
  {f27 : Addr} {od27 an27 : Option Addr} {sl27 : Array (Option Value)} {oc27 kV27 dc27 pm27 cd27 ct27 : Value}
  (a27 : PySem.W.nsIn K mainGlobals "_law_no_row" = some (some (.ref f27))) (l27 : K.lookup f27 = some ⟨oc27, od27, .func (PySem.W.fnOf "_law_no_row" "_law_no_row" (defArgs s_L_no_row) (defBody s_L_no_row) (defScope s_L_no_row) .none kV27 dc27 pm27 an27 cd27 ct27), sl27⟩) (c27 : PySem.W.codeIn K cd27 "_law_no_row" = true) (k27 : PySem.W.keepIn K (.ref f27) = true)
  {f28 : Addr} {od28 an28 : Option Addr} {sl28 : Array (Option Value)} {oc28 kV28 dc28 pm28 cd28 ct28 : Value}
  (a28 : PySem.W.nsIn K mainGlobals "law" = some (some (.ref f28))) (l28 : K.lookup f28 = some ⟨oc28, od28, .func (PySem.W.fnOf "law" "law" (defArgs s_law) (defBody s_law) (defScope s_law) .none kV28 dc28 pm28 an28 cd28 ct28), sl28⟩) (c28 : PySem.W.codeIn K cd28 "law" = true) (k28 : PySem.W.keepIn K (.ref f28) = true)
  (z_ValueError : PySem.W.nsIn K mainGlobals "ValueError" = some none)
  (z_abs : PySem.W.nsIn K mainGlobals "abs" = some none)
  (z_isinstance : PySem.W.nsIn K mainGlobals "isinstance" = some none)
  (z_len : PySem.W.nsIn K mainGlobals "len" = some none)
  (z_list : PySem.W.nsIn K mainGlobals "list" = some none)
  (z_range : PySem.W.nsIn K mainGlobals "range" = some none)
  (z_str : PySem.W.nsIn K mainGlobals "str" = some none)
  (z_tuple : PySem.W.nsIn K mainGlobals "tuple" = some none)
  {cSE cNN cNP cWK : Addr} {cdC cdD : ClassData}
  (aSE : PySem.W.nsIn K mainGlobals "SceneError" = some (some (.ref cSE)))
  (aNN : PySem.W.nsIn K mainGlobals "NoName" = some (some (.ref cNN)))
  (aNP : PySem.W.nsIn K mainGlobals "NoPart" = some (some (.ref cNP)))
  (aWK : PySem.W.nsIn K mainGlobals "WrongKind" = some (some (.ref cWK)))
  (qNN : PySem.W.excIn K cNN [.type "ValueError", .type "Exception", .type "BaseException", .type "object"] "ValueError.__new__" = true)
  (x1 : PySem.W.findIn K (.ref cNN) "__getattribute__" = some (some (.builtin "BaseException.__getattribute__")))
  (x2 : PySem.W.findIn K (.ref cNN) "__getattr__" = some none)
  (x3 : PySem.W.clsIn K cNN = some cdC)
  (x4 : PySem.W.findIn K (.ref cNN) "__class__" = some (some (.builtin "object.__class__")))
  (x5 : PySem.W.specialIn K (.builtin "object.__class__") "__get__" = some (some (.builtin "getset_descriptor.__get__")))
  (x6 : PySem.W.takesIn K (.builtin "object.__class__") = some true)
  (x7 : PySem.W.mroIn K cNN (.type "object") = some true)
  (x8 : PySem.W.mroIn K cNN (.type "BaseException") = some true)
  (w1 : PySem.W.typeIn K (.ref cSE) = some (.type "type"))
  (w2 : PySem.W.clsIn K cSE = some cdD)
  (w3 : PySem.W.subIn K (.ref cNN) (.ref cSE) = some true)
  (w4 : PySem.W.subIn K (.ref cSE) (.type "BaseException") = some true)
  (kk0 : PySem.W.kitOne K (.ref cNN) (.ref cNN) = some true)
  (kk1 : PySem.W.kitOne K (.ref cNN) (.type "ValueError") = some true)
  (kk2 : PySem.W.kitAny K (.ref cNN) [.ref cNP, .ref cWK] = some false)
  : ∃ fd : FuncData, (∀ (s : Shared) (v : Value), BindsTo s fd ⟨[v], []⟩ [("_law_script", v)]) /\ ∀ base : Heap, K.In base -> base.Ns mainGlobals mg -> FnOk l.prog w K mg base CX0 7 fa fd ["_law_script"] (spD ⟨K, w⟩ m_law false) := by
 have e := hfa.symm.trans (PySem.W.mg_of X G a28)
 cases e
 have F0 := fun_mk (st := s_L_name_of) l0 c0 k0
 have F1 := fun_mk (st := s_L_step_of) l1 c1 k1
 have F2 := fun_mk (st := s_L_up) l2 c2 k2
 have F3 := fun_mk (st := s_L_low) l3 c3 k3
 have F4 := fun_mk (st := s_L_share_of) l4 c4 k4
 have F5 := fun_mk (st := s_L_paint_of) l5 c5 k5
 have F6 := fun_mk (st := s_L_stencil_of) l6 c6 k6
 have F7 := fun_mk (st := s_L_size_of) l7 c7 k7
 have F8 := fun_mk (st := s_L_word_of) l8 c8 k8
 have F9 := fun_mk (st := s_L_data_of) l9 c9 k9
 have F10 := fun_mk (st := s_L_kinds) l10 c10 k10
 have F11 := fun_mk (st := s_L_row_of) l11 c11 k11
 have F12 := fun_mk (st := s_L_cell_at) l12 c12 k12
 have F13 := fun_mk (st := s_L_big) l13 c13 k13
 have F14 := fun_mk (st := s_L_scene_of) l14 c14 k14
 have F15 := fun_mk (st := s_L_many) l15 c15 k15
 have F16 := fun_mk (st := s_L_texts) l16 c16 k16
 have F17 := fun_mk (st := s_row_name) l17 c17 k17
 have F18 := fun_mk (st := s_row_holder) l18 c18 k18
 have F19 := fun_mk (st := s_kid_rows) l19 c19 k19
 have F20 := fun_mk (st := s_kids_of) l20 c20 k20
 have F21 := fun_mk (st := s_row_found) l21 c21 k21
 have F22 := fun_mk (st := s_row_of) l22 c22 k22
 have F23 := fun_mk (st := s_holders_of) l23 c23 k23
 have F24 := fun_mk (st := s_parts_in) l24 c24 k24
 have F25 := fun_mk (st := s_L_chain) l25 c25 k25
 have F26 := fun_mk (st := s_L_inner) l26 c26 k26
 have F27 := fun_mk (st := s_L_no_row) l27 c27 k27
 have F28 := fun_mk (st := s_law) l28 c28 k28
 have b0 := F0.binds (ps := ["_law_big_here"]) fun _ _ _ _ _ _ us hl => match us, hl with | [_], _ => rfl
 have b1 := F1.binds (ps := ["_law_big_here"]) fun _ _ _ _ _ _ us hl => match us, hl with | [_], _ => rfl
 have b2 := F2.binds (ps := ["_law_rows", "_law_name"]) fun _ _ _ _ _ _ us hl => match us, hl with | [_, _], _ => rfl
 have b3 := F3.binds (ps := ["_law_top", "_law_bottom"]) fun _ _ _ _ _ _ us hl => match us, hl with | [_, _], _ => rfl
 have b4 := F4.binds (ps := ["_law_big_here"]) fun _ _ _ _ _ _ us hl => match us, hl with | [_], _ => rfl
 have b5 := F5.binds (ps := ["_law_big_here"]) fun _ _ _ _ _ _ us hl => match us, hl with | [_], _ => rfl
 have b6 := F6.binds (ps := ["_law_big_here"]) fun _ _ _ _ _ _ us hl => match us, hl with | [_], _ => rfl
 have b7 := F7.binds (ps := ["_law_big_here", "_law_most"]) fun _ _ _ _ _ _ us hl => match us, hl with | [_, _], _ => rfl
 have b8 := F8.binds (ps := ["_law_big_here"]) fun _ _ _ _ _ _ us hl => match us, hl with | [_], _ => rfl
 have b9 := F9.binds (ps := ["_law_kind", "_law_big_here"]) fun _ _ _ _ _ _ us hl => match us, hl with | [_, _], _ => rfl
 have b10 := F10.binds (ps := []) fun _ _ _ _ _ _ us hl => match us, hl with | [], _ => rfl
 have b11 := F11.binds (ps := ["_law_rows", "_law_big_here"]) fun _ _ _ _ _ _ us hl => match us, hl with | [_, _], _ => rfl
 have b12 := F12.binds (ps := ["_law_script", "_law_k"]) fun _ _ _ _ _ _ us hl => match us, hl with | [_, _], _ => rfl
 have b13 := F13.binds (ps := ["_law_script", "_law_at"]) fun _ _ _ _ _ _ us hl => match us, hl with | [_, _], _ => rfl
 have b14 := F14.binds (ps := ["_law_script", "_law_first", "_law_many_here"]) fun _ _ _ _ _ _ us hl => match us, hl with | [_, _, _], _ => rfl
 have b15 := F15.binds (ps := ["_law_script", "_law_many_here", "_law_most"]) fun _ _ _ _ _ _ us hl => match us, hl with | [_, _, _], _ => rfl
 have b16 := F16.binds (ps := ["_law_found", "_law_due"]) fun _ _ _ _ _ _ us hl => match us, hl with | [_, _], _ => rfl
 have b17 := F17.binds (ps := ["row"]) fun _ _ _ _ _ _ us hl => match us, hl with | [_], _ => rfl
 have b18 := F18.binds (ps := ["row"]) fun _ _ _ _ _ _ us hl => match us, hl with | [_], _ => rfl
 have b19 := F19.binds (ps := ["rows", "name"]) fun _ _ _ _ _ _ us hl => match us, hl with | [_, _], _ => rfl
 have b20 := F20.binds (ps := ["rows", "name"]) fun _ _ _ _ _ _ us hl => match us, hl with | [_, _], _ => rfl
 have b21 := F21.binds (ps := ["rows", "name"]) fun _ _ _ _ _ _ us hl => match us, hl with | [_, _], _ => rfl
 have b22 := F22.binds (ps := ["rows", "name"]) fun _ _ _ _ _ _ us hl => match us, hl with | [_, _], _ => rfl
 have b23 := F23.binds (ps := ["rows", "name"]) fun _ _ _ _ _ _ us hl => match us, hl with | [_, _], _ => rfl
 have b24 := F24.binds (ps := ["rows", "name"]) fun _ _ _ _ _ _ us hl => match us, hl with | [_, _], _ => rfl
 have b25 := F25.binds (ps := ["_law_rows", "_law_name"]) fun _ _ _ _ _ _ us hl => match us, hl with | [_, _], _ => rfl
 have b26 := F26.binds (ps := ["_law_rows", "_law_name"]) fun _ _ _ _ _ _ us hl => match us, hl with | [_, _], _ => rfl
 have b27 := F27.binds (ps := ["_law_rows", "_law_name"]) fun _ _ _ _ _ _ us hl => match us, hl with | [_, _], _ => rfl
 have y_ValueError := PySem.W.mg_none_of X G z_ValueError
 have y_abs := PySem.W.mg_none_of X G z_abs
 have y_isinstance := PySem.W.mg_none_of X G z_isinstance
 have y_len := PySem.W.mg_none_of X G z_len
 have y_list := PySem.W.mg_none_of X G z_list
 have y_range := PySem.W.mg_none_of X G z_range
 have y_str := PySem.W.mg_none_of X G z_str
 have y_tuple := PySem.W.mg_none_of X G z_tuple
 refine ⟨PySem.W.fnOf "law" "law" (defArgs s_law) (defBody s_law) (defScope s_law) .none kV28 dc28 pm28 an28 cd28 ct28, fun s v => .of_eq rfl, fun base _ _ => ?_⟩
 have R_L_name_of : Cal l.prog w K mg base 1 "_law_name_of" ["_law_big_here"] (spD ⟨K, w⟩ m_L_name_of false) := Cal.of F0 (ok_L_name_of F0 y_range) b0 (PySem.W.mg_of X G a0)
 have R_L_step_of : Cal l.prog w K mg base 1 "_law_step_of" ["_law_big_here"] (spD ⟨K, w⟩ m_L_step_of false) := Cal.of F1 (ok_L_step_of F1) b1 (PySem.W.mg_of X G a1)
 have R_L_up : Cal l.prog w K mg base 1 "_law_up" ["_law_rows", "_law_name"] (spD ⟨K, w⟩ m_L_up true) := Cal.of F2 (ok_L_up F2) b2 (PySem.W.mg_of X G a2)
 have R_L_low : Cal l.prog w K mg base 1 "_law_low" ["_law_top", "_law_bottom"] (spD ⟨K, w⟩ m_L_low false) := Cal.of F3 (ok_L_low F3 y_abs) b3 (PySem.W.mg_of X G a3)
 have R_L_stencil_of : Cal l.prog w K mg base 1 "_law_stencil_of" ["_law_big_here"] (spD ⟨K, w⟩ m_L_stencil_of false) := Cal.of F6 (ok_L_stencil_of F6 y_range y_tuple) b6 (PySem.W.mg_of X G a6)
 have R_L_size_of : Cal l.prog w K mg base 1 "_law_size_of" ["_law_big_here", "_law_most"] (spD ⟨K, w⟩ m_L_size_of false) := Cal.of F7 (ok_L_size_of F7) b7 (PySem.W.mg_of X G a7)
 have R_L_word_of : Cal l.prog w K mg base 1 "_law_word_of" ["_law_big_here"] (spD ⟨K, w⟩ m_L_word_of false) := Cal.of F8 (ok_L_word_of F8 y_range) b8 (PySem.W.mg_of X G a8)
 have R_L_kinds : Cal l.prog w K mg base 1 "_law_kinds" [] (spD ⟨K, w⟩ m_L_kinds false) := Cal.of F10 (ok_L_kinds F10) b10 (PySem.W.mg_of X G a10)
 have R_L_cell_at : Cal l.prog w K mg base 1 "_law_cell_at" ["_law_script", "_law_k"] (spD ⟨K, w⟩ m_L_cell_at false) := Cal.of F12 (ok_L_cell_at F12 y_len) b12 (PySem.W.mg_of X G a12)
 have R_L_texts : Cal l.prog w K mg base 1 "_law_texts" ["_law_found", "_law_due"] (spD ⟨K, w⟩ m_L_texts false) := Cal.of F16 (ok_L_texts F16 y_list y_isinstance y_str) b16 (PySem.W.mg_of X G a16)
 have R_row_name : Cal l.prog w K mg base 1 "row_name" ["row"] (spD ⟨K, w⟩ m_row_name false) := Cal.of F17 (ok_row_name F17) b17 (PySem.W.mg_of X G a17)
 have R_row_holder : Cal l.prog w K mg base 1 "row_holder" ["row"] (spD ⟨K, w⟩ m_row_holder false) := Cal.of F18 (ok_row_holder F18) b18 (PySem.W.mg_of X G a18)
 have R_L_chain : Cal l.prog w K mg base 1 "_law_chain" ["_law_rows", "_law_name"] (spD ⟨K, w⟩ m_L_chain false) := Cal.of F25 (ok_L_chain F25) b25 (PySem.W.mg_of X G a25)
 have R_L_share_of : Cal l.prog w K mg base 2 "_law_share_of" ["_law_big_here"] (spD ⟨K, w⟩ m_L_share_of false) := Cal.of F4 (ok_L_share_of F4 (R_L_low.mono (by decide))) b4 (PySem.W.mg_of X G a4)
 have R_L_big : Cal l.prog w K mg base 2 "_law_big" ["_law_script", "_law_at"] (spD ⟨K, w⟩ m_L_big false) := Cal.of F13 (ok_L_big F13 (R_L_cell_at.mono (by decide)) y_range) b13 (PySem.W.mg_of X G a13)
 have R_L_many : Cal l.prog w K mg base 2 "_law_many" ["_law_script", "_law_many_here", "_law_most"] (spD ⟨K, w⟩ m_L_many false) := Cal.of F15 (ok_L_many F15 (R_L_cell_at.mono (by decide))) b15 (PySem.W.mg_of X G a15)
 have R_kid_rows : Cal l.prog w K mg base 2 "kid_rows" ["rows", "name"] (spD ⟨K, w⟩ m_kid_rows true) := Cal.of F19 (ok_kid_rows F19 (R_row_holder.mono (by decide))) b19 (PySem.W.mg_of X G a19)
 have R_row_found : Cal l.prog w K mg base 2 "row_found" ["rows", "name"] (spD ⟨K, w⟩ m_row_found false) := Cal.of F21 (ok_row_found F21 (R_row_name.mono (by decide))) b21 (PySem.W.mg_of X G a21)
 have R_L_inner : Cal l.prog w K mg base 2 "_law_inner" ["_law_rows", "_law_name"] (spD ⟨K, w⟩ m_L_inner true) := Cal.of F26 (ok_L_inner F26 (R_L_chain.mono (by decide))) b26 (PySem.W.mg_of X G a26)
 have R_L_paint_of : Cal l.prog w K mg base 3 "_law_paint_of" ["_law_big_here"] (spD ⟨K, w⟩ m_L_paint_of false) := Cal.of F5 (ok_L_paint_of F5 (R_L_share_of.mono (by decide))) b5 (PySem.W.mg_of X G a5)
 have R_kids_of : Cal l.prog w K mg base 3 "kids_of" ["rows", "name"] (spD ⟨K, w⟩ m_kids_of true) := Cal.of F20 (ok_kids_of F20 (R_kid_rows.mono (by decide)) (R_row_name.mono (by decide))) b20 (PySem.W.mg_of X G a20)
 have R_row_of : Cal l.prog w K mg base 3 "row_of" ["rows", "name"] (spD ⟨K, w⟩ m_row_of false) := Cal.of F22 (ok_row_of F22 (R_row_found.mono (by decide))) b22 (PySem.W.mg_of X G a22)
 have R_holders_of : Cal l.prog w K mg base 3 "holders_of" ["rows", "name"] (spD ⟨K, w⟩ m_holders_of true) := Cal.of F23 (ok_holders_of F23 (R_row_found.mono (by decide)) (R_row_holder.mono (by decide))) b23 (PySem.W.mg_of X G a23)
 have R_L_data_of : Cal l.prog w K mg base 4 "_law_data_of" ["_law_kind", "_law_big_here"] (spD ⟨K, w⟩ m_L_data_of false) := Cal.of F9 (ok_L_data_of F9 (R_L_size_of.mono (by decide)) (R_L_step_of.mono (by decide)) (R_L_paint_of.mono (by decide)) (R_L_word_of.mono (by decide)) (R_L_stencil_of.mono (by decide))) b9 (PySem.W.mg_of X G a9)
 have R_parts_in : Cal l.prog w K mg base 4 "parts_in" ["rows", "name"] (spD ⟨K, w⟩ m_parts_in true) := Cal.of F24 (ok_parts_in F24 (R_holders_of.mono (by decide)) (R_row_name.mono (by decide))) b24 (PySem.W.mg_of X G a24)
 have R_L_no_row : Cal l.prog w K mg base 4 "_law_no_row" ["_law_rows", "_law_name"] (spD ⟨K, w⟩ m_L_no_row false) := Cal.of F27 (ok_L_no_row F27 (ok_row_ofX F22 (R_row_found.mono (by decide)) (PySem.W.mg_of X G aNN) qNN) (PySem.W.mg_of X G a22) k22 b22 (PySem.W.mg_of X G aNN) (PySem.W.mg_of X G aSE) (PySem.W.mg_of X G aNP) (PySem.W.mg_of X G aWK) ⟨w1, by rw [w2]; rfl, w3, w4⟩ ⟨x1, x2, by rw [x3]; rfl, x4, x5, x6, x7, x8⟩ kk0 kk1 kk2 y_isinstance y_ValueError) b27 (PySem.W.mg_of X G a27)
 have R_L_row_of : Cal l.prog w K mg base 5 "_law_row_of" ["_law_rows", "_law_big_here"] (spD ⟨K, w⟩ m_L_row_of false) := Cal.of F11 (ok_L_row_of F11 (R_L_name_of.mono (by decide)) (R_L_up.mono (by decide)) (R_L_kinds.mono (by decide)) (R_L_step_of.mono (by decide)) (R_L_data_of.mono (by decide)) y_len) b11 (PySem.W.mg_of X G a11)
 have R_L_scene_of : Cal l.prog w K mg base 6 "_law_scene_of" ["_law_script", "_law_first", "_law_many_here"] (spD ⟨K, w⟩ m_L_scene_of true) := Cal.of F14 (ok_L_scene_of F14 (R_L_row_of.mono (by decide)) (R_L_big.mono (by decide)) y_range) b14 (PySem.W.mg_of X G a14)
 exact ok_law F28 (R_L_scene_of.mono (by decide)) (R_L_many.mono (by decide)) (R_L_big.mono (by decide)) (R_L_texts.mono (by decide)) (R_kids_of.mono (by decide)) (R_row_of.mono (by decide)) (R_parts_in.mono (by decide)) (R_holders_of.mono (by decide)) (R_L_inner.mono (by decide)) (R_L_chain.mono (by decide)) (R_L_name_of.mono (by decide)) (R_L_no_row.mono (by decide)) y_list y_range
theorem entry {K : KW} {H : Hp} {a : Addr} {ns : List Int} {Q : VK} {X : XK} (hS : SqL K H a (ns.map V.int)) (h63 : ns.length <= 63) (q : ∀ H', Q (.bl true) H') : spD K m_law false [.ref a] H Q X := by
 obtain ⟨ls, e⟩ := m_law_holds ns h63
 refine ⟨fun _ => False, fun _ => False, [.c (ns.map PyData.int)], .bool true, ls, ⟨rfl, fun i x e => ?_, fun i x e => ?_, fun i x e => ?_, fun i j xs ys b e => ?_, fun _ h => h.elim, fun _ h => h.elim, GR.nil fun i x e => ?_⟩, e, fun v H' _ _ res => ?_⟩
 ·match i, e with
  | 0, e => cases e
  | i + 1, e => cases e
 ·match i, e with
  | 0, e => exact absurd (Option.some.inj (Option.some.inj e)).symm Ow.not_c
  | i + 1, e => cases e
 ·match i, e with
  | 0, e =>
   cases e
   exact ⟨a, ns.map V.int, rfl, cst_same hS, isl_ints ns⟩
  | i + 1, e => cases e
 ·match i, e with
  | 0, e => exact absurd (Option.some.inj (Option.some.inj e)).symm Ow.not_c
  | i + 1, e => cases e
 ·match i, e with
  | 0, e => cases e
  | i + 1, e => cases e
 ·cases (show v = .bl true from res)
  exact q H'
theorem walk {l : PySem.W.OpenLaw} {q : Program} {loose : List Str} {XP : (Str -> Option Value) -> Heap -> Prop} {YP : World -> Heap -> Prop} {d : DefRec} {K : Params -> PySem.W.Frag} (hn : l.most = some 63) (hdf : d.params.defaults = [])
  (hY : ∀ (w : World) (h : Heap), YP w h -> (K w.params).In h)
  (F : ∀ (w : World) (mg : Str -> Option Value) (fa : Addr) (h : Heap), (K w.params).In h -> h.Ns mainGlobals mg -> mg d.name = some (.ref fa) ->
   ∃ fd : FuncData, (∀ (s : Shared) (u : Value), BindsTo s fd ⟨[u], []⟩ [("_law_script", u)]) /\ ∀ base : Heap, (K w.params).In base -> base.Ns mainGlobals mg -> FnOk l.prog w (K w.params) mg base CX0 7 fa fd ["_law_script"] (spD ⟨K w.params, w⟩ m_law false)) :
  PySem.W.WalkO q loose XP YP l.row.toRowW d [] (fun f vs => PySem.call f vs) :=
 L2.walk_of (n := 63) (k := 7) (x := "_law_script") (CX := fun _ => CX0) (sp := fun w => spD ⟨K w.params, w⟩ m_law false) hn (by decide) hdf ⟨rfl, by decide, by decide⟩ hY F (fun _ _ a ns hl _ hS => entry hS hl fun _ => rfl) fun _ _ _ _ _ z => z
end My
open PySem PySem.W PyProof.Rows
set_option maxRecDepth 100000 in
set_option maxHeartbeats 0 in
theorem PySem.Challenge.cw_scenemend_k27_who_holds_whom_holds : PySem.Challenge.rw_scenemend_k27_who_holds_whom.Holds := by
 w_on; o_law; k_head; (case hw => w_witness2)
 k_fill
 refine My.walk (l := PySem.Challenge.rw_scenemend_k27_who_holds_whom) rfl rfl (fun w h Y => PySem.W.kIn_of Y) ?F
 case F =>
  intro w mg fa h KX G hmg
  refine' My.all_mk KX G hmg ?a0 ?l0 ?c0 ?k0 ?a1 ?l1 ?c1 ?k1 ?a2 ?l2 ?c2 ?k2 ?a3 ?l3 ?c3 ?k3 ?a4 ?l4 ?c4 ?k4 ?a5 ?l5 ?c5 ?k5 ?a6 ?l6 ?c6 ?k6 ?a7 ?l7 ?c7 ?k7 ?a8 ?l8 ?c8 ?k8 ?a9 ?l9 ?c9 ?k9 ?a10 ?l10 ?c10 ?k10 ?a11 ?l11 ?c11 ?k11 ?a12 ?l12 ?c12 ?k12 ?a13 ?l13 ?c13 ?k13 ?a14 ?l14 ?c14 ?k14 ?a15 ?l15 ?c15 ?k15 ?a16 ?l16 ?c16 ?k16 ?a17 ?l17 ?c17 ?k17 ?a18 ?l18 ?c18 ?k18 ?a19 ?l19 ?c19 ?k19 ?a20 ?l20 ?c20 ?k20 ?a21 ?l21 ?c21 ?k21 ?a22 ?l22 ?c22 ?k22 ?a23 ?l23 ?c23 ?k23 ?a24 ?l24 ?c24 ?k24 ?a25 ?l25 ?c25 ?k25 ?a26 ?l26 ?c26 ?k26 ?a27 ?l27 ?c27 ?k27 ?a28 ?l28 ?c28 ?k28 ?z_ValueError ?z_abs ?z_isinstance ?z_len ?z_list ?z_range ?z_str ?z_tuple ?aSE ?aNN ?aNP ?aWK ?qNN ?x1 ?x2 ?x3 ?x4 ?x5 ?x6 ?x7 ?x8 ?w1 ?w2 ?w3 ?w4 ?kk0 ?kk1 ?kk2
  (case a0 => k_is)
  (case l0 => k_is)
  (case c0 => k_is)
  (case k0 => k_is)
  (case a1 => k_is)
  (case l1 => k_is)
  (case c1 => k_is)
  (case k1 => k_is)
  (case a2 => k_is)
  (case l2 => k_is)
  (case c2 => k_is)
  (case k2 => k_is)
  (case a3 => k_is)
  (case l3 => k_is)
  (case c3 => k_is)
  (case k3 => k_is)
  (case a4 => k_is)
  (case l4 => k_is)
  (case c4 => k_is)
  (case k4 => k_is)
  (case a5 => k_is)
  (case l5 => k_is)
  (case c5 => k_is)
  (case k5 => k_is)
  (case a6 => k_is)
  (case l6 => k_is)
  (case c6 => k_is)
  (case k6 => k_is)
  (case a7 => k_is)
  (case l7 => k_is)
  (case c7 => k_is)
  (case k7 => k_is)
  (case a8 => k_is)
  (case l8 => k_is)
  (case c8 => k_is)
  (case k8 => k_is)
  (case a9 => k_is)
  (case l9 => k_is)
  (case c9 => k_is)
  (case k9 => k_is)
  (case a10 => k_is)
  (case l10 => k_is)
  (case c10 => k_is)
  (case k10 => k_is)
  (case a11 => k_is)
  (case l11 => k_is)
  (case c11 => k_is)
  (case k11 => k_is)
  (case a12 => k_is)
  (case l12 => k_is)
  (case c12 => k_is)
  (case k12 => k_is)
  (case a13 => k_is)
  (case l13 => k_is)
  (case c13 => k_is)
  (case k13 => k_is)
  (case a14 => k_is)
  (case l14 => k_is)
  (case c14 => k_is)
  (case k14 => k_is)
  (case a15 => k_is)
  (case l15 => k_is)
  (case c15 => k_is)
  (case k15 => k_is)
  (case a16 => k_is)
  (case l16 => k_is)
  (case c16 => k_is)
  (case k16 => k_is)
  (case a17 => k_is)
  (case l17 => k_is)
  (case c17 => k_is)
  (case k17 => k_is)
  (case a18 => k_is)
  (case l18 => k_is)
  (case c18 => k_is)
  (case k18 => k_is)
  (case a19 => k_is)
  (case l19 => k_is)
  (case c19 => k_is)
  (case k19 => k_is)
  (case a20 => k_is)
  (case l20 => k_is)
  (case c20 => k_is)
  (case k20 => k_is)
  (case a21 => k_is)
  (case l21 => k_is)
  (case c21 => k_is)
  (case k21 => k_is)
  (case a22 => k_is)
  (case l22 => k_is)
  (case c22 => k_is)
  (case k22 => k_is)
  (case a23 => k_is)
  (case l23 => k_is)
  (case c23 => k_is)
  (case k23 => k_is)
  (case a24 => k_is)
  (case l24 => k_is)
  (case c24 => k_is)
  (case k24 => k_is)
  (case a25 => k_is)
  (case l25 => k_is)
  (case c25 => k_is)
  (case k25 => k_is)
  (case a26 => k_is)
  (case l26 => k_is)
  (case c26 => k_is)
  (case k26 => k_is)
  (case a27 => k_is)
  (case l27 => k_is)
  (case c27 => k_is)
  (case k27 => k_is)
  (case a28 => k_is)
  (case l28 => k_is)
  (case c28 => k_is)
  (case k28 => k_is)
  (case z_ValueError => k_is)
  (case z_abs => k_is)
  (case z_isinstance => k_is)
  (case z_len => k_is)
  (case z_list => k_is)
  (case z_range => k_is)
  (case z_str => k_is)
  (case z_tuple => k_is)
  (case aSE => k_is)
  (case aNN => k_is)
  (case aNP => k_is)
  (case aWK => k_is)
  (case qNN => k_exc)
  (case x1 => k_is)
  (case x2 => k_is)
  (case x3 => k_is)
  (case x4 => k_is)
  (case x5 => k_is)
  (case x6 => k_is)
  (case x7 => k_is)
  (case x8 => k_is)
  (case w1 => k_is)
  (case w2 => k_is)
  (case w3 => k_is)
  (case w4 => k_is)
  (case kk0 => kit_is)
  (case kk1 => kit_is)
  (case kk2 => kit_is)
