import PyProof.Rows.All
import Wide.All
import OpenK.AllK
import Wide.FinOn
import Lean
import PyProof.EqAt
import PyProof.EqKinds
import PyProof.TupleCall
import KE.KSortTup
import PyProof.EnumMake
import PyProof.EnumStmt
import PyProof.EnumFor
import PyProof.TupleKey
import PyProof.Rows.SetFrom
import PyProof.IsRules
import PyProof.DictWalks
import PyProof.FactsAll.set
import PyProof.CollectIter
import PyProof.ConsumeS
import PySem.SetOps
import KE.KDictList
import PyProof.DictRoadsH
import PyProof.DictFindH
import PyProof.Rows.SortRuns
import PyProof.Draws
import PyProof.Rows.TupIter
import PyProof.Rows.FStr
import PyProof.StrCalls2
import PyProof.SliceStr2
import PyProof.StrBlockI
import PyProof.StrLawsNeg
import PyProof.StrLawsJoin
import KE.KIntText
import PyProof.RaisesStr
import PySem.Challenge.RW_scenemend_k66_plans_by_hand
section
set_option Elab.async false
set_option linter.all false
set_option maxRecDepth 100000
namespace L2
open PySem PySem.Spec PyProof.Rows
abbrev Key := Sum Int Str
def keyIs : Key → Value → Bool
  | .inl k, v => Value.isInt k v
  | .inr x, v => Value.isStrOf x v
def keyH (w : World) : Key → Int
  | .inl k => hashInt k
  | .inr x => hashStr w x
theorem keyIs_shape : ∀ {k : Key} {v : Value}, keyIs k v = true → (∃ i t, k = Sum.inl i ∧ v = Value.int i t) ∨ (∃ x t, k = Sum.inr x ∧ v = Value.str x t)
  | .inl i, v, h => by
    obtain ⟨t, e⟩ := Value.isInt_shape (k := i) (v := v) h
    exact .inl ⟨i, t, rfl, e⟩
  | .inr x, v, h => by
    obtain ⟨t, e⟩ := Value.isStrOf_shape (x := x) (v := v) h
    exact .inr ⟨x, t, rfl, e⟩
theorem key_ll (a b : Int) : decide ((Sum.inl a : Key) = Sum.inl b) = (a == b) := by
  by_cases e : a = b
  · subst e; simp
  · have h : ¬ (Sum.inl a : Key) = Sum.inl b := fun q => e (Sum.inl.inj q)
    rw [decide_eq_false h]
    exact (beq_eq_false_iff_ne.mpr e).symm
theorem key_rr (a b : Str) : decide ((Sum.inr a : Key) = Sum.inr b) = decide (a = b) := by
  by_cases e : a = b
  · subst e; simp
  · have h : ¬ (Sum.inr a : Key) = Sum.inr b := fun q => e (Sum.inr.inj q)
    rw [decide_eq_false h, decide_eq_false e]
theorem key_lr (a : Int) (b : Str) : decide ((Sum.inl a : Key) = Sum.inr b) = false := decide_eq_false (fun q => nomatch q)
theorem key_rl (a : Str) (b : Int) : decide ((Sum.inr a : Key) = Sum.inl b) = false := decide_eq_false (fun q => nomatch q)
def mixKind (prog : Program) (w : World) : PySem.KeyKind prog w Key where
  is := keyIs
  hash := keyH w
  inj := fun v a b ha hb => by
    rcases keyIs_shape ha with ⟨i, t, rfl, rfl⟩ | ⟨x, t, rfl, rfl⟩
    · rcases keyIs_shape hb with ⟨j, u, rfl, e⟩ | ⟨y, u, rfl, e⟩
      · injection e with e1 _; rw [e1]
      · exact nomatch e
    · rcases keyIs_shape hb with ⟨j, u, rfl, e⟩ | ⟨y, u, rfl, e⟩
      · exact nomatch e
      · injection e with e1 _; rw [e1]
  byValue := fun k v h => by
    rcases keyIs_shape h with ⟨i, t, rfl, rfl⟩ | ⟨x, t, rfl, rfl⟩ <;> rfl
  pyHash := fun hv h => by
    rcases keyIs_shape hv with ⟨i, t, rfl, rfl⟩ | ⟨x, t, rfl, rfl⟩
    · exact wpAny_pyHash_int h
    · exact wpAny_pyHash_str h
  eqBool := fun hu hv h => by
    rcases keyIs_shape hu with ⟨i, t, rfl, rfl⟩ | ⟨x, t, rfl, rfl⟩
    · rcases keyIs_shape hv with ⟨j, u, rfl, rfl⟩ | ⟨y, u, rfl, rfl⟩
      · rw [key_ll] at h; exact wpAny_eqBool_int h
      · rw [key_lr] at h; exact SeqAt.EqAt.int_str i t y u _ _ _ _ h
    · rcases keyIs_shape hv with ⟨j, u, rfl, rfl⟩ | ⟨y, u, rfl, rfl⟩
      · rw [key_rl] at h; exact SeqAt.EqAt.str_int x t j u _ _ _ _ h
      · rw [key_rr] at h; exact wpAny_eqBool_str h
  «strs» := fun k x t v h => by
    rcases keyIs_shape h with ⟨i, u, rfl, e⟩ | ⟨y, u, rfl, e⟩
    · exact nomatch e
    · injection e with e1 _
      subst e1
      cases v <;> rfl
end L2
namespace L2
open PySem PySem.Spec PyProof.Rows
inductive V where
  | non | bl (b : Bool) | int (i : Int) | str (x : Str) | byt (b : Array UInt8) | flt (b : UInt64) | ref (a : Addr) | ty (n : String)
  deriving DecidableEq
def RelV : V → Value → Prop
  | .non, u => u = Value.none
  | .bl b, u => u = Value.bool b
  | .int i, u => ∃ t, u = Value.int i t
  | .str x, u => ∃ t, u = Value.str x t
  | .byt b, u => ∃ t, u = Value.bytes b t
  | .flt b, u => ∃ t, u = Value.float b t
  | .ref a, u => u = Value.ref a
  | .ty n, u => u = Value.type n
abbrev Vals : List V → List Value → Prop := Paired RelV
theorem Vals.length {xs : List V} {us : List Value} (r : Vals xs us) : xs.length = us.length := Paired.length r
theorem Vals.get : ∀ {xs : List V} {us : List Value} {i : Nat} {x : V}, Vals xs us → xs[i]? = some x → ∃ u, us[i]? = some u ∧ RelV x u
  | _, _, _, _, .nil, e => by simp at e
  | _, _, 0, _, .cons r _, e => by simp at e; subst e; exact ⟨_, rfl, r⟩
  | _, _, i + 1, x, .cons _ t, e => by
    obtain ⟨u, h1, h2⟩ := Vals.get (i := i) (x := x) t (by simpa using e)
    exact ⟨u, by simpa using h1, h2⟩
theorem Vals.set {x : V} {u : Value} (r : RelV x u) : ∀ {xs : List V} {us : List Value} (i : Nat), Vals xs us → Vals (xs.set i x) (us.set i u)
  | _, _, _, .nil => .nil
  | _, _, 0, .cons _ t => .cons r t
  | _, _, i + 1, .cons q t => .cons q (Vals.set r i t)
theorem Vals.append : ∀ {xs ys : List V} {us ws : List Value}, Vals xs us → Vals ys ws → Vals (xs ++ ys) (us ++ ws)
  | _, _, _, _, .nil, s => s
  | _, _, _, _, .cons r t, s => .cons r (Vals.append t s)
theorem Vals.take : ∀ {xs : List V} {us : List Value} (n : Nat), Vals xs us → Vals (xs.take n) (us.take n)
  | _, _, 0, _ => .nil
  | _, _, _ + 1, .nil => .nil
  | _, _, n + 1, .cons r t => .cons r (Vals.take n t)
theorem Vals.drop : ∀ {xs : List V} {us : List Value} (n : Nat), Vals xs us → Vals (xs.drop n) (us.drop n)
  | _, _, 0, r => r
  | _, _, _ + 1, .nil => .nil
  | _, _, n + 1, .cons _ t => Vals.drop n t
def RelO : Option V → Option Value → Prop
  | some v, some u => RelV v u
  | none, none => True
  | _, _ => False
def KV {κ : Type} : List (κ × V) → List (κ × Value) → Prop := Paired fun (p : κ × V) (q : κ × Value) => p.1 = q.1 ∧ RelV p.2 q.2
def kV : Key → V
  | .inl i => .int i
  | .inr x => .str x
inductive HO where
  | lst (xs : List V)
  | tup (xs : List V)
  | dK (kvs : List (Key × V)) | dT (kvs : List (List Key × V))
  | set (S : Int → Bool) (n : Nat)
  | ins (C dx : Addr) (fs : List (Str × V))
  | own (x : Addr)
  | xd (fs : List (Str × V))
  | met (f x : Addr)
  | rng (lo hi : Int)
  | frz (o : Obj) (u : HO)
  | tbl (ps : Array Value)
  | ext (φ : Heap → Prop)
abbrev Hp := Addr → Option HO
def upd (H : Hp) (a : Addr) (o : HO) : Hp := fun b => if b = a then some o else H b
theorem upd_same {H : Hp} {a : Addr} {o : HO} : upd H a o a = some o := by unfold upd; rw [if_pos rfl]
theorem upd_ne {H : Hp} {a b : Addr} {o : HO} (h : b ≠ a) : upd H a o b = H b := by unfold upd; rw [if_neg h]
theorem ne_of_none {H : Hp} {a b : Addr} {o : HO} (h : H a = some o) (h' : H b = none) : a ≠ b := by
  intro e; subst e; rw [h] at h'; cases h'
section
variable (P : Program) (w : World)
def ObjOk (H : Hp) (h : Heap) (a : Addr) : HO → Prop
  | .lst xs => xs.length ≤ sizeLine ∧ ∃ (its : List Value) (n : Nat), Vals xs its ∧ h.get? a = some { cls := .type "list", data := .seq its.toArray n }
  | .tup xs => xs.length ≤ sizeLine ∧ ∃ its : List Value, Vals xs its ∧ IsTup h a its.toArray
  | .dK kvs => kvs.length ≤ sizeLine ∧ (a == sysModules) = false ∧ ∃ vs, KV kvs vs ∧ h.DictOf (mixKind P w) a vs
  | .dT kvs => kvs.length ≤ sizeLine ∧ (a == sysModules) = false ∧ ∃ xs : List (List Key × Addr × Value),
      Paired (fun (p : List Key × V) (q : List Key × Addr × Value) => p.1 = q.1 ∧ H q.2.1 = some (.tup (p.1.map kV)) ∧ RelV p.2 q.2.2) kvs xs ∧
      ∃ o es ep, h.get? a = some o ∧ o.ExactDict ∧ o.data = .dict es ep ∧ es.toList = xs.map (entryOfKey (tupleKind (mixKind P w))) ∧ (xs.map (·.1)).Nodup
  | .set S n => h.SetOf (intKind P w) a S n
  | .ins C dx fs => H dx = some (.own a) ∧ fs.length ≤ 1000 ∧ dx ≠ a ∧ h.get? a = some (PySem.W.instObj C dx) ∧
      ∃ mA, h.Ns1 dx mA ∧ (∀ f, RelO (fs.lookup f) (mA f)) ∧ PySem.Within mA (fs.map (·.1))
  | .own _ => ∃ o, h.get? a = some o
  | .xd fs => ∃ mA, h.Ns1 a mA ∧ ∀ f, RelO (fs.lookup f) (mA f)
  | .rng lo hi => ∃ t u v, h.get? a = some { cls := .type "range", data := .fields #[.int lo t, .int hi u, .int 1 v] }
  | .frz o u => h.get? a = some o ∧ ObjOk H h a u
  | .tbl ps => h.get? a = some { cls := .none, data := .fields ps }
  | .met f x => h.get? a = some (PySem.W.methodObj (.ref f) (.ref x))
  | .ext φ => φ h ∧ (∃ o, h.get? a = some o) ∧ ∀ h1 h2 : Heap, φ h1 → (∀ o, h1.get? a = some o → h2.get? a = some o) → φ h2
def HOk (H : Hp) (h : Heap) : Prop := ∀ a o, H a = some o → ObjOk P w H h a o
end
section
variable {P : Program} {w : World} {H H' : Hp} {h h' : Heap} {a : Addr} {o : HO}
theorem ObjOk.lt (x : ObjOk P w H h a o) : a < h.objs.size := by
  cases o with
  | lst xs => obtain ⟨_, _, _, _, e⟩ := x; exact Heap.lt_size e
  | tup xs => obtain ⟨_, _, _, p⟩ := x; exact p.lt
  | dK kvs => obtain ⟨_, _, _, _, o, _, _, e, _⟩ := x; exact Heap.lt_size e
  | dT kvs => obtain ⟨_, _, _, _, o, _, _, e, _⟩ := x; exact Heap.lt_size e
  | set S n => obtain ⟨o, _, _, _, e, _⟩ := x; exact Heap.lt_size e
  | ins C dx fs => obtain ⟨_, _, _, e, _⟩ := x; exact Heap.lt_size e
  | own y => obtain ⟨_, e⟩ := x; exact Heap.lt_size e
  | xd fs => obtain ⟨_, ⟨_, _, _, e, _⟩, _⟩ := x; exact Heap.lt_size e
  | rng lo hi => obtain ⟨_, _, _, e⟩ := x; exact Heap.lt_size e
  | frz ob u => obtain ⟨e, _⟩ := x; exact Heap.lt_size e
  | tbl ps => exact Heap.lt_size (show h.get? a = some _ from x)
  | met f y => exact Heap.lt_size (show h.get? a = some _ from x)
  | ext φ => obtain ⟨_, ⟨_, e⟩, _⟩ := x; exact Heap.lt_size e
theorem Paired.mapP {α β : Type} {F G : α → β → Prop} : ∀ {l₁ : List α} {l₂ : List β}, Paired F l₁ l₂ → (∀ a b, F a b → G a b) → Paired G l₁ l₂
  | _, _, .nil, _ => .nil
  | _, _, .cons r t, f => .cons (f _ _ r) (Paired.mapP t f)
theorem ObjOk.stay (x : ObjOk P w H h a o) (k : ∀ b u, (b = a ∨ H b = some (.own a)) → h.get? b = some u → h'.get? b = some u)
    (ho : ∀ b, H b = some (.own a) → H' b = some (.own a)) (ht : ∀ b xs, H b = some (.tup xs) → H' b = some (.tup xs)) : ObjOk P w H' h' a o := by
  induction o with
  | lst xs => obtain ⟨z, its, n, r, e⟩ := x; exact ⟨z, its, n, r, k _ _ (.inl rfl) e⟩
  | tup xs => obtain ⟨z, its, r, ob, e, c⟩ := x; exact ⟨z, its, r, ob, k _ _ (.inl rfl) e, c⟩
  | dK kvs => obtain ⟨z, y, vs, r, ob, es, ep, e, c⟩ := x; exact ⟨z, y, vs, r, ob, es, ep, k _ _ (.inl rfl) e, c⟩
  | dT kvs =>
    obtain ⟨z, y, xs, r, ob, es, ep, e, c⟩ := x
    exact ⟨z, y, xs, Paired.mapP r fun p q z => ⟨z.1, ht _ _ z.2.1, z.2.2⟩, ob, es, ep, k _ _ (.inl rfl) e, c⟩
  | set S n => obtain ⟨ob, es, ep, t, e, c⟩ := x; exact ⟨ob, es, ep, t, k _ _ (.inl rfl) e, c⟩
  | ins C dx fs =>
    obtain ⟨d, z, ne, e, mA, ⟨od, es, ep, e2, c⟩, r⟩ := x
    exact ⟨ho _ d, z, ne, k _ _ (.inl rfl) e, mA, ⟨od, es, ep, k _ _ (.inr d) e2, c⟩, r⟩
  | own y => obtain ⟨ob, e⟩ := x; exact ⟨ob, k _ _ (.inl rfl) e⟩
  | xd fs => obtain ⟨mA, ⟨od, es, ep, e, c⟩, r⟩ := x; exact ⟨mA, ⟨od, es, ep, k _ _ (.inl rfl) e, c⟩, r⟩
  | rng lo hi => obtain ⟨t, u, v, e⟩ := x; exact ⟨t, u, v, k _ _ (.inl rfl) e⟩
  | frz ob u ih => obtain ⟨e, q⟩ := x; exact ⟨k _ _ (.inl rfl) e, ih q⟩
  | tbl ps =>
    have e : h.get? a = some { cls := .none, data := .fields ps } := x
    show h'.get? a = some { cls := .none, data := .fields ps }
    exact k a _ (.inl rfl) e
  | met f y =>
    have e : h.get? a = some (PySem.W.methodObj (.ref f) (.ref y)) := x
    show h'.get? a = some (PySem.W.methodObj (.ref f) (.ref y))
    exact k a _ (.inl rfl) e
  | ext φ => obtain ⟨p, ⟨o, e⟩, st⟩ := x; exact ⟨st _ _ p fun o q => k _ _ (.inl rfl) q, ⟨o, k _ _ (.inl rfl) e⟩, st⟩
theorem HOk.lt (x : HOk P w H h) (e : H a = some o) : a < h.objs.size := (x a o e).lt
theorem HOk.fresh (x : HOk P w H h) (e : h.objs.size ≤ a) : H a = none := by
  cases q : H a with
  | none => rfl
  | some u => exact absurd (Nat.lt_of_lt_of_le (x.lt q) e) (Nat.lt_irrefl _)
theorem HOk.kept (x : HOk P w H h) (k : ∀ b u, h.get? b = some u → h'.get? b = some u) : HOk P w H h' := fun a o e =>
  (x a o e).stay (fun b u _ q => k b u q) (fun _ q => q) fun _ _ q => q
theorem HOk.laid (x : HOk P w H h) (k : ∀ b u, h.get? b = some u → h'.get? b = some u) (hp : h.objs.size ≤ a) (new : ObjOk P w (upd H a o) h' a o) : HOk P w (upd H a o) h' := fun b u e => by
  have hn := x.fresh hp
  by_cases hb : b = a
  · subst hb; rw [upd_same] at e; cases e; exact new
  · rw [upd_ne hb] at e
    exact (x b u e).stay (fun c v _ q => k c v q) (fun c q => by rw [upd_ne (ne_of_none q hn)]; exact q) fun c xs q => by rw [upd_ne (ne_of_none q hn)]; exact q
end
def Rd (H : Hp) (a : Addr) (u : HO) : Prop := H a = some u ∨ ∃ o, H a = some (.frz o u)
theorem Rd.of {H : Hp} {a : Addr} {u : HO} (h : H a = some u) : Rd H a u := .inl h
theorem Rd.ok {P : Program} {w : World} {H : Hp} {h : Heap} {a : Addr} {u : HO} (r : Rd H a u) (x : HOk P w H h) : ObjOk P w H h a u := by
  rcases r with r | ⟨o, r⟩
  · exact x a u r
  · obtain ⟨_, q⟩ := x a _ r
    exact q
def Mut : Option HO → Prop
  | some (.lst _) => True
  | some (.dK _) => True
  | some (.dT _) => True
  | some (.set _ _) => True
  | some (.ins _ _ _) => True
  | some (.ext _) => True
  | _ => False
section
variable {P : Program} {w : World} {H : Hp} {h h' : Heap} {x e : Addr} {o' : HO}
theorem HOk.write (ok : HOk P w H h) (mu : Mut (H x)) (he : e = x ∨ H e = some (.own x)) (k : ∀ b u, b ≠ e → h.get? b = some u → h'.get? b = some u) (heo : ∃ u, h'.get? e = some u)
    (new : ObjOk P w (upd H x o') h' x o') : HOk P w (upd H x o') h' := fun b u q => by
  have nown : ∀ c y, H c = some (.own y) → c ≠ x := fun c y r z => by subst z; rw [r] at mu; exact mu
  have ntup : ∀ c xs, H c = some (.tup xs) → c ≠ x := fun c xs r z => by subst z; rw [r] at mu; exact mu
  by_cases hb : b = x
  · subst hb; rw [upd_same] at q; cases q; exact new
  · rw [upd_ne hb] at q
    by_cases hbe : b = e
    · have q' : H b = some (.own x) := by
        rcases he with z | z
        · exact absurd (hbe.trans z) hb
        · rw [hbe]; exact z
      rw [q] at q'; cases q'
      obtain ⟨v, hv⟩ := heo
      exact ⟨v, by rw [hbe]; exact hv⟩
    · refine (ok b u q).stay (fun c v hc r => k c v ?_ r) (fun c r => by rw [upd_ne (nown c b r)]; exact r) fun c xs r => by rw [upd_ne (ntup c xs r)]; exact r
      rcases hc with rfl | hc
      · exact hbe
      · rintro rfl
        rcases he with z | z
        · exact nown c b hc z
        · rw [hc] at z; cases z; exact hb rfl
end
structure Un (fs ex : List Addr) (H H' : Hp) (h h' : Heap) : Prop where
  keep : ∀ b o, h.get? b = some o → H b = none → b ∉ fs → b ∉ ex → h'.get? b = some o
  slot : ∀ b o, h.get? b = some o → H b = none → b ∈ fs → b ∉ ex → ∃ sl, h'.get? b = some { o with slots := sl }
  free : ∀ b o, h.get? b = some o → H b = none → b ∉ ex → H' b = none
  there : ∀ b o, h.get? b = some o → b ∉ ex → ∃ o', h'.get? b = some o'
  tups : ∀ b xs, H b = some (.tup xs) → H' b = some (.tup xs)
  frzs : ∀ b o u, H b = some (.frz o u) → H' b = some (.frz o u)
  tbls : ∀ b ps, H b = some (.tbl ps) → ∃ more, H' b = some (.tbl (ps ++ more))
section
variable {fs fs' ex ex' : List Addr} {H H1 H2 : Hp} {h h1 h2 h' : Heap} {a x e : Addr} {o : HO}
theorem Un.any (u : Un fs ex H H1 h h1) {b : Addr} {ob : Obj} (q : h.get? b = some ob) (n : H b = none) (hx : b ∉ ex) : ∃ sl, h1.get? b = some { ob with slots := sl } := by
  by_cases hb : b ∈ fs
  · exact u.slot b ob q n hb hx
  · exact ⟨ob.slots, u.keep b ob q n hb hx⟩
theorem Un.trans (a : Un fs ex H H1 h h1) (b : Un fs ex H1 H2 h1 h2) : Un fs ex H H2 h h2 where
  keep := fun c ob q n hc hx => b.keep c ob (a.keep c ob q n hc hx) (a.free c ob q n hx) hc hx
  slot := fun c ob q n hc hx => by
    obtain ⟨sl, e1⟩ := a.slot c ob q n hc hx
    obtain ⟨sl', e2⟩ := b.slot c _ e1 (a.free c ob q n hx) hc hx
    exact ⟨sl', e2⟩
  free := fun c ob q n hx => by
    obtain ⟨o', e1⟩ := a.there c ob q hx
    exact b.free c o' e1 (a.free c ob q n hx) hx
  there := fun c ob q hx => by
    obtain ⟨o', e1⟩ := a.there c ob q hx
    exact b.there c o' e1 hx
  tups := fun c xs q => b.tups c xs (a.tups c xs q)
  frzs := fun c ob xs q => b.frzs c ob xs (a.frzs c ob xs q)
  tbls := fun c ps q => by
    obtain ⟨m1, e1⟩ := a.tbls c ps q
    obtain ⟨m2, e2⟩ := b.tbls c _ e1
    exact ⟨m1 ++ m2, by rw [e2, Array.append_assoc]⟩
theorem Un.kept (k : ∀ b u, h.get? b = some u → h'.get? b = some u) : Un fs ex H H h h' :=
  ⟨fun b ob q _ _ _ => k b ob q, fun b ob q _ _ _ => ⟨ob.slots, k b ob q⟩, fun _ _ _ n _ => n, fun b ob q _ => ⟨ob, k b ob q⟩, fun _ _ q => q, fun _ _ _ q => q, fun _ ps q => ⟨#[], by rw [q]; simp⟩⟩
theorem Un.refl : Un fs ex H H h h := Un.kept fun _ _ q => q
theorem Un.laid (k : ∀ b u, h.get? b = some u → h'.get? b = some u) (hp : h.objs.size ≤ a) (hn : H a = none) : Un fs ex H (upd H a o) h h' where
  keep := fun b u q _ _ _ => k b u q
  slot := fun b u q _ _ _ => ⟨u.slots, k b u q⟩
  free := fun b u q n _ => by rw [upd_ne (Nat.ne_of_lt (Nat.lt_of_lt_of_le (Heap.lt_size q) hp))]; exact n
  there := fun b u q _ => ⟨u, k b u q⟩
  tups := fun b xs q => by rw [upd_ne (ne_of_none q hn)]; exact q
  frzs := fun b u xs q => by rw [upd_ne (ne_of_none q hn)]; exact q
  tbls := fun b ps q => ⟨#[], by rw [upd_ne (ne_of_none q hn), q]; simp⟩
theorem Un.write (mu : Mut (H x)) (he : e = x ∨ H e = some (.own x)) (k : ∀ b u, b ≠ e → h.get? b = some u → h'.get? b = some u) (heo : ∃ u, h'.get? e = some u) : Un fs ex H (upd H x o) h h' := by
  have hx : ∀ b, H b = none → b ≠ x := fun b n z => by subst z; rw [n] at mu; exact mu
  have hb : ∀ b, H b = none → b ≠ e := fun b n z => by
    subst z
    rcases he with r | r
    · exact hx b n r
    · rw [n] at r; cases r
  have hm : ∀ b u, H b = some u → ¬ Mut (some u) → b ≠ x := fun b u q nm z => by subst z; rw [q] at mu; exact nm mu
  refine ⟨fun b u q n _ _ => k b u (hb b n) q, fun b u q n _ _ => ⟨u.slots, k b u (hb b n) q⟩, fun b u q n _ => by rw [upd_ne (hx b n)]; exact n, fun b u q _ => ?_,
    fun b xs q => by rw [upd_ne (hm b _ q fun z => z)]; exact q, fun b u xs q => by rw [upd_ne (hm b _ q fun z => z)]; exact q, fun b ps q => ⟨#[], by rw [upd_ne (hm b _ q fun z => z), q]; simp⟩⟩
  by_cases hbe : b = e
  · subst hbe; exact heo
  · exact ⟨u, k b u hbe q⟩
theorem Un.mono (u : Un fs ex H H1 h h1) (hs : ∀ b ∈ fs, b ∈ fs') (hx : ∀ b ∈ ex, b ∈ ex') : Un fs' ex' H H1 h h1 :=
  ⟨fun b ob q n hb he => u.keep b ob q n (fun z => hb (hs b z)) fun z => he (hx b z), fun _ _ q n _ he => u.any q n fun z => he (hx _ z), fun b ob q n he => u.free b ob q n fun z => he (hx b z), fun b ob q he => u.there b ob q fun z => he (hx b z), u.tups, u.frzs, u.tbls⟩
end
def trk (h : Heap) (H : Hp) : List Addr := (List.range h.objs.size).filter fun a => (H a).isSome
def hidT (h : Heap) (H : Hp) : Heap := PySem.W.hideAll h (trk h H)
theorem hidT_size (h : Heap) (H : Hp) : (hidT h H).objs.size = h.objs.size := PySem.W.hideAll_size _ _
theorem hidT_get {h : Heap} {H : Hp} {b : Addr} {o : Obj} (e : h.get? b = some o) (n : H b = none) : (hidT h H).get? b = some o :=
  PySem.W.hideAll_get _ e fun hm => by
    have q : (H b).isSome = true := (List.mem_filter.mp hm).2
    rw [n] at q; simp at q
theorem of_hidT {h : Heap} {H : Hp} {b : Addr} {o : Obj} (e : (hidT h H).get? b = some o) : h.get? b = some o ∧ H b = none := by
  have e' : h.get? b = some o := PySem.W.of_hideAll (trk h H) e
  refine ⟨e', ?_⟩
  cases q : H b with
  | none => rfl
  | some x =>
    have hm : b ∈ trk h H := List.mem_filter.mpr ⟨List.mem_range.mpr (Heap.lt_size e'), by simp [q]⟩
    have z : (hidT h H).get? b = none := PySem.W.hideAll_none (trk h H) hm
    rw [z] at e; cases e
def allNews (g h : Heap) (L : Addr) : List (Addr × Obj) := (List.range h.objs.size).filterMap fun a => if a = L ∨ (g.get? a).isSome = true then none else (h.get? a).map fun o => (a, o)
def rest (g h : Heap) (L d : Addr) : List (Addr × Obj) := (allNews g h L).filter fun p => decide (p.1 ≠ d)
end L2
namespace L2
open PySem PySem.Spec PyProof.Rows
structure Mod (K : PySem.W.Frag) (mg : Str → Option Value) (base : Heap) : Prop where
  kin : K.In base
  glob : base.Ns mainGlobals mg
  blt : ∃ mb, base.Ns builtinsNs mb ∧ ∀ x : Str, x ≠ "__name__" → mb x = bootBuiltins x
  nolimit : base.NoLimit
structure Cx where
  prog : Program
  w : World
  K : PySem.W.Frag
  mg : Str → Option Value
  base : Heap
  A : Around
  N : List Str
  s₀ : Shared
  H₀ : Hp
  env : Env
  outer : List Env
  stack : List Env
  ex : List Addr
  fn : Str → Bool
  calm : Bool
  pn : List (Addr × Obj)
  xe : Value → Shared → Prop
def frs (l : List Env) : List Addr := l.filterMap (·.frame)
abbrev Cx.fs (X : Cx) : List Addr := frs X.outer
def Vis (sc : Scope) (x : Str) : Prop := sc.names.lookup x = some .local ∨ sc.names.lookup x = some .cell ∨ sc.names.lookup x = some .free
def Loc (sc : Scope) (x : Str) : Prop := sc.names.lookup x = some .local ∨ sc.names.lookup x = some .cell
def Look (env : Env) (h : Heap) (m : Str → Option Value) (x : Str) (u : Value) : Prop :=
  (env.kindOf x = some .local ∧ m x = some u) ∨ ((env.kindOf x = some .cell ∨ env.kindOf x = some .free) ∧ ∃ c, env.cells.lookup x = some c ∧ h.IsCell c (some u))
structure Cx.Ok (X : Cx) : Prop where
  mod : Mod X.K X.mg X.base
  kind : X.env.scope.kind = .function
  glob : X.env.globals = mainGlobals
  blt : X.env.builtins = builtinsNs
  above : X.s₀.heap.objs.size ≤ X.env.locals
  inj : ∀ x y c, X.env.cells.lookup x = some c → X.env.cells.lookup y = some c → x = y
  has : ∀ x, (X.env.kindOf x = some .cell ∨ X.env.kindOf x = some .free) → ∃ c, X.env.cells.lookup x = some c
  cab : ∀ x c, X.fn x = true → X.env.cells.lookup x = some c → X.s₀.heap.objs.size ≤ c
  hd : X.calm = true → X.A.handled = none
  frames : X.A.frames = some X.stack
  stk : X.stack = X.outer ∨ (X.stack = X.env :: X.outer ∧ X.env.frame = some X.env.locals)
  exf : ∀ b ∈ X.ex, b ≠ X.env.locals ∧ ∀ x c, X.env.cells.lookup x = some c → c ≠ b
  bs : ∀ b o, X.base.get? b = some o → X.s₀.heap.get? b = some o ∧ X.H₀ b = none
  bsz : X.base.objs.size ≤ X.s₀.heap.objs.size
  noex : ∀ b o, X.base.get? b = some o → b ∉ X.ex
  exfs : ∀ b ∈ X.ex, b ∉ X.fs
  funs : X.s₀.heap.FunFrames X.base X.outer
  frf : ∀ b ∈ X.fs, X.H₀ b = none
structure Inv (X : Cx) (pins : List (Addr × Obj)) (σ : List (Option V)) (H : Hp) (s : Shared) : Prop where
  ok : X.Ok
  os : s.os = X.s₀.os
  bare : AllBare s.gens
  base : Un X.fs X.ex X.H₀ H X.s₀.heap s.heap
  loc : ∃ m, s.heap.Ns X.env.locals m ∧ ∀ (i : Nat) (x : Str) (v : V), X.N[i]? = some x → σ[i]? = some (some v) → Vis X.env.scope x → ∃ u, RelV v u ∧ Look X.env s.heap m x u
  cell : ∀ x c, X.env.cells.lookup x = some c → ∃ v, s.heap.IsCell c v
  free : H X.env.locals = none
  freeC : ∀ x c, X.env.cells.lookup x = some c → H c = none
  pin : ∀ p ∈ X.pn ++ pins, s.heap.get? p.1 = some p.2 ∧ H p.1 = none ∧ p.1 ≠ X.env.locals ∧ p.1 ∉ X.fs ∧ ∀ v, p.2.data ≠ .cell v
  hok : HOk X.prog X.w H s.heap
  len : σ.length = X.N.length
section
variable {X : Cx} {pins : List (Addr × Obj)} {σ : List (Option V)} {H H' : Hp} {s : Shared} {h' : Heap}
theorem Cx.Ok.nofr (ok : X.Ok) {b : Addr} {o : Obj} (e : X.base.get? b = some o) : b ∉ X.fs := fun hb => by
  have := (ok.funs.mem hb).1
  rw [e] at this; cases this
theorem Inv.bs (I : Inv X pins σ H s) : ∀ b o, X.base.get? b = some o → s.heap.get? b = some o ∧ H b = none := fun b o e =>
  ⟨I.base.keep b o (I.ok.bs b o e).1 (I.ok.bs b o e).2 (I.ok.nofr e) (I.ok.noex b o e), I.base.free b o (I.ok.bs b o e).1 (I.ok.bs b o e).2 (I.ok.noex b o e)⟩
theorem Inv.bk (I : Inv X pins σ H s) : ∀ b o, X.base.get? b = some o → s.heap.get? b = some o := fun b o e => (I.bs b o e).1
theorem Inv.mod (I : Inv X pins σ H s) : Mod X.K X.mg X.base := I.ok.mod
theorem Inv.kIn (I : Inv X pins σ H s) : X.K.In s.heap := I.ok.mod.kin.keeps I.bk
theorem Inv.nolimit (I : Inv X pins σ H s) : s.heap.NoLimit := I.ok.mod.nolimit.keeps I.bk
theorem Inv.fr (I : Inv X pins σ H s) : ∃ m, Fr X.base X.env.locals s.heap m :=
  let ⟨m, hn, _⟩ := I.loc
  ⟨m, hn, I.bk, Nat.le_trans I.ok.bsz I.ok.above⟩
theorem Inv.lt (I : Inv X pins σ H s) : X.env.locals < s.heap.objs.size := let ⟨_, hn, _⟩ := I.loc; hn.lt
theorem Inv.sz (I : Inv X pins σ H s) : X.s₀.heap.objs.size ≤ s.heap.objs.size := Nat.le_trans I.ok.above (Nat.le_of_lt I.lt)
theorem Inv.nofs (I : Inv X pins σ H s) {a : Addr} (h : s.heap.objs.size ≤ a) : a ∉ X.fs := fun hb => by
  obtain ⟨_, o, ho, _⟩ := I.ok.funs.mem hb
  exact absurd (Nat.lt_of_lt_of_le (Heap.lt_size ho) (Nat.le_trans I.sz h)) (Nat.lt_irrefl _)
theorem Inv.cne (I : Inv X pins σ H s) : ∀ x c, X.env.cells.lookup x = some c → c ≠ X.env.locals := fun x c e z => by
  obtain ⟨v, o, ho, hd⟩ := I.cell x c e
  obtain ⟨m, ⟨o', es, ep, ho', hd', _⟩, _⟩ := I.loc
  rw [z, ho'] at ho; cases ho; rw [hd'] at hd; cases hd
theorem Inv.funs (I : Inv X pins σ H s) : s.heap.FunFrames X.base X.outer := by
  have all : ∀ (l : List Env), (∀ b ∈ frs l, b ∈ X.fs) → X.s₀.heap.FunFrames X.base l → s.heap.FunFrames X.base l := by
    intro l
    induction l with
    | nil => intro _ _; trivial
    | cons env r ih =>
      intro hs hl
      obtain ⟨hk, ⟨L, o, hf, hn, ho, hd⟩, hr⟩ := hl
      have hL : L ∈ X.fs := hs L (by unfold frs; rw [List.filterMap_cons, hf]; exact List.mem_cons_self)
      obtain ⟨sl, e⟩ := I.base.slot L o ho (I.ok.frf L hL) hL fun z => I.ok.exfs L z hL
      exact ⟨hk, ⟨L, _, hf, hn, e, hd⟩, ih (fun b hb => hs b (by unfold frs; rw [List.filterMap_cons, hf]; exact List.mem_cons_of_mem _ hb)) hr⟩
  exact all X.outer (fun _ hb => hb) I.ok.funs
theorem Inv.stack (I : Inv X pins σ H s) : s.heap.FunFrames X.base X.stack := by
  rcases I.ok.stk with e | ⟨e, hf⟩
  · rw [e]; exact I.funs
  · rw [e]
    obtain ⟨m, hn, _⟩ := I.loc
    refine .cons (by rw [I.ok.kind]; decide) hf hn ?_ I.funs
    exact Heap.get?_none_of_le (Nat.le_trans I.ok.bsz I.ok.above)
theorem Inv.stkSub (I : Inv X pins σ H s) : ∀ b ∈ frs X.stack, b ∈ X.env.locals :: X.fs := fun b hb => by
  rcases I.ok.stk with e | ⟨e, hf⟩
  · rw [e] at hb; exact List.mem_cons_of_mem _ hb
  · rw [e] at hb
    unfold frs at hb
    rw [List.filterMap_cons, hf] at hb
    exact hb
theorem Inv.stkFree (I : Inv X pins σ H s) : ∀ b ∈ frs X.stack, H b = none := fun b hb => by
  rcases List.mem_cons.mp (I.stkSub b hb) with e | hb
  · rw [e]; exact I.free
  · obtain ⟨_, o, ho, _⟩ := I.ok.funs.mem hb
    exact I.base.free b o ho (I.ok.frf b hb) fun z => I.ok.exfs b z hb
theorem Inv.step {g' : Array GenState} {t' : Nat} {d' : Drawn} {ch : List Addr} (I : Inv X pins σ H s)
    (hch : ∀ b ∈ ch, (b ∈ X.ex ∨ X.s₀.heap.objs.size ≤ b) ∧ b ≠ X.env.locals ∧ (∀ x c, X.env.cells.lookup x = some c → c ≠ b) ∧ ∀ p ∈ X.pn ++ pins, p.1 ≠ b)
    (keep : ∀ b o, b ≠ X.env.locals → b ∉ X.fs → b ∉ ch → s.heap.get? b = some o → H b = none → h'.get? b = some o)
    (slot : ∀ b o, b ≠ X.env.locals → b ∈ X.fs → b ∉ ch → s.heap.get? b = some o → H b = none → ∃ sl, h'.get? b = some { o with slots := sl }) (free : ∀ b o, b ∉ ch → s.heap.get? b = some o → H b = none → H' b = none)
    (there : ∀ b o, b ∉ ch → s.heap.get? b = some o → ∃ o', h'.get? b = some o')
    (tups : ∀ b xs, H b = some (.tup xs) → H' b = some (.tup xs)) (frzs : ∀ b o u, H b = some (.frz o u) → H' b = some (.frz o u)) (tbls : ∀ b ps, H b = some (.tbl ps) → ∃ more, H' b = some (.tbl (ps ++ more)))
    (ns : ∀ m, s.heap.Ns X.env.locals m → h'.Ns X.env.locals m) (hok : HOk X.prog X.w H' h') (hg : AllBare g') :
    Inv X pins σ H' { s with heap := h', gens := g', drawn := d', toks := t' } := by
  have neL : ∀ b o, X.s₀.heap.get? b = some o → b ≠ X.env.locals := fun b o e => Nat.ne_of_lt (Nat.lt_of_lt_of_le (Heap.lt_size e) I.ok.above)
  have neC : ∀ b o, X.s₀.heap.get? b = some o → b ∉ X.ex → b ∉ ch := fun b o e hx hb => by
    rcases (hch b hb).1 with z | z
    · exact hx z
    · exact absurd (Nat.lt_of_lt_of_le (Heap.lt_size e) z) (Nat.lt_irrefl _)
  have cellK : ∀ x c, X.env.cells.lookup x = some c → ∀ v, s.heap.IsCell c v → h'.IsCell c v := fun x c e v ⟨o, ho, hd⟩ => by
    have nch : c ∉ ch := fun z => (hch c z).2.2.1 x c e rfl
    by_cases hc : c ∈ X.fs
    · obtain ⟨sl, q⟩ := slot c o (I.cne x c e) hc nch ho (I.freeC x c e)
      exact ⟨_, q, hd⟩
    · exact ⟨o, keep c o (I.cne x c e) hc nch ho (I.freeC x c e), hd⟩
  refine ⟨I.ok, I.os, hg, ⟨fun b o e n hb hx => ?_, fun b o e n hb hx => ?_, fun b o e n hx => ?_, fun b o e hx => ?_, fun b xs e => tups b xs (I.base.tups b xs e), fun b o xs e => frzs b o xs (I.base.frzs b o xs e), fun b ps e => ?_⟩, ?_, fun x c e => ?_, ?_, fun x c e => ?_, fun p hp => ?_, hok, I.len⟩
  · exact keep b o (neL b o e) hb (neC b o e hx) (I.base.keep b o e n hb hx) (I.base.free b o e n hx)
  · obtain ⟨sl, e1⟩ := I.base.slot b o e n hb hx
    obtain ⟨sl', e2⟩ := slot b _ (neL b o e) hb (neC b o e hx) e1 (I.base.free b o e n hx)
    exact ⟨sl', e2⟩
  · obtain ⟨o', e1⟩ := I.base.there b o e hx
    exact free b o' (neC b o e hx) e1 (I.base.free b o e n hx)
  · obtain ⟨o', e1⟩ := I.base.there b o e hx
    exact there b o' (neC b o e hx) e1
  · obtain ⟨m1, e1⟩ := I.base.tbls b ps e
    obtain ⟨m2, e2⟩ := tbls b _ e1
    exact ⟨m1 ++ m2, by rw [e2, Array.append_assoc]⟩
  · obtain ⟨m, hn, hl⟩ := I.loc
    refine ⟨m, ns m hn, fun i x v e1 e2 e3 => ?_⟩
    obtain ⟨u, r, l⟩ := hl i x v e1 e2 e3
    refine ⟨u, r, ?_⟩
    rcases l with l | ⟨k, c, e, z⟩
    · exact .inl l
    · exact .inr ⟨k, c, e, cellK x c e _ z⟩
  · obtain ⟨v, z⟩ := I.cell x c e
    exact ⟨v, cellK x c e v z⟩
  · obtain ⟨m, ⟨o, _, _, ho, _⟩, _⟩ := I.loc
    exact free _ o (fun z => (hch _ z).2.1 rfl) ho I.free
  · obtain ⟨v, o, ho, hd⟩ := I.cell x c e
    exact free c o (fun z => (hch c z).2.2.1 x c e rfl) ho (I.freeC x c e)
  · obtain ⟨e, n, ne, nf, d⟩ := I.pin p hp
    have nch : p.1 ∉ ch := fun z => (hch p.1 z).2.2.2 p hp rfl
    exact ⟨keep p.1 p.2 ne nf nch e n, free p.1 p.2 nch e n, ne, nf, d⟩
theorem Inv.un {t' : Nat} (I : Inv X pins σ H s) (u : Un X.fs [] H H' s.heap h') (hok : HOk X.prog X.w H' h') : Inv X pins σ H' { s with heap := h', toks := t' } := by
  obtain ⟨m, ⟨o, es, ep, ho, r⟩, _⟩ := id I.loc
  obtain ⟨sl, hL⟩ := u.any ho I.free (by simp)
  exact I.step (g' := s.gens) (d' := s.drawn) (ch := []) (fun _ z => nomatch z) (fun b o _ hb _ e n => u.keep b o e n hb (by simp)) (fun b o _ hb _ e n => u.slot b o e n hb (by simp)) (fun b o _ e n => u.free b o e n (by simp)) (fun b o _ e => u.there b o e (by simp)) u.tups u.frzs u.tbls (fun m' hm => by
    obtain ⟨o', es', ep', ho', r'⟩ := hm
    rw [ho] at ho'; cases ho'
    exact ⟨_, es', ep', hL, r'⟩) hok I.bare
theorem Inv.call {g' : Array GenState} {t' : Nat} {d' : Drawn} {ch : List Addr} (I : Inv X pins σ H s) (u : Un (frs X.stack) ch H H' s.heap h') (hok : HOk X.prog X.w H' h') (hg : AllBare g')
    (hch : ∀ b ∈ ch, (b ∈ X.ex ∨ X.s₀.heap.objs.size ≤ b) ∧ b ≠ X.env.locals ∧ (∀ x c, X.env.cells.lookup x = some c → c ≠ b) ∧ ∀ p ∈ X.pn ++ pins, p.1 ≠ b) :
    Inv X pins σ H' { s with heap := h', gens := g', drawn := d', toks := t' } := by
  obtain ⟨m, ⟨o, es, ep, ho, r⟩, _⟩ := id I.loc
  obtain ⟨sl, hL⟩ := u.any ho I.free fun z => (hch _ z).2.1 rfl
  exact I.step (ch := ch) hch (fun b o hL hb hc e n => u.keep b o e n (fun z => (List.mem_cons.mp (I.stkSub b z)).elim hL hb) hc) (fun b o _ _ hc e n => u.any e n hc) (fun b o hc e n => u.free b o e n hc) (fun b o hc e => u.there b o e hc) u.tups u.frzs u.tbls (fun m' hm => by
    obtain ⟨o', es', ep', ho', r'⟩ := hm
    rw [ho] at ho'; cases ho'
    exact ⟨_, es', ep', hL, r'⟩) hok hg
theorem Inv.turned {t' : Nat} {it : Addr} (I : Inv X pins σ H s) (k : ∀ b o, b ≠ it → s.heap.get? b = some o → h'.get? b = some o) (hn : H it = none) (hL : it ≠ X.env.locals)
    (h1 : it ∈ X.ex ∨ X.s₀.heap.objs.size ≤ it) (h2 : ∀ x c, X.env.cells.lookup x = some c → c ≠ it) (h3 : ∀ p ∈ X.pn ++ pins, p.1 ≠ it) : Inv X pins σ H { s with heap := h', toks := t' } := by
  have nit : ∀ b u, H b = some u → b ≠ it := fun b u e z => by rw [z, hn] at e; cases e
  refine I.step (g' := s.gens) (d' := s.drawn) (ch := [it]) (fun b hb => ?_) (fun b o _ _ hc e _ => k b o (fun z => hc (by simp [z])) e) (fun b o _ _ hc e _ => ⟨o.slots, k b o (fun z => hc (by simp [z])) e⟩) (fun _ _ _ _ n => n)
    (fun b o hc e => ⟨o, k b o (fun z => hc (by simp [z])) e⟩) (fun _ _ e => e) (fun _ _ _ e => e) (fun b ps e => ⟨#[], by rw [e]; simp⟩) (fun m hm => ?_) (fun b u e => ?_) I.bare
  · have e : b = it := by simpa using hb
    subst e
    exact ⟨h1, hL, h2, h3⟩
  · obtain ⟨o, es, ep, ho, r⟩ := hm
    exact ⟨o, es, ep, k _ o (Ne.symm hL) ho, r⟩
  · refine (I.hok b u e).stay (fun c v hc q => k c v ?_ q) (fun _ q => q) fun _ _ q => q
    rcases hc with z | z
    · rw [z]; exact nit b u e
    · exact nit c _ z
theorem Inv.tok (I : Inv X pins σ H s) (t : Nat) : Inv X pins σ H { s with toks := t } := I.un (h' := s.heap) (t' := t) Un.refl I.hok
theorem Inv.kept {t' : Nat} (I : Inv X pins σ H s) (k : ∀ b u, s.heap.get? b = some u → h'.get? b = some u) : Inv X pins σ H { s with heap := h', toks := t' } := I.un (Un.kept k) (I.hok.kept k)
theorem Inv.laid {a : Addr} {o : HO} {t' : Nat} (I : Inv X pins σ H s) (k : ∀ b u, s.heap.get? b = some u → h'.get? b = some u) (hp : s.heap.objs.size ≤ a) (new : ObjOk X.prog X.w (upd H a o) h' a o) :
    Inv X pins σ (upd H a o) { s with heap := h', toks := t' } := I.un (Un.laid k hp (I.hok.fresh hp)) (I.hok.laid k hp new)
theorem Inv.write {x e : Addr} {o : HO} {t' : Nat} (I : Inv X pins σ H s) (mu : Mut (H x)) (he : e = x ∨ H e = some (.own x)) (k : ∀ b u, b ≠ e → s.heap.get? b = some u → h'.get? b = some u) (heo : ∃ u, h'.get? e = some u)
    (new : ObjOk X.prog X.w (upd H x o) h' x o) : Inv X pins σ (upd H x o) { s with heap := h', toks := t' } := I.un (Un.write mu he k heo) (I.hok.write mu he k heo new)
theorem Inv.weak {σ' : List (Option V)} (I : Inv X pins σ H s) (hl : σ'.length = σ.length) (w : ∀ (i : Nat) v, σ'[i]? = some (some v) → σ[i]? = some (some v)) : Inv X pins σ' H s :=
  ⟨I.ok, I.os, I.bare, I.base, let ⟨m, hn, hl'⟩ := I.loc; ⟨m, hn, fun i x v e1 e2 e3 => hl' i x v e1 (w i v e2) e3⟩, I.cell, I.free, I.freeC, I.pin, I.hok, hl.trans I.len⟩
theorem Inv.pins_of {pins' : List (Addr × Obj)} (I : Inv X pins σ H s) (h : ∀ p ∈ pins', s.heap.get? p.1 = some p.2 ∧ H p.1 = none ∧ p.1 ≠ X.env.locals ∧ p.1 ∉ X.fs ∧ ∀ v, p.2.data ≠ .cell v) : Inv X pins' σ H s :=
  ⟨I.ok, I.os, I.bare, I.base, I.loc, I.cell, I.free, I.freeC, fun p hp => (List.mem_append.mp hp).elim (fun z => I.pin p (List.mem_append_left _ z)) (h p), I.hok, I.len⟩
theorem nodup_ix {N : List Str} (hN : N.Nodup) {i j : Nat} {x : Str} (a : N[i]? = some x) (b : N[j]? = some x) : i = j := by
  obtain ⟨h1, e1⟩ := List.getElem?_eq_some_iff.mp a
  obtain ⟨h2, e2⟩ := List.getElem?_eq_some_iff.mp b
  exact (List.getElem_inj hN).mp (e1.trans e2.symm)
theorem store_ok2 {M : Model} {A : Around} {E : Value → Shared → Prop} {i : Nat} {x : Str} {v : V} {u : Value} {Q : Unit → Shared → Prop} (I : Inv X pins σ H s) (hN : X.N.Nodup) (hi : X.N[i]? = some x) (hx : Loc X.env.scope x) (r : RelV v u)
    (h : ∀ s', Inv X pins (σ.set i (some v)) H s' → (∃ a, Heap.SameBut a s.heap s'.heap ∧ (a = X.env.locals ∨ X.env.cells.lookup x = some a)) → Q () s') (hf : X.fn x = true ∨ X.env.scope.names.lookup x = some .local := by first | exact .inl rfl | exact .inr rfl | assumption) : wpAny M A (storeName X.env x u) Q E s := by
  obtain ⟨m, hn, hl⟩ := id I.loc
  have hcls : (X.env.scope.kind == .class || (X.env.scope.kind == .module && X.env.locals != X.env.globals)) = false := by rw [I.ok.kind]; rfl
  have hiσ : i < σ.length := by rw [I.len]; exact (List.getElem?_eq_some_iff.mp hi).1
  have cne := I.cne
  have tracked : ∀ {a : Addr} {h' : Heap}, (∃ o, s.heap.get? a = some o ∧ H a = none) → Heap.SameBut a s.heap h' → HOk X.prog X.w H h' := fun {a h'} ha hs b ob e => by
    obtain ⟨_, _, hfree⟩ := ha
    refine (I.hok b ob e).stay (fun c w' hc q => (hs.2 c ?_).trans q) (fun _ q => q) fun _ _ q => q
    rintro rfl
    rcases hc with rfl | hc
    · rw [hfree] at e; cases e
    · rw [hfree] at hc; cases hc
  rcases hx with hk | hk
  · refine wpAny_storeName_local hk hn (fun h' hn' hs => ?_) hcls
    obtain ⟨oL, _, _, hoL, _⟩ := id hn
    refine h _ ⟨I.ok, I.os, I.bare, ⟨fun b o e n hb hx => ?_, fun b o e n hb hx => ?_, I.base.free, fun b o e hx => ?_, I.base.tups, I.base.frzs, I.base.tbls⟩, ⟨_, hn', fun j y v' e1 e2 e3 => ?_⟩, fun y c e => ?_, I.free, I.freeC, fun p hp => ?_, tracked ⟨oL, hoL, I.free⟩ hs, by simpa using I.len⟩ ⟨_, hs, .inl rfl⟩
    · exact (hs.2 b (Nat.ne_of_lt (Nat.lt_of_lt_of_le (Heap.lt_size e) I.ok.above))).trans (I.base.keep b o e n hb hx)
    · obtain ⟨sl, e1⟩ := I.base.slot b o e n hb hx
      exact ⟨sl, (hs.2 b (Nat.ne_of_lt (Nat.lt_of_lt_of_le (Heap.lt_size e) I.ok.above))).trans e1⟩
    · obtain ⟨o', e1⟩ := I.base.there b o e hx
      exact ⟨o', (hs.2 b (Nat.ne_of_lt (Nat.lt_of_lt_of_le (Heap.lt_size e) I.ok.above))).trans e1⟩
    · by_cases hj : j = i
      · subst hj
        rw [hi] at e1; cases e1
        rw [List.getElem?_set_self hiσ] at e2
        cases e2
        exact ⟨u, r, .inl ⟨hk, by simp⟩⟩
      · rw [List.getElem?_set_ne (Ne.symm hj)] at e2
        obtain ⟨u', r', q⟩ := hl j y v' e1 e2 e3
        refine ⟨u', r', ?_⟩
        rcases q with ⟨k, e⟩ | ⟨k, c, e, z⟩
        · refine .inl ⟨k, ?_⟩
          have : y ≠ x := fun e => hj (nodup_ix hN e1 (e ▸ hi))
          simp [this, e]
        · exact .inr ⟨k, c, e, z.sameBut hs (cne y c e)⟩
    · obtain ⟨w', z⟩ := I.cell y c e
      exact ⟨w', z.sameBut hs (cne y c e)⟩
    · obtain ⟨e, n, ne, nf, d⟩ := I.pin p hp
      exact ⟨(hs.2 p.1 ne).trans e, n, ne, nf, d⟩
  · have hfn : X.fn x = true := by
      rcases hf with z | z
      · exact z
      · rw [z] at hk; cases hk
    obtain ⟨c, hc⟩ := I.ok.has x (.inl hk)
    obtain ⟨w', z⟩ := I.cell x c hc
    refine wpAny_storeName_cell I.ok.kind hk hc z (fun h' hc' hs => ?_)
    obtain ⟨oc, hoc, hocd⟩ := id z
    refine h { s with heap := h' } ⟨I.ok, I.os, I.bare, ⟨fun b o e n hb hx => ?_, fun b o e n hb hx => ?_, I.base.free, fun b o e hx => ?_, I.base.tups, I.base.frzs, I.base.tbls⟩, ⟨m, hn.sameBut hs (Ne.symm (cne x c hc)), fun j y v' e1 e2 e3 => ?_⟩, fun y c' e => ?_, I.free, I.freeC, fun p hp => ?_, tracked ⟨oc, hoc, I.freeC x c hc⟩ hs, by simpa using I.len⟩ ⟨c, hs, .inr hc⟩
    · exact (hs.2 b (Nat.ne_of_lt (Nat.lt_of_lt_of_le (Heap.lt_size e) (I.ok.cab x c hfn hc)))).trans (I.base.keep b o e n hb hx)
    · obtain ⟨sl, e1⟩ := I.base.slot b o e n hb hx
      exact ⟨sl, (hs.2 b (Nat.ne_of_lt (Nat.lt_of_lt_of_le (Heap.lt_size e) (I.ok.cab x c hfn hc)))).trans e1⟩
    · obtain ⟨o', e1⟩ := I.base.there b o e hx
      exact ⟨o', (hs.2 b (Nat.ne_of_lt (Nat.lt_of_lt_of_le (Heap.lt_size e) (I.ok.cab x c hfn hc)))).trans e1⟩
    · by_cases hj : j = i
      · subst hj
        rw [hi] at e1; cases e1
        rw [List.getElem?_set_self hiσ] at e2
        cases e2
        exact ⟨u, r, .inr ⟨.inl hk, c, hc, hc'⟩⟩
      · rw [List.getElem?_set_ne (Ne.symm hj)] at e2
        obtain ⟨u', r', q⟩ := hl j y v' e1 e2 e3
        refine ⟨u', r', ?_⟩
        rcases q with q | ⟨k, c', e, z'⟩
        · exact .inl q
        · refine .inr ⟨k, c', e, z'.sameBut hs ?_⟩
          rintro rfl
          exact hj (nodup_ix hN e1 (I.ok.inj _ _ _ e hc ▸ hi))
    · by_cases hcc : c' = c
      · subst hcc; exact ⟨_, hc'⟩
      · obtain ⟨w2, z2⟩ := I.cell y c' e
        exact ⟨w2, z2.sameBut hs hcc⟩
    · obtain ⟨e, n, ne, nf, d⟩ := I.pin p hp
      refine ⟨(hs.2 p.1 ?_).trans e, n, ne, nf, d⟩
      intro q
      rw [q, hoc] at e
      have q' : oc = p.2 := Option.some.inj e
      exact d w' (by rw [← q']; exact hocd)
theorem store_ok {M : Model} {A : Around} {E : Value → Shared → Prop} {i : Nat} {x : Str} {v : V} {u : Value} {Q : Unit → Shared → Prop} (I : Inv X pins σ H s) (hN : X.N.Nodup) (hi : X.N[i]? = some x) (hx : Loc X.env.scope x) (r : RelV v u)
    (h : ∀ s', Inv X pins (σ.set i (some v)) H s' → Q () s') (hf : X.fn x = true ∨ X.env.scope.names.lookup x = some .local := by first | exact .inl rfl | exact .inr rfl | assumption) : wpAny M A (storeName X.env x u) Q E s :=
  store_ok2 I hN hi hx r (fun s' I' _ => h s' I') hf
theorem Inv.call' {s' : Shared} {ch : List Addr} (I : Inv X pins σ H s) (ho : s'.os = s.os) (u : Un (frs X.stack) ch H H' s.heap s'.heap) (hok : HOk X.prog X.w H' s'.heap) (hg : AllBare s'.gens)
    (hch : ∀ b ∈ ch, (b ∈ X.ex ∨ X.s₀.heap.objs.size ≤ b) ∧ b ≠ X.env.locals ∧ (∀ x c, X.env.cells.lookup x = some c → c ≠ b) ∧ ∀ p ∈ X.pn ++ pins, p.1 ≠ b) : Inv X pins σ H' s' := by
  obtain ⟨h', g', d', t', o'⟩ := s'
  have e : o' = s.os := ho
  subst e
  exact I.call (g' := g') (t' := t') (d' := d') u hok hg hch
end
abbrev XK := Value → Option Addr → Hp → Prop
abbrev St := List (Option V)
abbrev VK := V → Hp → Prop
abbrev TE := St → Hp → VK → Prop
abbrev TT := St → Hp → (Bool → Hp → Prop) → Prop
abbrev TA := St → Hp → (List V → Hp → Prop) → Prop
structure Ends where
  nx : St → Hp → Prop
  rt : VK
  bk : St → Hp → Prop := fun _ _ => False
  ct : St → Hp → Prop := fun _ _ => False
abbrev TS := Ends → St → Hp → Prop
def EP (X : Cx) (pins : List (Addr × Obj)) (σ : St) (Q : VK) (u : Value) (s' : Shared) : Prop := ∃ v H', Inv X pins σ H' s' ∧ RelV v u ∧ Q v H'
def TP (X : Cx) (pins : List (Addr × Obj)) (σ : St) (Q : Bool → Hp → Prop) (b : Bool) (s' : Shared) : Prop := ∃ H', Inv X pins σ H' s' ∧ Q b H'
def AP (X : Cx) (pins : List (Addr × Obj)) (σ : St) (Q : List V → Hp → Prop) (us : List Value) (s' : Shared) : Prop := ∃ vs H', Inv X pins σ H' s' ∧ Vals vs us ∧ Q vs H'
def SP (X : Cx) (pins : List (Addr × Obj)) (D : Ends) (f : Flow) (s' : Shared) : Prop :=
  match f with
  | .next => ∃ σ' H', Inv X pins σ' H' s' ∧ D.nx σ' H'
  | .brk => ∃ σ' H', Inv X pins σ' H' s' ∧ D.bk σ' H'
  | .cont => ∃ σ' H', Inv X pins σ' H' s' ∧ D.ct σ' H'
  | .ret u => ∃ v σ' H', Inv X pins σ' H' s' ∧ RelV v u ∧ D.rt v H'
def PE (X : Cx) (e : Expr) (t : TE) : Prop :=
  ∀ (pins : List (Addr × Obj)) (s : Shared) (σ : St) (H : Hp) (Q : VK), Inv X pins σ H s → t σ H Q → wpAny (model X.prog X.w) X.A (eval e X.env) (EP X pins σ Q) X.xe s
def PT (X : Cx) (e : Expr) (t : TT) : Prop :=
  ∀ (pins : List (Addr × Obj)) (s : Shared) (σ : St) (H : Hp) (Q : Bool → Hp → Prop), Inv X pins σ H s → t σ H Q → wpAny (model X.prog X.w) X.A (isTrue e X.env (eval e X.env)) (TP X pins σ Q) X.xe s
def PW (X : Cx) (e : Expr) (t : TT) : Prop :=
  ∀ (whole : Sem Value) (pins : List (Addr × Obj)) (s : Shared) (σ : St) (H : Hp) (Q : Bool → Hp → Prop), Inv X pins σ H s → t σ H Q → wpAny (model X.prog X.w) X.A (isTrue e X.env whole) (TP X pins σ Q) X.xe s
theorem PW.pt {X : Cx} {e : Expr} {t : TT} (h : PW X e t) : PT X e t := h _
def PA (X : Cx) (es : List Expr) (t : TA) : Prop :=
  ∀ (pos : Pos) (pins : List (Addr × Obj)) (s : Shared) (σ : St) (H : Hp) (Q : List V → Hp → Prop), Inv X pins σ H s → t σ H Q → wpAny (model X.prog X.w) X.A (spliced (backTo pos (starEach es X.env))) (AP X pins σ Q) X.xe s
def PS (X : Cx) (st : Stmt) (t : TS) : Prop :=
  ∀ (pins : List (Addr × Obj)) (s : Shared) (σ : St) (H : Hp) (D : Ends), Inv X pins σ H s → t D σ H → wpAny (model X.prog X.w) X.A (exec st X.env) (SP X pins D) X.xe s
def PSs (X : Cx) (st : List Stmt) (t : TS) : Prop :=
  ∀ (pins : List (Addr × Obj)) (s : Shared) (σ : St) (H : Hp) (D : Ends), Inv X pins σ H s → t D σ H → wpAny (model X.prog X.w) X.A (execs st X.env) (SP X pins D) X.xe s
theorem thn {α : Type} {t : Sem α} {Q Q' : α → Shared → Prop} {M : Model} {A : Around} {E : Value → Shared → Prop} {s : Shared} (h : wpAny M A t Q E s) (hQ : ∀ a s, Q a s → Q' a s) : wpAny M A t Q' E s := wpAny_mono h hQ fun _ _ x => x
end L2
namespace L2
open PySem PySem.Spec PyProof.Rows
section
variable {X : Cx}
theorem bin {a b : Expr} {ta tb : TE} (ha : PE X a ta) (hb : PE X b tb) {pins : List (Addr × Obj)} {s : Shared} {σ : St} {H : Hp} {R : V → V → Hp → Prop} (I : Inv X pins σ H s) (h : ta σ H fun x H1 => tb σ H1 fun y H2 => R x y H2)
    {α : Type} {Q : α → Shared → Prop} {f : Value → Value → Sem α}
    (hf : ∀ v u s2 x y H2, Inv X pins σ H2 s2 → RelV x v → RelV y u → R x y H2 → wpAny (model X.prog X.w) X.A (f v u) Q X.xe s2) :
    wpAny (model X.prog X.w) X.A (eval a X.env) (fun v s₁ => wpAny (model X.prog X.w) X.A (eval b X.env) (fun u s₂ => wpAny (model X.prog X.w) X.A (f v u) Q X.xe s₂) X.xe s₁) X.xe s := by
  refine thn (ha pins s σ H _ I h) fun v s1 ⟨x, H1, I1, r1, q1⟩ => ?_
  refine thn (hb pins s1 σ H1 _ I1 q1) fun u s2 ⟨y, H2, I2, r2, q2⟩ => ?_
  exact hf v u s2 x y H2 I2 r1 r2 q2
def tVar (i : Nat) : TE := fun σ H Q => ∃ v, σ[i]? = some (some v) ∧ Q v H
def tC (v : V) : TE := fun _ H Q => Q v H
theorem pe_var {i : Nat} {x : Str} {pos : Pos} (hN : X.N[i]? = some x) (hv : Vis X.env.scope x) (hd : (x == ("__debug__" : Str)) = false := by decide) (hcd : (x == ("__classdict__" : Str)) = false := by decide) : PE X (.Name x pos) (tVar i) := by
  intro pins s σ H Q I h
  obtain ⟨v, e, h⟩ := h
  obtain ⟨m, hn, hl⟩ := I.loc
  obtain ⟨u, r, l⟩ := hl i x v hN e hv
  have fin : EP X pins σ Q u s := ⟨v, H, I, r, h⟩
  rcases l with ⟨hk, hm⟩ | ⟨hk, c, hc, hcell⟩
  · exact wpAny_Name (wpAny_loadName_local I.ok.kind hk hn hm fin) hd
  · rcases hk with hk | hk
    · exact wpAny_Name (wpAny_loadName_cell I.ok.kind hk hc hcell fin) hd
    · exact wpAny_Name (wpAny_loadName_free I.ok.kind hk hc hcell fin hcd) hd
theorem pe_int {i j pos} : PE X (.Constant (.int i) j pos) (tC (.int i)) := fun _ _ _ H _ I h => wpAny_Constant_int ⟨.int i, H, I.tok _, ⟨_, rfl⟩, h⟩
theorem pe_bl {b j pos} : PE X (.Constant (.bool b) j pos) (tC (.bl b)) := fun _ _ _ H _ I h => Constant_bool ⟨.bl b, H, I, rfl, h⟩
def Gl (X : Cx) (x : Str) : Prop := X.env.kindOf x = some .globalImplicit
theorem ld_glob {E : Value → Shared → Prop} {pins : List (Addr × Obj)} {s : Shared} {σ : St} {H : Hp} {x : Str} {u : Value} {pos : Pos} {Q : Value → Shared → Prop} (I : Inv X pins σ H s) (hg : Gl X x) (hm : X.mg x = some u) (h : Q u s)
    (hd : (x == ("__debug__" : Str)) = false := by decide) : wpAny (model X.prog X.w) X.A (eval (.Name x pos) X.env) Q E s :=
  Calls.Name_function_global I.ok.kind hg (Calls.loadGlobal_global (by rw [I.ok.glob]; exact I.mod.glob.keeps I.bk) hm h) hd
theorem ld_blt {E : Value → Shared → Prop} {pins : List (Addr × Obj)} {s : Shared} {σ : St} {H : Hp} {x : Str} {u : Value} {pos : Pos} {Q : Value → Shared → Prop} (I : Inv X pins σ H s) (hg : Gl X x) (hm : X.mg x = none) (hv : bootBuiltins x = some u) (h : Q u s)
    (hn : x ≠ "__name__" := by decide) (hd : (x == ("__debug__" : Str)) = false := by decide) : wpAny (model X.prog X.w) X.A (eval (.Name x pos) X.env) Q E s := by
  obtain ⟨mb, h1, h2⟩ := I.mod.blt
  exact Calls.Name_function_global I.ok.kind hg (Calls.loadGlobal_builtin (by rw [I.ok.glob]; exact I.mod.glob.keeps I.bk) hm (by rw [I.ok.blt]; exact h1.keeps I.bk) ((h2 x hn).trans hv) h) hd
theorem pe_bltn {x : Str} {v : V} {u : Value} {pos : Pos} (hg : Gl X x) (hm : X.mg x = none) (hv : bootBuiltins x = some u) (r : RelV v u) (hn : x ≠ "__name__" := by decide) (hd : (x == ("__debug__" : Str)) = false := by decide) : PE X (.Name x pos) (tC v) :=
  fun _ _ _ H _ I h => ld_blt I hg hm hv ⟨v, H, I, r, h⟩ hn hd
variable {a b : Expr} {ta tb : TE} {pos : Pos}
theorem RelV.none_iff {x : V} {v : Value} (r : RelV x v) : (v == Value.none) = decide (x = .non) := by
  cases x with
  | non => cases r; rfl
  | bl _ => cases r; rfl
  | int _ => obtain ⟨t, rfl⟩ := r; rfl
  | str _ => obtain ⟨t, rfl⟩ := r; rfl
  | byt _ => obtain ⟨t, rfl⟩ := r; rfl
  | flt _ => obtain ⟨t, rfl⟩ := r; rfl
  | ref _ => cases r; rfl
  | ty _ => cases r; rfl
def tB (t : TE) : TT := fun σ H Q => t σ H fun x H1 => ∃ c, x = .bl c ∧ Q c H1
theorem pt_val {e : Expr} {t : TE} (h : PE X e t) (he : ∀ whole, isTrue e X.env whole = (do let v ← whole; standAt e.pos; holding [v] (truthy v)) := by intro _; rfl) : PT X e (tB t) := by
  intro pins s σ H Q I hw
  refine isTrue_plain (thn (h pins s σ H _ I hw) fun v s1 ⟨x, H1, I1, r1, q1⟩ => ?_) (he _)
  obtain ⟨d, rfl, q⟩ := q1
  cases r1
  exact wpAny_truthy_bool ⟨H1, I1, q⟩
variable {tA tB' : TT} {rest : List Expr}
def tAnd (t u : TT) : TT := fun σ H Q => t σ H fun c H1 => if c = true then u σ H1 Q else Q false H1
def tOr (t u : TT) : TT := fun σ H Q => t σ H fun c H1 => if c = true then Q true H1 else u σ H1 Q
def tNot (t : TT) : TT := fun σ H Q => t σ H fun c H1 => Q (!c) H1
theorem pw_and1 (ha : PT X a tA) : PW X (.BoolOp .And [a] pos) tA := by
  intro wh pins s σ H Q I h
  refine isTrue_and (thn (ha pins s σ H Q I h) fun c s1 e => ?_)
  cases c with
  | true => exact isTrue_and_nil e
  | false => exact e
theorem pw_or1 (ha : PT X a tA) : PW X (.BoolOp .Or [a] pos) tA := by
  intro wh pins s σ H Q I h
  refine isTrue_or (thn (ha pins s σ H Q I h) fun c s1 e => ?_)
  cases c with
  | false => exact isTrue_or_nil e
  | true => exact e
theorem pw_and (ha : PT X a tA) (hb : PW X (.BoolOp .And (b :: rest) pos) tB') : PW X (.BoolOp .And (a :: b :: rest) pos) (tAnd tA tB') := by
  intro wh pins s σ H Q I h
  refine isTrue_and (thn (ha pins s σ H _ I h) fun c s1 ⟨H1, I1, q1⟩ => ?_)
  cases c with
  | true => exact hb wh pins s1 σ H1 Q I1 q1
  | false => exact ⟨H1, I1, q1⟩
theorem pw_or (ha : PT X a tA) (hb : PW X (.BoolOp .Or (b :: rest) pos) tB') : PW X (.BoolOp .Or (a :: b :: rest) pos) (tOr tA tB') := by
  intro wh pins s σ H Q I h
  refine isTrue_or (thn (ha pins s σ H _ I h) fun c s1 ⟨H1, I1, q1⟩ => ?_)
  cases c with
  | true => exact ⟨H1, I1, q1⟩
  | false => exact hb wh pins s1 σ H1 Q I1 q1
theorem pt_not (ha : PT X a tA) : PT X (.UnaryOp .Not a pos) (tNot tA) := by
  intro pins s σ H Q I h
  exact isTrue_not (ha pins s σ H (fun c H1 => Q (!c) H1) I h)
end
end L2
namespace L2
open PySem PySem.Spec PyProof.Rows
def SqL (K : PySem.W.Frag) (H : Hp) (a : Addr) (xs : List V) : Prop :=
  Rd H a (.lst xs) ∨
    ∃ (o : Obj) (its : Array Value) (n : Nat), K.lookup a = some o ∧ o.cls = .type "list" ∧ o.dict = none ∧ o.data = .seq its n ∧ its.size ≤ sizeLine ∧ Vals xs its.toList
def SqT (K : PySem.W.Frag) (H : Hp) (a : Addr) (xs : List V) : Prop :=
  Rd H a (.tup xs) ∨
    ∃ (o : Obj) (its : Array Value) (n : Nat), K.lookup a = some o ∧ o.cls = .type "tuple" ∧ o.data = .seq its n ∧ its.size ≤ sizeLine ∧ Vals xs its.toList
def absV : Value → Option V
  | .none => some .non
  | .bool b => some (.bl b)
  | .int i _ => some (.int i)
  | .str x _ => some (.str x)
  | .bytes b _ => some (.byt b)
  | .float b _ => some (.flt b)
  | .ref a => some (.ref a)
  | .type n => some (.ty n)
  | _ => none
theorem RelV.abs {x : V} {u : Value} (r : RelV x u) : absV u = some x := by
  cases x with
  | non => cases r; rfl
  | bl _ => cases r; rfl
  | int _ => obtain ⟨t, rfl⟩ := r; rfl
  | str _ => obtain ⟨t, rfl⟩ := r; rfl
  | byt _ => obtain ⟨t, rfl⟩ := r; rfl
  | flt _ => obtain ⟨t, rfl⟩ := r; rfl
  | ref _ => cases r; rfl
  | ty _ => cases r; rfl
theorem RelV.inj {x y : V} {u : Value} (r : RelV x u) (q : RelV y u) : x = y := Option.some.inj (r.abs.symm.trans q.abs)
theorem Vals.inj : ∀ {xs ys : List V} {us : List Value}, Vals xs us → Vals ys us → xs = ys
  | _, _, _, .nil, .nil => rfl
  | _, _, _, .cons r t, .cons r' t' => by rw [r.inj r', Vals.inj t t']
section
variable {X : Cx} {pins : List (Addr × Obj)} {σ : St} {H : Hp} {s : Shared} {a : Addr} {xs ys : List V}
theorem SqL.of {K : PySem.W.Frag} (h : H a = some (.lst xs)) : SqL K H a xs := .inl (.inl h)
theorem SqT.of {K : PySem.W.Frag} (h : H a = some (.tup xs)) : SqT K H a xs := .inl (.inl h)
theorem Inv.list (I : Inv X pins σ H s) (h : SqL X.K H a xs) : ∃ its : List Value, Vals xs its ∧ PlainL s.heap a its.toArray ∧ xs.length ≤ sizeLine := by
  rcases h with h | ⟨o, its, n, hk, hc, hd, hs, hz, r⟩
  · obtain ⟨z, its, n, r, e⟩ := h.ok I.hok
    exact ⟨its, r, ⟨_, n, e, rfl, rfl, rfl⟩, z⟩
  · refine ⟨its.toList, r, ⟨o, n, I.kIn a o hk, hc, hd, by simpa using hs⟩, ?_⟩
    have e := r.length
    simp only [Array.length_toList] at e
    omega
theorem Inv.tuple (I : Inv X pins σ H s) (h : SqT X.K H a xs) : ∃ its : List Value, Vals xs its ∧ IsTup s.heap a its.toArray ∧ xs.length ≤ sizeLine := by
  rcases h with h | ⟨o, its, n, hk, hc, hs, hz, r⟩
  · obtain ⟨z, its, r, p⟩ := h.ok I.hok
    exact ⟨its, r, p, z⟩
  · refine ⟨its.toList, r, ⟨o, I.kIn a o hk, hc, n, by simpa using hs⟩, ?_⟩
    have e := r.length
    simp only [Array.length_toList] at e
    omega
theorem Inv.list_inj (I : Inv X pins σ H s) (h : SqL X.K H a xs) (h' : SqL X.K H a ys) : xs = ys := by
  obtain ⟨its, r, ⟨o, n, e, _, _, d⟩, _⟩ := I.list h
  obtain ⟨its', r', ⟨o', n', e', _, _, d'⟩, _⟩ := I.list h'
  rw [e] at e'; cases e'
  rw [d] at d'
  injection d' with d1 _
  have : its = its' := by simpa using congrArg Array.toList d1
  subst this
  exact r.inj r'
theorem Inv.tuple_inj (I : Inv X pins σ H s) (h : SqT X.K H a xs) (h' : SqT X.K H a ys) : xs = ys := by
  obtain ⟨its, r, ⟨o, e, _, n, d⟩, _⟩ := I.tuple h
  obtain ⟨its', r', ⟨o', e', _, n', d'⟩, _⟩ := I.tuple h'
  rw [e] at e'; cases e'
  rw [d] at d'
  injection d' with d1 _
  have : its = its' := by simpa using congrArg Array.toList d1
  subst this
  exact r.inj r'
end
abbrev Cx.wish (X : Cx) (E : Value → Shared → Prop) : Cx := { X with xe := E }
abbrev Cx.nox (X : Cx) : Cx := X.wish fun _ _ => False
theorem Cx.Ok.wish {X : Cx} (ok : X.Ok) (E : Value → Shared → Prop) : (X.wish E).Ok :=
  ⟨ok.mod, ok.kind, ok.glob, ok.blt, ok.above, ok.inj, ok.has, ok.cab, ok.hd, ok.frames, ok.stk, ok.exf, ok.bs, ok.bsz, ok.noex, ok.exfs, ok.funs, ok.frf⟩
theorem Cx.Ok.unwish {X : Cx} {E : Value → Shared → Prop} (ok : (X.wish E).Ok) : X.Ok :=
  ⟨ok.mod, ok.kind, ok.glob, ok.blt, ok.above, ok.inj, ok.has, ok.cab, ok.hd, ok.frames, ok.stk, ok.exf, ok.bs, ok.bsz, ok.noex, ok.exfs, ok.funs, ok.frf⟩
section
variable {X : Cx} {pins : List (Addr × Obj)} {σ : St} {H : Hp} {s : Shared} {E : Value → Shared → Prop}
theorem Inv.wish (I : Inv X pins σ H s) (E : Value → Shared → Prop) : Inv (X.wish E) pins σ H s := ⟨I.ok.wish E, I.os, I.bare, I.base, I.loc, I.cell, I.free, I.freeC, I.pin, I.hok, I.len⟩
theorem Inv.unwish (I : Inv (X.wish E) pins σ H s) : Inv X pins σ H s := ⟨I.ok.unwish, I.os, I.bare, I.base, I.loc, I.cell, I.free, I.freeC, I.pin, I.hok, I.len⟩
theorem SP.unwish {D : Ends} {f : Flow} {s' : Shared} (h : SP (X.wish E) pins D f s') : SP X pins D f s' := by
  cases f with
  | next => obtain ⟨σ', H', I, q⟩ := h; exact ⟨σ', H', I.unwish, q⟩
  | brk => obtain ⟨σ', H', I, q⟩ := h; exact ⟨σ', H', I.unwish, q⟩
  | cont => obtain ⟨σ', H', I, q⟩ := h; exact ⟨σ', H', I.unwish, q⟩
  | ret u => obtain ⟨v, σ', H', I, r, q⟩ := h; exact ⟨v, σ', H', I.unwish, r, q⟩
theorem PE.nox {e : Expr} {t : TE} (h : PE X.nox e t) : PE X e t := fun pins s σ H Q I hw =>
  wpAny_mono (h pins s σ H Q (I.wish _) hw) (fun _ _ ⟨v, H', I', r, q⟩ => ⟨v, H', I'.unwish, r, q⟩) fun _ _ z => False.elim z
theorem PT.nox {e : Expr} {t : TT} (h : PT X.nox e t) : PT X e t := fun pins s σ H Q I hw =>
  wpAny_mono (h pins s σ H Q (I.wish _) hw) (fun _ _ ⟨H', I', q⟩ => ⟨H', I'.unwish, q⟩) fun _ _ z => False.elim z
theorem PSs.nox {st : List Stmt} {t : TS} (h : PSs X.nox st t) : PSs X st t := fun pins s σ H D I hw =>
  wpAny_mono (h pins s σ H D (I.wish _) hw) (fun _ _ q => q.unwish) fun _ _ z => False.elim z
end
section
variable {X : Cx} {st : Stmt} {rest : List Stmt} {t u : TS} {e : Expr} {te : TE} {pos : Pos}
def tNext : TS := fun D σ H => D.nx σ H
def tSeq (t u : TS) : TS := fun D σ H => t { D with nx := u D } σ H
theorem pss_nil : PSs X [] tNext := fun _ _ σ H _ I h => wpAny_execs_nil ⟨σ, H, I, h⟩
theorem pss_cons (h1 : PS X st t) (h2 : PSs X rest u) : PSs X (st :: rest) (tSeq t u) := by
  intro pins s σ H D I h
  refine wpAny_execs_cons (thn (h1 pins s σ H { D with nx := u D } I h) fun f s1 q => ?_)
  cases f with
  | next =>
    obtain ⟨σ', H', I', q⟩ := q
    exact h2 pins s1 σ' H' D I' q
  | ret v => exact q
  | brk => exact q
  | cont => exact q
theorem pss_one (h1 : PS X st t) : PSs X [st] t := by
  intro pins s σ H D I h
  refine wpAny_execs_cons (thn (h1 pins s σ H D I h) fun f s1 q => ?_)
  cases f with
  | next => exact wpAny_execs_nil q
  | ret v => exact q
  | brk => exact q
  | cont => exact q
theorem Inv.quiet {pins : List (Addr × Obj)} {σ : St} {H : Hp} {s : Shared} (I : Inv X pins σ H s) : interactive X.env = false := by simp [interactive, I.ok.kind]
def tDrop (te : TE) : TS := fun D σ H => te σ H fun _ H1 => D.nx σ H1
theorem ps_expr (he : PE X e te) (hs : swapsWith e none pos.line X.env = pure false := by rfl) : PS X (.Expr e pos) (tDrop te) := by
  intro pins s σ H D I h
  exact wpAny_Expr_any (thn (he pins s σ H _ I h) fun v s1 ⟨x, H1, I1, r1, q1⟩ => ⟨σ, H1, I1, q1⟩) I.quiet hs
def tRet (te : TE) : TS := fun D σ H => te σ H D.rt
theorem ps_ret (he : PE X e te) : PS X (.Return (some e) pos) (tRet te) := by
  intro pins s σ H D I h
  exact wpAny_Return_some (thn (he pins s σ H _ I h) fun v s1 ⟨x, H1, I1, r1, q1⟩ => ⟨x, σ, H1, I1, r1, q1⟩)
def tIfS (c : TT) (t u : TS) : TS := fun D σ H => c σ H fun b H1 => if b = true then t D σ H1 else u D σ H1
theorem ps_if {c : Expr} {a b : List Stmt} {tc : TT} (hc : PT X c tc) (ha : PSs X a t) (hb : PSs X b u) : PS X (.If c a b pos) (tIfS tc t u) := by
  intro pins s σ H D I h
  refine wpAny_If (thn (hc pins s σ H _ I h) fun d s1 ⟨H1, I1, q1⟩ => ?_)
  cases d with
  | true => exact ha pins s1 σ H1 D I1 q1
  | false => exact hb pins s1 σ H1 D I1 q1
end
abbrev TG := V → St → Hp → (St → Hp → Prop) → Prop
abbrev TGs := List V → St → Hp → (St → Hp → Prop) → Prop
def PG (X : Cx) (target : Expr) (t : TG) : Prop :=
  ∀ (pins : List (Addr × Obj)) (s : Shared) (σ : St) (H : Hp) (v : V) (u : Value) (Q : St → Hp → Prop), Inv X pins σ H s → RelV v u → t v σ H Q →
    wpAny (model X.prog X.w) X.A (assign target X.env u) (fun _ s' => ∃ σ' H', Inv X pins σ' H' s' ∧ Q σ' H') X.xe s
def PGs (X : Cx) (ts : List Expr) (t : TGs) : Prop :=
  ∀ (pins : List (Addr × Obj)) (s : Shared) (σ : St) (H : Hp) (vs : List V) (us : List Value) (Q : St → Hp → Prop), Inv X pins σ H s → Vals vs us → t vs σ H Q →
    wpAny (model X.prog X.w) X.A (assignInOrder ((assignEach ts X.env).map (·.2)) us) (fun _ s' => ∃ σ' H', Inv X pins σ' H' s' ∧ Q σ' H') X.xe s
abbrev TSet := V → V → V → Hp → (Hp → Prop) → Prop
def PSet (X : Cx) (t : TSet) : Prop :=
  ∀ (pins : List (Addr × Obj)) (s : Shared) (σ : St) (H : Hp) (o i v : V) (ov iv u : Value) (Q : Hp → Prop), Inv X pins σ H s → RelV o ov → RelV i iv → RelV v u → t o i v H Q →
    wpAny (model X.prog X.w) X.A (setItem ov iv u) (fun _ s' => ∃ H', Inv X pins σ H' s' ∧ Q H') X.xe s
section
variable {X : Cx} {pos : Pos}
def gName (i : Nat) : TG := fun v σ H Q => Q (σ.set i (some v)) H
theorem pg_name {i : Nat} {x : Str} (hN : X.N.Nodup) (hi : X.N[i]? = some x) (hx : Loc X.env.scope x) (hf : X.fn x = true ∨ X.env.scope.names.lookup x = some .local := by first | exact .inl rfl | exact .inr rfl | assumption) : PG X (.Name x pos) (gName i) := by
  intro pins s σ H v u Q I r h
  exact wpAny_assign_Name (store_ok I hN hi hx r (fun s' I' => ⟨_, H, I', h⟩) hf)
def gNil : TGs := fun vs σ H Q => vs = [] ∧ Q σ H
def gCons (t : TG) (u : TGs) : TGs := fun vs σ H Q => ∃ v r, vs = v :: r ∧ t v σ H fun σ' H' => u r σ' H' Q
theorem pgs_nil : PGs X [] gNil := by
  intro pins s σ H vs us Q I r h
  obtain ⟨e, h⟩ := h
  subst e
  cases r
  exact assignInOrder_nil ⟨σ, H, I, h⟩
theorem pgs_cons {e : Expr} {es : List Expr} {t : TG} {u : TGs} (h1 : PG X e t) (h2 : PGs X es u)
    (hs : (assignEach (e :: es) X.env).map (·.2) = assign e X.env :: (assignEach es X.env).map (·.2) := by rfl) : PGs X (e :: es) (gCons t u) := by
  intro pins s σ H vs us Q I r h
  obtain ⟨v, vr, e1, h⟩ := h
  subst e1
  cases r with
  | cons r rr =>
    rw [hs]
    refine assignInOrder_cons (thn (h1 pins s σ H _ _ _ I r h) fun _ s1 ⟨σ1, H1, I1, q1⟩ => ?_)
    exact h2 pins s1 σ1 H1 _ _ Q I1 rr q1
def gTup (K : PySem.W.Frag) (n : Nat) (t : TGs) : TG := fun v σ H Q => ∃ a xs, v = .ref a ∧ SqT K H a xs ∧ xs.length = n ∧ t xs σ H Q
theorem pg_tup {es : List Expr} {k : Nat} {t : TGs} {n : Nat} (hc : X.calm = true) (h : PGs X es t)
    (hn : (assignEach es X.env).length = n := by rfl) (hst : (assignEach es X.env).findIdx? (·.1) = none := by rfl) : PG X (.Tuple es k pos) (gTup X.K n t) := by
  intro pins s σ H v u Q I r hw
  obtain ⟨a, xs, e1, hq, hl, hw⟩ := hw
  subst e1
  cases r
  obtain ⟨its, rv, ht, hz⟩ := I.tuple hq
  refine assign_Tuple_tuple (I.ok.hd hc) ht (by simp [hn, ← hl, rv.length]) hst fun h' hx => ?_
  have I1 : Inv X pins σ H { s with heap := h' } := I.kept (t' := s.toks) fun b o e => hx b o (Nat.ne_of_lt (Heap.lt_size e)) e
  exact h pins _ σ H xs _ Q I1 (by simpa using rv) hw
def gSub (to ti : TE) (t : TSet) : TG := fun v σ H Q => to σ H fun o H1 => ti σ H1 fun i H2 => t o i v H2 fun H3 => Q σ H3
theorem pg_sub {o i : Expr} {to ti : TE} {t : TSet} (ho : PE X o to) (hi : PE X i ti) (hs : PSet X t)
    (ha : ∀ v, assign (.Subscript o i pos) X.env v = (do
      let ov ← holding [v] (eval o X.env)
      let iv ← holding [v, ov] (eval i X.env)
      standAt pos
      holding [v, ov, iv] (setItem ov iv v)
      release [v, ov, iv] []) := by intro _; rfl) : PG X (.Subscript o i pos) (gSub to ti t) := by
  intro pins s σ H v u Q I r h
  rw [ha]
  refine wpAny_bind (wpAny_holding (thn (ho pins s σ H _ I h) fun ov s1 ⟨x, H1, I1, r1, q1⟩ => ?_))
  refine wpAny_bind (wpAny_holding (thn (hi pins s1 σ H1 _ I1 q1) fun iv s2 ⟨y, H2, I2, r2, q2⟩ => ?_))
  refine wpAny_bind (wpAny_standAt (wpAny_bind (wpAny_holding (thn (hs pins s2 σ H2 x y v ov iv u _ I2 r1 r2 r q2) fun _ s3 ⟨H3, I3, q3⟩ => ?_))))
  exact wpAny_release ⟨σ, H3, I3, q3⟩
def tAsg (te : TE) (g : TG) : TS := fun D σ H => te σ H fun x H1 => g x σ H1 D.nx
theorem ps_asg {tg e : Expr} {te : TE} {g : TG} (he : PE X e te) (hg : PG X tg g) (hs : swapsWithSole [tg] e pos.line X.env = pure false := by rfl) (hw : swappedStores [tg] e X.env = pure none := by rfl)
    (h1 : (assignEach [tg] X.env).map (·.2) = [assign tg X.env] := by rfl) : PS X (.Assign [tg] e pos) (tAsg te g) := by
  intro pins s σ H D I h
  refine wpAny_Assign_stores (thn (he pins s σ H _ I h) fun v s1 ⟨x, H1, I1, r1, q1⟩ => ?_) hs hw
  rw [h1]
  exact thn (hg pins s1 σ H1 x v _ I1 r1 q1) fun _ s2 q => q
theorem ps_set {i : Nat} {x : Str} {e : Expr} {te : TE} {pos' : Pos} (hN : X.N.Nodup) (hi : X.N[i]? = some x) (hx : Loc X.env.scope x) (he : PE X e te) (hs : swapsWith e (some (.Name x pos')) pos.line X.env = pure false := by rfl) (hf : X.fn x = true ∨ X.env.scope.names.lookup x = some .local := by first | exact .inl rfl | exact .inr rfl | assumption) :
    PS X (.Assign [.Name x pos'] e pos) (tAsg te (gName i)) := by
  intro pins s σ H D I h
  refine wpAny_Assign_Name (thn (he pins s σ H _ I h) fun v s1 ⟨y, H1, I1, r1, q1⟩ => ?_) hs
  exact store_ok I1 hN hi hx r1 (fun s2 I2 => ⟨_, H1, I2, q1⟩) hf
end
section
variable {X : Cx} {pos : Pos}
end
structure It where
  go : Nat → Hp → Prop
  yld : Nat → Hp → V → Hp → Prop
  stop : Nat → Hp → Prop
def FpOk (X : Cx) (pins : List (Addr × Obj)) (H : Hp) (b : Addr) : Prop :=
  H b = none ∧ b ≠ X.env.locals ∧ b ∉ X.fs ∧ (b ∈ X.ex ∨ X.s₀.heap.objs.size ≤ b) ∧ (∀ x c, X.env.cells.lookup x = some c → c ≠ b) ∧ ∀ p ∈ X.pn ++ pins, p.1 ≠ b
theorem Inv.fpOk {X : Cx} {pins : List (Addr × Obj)} {σ : St} {H H' : Hp} {s : Shared} {b : Addr} (I : Inv X pins σ H s) (hb : s.heap.objs.size ≤ b) (hn : H' b = none) : FpOk X pins H' b := by
  refine ⟨hn, Nat.ne_of_gt (Nat.lt_of_lt_of_le I.lt hb), I.nofs hb, .inr (Nat.le_trans I.sz hb), fun x c e z => ?_, fun p hp z => ?_⟩
  · obtain ⟨v, q⟩ := I.cell x c e
    exact absurd (Nat.lt_of_lt_of_le q.lt (by rw [z]; exact hb)) (Nat.lt_irrefl _)
  · exact absurd (Nat.lt_of_lt_of_le (Heap.lt_size (I.pin p hp).1) (by rw [z]; exact hb)) (Nat.lt_irrefl _)
structure Turn (P : Program) (w : World) (K : PySem.W.Frag) (tg : Expr) (J : It) (fp : List Addr) (it : Addr) (tn : Nat → Heap → Prop) : Prop where
  mem : it ∈ fp
  obj : ∀ i h, tn i h → ∀ b ∈ fp, ∃ o, h.get? b = some o ∧ ∀ v, o.data ≠ .cell v
  keep : ∀ i h h', tn i h → (∀ b ∈ fp, ∀ o, h.get? b = some o → h'.get? b = some o) → tn i h'
  item : ∀ (X : Cx), X.prog = P → X.w = w → X.K = K → X.calm = true → ∀ (i : Nat) (pins : List (Addr × Obj)) (s : Shared) (σ : St) (H : Hp) (E : Value → Shared → Prop), Inv X pins σ H s → (∀ b ∈ fp, FpOk X pins H b) → tn i s.heap → J.go i H →
    wpAny (model P w) X.A (pyNext (.ref it)) (fun r s1 => ∃ u, r = some u ∧
      wpAny (model P w) X.A (letOwnedTupleGo tg (.ref it) u) (fun _ s2 => ∃ x H', Inv X pins σ H' s2 ∧ RelV x u ∧ J.yld i H x H' ∧ tn (i + 1) s2.heap ∧ ∀ b ∈ fp, H' b = none) E s1) E s
  done : ∀ (X : Cx), X.prog = P → X.w = w → X.K = K → X.calm = true → ∀ (i : Nat) (pins : List (Addr × Obj)) (s : Shared) (σ : St) (H : Hp) (E : Value → Shared → Prop), Inv X pins σ H s → (∀ b ∈ fp, FpOk X pins H b) → tn i s.heap → J.stop i H →
    wpAny (model P w) X.A (pyNext (.ref it)) (fun r s1 => r = none ∧ Inv X pins σ H s1) E s
  self : ∀ (A : Around) (i : Nat) (s : Shared) (Q : Value → Shared → Prop) (E : Value → Shared → Prop), tn i s.heap → Q (.ref it) s → wpAny (model P w) A (pyIter (.ref it)) Q E s
abbrev TI := St → Hp → (It → Hp → Prop) → Prop
def PIE (X : Cx) (pins : List (Addr × Obj)) (σ : St) (tg : Expr) (R : It → Hp → Prop) (itv : Value) (s2 : Shared) : Prop :=
  ∃ (it : Addr) (fp : List Addr) (tn : Nat → Heap → Prop) (J : It) (H' : Hp), itv = .ref it ∧ Inv X pins σ H' s2 ∧ Turn X.prog X.w X.K tg J fp it tn ∧ tn 0 s2.heap ∧ (∀ b ∈ fp, FpOk X pins H' b) ∧ R J H'
def PI (X : Cx) (tg iter : Expr) (wi : TI) : Prop :=
  ∀ (pins : List (Addr × Obj)) (s : Shared) (σ : St) (H : Hp) (R : It → Hp → Prop), Inv X pins σ H s → wi σ H R →
    wpAny (model X.prog X.w) X.A (eval iter X.env) (fun v s1 => wpAny (model X.prog X.w) X.A (pyIter v) (PIE X pins σ tg R) X.xe s1) X.xe s
theorem go_of {M : Model} {A : Around} {E : Value → Shared → Prop} {s : Shared} {tg : Expr} {it : Addr} {u : Value} {o : Obj} {n : String} {vs : Array Value} {Q : Unit → Shared → Prop} (ho : s.heap.get? it = some o) (hc : o.cls = .type n) (hd : o.data = .fields vs)
    (hn : ["enumerate", "zip", "dict_itemiterator", "dict_reverseitemiterator", "odict_iterator", "itertools.zip_longest", "itertools.pairwise"].contains n = false) (hQ : Q () s) : wpAny M A (letOwnedTupleGo tg (.ref it) u) Q E s := by
  unfold letOwnedTupleGo
  cases tg <;> first
    | exact wpAny_pure hQ
    | (cases u <;> first
        | exact wpAny_pure hQ
        | (refine wpAny_bind (wpAny_load ho ?_)
           rw [hc, hd]
           show wpAny M A (if (["enumerate", "zip", "dict_itemiterator", "dict_reverseitemiterator", "odict_iterator", "itertools.zip_longest", "itertools.pairwise"].contains n && vs[0]? == some (rawInt _)) = true then _ else _) Q E s
           rw [if_neg (by intro h; rw [hn, Bool.false_and] at h; cases h)]
           exact wpAny_pure hQ))
def Itl (K : PySem.W.Frag) (a : Addr) : It :=
  ⟨fun i H => ∃ xs x, SqL K H a xs ∧ xs[i]? = some x, fun i H x H' => H' = H ∧ ∀ xs, SqL K H a xs → xs[i]? = some x, fun i H => ∃ xs, SqL K H a xs ∧ xs.length ≤ i⟩
def Itt (K : PySem.W.Frag) (a : Addr) : It :=
  ⟨fun i H => ∃ xs x, SqT K H a xs ∧ xs[i]? = some x, fun i H x H' => H' = H ∧ ∀ xs, SqT K H a xs → xs[i]? = some x, fun i H => ∃ xs, SqT K H a xs ∧ xs.length ≤ i⟩
def Itr (lo : Int) (n : Nat) : It := ⟨fun i _ => i < n, fun i H x H' => H' = H ∧ x = .int (lo + i), fun i _ => n ≤ i⟩
theorem turn_list {P : Program} {w : World} {K : PySem.W.Frag} {tg : Expr} (a it : Addr) : Turn P w K tg (Itl K a) [it] it (fun i h => h.IsListIter it a i) where
  mem := by simp
  obj := fun i h st b hb => by
    have e : b = it := by simpa using hb
    subst e
    obtain ⟨o, e, c, d⟩ := st
    exact ⟨o, e, fun v z => by rw [d] at z; cases z⟩
  keep := fun i h h' st k => st.at fun o e => k it (by simp) o e
  item := by
    intro X hP hw hK hc i pins s σ H E I hf st hg
    subst hP hw hK
    obtain ⟨xs, x, hq, hx⟩ := hg
    obtain ⟨its, rv, p, hz⟩ := I.list hq
    obtain ⟨u, hu, ru⟩ := rv.get hx
    obtain ⟨f0, f1, f2, f3, f4, f5⟩ := hf it (by simp)
    refine wpAny_pyNext_list_item st p.isList (x := u) (by simpa using hu) fun h' st' sb => ?_
    have I1 : Inv X pins σ H { s with heap := h' } := I.turned (t' := s.toks) (fun b o hb e => (sb.2 b hb).trans e) f0 f1 f3 f4 f5
    obtain ⟨o, e, c, d⟩ := id st'
    exact ⟨u, rfl, go_of (s := { s with heap := h' }) e c d (by decide) ⟨x, H, I1, ru, ⟨rfl, fun ys hy => by rw [I.list_inj hy hq]; exact hx⟩, st', fun b hb => (hf b hb).1⟩⟩
  done := by
    intro X hP hw hK hc i pins s σ H E I hf st hg
    subst hP hw hK
    obtain ⟨xs, hq, hx⟩ := hg
    obtain ⟨its, rv, p, hz⟩ := I.list hq
    obtain ⟨f0, f1, f2, f3, f4, f5⟩ := hf it (by simp)
    have hl := rv.length
    exact wpAny_pyNext_list_end (I.ok.hd hc) st p.isList (by simp; omega) fun h' eb => ⟨rfl, I.turned (t' := s.toks) (fun b o hb e => eb b o hb e) f0 f1 f3 f4 f5⟩
  self := fun _ _ _ _ _ st h => wpAny_pyIter_listiter st h
theorem turn_tuple {P : Program} {w : World} {K : PySem.W.Frag} {tg : Expr} (a it : Addr) : Turn P w K tg (Itt K a) [it] it (fun i h => h.IsTupleIter it a i) where
  mem := by simp
  obj := fun i h st b hb => by
    have e : b = it := by simpa using hb
    subst e
    obtain ⟨o, e, c, d⟩ := st
    exact ⟨o, e, fun v z => by rw [d] at z; cases z⟩
  keep := fun i h h' st k => st.at fun o e => k it (by simp) o e
  item := by
    intro X hP hw hK hc i pins s σ H E I hf st hg
    subst hP hw hK
    obtain ⟨xs, x, hq, hx⟩ := hg
    obtain ⟨its, rv, p, hz⟩ := I.tuple hq
    obtain ⟨u, hu, ru⟩ := rv.get hx
    obtain ⟨f0, f1, f2, f3, f4, f5⟩ := hf it (by simp)
    refine wpAny_pyNext_tuple_item st (show s.heap.IsTuple a its.toArray from p) (x := u) (by simpa using hu) fun h' st' sb => ?_
    have I1 : Inv X pins σ H { s with heap := h' } := I.turned (t' := s.toks) (fun b o hb e => (sb.2 b hb).trans e) f0 f1 f3 f4 f5
    obtain ⟨o, e, c, d⟩ := id st'
    exact ⟨u, rfl, go_of (s := { s with heap := h' }) e c d (by decide) ⟨x, H, I1, ru, ⟨rfl, fun ys hy => by rw [I.tuple_inj hy hq]; exact hx⟩, st', fun b hb => (hf b hb).1⟩⟩
  done := by
    intro X hP hw hK hc i pins s σ H E I hf st hg
    subst hP hw hK
    obtain ⟨xs, hq, hx⟩ := hg
    obtain ⟨its, rv, p, hz⟩ := I.tuple hq
    obtain ⟨f0, f1, f2, f3, f4, f5⟩ := hf it (by simp)
    have hl := rv.length
    exact wpAny_pyNext_tuple_end (I.ok.hd hc) st (show s.heap.IsTuple a its.toArray from p) (by simp; omega) fun h' eb => ⟨rfl, I.turned (t' := s.toks) (fun b o hb e => eb b o hb e) f0 f1 f3 f4 f5⟩
  self := fun _ _ _ _ _ st h => wpAny_pyIter_tupleiter st h
theorem turn_range {P : Program} {w : World} {K : PySem.W.Frag} {tg : Expr} (it : Addr) (lo : Int) (n : Nat) : Turn P w K tg (Itr lo n) [it] it (fun i h => IsRangeIter h it (lo + (i : Nat) * 1) ((n : Int) - (i : Nat)) 1) where
  mem := by simp
  obj := fun i h st b hb => by
    have e : b = it := by simpa using hb
    subst e
    exact ⟨_, st, fun v z => by
      have z' : Data.fields _ = Data.cell v := z
      cases z'⟩
  keep := fun i h h' st k => k it (by simp) _ st
  item := by
    intro X hP hw hK hc i pins s σ H E I hf st hg
    subst hP hw hK
    obtain ⟨f0, f1, f2, f3, f4, f5⟩ := hf it (by simp)
    have W := Walks.range (prog := X.prog) (w := X.w) (I.ok.hd hc) it lo 1 n
    refine W.item i s _ _ hg st fun v h' tk hv st' kk => ?_
    obtain ⟨t, rfl⟩ := hv
    have I1 : Inv X pins σ H { s with heap := h', toks := tk } := I.turned (fun b o hb e => kk b o (by simpa using hb) e) f0 f1 f3 f4 f5
    refine ⟨_, rfl, go_of (s := { s with heap := h', toks := tk }) (n := "range_iterator") st' rfl rfl (by decide) ⟨.int (lo + i), H, I1, ⟨t, ?_⟩, ⟨rfl, rfl⟩, st', fun b hb => (hf b hb).1⟩⟩
    rw [Int.mul_one]
  done := by
    intro X hP hw hK hc i pins s σ H E I hf st hg
    subst hP hw hK
    obtain ⟨f0, f1, f2, f3, f4, f5⟩ := hf it (by simp)
    exact wpAny_pyNext_range_end (I.ok.hd hc) st (by have : n ≤ i := hg; omega) fun h' eb => ⟨rfl, I.turned (t' := s.toks) (fun b o hb e => eb b o hb e) f0 f1 f3 f4 f5⟩
  self := fun _ _ _ _ _ st h => wpAny_pyIter_rangeiter st h
end L2
namespace L2
open PySem PySem.Spec PyProof.Rows
section
variable {X : Cx} {tg : Expr}
def iList (K : PySem.W.Frag) (tl : TE) : TI := fun σ H R => tl σ H fun x H1 => ∃ a, x = .ref a ∧ (∃ xs, SqL K H1 a xs) ∧ R (Itl K a) H1
def iTup (K : PySem.W.Frag) (tl : TE) : TI := fun σ H R => tl σ H fun x H1 => ∃ a, x = .ref a ∧ (∃ xs, SqT K H1 a xs) ∧ R (Itt K a) H1
theorem pi_list {l : Expr} {tl : TE} (hl : PE X l tl) : PI X tg l (iList X.K tl) := by
  intro pins s σ H R I h
  refine thn (hl pins s σ H _ I h) fun v s1 ⟨x, H1, I1, r1, q1⟩ => ?_
  obtain ⟨a, e, ⟨xs, hq⟩, q⟩ := q1
  subst e
  cases r1
  obtain ⟨its, rv, p, hz⟩ := I1.list hq
  refine wpAny_pyIter_list p.isList ?_
  refine ⟨s1.heap.objs.size, [s1.heap.objs.size], _, _, H1, rfl, I1.kept (t' := s1.toks) fun b o e => Heap.get?_push_of_some _ e, turn_list a _, ⟨_, Heap.get?_push_size _ rfl, rfl, rfl⟩, fun b hb => ?_, q⟩
  have e : b = s1.heap.objs.size := by simpa using hb
  subst e
  exact I1.fpOk (Nat.le_refl _) (I1.hok.fresh (Nat.le_refl _))
theorem pi_tup {l : Expr} {tl : TE} (hl : PE X l tl) : PI X tg l (iTup X.K tl) := by
  intro pins s σ H R I h
  refine thn (hl pins s σ H _ I h) fun v s1 ⟨x, H1, I1, r1, q1⟩ => ?_
  obtain ⟨a, e, ⟨xs, hq⟩, q⟩ := q1
  subst e
  cases r1
  obtain ⟨its, rv, p, hz⟩ := I1.tuple hq
  refine wpAny_pyIter_tuple (show s1.heap.IsTuple a its.toArray from p) ?_
  refine ⟨s1.heap.objs.size, [s1.heap.objs.size], _, _, H1, rfl, I1.kept (t' := s1.toks) fun b o e => Heap.get?_push_of_some _ e, turn_tuple a _, ⟨_, Heap.get?_push_size _ rfl, rfl, rfl⟩, fun b hb => ?_, q⟩
  have e : b = s1.heap.objs.size := by simpa using hb
  subst e
  exact I1.fpOk (Nat.le_refl _) (I1.hok.fresh (Nat.le_refl _))
theorem range_it {pins : List (Addr × Obj)} {σ : St} {H : Hp} {s : Shared} {R : It → Hp → Prop} {E : Value → Shared → Prop} {lo hi : Int} {t u v : Tok} {tk : Nat} (I : Inv X pins σ H s) (h1 : -(2 ^ 62) ≤ lo) (h2 : lo < 2 ^ 62) (h3 : -(2 ^ 62) ≤ hi) (h4 : hi < 2 ^ 62)
    (q : R (Itr lo (hi - lo).toNat) H) : wpAny (model X.prog X.w) X.A (pyIter (.ref s.heap.objs.size)) (PIE X pins σ tg R) E { s with heap := s.heap.push { cls := .type "range", data := .fields #[.int lo t, .int hi u, .int 1 v] }, toks := tk } := by
  refine wpAny_pyIter_range (IsRange.new ..) (small_one h1 h2 h3 h4) ?_
  have I1 : Inv X pins σ H { s with heap := s.heap.push { cls := .type "range", data := .fields #[.int lo t, .int hi u, .int 1 v] }, toks := tk } := I.kept fun b o e => Heap.get?_push_of_some _ e
  refine ⟨(s.heap.push { cls := .type "range", data := .fields #[.int lo t, .int hi u, .int 1 v] }).objs.size, [(s.heap.push { cls := .type "range", data := .fields #[.int lo t, .int hi u, .int 1 v] }).objs.size], _, _, H, rfl,
    I1.kept (t' := tk) fun b o e => Heap.get?_push_of_some _ e, turn_range _ lo (hi - lo).toNat, ?_, fun b hb => ?_, q⟩
  · have e1 : lo + ((0 : Nat) : Int) * 1 = lo := by simp
    have e2 : (((hi - lo).toNat : Nat) : Int) - ((0 : Nat) : Int) = Builtin.Range.rangeSize lo hi 1 := by rw [rangeSize_one]; split <;> omega
    show IsRangeIter _ _ (lo + ((0 : Nat) : Int) * 1) ((((hi - lo).toNat : Nat) : Int) - ((0 : Nat) : Int)) 1
    rw [e1, e2]
    exact Heap.get?_push_size _ rfl
  · have e : b = (s.heap.push { cls := .type "range", data := .fields #[.int lo t, .int hi u, .int 1 v] }).objs.size := by simpa using hb
    subst e
    exact I1.fpOk (Nat.le_refl _) (I1.hok.fresh (Nat.le_refl _))
def iRng1 (ta : TA) : TI := fun σ H R => ta σ H fun vs H1 => ∃ j : Int, vs = [.int j] ∧ -(2 ^ 62) ≤ j ∧ j < 2 ^ 62 ∧ R (Itr 0 j.toNat) H1
def iRng2 (ta : TA) : TI := fun σ H R => ta σ H fun vs H1 => ∃ i j : Int, vs = [.int i, .int j] ∧ (-(2 ^ 62) ≤ i ∧ i < 2 ^ 62 ∧ -(2 ^ 62) ≤ j ∧ j < 2 ^ 62) ∧ R (Itr i (j - i).toNat) H1
theorem pi_range1 {a : Expr} {ta : TA} {p pos : Pos} (hg : Gl X "range") (hm : X.mg "range" = none) (ha : PA X [a] ta) (hs : starEach [a] X.env = [(false, eval a X.env)] := by rfl) : PI X tg (.Call (.Name "range" p) [a] [] pos) (iRng1 ta) := by
  intro pins s σ H R I h
  refine Call_ (ld_blt I hg hm boot_range (PyProof.Rows.callWith_type1 (thn (ha pos pins s σ H _ I h) fun us s1 ⟨vs, H1, I1, r1, q1⟩ => ?_) hs rfl))
  obtain ⟨j, e, q1, q2, q⟩ := q1
  subst e
  cases r1 with
  | cons r rr =>
    cases rr
    obtain ⟨t, rfl⟩ := r
    exact call_range_1 (range_it I1 (by omega) (by omega) q1 q2 (by simpa using q))
theorem pi_range2 {a b : Expr} {ta : TA} {p pos : Pos} (hg : Gl X "range") (hm : X.mg "range" = none) (ha : PA X [a, b] ta) (hs : starEach [a, b] X.env = [(false, eval a X.env), (false, eval b X.env)] := by rfl) (hs2 : starEach [b] X.env = [(false, eval b X.env)] := by rfl) :
    PI X tg (.Call (.Name "range" p) [a, b] [] pos) (iRng2 ta) := by
  intro pins s σ H R I h
  refine Call_ (ld_blt I hg hm boot_range (PyProof.Rows.callWith_type1 (thn (ha pos pins s σ H _ I h) fun us s1 ⟨vs, H1, I1, r1, q1⟩ => ?_) (by rw [hs, hs2]) (by rw [hs2]; rfl)))
  obtain ⟨i, j, e, ⟨q1, q2, q3, q4⟩, q⟩ := q1
  subst e
  cases r1 with
  | cons r rr =>
    cases rr with
    | cons r' rr =>
      cases rr
      obtain ⟨t, rfl⟩ := r
      obtain ⟨t', rfl⟩ := r'
      exact call_range_2 (range_it I1 q1 q2 q3 q4 q)
def tFor (wi : TI) (g : TG) (tb : TS) : TS := fun D σ H => wi σ H fun J H1 => ∃ W : Nat → Nat → St → Hp → Prop, (∃ m, W 0 m σ H1) ∧ ∀ i m σ H, W i m σ H →
  (J.stop i H ∧ D.nx σ H) ∨ (J.go i H ∧ ∃ N : St → Hp → Prop, (∀ σ' H', N σ' H' → ∃ m', m' < m ∧ W (i + 1) m' σ' H') ∧ ∀ x H', J.yld i H x H' → g x σ H' fun σ2 H2 => tb { D with nx := N, ct := N, bk := D.nx } σ2 H2)
def pinsAt (fp : List Addr) (h : Heap) : List (Addr × Obj) := fp.filterMap fun b => (h.get? b).map fun o => (b, o)
theorem mem_pinsAt {fp : List Addr} {h : Heap} {b : Addr} {o : Obj} (hb : b ∈ fp) (e : h.get? b = some o) : (b, o) ∈ pinsAt fp h := List.mem_filterMap.mpr ⟨b, hb, by rw [e]; rfl⟩
theorem of_pinsAt {fp : List Addr} {h : Heap} {p : Addr × Obj} (hp : p ∈ pinsAt fp h) : p.1 ∈ fp ∧ h.get? p.1 = some p.2 := by
  obtain ⟨b, hb, e⟩ := List.mem_filterMap.mp hp
  cases q : h.get? b with
  | none => rw [q] at e; cases e
  | some o =>
    rw [q] at e
    have e' : (b, o) = p := Option.some.inj e
    subst e'
    exact ⟨hb, q⟩
theorem Inv.pinned {pins : List (Addr × Obj)} {σ : St} {H : Hp} {s : Shared} {fp : List Addr} (I : Inv X pins σ H s) (hf : ∀ b ∈ fp, FpOk X pins H b) (ho : ∀ b ∈ fp, ∃ o, s.heap.get? b = some o ∧ ∀ v, o.data ≠ .cell v) : Inv X (pins ++ pinsAt fp s.heap) σ H s :=
  I.pins_of fun p hp => (List.mem_append.mp hp).elim (fun z => I.pin p (List.mem_append_right _ z)) fun z => by
    obtain ⟨hb, e⟩ := of_pinsAt z
    obtain ⟨f0, f1, f2, _⟩ := hf p.1 hb
    obtain ⟨o, e', d⟩ := ho p.1 hb
    rw [e] at e'; cases e'
    exact ⟨e, f0, f1, f2, d⟩
theorem Inv.unpinned {pins pl : List (Addr × Obj)} {σ : St} {H : Hp} {s : Shared} (I : Inv X (pins ++ pl) σ H s) : Inv X pins σ H s := I.pins_of fun p hp => I.pin p (List.mem_append_right _ (List.mem_append_left _ hp))
theorem ps_for {iter : Expr} {body : List Stmt} {wi : TI} {g : TG} {tb : TS} {pos : Pos} (hp : PassesOwn (model X.prog X.w) X.A X.env X.xe) (hc : X.calm = true) (hi : PI X tg iter wi) (hg : PG X tg g) (hb : PSs X body tb)
    (hs : ∀ x, foldedSetIterable iter X.env x = pure x := by intro _; rfl) : PS X (.For tg iter body [] pos) (tFor wi g tb) := by
  intro pins s σ H D I h
  refine wpAny_For (thn (hi pins s σ H _ I h) fun v s1 h1 => thn h1 fun itv s2 h2 => ?_) hs
  obtain ⟨it, fp, tn, J, H2, e, I2, T, st2, f2, W, ⟨m0, w0⟩, turn⟩ := h2
  subst e
  -- what stays true of the iterator's objects through the loop
  have stat : ∀ {H' : Hp}, (∀ b ∈ fp, H' b = none) → ∀ b ∈ fp, FpOk X pins H' b := fun hn b hb => ⟨hn b hb, (f2 b hb).2⟩
  refine codeAny_forLoop_any (fun n s' => ∃ i σ' H', Inv X pins σ' H' s' ∧ tn i s'.heap ∧ (∀ b ∈ fp, H' b = none) ∧ W i n σ' H') ?_ m0 ⟨0, σ, H2, I2, st2, fun b hb => (f2 b hb).1, w0⟩
  rintro n s3 ⟨i, σ3, H3, I3, st3, fr3, w3⟩
  rcases turn i n σ3 H3 w3 with ⟨stop, qn⟩ | ⟨go, N, hN, step⟩
  · refine wpAny_passesOwn hp (thn (T.done X rfl rfl rfl hc i pins s3 σ3 H3 X.xe I3 (stat fr3) st3 stop) fun r s4 ⟨hr, I4⟩ => ?_)
    subst hr
    exact wpAny_execs_nil ⟨σ3, H3, I4, qn⟩
  · refine wpAny_passesOwn hp (thn (T.item X rfl rfl rfl hc i pins s3 σ3 H3 X.xe I3 (stat fr3) st3 go) fun r s4 ⟨u, hr, h4⟩ => ?_)
    subst hr
    refine wpAny_passesOwn hp (thn h4 fun _ s5 ⟨x, H5, I5, r5, y5, st5, fr5⟩ => ?_)
    have I5' := I5.pinned (stat fr5) (T.obj _ _ st5)
    refine wpAny_passesOwn hp (thn (hg _ s5 σ3 H5 x u _ I5' r5 (step x H5 y5)) fun _ s6 ⟨σ6, H6, I6, q6⟩ => ?_)
    refine wpAny_passesOwn hp (thn (hb _ s6 σ6 H6 _ I6 q6) fun f s7 q7 => ?_)
    have again : ∀ {σ7 : St} {H7 : Hp}, Inv X (pins ++ pinsAt fp s5.heap) σ7 H7 s7 → N σ7 H7 → ∃ m, m < n ∧ ∃ i σ' H', Inv X pins σ' H' s7 ∧ tn i s7.heap ∧ (∀ b ∈ fp, H' b = none) ∧ W i m σ' H' := fun {σ7 H7} I7 n7 => by
      obtain ⟨m', hm, w7⟩ := hN σ7 H7 n7
      refine ⟨m', hm, i + 1, σ7, H7, I7.unpinned, T.keep _ _ _ st5 fun b hb o e => (I7.pin (b, o) (List.mem_append_right _ (List.mem_append_right _ (mem_pinsAt hb e)))).1, fun b hb => ?_, w7⟩
      obtain ⟨o, e, d⟩ := T.obj _ _ st5 b hb
      exact (I7.pin (b, o) (List.mem_append_right _ (List.mem_append_right _ (mem_pinsAt hb e)))).2.1
    cases f with
    | next => obtain ⟨σ7, H7, I7, n7⟩ := q7; exact again I7 n7
    | cont => obtain ⟨σ7, H7, I7, n7⟩ := q7; exact again I7 n7
    | brk => obtain ⟨σ7, H7, I7, q7⟩ := q7; exact ⟨σ7, H7, I7.unpinned, q7⟩
    | ret v => obtain ⟨x7, σ7, H7, I7, r7, q7⟩ := q7; exact ⟨x7, σ7, H7, I7.unpinned, r7, q7⟩
end
end L2
namespace L2
open PySem PySem.Spec PyProof.Rows
abbrev R2 := V → V → Hp → VK → Prop
def OpR (X : Cx) (f : Value → Value → Sem Value) (r : R2) : Prop :=
  ∀ (pins : List (Addr × Obj)) (s : Shared) (σ : St) (H : Hp) (x y : V) (v u : Value) (Q : VK), Inv X pins σ H s → RelV x v → RelV y u → r x y H Q →
    wpAny (model X.prog X.w) X.A (f v u) (EP X pins σ Q) X.xe s
def CallR (X : Cx) (f : Value) (r : List V → Hp → VK → Prop) : Prop :=
  ∀ (pins : List (Addr × Obj)) (s : Shared) (σ : St) (H : Hp) (xs : List V) (us : List Value) (Q : VK), Inv X pins σ H s → Vals xs us → r xs H Q →
    wpAny (model X.prog X.w) X.A (call f us) (EP X pins σ Q) X.xe s
def tOp (r : R2) (ta tb : TE) : TE := fun σ H Q => ta σ H fun x H1 => tb σ H1 fun y H2 => r x y H2 Q
def rI (C : Int → Int → Prop) (g : Int → Int → V) : R2 := fun x y H Q => ∃ i j, x = .int i ∧ y = .int j ∧ C i j ∧ Q (g i j) H
def rI0 (g : Int → Int → V) : R2 := fun x y H Q => ∃ i j, x = .int i ∧ y = .int j ∧ Q (g i j) H
section
variable {X : Cx} {a b c : Expr} {ta tb tc : TE} {pos : Pos}
theorem binT (ha : PE X a ta) (hb : PE X b tb) {pins : List (Addr × Obj)} {s : Shared} {σ : St} {H : Hp} {R : V → V → Hp → Prop} (I : Inv X pins σ H s)
    (h : ta σ H fun x H1 => tb σ H1 fun y H2 => R x y H2) {Q : Value → Shared → Prop} {f : Value → Value → Sem Value}
    (hf : ∀ v u s2 x y H2, Inv X pins σ H2 s2 → RelV x v → RelV y u → R x y H2 → wpAny (model X.prog X.w) X.A (f v u) Q X.xe s2) :
    wpAny (model X.prog X.w) X.A (eval a X.env) (fun v s₁ => wpAny (model X.prog X.w) X.A (eval b X.env) (fun u s₂ => wpAny (model X.prog X.w) X.A (f v u) Q X.xe s₂) X.xe s₁) X.xe s := by
  refine thn (ha pins s σ H _ I h) fun v s1 ⟨x, H1, I1, r1, q1⟩ => ?_
  refine thn (hb pins s1 σ H1 _ I1 q1) fun u s2 ⟨y, H2, I2, r2, q2⟩ => ?_
  exact hf v u s2 x y H2 I2 r1 r2 q2
theorem pe_op {op : Operator} {r : R2} (ho : OpR X (binaryOp op) r) (ha : PE X a ta) (hb : PE X b tb) : PE X (.BinOp a op b pos) (tOp r ta tb) := by
  intro pins s σ H Q I h
  exact wpAny_BinOp (binT ha hb I h fun v u s2 x y H2 I2 rx ry q => ho pins s2 σ H2 x y v u Q I2 rx ry q)
theorem opI {f : Value → Value → Sem Value} {C : Int → Int → Prop} {g : Int → Int → Int}
    (rule : ∀ (i j : Int) (t u : Tok) (s : Shared) (Q : Value → Shared → Prop) (E : Value → Shared → Prop), C i j → Q (.int (g i j) s.toks) { s with toks := s.toks + 1 } → wpAny (model X.prog X.w) X.A (f (.int i t) (.int j u)) Q E s) :
    OpR X f (rI C fun i j => .int (g i j)) := by
  intro pins s σ H x y v u Q I rx ry h
  obtain ⟨i, j, rfl, rfl, hc, q⟩ := h
  obtain ⟨t, rfl⟩ := rx
  obtain ⟨t', rfl⟩ := ry
  exact rule i j t t' s _ _ hc ⟨.int (g i j), H, I.tok _, ⟨_, rfl⟩, q⟩
theorem opI0 {f : Value → Value → Sem Value} {g : Int → Int → Int}
    (rule : ∀ (i j : Int) (t u : Tok) (s : Shared) (Q : Value → Shared → Prop) (E : Value → Shared → Prop), Q (.int (g i j) s.toks) { s with toks := s.toks + 1 } → wpAny (model X.prog X.w) X.A (f (.int i t) (.int j u)) Q E s) :
    OpR X f (rI0 fun i j => .int (g i j)) := by
  intro pins s σ H x y v u Q I rx ry h
  obtain ⟨i, j, rfl, rfl, q⟩ := h
  obtain ⟨t, rfl⟩ := rx
  obtain ⟨t', rfl⟩ := ry
  exact rule i j t t' s _ _ ⟨.int (g i j), H, I.tok _, ⟨_, rfl⟩, q⟩
theorem opB0 {f : Value → Value → Sem Value} {g : Int → Int → Bool}
    (rule : ∀ (i j : Int) (t u : Tok) (s : Shared) (Q : Value → Shared → Prop) (E : Value → Shared → Prop), Q (.bool (g i j)) s → wpAny (model X.prog X.w) X.A (f (.int i t) (.int j u)) Q E s) :
    OpR X f (rI0 fun i j => .bl (g i j)) := by
  intro pins s σ H x y v u Q I rx ry h
  obtain ⟨i, j, rfl, rfl, q⟩ := h
  obtain ⟨t, rfl⟩ := rx
  obtain ⟨t', rfl⟩ := ry
  exact rule i j t t' s _ _ ⟨.bl (g i j), H, I, rfl, q⟩
def CPow (i j : Int) : Prop := 0 ≤ j ∧ j ≤ 1000000 ∧ i.natAbs < 2 ^ 64
def CMul (i j : Int) : Prop := (-(2 ^ 64) < i ∧ i < 2 ^ 64) ∨ (-(2 ^ 64) < j ∧ j < 2 ^ 64)
theorem CMul.ok {i j : Int} (h : CMul i j) : IntMulOk i j := by
  rcases h with ⟨h1, h2⟩ | ⟨h1, h2⟩
  · exact .of_left (intBits_le_64 h1 h2)
  · exact .of_right (intBits_le_64 h1 h2)
theorem op_add : OpR X (binaryOp .Add) (rI0 fun i j => .int (i + j)) := opI0 fun _ _ _ _ _ _ _ q => add_int q
theorem op_sub : OpR X (binaryOp .Sub) (rI0 fun i j => .int (i - j)) := opI0 fun _ _ _ _ _ _ _ q => sub_int q
theorem op_mod : OpR X (binaryOp .Mod) (rI (fun _ j => 0 < j) fun i j => .int (i % j)) := opI fun i j _ _ _ _ _ hc q => by
  have h1 : (0 : Int) < j := hc
  exact mod_int' (by omega) (by rw [Int.fmod_eq_emod_of_nonneg i (by omega)]; exact q)
theorem op_pow : OpR X (binaryOp .Pow) (rI CPow fun i j => .int (i ^ j.toNat)) := opI fun _ _ _ _ _ _ _ hc q => pow_int_small hc.1 hc.2.1 hc.2.2 q
end
section
variable {X : Cx} {a b c : Expr} {ta tb tc : TE} {pos : Pos}
theorem op_lt : OpR X (compareOp .Lt) (rI0 fun i j => .bl (decide (i < j))) := opB0 fun _ _ _ _ _ _ _ q => lt_int q
theorem op_le : OpR X (compareOp .LtE) (rI0 fun i j => .bl (decide (i ≤ j))) := opB0 fun _ _ _ _ _ _ _ q => le_int q
theorem op_ge : OpR X (compareOp .GtE) (rI0 fun i j => .bl (decide (j ≤ i))) := opB0 fun _ _ _ _ _ _ _ q => ge_int q
theorem OpR.or {f : Value → Value → Sem Value} {r r' : R2} (h : OpR X f r) (h' : OpR X f r') : OpR X f (fun x y H Q => r x y H Q ∨ r' x y H Q) := by
  intro pins s σ H x y v u Q I rx ry q
  rcases q with q | q
  · exact h pins s σ H x y v u Q I rx ry q
  · exact h' pins s σ H x y v u Q I rx ry q
theorem nomark (b : Expr) {op : CmpOp} (h : op ≠ .In := by decide) (h2 : op ≠ .NotIn := by decide) : behindInMarks op b = false := by
  have e1 : (op == CmpOp.In) = false := by cases op <;> first | rfl | exact absurd rfl h
  have e2 : (op == CmpOp.NotIn) = false := by cases op <;> first | rfl | exact absurd rfl h2
  cases b <;> simp [behindInMarks, e1, e2]
def tTest (t : TE) : TT := fun σ H Q => t σ H fun x H' => ∃ k, x = .bl k ∧ Q k H'
theorem pt_cmpR {op : CmpOp} {r : R2} (ho : OpR X (compareOp op) r) (ha : PE X a ta) (hb : PE X b tb) (hm : behindInMarks op b = false) : PT X (.Compare a [op] [b] pos) (tTest (tOp r ta tb)) := by
  intro pins s σ H Q I h
  refine wpAny_isTrue_Compare1 (thn (ha pins s σ H _ I h) fun v s1 ⟨x, H1, I1, r1, q1⟩ => thn (hb pins s1 σ H1 _ I1 q1) fun u s2 ⟨y, H2, I2, r2, q2⟩ =>
    thn (ho pins s2 σ H2 x y v u _ I2 r1 r2 q2) fun c s3 ⟨z, H3, I3, r3, k, e, q3⟩ => ?_) hm
  subst e
  cases r3
  exact wpAny_truthy_bool ⟨H3, I3, q3⟩
def tChain (r r' : R2) (ta tb tc : TE) : TE := fun σ H Q => ta σ H fun x H1 => tb σ H1 fun y H2 => r x y H2 fun z H3 => ∃ k, z = .bl k ∧
  (if k = true then tc σ H3 fun w' H4 => r' y w' H4 Q else Q (.bl false) H3)
theorem pt_chain {op op' : CmpOp} {r r' : R2} (ho : OpR X (compareOp op) r) (ho' : OpR X (compareOp op') r') (ha : PE X a ta) (hb : PE X b tb) (hc : PE X c tc)
    (hm : lastMarks [op, op'] [b, c] = false := by with_unfolding_all rfl) : PT X (.Compare a [op, op'] [b, c] pos) (tTest (tChain r r' ta tb tc)) := by
  intro pins s σ H Q I h
  refine isTrue_chain (thn (ha pins s σ H _ I h) fun v s1 ⟨x, H1, I1, r1, q1⟩ => test_link (thn (hb pins s1 σ H1 _ I1 q1) fun u s2 ⟨y, H2, I2, r2, q2⟩ =>
    thn (ho pins s2 σ H2 x y v u _ I2 r1 r2 q2) fun d s3 ⟨z, H3, I3, r3, k, e, q3⟩ => ?_)) hm
  subst e
  cases r3
  refine wpAny_truthy_bool ?_
  cases k with
  | false =>
    obtain ⟨k', e', q'⟩ := q3
    cases e'
    exact ite_ff ⟨H3, I3, q'⟩
  | true =>
    refine ite_tt (test_last (thn (hc pins s3 σ H3 _ I3 q3) fun w' s4 ⟨z', H4, I4, r4, q4⟩ => thn (ho' pins s4 σ H4 y z' u w' _ I4 r2 r4 q4) fun d' s5 ⟨z2, H5, I5, r5, k2, e2, q5⟩ => ?_))
    subst e2
    cases r5
    exact wpAny_truthy_bool ⟨H5, I5, q5⟩
theorem line63 : (sizeLine : Nat) < 2 ^ 63 := by rw [sizeLine_eq]; decide
theorem vals1 {x : V} {us : List Value} (r : Vals [x] us) : ∃ u, us = [u] ∧ RelV x u := by
  cases r with
  | cons r1 r2 => cases r2; exact ⟨_, rfl, r1⟩
theorem vals2 {x y : V} {us : List Value} (r : Vals [x, y] us) : ∃ u w', us = [u, w'] ∧ RelV x u ∧ RelV y w' := by
  cases r with
  | cons r1 r2 =>
    cases r2 with
    | cons r3 r4 => cases r4; exact ⟨_, _, rfl, r1, r3⟩
def LenV (K : PySem.W.Frag) (x : V) (H : Hp) (n : Nat) : Prop :=
  match x with
  | .str y => y.length ≤ sizeLine ∧ n = y.length
  | .byt y => y.size ≤ sizeLine ∧ n = y.size
  | .ref p => (∃ xs, SqL K H p xs ∧ n = xs.length) ∨ ∃ xs, SqT K H p xs ∧ n = xs.length
  | _ => False
theorem call_len : CallR X (.builtin "len") (fun xs H Q => ∃ x n, xs = [x] ∧ LenV X.K x H n ∧ Q (.int n) H) := by
  intro pins s σ H xs us Q I r h
  obtain ⟨x, n, rfl, e, q⟩ := h
  obtain ⟨u, rfl, rx⟩ := vals1 r
  have hl := line63
  have hs : sizeLine = 16777216 := sizeLine_eq
  cases x with
  | str y =>
    obtain ⟨t, rfl⟩ := rx
    obtain ⟨hy, e'⟩ : y.length ≤ sizeLine ∧ n = y.length := e
    subst e'
    exact len_str (by omega) ⟨.int _, H, I.tok _, ⟨_, rfl⟩, q⟩
  | byt y =>
    obtain ⟨t, rfl⟩ := rx
    obtain ⟨hy, e'⟩ : y.size ≤ sizeLine ∧ n = y.size := e
    subst e'
    exact PySem.W.len_bytes (by omega) ⟨.int _, H, I.tok _, ⟨_, rfl⟩, q⟩
  | ref p =>
    cases rx
    have e' : (∃ xs, SqL X.K H p xs ∧ n = xs.length) ∨ ∃ xs, SqT X.K H p xs ∧ n = xs.length := e
    rcases e' with ⟨xs, hx, e'⟩ | ⟨xs, hx, e'⟩
    · subst e'
      obtain ⟨its, r', pl, hz⟩ := I.list hx
      have hlen := r'.length
      exact Calls.call_len_list pl.isList (by simp only [List.size_toArray]; omega) ⟨.int xs.length, H, I.tok _, ⟨_, by simp only [List.size_toArray]; rw [hlen]⟩, q⟩
    · subst e'
      obtain ⟨its, r', pl, hz⟩ := I.tuple hx
      have hlen := r'.length
      exact len_tuple pl (by simp only [List.size_toArray]; omega) ⟨.int xs.length, H, I.tok _, ⟨_, by simp only [List.size_toArray]; rw [hlen]⟩, q⟩
  | _ => exact (show False from e).elim
end
end L2
namespace L2
open PySem PySem.Spec PyProof.Rows
structure ObjM (h : Heap) (x dx C : Addr) (mA : Str → Option Value) : Prop where
  obj : h.get? x = some (PySem.W.instObj C dx)
  ns : h.Ns1 dx mA
  ne : dx ≠ x
theorem lookIn_ns {h : Heap} {dx : Addr} {mA : Str → Option Value} (n : h.Ns1 dx mA) : ∃ od, h.get? dx = some od ∧ ∀ name, PySem.W.lookIn name od = some (mA name) := by
  obtain ⟨o, es, ep, ho, hd, hk, _, hm⟩ := n
  refine ⟨o, ho, fun name => ?_⟩
  have e := hm name
  unfold nsFind findBy at e
  rw [← Array.find?_toList] at e
  unfold PySem.W.lookIn
  rw [hd]
  dsimp only
  split
  · rename_i y q
    rw [q] at e
    exact congrArg some e
  · rename_i q
    rw [q] at e
    have a : es.toList.any (·.refKey) = false := by
      rw [List.any_eq_false]
      intro y hy
      obtain ⟨z, t, hkey⟩ := hk y (Array.mem_toList_iff.mp hy)
      simp [DictEntry.refKey, hkey]
    have a' : ¬ es.toList.any (·.refKey) = true := by rw [a]; exact Bool.false_ne_true
    rw [if_neg a']
    exact congrArg some e
theorem ObjM.look {h : Heap} {x dx C : Addr} {mA : Str → Option Value} (I : ObjM h x dx C mA) : ∃ od, PySem.W.InstAt h x (PySem.W.instObj C dx) C (some od) ∧ ∀ name, PySem.W.lookIn name od = some (mA name) :=
  let ⟨od, ho, hl⟩ := lookIn_ns I.ns
  ⟨od, ⟨I.obj, rfl, rfl, ho⟩, hl⟩
section
variable {prog : Program} {w : World} {A : Around} {E : Value → Shared → Prop} {s : Shared} {K : PySem.W.Frag} {x dx C f : Addr} {mA : Str → Option Value} {name : Str} {v : Value}
end
section
variable {P : Program} {w : World} {H H' : Hp} {h h' : Heap} {a C dx : Addr} {fs fs' : List (Str × V)}
theorem ins_get (hok : HOk P w H h) (e : H a = some (.ins C dx fs)) : ∃ mA, ObjM h a dx C mA ∧ (∀ f, RelO (fs.lookup f) (mA f)) ∧ PySem.Within mA (fs.map (·.1)) ∧ fs.length ≤ 1000 ∧ H dx = some (.own a) := by
  obtain ⟨d, z, ne, ob, mA, n, r, q⟩ := (show ObjOk P w H h a (.ins C dx fs) from hok a _ e)
  exact ⟨mA, ⟨ob, n, ne⟩, r, q, z, d⟩
end
structure Cls (K : PySem.W.Frag) (C : Addr) : Prop where
  pg : PySem.W.plainGet K C Str.empty = true
  hd : PySem.W.hasDictIn K C = true
  po : PySem.W.plainOver K C = true
  sa : PySem.W.findIn K (.ref C) "__setattr__" = some (some (.builtin "object.__setattr__"))
theorem Cls.get {K : PySem.W.Frag} {C : Addr} (c : Cls K C) (f : Str) : PySem.W.plainGet K C f = true := c.pg
structure Con (K : PySem.W.Frag) (C : Addr) (f : Str) (v : V) (u : Value) : Prop where
  at_ : PySem.W.findIn K (.ref C) f = some (some u)
  rel : RelV v u
  get : PySem.W.specialIn K u "__get__" = some none
  cp : PySem.W.copiedNames.contains f = false
structure Meth (K : PySem.W.Frag) (C : Addr) (m : Str) (f : Addr) : Prop where
  at_ : PySem.W.findIn K (.ref C) m = some (some (.ref f))
  fn : PySem.W.isFn K (.ref f) = true
  kp : PySem.W.keepIn K (.ref f) = true
section
variable {X : Cx} {pins : List (Addr × Obj)} {σ : St} {H : Hp} {s : Shared} {a C dx : Addr} {fs : List (Str × V)} {f : Str} {v : V} {A : Around} {E : Value → Shared → Prop}
theorem Inv.made (I : Inv X pins σ H s) : Inv X pins σ (upd (upd H s.heap.objs.size (.own (s.heap.objs.size + 1))) (s.heap.objs.size + 1) (.ins C s.heap.objs.size []))
    { s with heap := (s.heap.push PySem.W.emptyDict).push (PySem.W.instObj C s.heap.objs.size) } := by
  have e1 : (s.heap.push PySem.W.emptyDict).get? s.heap.objs.size = some PySem.W.emptyDict := Heap.get?_push_size s.heap rfl
  have e2 : ((s.heap.push PySem.W.emptyDict).push (PySem.W.instObj C s.heap.objs.size)).get? (s.heap.objs.size + 1) = some (PySem.W.instObj C s.heap.objs.size) := by
    have := Heap.get?_push_size (s.heap.push PySem.W.emptyDict) (o := PySem.W.instObj C s.heap.objs.size) rfl
    rwa [Heap.size_push] at this
  have e3 : (s.heap.push PySem.W.emptyDict).Ns s.heap.objs.size (fun _ => none) := ⟨PySem.W.emptyDict, #[], _, e1, rfl, (fun e he => absurd he (by simp)), fun _ => rfl⟩
  have I1 := I.laid (a := s.heap.objs.size) (o := .own (s.heap.objs.size + 1)) (h' := s.heap.push PySem.W.emptyDict) (t' := s.toks) (fun b u q => Heap.get?_push_of_some _ q) (Nat.le_refl _) ⟨_, e1⟩
  refine I1.laid (a := s.heap.objs.size + 1) (o := .ins C s.heap.objs.size []) (t' := s.toks) (fun b u q => Heap.get?_push_of_some _ q) (Nat.le_of_eq (Heap.size_push _ _)) ?_
  have ne : s.heap.objs.size ≠ s.heap.objs.size + 1 := Nat.ne_of_lt (Nat.lt_succ_self _)
  refine ⟨by rw [upd_ne ne, upd_same], Nat.zero_le _, ne, e2, fun _ => none, (Heap.Ns1.of_empty e3).at fun o q => Heap.get?_push_of_some _ q, fun _ => True.intro, fun y hy => absurd rfl hy⟩
end
section
variable {X : Cx} {o e value : Expr} {f : Str} {pos pos' tpos : Pos} {ta tv : TE}
end
section
variable {X : Cx} {pins : List (Addr × Obj)} {σ : St} {H : Hp} {s : Shared} {A : Around} {E : Value → Shared → Prop} {Q : Value → Shared → Prop} {c : Value} {b : Bool}
inductive TyOf (K : PySem.W.Frag) (H : Hp) : V → Value → Prop where
  | non : TyOf K H .non (.type "NoneType")
  | bl (x : Bool) : TyOf K H (.bl x) (.type "bool")
  | int (i : Int) : TyOf K H (.int i) (.type "int")
  | str (x : Str) : TyOf K H (.str x) (.type "str")
  | flt (x : UInt64) : TyOf K H (.flt x) (.type "float")
  | lst {a : Addr} {xs : List V} (e : H a = some (.lst xs)) : TyOf K H (.ref a) (.type "list")
  | frz {a : Addr} {o : Obj} {xs : List V} (e : H a = some (.frz o (.lst xs))) : TyOf K H (.ref a) (.type "list")
  | tup {a : Addr} {xs : List V} (e : H a = some (.tup xs)) : TyOf K H (.ref a) (.type "tuple")
  | dK {a : Addr} {kvs : List (Key × V)} (e : H a = some (.dK kvs)) : TyOf K H (.ref a) (.type "dict")
  | dT {a : Addr} {kvs : List (List Key × V)} (e : H a = some (.dT kvs)) : TyOf K H (.ref a) (.type "dict")
  | ins {a C dx : Addr} {fs : List (Str × V)} (e : H a = some (.ins C dx fs)) (cl : Cls K C) (ha : PySem.W.findIn K (.ref C) "__class__" = some (some (.builtin "object.__class__")))
      (hn : PySem.W.specialIn K (.builtin "object.__class__") "__get__" = some (some (.builtin "getset_descriptor.__get__"))) (htk : PySem.W.takesIn K (.builtin "object.__class__") = some true)
      (hm : PySem.W.mroIn K C (.type "object") = some true) : TyOf K H (.ref a) (.ref C)
theorem isinst_ok {x : V} {u t : Value} (I : Inv X pins σ H s) (rx : RelV x u) (ty : TyOf X.K H x t) (e : PySem.W.kitOne X.K t c = some b) (h : ∀ tk, Q (.bool b) { s with toks := tk }) :
    wpAny (model X.prog X.w) A (call (.builtin "isinstance") [u, c]) Q E s := by
  cases ty with
  | non => cases (show u = Value.none from rx); exact PySem.W.kia_one PySem.W.kitx_none I.kIn True.intro e (fun z => nomatch z) h
  | bl y => cases (show u = Value.bool y from rx); exact PySem.W.kia_one PySem.W.kitx_bool I.kIn True.intro e (fun z => nomatch z) h
  | int i => obtain ⟨t, q⟩ := (show ∃ t, u = Value.int i t from rx); cases q; exact PySem.W.kia_one PySem.W.kitx_int I.kIn True.intro e (fun z => nomatch z) h
  | str y => obtain ⟨t, q⟩ := (show ∃ t, u = Value.str y t from rx); cases q; exact PySem.W.kia_one PySem.W.kitx_str I.kIn True.intro e (fun z => nomatch z) h
  | flt y => obtain ⟨t, q⟩ := (show ∃ t, u = Value.float y t from rx); cases q; exact PySem.W.kia_one PySem.W.kitx_float I.kIn True.intro e (fun z => nomatch z) h
  | @lst a xs ea =>
    cases (show u = Value.ref a from rx)
    obtain ⟨_, _, n, _, h1⟩ := (show ObjOk X.prog X.w H s.heap a (.lst xs) from I.hok a _ ea)
    exact PySem.W.kia_one PySem.W.kitx_list I.kIn ⟨_, h1, rfl⟩ e (fun z => nomatch z) h
  | @frz a ob xs ea =>
    cases (show u = Value.ref a from rx)
    obtain ⟨_, _, _, n, _, h1⟩ := (show ObjOk X.prog X.w H s.heap a (.frz ob (.lst xs)) from I.hok a _ ea)
    exact PySem.W.kia_one PySem.W.kitx_list I.kIn ⟨_, h1, rfl⟩ e (fun z => nomatch z) h
  | @tup a xs ea =>
    cases (show u = Value.ref a from rx)
    obtain ⟨_, _, _, p⟩ := (show ObjOk X.prog X.w H s.heap a (.tup xs) from I.hok a _ ea)
    obtain ⟨o, h1, h2, _⟩ := p
    exact PySem.W.kia_one PySem.W.kitx_tuple I.kIn ⟨o, h1, h2⟩ e (fun z => nomatch z) h
  | @dK a kvs ea =>
    cases (show u = Value.ref a from rx)
    obtain ⟨_, _, vs, _, p⟩ := (show ObjOk X.prog X.w H s.heap a (.dK kvs) from I.hok a _ ea)
    obtain ⟨o, es, ep, h1, h2, _⟩ := p
    exact PySem.W.kia_one PySem.W.kitx_dict I.kIn ⟨o, h1, h2.1⟩ e (fun z => nomatch z) h
  | @dT a kvs ea =>
    cases (show u = Value.ref a from rx)
    obtain ⟨_, _, xs, _, o, es, ep, h1, h2, _⟩ := (show ObjOk X.prog X.w H s.heap a (.dT kvs) from I.hok a _ ea)
    exact PySem.W.kia_one PySem.W.kitx_dict I.kIn ⟨o, h1, h2.1⟩ e (fun z => nomatch z) h
  | @ins a C dx fs ea cl ha hn htk hm =>
    cases (show u = Value.ref a from rx)
    obtain ⟨mA, O, _⟩ := ins_get I.hok ea
    obtain ⟨od, J, _⟩ := O.look
    exact PySem.W.kia_one (PySem.W.kitx_own (cl.get _) cl.hd ha hn htk hm) I.kIn J e (fun z => nomatch z) h
end
end L2
namespace L2
open PySem PySem.Spec PyProof.Rows
structure Room (k : Nat) (A : Around) : Prop where
  hd : A.handled = none
  dp : A.depth + 3 * k + 5 < recursionLimit
  un : A.units + 16 * k + 200 < cLine
theorem Room.mono {j k : Nat} {A : Around} (r : Room k A) (h : j ≤ k) : Room j A := ⟨r.hd, by have := r.dp; omega, by have := r.un; omega⟩
theorem Room.deeper {k : Nat} {A : Around} (r : Room (k + 1) A) (env : Env) : Room k (A.deeper env) :=
  ⟨r.hd, by have := r.dp; show A.depth + 1 + 3 * k + 5 < _; omega, by have := r.un; show A.units + 3 + 16 * k + 200 < _; omega⟩
theorem Room.in1 {k : Nat} {A : Around} (r : Room (k + 1) A) : Room k A.in1 :=
  ⟨r.hd, by have := r.dp; show A.depth + 3 * k + 5 < _; omega, by have := r.un; show A.units + 1 + 16 * k + 200 < _; omega⟩
theorem Room.depth {k : Nat} {A : Around} (r : Room k A) : A.depth < recursionLimit := by have := r.dp; omega
theorem Room.units {k : Nat} {A : Around} (r : Room k A) : A.units + 64 < cLine := by have := r.un; omega
def tNil : TA := fun _ H Q => Q [] H
def tCons (ta : TE) (tr : TA) : TA := fun σ H Q => ta σ H fun x H1 => tr σ H1 fun xs H2 => Q (x :: xs) H2
section
variable {X : Cx} {e : Expr} {es : List Expr} {te : TE} {t : TA} {pos : Pos}
theorem pa_nil : PA X [] tNil := fun _ _ _ _ H Q I h => Calls.spliced_nil ⟨[], H, I, .nil, h⟩
theorem pa_cons (ha : PE X e te) (hr : PA X es t) (hs : starEach (e :: es) X.env = (false, eval e X.env) :: starEach es X.env := by rfl) : PA X (e :: es) (tCons te t) := by
  intro pos pins s σ H Q I h
  rw [hs]
  show wpAny _ _ (spliced ((false, eval e X.env) :: backTo pos (starEach es X.env))) _ _ s
  refine Calls.spliced_cons (thn (ha pins s σ H _ I h) fun u s1 ⟨x, H1, I1, r1, q1⟩ => ?_)
  exact thn (hr pos pins s1 σ H1 _ I1 q1) fun us s2 ⟨xs, H2, I2, r2, q2⟩ => ⟨x :: xs, H2, I2, .cons r1 r2, q2⟩
def tTup (t : TA) : TE := fun σ H Q => t σ H fun xs H1 => xs.length ≤ sizeLine ∧ ∀ p, H1 p = none → Q (.ref p) (upd H1 p (.tup xs))
def tLst (t : TA) : TE := fun σ H Q => t σ H fun xs H1 => xs.length ≤ sizeLine ∧ ∀ p, H1 p = none → Q (.ref p) (upd H1 p (.lst xs))
theorem pe_tup {x1} (h : PA X es t) : PE X (.Tuple es x1 pos) (tTup t) := by
  intro pins s σ H Q I hq
  refine wpAny_Tuple_spliced (thn (h pos pins s σ H _ I hq) fun us s1 ⟨xs, H1, I1, r, z, q⟩ => ⟨by rw [← r.length]; exact z, ?_⟩)
  have hf : H1 s1.heap.objs.size = none := I1.hok.fresh (Nat.le_refl _)
  refine ⟨.ref s1.heap.objs.size, upd H1 s1.heap.objs.size (.tup xs), I1.laid (t' := s1.toks) (fun b u e => Heap.get?_push_of_some _ e) (Nat.le_refl _) ?_, rfl, q _ hf⟩
  exact ⟨z, us, r, ⟨_, Heap.get?_push_size _ rfl, rfl, _, rfl⟩⟩
theorem pe_lst (h : PA X es t) : PE X (.List es pos) (tLst t) := by
  intro pins s σ H Q I hq
  refine wpAny_List_spliced (thn (h pos pins s σ H _ I hq) fun us s1 ⟨xs, H1, I1, r, z, q⟩ => ⟨by rw [← r.length]; exact z, ?_⟩)
  have hf : H1 s1.heap.objs.size = none := I1.hok.fresh (Nat.le_refl _)
  refine ⟨.ref s1.heap.objs.size, upd H1 s1.heap.objs.size (.lst xs), I1.laid (t' := s1.toks) (fun b u e => Heap.get?_push_of_some _ e) (Nat.le_refl _) ?_, rfl, q _ hf⟩
  exact ⟨z, us, 0, r, Heap.get?_push_size _ rfl⟩
end
abbrev Sp := List V → Hp → VK → XK → Prop
abbrev CXT := List Env → Hp → Shared → XK → Value → Shared → Prop
structure Env0 (P : Program) (w : World) (K : PySem.W.Frag) (mg : Str → Option Value) (base : Heap) (A : Around) (outer : List Env) (s : Shared) (H : Hp) : Prop where
  frames : A.frames = some outer
  mod : Mod K mg base
  bs : ∀ b o, base.get? b = some o → s.heap.get? b = some o ∧ H b = none
  bsz : base.objs.size ≤ s.heap.objs.size
  funs : s.heap.FunFrames base outer
  frf : ∀ b ∈ frs outer, H b = none
  hok : HOk P w H s.heap
  bare : AllBare s.gens
def CE (outer : List Env) (P : Program) (w : World) (H : Hp) (s : Shared) (Q : VK) (u : Value) (s' : Shared) : Prop :=
  ∃ v H', s'.os = s.os ∧ AllBare s'.gens ∧ Un (frs outer) [] H H' s.heap s'.heap ∧ HOk P w H' s'.heap ∧ RelV v u ∧ Q v H'
def CR (CX : CXT) (outer : List Env) (P : Program) (w : World) (H : Hp) (s : Shared) (Q : VK) (E : XK) (r : Result) (s' : Shared) : Prop :=
  match r with
  | .ok (.ret u) => CE outer P w H s Q u s'
  | .ok _ => False
  | .error e => CX outer H s E e s'
structure FnOk (P : Program) (w : World) (K : PySem.W.Frag) (mg : Str → Option Value) (base : Heap) (CX : CXT) (k : Nat) (f : Addr) (fd : FuncData) (ps : List Str) (sp : Sp) : Prop where
  len : ∀ vs H Q E, sp vs H Q E → vs.length = ps.length
  run : ∀ (A : Around) (outer : List Env) (s : Shared) (H : Hp) (args : Args) (us : List Value) (vs : List V) (Q : VK) (E : XK), Room k A → Env0 P w K mg base A outer s H → BindsTo s fd args (ps.zip us) → Vals vs us → sp vs H Q E →
    codeAny (model P w) A (.call (.ref f) args) (CR CX outer P w H s Q E) s
theorem FnOk.mono {P : Program} {w : World} {K : PySem.W.Frag} {mg : Str → Option Value} {base : Heap} {CX : CXT} {j k : Nat} {f : Addr} {fd : FuncData} {ps : List Str} {sp : Sp} (F : FnOk P w K mg base CX j f fd ps sp) (h : j ≤ k) :
    FnOk P w K mg base CX k f fd ps sp := ⟨F.len, fun A outer s H args us vs Q E hr => F.run A outer s H args us vs Q E (hr.mono h)⟩
theorem FnOk.imp {P : Program} {w : World} {K : PySem.W.Frag} {mg : Str → Option Value} {base : Heap} {CX : CXT} {k : Nat} {f : Addr} {fd : FuncData} {ps : List Str} {sp sp' : Sp} (F : FnOk P w K mg base CX k f fd ps sp)
    (h : ∀ vs H Q E, sp' vs H Q E → sp vs H Q E) : FnOk P w K mg base CX k f fd ps sp' :=
  ⟨fun vs H Q E q => F.len vs H Q E (h _ _ _ _ q), fun A outer s H args us vs Q E hr he hb hv hs => F.run A outer s H args us vs Q E hr he hb hv (h _ _ _ _ hs)⟩
theorem Env0.in1 {P : Program} {w : World} {K : PySem.W.Frag} {mg : Str → Option Value} {base : Heap} {A : Around} {outer : List Env} {s : Shared} {H : Hp} (e : Env0 P w K mg base A outer s H) :
    Env0 P w K mg base A.in1 outer s H := ⟨e.frames, e.mod, e.bs, e.bsz, e.funs, e.frf, e.hok, e.bare⟩
section
variable {X : Cx} {pins : List (Addr × Obj)} {σ : St} {H : Hp} {s s' : Shared}
theorem Inv.env0 (I : Inv X pins σ H s) : Env0 X.prog X.w X.K X.mg X.base X.A X.stack s H :=
  ⟨I.ok.frames, I.ok.mod, I.bs, Nat.le_trans I.ok.bsz I.sz, I.stack, I.stkFree, I.hok, I.bare⟩
theorem Inv.after {Q : VK} {u : Value} (I : Inv X pins σ H s) (h : CE X.stack X.prog X.w H s Q u s') : EP X pins σ Q u s' := by
  obtain ⟨v, H', os, bare, un, hok, r, q⟩ := h
  obtain ⟨hh, g, d, t, os'⟩ := s'
  obtain rfl : os' = s.os := os
  exact ⟨v, H', I.call (h' := hh) (g' := g) (d' := d) (t' := t) (ch := []) un hok bare (fun b z => absurd z (by simp)), r, q⟩
end
def tCall (sp : Sp) (dvs : List V) (E : XK) (t : TA) : TE := fun σ H Q => t σ H fun vs H1 => sp (vs ++ dvs) H1 Q E
def Binds (K : PySem.W.Frag) (fd : FuncData) (ps : List Str) (ds : List Value) : Prop :=
  ∀ (s : Shared) (us : List Value), K.In s.heap → (us ++ ds).length = ps.length → BindsTo s fd ⟨us, []⟩ (ps.zip (us ++ ds))
theorem Binds.all {K : PySem.W.Frag} {fd : FuncData} {ps : List Str} (h : ∀ us : List Value, us.length = ps.length → bindArgs fd ⟨us, []⟩ = pure (ps.zip us)) : Binds K fd ps [] := fun s us _ hl => by
  rw [List.append_nil] at hl ⊢
  exact .of_eq (h us hl)
def Passes (CX : CXT) (X : Cx) (E : XK) : Prop := ∀ (pins : List (Addr × Obj)) (σ : St) (H : Hp) (s : Shared) (e : Value) (s' : Shared), Inv X pins σ H s → CX X.stack H s E e s' → X.xe e s'
section
variable {X : Cx} {CX : CXT} {k : Nat} {f C : Addr} {fd : FuncData} {ps : List Str} {sp : Sp} {dvs : List V} {ds : List Value} {E : XK} {x m : Str} {p pos apos : Pos} {e o : Expr} {es : List Expr} {ta : TE} {t : TA}
theorem run_fn {pins : List (Addr × Obj)} {σ : St} {H : Hp} {s : Shared} {Q : VK} {us : List Value} {vs : List V} (F : FnOk X.prog X.w X.K X.mg X.base CX k f fd ps sp) (hr : Room k X.A) (hb : Binds X.K fd ps ds) (hd : Vals dvs ds) (hx : Passes CX X E)
    (I : Inv X pins σ H s) (r : Vals vs us) (h : sp (vs ++ dvs) H Q E) : wpAny (model X.prog X.w) X.A (call (.ref f) us) (EP X pins σ Q) X.xe s := by
  have r2 : Vals (vs ++ dvs) (us ++ ds) := r.append hd
  have hl : (us ++ ds).length = ps.length := by rw [← r2.length]; exact F.len _ _ _ _ h
  refine wpAny_call (codeAny_mono (F.run X.A X.stack s H ⟨us, []⟩ (us ++ ds) (vs ++ dvs) Q E hr I.env0 (hb s us I.kIn hl) r2 h) fun r s' hq => ?_)
  cases r with
  | error e => exact hx pins σ H s e s' I hq
  | ok fl =>
    cases fl with
    | ret u => exact I.after hq
    | next => exact False.elim hq
    | brk => exact False.elim hq
    | cont => exact False.elim hq
theorem pe_call (F : FnOk X.prog X.w X.K X.mg X.base CX k f fd ps sp) (hr : Room k X.A) (hg : Gl X x) (hm : X.mg x = some (.ref f)) (hk : PySem.W.keepIn X.K (.ref f) = true) (hb : Binds X.K fd ps ds) (hd : Vals dvs ds) (hx : Passes CX X E)
    (ha : PA X (e :: es) t) (hdb : (x == ("__debug__" : Str)) = false := by decide) (he : starEach (e :: es) X.env = (false, eval e X.env) :: starEach es X.env := by rfl) (hpl : (backTo pos (starEach es X.env)).any (·.1) = false := by rfl) :
    PE X (.Call (.Name x p) (e :: es) [] pos) (tCall sp dvs E t) := by
  intro pins s σ H Q I h
  refine wpAny_Call_Name_kw (ld_glob I hg hm ?_ hdb)
  refine PySem.W.callWith_K (h₀ := X.base) I.ok.mod.kin hk (thn (ha pos pins s σ H _ I h) fun us s1 ⟨vs, H1, I1, r, q⟩ => ⟨I1.kIn, ?_⟩) he hpl
  exact run_fn F hr hb hd hx I1 r q
structure Mk (K : PySem.W.Frag) (C f : Addr) : Prop where
  makes : PySem.W.makesIn K C = true
  init : PySem.W.findIn K (.ref C) "__init__" = some (some (.ref f))
  fn : PySem.W.isFn K (.ref f) = true
  kp : PySem.W.keepIn K (.ref C) = true
end
section
variable {X : Cx} {CX : CXT} {k : Nat} {f C : Addr} {fd : FuncData} {ps ks : List Str} {sp : Sp} {E : XK} {x m : Str} {p pos apos kpos : Pos} {e o : Expr} {es : List Expr} {kws : List Keyword} {te ta : TE} {t tk : TA} {nm : Option Str}
structure KBinds (K : PySem.W.Frag) (fd : FuncData) (ps ks : List Str) (g : List Value → List Value → List Value) (gV : List V → List V → List V) : Prop where
  to : ∀ (s : Shared) (us ws : List Value), K.In s.heap → (g us ws).length = ps.length → BindsTo s fd ⟨us, ks.zip ws⟩ (ps.zip (g us ws))
  rel : ∀ {vs : List V} {us : List Value} {zs : List V} {ws : List Value}, Vals vs us → Vals zs ws → Vals (gV vs zs) (g us ws)
variable {g : List Value → List Value → List Value} {gV : List V → List V → List V}
end
structure FnScope (N P : List Str) (sc : Scope) : Prop where
  kind : sc.kind = .function
  co : sc.isCoroutine = false
  gen : sc.isGenerator = false
  nd : N.Nodup
  pre : N.take P.length = P
  par : ∀ x ∈ P, sc.names.lookup x = some .local ∨ sc.names.lookup x = some .cell
  nofree : ∀ y ∈ sc.names, y.2 ≠ .free
theorem bindL_out {kindOf : Str → Option NameKind} {x : Str} : ∀ {binds : List (Str × Value)} {m : Str → Option Value}, (∀ v, (x, v) ∉ binds) → bindL kindOf binds m x = m x
  | [], _, _ => rfl
  | (n, v) :: r, m, h => by
    unfold bindL
    rw [bindL_out fun w hw => h w (List.mem_cons_of_mem _ hw)]
    split
    · have : x ≠ n := by rintro rfl; exact h v List.mem_cons_self
      simp [this]
    · rfl
theorem bindC_out {kindOf : Str → Option NameKind} {x : Str} : ∀ {binds : List (Str × Value)} {m : Str → Option Value}, (∀ v, (x, v) ∉ binds) → bindC kindOf binds m x = m x
  | [], _, _ => rfl
  | (n, v) :: r, m, h => by
    unfold bindC
    rw [bindC_out fun w hw => h w (List.mem_cons_of_mem _ hw)]
    split
    · rfl
    · have : x ≠ n := by rintro rfl; exact h v List.mem_cons_self
      simp [this]
theorem bindL_get {kindOf : Str → Option NameKind} {x : Str} {v : Value} : ∀ {P : List Str} {vs : List Value} {i : Nat} {m : Str → Option Value}, P.Nodup → P[i]? = some x → vs[i]? = some v → kindOf x = some .local →
    bindL kindOf (P.zip vs) m x = some v
  | [], _, _, _, _, h, _, _ => by simp at h
  | _ :: _, [], _, _, _, _, h, _ => by simp at h
  | p :: P, w :: vs, 0, m, nd, h1, h2, hk => by
    simp at h1 h2; subst h1; subst h2
    show bindL kindOf ((p, w) :: P.zip vs) m p = _
    unfold bindL
    rw [bindL_out fun v hv => (List.nodup_cons.mp nd).1 (List.of_mem_zip hv).1, if_pos hk]
    simp
  | p :: P, w :: vs, i + 1, m, nd, h1, h2, hk => by
    show bindL kindOf ((p, w) :: P.zip vs) m x = _
    unfold bindL
    exact bindL_get (i := i) (List.nodup_cons.mp nd).2 (by simpa using h1) (by simpa using h2) hk
theorem bindC_get {kindOf : Str → Option NameKind} {x : Str} {v : Value} : ∀ {P : List Str} {vs : List Value} {i : Nat} {m : Str → Option Value}, P.Nodup → P[i]? = some x → vs[i]? = some v → kindOf x ≠ some .local →
    bindC kindOf (P.zip vs) m x = some v
  | [], _, _, _, _, h, _, _ => by simp at h
  | _ :: _, [], _, _, _, _, h, _ => by simp at h
  | p :: P, w :: vs, 0, m, nd, h1, h2, hk => by
    simp at h1 h2; subst h1; subst h2
    show bindC kindOf ((p, w) :: P.zip vs) m p = _
    unfold bindC
    rw [bindC_out fun v hv => (List.nodup_cons.mp nd).1 (List.of_mem_zip hv).1, if_neg hk]
    simp
  | p :: P, w :: vs, i + 1, m, nd, h1, h2, hk => by
    show bindC kindOf ((p, w) :: P.zip vs) m x = _
    unfold bindC
    exact bindC_get (i := i) (List.nodup_cons.mp nd).2 (by simpa using h1) (by simpa using h2) hk
def start (N : List Str) (vs : List V) : St := vs.map some ++ List.replicate (N.length - vs.length) none
def cxOf (CX : CXT) (P : Program) (w : World) (K : PySem.W.Frag) (mg : Str → Option Value) (base : Heap) (N : List Str) (qual : Str) (scope : Scope) (f : Addr) (cd : Value) (A : Around) (outer : List Env) (s : Shared) (H : Hp) (E : XK) : Cx where
  prog := P
  w := w
  K := K
  mg := mg
  base := base
  A := A.deeper (envOfC qual scope s.heap.objs.size f cd)
  N := N
  s₀ := s
  H₀ := H
  env := envOfC qual scope s.heap.objs.size f cd
  outer := outer
  stack := envOfC qual scope s.heap.objs.size f cd :: outer
  ex := []
  calm := true
  fn := fun _ => true
  pn := []
  xe := fun e s' => wpAny (model P w) (A.deeper (envOfC qual scope s.heap.objs.size f cd)) (leaving (envOfC qual scope s.heap.objs.size f cd) e) (fun _ s'' => CX outer H s E e s'') (fun e' s'' => CX outer H s E e' s'') s'
theorem cell_has {sc : Scope} {n : Nat} {x : Str} (h : sc.names.lookup x = some .cell) : ∃ c, (cellsFrom n sc.names []).lookup x = some c := by
  have q := PySem.W.cellsFrom_some sc.names n [] (.inl h)
  exact Option.isSome_iff_exists.mp q
theorem inv_start {CX : CXT} {P : Program} {w : World} {K : PySem.W.Frag} {mg : Str → Option Value} {base : Heap} {N ps : List Str} {qual : Str} {scope : Scope} {f : Addr} {cd : Value} {A : Around} {outer : List Env} {s s1 : Shared} {H : Hp} {E : XK} {us : List Value} {vs : List V}
    (S : FnScope N ps scope) (hd : A.handled = none) (e0 : Env0 P w K mg base A outer s H) (hl : vs.length = ps.length) (r : Vals vs us)
    (x : InCallC s s.heap.objs.size (bindL (envOfC qual scope s.heap.objs.size f cd).kindOf (ps.zip us) fun _ => none) (cellsFrom (s.heap.objs.size + 1) scope.names []) (bindC (envOfC qual scope s.heap.objs.size f cd).kindOf (ps.zip us) fun _ => none) s1) :
    Inv (cxOf CX P w K mg base N qual scope f cd A outer s H E) [] (start N vs) H s1 := by
  have hpl : ps.length ≤ N.length := by have := congrArg List.length S.pre; rw [List.length_take] at this; omega
  obtain ⟨h1, tk, rfl, hk⟩ := x.done
  have noA : ∀ b : Addr, b ∉ (cxOf CX P w K mg base N qual scope f cd A outer s H E).ex := fun b z => absurd (show b ∈ ([] : List Addr) from z) (by simp)
  refine ⟨⟨e0.mod, S.kind, rfl, rfl, Nat.le_refl _, fun y z c h1 h2 => ?_, fun y hy => ?_, fun y c _ h => ?_, fun _ => hd, Around.frames_deeper e0.frames, .inr ⟨rfl, rfl⟩, fun b z => absurd z (noA b), e0.bs, e0.bsz, fun b _ _ => noA b, fun b z => absurd z (noA b), e0.funs, e0.frf⟩,
    rfl, e0.bare, Un.kept hk, ⟨_, x.toInCall.ns, fun i y v h1 h2 h3 => ?_⟩, fun y c h => ⟨_, x.cell y c h⟩, e0.hok.fresh (Nat.le_refl _), fun y c h => ?_, fun p hp => absurd (show p ∈ ([] : List (Addr × Obj)) from hp) (by simp), e0.hok.kept hk, ?_⟩
  · exact name_of_addr x.apart (PySem.mem_of_lookup h1) (PySem.mem_of_lookup h2)
  · have hy : scope.names.lookup y = some .cell ∨ scope.names.lookup y = some .free := hy
    rcases hy with hy | hy
    · exact cell_has hy
    · exact absurd rfl (S.nofree _ (PySem.mem_of_lookup hy))
  · exact Nat.le_of_lt (x.above y c (PySem.mem_of_lookup h))
  · have hi : i < vs.length := by
      unfold start at h2
      by_cases hi : i < vs.length
      · exact hi
      · rw [List.getElem?_append_right (by simpa using hi)] at h2
        rw [List.getElem?_replicate] at h2
        split at h2 <;> cases h2
    have ha : vs[i]? = some v := by
      unfold start at h2
      rw [List.getElem?_append_left (by simpa using hi), List.getElem?_map] at h2
      cases e : vs[i]? with
      | none => rw [e] at h2; cases h2
      | some a => rw [e] at h2; cases h2; rfl
    obtain ⟨u, hu, rv⟩ := r.get ha
    have hp : ps[i]? = some y := by
      rw [← S.pre, List.getElem?_take_of_lt (by omega)]; exact h1
    have ndP : ps.Nodup := by rw [← S.pre]; exact S.nd.sublist (List.take_sublist _ _)
    refine ⟨u, rv, ?_⟩
    rcases S.par y (List.mem_of_getElem? hp) with k | k
    · exact .inl ⟨k, bindL_get ndP hp hu k⟩
    · obtain ⟨c, e⟩ := cell_has (n := s.heap.objs.size + 1) k
      refine .inr ⟨.inl k, c, e, ?_⟩
      have q := x.cell y c e
      rw [bindC_get ndP hp hu (by show scope.names.lookup y ≠ _; rw [k]; decide)] at q
      exact q
  · exact e0.hok.fresh (Nat.le_of_lt (x.above y c (PySem.mem_of_lookup h)))
  · unfold start
    show _ = N.length
    rw [List.length_append, List.length_map, List.length_replicate]
    omega
theorem fn_of {CX : CXT} {P : Program} {w : World} {K : PySem.W.Frag} {mg : Str → Option Value} {base : Heap} {k : Nat} {f : Addr} {name qual : Str} {params : Arguments} {body : List Stmt} {scope : Scope} {dV kV doc pm cdv ct oc : Value} {an od : Option Addr}
    {osl : Array (Option Value)} {N ps : List Str} {sp : Sp} (lk : K.lookup f = some ⟨oc, od, .func (PySem.W.fnOf name qual params body scope dV kV doc pm an cdv ct), osl⟩) (hcd : PySem.W.codeIn K cdv qual = true) (S : FnScope N ps scope)
    (len : ∀ vs H Q E, sp vs H Q E → vs.length = ps.length)
    (hbody : ∀ (A : Around) (outer : List Env) (s : Shared) (H : Hp) (vs : List V) (Q : VK) (E : XK), Room k (A.deeper (envOfC qual scope s.heap.objs.size f cdv)) → sp vs H Q E →
      ∃ t, PSs (cxOf CX P w K mg base N qual scope f cdv A outer s H E) body t ∧ t { nx := fun _ H' => Q .non H', rt := Q } (start N vs) H) :
    FnOk P w K mg base CX (k + 1) f (PySem.W.fnOf name qual params body scope dV kV doc pm an cdv ct) ps sp := by
  refine ⟨len, fun A outer s H args us vs Q E hr e0 hb r hsp => ?_⟩
  have hl := len _ _ _ _ hsp
  have KX : K.In s.heap := e0.mod.kin.keeps fun b o e => (e0.bs b o e).1
  have lim : s.heap.NoLimit := e0.mod.nolimit.keeps fun b o e => (e0.bs b o e).1
  have hkind : ∀ y ∈ ps.zip us, scope.names.lookup y.1 = some .local ∨ (scope.names.lookup y.1 = some .cell ∧ ((cellsFrom (s.heap.objs.size + 1) scope.names []).lookup y.1).isSome = true) := fun ⟨n, v⟩ hy => by
    rcases S.par n (List.of_mem_zip hy).1 with q | q
    · exact .inl q
    · exact .inr ⟨q, PySem.W.cellsFrom_some _ _ _ (.inl q)⟩
  refine codeAny_call_function hr.depth (KX _ _ lk) rfl S.co S.gen rfl (PySem.W.codeRec_of KX hcd) (hb _ _ _ _ ?_)
  refine wpAny_newFunctionEnv_cells S.kind hkind fun env he s1 x => ?_
  subst he
  refine ⟨lim.keeps x.toInCall.keep, codeAny_func ?_⟩
  obtain ⟨t, ht, hq⟩ := hbody A outer s H vs Q E (hr.deeper _) hsp
  have I : Inv (cxOf CX P w K mg base N qual scope f cdv A outer s H E) [] (start N vs) H s1 := inv_start S hr.hd e0 hl r x
  refine wpAny_mono (ht [] s1 (start N vs) H _ I hq) (fun fl s' hs => ?_) fun e s' hs => hs
  have fin : ∀ {σ' : St} {H' : Hp} {v : V} {u : Value}, Inv (cxOf CX P w K mg base N qual scope f cdv A outer s H E) [] σ' H' s' → RelV v u → Q v H' → CE outer P w H s Q u s' :=
    fun {σ' H' v u} J rv q => ⟨v, H', J.os, J.bare, J.base, J.hok, rv, q⟩
  cases fl with
  | ret u =>
    obtain ⟨v, σ', H', J, rv, q⟩ := hs
    exact fin J rv q
  | next =>
    obtain ⟨σ', H', J, q⟩ := hs
    exact fin (v := V.non) (u := Value.none) J rfl q
  | brk =>
    obtain ⟨_, _, _, q⟩ := hs
    exact False.elim q
  | cont =>
    obtain ⟨_, _, _, q⟩ := hs
    exact False.elim q
end L2
namespace L2
open PySem PySem.Spec PyProof.Rows
section
variable {X : Cx} {x : Str} {p pos : Pos} {e : Expr} {es : List Expr} {t : TA} {id T : String} {r : List V → Hp → VK → Prop}
def tCB (r : List V → Hp → VK → Prop) (t : TA) : TE := fun σ H Q => t σ H fun vs H1 => r vs H1 Q
theorem pe_callB (hc : CallR X (.builtin id) r) (hg : Gl X x) (hm : X.mg x = none) (hv : bootBuiltins x = some (.builtin id)) (ha : PA X (e :: es) t) (hn : x ≠ "__name__" := by decide) (hdb : (x == ("__debug__" : Str)) = false := by decide)
    (he : starEach (e :: es) X.env = (false, eval e X.env) :: starEach es X.env := by rfl) (hpl : (backTo pos (starEach es X.env)).any (·.1) = false := by rfl) : PE X (.Call (.Name x p) (e :: es) [] pos) (tCB r t) := by
  intro pins s σ H Q I h
  refine wpAny_Call_Name_kw (ld_blt I hg hm hv ?_ hn hdb)
  exact PyProof.Rows.callWith_builtin1 (thn (ha pos pins s σ H _ I h) fun us s1 ⟨vs, H1, I1, r1, q1⟩ => hc pins s1 σ H1 vs us Q I1 r1 q1) he hpl
theorem pe_callTy (hc : CallR X (.type T) r) (hg : Gl X x) (hm : X.mg x = none) (hv : bootBuiltins x = some (.type T)) (ha : PA X (e :: es) t) (hn : x ≠ "__name__" := by decide) (hdb : (x == ("__debug__" : Str)) = false := by decide)
    (he : starEach (e :: es) X.env = (false, eval e X.env) :: starEach es X.env := by rfl) (hpl : (backTo pos (starEach es X.env)).any (·.1) = false := by rfl) : PE X (.Call (.Name x p) (e :: es) [] pos) (tCB r t) := by
  intro pins s σ H Q I h
  refine wpAny_Call_Name_kw (ld_blt I hg hm hv ?_ hn hdb)
  exact PyProof.Rows.callWith_type1 (thn (ha pos pins s σ H _ I h) fun us s1 ⟨vs, H1, I1, r1, q1⟩ => hc pins s1 σ H1 vs us Q I1 r1 q1) he hpl
end
end L2
namespace HT
open PySem PyProof.Rows
section
open PySem.SeqAt
open PySem.AutoSeq1 (wpAny_loadPart')
open PySem.MeetsSeq PySem.MeetsSeq2 PySem.MeetsSeq3
end
section
variable {prog : Program} {w : World} {A : Around} {E : Value → Shared → Prop} {s : Shared}
def sIx (n d : Nat) : Option Int → Nat
  | none => d
  | some v => if v < 0 then (v + (n : Int)).toNat else min v.toNat n
end
end HT
namespace L2
open PySem PySem.Spec PyProof.Rows
abbrev TO := St → Hp → (Option Int → Hp → Prop) → Prop
def PO (X : Cx) (e : Option Expr) (t : TO) : Prop :=
  ∀ (pins : List (Addr × Obj)) (s : Shared) (σ : St) (H : Hp) (Q : Option Int → Hp → Prop), Inv X pins σ H s → t σ H Q →
    wpAny (model X.prog X.w) X.A (evalPart e X.env) (fun u s' => ∃ o H', Inv X pins σ H' s' ∧ IsPart u o ∧ Q o H') X.xe s
def tNoPart : TO := fun _ H Q => Q none H
def tPart (t : TE) : TO := fun σ H Q => t σ H fun x H1 => ∃ i, x = .int i ∧ Q (some i) H1
theorem intsAre_of {ns : List Int} : ∀ {us : List Value}, Vals (ns.map V.int) us → IntsAre us ns := by
  induction ns with
  | nil => intro us r; rw [List.map_nil] at r; cases r; exact .nil
  | cons n ns ih =>
    intro us r
    rw [List.map_cons] at r
    cases r with
    | cons r1 r2 =>
      obtain ⟨t, e⟩ := r1
      subst e
      exact .cons n t (ih r2)
section
variable {X : Cx} {e : Expr} {te : TE} {lo hi : Option Expr} {tl th : TO} {pos p2 : Pos}
theorem po_none : PO X none tNoPart := by
  intro pins s σ H Q I h
  rw [evalPart_none]
  exact wpAny_pure ⟨none, H, I, .none, h⟩
theorem po_some (h : PE X e te) : PO X (some e) (tPart te) := by
  intro pins s σ H Q I hw
  rw [evalPart_some]
  refine thn (h pins s σ H _ I hw) fun u s1 ⟨x, H1, I1, r1, q1⟩ => ?_
  obtain ⟨i, rfl, q⟩ := q1
  obtain ⟨t, rfl⟩ := r1
  exact ⟨some i, H1, I1, .int i t, q⟩
def SlR (X : Cx) (r : V → Option Int → Option Int → Hp → VK → Prop) : Prop :=
  ∀ (pins : List (Addr × Obj)) (s : Shared) (σ : St) (H : Hp) (x : V) (v vl vu : Value) (lo hi : Option Int) (sl : Addr) (Q : VK), Inv X pins σ H s → RelV x v → s.heap.IsSliceOf sl vl vu .none → IsPart vl lo → IsPart vu hi → r x lo hi H Q →
    ∃ T id, typeLookup (.type T) "__getitem__" = pure (some (.builtin id)) ∧ s.TypeIs v T ∧ wpAny (model X.prog X.w) X.A (getItem v (.ref sl)) (EP X pins σ Q) X.xe s
theorem SlR.or {r r' : V → Option Int → Option Int → Hp → VK → Prop} (h : SlR X r) (h' : SlR X r') : SlR X (fun x lo hi H Q => r x lo hi H Q ∨ r' x lo hi H Q) := by
  intro pins s σ H x v vl vu lo hi sl Q I rx hs pl pu q
  rcases q with q | q
  · exact h pins s σ H x v vl vu lo hi sl Q I rx hs pl pu q
  · exact h' pins s σ H x v vl vu lo hi sl Q I rx hs pl pu q
def tSl (r : V → Option Int → Option Int → Hp → VK → Prop) (te : TE) (tl th : TO) : TE := fun σ H Q => te σ H fun x H1 => tl σ H1 fun l H2 => th σ H2 fun u H3 => r x l u H3 Q
theorem pe_slice {r : V → Option Int → Option Int → Hp → VK → Prop} (hr : SlR X r) (he : PE X e te) (hl : PO X lo tl) (hu : PO X hi th) : PE X (.Subscript e (.Slice lo hi none p2) pos) (tSl r te tl th) := by
  intro pins s σ H Q I h
  refine Subscript_ (thn (he pins s σ H _ I h) fun v s1 ⟨x, H1, I1, r1, q1⟩ => ?_)
  refine wpAny_Slice (thn (hl pins s1 σ H1 _ I1 q1) fun vl s2 ⟨l, H2, I2, pl, q2⟩ => thn (hu pins s2 σ H2 _ I2 q2) fun vu s3 ⟨u, H3, I3, pu, q3⟩ => ?_)
  rw [evalPart_none]
  refine wpAny_pure ?_
  have I4 : Inv X pins σ H3 { s3 with heap := s3.heap.push { cls := .type "slice", data := .fields #[vl, vu, .none] } } := I3.kept (t' := s3.toks) fun b ob q => Heap.get?_push_of_some _ q
  obtain ⟨T, id, hT, ht, hg⟩ := hr pins { s3 with heap := s3.heap.push { cls := .type "slice", data := .fields #[vl, vu, .none] } } σ H3 x v vl vu l u s3.heap.objs.size Q I4 r1 (Heap.IsSliceOf.new ..) pl pu q3
  show wpAny (model X.prog X.w) X.A (subscriptTail e (.Slice lo hi none p2) v (.ref s3.heap.objs.size)) (EP X pins σ Q) X.xe { s3 with heap := s3.heap.push { cls := .type "slice", data := .fields #[vl, vu, .none] } }
  exact tail_any (ops := [.ref s3.heap.objs.size, v]) ht hT hg (by with_unfolding_all rfl)
def cutV (xs : List V) (lo hi : Option Int) : List V := (xs.drop (HT.sIx xs.length 0 lo)).take (HT.sIx xs.length xs.length hi - HT.sIx xs.length 0 lo)
theorem cutV_length (xs : List V) (lo hi : Option Int) : (cutV xs lo hi).length ≤ xs.length := by
  unfold cutV
  rw [List.length_take, List.length_drop]
  omega
end
end L2
namespace L2
open PySem PySem.Spec PyProof.Rows
def ixN (n : Nat) (i : Int) : Option Nat := if 0 ≤ i then (if i < n then some i.toNat else none) else if -(n : Int) ≤ i then some (i + n).toNat else none
def atI {α : Type} (xs : List α) (i : Int) : Option α := (ixN xs.length i).bind fun j => xs[j]?
theorem ixN_seq {n : Nat} {i : Int} {j : Nat} (h : ixN n i = some j) : seqIndex? i n = some j ∧ j < n ∧ -(n : Int) ≤ i ∧ i < n := by
  unfold ixN at h
  by_cases h0 : 0 ≤ i
  · rw [if_pos h0] at h
    by_cases h1 : i < n
    · rw [if_pos h1] at h
      have e : i.toNat = j := Option.some.inj h
      exact ⟨by rw [seqIndex_of h0 h1, e], by omega, by omega, h1⟩
    · rw [if_neg h1] at h; cases h
  · rw [if_neg h0] at h
    by_cases h1 : -(n : Int) ≤ i
    · rw [if_pos h1] at h
      have e : (i + n).toNat = j := Option.some.inj h
      exact ⟨by rw [seqIndex_neg (by omega) h1, e], by omega, h1, by omega⟩
    · rw [if_neg h1] at h; cases h
theorem atI_get {α : Type} {xs : List α} {i : Int} {v : α} (h : atI xs i = some v) : ∃ j, seqIndex? i xs.length = some j ∧ xs[j]? = some v ∧ j < xs.length ∧ -(xs.length : Int) ≤ i ∧ i < xs.length := by
  unfold atI at h
  cases e : ixN xs.length i with
  | none => rw [e] at h; cases h
  | some j =>
    rw [e] at h
    obtain ⟨h1, h2, h3, h4⟩ := ixN_seq e
    exact ⟨j, h1, h, h2, h3, h4⟩
def PlainIx (b : Expr) : Prop := ∀ o i, subscripted b false o i = operate [o, i] (getItem o i)
def IxR (X : Cx) (r : R2) : Prop :=
  ∀ (value slice : Expr) (pins : List (Addr × Obj)) (s : Shared) (σ : St) (H : Hp) (x y : V) (v u : Value) (Q : VK), Inv X pins σ H s → RelV x v → RelV y u → r x y H Q →
    subscripted slice false v u = operate [v, u] (getItem v u) → wpAny (model X.prog X.w) X.A (subscriptTail value slice v u) (EP X pins σ Q) X.xe s
def MtR (X : Cx) (id : String) (r : V → List V → Hp → VK → Prop) : Prop :=
  ∀ (pins : List (Addr × Obj)) (s : Shared) (σ : St) (H : Hp) (x : V) (xs : List V) (v : Value) (us : List Value) (Q : VK), Inv X pins σ H s → RelV x v → Vals xs us → r x xs H Q →
    wpAny (model X.prog X.w) X.A (call (.builtin id) (v :: us)) (EP X pins σ Q) X.xe s
section
variable {X : Cx} {a b : Expr} {ta tb : TE} {pos : Pos}
theorem IxR.or {r r' : R2} (h : IxR X r) (h' : IxR X r') : IxR X (fun x y H Q => r x y H Q ∨ r' x y H Q) := by
  intro value slice pins s σ H x y v u Q I rx ry q hs
  rcases q with q | q
  · exact h value slice pins s σ H x y v u Q I rx ry q hs
  · exact h' value slice pins s σ H x y v u Q I rx ry q hs
theorem MtR.or {id : String} {r r' : V → List V → Hp → VK → Prop} (h : MtR X id r) (h' : MtR X id r') : MtR X id (fun x xs H Q => r x xs H Q ∨ r' x xs H Q) := by
  intro pins s σ H x xs v us Q I rx rs q
  rcases q with q | q
  · exact h pins s σ H x xs v us Q I rx rs q
  · exact h' pins s σ H x xs v us Q I rx rs q
theorem pe_ix {r : R2} (hr : IxR X r) (ha : PE X a ta) (hb : PE X b tb) (hs : PlainIx b) : PE X (.Subscript a b pos) (tOp r ta tb) := by
  intro pins s σ H Q I h
  exact Subscript_ (binT ha hb I h fun v u s2 x y H2 I2 rx ry q => hr a b pins s2 σ H2 x y v u Q I2 rx ry q (hs _ _))
def rIxL (K : PySem.W.Frag) : R2 := fun x y H Q => ∃ p xs i v, x = .ref p ∧ y = .int i ∧ SqL K H p xs ∧ atI xs i = some v ∧ Q v H
def rIxT (K : PySem.W.Frag) : R2 := fun x y H Q => ∃ p xs i v, x = .ref p ∧ y = .int i ∧ SqT K H p xs ∧ atI xs i = some v ∧ Q v H
theorem ix_list : IxR X (rIxL X.K) := by
  intro value slice pins s σ H x y v u Q I rx ry h hs
  obtain ⟨p, xs, i, z, rfl, rfl, hq, he, q⟩ := h
  cases rx
  obtain ⟨t, rfl⟩ := ry
  obtain ⟨its, r, pl, hz⟩ := I.list hq
  obtain ⟨j, h1, h2, h3, h4, h5⟩ := atI_get he
  obtain ⟨w, ew, rw'⟩ := r.get h2
  have hl := r.length
  have hn := line63
  have fin : EP X pins σ Q w s := ⟨z, H, I, rw', q⟩
  by_cases h0 : 0 ≤ i
  · have hj : i.toNat = j := by
      rw [seqIndex_of h0 h5] at h1
      exact Option.some.inj h1
    exact item_listR pl.isList h0 (by omega) (by rw [hj]; simpa using ew) fin hs
  · have hj : (i + (its.toArray.size : Int)).toNat = j := by
      rw [seqIndex_neg (by omega) h4] at h1
      rw [List.size_toArray, ← hl]
      exact Option.some.inj h1
    exact subscriptTail_builtinR (x := w) pl.isList.typeIs slot_list_getitem.lookup
      (wpAny_getItem_list_neg (Q := fun r s' => r = w ∧ EP X pins σ Q r s') pl.isList (by omega) (by rw [List.size_toArray] <;> omega) (by omega) (by rw [hj]; simpa using ew) ⟨rfl, fin⟩) hs
theorem ix_tup : IxR X (rIxT X.K) := by
  intro value slice pins s σ H x y v u Q I rx ry h hs
  obtain ⟨p, xs, i, z, rfl, rfl, hq, he, q⟩ := h
  cases rx
  obtain ⟨t, rfl⟩ := ry
  obtain ⟨its, r, pl, hz⟩ := I.tuple hq
  obtain ⟨j, h1, h2, h3, h4, h5⟩ := atI_get he
  obtain ⟨w, ew, rw'⟩ := r.get h2
  have hl := r.length
  have hn := line63
  have fin : EP X pins σ Q w s := ⟨z, H, I, rw', q⟩
  exact subscriptTail_builtinR (x := w) pl.typeIs slot_tuple_getitem.lookup
    (getItem_tuple (j := j) (Q := fun r s' => r = w ∧ EP X pins σ Q r s') pl (by omega) (by omega) (by rw [List.size_toArray, ← hl]; exact h1) (by simpa using ew) ⟨rfl, fin⟩) hs
theorem mapSeq_set (its : List Value) (n j : Nat) (u : Value) : Obj.mapSeq (·.setIfInBounds j u) { cls := .type "list", data := .seq its.toArray n } = { cls := .type "list", data := .seq (its.set j u).toArray n } := by
  simp [Obj.mapSeq]
theorem Inv.lst {pins : List (Addr × Obj)} {σ : St} {H : Hp} {s : Shared} {p : Addr} {xs : List V} (I : Inv X pins σ H s) (h : H p = some (.lst xs)) :
    ∃ (its : List Value) (n : Nat), Vals xs its ∧ s.heap.get? p = some { cls := .type "list", data := .seq its.toArray n } ∧ xs.length ≤ sizeLine := by
  obtain ⟨z, its, n, r, e⟩ := I.hok p _ h
  exact ⟨its, n, r, e, z⟩
theorem Inv.lstUpd {pins : List (Addr × Obj)} {σ : St} {H : Hp} {s : Shared} {p : Addr} {xs ys : List V} {its its' : List Value} {n n' : Nat} {f : Obj → Obj} (I : Inv X pins σ H s) (h : H p = some (.lst xs))
    (ho : s.heap.get? p = some { cls := .type "list", data := .seq its.toArray n }) (hf : f { cls := .type "list", data := .seq its.toArray n } = { cls := .type "list", data := .seq its'.toArray n' }) (r : Vals ys its') (hz : ys.length ≤ sizeLine) (t : Nat) :
    Inv X pins σ (upd H p (.lst ys)) { s with heap := s.heap.update p f, toks := t } := by
  have e : (s.heap.update p f).get? p = some { cls := .type "list", data := .seq its'.toArray n' } := by
    rw [Heap.get?_update_self f ho (by rw [hf] <;> rfl), hf]
  refine I.write (x := p) (e := p) (by rw [h]; trivial) (.inl rfl) (fun b u hb q => (Heap.get?_update_other _ _ (Ne.symm hb)).trans q) ⟨_, e⟩ ?_
  exact ⟨hz, its', n', r, e⟩
def rSetL : V → V → V → Hp → (Hp → Prop) → Prop := fun o i v H Q => ∃ p xs k j, o = .ref p ∧ i = .int k ∧ H p = some (.lst xs) ∧ ixN xs.length k = some j ∧ Q (upd H p (.lst (xs.set j v)))
theorem set_list : PSet X rSetL := by
  intro pins s σ H o i v ov iv u Q I ro ri rv h
  obtain ⟨p, xs, k, j, rfl, rfl, hp, hj, q⟩ := h
  cases ro
  obtain ⟨t, rfl⟩ := ri
  obtain ⟨its, n, r, ho, hz⟩ := I.lst hp
  obtain ⟨h1, h2, h3, h4⟩ := ixN_seq hj
  have hl := r.length
  have hn := line63
  have I' : Inv X pins σ (upd H p (.lst (xs.set j v))) { s with heap := s.heap.update p (Obj.mapSeq (·.setIfInBounds j u)) } :=
    I.lstUpd hp ho (mapSeq_set its n j u) (r.set rv j) (by rw [List.length_set]; exact hz) s.toks
  by_cases h0 : 0 ≤ k
  · have hk : k.toNat = j := by
      rw [seqIndex_of h0 h4] at h1
      exact Option.some.inj h1
    exact PySem.W.ki_setAt ho h0 (by omega) (by rw [List.size_toArray, ← hl]; exact h4) (by rw [hk]; exact ⟨_, I', q⟩)
  · have hk : (k + (its.toArray.size : Int)).toNat = j := by
      rw [seqIndex_neg (by omega) h3] at h1
      rw [List.size_toArray, ← hl]
      exact Option.some.inj h1
    exact PySem.W.ki_setBack ho (by omega) (by rw [List.size_toArray, ← hl]; exact h3) (by omega) (by rw [hk]; exact ⟨_, I', q⟩)
theorem slice_bounds (lo hi : Option Int) (n : Nat) : (sliceBounds lo hi none n).1 = ((HT.sIx n 0 lo : Nat) : Int) ∧ (sliceBounds lo hi none n).2.1 = ((HT.sIx n n hi : Nat) : Int) ∧ (sliceBounds lo hi none n).2.2 = 1 := by
  refine ⟨?_, ?_, rfl⟩
  · cases lo with
    | none => simp [sliceBounds, HT.sIx]
    | some i =>
      simp only [sliceBounds, HT.sIx, Option.getD_none, show (1 : Int) > 0 by decide, if_true]
      by_cases h : i < 0
      · simp only [h, if_true] <;> omega
      · simp only [h, if_false] <;> omega
  · cases hi with
    | none => simp [sliceBounds, HT.sIx]
    | some i =>
      simp only [sliceBounds, HT.sIx, Option.getD_none, show (1 : Int) > 0 by decide, if_true]
      by_cases h : i < 0
      · simp only [h, if_true] <;> omega
      · simp only [h, if_false] <;> omega
theorem slicePick_cut (its : List Value) (lo hi : Option Int) : slicePick its.toArray lo hi none = ((its.drop (HT.sIx its.length 0 lo)).take (HT.sIx its.length its.length hi - HT.sIx its.length 0 lo)).toArray := by
  obtain ⟨h1, h2, h3⟩ := slice_bounds lo hi its.toArray.size
  unfold slicePick
  rw [h1, h2, h3]
  simp only [sliceRange_one, pick_run, List.size_toArray] <;> rfl
def rSlL (K : PySem.W.Frag) : V → Option Int → Option Int → Hp → VK → Prop := fun x lo hi H Q => ∃ a xs, x = .ref a ∧ SqL K H a xs ∧ ∀ p, H p = none → Q (.ref p) (upd H p (.lst (cutV xs lo hi)))
theorem sl_list : SlR X (rSlL X.K) := by
  intro pins s σ H x v vl vu lo hi sl Q I rx hs pl pu h
  obtain ⟨a, xs, rfl, hx, q⟩ := h
  cases rx
  obtain ⟨its, r, ht, hz⟩ := I.list hx
  have hlen := r.length
  refine ⟨"list", _, slot_list_getitem.lookup, ht.isList.typeIs, ?_⟩
  refine wpAny_getItem_list_slice ht.isList hs pl pu .none (by simp) ?_ (by rw [List.size_toArray] <;> omega)
  rw [slicePick_cut, ← hlen]
  refine ⟨.ref s.heap.objs.size, _, I.laid (t' := s.toks) (o := .lst (cutV xs lo hi)) (fun b ob q => Heap.get?_push_of_some _ q) (Nat.le_refl _) ?_, rfl, q _ (I.hok.fresh (Nat.le_refl _))⟩
  exact ⟨Nat.le_trans (cutV_length xs lo hi) hz, _, 0, (r.drop (HT.sIx xs.length 0 lo)).take (HT.sIx xs.length xs.length hi - HT.sIx xs.length 0 lo), Heap.get?_push_size _ rfl⟩
theorem CallR.or {f : Value} {r r' : List V → Hp → VK → Prop} (h : CallR X f r) (h' : CallR X f r') : CallR X f (fun xs H Q => r xs H Q ∨ r' xs H Q) := by
  intro pins s σ H xs us Q I rs q
  rcases q with q | q
  · exact h pins s σ H xs us Q I rs q
  · exact h' pins s σ H xs us Q I rs q
theorem call_list_of : CallR X (.type "list") (fun xs H Q => ∃ p ys, xs = [.ref p] ∧ (SqL X.K H p ys ∨ SqT X.K H p ys) ∧ ∀ l, H l = none → Q (.ref l) (upd H l (.lst ys))) := by
  intro pins s σ H xs us Q I r h
  obtain ⟨p, ys, rfl, hq, q⟩ := h
  obtain ⟨u, rfl, rx⟩ := vals1 r
  cases rx
  have fin : ∀ (its : List Value), Vals ys its → ys.length ≤ sizeLine → ∀ (h' : Heap) (c' : Nat), (∀ b o', s.heap.get? b = some o' → h'.get? b = some o') →
      h'.get? s.heap.objs.size = some { cls := .type "list", dict := none, data := .seq its.toArray c', slots := #[] } → EP X pins σ Q (.ref s.heap.objs.size) { s with heap := h' } := fun its r' hz h' c' kp e =>
    ⟨.ref s.heap.objs.size, _, I.laid (t' := s.toks) kp (Nat.le_refl _) (show ObjOk X.prog X.w _ h' _ (.lst ys) from ⟨hz, its, c', r', e⟩), rfl, q _ (I.hok.fresh (Nat.le_refl _))⟩
  rcases hq with hq | hq
  · obtain ⟨its, r', pl, hz⟩ := I.list hq
    have hlen := r'.length
    obtain ⟨o, ho, hc, n, hd⟩ := pl.isList
    exact call_list_seq p (.inl rfl) ho hc hd (fun h' c' kp e => fin its r' hz h' c' kp e) (by simp only [List.size_toArray] <;> omega)
  · obtain ⟨its, r', pl, hz⟩ := I.tuple hq
    have hlen := r'.length
    obtain ⟨o, ho, hc, n, hd⟩ := pl
    exact call_list_seq p (.inr rfl) ho hc hd (fun h' c' kp e => fin its r' hz h' c' kp e) (by simp only [List.size_toArray] <;> omega)
def tyV (K : PySem.W.Frag) (T : String) (x : V) (H : Hp) : Prop := match x with
  | .str _ => T = "str"
  | .int _ => T = "int"
  | .ref p => (T = "list" ∧ ∃ xs, SqL K H p xs) ∨ (T = "tuple" ∧ ∃ o, K.lookup p = some o ∧ o.cls = .type "tuple" ∧ o.dict = none) ∨
      (T = "dict" ∧ ((∃ kvs, H p = some (.dK kvs)) ∨ ∃ kvs, H p = some (.dT kvs))) ∨ (T = "set" ∧ ∃ S n, H p = some (.set S n))
  | _ => False
theorem tyV_is {pins : List (Addr × Obj)} {σ : St} {H : Hp} {s : Shared} {T : String} {x : V} {v : Value} (I : Inv X pins σ H s) (r : RelV x v) (ty : tyV X.K T x H) :
    s.TypeIs v T ∧ ∀ a, v = .ref a → ∃ ob, s.heap.get? a = some ob ∧ ob.dict = none := by
  cases x with
  | str z =>
    obtain ⟨t, rfl⟩ := r
    cases (show T = "str" from ty)
    exact ⟨typeIs_str s z t, fun _ e => nomatch e⟩
  | int i =>
    obtain ⟨t, rfl⟩ := r
    cases (show T = "int" from ty)
    exact ⟨typeIs_int s i t, fun _ e => nomatch e⟩
  | ref p =>
    cases r
    rcases ty with ⟨rfl, xs, hq⟩ | ⟨rfl, o, hk, hc, hd⟩ | ⟨rfl, hk⟩ | ⟨rfl, S, n, hk⟩
    · obtain ⟨its, _, pl, _⟩ := I.list hq
      refine ⟨pl.isList.typeIs, fun a e => ?_⟩
      cases e
      obtain ⟨o, n, e, c, hd, _⟩ := pl
      exact ⟨o, e, hd⟩
    · refine ⟨⟨o, I.kIn p o hk, hc⟩, fun a e => ?_⟩
      cases e
      exact ⟨o, I.kIn _ o hk, hd⟩
    · have z : ∃ o, s.heap.get? p = some o ∧ o.ExactDict := by
        rcases hk with ⟨kvs, hk⟩ | ⟨kvs, hk⟩
        · obtain ⟨_, _, _, _, o, _, _, e, ex, _⟩ := I.hok p _ hk
          exact ⟨o, e, ex⟩
        · obtain ⟨_, _, _, _, o, _, _, e, ex, _⟩ := I.hok p _ hk
          exact ⟨o, e, ex⟩
      obtain ⟨o, e, ex⟩ := z
      refine ⟨⟨o, e, ex.1⟩, fun a e2 => ?_⟩
      cases e2
      exact ⟨o, e, ex.2.1⟩
    · obtain ⟨o, _, _, _, e, ex, _⟩ := I.hok p _ hk
      refine ⟨⟨o, e, ex.1⟩, fun a e2 => ?_⟩
      cases e2
      exact ⟨o, e, ex.2.1⟩
  | _ => exact False.elim ty
def tBM (K : PySem.W.Frag) (T : String) (r : V → List V → Hp → VK → Prop) (to : TE) (t : TA) : TE := fun σ H Q => to σ H fun x H1 => tyV K T x H1 ∧ t σ H1 fun xs H2 => r x xs H2 Q
variable {o e : Expr} {es : List Expr} {to : TE} {t : TA} {name : Str} {apos cpos : Pos} {T id : String} {r : V → List V → Hp → VK → Prop}
theorem pe_bm (pa : PlainAttrs T) (slot : Slot T name id) (hty : typeOf (.builtin id) = pure (.type "method_descriptor")) (hm : MtR X id r) (ho : PE X o to) (ha : PA X (e :: es) t)
    (hbase : attributeBase o name X.env (eval o X.env) = eval o X.env := by rfl)
    (hfew : ((backTo cpos (starEach (e :: es) X.env)).all (fun x => !x.1) && (backToKw cpos (keywordEach [] X.env)).all (fun x => x.1.isSome)
      && decide ((e :: es).length + ([] : List Keyword).length + (if ([] : List Keyword).isEmpty then 0 else 1) < 30)) = true := by rfl)
    (hline : (apos.endLine == cpos.line) = true := by rfl) (hs : starEach (e :: es) X.env = (false, eval e X.env) :: starEach es X.env := by rfl) (hplain : (backTo cpos (starEach es X.env)).any (·.1) = false := by rfl) :
    PE X (.Call (.Attribute o name apos) (e :: es) [] cpos) (tBM X.K T r to t) := by
  intro pins s σ H Q I h
  refine wpAny_Call_method_late hbase hfew hline rfl (thn (ho pins s σ H _ I h) fun v s1 ⟨x, H1, I1, r1, ty, q1⟩ => ?_)
  obtain ⟨h1, h2⟩ := tyV_is I1 r1 ty
  refine ⟨T, id, pa, slot, hty, h1, h2, ?_⟩
  have hA := ha cpos pins s1 σ H1 _ I1 q1
  rw [hs] at hA ⊢
  refine Calls.callWith_builtin (by show (false || (backTo cpos (starEach es X.env)).any (·.1)) = false; rw [hplain] <;> rfl) (Calls.evalArgs_plain ?_)
  exact thn hA fun us s2 ⟨vs, H2, I2, r2, q2⟩ => hm pins s2 σ H2 x vs v us Q I2 r1 r2 q2
/- xs.append(e), list.index on a module's tuple .. are MtR facts of 06m -/
end
end L2
namespace L2
open PySem PySem.Spec PyProof.Rows
def MtM (X : Cx) (id : String) (r : V → List V → Hp → VK → Prop) : Prop :=
  ∀ (pins : List (Addr × Obj)) (s : Shared) (σ : St) (H : Hp) (x : V) (xs : List V) (v : Value) (us : List Value) (Q : VK), Inv X pins σ H s → RelV x v → Vals xs us → r x xs H Q →
    wpAny (model X.prog X.w) X.A (call (.builtin id) (v :: us)) (EP X pins σ Q) X.xe s
theorem Vals.one : ∀ {x : V} {us : List Value}, Vals [x] us → ∃ u, us = [u] ∧ RelV x u
  | _, _, .cons r .nil => ⟨_, rfl, r⟩
theorem Vals.two : ∀ {x y : V} {us : List Value}, Vals [x, y] us → ∃ u v, us = [u, v] ∧ RelV x u ∧ RelV y v
  | _, _, _, .cons r (.cons q .nil) => ⟨_, _, rfl, r, q⟩
theorem Vals.zero : ∀ {us : List Value}, Vals [] us → us = []
  | _, .nil => rfl
theorem Vals.reverse {xs : List V} {us : List Value} (h : Vals xs us) : Vals xs.reverse us.reverse := by
  induction h with
  | nil => exact .nil
  | cons r t ih => rw [List.reverse_cons, List.reverse_cons]; exact Vals.append ih (.cons r .nil)
section
variable {X : Cx} {pins : List (Addr × Obj)} {σ : St} {H : Hp} {s : Shared} {l b : Addr} {xs ys zs : List V}
theorem Inv.lset {its its' : List Value} {n : Nat} {f : Array Value → Array Value} {t' : Nat} (I : Inv X pins σ H s) (hH : H l = some (.lst xs))
    (e : s.heap.get? l = some { cls := .type "list", data := .seq its.toArray n }) (hf : f its.toArray = its'.toArray) (hv : Vals ys its') (hz : ys.length ≤ sizeLine) :
    Inv X pins σ (upd H l (.lst ys)) { s with heap := s.heap.update l (Obj.mapSeq f), toks := t' } := by
  have q := PySem.IsL.update e f
  rw [hf] at q
  refine I.write (x := l) (e := l) (by rw [hH]; exact trivial) (.inl rfl) (fun b' u hb hu => (Heap.get?_update_other s.heap (Obj.mapSeq f) (Ne.symm hb)).trans hu) ⟨_, q⟩ ?_
  exact ⟨hz, its', _, hv, q⟩
theorem Inv.fresh (I : Inv X pins σ H s) : H s.heap.objs.size = none := I.hok.fresh (Nat.le_refl _)
theorem Inv.lstM (I : Inv X pins σ H s) (hH : H l = some (.lst xs)) : xs.length ≤ sizeLine ∧ ∃ (its : List Value) (n : Nat), Vals xs its ∧ xs.length = its.length ∧ s.heap.get? l = some { cls := .type "list", data := .seq its.toArray n } := by
  obtain ⟨z, its, n, r, e⟩ := I.hok l _ hH
  exact ⟨z, its, n, r, r.length, e⟩
theorem notLongL {n : Nat} (h : n ≤ sizeLine) : Builtin.List.listTooLong n = false := by
  unfold Builtin.List.listTooLong
  exact decide_eq_false (by omega)
end
section
variable {X : Cx}
def rAppend : V → List V → Hp → VK → Prop := fun x vs H Q => ∃ l xs y, x = .ref l ∧ vs = [y] ∧ H l = some (.lst xs) ∧ xs.length < sizeLine ∧ Q .non (upd H l (.lst (xs ++ [y])))
theorem mt_append : MtM X "list.append" rAppend := by
  intro pins s σ H x vs v us Q I rx rv h
  obtain ⟨l, xs, y, rfl, rfl, hH, hz, q⟩ := h
  cases rx
  obtain ⟨u, rfl, ru⟩ := rv.one
  obtain ⟨z, its, n, r, hl, e⟩ := I.lstM hH
  refine call_meets F.slot_list_append ⟨_, e, rfl⟩ F.entry_list_append (F.args_list_append_2 _ _) (PySem.list_append l its.toArray n u (by rw [List.size_toArray]; omega)) ⟨e, ?_⟩
  refine ⟨.non, _, I.lset (its' := its ++ [u]) hH e (by simp) (r.append (.cons ru .nil)) ?_, rfl, q⟩
  rw [List.length_append, List.length_singleton]
  omega
def rExtend : V → List V → Hp → VK → Prop := fun x vs H Q => ∃ l b xs zs, x = .ref l ∧ vs = [.ref b] ∧ H l = some (.lst xs) ∧ H b = some (.lst zs) ∧ xs.length + zs.length ≤ sizeLine ∧ Q .non (upd H l (.lst (xs ++ zs)))
theorem mt_extend : MtM X "list.extend" rExtend := by
  intro pins s σ H x vs v us Q I rx rv h
  obtain ⟨l, b, xs, zs, rfl, rfl, hH, hB, hz, q⟩ := h
  cases rx
  obtain ⟨u, rfl, ru⟩ := rv.one
  cases ru
  obtain ⟨z, its, n, r, hl, e⟩ := I.lstM hH
  obtain ⟨z2, its2, n2, r2, hl2, e2⟩ := I.lstM hB
  have hsz : its.toArray.size + its2.toArray.size ≤ sizeLine := by rw [List.size_toArray, List.size_toArray]; omega
  have hlong : ¬ (!its.toArray.isEmpty && Builtin.List.listTooLong (its.toArray.size + its2.toArray.size)) = true := by
    rw [notLongL hsz, Bool.and_false]
    exact Bool.false_ne_true
  refine call_meets F.slot_list_extend ⟨_, e, rfl⟩ F.entry_list_extend (F.args_list_extend_2 _ _)
    (AutoSeq1.list_extend_list_list_0 l its.toArray n b its2.toArray n2 hlong (by rw [List.size_toArray]; omega) (by omega)) ⟨e, e2, ?_⟩
  refine ⟨.non, _, I.lset (its' := its ++ its2) hH e (by simp) (r.append r2) ?_, rfl, q⟩
  rw [List.length_append]
  omega
end
section
variable {prog : Program} {w : World} {A : Around} {E : Value → Shared → Prop} {s : Shared}
end
section
variable {X : Cx}
end
end L2
namespace Att
open PySem PySem.W PySem.Calls PyProof.Rows
theorem ints_of_wellAll {P : Params} {h : Heap} : ∀ (ns : List Int) (vs : List Value), WellAll P h vs (ns.map WData.int) → IntsAre vs ns := by
  intro ns
  induction ns with
  | nil =>
    intro vs w
    rw [List.map_nil] at w
    cases w
    exact .nil
  | cons n ns ih =>
    intro vs w
    rw [List.map_cons] at w
    cases w with
    | cons a b =>
      cases a
      exact .cons _ _ (ih _ b)
theorem script_of {l : OpenLaw} {n : Nat} (hn : l.most = some n) {P : Params} {h : Heap} {args : List WData} {vals : List Value}
    (hpre : l.row.toRowW.claim.pre args = true) (hwl : WellAll P h vals args) :
    ∃ a vs ns, vals = [Value.ref a] ∧ args = [WData.list (ns.map WData.int)] ∧ h.get? a = some { cls := .type "list", data := .seq vs.toArray } ∧ IntsAre vs ns ∧ ns.length ≤ n := by
  have hsh : WShape.hasAll [] args [.list .int] = true := (pre_splitW hpre).1
  have hc : l.pre.holds [] { args := args } = true := (pre_splitW hpre).2
  obtain ⟨d, r, rfl, h1, h2⟩ := hasAllW_cons hsh
  obtain rfl := hasAllW_nil h2
  obtain ⟨xs, rfl, h3⟩ := hasW_list h1
  obtain ⟨ns, rfl⟩ := items_int h3
  have hlen : ns.length ≤ n := by
    unfold OpenLaw.pre at hc
    have h4 : (WTm.not (.lt (.lit (.int (n : Int))) (.len (.arg 0)))).holds [] { args := [.list (ns.map .int)] } = true := by
      have h4 := (holds_andW hc).1
      rw [hn] at h4
      exact h4
    have h5 := condW_of h4 (w_not (w_lt w_lit (w_len_list (w_arg rfl))))
    rw [List.length_map] at h5
    refine Nat.le_of_not_lt fun q => ?_
    have q' : (n : Int) < ((ns.length : Nat) : Int) := by omega
    first
      | (rw [decide_eq_true q'] at h5; exact absurd h5 (by decide))
      | (simp at h5; omega)
  cases hwl with
  | cons w1 w2 =>
    cases w2
    cases w1 with
    | list ho hall => exact ⟨_, _, ns, rfl, rfl, ho, ints_of_wellAll ns _ hall, hlen⟩
theorem post_true (l : OpenLaw) (args : List WData) : l.row.toRowW.claim.post args (.bool true) args = true :=
  postW_of (r := l.row.toRowW) (X := (true == true))
    (show WShape.has [] (.bool true) .bool = true by first | rfl | decide | simp [WShape.has, WShape.arms, WShape.armsAll])
    (show (WTm.eq .res (.lit (.bool true))).value [] { args := args, res := some (.bool true), after := args } = some (.bool (true == true)) from w_eq_bool (w_res rfl) w_lit) rfl
theorem attach_call {l : OpenLaw} {n : Nat} {q : Program} {loose : List Str} {XP : (Str → Option Value) → Heap → Prop} {YP : World → Heap → Prop} {d : DefRec}
    (hn : l.most = some n) (hdf : d.params.defaults = [])
    (call : ∀ (w : World) (s₀ s₁ : Shared) (mg mb : Str → Option Value) (fa : Addr) (o : Obj) (pm cd doc : Value) (a : Addr) (vs : List Value) (ns : List Int),
      Ground q loose [] XP w s₀ mg mb s₁.heap → YP w s₁.heap →
      s₁.heap.get? fa = some o → o.data = .func (docDef d.name d.params d.body d.scope pm cd doc) → s₁.heap.CodeRec cd d.name → mg d.name = some (.ref fa) →
      s₁.heap.get? a = some { cls := .type "list", data := .seq vs.toArray } → IntsAre vs ns → ns.length ≤ n → s₁.gens = #[] →
      codeAny (model l.prog w) callerA (.call (.ref fa) ⟨[.ref a], []⟩) (fun r s' => r = .ok (.ret (.bool true)) ∧ OldK s₁.heap s'.heap ∧ s'.os = s₁.os ∧ AllBare s'.gens) s₁) :
    WalkO q loose XP YP l.row.toRowW d [] (fun f vs => PySem.call f vs) := by
  intro w s₀ s₁ mg mb G Y fa o pm cd doc dV kV ho hd hcd hD hmg hg args vals as hpre hlay hrd hwl hlo
  obtain rfl : dV = .none := Dflts.none hD hdf
  obtain rfl : kV = .none := Dflts.noKw hD
  obtain ⟨a, vs, ns, rfl, rfl, hobj, hints, hlen⟩ := script_of hn hpre hwl
  refine enter_call (codeAny_mono (call w s₀ s₁ mg mb fa o pm cd doc a vs ns G Y ho (fd_plain hd) hcd hmg hobj hints hlen hg) fun r s' hq => ?_)
  obtain ⟨rfl, h2, h3, h4⟩ := hq
  exact ⟨.inl ⟨.bool true, .bool true, [], rfl, fun _ => rfl, .bool true, post_true l _, fun _ => ⟨List.Pairwise.nil, fun _ hm => (nomatch hm)⟩⟩, h2, h3, h4⟩
section
variable {prog : Program} {w : World} {A : Around} {E : Value → Shared → Prop} {s : Shared} {K : Frag}
def ledger (h : Heap) (L d : Addr) : List (Addr × Obj) := (List.range h.objs.size).filterMap fun a => if a = L ∨ a = d then none else (h.get? a).map fun o => (a, o)
end
end Att
namespace L2
open PySem PySem.Spec PyProof.Rows
theorem vals_ints : ∀ {vs : List Value} {ns : List Int}, IntsAre vs ns → Vals (ns.map V.int) vs
  | _, _, .nil => .nil
  | _, _, .cons n t h => .cons ⟨t, rfl⟩ (vals_ints h)
def Only (H : Hp) : Prop := ∀ b, H b = none ∨ ∃ o xs, H b = some (.frz o (.lst xs))
theorem law_call {P : Program} {w : World} {K : PySem.W.Frag} {mg mb : Str → Option Value} {CX : CXT} {k : Nat} {fa a : Addr} {fd : FuncData} {x : Str} {sp : Sp} {s₁ : Shared} {vs : List Value} {ns : List Int}
    (KX : K.In s₁.heap) (hns : s₁.heap.Ns mainGlobals mg) (hb : s₁.heap.Ns builtinsNs mb) (hbb : ∀ x : Str, x ≠ "__name__" → mb x = bootBuiltins x) (hlim : s₁.heap.NoLimit) (hg : s₁.gens = #[])
    (ha : s₁.heap.get? a = some { cls := .type "list", data := .seq vs.toArray }) (hi : IntsAre vs ns) (hl : ns.length ≤ sizeLine) (hr : Room k callerA)
    (F : ∀ base : Heap, K.In base → base.Ns mainGlobals mg → FnOk P w K mg base CX k fa fd [x] sp) (hbind : ∀ (s : Shared) (u : Value), BindsTo s fd ⟨[u], []⟩ [(x, u)])
    (hsp : ∀ H : Hp, Only H → SqL K H a (ns.map V.int) → sp [.ref a] H (fun v _ => v = .bl true) fun _ _ _ => False)
    (hCX : ∀ H e s', CX [] H s₁ (fun _ _ _ => False) e s' → False) :
    codeAny (model P w) callerA (.call (.ref fa) ⟨[.ref a], []⟩) (fun r s' => r = .ok (.ret (.bool true)) ∧ OldK s₁.heap s'.heap ∧ s'.os = s₁.os ∧ AllBare s'.gens) s₁ := by
  have rv := vals_ints hi
  have lenV := hi.length
  -- from an abstract heap in which nothing but the script may be tracked
  have core : ∀ H : Hp, Only H → SqL K H a (ns.map V.int) → HOk P w H s₁.heap → (∀ b, H b ≠ none → b = a) → (H a ≠ none → K.lookup a = none) →
      codeAny (model P w) callerA (.call (.ref fa) ⟨[.ref a], []⟩) (fun r s' => r = .ok (.ret (.bool true)) ∧ OldK s₁.heap s'.heap ∧ s'.os = s₁.os ∧ AllBare s'.gens) s₁ := by
    intro H hO hS hok hA hK
    have base_of : ∀ {b : Addr} {o : Obj}, s₁.heap.get? b = some o → H b = none → (hidT s₁.heap H).get? b = some o := fun e n => hidT_get e n
    have noA : ∀ {b : Addr} {o : Obj} {es : Array DictEntry} {ep : Nat}, s₁.heap.get? b = some o → o.data = .dict es ep → H b = none := fun {b o es ep} e d => by
      cases q : H b with
      | none => rfl
      | some u =>
        have e' : b = a := hA b (by rw [q]; simp)
        subst e'
        rw [ha] at e; cases e
        have d' : Data.seq vs.toArray _ = Data.dict es ep := d
        cases d'
    have nsK : ∀ {b : Addr} {m : Str → Option Value}, s₁.heap.Ns b m → (hidT s₁.heap H).Ns b m := fun {b m} ⟨o, es, ep, e, d, r⟩ => ⟨o, es, ep, base_of e (noA e d), d, r⟩
    have hKb : K.In (hidT s₁.heap H) := fun b o e => base_of (KX b o e) (by
      cases q : H b with
      | none => rfl
      | some u =>
        have e' : b = a := hA b (by rw [q]; simp)
        subst e'
        rw [hK (by rw [q]; simp)] at e; cases e)
    have hM : Mod K mg (hidT s₁.heap H) := ⟨hKb, nsK hns, ⟨mb, nsK hb, hbb⟩, let ⟨mc, h1, h2⟩ := hlim; ⟨mc, nsK h1, h2⟩⟩
    have e0 : Env0 P w K mg (hidT s₁.heap H) callerA [] s₁ H := ⟨rfl, hM, fun b o e => of_hidT e, Nat.le_of_eq (hidT_size _ _), trivial, fun b hb => absurd (show b ∈ ([] : List Addr) from hb) (by simp), hok, .of_eq hg⟩
    refine codeAny_mono ((F _ hKb (nsK hns)).run callerA [] s₁ H ⟨[.ref a], []⟩ [.ref a] [.ref a] _ _ hr e0 (hbind s₁ (.ref a)) (.cons rfl .nil) (hsp H hO hS)) fun r s' h => ?_
    cases r with
    | error e => exact (hCX H e s' h).elim
    | ok fl =>
      cases fl with
      | next => exact False.elim h
      | brk => exact False.elim h
      | cont => exact False.elim h
      | ret u =>
        obtain ⟨v, H', os, bare, un, hok', r', q⟩ := h
        have q' : v = .bl true := q
        subst q'
        obtain rfl : u = Value.bool true := r'
        refine ⟨rfl, OldK.of_keep fun b o e => ?_, os, bare⟩
        cases q : H b with
        | none => exact un.keep b o e q (by intro z; exact absurd (show b ∈ ([] : List Addr) from z) (by simp)) (by simp)
        | some u =>
          rcases hO b with z | ⟨ob, xs, z⟩
          · rw [q] at z; cases z
          · have z2 := un.frzs b ob _ z
            obtain ⟨e1, _⟩ := hok b _ z
            obtain ⟨e2, _⟩ := hok' b _ z2
            rw [e] at e1; cases e1
            exact e2
  cases hk : K.lookup a with
  | some o =>
    -- the script is one of the module's own objects
    have e := KX a o hk
    rw [ha] at e
    cases e
    refine core (fun _ => none) (fun _ => .inl rfl) (.inr ⟨_, vs.toArray, _, hk, rfl, rfl, rfl, by rw [List.size_toArray, lenV]; exact hl, by simpa using rv⟩) (fun b u z => by have z' : (none : Option HO) = some u := z; cases z') (fun b z => absurd rfl z) fun z => absurd rfl z
  | none =>
    refine core (fun b => if b = a then some (.frz { cls := .type "list", data := .seq vs.toArray } (.lst (ns.map V.int))) else none) (fun b => ?_) (.inl (.inr ⟨{ cls := .type "list", data := .seq vs.toArray }, if_pos rfl⟩)) (fun b u z => ?_) (fun b z => ?_) fun _ => hk
    · by_cases hb : b = a
      · exact .inr ⟨_, _, if_pos hb⟩
      · exact .inl (if_neg hb)
    · by_cases hb : b = a
      · have z' := (if_pos hb).symm.trans z
        cases z'
        subst hb
        exact ⟨ha, by rw [List.length_map]; exact hl, vs, _, rv, ha⟩
      · have z' := (if_neg hb).symm.trans z
        cases z'
    · by_cases hb : b = a
      · exact hb
      · exact absurd (if_neg hb) z
end L2
namespace L2
open PySem PySem.Spec PyProof.Rows
abbrev KOf {K : PySem.W.Frag} {h : Heap} (_ : K.In h) : PySem.W.Frag := K
theorem walk_of {l : PySem.W.OpenLaw} {n k : Nat} {q : Program} {loose : List Str} {XP : (Str → Option Value) → Heap → Prop} {YP : World → Heap → Prop} {d : DefRec} {K : Params → PySem.W.Frag} {CX : World → CXT} {sp : World → Sp} {x : Str}
    (hn : l.most = some n) (hn2 : n ≤ sizeLine) (hdf : d.params.defaults = []) (hr : Room k callerA)
    (hY : ∀ (w : World) (h : Heap), YP w h → (K w.params).In h)
    (F : ∀ (w : World) (mg : Str → Option Value) (fa : Addr) (h : Heap), (K w.params).In h → h.Ns mainGlobals mg → mg d.name = some (.ref fa) →
      ∃ fd : FuncData, (∀ (s : Shared) (u : Value), BindsTo s fd ⟨[u], []⟩ [(x, u)]) ∧
        ∀ base : Heap, (K w.params).In base → base.Ns mainGlobals mg → FnOk l.prog w (K w.params) mg base (CX w) k fa fd [x] (sp w))
    (hsp : ∀ (w : World) (H : Hp) (a : Addr) (ns : List Int), ns.length ≤ n → Only H → SqL (K w.params) H a (ns.map V.int) → sp w [.ref a] H (fun v _ => v = .bl true) fun _ _ _ => False)
    (hCX : ∀ (w : World) (H : Hp) (s : Shared) (e : Value) (s' : Shared), CX w [] H s (fun _ _ _ => False) e s' → False) :
    PySem.W.WalkO q loose XP YP l.row.toRowW d [] (fun f vs => PySem.call f vs) := by
  refine Att.attach_call hn hdf fun w s₀ s₁ mg mb fa o pm cd doc a vs ns G Y ho hd hcd hmg hobj hints hlen hg => ?_
  have KX := hY w _ Y
  obtain ⟨fd, hb, hF⟩ := F w mg fa _ KX G.T.g hmg
  exact law_call KX G.T.g G.T.b G.T.builtins G.T.nolimit hg hobj hints (Nat.le_trans hlen hn2) hr hF hb (fun H hO hS => hsp w H a ns hlen hO hS) fun H e s' => hCX w H s₁ e s'
end L2
/- THE LAST THEOREM (shape; LID, My.* are yours):
   My.Adr: a structure of the addresses that your layer names (classes, functions); My.Txt K t: a structure (Prop) of the equations over K;
   My.txt_mk : {K} {implicit addresses ..} (e1 : nsIn K mainGlobals "law" = some (some (.ref f))) (e2 : K.lookup f = some ⟨oc, od, .func (fnOf "law" "law" params body scope dV kV doc pm an cdv ct), sl⟩) (e3 : codeIn K cdv "law" = true) .. : ∃ t, My.Txt K t
set_option maxRecDepth 100000 in
set_option maxHeartbeats 0 in
theorem PySem.Challenge.cw_LID_holds : PySem.Challenge.rw_LID.Holds := by
  w_on; o_law; k_head; (case hw => w_witness2)
  k_fill
  refine L2.walk_of (l := PySem.Challenge.rw_LID) (n := 63) (k := 40) (x := "script") (CX := fun w => ..) (sp := fun _ => My.sp_law) rfl (by decide) rfl ⟨rfl, by decide, by decide⟩ (fun w h Y => PySem.W.kIn_of Y) ?F ?S ?C
  case F =>
    intro w mg fa h KX G hmg
    have T : ∃ t, My.Txt (L2.KOf KX) t := by
      dsimp only [L2.KOf]                          -- K must stand as «<heap const> w.params» for k_is
      refine' My.txt_mk ?e1 ?e2 ?e3 ..
      (case e1 => PySem.W.k_is)                    -- in the order: a name -> its address -> its object -> its parts
      (case e2 => PySem.W.k_is)
      ..
    obtain ⟨t, T⟩ := T
    have e0 := hmg.symm.trans (PySem.W.mg_of KX G T.law)
    cases e0                                       -- fa is the law's own address
    exact ⟨_, fun s u => .of_eq rfl, fun base kb nb => My.law_fn T kb nb⟩     -- if «.of_eq rfl» comes too early: refine' ⟨_, ?b, fun base kb nb => My.law_fn T kb nb⟩; exact fun s u => .of_eq rfl
  case S => exact fun w H a ns hl hO hS => ..
  case C => exact ..
(the tactic k_is has no namespace: write k_is) -/
namespace L2
open PySem PySem.Spec PyProof.Rows
def defArgs (s : Stmt) : Arguments := match s with
  | .FunctionDef _ a _ _ _ _ _ _ _ _ => a
  | _ => { posonlyargs := [], args := [], vararg := none, kwonlyargs := [], kw_defaults := [], kwarg := none, defaults := [] }
def defBody (s : Stmt) : List Stmt := match s with
  | .FunctionDef _ _ b _ _ _ _ _ _ _ => b
  | _ => []
def defScope (s : Stmt) : Scope := match s with
  | .FunctionDef _ _ _ _ _ _ sc _ _ _ => sc
  | _ => { kind := .function, names := [], isGenerator := false, isCoroutine := false }
abbrev CX0 : CXT := fun _ _ _ _ _ _ => False
abbrev E0 : XK := fun _ _ _ => False
theorem pass0 {X : Cx} : Passes CX0 X E0 := fun _ _ _ _ _ _ _ h => h.elim
structure Fun (K : PySem.W.Frag) (x qual : Str) (st : Stmt) (f : Addr) (fd : FuncData) : Prop where
  ex : ∃ (oc : Value) (od : Option Addr) (kV doc pm : Value) (an : Option Addr) (cdv ct : Value) (osl : Array (Option Value)),
    fd = PySem.W.fnOf x qual (defArgs st) (defBody st) (defScope st) .none kV doc pm an cdv ct ∧ K.lookup f = some ⟨oc, od, .func fd, osl⟩ ∧ PySem.W.codeIn K cdv qual = true
  kp : PySem.W.keepIn K (.ref f) = true
section
variable {P : Program} {w : World} {K : PySem.W.Frag} {mg : Str → Option Value} {base : Heap}
theorem Fun.ok {x qual : Str} {st : Stmt} {f : Addr} {fd : FuncData} {N ps : List Str} {k : Nat} {sp : Sp} (F : Fun K x qual st f fd) (S : FnScope N ps (defScope st)) (len : ∀ vs H Q E, sp vs H Q E → vs.length = ps.length)
    (hbody : ∀ (cdv : Value) (A : Around) (outer : List Env) (s : Shared) (H : Hp) (vs : List V) (Q : VK) (E : XK), Room k (A.deeper (envOfC qual (defScope st) s.heap.objs.size f cdv)) → sp vs H Q E →
      ∃ t, PSs (cxOf CX0 P w K mg base N qual (defScope st) f cdv A outer s H E).nox (defBody st) t ∧ t { nx := fun _ H' => Q .non H', rt := Q } (start N vs) H) : FnOk P w K mg base CX0 (k + 1) f fd ps sp := by
  obtain ⟨oc, od, kV, doc, pm, an, cdv, ct, osl, rfl, lk, hcd⟩ := F.ex
  refine fn_of lk hcd S len fun A outer s H vs Q E hr hsp => ?_
  obtain ⟨t, h, q⟩ := hbody cdv A outer s H vs Q E hr hsp
  exact ⟨t, h.nox, q⟩
theorem Fun.binds {x qual : Str} {st : Stmt} {f : Addr} {fd : FuncData} {ps : List Str} (F : Fun K x qual st f fd)
    (h : ∀ (kV doc pm : Value) (an : Option Addr) (cdv ct : Value) (us : List Value), us.length = ps.length → bindArgs (PySem.W.fnOf x qual (defArgs st) (defBody st) (defScope st) .none kV doc pm an cdv ct) ⟨us, []⟩ = pure (ps.zip us)) : Binds K fd ps [] := by
  obtain ⟨oc, od, kV, doc, pm, an, cdv, ct, osl, rfl, lk, hcd⟩ := F.ex
  exact .all (h kV doc pm an cdv ct)
theorem fun_mk {x qual : Str} {st : Stmt} {f : Addr} {oc : Value} {od an : Option Addr} {osl : Array (Option Value)} {kV doc pm cdv ct : Value} (l : K.lookup f = some ⟨oc, od, .func (PySem.W.fnOf x qual (defArgs st) (defBody st) (defScope st) .none kV doc pm an cdv ct), osl⟩)
    (c : PySem.W.codeIn K cdv qual = true) (k : PySem.W.keepIn K (.ref f) = true) : Fun K x qual st f (PySem.W.fnOf x qual (defArgs st) (defBody st) (defScope st) .none kV doc pm an cdv ct) := ⟨⟨oc, od, kV, doc, pm, an, cdv, ct, osl, rfl, l, c⟩, k⟩
end
section
variable {X : Cx}
theorem pv (i : Nat) {x : Str} {pos : Pos} (hN : X.N[i]? = some x := by rfl) (hv : Vis X.env.scope x := by first | exact Or.inl rfl | exact Or.inr (Or.inl rfl) | exact Or.inr (Or.inr rfl)) (hd : (x == ("__debug__" : Str)) = false := by decide)
    (hcd : (x == ("__classdict__" : Str)) = false := by decide) : PE X (.Name x pos) (tVar i) := pe_var hN hv hd hcd
end
def Same (H H' : Hp) : Prop := ∀ b o, H b = some o → H' b = some o
theorem Same.refl (H : Hp) : Same H H := fun _ _ h => h
theorem Same.trans {H H1 H2 : Hp} (a : Same H H1) (b : Same H1 H2) : Same H H2 := fun c o h => b c o (a c o h)
theorem Same.free {H H' : Hp} (e : Same H H') {l : Addr} (h : H' l = Option.none) : H l = Option.none := by
  cases q : H l with
  | none => rfl
  | some o =>
    rw [e l o q] at h
    cases h
theorem Same.seq {K : PySem.W.Frag} {H H' : Hp} {a : Addr} {xs : List V} (e : Same H H') (h : SqL K H a xs) : SqL K H' a xs := by
  rcases h with (h | ⟨o, h⟩) | h
  · exact .inl (.inl (e _ _ h))
  · exact .inl (.inr ⟨o, e _ _ h⟩)
  · exact .inr h
end L2
end
section
set_option Elab.async false
set_option linter.all false
set_option maxRecDepth 100000
namespace L2
open PySem PySem.Spec PyProof.Rows
def Bd (n : Nat) (x : Int) : Prop := x.natAbs < 2 ^ n
theorem Bd.mono {m n : Nat} {x : Int} (h : Bd m x) (k : m ≤ n) : Bd n x := Nat.lt_of_lt_of_le h (Nat.pow_le_pow_right (by decide) k)
theorem Bd.add {n : Nat} {x y : Int} (h : Bd n x) (k : Bd n y) : Bd (n + 1) (x + y) := by
  unfold Bd at *
  have := Int.natAbs_add_le x y
  rw [Nat.pow_succ]
  omega
theorem Bd.neg {n : Nat} {x : Int} (h : Bd n x) : Bd n (-x) := by
  unfold Bd at *
  rw [Int.natAbs_neg]; exact h
theorem Bd.sub {n : Nat} {x y : Int} (h : Bd n x) (k : Bd n y) : Bd (n + 1) (x - y) := by
  rw [Int.sub_eq_add_neg]; exact h.add k.neg
theorem Bd.bits {n : Nat} {x : Int} (h : Bd n x) : Builtin.Int.intBits x ≤ n + 1 := by
  unfold Builtin.Int.intBits
  split
  · exact Nat.zero_le _
  · have : x.natAbs.log2 ≤ n := by
      rcases Nat.eq_zero_or_pos x.natAbs with h0 | hp
      · rw [h0]; simp
      · exact Nat.le_of_lt ((Nat.log2_lt (Nat.ne_of_gt hp)).mpr h)
    omega
theorem Bd.log {n : Nat} {x : Int} (h : Bd n x) : x.natAbs.log2 ≤ n := by
  rcases Nat.eq_zero_or_pos x.natAbs with h0 | hp
  · rw [h0]; simp
  · exact Nat.le_of_lt ((Nat.log2_lt (Nat.ne_of_gt hp)).mpr h)
theorem Bd.of {n : Nat} {x m : Int} (h1 : -m ≤ x) (h2 : x ≤ m) (hm : m.natAbs < 2 ^ n) : Bd n x := by
  unfold Bd
  omega
section
variable {X : Cx}
def CMulB (i j : Int) : Prop := CMul i j ∨ (Bd 8000 i ∧ Bd 8000 j)
theorem CMulB.ok {i j : Int} (h : CMulB i j) : IntMulOk i j := by
  rcases h with h | ⟨h, k⟩
  · exact h.ok
  · have a := h.bits
    have b := k.bits
    have e : (2 : Nat) ^ 20 = 1048576 := by decide
    exact IntMulOk.of_bits (by omega) (by omega)
theorem op_mulB : OpR X (binaryOp .Mult) (rI CMulB fun i j => .int (i * j)) := opI fun _ _ _ _ _ _ _ hc q => mul_int q hc.ok
def CDivB (i j : Int) : Prop := 0 < j ∧ Bd 8000 j
theorem op_fdivB : OpR X (binaryOp .FloorDiv) (rI CDivB fun i j => .int (i / j)) := opI fun i j _ _ _ _ _ hc q => by
  have := hc.2.log
  rw [← Int.fdiv_eq_ediv_of_nonneg _ (Int.le_of_lt hc.1)] at q
  exact floordiv_int (by have := hc.1; omega) q (.inl (PyProof.noPylong_of_log2 (by omega)))
def CDivM (i j : Int) : Prop := j ≠ 0 ∧ Bd 8000 j
end
mutual
def Is (H : Hp) : PyData → V → Prop
  | .none, v => v = .non
  | .bool b, v => v = .bl b
  | .int i, v => v = .int i
  | .str x, v => v = .str x
  | .tuple ds, v => ∃ a vs, v = .ref a ∧ H a = some (.tup vs) ∧ IsL H ds vs
  | .list ds, v => ∃ a vs, v = .ref a ∧ H a = some (.lst vs) ∧ IsL H ds vs
  | .dict _, _ => False
def IsL (H : Hp) : List PyData → List V → Prop
  | [], vs => vs = []
  | d :: ds, vs => ∃ x xs, vs = x :: xs ∧ Is H d x ∧ IsL H ds xs
end
mutual
def fixD : PyData → Bool
  | .none => true
  | .bool _ => true
  | .int _ => true
  | .str _ => true
  | .tuple ds => fixDs ds
  | .list _ => false
  | .dict _ => false
def fixDs : List PyData → Bool
  | [] => true
  | d :: ds => fixD d && fixDs ds
end
def TSame (H H' : Hp) : Prop := ∀ b xs, H b = some (.tup xs) → H' b = some (.tup xs)
theorem TSame.refl (H : Hp) : TSame H H := fun _ _ h => h
theorem TSame.trans {H H1 H2 : Hp} (a : TSame H H1) (b : TSame H1 H2) : TSame H H2 := fun c o h => b c o (a c o h)
theorem Same.t {H H' : Hp} (h : Same H H') : TSame H H' := fun b xs e => h b _ e
mutual
theorem Is.mono {H H' : Hp} (s : Same H H') : ∀ {d : PyData} {v : V}, Is H d v → Is H' d v
  | .none, _, h => h
  | .bool _, _, h => h
  | .int _, _, h => h
  | .str _, _, h => h
  | .tuple _, _, ⟨a, vs, e, h, l⟩ => ⟨a, vs, e, s _ _ h, IsL.mono s l⟩
  | .list _, _, ⟨a, vs, e, h, l⟩ => ⟨a, vs, e, s _ _ h, IsL.mono s l⟩
  | .dict _, _, h => h
theorem IsL.mono {H H' : Hp} (s : Same H H') : ∀ {ds : List PyData} {vs : List V}, IsL H ds vs → IsL H' ds vs
  | [], _, h => h
  | _ :: _, _, ⟨x, xs, e, h, l⟩ => ⟨x, xs, e, Is.mono s h, IsL.mono s l⟩
end
mutual
theorem Is.monoT {H H' : Hp} (s : TSame H H') : ∀ {d : PyData} {v : V}, fixD d = true → Is H d v → Is H' d v
  | .none, _, _, h => h
  | .bool _, _, _, h => h
  | .int _, _, _, h => h
  | .str _, _, _, h => h
  | .tuple _, _, f, ⟨a, vs, e, h, l⟩ => ⟨a, vs, e, s _ _ h, IsL.monoT s f l⟩
  | .list _, _, f, _ => absurd f Bool.false_ne_true
  | .dict _, _, _, h => h
theorem IsL.monoT {H H' : Hp} (s : TSame H H') : ∀ {ds : List PyData} {vs : List V}, fixDs ds = true → IsL H ds vs → IsL H' ds vs
  | [], _, _, h => h
  | d :: ds, _, f, ⟨x, xs, e, h, l⟩ => ⟨x, xs, e, Is.monoT s (by rw [fixDs, Bool.and_eq_true] at f; exact f.1) h, IsL.monoT s (by rw [fixDs, Bool.and_eq_true] at f; exact f.2) l⟩
end
theorem IsL.length {H : Hp} : ∀ {ds : List PyData} {vs : List V}, IsL H ds vs → vs.length = ds.length
  | [], _, h => by rw [show _ = [] from h]; rfl
  | _ :: _, _, ⟨x, xs, e, _, l⟩ => by rw [e, List.length_cons, List.length_cons, IsL.length l]
section
variable {X : Cx} {pins : List (Addr × Obj)} {σ : St} {H : Hp} {s : Shared}
mutual
theorem Inv.reads (I : Inv X pins σ H s) : ∀ {d : PyData} {v : V} {u : Value}, Is H d v → RelV v u → ∃ as, Reads s.heap u d as
  | .none, _, _, h, r => by subst h; cases r; exact ⟨_, .none⟩
  | .bool _, _, _, h, r => by subst h; cases r; exact ⟨_, .bool _⟩
  | .int _, _, _, h, r => by subst h; obtain ⟨t, rfl⟩ := r; exact ⟨_, .int _ _⟩
  | .str _, _, _, h, r => by subst h; obtain ⟨t, rfl⟩ := r; exact ⟨_, .str _ _⟩
  | .tuple ds, _, _, ⟨a, vs, e, h, l⟩, r => by
    subst e; cases r
    obtain ⟨_, its, rr, o, e, c, n, q⟩ := I.hok a _ h
    obtain ⟨as, z⟩ := Inv.readsL I l rr
    exact ⟨_, .tuple e c q z⟩
  | .list ds, _, _, ⟨a, vs, e, h, l⟩, r => by
    subst e; cases r
    obtain ⟨_, its, n, rr, e⟩ := I.hok a _ h
    obtain ⟨as, z⟩ := Inv.readsL I l rr
    exact ⟨_, .list e rfl rfl z⟩
  | .dict _, _, _, h, _ => h.elim
theorem Inv.readsL (I : Inv X pins σ H s) : ∀ {ds : List PyData} {vs : List V} {us : List Value}, IsL H ds vs → Vals vs us → ∃ as, ReadsAll s.heap us ds as
  | [], _, _, h, r => by subst h; cases r; exact ⟨_, .nil⟩
  | d :: ds, _, _, ⟨x, xs, e, h, l⟩, r => by
    subst e
    cases r with
    | cons r1 r2 =>
      obtain ⟨as, z⟩ := Inv.reads I h r1
      obtain ⟨bs, y⟩ := Inv.readsL I l r2
      exact ⟨_, .cons z y⟩
end
end
def okD (d : PyData) : Bool := SeqAt.shaped d
section
variable {X : Cx}
def rInD (neg : Bool) : R2 := fun x y H Q => ∃ d es, Is H d x ∧ (Is H (.list es) y ∨ Is H (.tuple es) y) ∧ okD d = true ∧ okD (.list es) = true ∧ Q (.bl (if neg then !(es.any fun y => PyData.eqv y d) else es.any fun y => PyData.eqv y d)) H
theorem shaped_list {es : List PyData} (h : okD (.list es) = true) : PyData.canLayAll0 es = true ∧ PyData.depthAll es ≤ 63 := by
  unfold okD SeqAt.shaped at h
  rw [Bool.and_eq_true] at h
  obtain ⟨h1, h2⟩ := h
  have h3 := of_decide_eq_true h2
  simp only [PyData.depth] at h3
  exact ⟨by simpa only [PyData.canLay0] using h1, by omega⟩
theorem shaped_can {d : PyData} (h : okD d = true) : d.canLay0 = true := by
  unfold okD SeqAt.shaped at h
  rw [Bool.and_eq_true] at h
  exact h.1
theorem op_inD (hu : X.A.units + 65 < cLine) : OpR X (compareOp .In) (rInD false) := by
  intro pins s σ H x y v u Q I rx ry h
  obtain ⟨d, es, hd, he, od, oe, q⟩ := h
  obtain ⟨as, ra⟩ := I.reads hd rx
  obtain ⟨c1, c2⟩ := shaped_list oe
  have hm : X.A.units + 1 + min (PyData.depthAll es) d.depth < cLine := by omega
  rcases he with he | he
  · obtain ⟨bs, rb⟩ := I.reads he ry
    exact SeqAt.in_list_reads rb ra c1 (shaped_can od) hm ⟨.bl _, H, I, rfl, q⟩
  · obtain ⟨bs, rb⟩ := I.reads he ry
    exact SeqAt.in_tuple_reads rb ra c1 (shaped_can od) hm ⟨.bl _, H, I, rfl, q⟩
theorem IsL.get {H : Hp} : ∀ {ds : List PyData} {vs : List V} {i : Nat} {d : PyData}, IsL H ds vs → ds[i]? = some d → ∃ v, vs[i]? = some v ∧ Is H d v
  | [], _, _, _, _, e => by simp at e
  | d :: ds, _, 0, _, ⟨x, xs, e, h, l⟩, q => by
    subst e
    simp at q
    subst q
    exact ⟨x, rfl, h⟩
  | d :: ds, _, i + 1, _, ⟨x, xs, e, h, l⟩, q => by
    subst e
    obtain ⟨v, a, b⟩ := IsL.get (i := i) l (by simpa using q)
    exact ⟨v, by simpa using a, b⟩
end
structure Cal (P : Program) (w : World) (K : PySem.W.Frag) (mg : Str → Option Value) (base : Heap) (k : Nat) (x : Str) (ps : List Str) (sp : Sp) : Prop where
  ex : ∃ f fd, FnOk P w K mg base CX0 k f fd ps sp ∧ Binds K fd ps [] ∧ PySem.W.keepIn K (.ref f) = true ∧ mg x = some (.ref f)
theorem Cal.mono {P : Program} {w : World} {K : PySem.W.Frag} {mg : Str → Option Value} {base : Heap} {j k : Nat} {x : Str} {ps : List Str} {sp : Sp} (C : Cal P w K mg base j x ps sp) (h : j ≤ k) : Cal P w K mg base k x ps sp := by
  obtain ⟨f, fd, F, b, kp, m⟩ := C.ex
  exact ⟨f, fd, F.mono h, b, kp, m⟩
theorem Cal.of {P : Program} {w : World} {K : PySem.W.Frag} {mg : Str → Option Value} {base : Heap} {k : Nat} {x : Str} {ps : List Str} {sp : Sp} {f : Addr} {fd : FuncData} {st : Stmt} (F : Fun K x x st f fd) (ok : FnOk P w K mg base CX0 k f fd ps sp) (b : Binds K fd ps []) (m : mg x = some (.ref f)) : Cal P w K mg base k x ps sp := ⟨f, fd, ok, b, F.kp, m⟩
section
variable {X : Cx} {k : Nat} {ps : List Str} {sp : Sp} {x : Str} {p pos : Pos} {e : Expr} {es : List Expr} {t : TA}
theorem pe_callC (C : Cal X.prog X.w X.K X.mg X.base k x ps sp) (hr : Room k X.A) (hg : Gl X x) (ha : PA X (e :: es) t) (hdb : (x == ("__debug__" : Str)) = false := by decide)
    (he : starEach (e :: es) X.env = (false, eval e X.env) :: starEach es X.env := by rfl) (hpl : (backTo pos (starEach es X.env)).any (·.1) = false := by rfl) :
    PE X (.Call (.Name x p) (e :: es) [] pos) (tCall sp [] E0 t) := by
  obtain ⟨f, fd, F, b, kp, m⟩ := C.ex
  exact pe_call F hr hg m kp b .nil pass0 ha hdb he hpl
end
theorem pe_ty {X : Cx} {x : Str} {T : String} {pos : Pos} (hg : Gl X x) (hm : X.mg x = none) (hv : bootBuiltins x = some (.type T)) (hn : x ≠ "__name__") (hd : (x == ("__debug__" : Str)) = false) : PE X (.Name x pos) (tC (.ty T)) := pe_bltn hg hm hv rfl hn hd
theorem same_new {H : Hp} {p : Addr} (h : H p = none) (o : HO) : Same H (upd H p o) := fun b u q => by rw [upd_ne (ne_of_none q h)]; exact q
def But (r : Addr) (H H' : Hp) : Prop := ∀ b o, b ≠ r → H b = some o → H' b = some o
theorem Same.but {H H' : Hp} (h : Same H H') (r : Addr) : But r H H' := fun b o _ e => h b o e
theorem But.trans {r : Addr} {H H1 H2 : Hp} (a : But r H H1) (b : But r H1 H2) : But r H H2 := fun c o n h => b c o n (a c o n h)
theorem But.upd {H : Hp} {r : Addr} {o : HO} : But r H (L2.upd H r o) := fun b u n e => by rw [upd_ne n]; exact e
theorem But.t {r : Addr} {H H' : Hp} (h : But r H H') {o : HO} (hr : H r = some o) (no : ∀ xs, o ≠ .tup xs) : TSame H H' := fun b xs e => h b _ (fun z => by subst z; rw [hr] at e; exact no xs (Option.some.inj e)) e
def Rest (H : Hp) (r : Addr) : Prop := ∃ v : Int, H r = some (.lst [.int v])
theorem Rest.t {r : Addr} {H H' : Hp} (R : Rest H r) (h : But r H H') : TSame H H' := by
  obtain ⟨v, e⟩ := R
  exact h.t e fun xs z => by cases z
theorem Rest.mono {r : Addr} {H H' : Hp} (R : Rest H r) (h : Same H H') : Rest H' r := by
  obtain ⟨v, e⟩ := R
  exact ⟨v, h _ _ e⟩
theorem kit_same {K : PySem.W.Frag} (T : String) : PySem.W.kitOne K (.type T) (.type T) = some true := by
  unfold PySem.W.kitOne
  rw [if_pos (beq_self_eq_true _)]
theorem kit_ty {K : PySem.W.Frag} {t T : String} {b : Bool} (h1 : (Value.type t == Value.type T) = false) (h2 : PySem.W.kitMeta T = true) (h3 : (PySem.fastBuiltinMro t).map (·.contains (Value.type T)) = some b) : PySem.W.kitOne K (.type t) (.type T) = some b := by
  unfold PySem.W.kitOne PySem.W.kitCls
  rw [h1, if_neg Bool.false_ne_true]
  simp only [h2, if_true]
  exact h3
end L2
end
section
set_option Elab.async false
set_option linter.all false
set_option maxRecDepth 100000
namespace L2
open PySem PySem.Spec PyProof.Rows
theorem clos_go {env : Env} : ∀ (names : List (Str × NameKind)) (cs : List (Str × Addr)), (∀ x, (x, NameKind.free) ∈ names → ∃ c, env.cells.lookup x = some c) →
    (∀ x c, cs.lookup x = some c → env.cells.lookup x = some c) →
    ∃ cl, (forIn names cs fun (x : Str × NameKind) (r : List (Str × Addr)) => match x with
      | (name, kind) => if (kind == NameKind.free) = true then do let c ← cellOf env name; pure (ForInStep.yield ((name, c) :: r)) else pure (ForInStep.yield r) : Sem (List (Str × Addr))) = pure cl ∧
      (∀ x c, cl.lookup x = some c → env.cells.lookup x = some c) ∧ (∀ x, (x, NameKind.free) ∈ names → ∃ c, cl.lookup x = some c) ∧ (∀ x c, cs.lookup x = some c → ∃ c', cl.lookup x = some c')
  | [], cs, _, h2 => ⟨cs, rfl, h2, fun x hx => by simp at hx, fun x c e => ⟨c, e⟩⟩
  | (n, k) :: r, cs, h1, h2 => by
    by_cases hk : k = .free
    · subst hk
      obtain ⟨c, hc⟩ := h1 n List.mem_cons_self
      have hh : ∀ x c', ((n, c) :: cs).lookup x = some c' → env.cells.lookup x = some c' := by
        intro x c' e
        rw [List.lookup_cons] at e
        cases q : x == n with
        | true => rw [q] at e; cases e; rw [eq_of_beq q]; exact hc
        | false => rw [q] at e; exact h2 x c' e
      obtain ⟨cl, e, a, b, d⟩ := clos_go (env := env) r ((n, c) :: cs) (fun x hx => h1 x (List.mem_cons_of_mem _ hx)) hh
      refine ⟨cl, ?_, a, fun x hx => ?_, fun x c' e' => ?_⟩
      · rw [List.forIn_cons]
        have ec : cellOf env n = pure c := by
          unfold cellOf
          rw [hc]
        simp only [beq_self_eq_true, if_true]
        rw [ec]
        exact e
      · rcases List.mem_cons.mp hx with z | z
        · cases z
          exact d n c (by rw [List.lookup_cons, beq_self_eq_true])
        · exact b x z
      · cases q : x == n with
        | true => exact d x c (by rw [List.lookup_cons, q])
        | false => exact d x c' (by rw [List.lookup_cons, q]; exact e')
    · obtain ⟨cl, e, a, b, d⟩ := clos_go (env := env) r cs (fun x hx => h1 x (List.mem_cons_of_mem _ hx)) h2
      refine ⟨cl, ?_, a, fun x hx => ?_, d⟩
      · rw [List.forIn_cons]
        have hb : (k == NameKind.free) = false := by simpa using hk
        simp only [hb, Bool.false_eq_true, if_false]
        exact e
      · rcases List.mem_cons.mp hx with z | z
        · cases z; exact absurd rfl hk
        · exact b x z
theorem clos_of {env : Env} {scope : Scope} (h : ∀ x, (x, NameKind.free) ∈ scope.names → ∃ c, env.cells.lookup x = some c) :
    ∃ cl, closureFor scope env = pure cl ∧ (∀ x c, cl.lookup x = some c → env.cells.lookup x = some c) ∧ (∀ x, (x, NameKind.free) ∈ scope.names → ∃ c, cl.lookup x = some c) := by
  obtain ⟨cl, e, a, b, _⟩ := clos_go (env := env) scope.names [] h (fun x c e => by simp at e)
  refine ⟨cl, ?_, a, b⟩
  exact (congrArg (fun m : Sem (List (Str × Addr)) => m >>= fun r => (pure r : Sem (List (Str × Addr)))) e).trans rfl
theorem comp_loop {prog : Program} {w : World} {A : Around} {R : Result → Shared → Prop} {s : Shared} {elt target iter : Expr} {ifs : List Expr} {scope : Scope} {pos : Pos} {it acc : Value} {env : Env} (I : Nat → Shared → Prop)
    (turn : ∀ n s, I n s → wpAny (model prog w) A (pyNext it) (fun r s₁ => match r with
      | none => R (.ok .next) s₁
      | some v => wpAny (model prog w) A (letOwnedTupleGo target it v) (fun _ s₁ => wpAny (model prog w) A (assign target env v) (fun _ s₂ =>
          wpAny (model prog w) A (forIn ifs true fun c r => if r = true then do let ok ← isTrue c env (eval c env); pure (ForInStep.yield ok) else pure (ForInStep.yield r)) (fun ok s₃ =>
            if ok = true then wpAny (model prog w) A (eval elt env) (fun x s₄ =>
              wpAny (model prog w) A (call (.builtin "list.append") [acc, x]) (fun _ s₅ => ∃ m, m < n ∧ I m s₅) (fun _ _ => False) s₄) (fun _ _ => False) s₃
            else ∃ m, m < n ∧ I m s₃) (fun _ _ => False) s₂) (fun _ _ => False) s₁) (fun _ _ => False) s₁) (fun _ _ => False) s)
    (n : Nat) (h : I n s) :
    codeAny (model prog w) A (.compLoop (.ListComp elt [⟨target, iter, ifs, 0⟩] scope pos) 0 it acc env) R s := by
  refine codeAny_loop rfl I (fun n s hI => ?_) n h
  show wpAny _ A ((compTurn (.ListComp elt [⟨target, iter, ifs, 0⟩] scope pos) 0 it acc env).onRaise (fun x => do noteFrame x env; theTreesLotGoes x)) _ _ s
  refine wpAny_noted ?_
  rw [compTurn_list]
  refine wpAny_bind (wpAny_standAt (wpAny_bind (wpAny_mono (turn n s hI) (fun r s₁ h₁ => ?_) fun _ _ h' => h'.elim)))
  cases r with
  | none => exact wpAny_pure h₁
  | some v =>
    refine wpAny_bind (wpAny_mono h₁ (fun _ s₁ h₁ => ?_) fun _ _ h' => h'.elim)
    refine wpAny_bind (wpAny_mono h₁ (fun _ s₂ h₂ => wpAny_bind (wpAny_mono h₂ (fun ok s₃ h₃ => ?_) fun _ _ h' => h'.elim)) fun _ _ h' => h'.elim)
    cases ok with
    | false => exact wpAny_pure ⟨rfl, h₃⟩
    | true =>
      exact wpAny_bind (wpAny_bind (wpAny_mono h₃ (fun x s₄ h₄ => wpAny_bind (wpAny_mono h₄ (fun _ s₅ h₅ => wpAny_pure (wpAny_pure ⟨rfl, h₅⟩)) fun _ _ h' => h'.elim)) fun _ _ h' => h'.elim))
theorem relabel_go {env : Env} : ∀ {names : List (Str × NameKind)} {x : Str} {k : NameKind}, names.lookup x = some k →
    (names.map fun (n, k) => if (k == NameKind.free && env.scope.kind == .function && env.kindOf n == some .cell) then (n, NameKind.cell) else (n, k)).lookup x = some k ∨
    (k = .free ∧ (names.map fun (n, k) => if (k == NameKind.free && env.scope.kind == .function && env.kindOf n == some .cell) then (n, NameKind.cell) else (n, k)).lookup x = some .cell)
  | [], _, _, h => by simp at h
  | (n, k') :: r, x, k, h => by
    rw [List.map_cons]
    dsimp only
    cases hx : x == n with
    | true =>
      simp only [List.lookup_cons, hx] at h
      have e : k = k' := (Option.some.inj h).symm
      subst e
      by_cases hc : (k == NameKind.free && env.scope.kind == .function && env.kindOf n == some .cell) = true
      · rw [if_pos hc]
        refine .inr ⟨?_, by simp only [List.lookup_cons, hx]⟩
        simp only [Bool.and_eq_true] at hc
        exact eq_of_beq hc.1.1
      · rw [if_neg hc]
        exact .inl (by simp only [List.lookup_cons, hx])
    | false =>
      simp only [List.lookup_cons, hx] at h
      have ih := @relabel_go env r x k h
      by_cases hc : (k' == NameKind.free && env.scope.kind == .function && env.kindOf n == some .cell) = true
      · rw [if_pos hc]; simp only [List.lookup_cons, hx]; exact ih
      · rw [if_neg hc]; simp only [List.lookup_cons, hx]; exact ih
theorem relabel_back {env : Env} : ∀ {names : List (Str × NameKind)} {x : Str} {k : NameKind}, (∀ y ∈ names, y.2 ≠ .cell) →
    (names.map fun (n, k) => if (k == NameKind.free && env.scope.kind == .function && env.kindOf n == some .cell) then (n, NameKind.cell) else (n, k)).lookup x = some k → (k = .cell ∨ k = .free) → (x, NameKind.free) ∈ names
  | [], _, _, _, h, _ => by simp at h
  | (n, k') :: r, x, k, nc, h, hk => by
    rw [List.map_cons] at h
    dsimp only at h
    cases hx : x == n with
    | true =>
      have e := eq_of_beq hx
      subst e
      by_cases hc : (k' == NameKind.free && env.scope.kind == .function && env.kindOf x == some .cell) = true
      · simp only [Bool.and_eq_true] at hc
        rw [eq_of_beq hc.1.1]
        exact List.mem_cons_self
      · rw [if_neg hc, List.lookup_cons, hx] at h
        cases h
        rcases hk with rfl | rfl
        · exact absurd rfl (nc _ List.mem_cons_self)
        · exact List.mem_cons_self
    | false =>
      refine List.mem_cons_of_mem _ (relabel_back (env := env) (fun y hy => nc y (List.mem_cons_of_mem _ hy)) ?_ hk)
      by_cases hc : (k' == NameKind.free && env.scope.kind == .function && env.kindOf n == some .cell) = true
      · rw [if_pos hc, List.lookup_cons, hx] at h; exact h
      · rw [if_neg hc, List.lookup_cons, hx] at h; exact h
theorem rl_local {scope : Scope} {env : Env} {x : Str} (h : scope.names.lookup x = some .local) : (relabel scope env).names.lookup x = some .local := lookup_relabel_local h
theorem rl_glob {scope : Scope} {env : Env} {x : Str} (h : scope.names.lookup x = some .globalImplicit) : (relabel scope env).names.lookup x = some .globalImplicit := by
  rcases relabel_go (env := env) h with z | ⟨z, _⟩
  · exact z
  · cases z
theorem rl_free {scope : Scope} {env : Env} {x : Str} (h : scope.names.lookup x = some .free) : (relabel scope env).names.lookup x = some .cell ∨ (relabel scope env).names.lookup x = some .free := by
  rcases relabel_go (env := env) h with z | ⟨_, z⟩
  · exact .inr z
  · exact .inl z
theorem vis_local {scope : Scope} {env : Env} {x : Str} (h : scope.names.lookup x = some .local) : Vis (relabel scope env) x := .inl (rl_local h)
theorem vis_free {scope : Scope} {env : Env} {x : Str} (h : scope.names.lookup x = some .free) : Vis (relabel scope env) x := (rl_free h).elim (fun z => .inr (.inl z)) fun z => .inr (.inr z)
theorem loc_local {scope : Scope} {env : Env} {x : Str} (h : scope.names.lookup x = some .local) : Loc (relabel scope env) x := .inl (rl_local h)
def blk (own : Nat) (fr : List Nat) (σ : St) : St := List.replicate own none ++ fr.map fun j => (σ[j]?).join
def cxC (X : Cx) (N' : List Str) (scope : Scope) (cl : List (Str × Addr)) (fp : List Addr) (s3 : Shared) (H3 : Hp) : Cx := { X with
  N := N', s₀ := s3, H₀ := H3, env := compEnvC scope cl s3.heap.objs.size X.env, outer := X.stack, stack := X.stack, ex := fp, fn := fun _ => false, pn := [], xe := fun _ _ => False }
structure LcOk (X : Cx) (N' : List Str) (own : Nat) (fr : List Nat) (scope : Scope) : Prop where
  kind : scope.kind = .function
  len : N'.length = own + fr.length
  cell : ∀ y ∈ scope.names, y.2 ≠ .cell
  names : ∀ y ∈ scope.names, y.2 = .local → scope.names.lookup y.1 = some .local
  free : ∀ x, (x, NameKind.free) ∈ scope.names → X.env.scope.names.lookup x = some .cell ∨ X.env.scope.names.lookup x = some .free
  slot : ∀ k j, fr[k]? = some j → ∃ x, N'[own + k]? = some x ∧ X.N[j]? = some x ∧ scope.names.lookup x = some .free
theorem blk_get {own : Nat} {fr : List Nat} {σ : St} {i : Nat} {v : V} (h : (blk own fr σ)[i]? = some (some v)) : ∃ k j, i = own + k ∧ fr[k]? = some j ∧ σ[j]? = some (some v) := by
  unfold blk at h
  by_cases hi : i < own
  · rw [List.getElem?_append_left (by simpa using hi), List.getElem?_replicate, if_pos hi] at h
    cases h
  · rw [List.getElem?_append_right (by simpa using hi), List.length_replicate, List.getElem?_map] at h
    cases e : fr[i - own]? with
    | none => rw [e] at h; cases h
    | some j =>
      rw [e] at h
      simp only [Option.map_some, Option.some.injEq] at h
      refine ⟨i - own, j, by omega, e, ?_⟩
      cases q : σ[j]? with
      | none => rw [q] at h; cases h
      | some o => rw [q] at h; cases o with
        | none => cases h
        | some u => cases h; rfl
section
variable {X : Cx} {N' : List Str} {own : Nat} {fr : List Nat} {scope : Scope}
theorem inv_blk {pins : List (Addr × Obj)} {σ : St} {H3 : Hp} {s3 : Shared} {cl : List (Str × Addr)} {fp : List Addr} {h4 : Heap} {tk : Nat} (ok : LcOk X N' own fr scope) (I : Inv X pins σ H3 s3) (f2 : ∀ b ∈ fp, FpOk X pins H3 b) (flt : ∀ b ∈ fp, b < s3.heap.objs.size)
    (cl1 : ∀ x c, cl.lookup x = some c → X.env.cells.lookup x = some c) (cl2 : ∀ x, (x, NameKind.free) ∈ scope.names → ∃ c, cl.lookup x = some c)
    (m4 : Str → Option Value) (n4 : h4.Ns s3.heap.objs.size m4) (k4 : ∀ b o, s3.heap.get? b = some o → h4.get? b = some o) :
    Inv (cxC X N' scope cl fp s3 H3) [] (blk own fr σ) H3 { s3 with heap := h4, toks := tk } := by
  have stk : ∀ b, b ∈ frs X.stack → b ∈ X.env.locals :: X.fs := I.stkSub
  have exfs : ∀ b ∈ fp, b ∉ frs X.stack := fun b hb z => by
    rcases List.mem_cons.mp (stk b z) with e | e
    · exact (f2 b hb).2.1 e
    · exact (f2 b hb).2.2.1 e
  have okk : (cxC X N' scope cl fp s3 H3).Ok := by
    refine ⟨I.ok.mod, ok.kind, I.ok.glob, I.ok.blt, Nat.le_refl _, fun x y c e1 e2 => I.ok.inj x y c (cl1 x c e1) (cl1 y c e2), fun x hx => ?_, fun x c hf => ?_, I.ok.hd, I.ok.frames, .inl rfl, fun b hb => ⟨Nat.ne_of_lt (flt b hb), fun x c e => (f2 b hb).2.2.2.2.1 x c (cl1 x c e)⟩,
      I.bs, Nat.le_trans I.ok.bsz I.sz, fun b o e hb => ?_, exfs, I.stack, I.stkFree⟩
    · refine cl2 x ?_
      have hx : (relabel scope X.env).names.lookup x = some .cell ∨ (relabel scope X.env).names.lookup x = some .free := hx
      rcases hx with hx | hx
      · exact relabel_back (env := X.env) ok.cell hx (.inl rfl)
      · exact relabel_back (env := X.env) ok.cell hx (.inr rfl)
    · exact absurd (show false = true from hf) Bool.false_ne_true
    · rcases (f2 b hb).2.2.2.1 with z | z
      · exact I.ok.noex b o e z
      · exact absurd (Nat.lt_of_lt_of_le (Heap.lt_size e) (Nat.le_trans I.ok.bsz z)) (Nat.lt_irrefl _)
  refine ⟨okk, rfl, I.bare, Un.kept k4, ⟨m4, n4, fun i x v e1 e2 e3 => ?_⟩, fun x c e => ?_, I.hok.fresh (Nat.le_refl _), fun x c e => I.freeC x c (cl1 x c e), fun p hp => absurd (show p ∈ ([] : List (Addr × Obj)) from hp) (by simp), I.hok.kept k4, ?_⟩
  · obtain ⟨k, j, rfl, ej, es⟩ := blk_get e2
    obtain ⟨y, y1, y2, y0⟩ := ok.slot k j ej
    have y3 := PySem.mem_of_lookup y0
    rw [show (cxC X N' scope cl fp s3 H3).N = N' from rfl, y1] at e1
    cases e1
    obtain ⟨m, hn, hl⟩ := I.loc
    have vis : Vis X.env.scope x := (ok.free x y3).elim (fun z => .inr (.inl z)) fun z => .inr (.inr z)
    obtain ⟨u, r, l⟩ := hl j x v y2 es vis
    refine ⟨u, r, ?_⟩
    rcases l with ⟨l, _⟩ | ⟨_, c, ec, z⟩
    · exfalso
      have l' : X.env.scope.names.lookup x = some .local := l
      rcases ok.free x y3 with q | q
      · rw [q] at l'; cases l'
      · rw [q] at l'; cases l'
    · obtain ⟨c', ec'⟩ := cl2 x y3
      have := cl1 x c' ec'
      rw [ec] at this
      cases this
      obtain ⟨o, ho, hd⟩ := z
      refine .inr ⟨?_, c, ec', ⟨o, k4 c o ho, hd⟩⟩
      rcases e3 with z | z | z
      · exfalso
        have z' : (relabel scope X.env).names.lookup x = some .local := z
        rcases rl_free (env := X.env) y0 with q | q
        · rw [z'] at q; cases q
        · rw [z'] at q; cases q
      · exact .inl z
      · exact .inr z
  · obtain ⟨v, o, ho, hd⟩ := I.cell x c (cl1 x c e)
    exact ⟨v, o, k4 c o ho, hd⟩
  · show (blk own fr σ).length = N'.length
    unfold blk
    rw [List.length_append, List.length_replicate, List.length_map, ok.len]
end
end L2
end
section
set_option Elab.async false
set_option linter.all false
set_option maxRecDepth 100000
namespace L2
open PySem PySem.Spec PyProof.Rows
def PTs (X : Cx) (ifs : List Expr) (tc : TT) : Prop :=
  ∀ (pins : List (Addr × Obj)) (s : Shared) (σ : St) (H : Hp) (Q : Bool → Hp → Prop), Inv X pins σ H s → tc σ H Q → wpAny (model X.prog X.w) X.A (forIn ifs true fun c r => if r = true then do let ok ← isTrue c X.env (eval c X.env); pure (ForInStep.yield ok) else pure (ForInStep.yield r)) (TP X pins σ Q) X.xe s
def tYes : TT := fun _ H Q => Q true H
theorem pts_nil {X : Cx} : PTs X [] tYes := fun pins s σ H Q I h => wpAny_tests_nil ⟨H, I, h⟩
theorem pts_one {X : Cx} {c : Expr} {tc : TT} (h : PT X c tc) : PTs X [c] tc := fun pins s σ H Q I hq => wpAny_tests_one (h pins s σ H Q I hq)
def lcGo (own : Nat) (fr : List Nat) (g : TG) (tc : TT) (te : TE) (J : It) (σ : St) (H1 : Hp) (Q : VK) : Prop := ∀ D, H1 D = none → ∃ W : Nat → Nat → List V → St → Hp → Prop, (∃ m, W 0 m [] (blk own fr σ) (upd H1 D (.lst []))) ∧ ∀ i m ys σ' H', W i m ys σ' H' →
  (J.stop i H' ∧ Q (.ref D) H') ∨ (J.go i H' ∧ ∀ x H2, J.yld i H' x H2 → g x σ' H2 fun σ3 H3 => tc σ3 H3 fun b H4 => if b = true then te σ3 H4 fun y H5 => H5 D = some (.lst ys) ∧ ys.length < sizeLine ∧ ∃ m', m' < m ∧ W (i + 1) m' (ys ++ [y]) σ3 (upd H5 D (.lst (ys ++ [y])))
    else ∃ m', m' < m ∧ W (i + 1) m' ys σ3 H4)
def tLC (own : Nat) (fr : List Nat) (wi : TI) (g : TG) (tc : TT) (te : TE) : TE := fun σ H Q => wi σ H fun J H1 => lcGo own fr g tc te J σ H1 Q
structure Own (X : Cx) (pins : List (Addr × Obj)) (C : Addr) (H : Hp) (s : Shared) : Prop where
  ns : ∃ m, s.heap.Ns C m
  hn : H C = none
  ne : C ≠ X.env.locals
  ab : X.s₀.heap.objs.size ≤ C
  nc : ∀ x c, X.env.cells.lookup x = some c → c ≠ C
  np : ∀ p ∈ X.pn ++ pins, p.1 ≠ C
section
variable {X : Cx} {N' : List Str} {own : Nat} {fr : List Nat} {scope : Scope} {elt tg iter : Expr} {ifs : List Expr} {pos : Pos}
theorem Own.go {pins : List (Addr × Obj)} {σ : St} {H : Hp} {s : Shared} {C : Addr} {h' : Heap} (O : Own X pins C H s) (I : Inv X pins σ H s) (sb : Heap.SameBut C s.heap h') : Inv X pins σ H { s with heap := h' } :=
  I.turned (t' := s.toks) (fun b o hb e => sb.extBut b o hb e) O.hn O.ne (.inr O.ab) O.nc O.np
theorem comp_run {pins : List (Addr × Obj)} {σ : St} {H2 : Hp} {s2 : Shared} {J : It} {fp : List Addr} {it : Addr} {tn : Nat → Heap → Prop} {cl : List (Str × Addr)} {Q : VK} {g : TG} {tc : TT} {te : TE} {RR : Value → Addr → Result → Shared → Prop} {E : Value → Shared → Prop}
    (hc : X.calm = true) (ok : LcOk X N' own fr scope) (I2 : Inv X pins σ H2 s2) (T : Turn X.prog X.w X.K tg J fp it tn) (st2 : tn 0 s2.heap) (f2 : ∀ b ∈ fp, FpOk X pins H2 b)
    (cl1 : ∀ x c, cl.lookup x = some c → X.env.cells.lookup x = some c) (cl2 : ∀ x, (x, NameKind.free) ∈ scope.names → ∃ c, cl.lookup x = some c)
    (hg : ∀ fp s3 H3, PG (cxC X N' scope cl fp s3 H3) tg g) (ht : ∀ fp s3 H3, PTs (cxC X N' scope cl fp s3 H3) ifs tc) (he : ∀ fp s3 H3, PE (cxC X N' scope cl fp s3 H3) elt te)
    (h : lcGo own fr g tc te J σ H2 Q)
    (fin : ∀ D C s' H', Inv X pins σ H' s' → Own X pins C H' s' → Q (.ref D) H' → RR (.ref D) C (.ok .next) s') :
    wpAny (model X.prog X.w) X.A (newList []) (fun acc s₃ => wpAny (model X.prog X.w) X.A (newFunctionEnv scope X.env.globals cl [] X.env.qual none .none (some X.env)) (fun cenv s₄ =>
      codeAny (model X.prog X.w) X.A (.compStart (.ListComp elt [⟨tg, iter, ifs, 0⟩] scope pos) 0 (.ref it) acc { cenv with scope := relabel scope X.env }) (RR acc cenv.locals) s₄) E s₃) E s2 := by
  obtain ⟨W, ⟨m0, w0⟩, turn⟩ := h s2.heap.objs.size (I2.hok.fresh (Nat.le_refl _))
  refine wpAny_newObj_type (wpAny_newFunctionEnv ok.cell (by intro y hy; simp at hy) (fun h₁ hns₁ hsb₁ => ?_) ok.kind)
  dsimp only at hns₁ hsb₁ ⊢
  have I3 : Inv X pins σ (upd H2 s2.heap.objs.size (.lst [])) { s2 with heap := s2.heap.push { cls := .type "list", dict := none, data := .seq ([] : List Value).toArray } } :=
    I2.laid (t' := s2.toks) (fun b u e => Heap.get?_push_of_some _ e) (Nat.le_refl _) ⟨Nat.zero_le _, [], 0, .nil, Heap.get?_push_size _ rfl⟩
  generalize hH3 : upd H2 s2.heap.objs.size (.lst []) = H3 at w0 I3
  generalize hS3 : ({ s2 with heap := s2.heap.push { cls := .type "list", dict := none, data := .seq ([] : List Value).toArray } } : Shared) = S3 at I3
  have e3 : s2.heap.push { cls := .type "list", dict := none, data := .seq ([] : List Value).toArray } = S3.heap := by rw [← hS3]
  have k23 : ∀ b o, s2.heap.get? b = some o → S3.heap.get? b = some o := fun b o e => by rw [← e3]; exact Heap.get?_push_of_some _ e
  rw [e3] at hns₁ hsb₁ ⊢
  have st3 : tn 0 S3.heap := T.keep _ _ _ st2 fun b _ o e => k23 b o e
  have flt : ∀ b ∈ fp, b < S3.heap.objs.size := fun b hb => by
    obtain ⟨o, e, _⟩ := T.obj _ _ st3 b hb
    exact Heap.lt_size e
  have flt2 : ∀ b ∈ fp, b < s2.heap.objs.size := fun b hb => by
    obtain ⟨o, e, _⟩ := T.obj _ _ st2 b hb
    exact Heap.lt_size e
  have f3 : ∀ b ∈ fp, FpOk X pins H3 b := fun b hb => by
    refine ⟨?_, (f2 b hb).2⟩
    rw [← hH3, upd_ne (Nat.ne_of_lt (flt2 b hb))]
    exact (f2 b hb).1
  have k34 : ∀ b o, S3.heap.get? b = some o → h₁.get? b = some o := fun b o e => hsb₁.extBut b o (Nat.ne_of_lt (Heap.lt_size e)) (Heap.get?_push_of_some _ e)
  have I4 : Inv (cxC X N' scope cl fp S3 H3) [] (blk own fr σ) H3 { S3 with heap := h₁, toks := s2.toks + ([] : List (Str × Value)).length } := inv_blk ok I3 f3 flt cl1 cl2 _ hns₁ k34
  have st4 : tn 0 h₁ := T.keep _ _ _ st3 fun b _ o e => k34 b o e
  -- back in the def
  have back : ∀ {σ' H' s'}, Inv (cxC X N' scope cl fp S3 H3) [] σ' H' s' → Inv X pins σ H' s' ∧ Own X pins S3.heap.objs.size H' s' := fun {σ' H' s'} I' => by
    have J1 : Inv X pins σ H' s' := I3.call' I'.os I'.base I'.hok I'.bare fun b hb => ⟨(f3 b hb).2.2.2.1, (f3 b hb).2.1, (f3 b hb).2.2.2.2⟩
    refine ⟨J1, ⟨let ⟨m, hn, _⟩ := I'.loc; ⟨m, hn⟩, I'.free, Nat.ne_of_gt I3.lt, I3.sz, fun x c e z => ?_, fun p hp z => ?_⟩⟩
    · obtain ⟨v, q⟩ := I3.cell x c e
      exact absurd q.lt (by rw [z]; exact Nat.lt_irrefl _)
    · exact absurd (Heap.lt_size (I3.pin p hp).1) (by rw [z]; exact Nat.lt_irrefl _)
  have stat : ∀ {H' : Hp}, (∀ b ∈ fp, H' b = none) → ∀ b ∈ fp, FpOk (cxC X N' scope cl fp S3 H3) [] H' b := fun hn b hb =>
    ⟨hn b hb, (I4.ok.exf b hb).1, I4.ok.exfs b hb, .inl hb, (I4.ok.exf b hb).2, fun p hp => absurd (show p ∈ ([] : List (Addr × Obj)) from hp) (by simp)⟩
  have loop : codeAny (model X.prog X.w) X.A (.compLoop (.ListComp elt [⟨tg, iter, ifs, 0⟩] scope pos) 0 (.ref it) (.ref s2.heap.objs.size) (cxC X N' scope cl fp S3 H3).env) (RR (.ref s2.heap.objs.size) S3.heap.objs.size) { S3 with heap := h₁, toks := s2.toks + ([] : List (Str × Value)).length } := by
    refine comp_loop (fun n s' => ∃ i ys σ' H', Inv (cxC X N' scope cl fp S3 H3) [] σ' H' s' ∧ tn i s'.heap ∧ (∀ b ∈ fp, H' b = none) ∧ W i n ys σ' H') ?_ m0 ⟨0, [], _, H3, I4, st4, fun b hb => (f3 b hb).1, w0⟩
    rintro n s5 ⟨i, ys, σ5, H5, I5, st5, fr5, w5⟩
    rcases turn i n ys σ5 H5 w5 with ⟨stop, qn⟩ | ⟨go, step⟩
    · refine thn (T.done (cxC X N' scope cl fp S3 H3) rfl rfl rfl hc i [] s5 σ5 H5 (fun _ _ => False) I5 (stat fr5) st5 stop) fun r s6 ⟨hr, I6⟩ => ?_
      subst hr
      obtain ⟨J1, O⟩ := back I6
      exact fin _ _ s6 H5 J1 O qn
    · refine thn (T.item (cxC X N' scope cl fp S3 H3) rfl rfl rfl hc i [] s5 σ5 H5 (fun _ _ => False) I5 (stat fr5) st5 go) fun r s6 ⟨u, hr, h6⟩ => ?_
      subst hr
      refine thn h6 fun _ s7 ⟨x, H7, I7, r7, y7, st7, fr7⟩ => ?_
      have I7' := I7.pinned (stat fr7) (T.obj _ _ st7)
      refine thn (hg fp S3 H3 _ s7 σ5 H7 x u _ I7' r7 (step x H7 y7)) fun _ s8 ⟨σ8, H8, I8, q8⟩ => ?_
      refine thn (ht fp S3 H3 _ s8 σ8 H8 _ I8 q8) fun b s9 ⟨H9, I9, q9⟩ => ?_
      have again : ∀ {σ' H' s' m' ys'}, m' < n → Inv (cxC X N' scope cl fp S3 H3) ([] ++ pinsAt fp s7.heap) σ' H' s' → W (i + 1) m' ys' σ' H' → ∃ m, m < n ∧ ∃ i ys σ' H', Inv (cxC X N' scope cl fp S3 H3) [] σ' H' s' ∧ tn i s'.heap ∧ (∀ b ∈ fp, H' b = none) ∧ W i m ys σ' H' := fun {σ' H' s' m' ys'} hm I' w' => by
        refine ⟨m', hm, i + 1, ys', σ', H', I'.unpinned, T.keep _ _ _ st7 fun b hb o e => (I'.pin (b, o) (List.mem_append_right _ (List.mem_append_right _ (mem_pinsAt hb e)))).1, fun b hb => ?_, w'⟩
        obtain ⟨o, e, d⟩ := T.obj _ _ st7 b hb
        exact (I'.pin (b, o) (List.mem_append_right _ (List.mem_append_right _ (mem_pinsAt hb e)))).2.1
      cases b with
      | false =>
        rw [if_neg Bool.false_ne_true] at q9 ⊢
        obtain ⟨m', hm, w9⟩ := q9
        exact again hm I9 w9
      | true =>
        rw [if_pos rfl] at q9 ⊢
        refine thn (he fp S3 H3 _ s9 σ8 H9 _ I9 q9) fun v s10 ⟨y, H10, I10, r10, q10⟩ => ?_
        obtain ⟨hD, hz, m', hm, w10⟩ := q10
        refine thn (mt_append (X := cxC X N' scope cl fp S3 H3) _ s10 σ8 H10 (.ref s2.heap.objs.size) [y] (.ref s2.heap.objs.size) [v] (fun _ H' => W (i + 1) m' (ys ++ [y]) σ8 H') I10 rfl (.cons r10 .nil) ⟨_, ys, y, rfl, rfl, hD, hz, w10⟩) fun v' s11 ⟨_, H11, I11, _, q11⟩ => ?_
        exact again hm I11 q11
  subst hS3
  exact codeAny_compStart_list loop (T.self _ 0 _ _ _ st4 loop)
theorem pe_lc {wi : TI} {g : TG} {tc : TT} {te : TE} (hc : X.calm = true) (ok : LcOk X N' own fr scope) (hi : PI X tg iter wi)
    (hg : ∀ cl fp s3 H3, PG (cxC X N' scope cl fp s3 H3) tg g) (ht : ∀ cl fp s3 H3, PTs (cxC X N' scope cl fp s3 H3) ifs tc) (he : ∀ cl fp s3 H3, PE (cxC X N' scope cl fp s3 H3) elt te)
    (hs : ∀ x, foldedSetIterable iter X.env x = pure x := by intro _; rfl) : PE X (.ListComp elt [⟨tg, iter, ifs, 0⟩] scope pos) (tLC own fr wi g tc te) := by
  intro pins s σ H Q I h
  obtain ⟨cl, ecl, cl1, cl2⟩ := clos_of (env := X.env) (scope := scope) fun x hx => I.ok.has x (ok.free x hx)
  rw [eval_ListComp]
  refine wpAny_comprehension_free (use := none) rfl hs ecl ok.kind ok.names (thn (hi pins s σ H _ I h) fun v s1 h1 => thn h1 fun itv s2 h2 => ?_)
  obtain ⟨it, fp, tn, J, H2, rfl, I2, T, st2, f2, h2⟩ := h2
  refine comp_run (RR := fun acc C => compPost (model X.prog X.w) X.A X.xe none (EP X pins σ Q) acc C) hc ok I2 T st2 f2 cl1 cl2 (hg cl) (ht cl) (he cl) h2 ?_
  intro D C s' H' J1 O q
  obtain ⟨m, hn⟩ := O.ns
  exact ⟨m, hn, fun h'' sb => ⟨.ref D, H', O.go J1 sb, rfl, q⟩⟩
theorem ps_setLC {wi : TI} {g : TG} {tc : TT} {te : TE} {i : Nat} {y : Str} {py spos : Pos} (hN : X.N.Nodup) (hiN : X.N[i]? = some y) (hy : X.env.scope.names.lookup y = some .local) (hc : X.calm = true) (ok : LcOk X N' own fr scope) (hi : PI X tg iter wi)
    (hg : ∀ cl fp s3 H3, PG (cxC X N' scope cl fp s3 H3) tg g) (ht : ∀ cl fp s3 H3, PTs (cxC X N' scope cl fp s3 H3) ifs tc) (he : ∀ cl fp s3 H3, PE (cxC X N' scope cl fp s3 H3) elt te)
    (hsw : swapsWith (.ListComp elt [⟨tg, iter, ifs, 0⟩] scope pos) (some (.Name y py)) spos.line X.env = pure true)
    (hs : ∀ x, foldedSetIterable iter X.env x = pure x := by intro _; rfl) : PS X (.Assign [.Name y py] (.ListComp elt [⟨tg, iter, ifs, 0⟩] scope pos) spos) (fun D σ H => tLC own fr wi g tc te σ H fun v H' => D.nx (σ.set i (some v)) H') := by
  intro pins s σ H D I h
  obtain ⟨cl, ecl, cl1, cl2⟩ := clos_of (env := X.env) (scope := scope) fun x hx => I.ok.has x (ok.free x hx)
  rw [exec_Assign_Name_used _ _ _ _ hsw]
  refine wpAny_bind (wpAny_standAt (wpAny_bind ?_))
  show wpAny _ _ (do let _ ← comprehension (.ListComp elt [⟨tg, iter, ifs, 0⟩] scope pos) scope X.env _ (newList []) false (eval iter X.env) (some (assign (.Name y py) X.env))) _ _ s
  refine wpAny_bind (wpAny_mono (wpAny_comprehension_free (use := some (assign (.Name y py) X.env)) (Q := fun _ s' => SP X pins D .next s') rfl hs ecl ok.kind ok.names
    (thn (hi pins s σ H _ I h) fun v s1 h1 => thn h1 fun itv s2 h2 => ?_)) (fun _ s' hq => wpAny_pure (wpAny_pure hq)) fun _ _ e => e)
  obtain ⟨it, fp, tn, J, H2, rfl, I2, T, st2, f2, h2⟩ := h2
  refine comp_run (RR := fun acc C => compPost (model X.prog X.w) X.A X.xe (some (assign (.Name y py) X.env)) (fun _ s' => SP X pins D .next s') acc C) hc ok I2 T st2 f2 cl1 cl2 (hg cl) (ht cl) (he cl) h2 ?_
  intro D' C s' H' J1 O q
  show wpAny _ _ (assign (.Name y py) X.env (.ref D')) _ _ _
  refine wpAny_assign_Name (store_ok2 J1 hN hiN (.inl hy) (v := .ref D') rfl (fun s'' J2 sb => ?_) (.inr hy))
  obtain ⟨m, hn⟩ := O.ns
  obtain ⟨a, sb, ha⟩ := sb
  have nea : C ≠ a := by
    rcases ha with ha | ha
    · rw [ha]; exact O.ne
    · exact fun z => O.nc y a ha z.symm
  refine ⟨m, hn.sameBut sb nea, fun h'' sb' => ?_⟩
  have O2 : Own X pins C H' s'' := ⟨⟨m, hn.sameBut sb nea⟩, O.hn, O.ne, O.ab, O.nc, O.np⟩
  exact ⟨_, H', O2.go J2 sb', q⟩
end
end L2
end
section
set_option Elab.async false
set_option linter.all false
set_option maxRecDepth 100000
namespace DL
open PySem L2 PyProof.Rows
def hT (ks : List Int) : Int := reduceHash (Builtin.Tuple.tupleHashOf (ks.map hashInt))
def phiD (a : Addr) (ts : List (List Int × Addr × V)) : Heap → Prop := fun h => (a == sysModules) = false ∧ ts.length ≤ sizeLine ∧ (ts.map (·.1)).Nodup ∧
  ∃ xs : List (List Int × Addr × Value), Paired (fun (t : List Int × Addr × V) (x : List Int × Addr × Value) => t.1 = x.1 ∧ t.2.1 = x.2.1 ∧ RelV t.2.2 x.2.2) ts xs ∧
    ∃ (o : Obj) (es : Array DictEntry) (ep : Nat), h.get? a = some o ∧ o.ExactDict ∧ o.data = .dict es ep ∧ es.toList = xs.map fun x => ⟨hT x.1, .ref x.2.1, x.2.2⟩
mutual
def Is (K : PySem.W.Frag) (H : Hp) : PyData → V → Prop
  | .none, v => v = .non
  | .bool b, v => v = .bl b
  | .int i, v => v = .int i
  | .str x, v => v = .str x
  | .tuple ds, v => ∃ a vs, v = .ref a ∧ SqT K H a vs ∧ IsL K H ds vs
  | .list ds, v => ∃ a vs, v = .ref a ∧ H a = some (.lst vs) ∧ IsL K H ds vs
  | .dict kvs, v => ∃ a ts, v = .ref a ∧ H a = some (.ext (phiD a ts)) ∧ IsKV K H kvs ts
def IsL (K : PySem.W.Frag) (H : Hp) : List PyData → List V → Prop
  | [], vs => vs = []
  | d :: ds, vs => ∃ x xs, vs = x :: xs ∧ Is K H d x ∧ IsL K H ds xs
def IsKV (K : PySem.W.Frag) (H : Hp) : List (PyData × PyData) → List (List Int × Addr × V) → Prop
  | [], ts => ts = []
  | (k, d) :: r, ts => ∃ t tr, ts = t :: tr ∧ k = .tuple (t.1.map PyData.int) ∧ SqT K H t.2.1 (t.1.map V.int) ∧ Is K H d t.2.2 ∧ IsKV K H r tr
end
theorem Same.tup {K : PySem.W.Frag} {H H' : Hp} {a : Addr} {xs : List V} (e : Same H H') (h : SqT K H a xs) : SqT K H' a xs := by
  rcases h with (h | ⟨o, h⟩) | h
  · exact .inl (.inl (e _ _ h))
  · exact .inl (.inr ⟨o, e _ _ h⟩)
  · exact .inr h
def TSm (H H' : Hp) : Prop := ∀ b o, H b = some o → (∀ xs, o ≠ .lst xs) → (∀ φ, o ≠ .ext φ) → H' b = some o
theorem TSm.tup {K : PySem.W.Frag} {H H' : Hp} {a : Addr} {xs : List V} (e : TSm H H') (h : SqT K H a xs) : SqT K H' a xs := by
  rcases h with (h | ⟨o, h⟩) | h
  · exact .inl (.inl (e _ _ h (fun _ z => by cases z) fun _ z => by cases z))
  · exact .inl (.inr ⟨o, e _ _ h (fun _ z => by cases z) fun _ z => by cases z⟩)
  · exact .inr h
section
variable {K : PySem.W.Frag}
mutual
theorem Is.mono {H H' : Hp} (s : Same H H') : ∀ {d : PyData} {v : V}, Is K H d v → Is K H' d v
  | .none, _, h => h
  | .bool _, _, h => h
  | .int _, _, h => h
  | .str _, _, h => h
  | .tuple _, _, ⟨a, vs, e, h, l⟩ => ⟨a, vs, e, Same.tup s h, IsL.mono s l⟩
  | .list _, _, ⟨a, vs, e, h, l⟩ => ⟨a, vs, e, s _ _ h, IsL.mono s l⟩
  | .dict _, _, ⟨a, ts, e, h, l⟩ => ⟨a, ts, e, s _ _ h, IsKV.mono s l⟩
theorem IsL.mono {H H' : Hp} (s : Same H H') : ∀ {ds : List PyData} {vs : List V}, IsL K H ds vs → IsL K H' ds vs
  | [], _, h => h
  | _ :: _, _, ⟨x, xs, e, h, l⟩ => ⟨x, xs, e, Is.mono s h, IsL.mono s l⟩
theorem IsKV.mono {H H' : Hp} (s : Same H H') : ∀ {kvs : List (PyData × PyData)} {ts : List (List Int × Addr × V)}, IsKV K H kvs ts → IsKV K H' kvs ts
  | [], _, h => h
  | (_, _) :: _, _, ⟨t, tr, e, ek, hk, h, l⟩ => ⟨t, tr, e, ek, Same.tup s hk, Is.mono s h, IsKV.mono s l⟩
end
mutual
theorem Is.monoT {H H' : Hp} (s : TSm H H') : ∀ {d : PyData} {v : V}, fixD d = true → Is K H d v → Is K H' d v
  | .none, _, _, h => h
  | .bool _, _, _, h => h
  | .int _, _, _, h => h
  | .str _, _, _, h => h
  | .tuple _, _, f, ⟨a, vs, e, h, l⟩ => ⟨a, vs, e, s.tup h, IsL.monoT s f l⟩
  | .list _, _, f, _ => absurd f Bool.false_ne_true
  | .dict _, _, f, _ => absurd f Bool.false_ne_true
theorem IsL.monoT {H H' : Hp} (s : TSm H H') : ∀ {ds : List PyData} {vs : List V}, fixDs ds = true → IsL K H ds vs → IsL K H' ds vs
  | [], _, _, h => h
  | d :: ds, _, f, ⟨x, xs, e, h, l⟩ => ⟨x, xs, e, Is.monoT s (by rw [fixDs, Bool.and_eq_true] at f; exact f.1) h, IsL.monoT s (by rw [fixDs, Bool.and_eq_true] at f; exact f.2) l⟩
end
theorem IsL.length {H : Hp} : ∀ {ds : List PyData} {vs : List V}, IsL K H ds vs → vs.length = ds.length
  | [], _, h => by rw [show _ = [] from h]; rfl
  | _ :: _, _, ⟨x, xs, e, _, l⟩ => by rw [e, List.length_cons, List.length_cons, IsL.length l]
theorem IsL.get {H : Hp} : ∀ {ds : List PyData} {vs : List V} {i : Nat} {d : PyData}, IsL K H ds vs → ds[i]? = some d → ∃ v, vs[i]? = some v ∧ Is K H d v
  | [], _, _, _, _, e => by simp at e
  | d :: ds, _, 0, _, ⟨x, xs, e, h, l⟩, q => by
    subst e
    simp at q
    subst q
    exact ⟨x, rfl, h⟩
  | d :: ds, _, i + 1, _, ⟨x, xs, e, h, l⟩, q => by
    subst e
    obtain ⟨v, a, b⟩ := IsL.get (i := i) l (by simpa using q)
    exact ⟨v, by simpa using a, b⟩
end
section
variable {X : Cx} {pins : List (Addr × Obj)} {σ : L2.St} {H : Hp} {s : Shared}
mutual
theorem reads (I : Inv X pins σ H s) : ∀ {d : PyData} {v : V} {u : Value}, Is X.K H d v → RelV v u → ∃ as, Reads s.heap u d as
  | .none, _, _, h, r => by subst h; cases r; exact ⟨_, .none⟩
  | .bool _, _, _, h, r => by subst h; cases r; exact ⟨_, .bool _⟩
  | .int _, _, _, h, r => by subst h; obtain ⟨t, rfl⟩ := r; exact ⟨_, .int _ _⟩
  | .str _, _, _, h, r => by subst h; obtain ⟨t, rfl⟩ := r; exact ⟨_, .str _ _⟩
  | .tuple ds, _, _, ⟨a, vs, e, h, l⟩, r => by
    subst e; cases r
    obtain ⟨its, rr, ⟨o, e, c, n, q⟩, _⟩ := I.tuple h
    obtain ⟨as, z⟩ := readsL I l rr
    exact ⟨_, .tuple e c q z⟩
  | .list ds, _, _, ⟨a, vs, e, h, l⟩, r => by
    subst e; cases r
    obtain ⟨_, its, n, rr, e⟩ := I.hok a _ h
    obtain ⟨as, z⟩ := readsL I l rr
    exact ⟨_, .list e rfl rfl z⟩
  | .dict kvs, _, _, ⟨a, ts, e, h, l⟩, r => by
    subst e; cases r
    obtain ⟨⟨_, _, _, xs, pr, o, es, ep, ho, he, hd, hes⟩, _, _⟩ := (show ObjOk X.prog X.w H s.heap a (.ext (phiD a ts)) from I.hok a _ h)
    obtain ⟨as, bs, z1, z2⟩ := readsK I l pr
    refine ⟨_, .dict ho he.1 hd (as := as) (bs := bs) ?_ ?_⟩
    · rw [hes, List.map_map]; exact z1
    · rw [hes, List.map_map]; exact z2
theorem readsL (I : Inv X pins σ H s) : ∀ {ds : List PyData} {vs : List V} {us : List Value}, IsL X.K H ds vs → Vals vs us → ∃ as, ReadsAll s.heap us ds as
  | [], _, _, h, r => by subst h; cases r; exact ⟨_, .nil⟩
  | d :: ds, _, _, ⟨x, xs, e, h, l⟩, r => by
    subst e
    cases r with
    | cons r1 r2 =>
      obtain ⟨as, z⟩ := reads I h r1
      obtain ⟨bs, y⟩ := readsL I l r2
      exact ⟨_, .cons z y⟩
theorem readsK (I : Inv X pins σ H s) : ∀ {kvs : List (PyData × PyData)} {ts : List (List Int × Addr × V)} {xs : List (List Int × Addr × Value)}, IsKV X.K H kvs ts → Paired (fun (t : List Int × Addr × V) (x : List Int × Addr × Value) => t.1 = x.1 ∧ t.2.1 = x.2.1 ∧ RelV t.2.2 x.2.2) ts xs →
    ∃ as bs, ReadsAll s.heap (xs.map fun x => Value.ref x.2.1) (kvs.map (·.1)) as ∧ ReadsAll s.heap (xs.map fun x => x.2.2) (kvs.map (·.2)) bs
  | [], _, _, h, r => by subst h; cases r; exact ⟨_, _, .nil, .nil⟩
  | (k, d) :: kvs, _, _, ⟨t, tr, e, ek, hk, h, l⟩, r => by
    subst e
    cases r with
    | cons r1 r2 =>
      obtain ⟨q1, q2, q3⟩ := r1
      obtain ⟨as, bs, z1, z2⟩ := readsK I l r2
      obtain ⟨cs, z3⟩ := reads I h q3
      obtain ⟨its, rr, ⟨o, e, c, n, q⟩, _⟩ := I.tuple hk
      subst ek
      have hz : ∃ ds, ReadsAll s.heap its.toArray.toList (t.1.map PyData.int) ds := by
        clear hk e q
        generalize t.1 = ks at rr
        induction ks generalizing its with
        | nil => cases rr; exact ⟨_, .nil⟩
        | cons k ks ih =>
          cases rr with
          | cons a b =>
            obtain ⟨ds, y⟩ := ih _ b
            obtain ⟨tk, rfl⟩ := a
            exact ⟨_, .cons (.int _ _) y⟩
      obtain ⟨ds, y⟩ := hz
      rw [q2] at e
      exact ⟨_, _, .cons (.tuple e c q y) z1, .cons z3 z2⟩
end
def rEqK (K : PySem.W.Frag) : R2 := fun x y H Q => ∃ d e, Is K H d x ∧ Is K H e y ∧ okD d = true ∧ okD e = true ∧ Q (.bl (PyData.eqv d e)) H
def rNeK (K : PySem.W.Frag) : R2 := fun x y H Q => ∃ d e, Is K H d x ∧ Is K H e y ∧ okD d = true ∧ okD e = true ∧ Q (.bl (!PyData.eqv d e)) H
theorem op_eqK (hu : X.A.units + 64 < cLine) : OpR X (compareOp .Eq) (rEqK X.K) := by
  intro pins s σ H x y v u Q I rx ry h
  obtain ⟨d, e, hd, he, od, oe, q⟩ := h
  obtain ⟨as, ra⟩ := reads I hd rx
  obtain ⟨bs, rb⟩ := reads I he ry
  exact eq_dataH ra rb od oe hu ⟨.bl _, H, I, rfl, q⟩
theorem op_neK (hu : X.A.units + 64 < cLine) : OpR X (compareOp .NotEq) (rNeK X.K) := by
  intro pins s σ H x y v u Q I rx ry h
  obtain ⟨d, e, hd, he, od, oe, q⟩ := h
  obtain ⟨as, ra⟩ := reads I hd rx
  obtain ⟨bs, rb⟩ := reads I he ry
  exact ne_dataH ra rb od oe hu ⟨.bl _, H, I, rfl, q⟩
end
end DL
end
section
set_option Elab.async false
set_option linter.all false
set_option maxRecDepth 100000
namespace DL
open PySem L2
inductive L where
  | d (x : PyData)
  | m (xs : List PyData)
  | c (xs : List PyData)
  | k (kvs : List (List Int × PyData))
  | g (x : PyData)
abbrev DS := List (Option L)
inductive Ow where
  | l (xs : List PyData)
  | t (kvs : List (List Int × PyData))
def Ow.L : Ow → L
  | .l xs => .m xs
  | .t kvs => .k kvs
def dctP (kvs : List (List Int × PyData)) : List (PyData × PyData) := kvs.map fun p => (.tuple (p.1.map PyData.int), p.2)
def Ow.D : Ow → PyData
  | .l xs => .list xs
  | .t kvs => .dict (dctP kvs)
def Ow.fl : Ow → Bool
  | .l _ => true
  | .t _ => false
theorem Ow.not_d {o : Ow} {x : PyData} : o.L ≠ .d x := by cases o <;> exact fun z => nomatch z
theorem Ow.not_g {o : Ow} {x : PyData} : o.L ≠ .g x := by cases o <;> exact fun z => nomatch z
theorem Ow.not_c {o : Ow} {x : List PyData} : o.L ≠ .c x := by cases o <;> exact fun z => nomatch z
theorem Ow.inj {o p : Ow} (h : o.L = p.L) : o = p := by
  cases o <;> cases p <;> cases h <;> rfl
def IsO (K : PySem.W.Frag) (H : Hp) : Ow → Addr → HO → Prop
  | .l xs, _, h => ∃ vs, h = .lst vs ∧ IsL K H xs vs
  | .t kvs, a, h => ∃ ts, h = .ext (phiD a ts) ∧ IsKV K H (dctP kvs) ts
theorem IsO.mono {K : PySem.W.Frag} {H H' : Hp} (s : Same H H') : ∀ {o : Ow} {a : Addr} {h : HO}, IsO K H o a h → IsO K H' o a h
  | .l _, _, _, ⟨vs, e, l⟩ => ⟨vs, e, l.mono s⟩
  | .t _, _, _, ⟨ts, e, l⟩ => ⟨ts, e, l.mono s⟩
theorem IsO.is {K : PySem.W.Frag} {H : Hp} : ∀ {o : Ow} {a : Addr} {h : HO}, IsO K H o a h → H a = some h → Is K H o.D (.ref a)
  | .l _, a, _, ⟨vs, e, l⟩, z => ⟨a, vs, rfl, e ▸ z, l⟩
  | .t _, a, _, ⟨ts, e, l⟩, z => ⟨a, ts, rfl, e ▸ z, l⟩
open Classical in
noncomputable def hid (S : Addr → Prop) (H : Hp) : Hp := fun a => if S a then none else H a
theorem hid_iff {S : Addr → Prop} {H : Hp} {b : Addr} {o : HO} : hid S H b = some o ↔ ¬ S b ∧ H b = some o := by
  unfold hid
  by_cases h : S b
  · rw [if_pos h]; exact ⟨fun z => (nomatch z), fun z => absurd h z.1⟩
  · rw [if_neg h]; exact ⟨fun z => ⟨h, z⟩, fun z => z.2⟩
def Keep (S : Addr → Prop) (H : Hp) (S' : Addr → Prop) (H' : Hp) : Prop := ∀ b o, ¬ S b → H b = some o → ¬ S' b ∧ H' b = some o
def Chg (M : Addr → Prop) (H H' : Hp) : Prop := ∀ b o, ¬ M b → H b = some o → H' b = some o
theorem Keep.same {S S' : Addr → Prop} {H H' : Hp} (k : Keep S H S' H') : Same (hid S H) (hid S' H') := fun b o e => hid_iff.mpr (k b o (hid_iff.mp e).1 (hid_iff.mp e).2)
theorem Keep.refl {S : Addr → Prop} {H : Hp} : Keep S H S H := fun _ _ h e => ⟨h, e⟩
theorem Keep.trans {S S1 S2 : Addr → Prop} {H H1 H2 : Hp} (a : Keep S H S1 H1) (b : Keep S1 H1 S2 H2) : Keep S H S2 H2 := fun c o h e => b c o (a c o h e).1 (a c o h e).2
theorem Chg.refl {M : Addr → Prop} {H : Hp} : Chg M H H := fun _ _ _ e => e
theorem Chg.trans {M : Addr → Prop} {H H1 H2 : Hp} (a : Chg M H H1) (b : Chg M H1 H2) : Chg M H H2 := fun c o h e => b c o h (a c o h e)
theorem Chg.of {M : Addr → Prop} {H H' : Hp} (s : Same H H') : Chg M H H' := fun b o _ e => s b o e
theorem Chg.keep {S M : Addr → Prop} {H H' : Hp} (c : Chg M H H') (sub : ∀ a, M a → S a) : Keep S H S H' := fun b o h e => ⟨h, c b o (fun z => h (sub b z)) e⟩
theorem Same.keep {S : Addr → Prop} {H H' : Hp} (s : Same H H') : Keep S H S H' := fun b o h e => ⟨h, s b o e⟩
theorem same_hid {S : Addr → Prop} {H : Hp} : Same (hid S H) H := fun b o e => (hid_iff.mp e).2
theorem hid_less {S S' : Addr → Prop} {H : Hp} (h : ∀ a, S' a → S a) : Same (hid S H) (hid S' H) := Keep.same fun b o n e => ⟨fun z => n (h b z), e⟩
theorem tsS {H H' : Hp} (s : Same H H') : TSm H H' := fun b o e _ _ => s b o e
theorem TSm.refl {H : Hp} : TSm H H := fun _ _ e _ _ => e
mutual
def Dp (K : PySem.W.Frag) (S : Addr → Prop) (H : Hp) : PyData → V → List Addr → Prop
  | .none, v, F => v = .non ∧ F = []
  | .bool b, v, F => v = .bl b ∧ F = []
  | .int i, v, F => v = .int i ∧ F = []
  | .str x, v, F => v = .str x ∧ F = []
  | .tuple ds, v, F => ∃ a vs, v = .ref a ∧ SqT K (hid S H) a vs ∧ DpL K S H ds vs F
  | .list ds, v, F => ∃ a vs G, v = .ref a ∧ F = a :: G ∧ H a = some (.lst vs) ∧ DpL K S H ds vs G
  | .dict _, _, _ => False
def DpL (K : PySem.W.Frag) (S : Addr → Prop) (H : Hp) : List PyData → List V → List Addr → Prop
  | [], vs, F => vs = [] ∧ F = []
  | d :: ds, vs, F => ∃ x xs F1 F2, vs = x :: xs ∧ F = F1 ++ F2 ∧ Dp K S H d x F1 ∧ DpL K S H ds xs F2
end
section
variable {K : PySem.W.Frag} {S S' : Addr → Prop} {H H' : Hp}
mutual
theorem Dp.mono (s : TSm (hid S H) (hid S' H')) : ∀ {d : PyData} {v : V} {F : List Addr}, (∀ a ∈ F, H' a = H a) → Dp K S H d v F → Dp K S' H' d v F
  | .none, _, _, _, h => h
  | .bool _, _, _, _, h => h
  | .int _, _, _, _, h => h
  | .str _, _, _, _, h => h
  | .tuple _, _, _, f, ⟨a, vs, e, h, l⟩ => ⟨a, vs, e, s.tup h, DpL.mono s f l⟩
  | .list _, _, _, f, ⟨a, vs, G, e, e2, h, l⟩ => ⟨a, vs, G, e, e2, (f a (by rw [e2]; exact List.mem_cons_self ..)).trans h, DpL.mono s (fun b hb => f b (by rw [e2]; exact List.mem_cons_of_mem _ hb)) l⟩
theorem DpL.mono (s : TSm (hid S H) (hid S' H')) : ∀ {ds : List PyData} {vs : List V} {F : List Addr}, (∀ a ∈ F, H' a = H a) → DpL K S H ds vs F → DpL K S' H' ds vs F
  | [], _, _, _, h => h
  | _ :: _, _, _, f, ⟨x, xs, F1, F2, e, e2, h, l⟩ => ⟨x, xs, F1, F2, e, e2, Dp.mono s (fun b hb => f b (by rw [e2]; exact List.mem_append_left _ hb)) h, DpL.mono s (fun b hb => f b (by rw [e2]; exact List.mem_append_right _ hb)) l⟩
end
end
def GR (K : PySem.W.Frag) (S M : Addr → Prop) (τ : DS) (σ : St) (H : Hp) : Prop := ∃ φ : Nat → List Addr, ∀ (i : Nat) (d : PyData), τ[i]? = some (some (.g d)) →
  (∃ v, σ[i]? = some (some v) ∧ Dp K S H d v (φ i)) ∧ (φ i).Nodup ∧ (∀ a ∈ φ i, M a) ∧ (∀ (j : Nat) (o : Ow) (a : Addr), τ[j]? = some (some o.L) → σ[j]? = some (some (.ref a)) → a ∉ φ i) ∧
    ∀ (j : Nat) (d' : PyData), j ≠ i → τ[j]? = some (some (.g d')) → ∀ a ∈ φ i, a ∉ φ j
theorem GR.nil {K : PySem.W.Frag} {S M : Addr → Prop} {τ : DS} {σ : St} {H : Hp} (h : ∀ (i : Nat) (d : PyData), τ[i]? ≠ some (some (.g d))) : GR K S M τ σ H := ⟨fun _ => [], fun i d e => absurd e (h i d)⟩
theorem GR.to {K : PySem.W.Frag} {S M S' M' : Addr → Prop} {τ τ' : DS} {σ σ' : St} {H H' : Hp} (g : GR K S M τ σ H) (ht : ∀ (i : Nat) (d : PyData), τ'[i]? = some (some (.g d)) → τ[i]? = some (some (.g d)) ∧ σ'[i]? = σ[i]?)
    (ho : ∀ (j : Nat) (o : Ow) (a : Addr), τ'[j]? = some (some o.L) → σ'[j]? = some (some (.ref a)) → (∃ o' : Ow, τ[j]? = some (some o'.L) ∧ σ[j]? = some (some (.ref a))) ∨ ¬ M a)
    (hm : ∀ a, M a → (∀ (j : Nat) (o : Ow), τ[j]? = some (some o.L) → σ[j]? ≠ some (some (.ref a))) → M' a ∧ H' a = H a) (ts : TSm (hid S H) (hid S' H')) : GR K S' M' τ' σ' H' := by
  obtain ⟨φ, g⟩ := g
  refine ⟨φ, fun i d e => ?_⟩
  obtain ⟨e1, e2⟩ := ht i d e
  obtain ⟨⟨v, g1, g2⟩, g3, g4, g5, g6⟩ := g i d e1
  have hm' : ∀ a ∈ φ i, M' a ∧ H' a = H a := fun a ha => hm a (g4 a ha) fun j o q q2 => g5 j o a q q2 ha
  refine ⟨⟨v, e2.trans g1, g2.mono ts fun a ha => (hm' a ha).2⟩, g3, fun a ha => (hm' a ha).1, fun j o a q1 q2 ha => ?_, fun j d' hj q => g6 j d' hj (ht j d' q).1⟩
  rcases ho j o a q1 q2 with ⟨o', z1, z2⟩ | z
  · exact g5 j o' a z1 z2 ha
  · exact z (g4 a ha)
structure R (K : PySem.W.Frag) (S M : Addr → Prop) (τ : DS) (σ : St) (H : Hp) : Prop where
  len : σ.length = τ.length
  dat : ∀ (i : Nat) (x : PyData), τ[i]? = some (some (.d x)) → ∃ v, σ[i]? = some (some v) ∧ Is K (hid S H) x v
  mt : ∀ (i : Nat) (o : Ow), τ[i]? = some (some o.L) → ∃ (a : Addr) (h : HO), σ[i]? = some (some (.ref a)) ∧ M a ∧ H a = some h ∧ IsO K (hid S H) o a h
  cst : ∀ (i : Nat) (xs : List PyData), τ[i]? = some (some (.c xs)) → ∃ (a : Addr) (vs : List V), σ[i]? = some (some (.ref a)) ∧ SqL K (hid S H) a vs ∧ IsL K (hid S H) xs vs
  inj : ∀ (i j : Nat) (o p : Ow) (a : Addr), τ[i]? = some (some o.L) → τ[j]? = some (some p.L) → σ[i]? = some (some (.ref a)) → σ[j]? = some (some (.ref a)) → i = j
  sub : ∀ a, M a → S a
  ex : ∀ a, S a → ∃ o, H a = some o
  gr : GR K S M τ σ H
def Res (K : PySem.W.Frag) (fr : Bool) (S : Addr → Prop) (H H' : Hp) (d : PyData) (v : V) : Prop := match fr with
  | false => Is K (hid S H') d v
  | true => ∃ (o : Ow) (a : Addr) (h : HO), d = o.D ∧ v = .ref a ∧ H a = none ∧ H' a = some h ∧ IsO K (hid (fun b => S b ∨ b = a) H') o a h
section
variable {K : PySem.W.Frag} {S M : Addr → Prop} {τ : DS} {σ : St} {H H' : Hp}
theorem R.fresh (r : R K S M τ σ H) {a : Addr} (h : H a = none) : ¬ S a := fun z => by
  obtain ⟨o, e⟩ := r.ex a z
  rw [h] at e; cases e
theorem R.ml (r : R K S M τ σ H) (i : Nat) (xs : List PyData) (e : τ[i]? = some (some (.m xs))) : ∃ (a : Addr) (vs : List V), σ[i]? = some (some (.ref a)) ∧ M a ∧ H a = some (.lst vs) ∧ IsL K (hid S H) xs vs := by
  obtain ⟨a, h, h1, h2, h3, vs, rfl, l⟩ := r.mt i (.l xs) e
  exact ⟨a, vs, h1, h2, h3, l⟩
theorem R.same (r : R K S M τ σ H) (s : Same H H') : R K S M τ σ H' where
  len := r.len
  dat := fun i x e => let ⟨v, a, b⟩ := r.dat i x e; ⟨v, a, b.mono (Same.keep s).same⟩
  mt := fun i o e => let ⟨a, h, h1, h2, h3, h4⟩ := r.mt i o e; ⟨a, h, h1, h2, s _ _ h3, h4.mono (Same.keep s).same⟩
  cst := fun i xs e => let ⟨a, vs, h1, h2, h3⟩ := r.cst i xs e; ⟨a, vs, h1, (Same.keep s).same.seq h2, h3.mono (Same.keep s).same⟩
  inj := r.inj
  sub := r.sub
  ex := fun a h => let ⟨o, e⟩ := r.ex a h; ⟨o, s _ _ e⟩
  gr := r.gr.to (fun i d e => ⟨e, rfl⟩) (fun j o a e q => .inl ⟨o, e, q⟩) (fun a h _ => ⟨h, by obtain ⟨o, e⟩ := r.ex a (r.sub a h); rw [e]; exact s _ _ e⟩) (tsS (Same.keep s).same)
theorem Res.is {fr : Bool} {d : PyData} {v : V} (h : Res K fr S H H' d v) (f : ∀ a, H a = none → ¬ S a) : Is K (hid S H') d v := by
  cases fr with
  | false => exact h
  | true =>
    obtain ⟨o, a, ho, rfl, rfl, h1, h2, h3⟩ := h
    exact IsO.is (h3.mono (hid_less fun b z => .inl z)) (hid_iff.mpr ⟨f a h1, h2⟩)
theorem Res.imp {fr : Bool} {d : PyData} {v : V} (h : Res K fr S H H' d v) (f : ∀ a, H a = none → ¬ S a) (fr' : Bool) (hf : fr' = true → fr = true) : Res K fr' S H H' d v := by
  cases fr' with
  | false => exact h.is f
  | true => rw [hf rfl] at h; exact h
end
abbrev DX := DS → Option (PyData × DS)
abbrev DT := DS → Option (Bool × DS)
inductive Ar where
  | d (x : PyData)
  | s (i : Nat)
abbrev DA := DS → Option (List Ar × DS)
inductive Out where
  | nx (τ : DS)
  | bk (τ : DS)
  | ct (τ : DS)
  | rt (d : PyData) (τ : DS)
abbrev DB := DS → Option Out
def Like (τ τ' : DS) : Prop := τ'.length = τ.length ∧ ∀ j : Nat, ((∀ x, τ'[j]? = some (some (.d x)) ↔ τ[j]? = some (some (.d x))) ∧ ∀ x, τ'[j]? = some (some (.c x)) ↔ τ[j]? = some (some (.c x))) ∧ ∀ b : Bool, (∃ o : Ow, o.fl = b ∧ τ'[j]? = some (some o.L)) ↔ ∃ o : Ow, o.fl = b ∧ τ[j]? = some (some o.L)
theorem Like.refl {τ : DS} : Like τ τ := ⟨rfl, fun j => ⟨⟨fun x => Iff.rfl, fun x => Iff.rfl⟩, fun b => Iff.rfl⟩⟩
theorem Like.trans {τ τ1 τ2 : DS} (a : Like τ τ1) (b : Like τ1 τ2) : Like τ τ2 := ⟨b.1.trans a.1, fun j => ⟨⟨fun x => ((b.2 j).1.1 x).trans ((a.2 j).1.1 x), fun x => ((b.2 j).1.2 x).trans ((a.2 j).1.2 x)⟩, fun c => ((b.2 j).2 c).trans ((a.2 j).2 c)⟩⟩
theorem Like.own {τ τ' : DS} (a : Like τ τ') (j : Nat) : (∃ o : Ow, τ'[j]? = some (some o.L)) ↔ ∃ o : Ow, τ[j]? = some (some o.L) :=
  ⟨fun ⟨o, h⟩ => let ⟨p, _, q⟩ := ((a.2 j).2 o.fl).mp ⟨o, rfl, h⟩; ⟨p, q⟩, fun ⟨o, h⟩ => let ⟨p, _, q⟩ := ((a.2 j).2 o.fl).mpr ⟨o, rfl, h⟩; ⟨p, q⟩⟩
theorem Like.ml {τ τ' : DS} (a : Like τ τ') {j : Nat} {xs : List PyData} (h : τ'[j]? = some (some (.m xs))) : ∃ ys, τ[j]? = some (some (.m ys)) := by
  obtain ⟨o, e, h⟩ := ((a.2 j).2 true).mp ⟨.l xs, rfl, h⟩
  cases o with
  | l ys => exact ⟨ys, h⟩
  | t ys => cases e
theorem Like.kl {τ τ' : DS} (a : Like τ τ') {j : Nat} {xs : List (List Int × PyData)} (h : τ'[j]? = some (some (.k xs))) : ∃ ys, τ[j]? = some (some (.k ys)) := by
  obtain ⟨o, e, h⟩ := ((a.2 j).2 false).mp ⟨.t xs, rfl, h⟩
  cases o with
  | l ys => cases e
  | t ys => exact ⟨ys, h⟩
structure E K (t : TE) (fr : Bool) (f : DX) : Prop where
  like : ∀ τ d τ', f τ = some (d, τ') → Like τ τ'
  run : ∀ S M τ σ H (Q : VK) d τ', R K S M τ σ H → f τ = some (d, τ') → (∀ v H', R K S M τ' σ H' → Chg M H H' → Res K fr S H H' d v → Q v H') → t σ H Q
structure T K (t : TT) (f : DT) : Prop where
  like : ∀ τ b τ', f τ = some (b, τ') → Like τ τ'
  run : ∀ S M τ σ H (Q : Bool → Hp → Prop) b τ', R K S M τ σ H → f τ = some (b, τ') → (∀ H', R K S M τ' σ H' → Chg M H H' → Q b H') → t σ H Q
def ArIs (K : PySem.W.Frag) (S : Addr → Prop) (σ : St) (H : Hp) : List Ar → List V → Prop
  | [], vs => vs = []
  | .d x :: rs, vs => ∃ v us, vs = v :: us ∧ Is K (hid S H) x v ∧ ArIs K S σ H rs us
  | .s i :: rs, vs => ∃ v us, vs = v :: us ∧ σ[i]? = some (some v) ∧ ArIs K S σ H rs us
theorem ArIs.mono {K : PySem.W.Frag} {S S' : Addr → Prop} {σ : St} {H H' : Hp} (k : Same (hid S H) (hid S' H')) : ∀ {rs : List Ar} {vs : List V}, ArIs K S σ H rs vs → ArIs K S' σ H' rs vs
  | [], _, h => h
  | .d x :: rs, _, ⟨v, us, e, h, l⟩ => ⟨v, us, e, h.mono k, ArIs.mono k l⟩
  | .s i :: rs, _, ⟨v, us, e, h, l⟩ => ⟨v, us, e, h, ArIs.mono k l⟩
structure A K (t : TA) (f : DA) : Prop where
  like : ∀ τ rs τ', f τ = some (rs, τ') → Like τ τ'
  run : ∀ S M τ σ H (Q : List V → Hp → Prop) rs τ', R K S M τ σ H → f τ = some (rs, τ') → (∀ vs H', R K S M τ' σ H' → Chg M H H' → ArIs K S σ H' rs vs → Q vs H') → t σ H Q
structure Frm where
  S : Addr → Prop
  M : Addr → Prop
  H : Hp
  ar : List (Option V)
structure RF (K : PySem.W.Frag) (F : Frm) (S M : Addr → Prop) (τ : DS) (σ : St) (H : Hp) : Prop where
  r : R K S M τ σ H
  sS : ∀ a, F.S a → S a
  old : ∀ b o, F.H b = some o → ¬ F.M b → H b = some o
  new : ∀ a, M a → F.M a ∨ F.H a = none
  fm : ∀ a, F.M a → M a
  fs : ∀ a, F.S a → ∃ o, F.H a = some o
  fsub : ∀ a, F.M a → F.S a
  snew : ∀ a, S a → F.S a ∨ F.H a = none
  par : ∀ (i : Nat) (v : V), F.ar[i]? = some (some v) → σ[i]? = some (some v)
  pm : ∀ (i : Nat) (v : V), F.ar[i]? = some (some v) → ∃ o : Ow, τ[i]? = some (some o.L)
  fma : ∀ a, F.M a → ∃ i : Nat, F.ar[i]? = some (some (.ref a))
def Gl (K : PySem.W.Frag) (F : Frm) (fr : Bool) (S : Addr → Prop) (H : Hp) (D : Ends) : Out → Prop
  | .nx τ' => ∀ S' M' σ' H', RF K F S' M' τ' σ' H' → Keep S H S' H' → D.nx σ' H'
  | .bk τ' => ∀ S' M' σ' H', RF K F S' M' τ' σ' H' → Keep S H S' H' → D.bk σ' H'
  | .ct τ' => ∀ S' M' σ' H', RF K F S' M' τ' σ' H' → Keep S H S' H' → D.ct σ' H'
  | .rt d τ' => ∀ S' M' σ' H' v, RF K F S' M' τ' σ' H' → Res K fr F.S F.H H' d v → D.rt v H'
def B (K : PySem.W.Frag) (np : Nat) (t : TS) (fr : Bool) (f : DB) : Prop := ∀ (F : Frm) S M τ σ H (D : Ends) out, F.ar.length ≤ np → RF K F S M τ σ H → f τ = some out → Gl K F fr S H D out → t D σ H
end DL
end
section
set_option Elab.async false
set_option linter.all false
set_option maxRecDepth 100000
namespace DL
open PySem L2
variable {K : PySem.W.Frag}
section
variable {S M : Addr → Prop} {τ τ' : DS} {σ : St} {H H' H2 : Hp}
theorem R.none (r : R K S M τ σ H') (c : Chg M H H') {a : Addr} (h : H' a = Option.none) : H a = Option.none := by
  cases e : H a with
  | none => rfl
  | some o =>
    exfalso
    by_cases hm : M a
    · obtain ⟨o', e'⟩ := r.ex a (r.sub a hm)
      rw [h] at e'; cases e'
    · have := c a o hm e
      rw [h] at this; cases this
theorem Res.back {fr : Bool} {d : PyData} {v : V} (h : Res K fr S H' H2 d v) (r : R K S M τ σ H') (c : Chg M H H') : Res K fr S H H2 d v := by
  cases fr with
  | false => exact h
  | true =>
    obtain ⟨xs, a, vs, e1, e2, h1, h2, h3⟩ := h
    exact ⟨xs, a, vs, e1, e2, r.none c h1, h2, h3⟩
theorem R.isr (r : R K S M τ σ H) {fr : Bool} {d : PyData} {v : V} (h : Res K fr S H H' d v) : Is K (hid S H') d v := h.is fun _ z => r.fresh z
end
theorem E.weak {t : TE} {fr : Bool} {f : DX} (h : E K t fr f) : E K t false f := ⟨h.like, fun S M τ σ H Q d τ' r e q => h.run S M τ σ H Q d τ' r e fun v H' r' c res => q v H' r' c (r.isr res)⟩
def dVar (i : Nat) (τ : DS) : Option (PyData × DS) := match τ[i]? with
  | some (some (.d x)) => some (x, τ)
  | _ => none
theorem e_var {i : Nat} : E K (tVar i) false (dVar i) := by
  refine ⟨fun τ d τ' e => ?_, ?_⟩
  · unfold dVar at e; split at e
    · cases e; exact .refl
    · cases e
  intro S M τ σ H Q d τ' r e q
  unfold dVar at e
  split at e
  · rename_i x hx
    cases e
    obtain ⟨v, h1, h2⟩ := r.dat i _ hx
    exact ⟨v, h1, q v H r .refl h2⟩
  · cases e
def dC (d : PyData) (τ : DS) : Option (PyData × DS) := some (d, τ)
theorem e_c {d : PyData} {v : V} (h : ∀ H, Is K H d v) : E K (tC v) false (dC d) := by
  refine ⟨fun τ d τ' e => ?_, ?_⟩
  · cases e; exact .refl
  intro S M τ σ H Q d' τ' r e q
  cases e
  exact q v H r .refl (h _)
theorem e_int {i : Int} : E K (tC (.int i)) false (dC (.int i)) := e_c fun _ => rfl
theorem e_bl {b : Bool} : E K (tC (.bl b)) false (dC (.bool b)) := e_c fun _ => rfl
def OR (K : PySem.W.Frag) (fr : Bool) (r : R2) (F : PyData → PyData → Option PyData) : Prop := ∀ (S : Addr → Prop) H x y dx dy d (Q : VK), (∀ a, H a = none → ¬ S a) → Is K (hid S H) dx x → Is K (hid S H) dy y → F dx dy = some d → (∀ v H', Same H H' → Res K fr S H H' d v → Q v H') → r x y H Q
def dOp (F : PyData → PyData → Option PyData) (a b : DX) (τ : DS) : Option (PyData × DS) := (a τ).bind fun p => (b p.2).bind fun q => (F p.1 q.1).map fun d => (d, q.2)
theorem e_op {fr fa fb : Bool} {r : R2} {F : PyData → PyData → Option PyData} {ta tb : TE} {a b : DX} (h : OR K fr r F) (ha : E K ta fa a) (hb : E K tb fb b) : E K (tOp r ta tb) fr (dOp F a b) := by
  refine ⟨fun τ d τ' e => ?_, ?_⟩
  · unfold dOp at e; obtain ⟨⟨x, τ1⟩, e1, e⟩ := Option.bind_eq_some_iff.mp e; obtain ⟨⟨y, τ2⟩, e2, e⟩ := Option.bind_eq_some_iff.mp e; obtain ⟨z, e3, e⟩ := Option.map_eq_some_iff.mp e; cases e; exact (ha.like _ _ _ e1).trans (hb.like _ _ _ e2)
  intro S M τ σ H Q d τ' rr e q
  unfold dOp at e
  obtain ⟨⟨x, τ1⟩, e1, e⟩ := Option.bind_eq_some_iff.mp e
  obtain ⟨⟨y, τ2⟩, e2, e⟩ := Option.bind_eq_some_iff.mp e
  obtain ⟨z, e3, e⟩ := Option.map_eq_some_iff.mp e
  cases e
  refine ha.run S M τ σ H _ x τ1 rr e1 fun v1 H1 r1 c1 i1 => ?_
  refine hb.run S M τ1 σ H1 _ y τ2 r1 e2 fun v2 H2 r2 c2 i2 => ?_
  refine h S H2 v1 v2 x y d _ (fun _ => r2.fresh) ((rr.isr i1).mono (c2.keep r1.sub).same) (r1.isr i2) e3 fun v H' s res => ?_
  exact q v H' (r2.same s) ((c1.trans c2).trans (.of s)) (res.back r2 (c1.trans c2))
def dUn (F : PyData → Option PyData) (a : DX) (τ : DS) : Option (PyData × DS) := (a τ).bind fun p => (F p.1).map fun d => (d, p.2)
def fI (g : Int → Int → PyData) : PyData → PyData → Option PyData
  | .int i, .int j => some (g i j)
  | _, _ => none
def fC (C : Int → Int → Prop) [∀ i j, Decidable (C i j)] (g : Int → Int → PyData) : PyData → PyData → Option PyData
  | .int i, .int j => if C i j then some (g i j) else none
  | _, _ => none
theorem fI_some {g : Int → Int → PyData} {x y d : PyData} (h : fI g x y = some d) : ∃ i j, x = .int i ∧ y = .int j ∧ d = g i j := by
  unfold fI at h
  split at h
  · exact ⟨_, _, rfl, rfl, (Option.some.inj h).symm⟩
  · cases h
theorem fC_some {C : Int → Int → Prop} [∀ i j, Decidable (C i j)] {g : Int → Int → PyData} {x y d : PyData} (h : fC C g x y = some d) : ∃ i j, x = .int i ∧ y = .int j ∧ C i j ∧ d = g i j := by
  unfold fC at h
  split at h
  · split at h
    · rename_i hc; exact ⟨_, _, rfl, rfl, hc, (Option.some.inj h).symm⟩
    · cases h
  · cases h
theorem or_I {g : Int → Int → V} {g' : Int → Int → PyData} (h : ∀ i j H, Is K H (g' i j) (g i j)) : OR K false (rI0 g) (fI g') := by
  intro S H x y dx dy d Q _ ix iy e q
  obtain ⟨i, j, rfl, rfl, rfl⟩ := fI_some e
  exact ⟨i, j, ix, iy, q _ H (fun _ _ e => e) (h _ _ _)⟩
theorem or_C {C : Int → Int → Prop} [∀ i j, Decidable (C i j)] {g : Int → Int → V} {g' : Int → Int → PyData} (h : ∀ i j H, Is K H (g' i j) (g i j)) : OR K false (rI C g) (fC C g') := by
  intro S H x y dx dy d Q _ ix iy e q
  obtain ⟨i, j, rfl, rfl, c, rfl⟩ := fC_some e
  exact ⟨i, j, ix, iy, c, q _ H (fun _ _ e => e) (h _ _ _)⟩
instance {i j : Int} : Decidable (CMulB i j) := by unfold CMulB CMul Bd; infer_instance
instance {i j : Int} : Decidable (CDivB i j) := by unfold CDivB Bd; infer_instance
instance {i j : Int} : Decidable (CPow i j) := by unfold CPow; infer_instance
def fAdd := fI fun i j => .int (i + j)
def fSub := fI fun i j => .int (i - j)
def fMul := fC CMulB fun i j => .int (i * j)
def fDiv := fC CDivB fun i j => .int (i / j)
def fMod := fC (fun _ j => 0 < j) fun i j => .int (i % j)
def fPow := fC CPow fun i j => .int (i ^ j.toNat)
def fLt := fI fun i j => .bool (decide (i < j))
def fLe := fI fun i j => .bool (decide (i ≤ j))
def fGt := fI fun i j => .bool (decide (j < i))
def fGe := fI fun i j => .bool (decide (j ≤ i))
theorem o_add : OR K false (rI0 fun i j => .int (i + j)) fAdd := or_I fun _ _ _ => rfl
theorem o_sub : OR K false (rI0 fun i j => .int (i - j)) fSub := or_I fun _ _ _ => rfl
theorem o_mul : OR K false (rI CMulB fun i j => .int (i * j)) fMul := or_C fun _ _ _ => rfl
theorem o_div : OR K false (rI CDivB fun i j => .int (i / j)) fDiv := or_C fun _ _ _ => rfl
theorem o_mod : OR K false (rI (fun _ j => 0 < j) fun i j => .int (i % j)) fMod := or_C fun _ _ _ => rfl
theorem o_pow : OR K false (rI CPow fun i j => .int (i ^ j.toNat)) fPow := or_C fun _ _ _ => rfl
theorem o_lt : OR K false (rI0 fun i j => .bl (decide (i < j))) fLt := or_I fun _ _ _ => rfl
theorem o_le : OR K false (rI0 fun i j => .bl (decide (i ≤ j))) fLe := or_I fun _ _ _ => rfl
theorem o_ge : OR K false (rI0 fun i j => .bl (decide (j ≤ i))) fGe := or_I fun _ _ _ => rfl
def fNeg : PyData → Option PyData
  | .int i => some (.int (-i))
  | _ => none
def fEq (x y : PyData) : Option PyData := if okD x && okD y then some (.bool (PyData.eqv x y)) else none
def fNe (x y : PyData) : Option PyData := if okD x && okD y then some (.bool (!PyData.eqv x y)) else none
theorem o_eq : OR K false (rEqK K) fEq := by
  intro S H x y dx dy d Q _ ix iy e q
  unfold fEq at e
  split at e
  · rename_i h
    rw [Bool.and_eq_true] at h
    cases e
    exact ⟨dx, dy, ix.mono same_hid, iy.mono same_hid, h.1, h.2, q _ H (fun _ _ e => e) rfl⟩
  · cases e
theorem o_ne : OR K false (rNeK K) fNe := by
  intro S H x y dx dy d Q _ ix iy e q
  unfold fNe at e
  split at e
  · rename_i h
    rw [Bool.and_eq_true] at h
    cases e
    exact ⟨dx, dy, ix.mono same_hid, iy.mono same_hid, h.1, h.2, q _ H (fun _ _ e => e) rfl⟩
  · cases e
def isNo : PyData → Bool
  | .none => true
  | _ => false
def fIsN (x y : PyData) : Option PyData := match y with
  | .none => some (.bool (isNo x))
  | _ => none
def fNotN (x y : PyData) : Option PyData := match y with
  | .none => some (.bool (!isNo x))
  | _ => none
def fIxL : PyData → PyData → Option PyData
  | .list xs, .int i => atI xs i
  | _, _ => none
def fIxT : PyData → PyData → Option PyData
  | .tuple xs, .int i => atI xs i
  | _, _ => none
theorem isl_at {H : Hp} {ds : List PyData} {vs : List V} {i : Int} {d : PyData} (h : IsL K H ds vs) (e : atI ds i = some d) : ∃ v, atI vs i = some v ∧ Is K H d v := by
  unfold atI at e ⊢
  rw [h.length]
  cases q : ixN ds.length i with
  | none => rw [q] at e; cases e
  | some j =>
    rw [q] at e
    exact h.get (show ds[j]? = some d from e)
theorem o_ixL : OR K false (rIxL K) fIxL := by
  intro S H x y dx dy d Q _ ix iy e q
  unfold fIxL at e
  split at e
  · obtain ⟨a, vs, rfl, h, l⟩ := ix
    obtain ⟨v, h1, h2⟩ := isl_at l e
    exact ⟨a, vs, _, v, rfl, iy, SqL.of (hid_iff.mp h).2, h1, q _ H (fun _ _ e => e) h2⟩
  · cases e
theorem o_ixT : OR K false (rIxT K) fIxT := by
  intro S H x y dx dy d Q _ ix iy e q
  unfold fIxT at e
  split at e
  · obtain ⟨a, vs, rfl, h, l⟩ := ix
    obtain ⟨v, h1, h2⟩ := isl_at l e
    exact ⟨a, vs, _, v, rfl, iy, Same.tup same_hid h, h1, q _ H (fun _ _ e => e) h2⟩
  · cases e
theorem isl_append {H : Hp} : ∀ {xs ys : List PyData} {vs us : List V}, IsL K H xs vs → IsL K H ys us → IsL K H (xs ++ ys) (vs ++ us)
  | [], _, _, _, h, k => by rw [show _ = [] from h]; exact k
  | _ :: _, _, _, _, ⟨x, xs, e, h, l⟩, k => by subst e; exact ⟨x, _, rfl, h, isl_append l k⟩
theorem res_new {S : Addr → Prop} {H : Hp} {xs : List PyData} {vs : List V} {p : Addr} (hp : H p = none) (l : IsL K (hid S H) xs vs) : Res K true S H (upd H p (.lst vs)) (.list xs) (.ref p) := by
  refine ⟨.l xs, p, _, rfl, rfl, hp, upd_same, vs, rfl, l.mono (Keep.same fun b o hn e => ?_)⟩
  have : b ≠ p := ne_of_none e hp
  exact ⟨fun z => z.elim hn this, by rw [upd_ne this]; exact e⟩
def dTest (a : DX) (τ : DS) : Option (Bool × DS) := (a τ).bind fun p => match p.1 with
  | .bool b => some (b, p.2)
  | _ => none
theorem t_test {fr : Bool} {t : TE} {a : DX} (h : E K t fr a) : T K (tTest t) (dTest a) := by
  refine ⟨fun τ d τ' e => ?_, ?_⟩
  · unfold dTest at e; obtain ⟨⟨x, τ1⟩, e1, e⟩ := Option.bind_eq_some_iff.mp e; dsimp only at e; split at e
    · cases e; exact h.like _ _ _ e1
    · cases e
  intro S M τ σ H Q b τ' r e q
  unfold dTest at e
  obtain ⟨⟨x, τ1⟩, e1, e⟩ := Option.bind_eq_some_iff.mp e
  dsimp only at e
  split at e
  · cases e
    refine h.run S M τ σ H _ _ _ r e1 fun v H' r' c i => ?_
    exact ⟨b, (show v = .bl b from r.isr i), q H' r' c⟩
  · cases e
theorem t_val {fr : Bool} {t : TE} {a : DX} (h : E K t fr a) : T K (tB t) (dTest a) := t_test h
def dTAnd (a b : DT) (τ : DS) : Option (Bool × DS) := (a τ).bind fun p => if p.1 = true then b p.2 else some (false, p.2)
def dTOr (a b : DT) (τ : DS) : Option (Bool × DS) := (a τ).bind fun p => if p.1 = true then some (true, p.2) else b p.2
def dTNot (a : DT) (τ : DS) : Option (Bool × DS) := (a τ).map fun p => (!p.1, p.2)
theorem t_and {ta tb : TT} {a b : DT} (ha : T K ta a) (hb : T K tb b) : T K (tAnd ta tb) (dTAnd a b) := by
  refine ⟨fun τ d τ' e => ?_, ?_⟩
  · unfold dTAnd at e; obtain ⟨⟨c, τ1⟩, e1, e⟩ := Option.bind_eq_some_iff.mp e; cases c with
    | true => exact (ha.like _ _ _ e1).trans (hb.like _ _ _ e)
    | false => cases e; exact ha.like _ _ _ e1
  intro S M τ σ H Q k τ' r e q
  unfold dTAnd at e
  obtain ⟨⟨c, τ1⟩, e1, e⟩ := Option.bind_eq_some_iff.mp e
  refine ha.run S M τ σ H _ c τ1 r e1 fun H1 r1 c1 => ?_
  cases c with
  | true => exact hb.run S M τ1 σ H1 _ k τ' r1 e fun H2 r2 c2 => q H2 r2 (c1.trans c2)
  | false => cases e; exact q H1 r1 c1
theorem t_or {ta tb : TT} {a b : DT} (ha : T K ta a) (hb : T K tb b) : T K (tOr ta tb) (dTOr a b) := by
  refine ⟨fun τ d τ' e => ?_, ?_⟩
  · unfold dTOr at e; obtain ⟨⟨c, τ1⟩, e1, e⟩ := Option.bind_eq_some_iff.mp e; cases c with
    | false => exact (ha.like _ _ _ e1).trans (hb.like _ _ _ e)
    | true => cases e; exact ha.like _ _ _ e1
  intro S M τ σ H Q k τ' r e q
  unfold dTOr at e
  obtain ⟨⟨c, τ1⟩, e1, e⟩ := Option.bind_eq_some_iff.mp e
  refine ha.run S M τ σ H _ c τ1 r e1 fun H1 r1 c1 => ?_
  cases c with
  | false => exact hb.run S M τ1 σ H1 _ k τ' r1 e fun H2 r2 c2 => q H2 r2 (c1.trans c2)
  | true => cases e; exact q H1 r1 c1
theorem t_not {ta : TT} {a : DT} (ha : T K ta a) : T K (tNot ta) (dTNot a) := by
  refine ⟨fun τ d τ' e => ?_, ?_⟩
  · unfold dTNot at e; obtain ⟨⟨c, τ1⟩, e1, e⟩ := Option.map_eq_some_iff.mp e; cases e; exact ha.like _ _ _ e1
  intro S M τ σ H Q k τ' r e q
  unfold dTNot at e
  obtain ⟨⟨c, τ1⟩, e1, e⟩ := Option.map_eq_some_iff.mp e
  cases e
  exact ha.run S M τ σ H _ c _ r e1 fun H1 r1 c1 => q H1 r1 c1
def dIf (c : DT) (a b : DX) (τ : DS) : Option (PyData × DS) := (c τ).bind fun p => if p.1 = true then a p.2 else b p.2
def dAnd (a b : DX) (τ : DS) : Option (PyData × DS) := (dTest a τ).bind fun p => if p.1 = true then b p.2 else some (.bool false, p.2)
def dOr (a b : DX) (τ : DS) : Option (PyData × DS) := (dTest a τ).bind fun p => if p.1 = true then some (.bool true, p.2) else b p.2
def dNot (a : DX) (τ : DS) : Option (PyData × DS) := (dTest a τ).map fun p => (.bool (!p.1), p.2)
def dChain (F G : PyData → PyData → Option PyData) (a b c : DX) (τ : DS) : Option (PyData × DS) := (a τ).bind fun p => (b p.2).bind fun q => (F p.1 q.1).bind fun z => match z with
  | .bool true => (c q.2).bind fun s => (G q.1 s.1).map fun d => (d, s.2)
  | .bool false => some (.bool false, q.2)
  | _ => none
theorem e_chain {fa fb fc : Bool} {r r' : R2} {F G : PyData → PyData → Option PyData} {ta tb tc : TE} {a b c : DX} (h : OR K false r F) (h' : OR K false r' G) (ha : E K ta fa a) (hb : E K tb fb b) (hc : E K tc fc c) : E K (tChain r r' ta tb tc) false (dChain F G a b c) := by
  refine ⟨fun τ d τ' e => ?_, ?_⟩
  · unfold dChain at e; obtain ⟨⟨x, τ1⟩, e1, e⟩ := Option.bind_eq_some_iff.mp e; obtain ⟨⟨y, τ2⟩, e2, e⟩ := Option.bind_eq_some_iff.mp e; obtain ⟨z, e3, e⟩ := Option.bind_eq_some_iff.mp e; split at e
    · obtain ⟨⟨w, τ4⟩, e4, e⟩ := Option.bind_eq_some_iff.mp e; obtain ⟨z, e5, e⟩ := Option.map_eq_some_iff.mp e; cases e; exact ((ha.like _ _ _ e1).trans (hb.like _ _ _ e2)).trans (hc.like _ _ _ e4)
    · cases e; exact (ha.like _ _ _ e1).trans (hb.like _ _ _ e2)
    · cases e
  intro S M τ σ H Q d τ' rr e q
  unfold dChain at e
  obtain ⟨⟨x, τ1⟩, e1, e⟩ := Option.bind_eq_some_iff.mp e
  obtain ⟨⟨y, τ2⟩, e2, e⟩ := Option.bind_eq_some_iff.mp e
  obtain ⟨z, e3, e⟩ := Option.bind_eq_some_iff.mp e
  refine ha.run S M τ σ H _ x τ1 rr e1 fun v1 H1 r1 c1 i1 => ?_
  refine hb.run S M τ1 σ H1 _ y τ2 r1 e2 fun v2 H2 r2 c2 i2 => ?_
  have j2 := r1.isr i2
  refine h S H2 v1 v2 x y z _ (fun _ => r2.fresh) ((rr.isr i1).mono (c2.keep r1.sub).same) j2 e3 fun v H3 s res => ?_
  have r3 := r2.same s
  have c3 : Chg M H H3 := (c1.trans c2).trans (.of s)
  split at e
  · obtain ⟨⟨w, τ4⟩, e4, e⟩ := Option.bind_eq_some_iff.mp e
    obtain ⟨z, e5, e⟩ := Option.map_eq_some_iff.mp e
    cases e
    refine ⟨true, res, ?_⟩
    refine hc.run S M τ2 σ H3 _ w _ r3 e4 fun v4 H4 r4 c4 i4 => ?_
    refine h' S H4 v2 v4 y w d _ (fun _ => r4.fresh) ((j2.mono (Same.keep s).same).mono (c4.keep r3.sub).same) (r3.isr i4) e5 fun v5 H5 s5 res5 => ?_
    exact q v5 H5 (r4.same s5) ((c3.trans c4).trans (.of s5)) res5
  · cases e
    exact ⟨false, res, q _ H3 r3 c3 rfl⟩
  · cases e
end DL
end
section
set_option Elab.async false
set_option linter.all false
set_option maxRecDepth 100000
namespace DL
open PySem L2
variable {K : PySem.W.Frag}
def dANil (τ : DS) : Option (List Ar × DS) := some ([], τ)
def dACons (a : DX) (r : DA) (τ : DS) : Option (List Ar × DS) := (a τ).bind fun p => (r p.2).map fun q => (.d p.1 :: q.1, q.2)
theorem a_nil : A K tNil dANil := by
  refine ⟨fun τ d τ' e => ?_, ?_⟩
  · cases e; exact .refl
  intro S M τ σ H Q rs τ' r e q
  cases e
  exact q [] H r .refl rfl
theorem a_cons {fr : Bool} {te : TE} {t : TA} {a : DX} {f : DA} (ha : E K te fr a) (hr : A K t f) : A K (tCons te t) (dACons a f) := by
  refine ⟨fun τ d τ' e => ?_, ?_⟩
  · unfold dACons at e
    obtain ⟨⟨x, τ1⟩, e1, e⟩ := Option.bind_eq_some_iff.mp e
    obtain ⟨⟨y, τ2⟩, e2, e⟩ := Option.map_eq_some_iff.mp e
    cases e
    exact (ha.like _ _ _ e1).trans (hr.like _ _ _ e2)
  intro S M τ σ H Q rs τ' r e q
  unfold dACons at e
  obtain ⟨⟨x, τ1⟩, e1, e⟩ := Option.bind_eq_some_iff.mp e
  obtain ⟨⟨y, τ2⟩, e2, e⟩ := Option.map_eq_some_iff.mp e
  cases e
  refine ha.run S M τ σ H _ x τ1 r e1 fun v H1 r1 c1 i1 => ?_
  refine hr.run S M τ1 σ H1 _ y _ r1 e2 fun vs H2 r2 c2 i2 => ?_
  exact q (v :: vs) H2 r2 (c1.trans c2) ⟨v, vs, rfl, (r.isr i1).mono (c2.keep r1.sub).same, i2⟩
def allD : List Ar → Option (List PyData)
  | [] => some []
  | .d x :: r => (allD r).map (x :: ·)
  | .s _ :: _ => none
theorem allD_is {S : Addr → Prop} {σ : St} {H : Hp} : ∀ {rs : List Ar} {vs : List V} {ds : List PyData}, ArIs K S σ H rs vs → allD rs = some ds → IsL K (hid S H) ds vs
  | [], _, _, h, e => by cases e; exact h
  | .d x :: r, _, _, ⟨v, us, e1, h, l⟩, e => by
    obtain ⟨ds, e2, e⟩ := Option.map_eq_some_iff.mp e
    cases e
    exact ⟨v, us, e1, h, allD_is l e2⟩
  | .s _ :: _, _, _, _, e => by cases e
def dTup (a : DA) (τ : DS) : Option (PyData × DS) := (a τ).bind fun p => (allD p.1).bind fun ds => if ds.length ≤ sizeLine then some (.tuple ds, p.2) else none
def dLst (a : DA) (τ : DS) : Option (PyData × DS) := (a τ).bind fun p => (allD p.1).bind fun ds => if ds.length ≤ sizeLine then some (.list ds, p.2) else none
theorem e_tup {t : TA} {a : DA} (ha : A K t a) : E K (tTup t) false (dTup a) := by
  refine ⟨fun τ d τ' e => ?_, ?_⟩
  · unfold dTup at e
    obtain ⟨⟨x, τ1⟩, e1, e⟩ := Option.bind_eq_some_iff.mp e
    obtain ⟨ds, e2, e⟩ := Option.bind_eq_some_iff.mp e
    split at e
    · cases e; exact ha.like _ _ _ e1
    · cases e
  intro S M τ σ H Q d τ' r e q
  unfold dTup at e
  obtain ⟨⟨x, τ1⟩, e1, e⟩ := Option.bind_eq_some_iff.mp e
  obtain ⟨ds, e2, e⟩ := Option.bind_eq_some_iff.mp e
  split at e
  · rename_i hz
    cases e
    refine ha.run S M τ σ H _ x _ r e1 fun vs H1 r1 c1 i1 => ?_
    have l := allD_is i1 e2
    refine ⟨by rw [l.length]; exact hz, fun p hp => ?_⟩
    have s := same_new hp (HO.tup vs)
    exact q _ _ (r1.same s) (c1.trans (.of s)) ⟨p, vs, rfl, SqT.of (hid_iff.mpr ⟨r1.fresh hp, upd_same⟩), l.mono (Same.keep s).same⟩
  · cases e
theorem e_lst {t : TA} {a : DA} (ha : A K t a) : E K (tLst t) true (dLst a) := by
  refine ⟨fun τ d τ' e => ?_, ?_⟩
  · unfold dLst at e
    obtain ⟨⟨x, τ1⟩, e1, e⟩ := Option.bind_eq_some_iff.mp e
    obtain ⟨ds, e2, e⟩ := Option.bind_eq_some_iff.mp e
    split at e
    · cases e; exact ha.like _ _ _ e1
    · cases e
  intro S M τ σ H Q d τ' r e q
  unfold dLst at e
  obtain ⟨⟨x, τ1⟩, e1, e⟩ := Option.bind_eq_some_iff.mp e
  obtain ⟨ds, e2, e⟩ := Option.bind_eq_some_iff.mp e
  split at e
  · rename_i hz
    cases e
    refine ha.run S M τ σ H _ x _ r e1 fun vs H1 r1 c1 i1 => ?_
    have l := allD_is i1 e2
    refine ⟨by rw [l.length]; exact hz, fun p hp => ?_⟩
    have s := same_new hp (HO.lst vs)
    exact q _ _ (r1.same s) (c1.trans (.of s)) ((res_new hp l).back r1 c1)
  · cases e
def BR (K : PySem.W.Frag) (fr : Bool) (r : List V → Hp → VK → Prop) (F : List PyData → Option PyData) : Prop := ∀ (S : Addr → Prop) H vs ds d (Q : VK), (∀ a, H a = none → ¬ S a) → IsL K (hid S H) ds vs → F ds = some d → (∀ v H', Same H H' → Res K fr S H H' d v → Q v H') → r vs H Q
def dApp (F : List PyData → Option PyData) (a : DA) (τ : DS) : Option (PyData × DS) := (a τ).bind fun p => (allD p.1).bind fun ds => (F ds).map fun d => (d, p.2)
theorem e_app {fr : Bool} {r : List V → Hp → VK → Prop} {F : List PyData → Option PyData} {t : TA} {a : DA} (h : BR K fr r F) (ha : A K t a) : E K (tCB r t) fr (dApp F a) := by
  refine ⟨fun τ d τ' e => ?_, ?_⟩
  · unfold dApp at e
    obtain ⟨⟨x, τ1⟩, e1, e⟩ := Option.bind_eq_some_iff.mp e
    obtain ⟨ds, e2, e⟩ := Option.bind_eq_some_iff.mp e
    obtain ⟨z, e3, e⟩ := Option.map_eq_some_iff.mp e
    cases e; exact ha.like _ _ _ e1
  intro S M τ σ H Q d τ' rr e q
  unfold dApp at e
  obtain ⟨⟨x, τ1⟩, e1, e⟩ := Option.bind_eq_some_iff.mp e
  obtain ⟨ds, e2, e⟩ := Option.bind_eq_some_iff.mp e
  obtain ⟨z, e3, e⟩ := Option.map_eq_some_iff.mp e
  cases e
  refine ha.run S M τ σ H _ x _ rr e1 fun vs H1 r1 c1 i1 => ?_
  refine h S H1 vs ds d _ (fun _ => r1.fresh) (allD_is i1 e2) e3 fun v H' s res => ?_
  exact q v H' (r1.same s) (c1.trans (.of s)) (res.back r1 c1)
def spD (K : PySem.W.Frag) (G : List L → Option (PyData × List L)) (fr : Bool) : Sp := fun vs H Q _ => ∃ (S M : Addr → Prop) (ls : List L) (r : PyData) (ls' : List L), R K S M (ls.map some) (vs.map some) H ∧ G ls = some (r, ls') ∧
  ∀ v H', R K S M (ls'.map some) (vs.map some) H' → Chg M H H' → Res K fr S H H' r v → Q v H'
theorem r_args {S M : Addr → Prop} {τ : DS} {σ : St} {H : Hp} (r : R K S M τ σ H) {ds : List PyData} {vs : List V} (l : IsL K (hid S H) ds vs) : R K S (fun _ => False) ((ds.map L.d).map some) (vs.map some) H where
  len := by rw [List.length_map, List.length_map, List.length_map, l.length]
  dat := fun i x e => by
    rw [List.getElem?_map, List.getElem?_map] at e
    cases q : ds[i]? with
    | none => rw [q] at e; cases e
    | some d =>
      rw [q] at e
      cases e
      obtain ⟨v, h1, h2⟩ := l.get q
      exact ⟨v, by rw [List.getElem?_map, h1]; rfl, h2⟩
  mt := fun i o e => by
    rw [List.getElem?_map, List.getElem?_map] at e
    cases q : ds[i]? with
    | none => rw [q] at e; cases e
    | some d => rw [q] at e; cases o <;> cases e
  cst := fun i xs e => by
    rw [List.getElem?_map, List.getElem?_map] at e
    cases q : ds[i]? with
    | none => rw [q] at e; cases e
    | some d => rw [q] at e; cases e
  inj := fun i j o p a e => by
    rw [List.getElem?_map, List.getElem?_map] at e
    cases q : ds[i]? with
    | none => rw [q] at e; cases e
    | some d => rw [q] at e; cases o <;> cases e
  sub := fun a h => h.elim
  ex := r.ex
  gr := GR.nil fun i d e => by
    rw [List.getElem?_map, List.getElem?_map] at e
    cases q : ds[i]? with
    | none => rw [q] at e; cases e
    | some d => rw [q] at e; cases e
def dCall (G : List L → Option (PyData × List L)) (a : DA) (τ : DS) : Option (PyData × DS) := (a τ).bind fun p => (allD p.1).bind fun ds => (G (ds.map L.d)).map fun q => (q.1, p.2)
theorem e_call {fr : Bool} {G : List L → Option (PyData × List L)} {t : TA} {a : DA} {X : XK} (ha : A K t a) : E K (tCall (spD K G fr) [] X t) fr (dCall G a) := by
  refine ⟨fun τ d τ' e => ?_, ?_⟩
  · unfold dCall at e
    obtain ⟨⟨x, τ1⟩, e1, e⟩ := Option.bind_eq_some_iff.mp e
    obtain ⟨ds, e2, e⟩ := Option.bind_eq_some_iff.mp e
    obtain ⟨z, e3, e⟩ := Option.map_eq_some_iff.mp e
    cases e; exact ha.like _ _ _ e1
  intro S M τ σ H Q d τ' rr e q
  unfold dCall at e
  obtain ⟨⟨x, τ1⟩, e1, e⟩ := Option.bind_eq_some_iff.mp e
  obtain ⟨ds, e2, e⟩ := Option.bind_eq_some_iff.mp e
  obtain ⟨⟨z, ls'⟩, e3, e⟩ := Option.map_eq_some_iff.mp e
  cases e
  refine ha.run S M τ σ H _ x _ rr e1 fun vs H1 r1 c1 i1 => ?_
  have l := allD_is i1 e2
  show spD K G fr (vs ++ []) H1 Q X
  rw [List.append_nil]
  refine ⟨S, fun _ => False, ds.map L.d, _, ls', r_args r1 l, e3, fun v H' _ c res => ?_⟩
  have s : Same H1 H' := fun b o e => c b o (fun z => z) e
  exact q v H' (r1.same s) (c1.trans (.of s)) (res.back r1 c1)
theorem owL_inj {a b : Ow} (h : some (some a.L) = some (some b.L)) : a = b := Ow.inj (Option.some.inj (Option.some.inj h))
theorem R.setO {S M : Addr → Prop} {τ : DS} {σ : St} {H H' : Hp} (r : R K S M τ σ H) {i : Nat} {a : Addr} {w w' : Ow} {h : HO} (hi : τ[i]? = some (some w.L)) (ha : σ[i]? = some (some (.ref a)))
    (c : Chg (fun b => b = a) H H') (h' : H' a = some h) (l : IsO K (hid S H') w' a h) : R K S M (τ.set i (some w'.L)) σ H' := by
  have hlt : i < τ.length := (List.getElem?_eq_some_iff.mp hi).1
  have Sa : S a := by
    obtain ⟨b, us, h1, h2, _⟩ := r.mt i w hi
    rw [ha] at h1; cases h1
    exact r.sub _ h2
  have k : Keep S H S H' := c.keep fun b e => by subst e; exact Sa
  have ne : ∀ j, j ≠ i → (τ.set i (some w'.L))[j]? = τ[j]? := fun j hj => List.getElem?_set_ne (Ne.symm hj)
  have se : (τ.set i (some w'.L))[i]? = some (some w'.L) := List.getElem?_set_self hlt
  refine ⟨by rw [List.length_set]; exact r.len, fun j x e => ?_, fun j ys e => ?_, fun j x e => ?_, fun j1 j2 ys zs b e1 e2 f1 f2 => ?_, r.sub, fun b hb => ?_, r.gr.to (fun j d e => ?_) (fun j o b e q => ?_) (fun b hb hn => ⟨hb, ?_⟩) (tsS k.same)⟩
  · by_cases hj : j = i
    · subst hj; rw [se] at e; exact absurd (Option.some.inj (Option.some.inj e)) Ow.not_d
    · rw [ne j hj] at e
      obtain ⟨v, h1, h2⟩ := r.dat j x e
      exact ⟨v, h1, h2.mono k.same⟩
  · by_cases hj : j = i
    · subst hj
      rw [se] at e
      obtain rfl := Ow.inj (Option.some.inj (Option.some.inj e))
      obtain ⟨b, us, h1, h2, _⟩ := r.mt j w hi
      rw [ha] at h1; cases h1
      exact ⟨a, h, ha, h2, h', l⟩
    · rw [ne j hj] at e
      obtain ⟨b, us, h1, h2, h3, h4⟩ := r.mt j ys e
      refine ⟨b, us, h1, h2, c b _ (fun z => ?_) h3, h4.mono k.same⟩
      subst z
      exact hj (r.inj j i ys w b e hi h1 ha)
  · by_cases hj : j = i
    · subst hj; rw [se] at e; exact absurd (Option.some.inj (Option.some.inj e)) Ow.not_c
    · rw [ne j hj] at e
      obtain ⟨b, us, h1, h2, h3⟩ := r.cst j x e
      exact ⟨b, us, h1, k.same.seq h2, h3.mono k.same⟩
  · have g : ∀ (j : Nat) (ys : Ow), (τ.set i (some w'.L))[j]? = some (some ys.L) → ∃ zs : Ow, τ[j]? = some (some zs.L) := fun j ys e => by
      by_cases hj : j = i
      · subst hj; exact ⟨_, hi⟩
      · rw [ne j hj] at e; exact ⟨_, e⟩
    obtain ⟨_, g1⟩ := g j1 ys e1
    obtain ⟨_, g2⟩ := g j2 zs e2
    exact r.inj _ _ _ _ b g1 g2 f1 f2
  · by_cases e : b = a
    · subst e; exact ⟨_, h'⟩
    · obtain ⟨o, q⟩ := r.ex b hb
      exact ⟨o, c b o e q⟩
  · by_cases hj : j = i
    · subst hj; rw [se] at e; exact absurd (Option.some.inj (Option.some.inj e)) Ow.not_g
    · rw [ne j hj] at e; exact ⟨e, rfl⟩
  · by_cases hj : j = i
    · subst hj; exact .inl ⟨w, hi, q⟩
    · rw [ne j hj] at e; exact .inl ⟨o, e, q⟩
  · obtain ⟨o, e⟩ := r.ex b (r.sub b hb)
    rw [e]; exact c b o (fun z => hn i w hi (by rw [z]; exact ha)) e
theorem R.setM {S M : Addr → Prop} {τ : DS} {σ : St} {H H' : Hp} (r : R K S M τ σ H) {i : Nat} {a : Addr} {xs xs' : List PyData} {vs : List V} (hi : τ[i]? = some (some (.m xs))) (ha : σ[i]? = some (some (.ref a)))
    (c : Chg (fun b => b = a) H H') (h' : H' a = some (.lst vs)) (l : IsL K (hid S H') xs' vs) : R K S M (τ.set i (some (.m xs'))) σ H' := r.setO (w := .l xs) (w' := .l xs') hi ha c h' ⟨vs, rfl, l⟩
theorem like_setO {τ : DS} {i : Nat} {w w' : Ow} (hi : τ[i]? = some (some w.L)) (hf : w.fl = w'.fl) : Like τ (τ.set i (some w'.L)) := by
  have hlt : i < τ.length := (List.getElem?_eq_some_iff.mp hi).1
  refine ⟨by rw [List.length_set], fun j => ?_⟩
  by_cases hj : j = i
  · subst hj
    rw [List.getElem?_set_self hlt, hi]
    exact ⟨⟨fun x => ⟨fun z => absurd (Option.some.inj (Option.some.inj z)) Ow.not_d, fun z => absurd (Option.some.inj (Option.some.inj z)) Ow.not_d⟩, fun x => ⟨fun z => absurd (Option.some.inj (Option.some.inj z)) Ow.not_c, fun z => absurd (Option.some.inj (Option.some.inj z)) Ow.not_c⟩⟩, fun b => ⟨fun ⟨o, h1, h2⟩ => ⟨w, by rw [hf, owL_inj h2]; exact h1, rfl⟩, fun ⟨o, h1, h2⟩ => ⟨w', by rw [← hf, owL_inj h2]; exact h1, rfl⟩⟩⟩
  · rw [List.getElem?_set_ne (Ne.symm hj)]
    exact ⟨⟨fun x => Iff.rfl, fun x => Iff.rfl⟩, fun b => Iff.rfl⟩
theorem like_setM {τ : DS} {i : Nat} {xs xs' : List PyData} (hi : τ[i]? = some (some (.m xs))) : Like τ (τ.set i (some (.m xs'))) := like_setO (w := .l xs) (w' := .l xs') hi rfl
def dCallM (i : Nat) (G : List L → Option (PyData × List L)) (a : DA) (τ : DS) : Option (PyData × DS) := (a τ).bind fun p => (allD p.1).bind fun ds => match p.2[i]? with
  | some (some (.m xs)) => (G (.m xs :: ds.map L.d)).bind fun q => match q.2 with
    | .m xs' :: _ => some (q.1, p.2.set i (some (.m xs')))
    | _ => none
  | some (some (.k xs)) => (G (.k xs :: ds.map L.d)).bind fun q => match q.2 with
    | .k xs' :: _ => some (q.1, p.2.set i (some (.k xs')))
    | _ => none
  | _ => none
theorem dCallM_some {i : Nat} {G : List L → Option (PyData × List L)} {a : DA} {τ : DS} {d : PyData} {τ' : DS} (e : dCallM i G a τ = some (d, τ')) :
    ∃ rs τ1 ds w w' r, a τ = some (rs, τ1) ∧ allD rs = some ds ∧ τ1[i]? = some (some (Ow.L w)) ∧ G (w.L :: ds.map L.d) = some (d, Ow.L w' :: r) ∧ τ' = τ1.set i (some w'.L) ∧ w.fl = w'.fl := by
  unfold dCallM at e
  obtain ⟨⟨x, τ1⟩, e1, e⟩ := Option.bind_eq_some_iff.mp e
  obtain ⟨ds, e2, e⟩ := Option.bind_eq_some_iff.mp e
  dsimp only at e
  split at e
  · rename_i xs hx
    obtain ⟨⟨z, ls'⟩, e3, e⟩ := Option.bind_eq_some_iff.mp e
    dsimp only at e
    split at e
    · rename_i xs' rest
      cases e
      exact ⟨x, τ1, ds, .l xs, .l xs', rest, e1, e2, hx, e3, rfl, rfl⟩
    · cases e
  · rename_i xs hx
    obtain ⟨⟨z, ls'⟩, e3, e⟩ := Option.bind_eq_some_iff.mp e
    dsimp only at e
    split at e
    · rename_i xs' rest
      cases e
      exact ⟨x, τ1, ds, .t xs, .t xs', rest, e1, e2, hx, e3, rfl, rfl⟩
    · cases e
  · cases e
theorem e_callM {i : Nat} {fr : Bool} {G : List L → Option (PyData × List L)} {t : TA} {a : DA} {X : XK} (ha : A K t a) : E K (tCall (spD K G fr) [] X (tCons (tVar i) t)) fr (dCallM i G a) := by
  refine ⟨fun τ d τ' e => ?_, ?_⟩
  · obtain ⟨rs, τ1, ds, xs, xs', r, e1, e2, e3, e4, rfl, e5⟩ := dCallM_some e
    exact (ha.like _ _ _ e1).trans (like_setO e3 e5)
  intro S M τ σ H Q d τ' rr e q
  obtain ⟨rs, τ1, ds, xs, xs', r, e1, e2, e3, e4, rfl, _⟩ := dCallM_some e
  have lk := ha.like _ _ _ e1
  obtain ⟨zs, hz⟩ := (lk.own i).mp ⟨_, e3⟩
  obtain ⟨p, us, hp, hM, _, _⟩ := rr.mt i zs hz
  refine ⟨.ref p, hp, ?_⟩
  refine ha.run S M τ σ H _ rs _ rr e1 fun vs H1 r1 c1 i1 => ?_
  have l := allD_is i1 e2
  obtain ⟨p', us', hp', hM', hl, ll⟩ := r1.mt i xs e3
  rw [hp] at hp'; cases hp'
  show spD K G fr ((.ref p :: vs) ++ []) H1 Q X
  rw [List.append_nil]
  have ra := r_args r1 l
  refine ⟨S, fun b => b = p, xs.L :: ds.map L.d, _, xs'.L :: r, ⟨?_, ?_, ?_, ?_, ?_, ?_, r1.ex, GR.nil fun j x e => by
    cases j with
    | zero => exact Ow.not_g (Option.some.inj (Option.some.inj e))
    | succ j =>
      rw [List.map_cons, List.getElem?_cons_succ, List.getElem?_map, List.getElem?_map] at e
      cases q : ds[j]? with
      | none => rw [q] at e; cases e
      | some d => rw [q] at e; cases e⟩, e4, fun v H' r' c res => ?_⟩
  · have := ra.len
    simp only [List.length_map, List.map_cons, List.length_cons] at this ⊢
    omega
  · intro j x e
    cases j with
    | zero => exact absurd (Option.some.inj (Option.some.inj e)) Ow.not_d
    | succ j => exact ra.dat j x (by simpa using e)
  · intro j ys e
    cases j with
    | zero => obtain rfl := owL_inj e; exact ⟨p, us', rfl, rfl, hl, ll⟩
    | succ j => obtain ⟨_, _, _, h, _⟩ := ra.mt j ys (by simpa using e); exact h.elim
  · intro j ys e
    cases j with
    | zero => exact absurd (Option.some.inj (Option.some.inj e)) Ow.not_c
    | succ j => exact ra.cst j ys (by simpa using e)
  · intro j k ys ws b e1 e2 _ _
    cases j with
    | zero => cases k with
      | zero => rfl
      | succ k => obtain ⟨_, _, _, h, _⟩ := ra.mt k ws (by simpa using e2); exact h.elim
    | succ j => obtain ⟨_, _, _, h, _⟩ := ra.mt j ys (by simpa using e1); exact h.elim
  · rintro b rfl
    exact r1.sub _ hM'
  · obtain ⟨p2, us2, h1, h2, h3, h4⟩ := r'.mt 0 xs' rfl
    cases h1
    exact q v H' (r1.setO e3 hp c h3 h4) (c1.trans fun b o hn e => c b o (fun z => hn (by subst z; exact hM')) e) (res.back r1 c1)
def okM : Option L → Bool
  | some (.m xs) => fixDs xs
  | some (.k kvs) => fixDs (kvs.map (·.2))
  | _ => true
theorem IsKV.monoT {H H' : Hp} (s : TSm H H') : ∀ {kvs : List (List Int × PyData)} {ts : List (List Int × Addr × V)}, fixDs (kvs.map (·.2)) = true → IsKV K H (dctP kvs) ts → IsKV K H' (dctP kvs) ts
  | [], _, _, h => h
  | (k, d) :: kvs, _, f, ⟨t, tr, e, ek, hk, h, l⟩ => by
    rw [List.map_cons, fixDs, Bool.and_eq_true] at f
    exact ⟨t, tr, e, ek, s.tup hk, Is.monoT s f.1 h, IsKV.monoT s (kvs := kvs) f.2 l⟩
theorem IsO.monoT {H H' : Hp} (s : TSm H H') : ∀ {o : Ow} {a : Addr} {h : HO}, okM (some o.L) = true → IsO K H o a h → IsO K H' o a h
  | .l _, _, _, f, ⟨vs, e, l⟩ => ⟨vs, e, l.monoT s f⟩
  | .t _, _, _, f, ⟨ts, e, l⟩ => ⟨ts, e, IsKV.monoT s f l⟩
def OwH (h : HO) : Prop := (∃ vs, h = .lst vs) ∨ ∃ φ, h = .ext φ
theorem IsO.ho {H : Hp} : ∀ {o : Ow} {a : Addr} {h : HO}, IsO K H o a h → OwH h
  | .l _, _, _, ⟨vs, e, _⟩ => .inl ⟨vs, e⟩
  | .t _, _, _, ⟨ts, e, _⟩ => .inr ⟨_, e⟩
def dBor (i : Nat) (f : DX) (τ : DS) : Option (PyData × DS) := match τ[i]? with
  | some (some (.m xs)) => (f (τ.set i (some (.d (.list xs))))).bind fun q => if fixD q.1 && q.2.all okM then some (q.1, q.2.set i (some (.m xs))) else none
  | some (some (.k xs)) => (f (τ.set i (some (.d (.dict (dctP xs)))))).bind fun q => if fixD q.1 && q.2.all okM then some (q.1, q.2.set i (some (.k xs))) else none
  | _ => none
theorem dBor_some {i : Nat} {f : DX} {τ : DS} {d : PyData} {τ' : DS} (e : dBor i f τ = some (d, τ')) : ∃ w τ1, τ[i]? = some (some (Ow.L w)) ∧ f (τ.set i (some (.d w.D))) = some (d, τ1) ∧ fixD d = true ∧ τ1.all okM = true ∧ τ' = τ1.set i (some w.L) := by
  unfold dBor at e
  split at e
  · rename_i xs hx
    obtain ⟨⟨z, τ1⟩, e1, e⟩ := Option.bind_eq_some_iff.mp e
    dsimp only at e
    split at e
    · rename_i h
      rw [Bool.and_eq_true] at h
      cases e
      exact ⟨.l xs, τ1, hx, e1, h.1, h.2, rfl⟩
    · cases e
  · rename_i xs hx
    obtain ⟨⟨z, τ1⟩, e1, e⟩ := Option.bind_eq_some_iff.mp e
    dsimp only at e
    split at e
    · rename_i h
      rw [Bool.and_eq_true] at h
      cases e
      exact ⟨.t xs, τ1, hx, e1, h.1, h.2, rfl⟩
    · cases e
  · cases e
theorem tsame_hid {S S' : Addr → Prop} {H : Hp} (h : ∀ a, S' a → S a ∨ ∃ o, H a = some o ∧ OwH o) : TSm (hid S H) (hid S' H) := fun b o e nl ne => by
  obtain ⟨e1, e2⟩ := hid_iff.mp e
  refine hid_iff.mpr ⟨fun z => ?_, e2⟩
  rcases h b z with z | ⟨o', z, ⟨vs, rfl⟩ | ⟨φ, rfl⟩⟩
  · exact e1 z
  · rw [e2] at z; cases z; exact nl _ rfl
  · rw [e2] at z; cases z; exact ne _ rfl
theorem frz {S M : Addr → Prop} {τ : DS} {σ : St} {H : Hp} (r : R K S M τ σ H) {i : Nat} {w : Ow} {p : Addr} (hi : τ[i]? = some (some w.L)) (hp : σ[i]? = some (some (.ref p))) :
    R K (fun b => S b ∧ b ≠ p) (fun b => M b ∧ b ≠ p) (τ.set i (some (.d w.D))) σ H := by
  have hlt : i < τ.length := (List.getElem?_eq_some_iff.mp hi).1
  have ne : ∀ j, j ≠ i → (τ.set i (some (.d w.D)))[j]? = τ[j]? := fun j hj => List.getElem?_set_ne (Ne.symm hj)
  have se : (τ.set i (some (.d w.D)))[i]? = some (some (.d w.D)) := List.getElem?_set_self hlt
  have k : Same (hid S H) (hid (fun b => S b ∧ b ≠ p) H) := hid_less fun a z => z.1
  have mn : ∀ (j : Nat) (ys : Ow), (τ.set i (some (.d w.D)))[j]? = some (some ys.L) → j ≠ i ∧ τ[j]? = some (some ys.L) := fun j ys e => by
    by_cases hj : j = i
    · subst hj; rw [se] at e; exact absurd (Option.some.inj (Option.some.inj e)).symm Ow.not_d
    · rw [ne j hj] at e; exact ⟨hj, e⟩
  have cs : ∀ (j : Nat) (ys : List PyData), (τ.set i (some (.d w.D)))[j]? = some (some (.c ys)) → τ[j]? = some (some (.c ys)) := fun j ys e => by
    by_cases hj : j = i
    · subst hj; rw [se] at e; cases e
    · rw [ne j hj] at e; exact e
  refine ⟨by rw [List.length_set]; exact r.len, fun j x e => ?_, fun j ys e => ?_, fun j ys e => let ⟨a, vs, h1, h2, h3⟩ := r.cst j ys (cs j ys e); ⟨a, vs, h1, k.seq h2, h3.mono k⟩, fun j1 j2 ys zs b e1 e2 f1 f2 => ?_, fun a h => ⟨r.sub a h.1, h.2⟩, fun a h => r.ex a h.1, r.gr.to (fun j d e => ?_) (fun j o b e q => .inl ⟨o, (mn j o e).2, q⟩) (fun b hb hn => ⟨⟨hb, fun z => hn i w hi (by rw [z]; exact hp)⟩, rfl⟩) (tsS k)⟩
  · by_cases hj : j = i
    · subst hj
      rw [se] at e
      cases e
      obtain ⟨b, us, h1, h2, h3, h4⟩ := r.mt j w hi
      rw [hp] at h1; cases h1
      exact ⟨_, hp, IsO.is (h4.mono k) (hid_iff.mpr ⟨fun z => z.2 rfl, h3⟩)⟩
    · rw [ne j hj] at e
      obtain ⟨v, h1, h2⟩ := r.dat j x e
      exact ⟨v, h1, h2.mono k⟩
  · obtain ⟨hj, e⟩ := mn j ys e
    obtain ⟨b, us, h1, h2, h3, h4⟩ := r.mt j ys e
    refine ⟨b, us, h1, ⟨h2, fun z => ?_⟩, h3, h4.mono k⟩
    subst z
    exact hj (r.inj j i ys w b e hi h1 hp)
  · exact r.inj j1 j2 ys zs b (mn _ _ e1).2 (mn _ _ e2).2 f1 f2
  · by_cases hj : j = i
    · subst hj; rw [se] at e; cases e
    · rw [ne j hj] at e; exact ⟨e, rfl⟩
theorem unfrz {S M : Addr → Prop} {τ τ1 : DS} {σ : St} {H H' : Hp} (r : R K S M τ σ H) {i : Nat} {w : Ow} {p : Addr} (hi : τ[i]? = some (some w.L)) (hp : σ[i]? = some (some (.ref p)))
    (r1 : R K (fun b => S b ∧ b ≠ p) (fun b => M b ∧ b ≠ p) τ1 σ H') (lk : Like (τ.set i (some (.d w.D))) τ1) (c : Chg (fun b => M b ∧ b ≠ p) H H') (ok : τ1.all okM = true) : R K S M (τ1.set i (some w.L)) σ H' := by
  have hlt : i < τ.length := (List.getElem?_eq_some_iff.mp hi).1
  have hl1 : τ1.length = τ.length := by have := lk.1; rw [List.length_set] at this; exact this
  have hlt1 : i < τ1.length := by omega
  have ne : ∀ j, j ≠ i → (τ1.set i (some w.L))[j]? = τ1[j]? := fun j hj => List.getElem?_set_ne (Ne.symm hj)
  have se : (τ1.set i (some w.L))[i]? = some (some w.L) := List.getElem?_set_self hlt1
  have ne0 : ∀ j, j ≠ i → (τ.set i (some (.d w.D)))[j]? = τ[j]? := fun j hj => List.getElem?_set_ne (Ne.symm hj)
  obtain ⟨b0, us, hb0, h2, h3, h4⟩ := r.mt i w hi
  rw [hp] at hb0; cases hb0
  have h3' : H' p = some us := c p _ (fun z => z.2 rfl) h3
  have c' : Chg M H H' := fun b o hn e => c b o (fun z => hn z.1) e
  have k : Keep S H S H' := c'.keep r.sub
  have ts : TSm (hid (fun b => S b ∧ b ≠ p) H') (hid S H') := tsame_hid fun a z => by
    by_cases e : a = p
    · subst e; exact .inr ⟨_, h3', h4.ho⟩
    · exact .inl ⟨z, e⟩
  have mm : ∀ (j : Nat) (ys : Ow), j ≠ i → τ1[j]? = some (some ys.L) → ∃ zs : Ow, τ[j]? = some (some zs.L) := fun j ys hj e => by
    obtain ⟨zs, q⟩ := (lk.own j).mp ⟨_, e⟩
    rw [ne0 j hj] at q
    exact ⟨zs, q⟩
  have cs : ∀ (j : Nat) (ys : List PyData), (τ1.set i (some w.L))[j]? = some (some (.c ys)) → τ[j]? = some (some (.c ys)) := fun j ys e => by
    by_cases hj : j = i
    · subst hj; rw [se] at e; exact absurd (Option.some.inj (Option.some.inj e)) Ow.not_c
    · rw [ne j hj] at e
      have := ((lk.2 j).1.2 ys).mp e
      rw [ne0 j hj] at this
      exact this
  refine ⟨by rw [List.length_set]; exact r1.len, fun j x e => ?_, fun j ys e => ?_, fun j ys e => let ⟨a, vs, h1, h2, h3⟩ := r.cst j ys (cs j ys e); ⟨a, vs, h1, k.same.seq h2, h3.mono k.same⟩, fun j1 j2 ys zs b e1 e2 f1 f2 => ?_, r.sub, fun a h => ?_, r1.gr.to (fun j d e => ?_) (fun j o b e q => ?_) (fun b hb hn => ⟨hb.1, rfl⟩) ts⟩
  · by_cases hj : j = i
    · subst hj; rw [se] at e; exact absurd (Option.some.inj (Option.some.inj e)) Ow.not_d
    · rw [ne j hj] at e
      have := ((lk.2 j).1.1 x).mp e
      rw [ne0 j hj] at this
      obtain ⟨v, h5, h6⟩ := r.dat j x this
      exact ⟨v, h5, h6.mono k.same⟩
  · by_cases hj : j = i
    · subst hj
      rw [se] at e
      obtain rfl := owL_inj e
      exact ⟨p, us, hp, h2, h3', h4.mono k.same⟩
    · rw [ne j hj] at e
      obtain ⟨b, ws, h5, h6, h7, h8⟩ := r1.mt j ys e
      have fx : okM (some ys.L) = true := List.all_eq_true.mp ok (some ys.L) (List.mem_of_getElem? e)
      exact ⟨b, ws, h5, h6.1, h7, h8.monoT ts fx⟩
  · have g : ∀ (j : Nat) (ys : Ow), (τ1.set i (some w.L))[j]? = some (some ys.L) → ∃ zs : Ow, τ[j]? = some (some zs.L) := fun j ys e => by
      by_cases hj : j = i
      · subst hj; exact ⟨_, hi⟩
      · rw [ne j hj] at e; exact mm j ys hj e
    obtain ⟨_, g1⟩ := g j1 ys e1
    obtain ⟨_, g2⟩ := g j2 zs e2
    exact r.inj _ _ _ _ b g1 g2 f1 f2
  · by_cases e : a = p
    · subst e; exact ⟨_, h3'⟩
    · exact r1.ex a ⟨h, e⟩
  · by_cases hj : j = i
    · subst hj; rw [se] at e; exact absurd (Option.some.inj (Option.some.inj e)) Ow.not_g
    · rw [ne j hj] at e; exact ⟨e, rfl⟩
  · by_cases hj : j = i
    · subst hj
      rw [hp] at q; cases q
      exact .inr fun z => z.2 rfl
    · rw [ne j hj] at e; exact .inl ⟨o, e, q⟩
theorem like_bor {τ τ1 : DS} {i : Nat} {w : Ow} (hi : τ[i]? = some (some w.L)) (lk : Like (τ.set i (some (.d w.D))) τ1) : Like τ (τ1.set i (some w.L)) := by
  have hlt : i < τ.length := (List.getElem?_eq_some_iff.mp hi).1
  have hl1 : τ1.length = τ.length := by have := lk.1; rw [List.length_set] at this; exact this
  refine ⟨by rw [List.length_set]; exact hl1, fun j => ?_⟩
  by_cases hj : j = i
  · subst hj
    rw [List.getElem?_set_self (by omega), hi]
    exact ⟨⟨fun x => Iff.rfl, fun x => Iff.rfl⟩, fun b => Iff.rfl⟩
  · have := lk.2 j
    rw [List.getElem?_set_ne (Ne.symm hj)] at this ⊢
    exact this
theorem e_bor {i : Nat} {fr : Bool} {t : TE} {f : DX} (h : E K t fr f) : E K t false (dBor i f) := by
  refine ⟨fun τ d τ' e => ?_, ?_⟩
  · obtain ⟨xs, τ1, e1, e2, _, _, rfl⟩ := dBor_some e
    exact like_bor e1 (h.like _ _ _ e2)
  intro S M τ σ H Q d τ' r e q
  obtain ⟨xs, τ1, e1, e2, fx, ok, rfl⟩ := dBor_some e
  obtain ⟨p, us, hp, hM, hl, ll⟩ := r.mt i xs e1
  refine h.weak.run _ _ _ σ H _ d τ1 (frz r e1 hp) e2 fun v H' r' c res => ?_
  have r2 := unfrz r e1 hp r' (h.like _ _ _ e2) c ok
  refine q v H' r2 (fun b o hn e => c b o (fun z => hn z.1) e) ?_
  have h3' : H' p = some us := c p _ (fun z => z.2 rfl) hl
  exact Is.monoT (tsame_hid fun a z => by
    by_cases e : a = p
    · subst e; exact .inr ⟨_, h3', ll.ho⟩
    · exact .inl ⟨z, e⟩) fx (show Is K (hid (fun b => S b ∧ b ≠ p) H') d v from res)
def dBorF (i : Nat) (f : DX) (τ : DS) : Option (PyData × DS) := match τ[i]? with
  | some (some (.m xs)) => (f (τ.set i (some (.d (.list xs))))).bind fun q => match q.1 with
    | .list ys => if fixDs ys && q.2.all okM then some (q.1, q.2.set i (some (.m xs))) else none
    | _ => none
  | some (some (.k xs)) => (f (τ.set i (some (.d (.dict (dctP xs)))))).bind fun q => match q.1 with
    | .list ys => if fixDs ys && q.2.all okM then some (q.1, q.2.set i (some (.k xs))) else none
    | _ => none
  | _ => none
theorem Ow.D_list {o : Ow} {ys : List PyData} (h : PyData.list ys = o.D) : o = .l ys := by
  cases o with
  | l xs => cases h; rfl
  | t kvs => cases h
end DL
end
section
set_option Elab.async false
set_option linter.all false
set_option maxRecDepth 100000
namespace DL
open PySem L2
variable {K : PySem.W.Frag}
def ItIs (K : PySem.W.Frag) (S : Addr → Prop) (J : It) (H : Hp) (ds : List PyData) : Prop := ∀ (S2 : Addr → Prop) (H2 : Hp), Keep S H S2 H2 → (∀ (i : Nat) (d : PyData), ds[i]? = some d → J.go i H2 ∧ ∀ x H3, J.yld i H2 x H3 → H3 = H2 ∧ Is K (hid S2 H2) d x) ∧ ∀ i, ds.length ≤ i → J.stop i H2
abbrev DI := DS → Option (List PyData × DS)
structure IT (K : PySem.W.Frag) (wi : TI) (f : DI) : Prop where
  like : ∀ τ ds τ', f τ = some (ds, τ') → Like τ τ'
  run : ∀ S M τ σ H (Q : It → Hp → Prop) ds τ', R K S M τ σ H → f τ = some (ds, τ') → (∀ J H', R K S M τ' σ H' → Chg M H H' → ItIs K S J H' ds → Q J H') → wi σ H Q
def dIL (f : DX) (τ : DS) : Option (List PyData × DS) := (f τ).bind fun p => match p.1 with
  | .list ds => some (ds, p.2)
  | _ => none
def dIT (f : DX) (τ : DS) : Option (List PyData × DS) := (f τ).bind fun p => match p.1 with
  | .tuple ds => some (ds, p.2)
  | _ => none
theorem it_list {fr : Bool} {t : TE} {f : DX} (h : E K t fr f) : IT K (iList K t) (dIL f) := by
  refine ⟨fun τ d τ' e => ?_, ?_⟩
  · unfold dIL at e
    obtain ⟨⟨x, τ1⟩, e1, e⟩ := Option.bind_eq_some_iff.mp e
    dsimp only at e
    split at e
    · cases e; exact h.like _ _ _ e1
    · cases e
  intro S M τ σ H Q ds τ' r e q
  unfold dIL at e
  obtain ⟨⟨x, τ1⟩, e1, e⟩ := Option.bind_eq_some_iff.mp e
  dsimp only at e
  split at e
  · cases e
    refine h.weak.run S M τ σ H _ _ _ r e1 fun v H1 r1 c1 i1 => ?_
    have i1' : Is K (hid S H1) (.list ds) v := i1
    obtain ⟨a, vs, rfl, hl, ll⟩ := i1'
    refine ⟨a, rfl, ⟨vs, SqL.of (hid_iff.mp hl).2⟩, q _ H1 r1 c1 fun S2 H2 k => ?_⟩
    have hl2 := k.same _ _ hl
    have ll2 := ll.mono k.same
    refine ⟨fun i d e => ?_, fun i hi => ⟨vs, SqL.of (hid_iff.mp hl2).2, by rw [ll.length]; exact hi⟩⟩
    obtain ⟨u, h1, h2⟩ := ll2.get e
    refine ⟨⟨vs, u, SqL.of (hid_iff.mp hl2).2, h1⟩, fun x H3 y => ⟨y.1, ?_⟩⟩
    have := y.2 vs (SqL.of (hid_iff.mp hl2).2)
    rw [h1] at this; cases this
    exact h2
  · cases e
theorem it_tup {fr : Bool} {t : TE} {f : DX} (h : E K t fr f) : IT K (iTup K t) (dIT f) := by
  refine ⟨fun τ d τ' e => ?_, ?_⟩
  · unfold dIT at e
    obtain ⟨⟨x, τ1⟩, e1, e⟩ := Option.bind_eq_some_iff.mp e
    dsimp only at e
    split at e
    · cases e; exact h.like _ _ _ e1
    · cases e
  intro S M τ σ H Q ds τ' r e q
  unfold dIT at e
  obtain ⟨⟨x, τ1⟩, e1, e⟩ := Option.bind_eq_some_iff.mp e
  dsimp only at e
  split at e
  · cases e
    refine h.weak.run S M τ σ H _ _ _ r e1 fun v H1 r1 c1 i1 => ?_
    have i1' : Is K (hid S H1) (.tuple ds) v := i1
    obtain ⟨a, vs, rfl, hl, ll⟩ := i1'
    refine ⟨a, rfl, ⟨vs, Same.tup same_hid hl⟩, q _ H1 r1 c1 fun S2 H2 k => ?_⟩
    have hl2 := Same.tup same_hid (Same.tup k.same hl)
    have ll2 := ll.mono k.same
    refine ⟨fun i d e => ?_, fun i hi => ⟨vs, hl2, by rw [ll.length]; exact hi⟩⟩
    obtain ⟨u, h1, h2⟩ := ll2.get e
    refine ⟨⟨vs, u, hl2, h1⟩, fun x H3 y => ⟨y.1, ?_⟩⟩
    have := y.2 vs hl2
    rw [h1] at this; cases this
    exact h2
  · cases e
def rangeD (lo : Int) (n : Nat) : List PyData := (List.range n).map fun (k : Nat) => PyData.int (lo + (k : Int))
theorem range_is {S : Addr → Prop} {H : Hp} {lo : Int} {n : Nat} : ItIs K S (Itr lo n) H (rangeD lo n) := by
  intro S2 H2 k
  refine ⟨fun i d e => ?_, fun i hi => ?_⟩
  · unfold rangeD at e
    rw [List.getElem?_map] at e
    by_cases hi : i < n
    · rw [List.getElem?_range hi] at e
      cases e
      exact ⟨hi, fun x H3 y => ⟨y.1, y.2⟩⟩
    · rw [List.getElem?_eq_none (by simpa using hi)] at e
      cases e
  · unfold rangeD at hi
    rw [List.length_map, List.length_range] at hi
    exact hi
def dR1 (a : DA) (τ : DS) : Option (List PyData × DS) := (a τ).bind fun p => (allD p.1).bind fun ds => match ds with
  | [.int j] => if -(2 ^ 62) ≤ j ∧ j < 2 ^ 62 then some (rangeD 0 j.toNat, p.2) else none
  | _ => none
def dR2 (a : DA) (τ : DS) : Option (List PyData × DS) := (a τ).bind fun p => (allD p.1).bind fun ds => match ds with
  | [.int i, .int j] => if -(2 ^ 62) ≤ i ∧ i < 2 ^ 62 ∧ -(2 ^ 62) ≤ j ∧ j < 2 ^ 62 then some (rangeD i (j - i).toNat, p.2) else none
  | _ => none
theorem it_range1 {t : TA} {a : DA} (ha : A K t a) : IT K (iRng1 t) (dR1 a) := by
  refine ⟨fun τ d τ' e => ?_, ?_⟩
  · unfold dR1 at e
    obtain ⟨⟨x, τ1⟩, e1, e⟩ := Option.bind_eq_some_iff.mp e
    obtain ⟨ds, e2, e⟩ := Option.bind_eq_some_iff.mp e
    split at e
    · split at e
      · cases e; exact ha.like _ _ _ e1
      · cases e
    · cases e
  intro S M τ σ H Q ds τ' r e q
  unfold dR1 at e
  obtain ⟨⟨x, τ1⟩, e1, e⟩ := Option.bind_eq_some_iff.mp e
  obtain ⟨ds', e2, e⟩ := Option.bind_eq_some_iff.mp e
  split at e
  · split at e
    · rename_i j hj
      cases e
      refine ha.run S M τ σ H _ x _ r e1 fun vs H1 r1 c1 i1 => ?_
      obtain ⟨v, us, rfl, iv, iu⟩ := allD_is i1 e2
      cases (show us = [] from iu)
      exact ⟨j, by rw [show v = .int j from iv], hj.1, hj.2, q _ H1 r1 c1 range_is⟩
    · cases e
  · cases e
theorem it_range2 {t : TA} {a : DA} (ha : A K t a) : IT K (iRng2 t) (dR2 a) := by
  refine ⟨fun τ d τ' e => ?_, ?_⟩
  · unfold dR2 at e
    obtain ⟨⟨x, τ1⟩, e1, e⟩ := Option.bind_eq_some_iff.mp e
    obtain ⟨ds, e2, e⟩ := Option.bind_eq_some_iff.mp e
    split at e
    · split at e
      · cases e; exact ha.like _ _ _ e1
      · cases e
    · cases e
  intro S M τ σ H Q ds τ' r e q
  unfold dR2 at e
  obtain ⟨⟨x, τ1⟩, e1, e⟩ := Option.bind_eq_some_iff.mp e
  obtain ⟨ds', e2, e⟩ := Option.bind_eq_some_iff.mp e
  split at e
  · split at e
    · rename_i i j hj
      cases e
      refine ha.run S M τ σ H _ x _ r e1 fun vs H1 r1 c1 i1 => ?_
      obtain ⟨v, us, rfl, iv, w, us', rfl, iw, iu⟩ := allD_is i1 e2
      cases (show us' = [] from iu)
      exact ⟨i, j, by rw [show v = .int i from iv, show w = .int j from iw], hj, q _ H1 r1 c1 range_is⟩
    · cases e
  · cases e
abbrev DG := PyData → DS → Option DS
def MSame (τ τ' : DS) : Prop := τ'.length = τ.length ∧ ∀ (j : Nat) (o : Ow), τ'[j]? = some (some o.L) ↔ τ[j]? = some (some o.L)
theorem MSame.refl {τ : DS} : MSame τ τ := ⟨rfl, fun _ _ => Iff.rfl⟩
theorem MSame.trans {τ τ1 τ2 : DS} (a : MSame τ τ1) (b : MSame τ1 τ2) : MSame τ τ2 := ⟨b.1.trans a.1, fun j xs => (b.2 j xs).trans (a.2 j xs)⟩
structure TG1 K (g : TG) (f : DG) : Prop where
  ms : ∀ d τ τ', f d τ = some τ' → MSame τ τ'
  run : ∀ S M τ σ H v d τ' (Q : St → Hp → Prop), R K S M τ σ H → Is K (hid S H) d v → f d τ = some τ' → (∀ σ', R K S M τ' σ' H → (∀ (j : Nat) (o : Ow), τ[j]? = some (some o.L) → σ'[j]? = σ[j]?) → Q σ' H) → g v σ H Q
structure TG2 K (g : TGs) (f : List PyData → DS → Option DS) : Prop where
  ms : ∀ d τ τ', f d τ = some τ' → MSame τ τ'
  run : ∀ S M τ σ H vs ds τ' (Q : St → Hp → Prop), R K S M τ σ H → IsL K (hid S H) ds vs → f ds τ = some τ' → (∀ σ', R K S M τ' σ' H → (∀ (j : Nat) (o : Ow), τ[j]? = some (some o.L) → σ'[j]? = σ[j]?) → Q σ' H) → g vs σ H Q
def dN (i : Nat) (d : PyData) (τ : DS) : Option DS := match τ[i]? with
  | some (some (.m _)) => none
  | some (some (.k _)) => none
  | some _ => some (τ.set i (some (.d d)))
  | none => none
theorem dN_some {i : Nat} {d : PyData} {τ τ' : DS} (e : dN i d τ = some τ') : i < τ.length ∧ (∀ o : Ow, τ[i]? ≠ some (some o.L)) ∧ τ' = τ.set i (some (.d d)) := by
  unfold dN at e
  split at e
  · cases e
  · cases e
  · rename_i o hn hk ho
    cases e
    refine ⟨(List.getElem?_eq_some_iff.mp ho).1, fun xs z => ?_, rfl⟩
    rw [ho] at z
    cases xs with
    | l xs => exact hn xs (Option.some.inj z)
    | t xs => exact hk xs (Option.some.inj z)
  · cases e
theorem R.setD {S M : Addr → Prop} {τ : DS} {σ : St} {H : Hp} (r : R K S M τ σ H) {i : Nat} {d : PyData} {v : V} (hi : i < τ.length) (hm : ∀ o : Ow, τ[i]? ≠ some (some o.L)) (iv : Is K (hid S H) d v) : R K S M (τ.set i (some (.d d))) (σ.set i (some v)) H := by
  have hs : i < σ.length := by rw [r.len]; exact hi
  have ne : ∀ j, j ≠ i → (τ.set i (some (.d d)))[j]? = τ[j]? := fun j hj => List.getElem?_set_ne (Ne.symm hj)
  have ne' : ∀ j, j ≠ i → (σ.set i (some v))[j]? = σ[j]? := fun j hj => List.getElem?_set_ne (Ne.symm hj)
  have mn : ∀ (j : Nat) (ys : Ow), (τ.set i (some (.d d)))[j]? = some (some ys.L) → j ≠ i ∧ τ[j]? = some (some ys.L) := fun j ys e => by
    by_cases hj : j = i
    · subst hj; rw [List.getElem?_set_self hi] at e; exact absurd (Option.some.inj (Option.some.inj e)).symm Ow.not_d
    · rw [ne j hj] at e; exact ⟨hj, e⟩
  refine ⟨by rw [List.length_set, List.length_set]; exact r.len, fun j x e => ?_, fun j xs e => ?_, fun j xs e => ?_, fun j1 j2 ys zs b e1 e2 f1 f2 => ?_, r.sub, r.ex, r.gr.to (fun j x e => ?_) (fun j o b e q => .inl ⟨o, (mn j o e).2, by rw [ne' j (mn j o e).1] at q; exact q⟩) (fun b hb hn => ⟨hb, rfl⟩) .refl⟩
  · by_cases hj : j = i
    · subst hj
      rw [List.getElem?_set_self hi] at e
      cases e
      exact ⟨v, List.getElem?_set_self hs, iv⟩
    · rw [ne j hj] at e
      rw [ne' j hj]
      exact r.dat j x e
  · obtain ⟨hj, e⟩ := mn j xs e
    rw [ne' j hj]
    exact r.mt j xs e
  · by_cases hj : j = i
    · subst hj; rw [List.getElem?_set_self hi] at e; cases e
    · rw [ne j hj] at e
      rw [ne' j hj]
      exact r.cst j xs e
  · obtain ⟨h1, e1⟩ := mn j1 ys e1
    obtain ⟨h2, e2⟩ := mn j2 zs e2
    rw [ne' _ h1] at f1
    rw [ne' _ h2] at f2
    exact r.inj _ _ _ _ b e1 e2 f1 f2
  · by_cases hj : j = i
    · subst hj; rw [List.getElem?_set_self hi] at e; cases e
    · rw [ne j hj] at e; exact ⟨e, ne' j hj⟩
theorem ms_setD {τ : DS} {i : Nat} {d : PyData} (hi : i < τ.length) (hm : ∀ o : Ow, τ[i]? ≠ some (some o.L)) : MSame τ (τ.set i (some (.d d))) := by
  refine ⟨by rw [List.length_set], fun j xs => ?_⟩
  by_cases hj : j = i
  · subst hj
    rw [List.getElem?_set_self hi]
    exact ⟨fun z => absurd (Option.some.inj (Option.some.inj z)).symm Ow.not_d, fun z => absurd z (hm xs)⟩
  · rw [List.getElem?_set_ne (Ne.symm hj)]
theorem g_name {i : Nat} : TG1 K (gName i) (dN i) := by
  refine ⟨fun d τ τ' e => ?_, ?_⟩
  · obtain ⟨h1, h2, rfl⟩ := dN_some e
    exact ms_setD h1 h2
  intro S M τ σ H v d τ' Q r iv e q
  obtain ⟨h1, h2, rfl⟩ := dN_some e
  refine q _ (r.setD h1 h2 iv) fun j xs ej => ?_
  have : j ≠ i := fun z => h2 xs (by rw [← z]; exact ej)
  exact List.getElem?_set_ne (Ne.symm this)
def dGNil : List PyData → DS → Option DS
  | [], τ => some τ
  | _ :: _, _ => none
def dGCons (f : DG) (g : List PyData → DS → Option DS) : List PyData → DS → Option DS
  | d :: ds, τ => (f d τ).bind fun τ1 => g ds τ1
  | [], _ => none
theorem gs_nil : TG2 K gNil dGNil := by
  refine ⟨fun d τ τ' e => ?_, ?_⟩
  · cases d with
    | nil => cases e; exact .refl
    | cons _ _ => cases e
  intro S M τ σ H vs ds τ' Q r iv e q
  cases ds with
  | nil => cases e; exact ⟨iv, q σ r fun _ _ _ => rfl⟩
  | cons _ _ => cases e
theorem gs_cons {t : TG} {u : TGs} {f : DG} {g : List PyData → DS → Option DS} (h1 : TG1 K t f) (h2 : TG2 K u g) : TG2 K (gCons t u) (dGCons f g) := by
  refine ⟨fun d τ τ' e => ?_, ?_⟩
  · cases d with
    | nil => cases e
    | cons d ds =>
      obtain ⟨τ1, e1, e⟩ := Option.bind_eq_some_iff.mp e
      exact (h1.ms _ _ _ e1).trans (h2.ms _ _ _ e)
  intro S M τ σ H vs ds τ' Q r iv e q
  cases ds with
  | nil => cases e
  | cons d ds =>
    obtain ⟨τ1, e1, e⟩ := Option.bind_eq_some_iff.mp e
    obtain ⟨v, us, rfl, iv, iu⟩ := iv
    refine ⟨v, us, rfl, h1.run S M τ σ H v d τ1 _ r iv e1 fun σ1 r1 k1 => ?_⟩
    refine h2.run S M τ1 σ1 H us ds τ' _ r1 iu e fun σ2 r2 k2 => ?_
    refine q σ2 r2 fun j xs hj => ?_
    rw [k2 j xs (((h1.ms _ _ _ e1).2 j xs).mpr hj), k1 j xs hj]
def dGT (g : List PyData → DS → Option DS) (d : PyData) (τ : DS) : Option DS := match d with
  | .tuple ds => g ds τ
  | _ => none
theorem g_tup {n : Nat} {u : TGs} {g : List PyData → DS → Option DS} (h : TG2 K u g) (hn : ∀ ds τ τ', g ds τ = some τ' → ds.length = n) : TG1 K (gTup K n u) (dGT g) := by
  refine ⟨fun d τ τ' e => ?_, ?_⟩
  · unfold dGT at e
    split at e
    · exact h.ms _ _ _ e
    · cases e
  intro S M τ σ H v d τ' Q r iv e q
  unfold dGT at e
  split at e
  · obtain ⟨a, vs, rfl, hl, ll⟩ := iv
    exact ⟨a, vs, rfl, Same.tup same_hid hl, by rw [ll.length]; exact hn _ _ _ e, h.run S M τ σ H vs _ τ' Q r ll e q⟩
  · cases e
theorem len_nil : ∀ (ds : List PyData) (τ τ' : DS), dGNil ds τ = some τ' → ds.length = 0
  | [], _, _, _ => rfl
  | _ :: _, _, _, e => by cases e
theorem len_cons {n : Nat} {f : DG} {g : List PyData → DS → Option DS} (h : ∀ ds τ τ', g ds τ = some τ' → ds.length = n) : ∀ (ds : List PyData) (τ τ' : DS), dGCons f g ds τ = some τ' → ds.length = n + 1
  | [], _, _, e => by cases e
  | d :: ds, τ, τ', e => by
    obtain ⟨τ1, e1, e⟩ := Option.bind_eq_some_iff.mp e
    rw [List.length_cons, h _ _ _ e]
def lcLoop (g : DG) (c : DT) (e : DX) : List PyData → List PyData → DS → Option (List PyData × DS)
  | [], acc, τ => some (acc, τ)
  | d :: ds, acc, τ => (g d τ).bind fun τ1 => (c τ1).bind fun p => if p.1 = true then (e p.2).bind fun q => lcLoop g c e ds (acc ++ [q.1]) q.2 else lcLoop g c e ds acc p.2
def noG : Option L → Option L
  | some (.g _) => none
  | o => o
def blkD (own : Nat) (fr : List Nat) (τ : DS) : DS := List.replicate own none ++ fr.map fun j => noG (τ[j]?).join
theorem noG_some {o : Option L} {l : L} (h : noG o = some l) : o = some l ∧ ∀ x, l ≠ .g x := by
  unfold noG at h
  split at h
  · cases h
  · rename_i hn
    exact ⟨h, fun x z => hn x (by rw [h, z])⟩
def isM (τ : DS) (j : Nat) : Bool := match τ[j]? with
  | some (some (.m _)) => true
  | some (some (.k _)) => true
  | _ => false
theorem isM_iff {τ : DS} {j : Nat} : isM τ j = true ↔ ∃ o : Ow, τ[j]? = some (some o.L) := by
  unfold isM
  split
  · rename_i xs h; exact ⟨fun _ => ⟨.l xs, h⟩, fun _ => rfl⟩
  · rename_i xs h; exact ⟨fun _ => ⟨.t xs, h⟩, fun _ => rfl⟩
  · rename_i h1 h2
    exact ⟨fun z => (nomatch z), fun ⟨o, z⟩ => by
      cases o with
      | l xs => exact absurd z (h1 xs)
      | t xs => exact absurd z (h2 xs)⟩
def dLC (own : Nat) (fr : List Nat) (it : DI) (g : DG) (c : DT) (e : DX) (τ : DS) : Option (PyData × DS) := (it τ).bind fun p => if p.1.length ≤ sizeLine ∧ (fr.all fun j => !isM p.2 j) = true then (lcLoop g c e p.1 [] (blkD own fr p.2)).map fun q => (.list q.1, p.2) else none
theorem blkD_get {own : Nat} {fr : List Nat} {τ : DS} {i : Nat} {l : L} (h : (blkD own fr τ)[i]? = some (some l)) : ∃ k j, i = own + k ∧ fr[k]? = some j ∧ τ[j]? = some (some l) := by
  unfold blkD at h
  by_cases hi : i < own
  · rw [List.getElem?_append_left (by simpa using hi), List.getElem?_replicate, if_pos hi] at h
    cases h
  · rw [List.getElem?_append_right (by simpa using hi), List.length_replicate, List.getElem?_map] at h
    cases e : fr[i - own]? with
    | none => rw [e] at h; cases h
    | some j =>
      rw [e] at h
      simp only [Option.map_some, Option.some.injEq] at h
      refine ⟨i - own, j, by omega, e, ?_⟩
      replace h := (noG_some h).1
      cases q : τ[j]? with
      | none => rw [q] at h; cases h
      | some o => rw [q] at h; cases o with
        | none => cases h
        | some u => cases h; rfl
theorem blkD_g {own : Nat} {fr : List Nat} {τ : DS} (i : Nat) (d : PyData) : (blkD own fr τ)[i]? ≠ some (some (.g d)) := fun h => by
  unfold blkD at h
  by_cases hi : i < own
  · rw [List.getElem?_append_left (by simpa using hi), List.getElem?_replicate, if_pos hi] at h
    cases h
  · rw [List.getElem?_append_right (by simpa using hi), List.length_replicate, List.getElem?_map] at h
    cases e : fr[i - own]? with
    | none => rw [e] at h; cases h
    | some j =>
      rw [e] at h
      simp only [Option.map_some, Option.some.injEq] at h
      exact (noG_some h).2 d rfl
theorem blk_at {own : Nat} {fr : List Nat} {σ : St} {k j : Nat} {v : V} (e : fr[k]? = some j) (h : σ[j]? = some (some v)) : (blk own fr σ)[own + k]? = some (some v) := by
  unfold blk
  rw [List.getElem?_append_right (by simp), List.length_replicate, List.getElem?_map, show own + k - own = k by omega, e]
  show some (σ[j]?).join = _
  rw [h]; rfl
theorem isl_snoc {H : Hp} {xs : List PyData} {vs : List V} {d : PyData} {v : V} (l : IsL K H xs vs) (i : Is K H d v) : IsL K H (xs ++ [d]) (vs ++ [v]) := isl_append l ⟨v, [], rfl, i, rfl⟩
theorem e_lc {own : Nat} {fr : List Nat} {wi : TI} {it : DI} {tg : TG} {g : DG} {tc : TT} {c : DT} {te : TE} {e : DX} {fe : Bool} (hi : IT K wi it) (hg : TG1 K tg g) (hc : T K tc c) (he : E K te fe e) : E K (tLC own fr wi tg tc te) true (dLC own fr it g c e) := by
  refine ⟨fun τ d τ' e => ?_, ?_⟩
  · unfold dLC at e
    obtain ⟨⟨x, τ1⟩, e1, e⟩ := Option.bind_eq_some_iff.mp e
    split at e
    · obtain ⟨z, e3, e⟩ := Option.map_eq_some_iff.mp e
      cases e; exact hi.like _ _ _ e1
    · cases e
  intro S M τ σ H Q d τ' r ee q
  unfold dLC at ee
  obtain ⟨⟨ds, τ1⟩, e1, ee⟩ := Option.bind_eq_some_iff.mp ee
  split at ee
  · rename_i hz
    obtain ⟨hz, hnm⟩ := hz
    have hz : ds.length ≤ sizeLine := hz
    obtain ⟨⟨acc, τb⟩, e3, ee⟩ := Option.map_eq_some_iff.mp ee
    obtain ⟨rfl, rfl⟩ : d = .list acc ∧ τ' = τ1 := by cases ee; exact ⟨rfl, rfl⟩
    refine hi.run S M τ σ H _ ds _ r e1 fun J H1 r1 c1 iJ => ?_
    intro D hD
    -- nothing of the def may be changed in the block
    refine ⟨fun i m ys σ' H' => ∃ τb' acc', R K (fun b => S b ∨ b = D) (fun _ => False) τb' σ' H' ∧ Keep S H1 (fun b => S b ∨ b = D) H' ∧ Chg (fun b => b = D) H1 H' ∧ IsL K (hid (fun b => S b ∨ b = D) H') acc' ys ∧ H' D = some (.lst ys) ∧ ys.length ≤ i ∧ i ≤ ds.length ∧ m = ds.length - i ∧ lcLoop g c e (ds.drop i) acc' τb' = some (acc, τb), ?_, ?_⟩
    · have s := same_new hD (HO.lst [])
      have k : Keep S H1 (fun b => S b ∨ b = D) (upd H1 D (.lst [])) := fun b o hn e => by
        have := ne_of_none e hD
        exact ⟨fun z => z.elim hn this, s b o e⟩
      refine ⟨ds.length, blkD own fr τ', [], ⟨?_, ?_, ?_, ?_, ?_, fun a h => h.elim, ?_, GR.nil blkD_g⟩, k, .of s, rfl, upd_same, Nat.le_refl _, Nat.zero_le _, by simp, by simpa using e3⟩
      · unfold blk blkD; simp
      · intro i x e
        obtain ⟨kk, j, rfl, ej, et⟩ := blkD_get e
        obtain ⟨v, h1, h2⟩ := r1.dat j x et
        exact ⟨v, blk_at ej h1, h2.mono k.same⟩
      · intro i xs e
        obtain ⟨kk, j, rfl, ej, et⟩ := blkD_get e
        have := List.all_eq_true.mp hnm j (List.mem_of_getElem? ej)
        rw [isM_iff.mpr ⟨xs, et⟩] at this
        cases this
      · intro i x e
        obtain ⟨kk, j, rfl, ej, et⟩ := blkD_get e
        obtain ⟨a, vs, h1, h2, h3⟩ := r1.cst j x et
        exact ⟨a, vs, blk_at ej h1, k.same.seq h2, h3.mono k.same⟩
      · intro i j xs ys a e
        obtain ⟨kk, j', rfl, ej, et⟩ := blkD_get e
        have := List.all_eq_true.mp hnm j' (List.mem_of_getElem? ej)
        rw [isM_iff.mpr ⟨xs, et⟩] at this
        cases this
      · rintro a (h | rfl)
        · obtain ⟨o, e⟩ := r1.ex a h
          exact ⟨o, s _ _ e⟩
        · exact ⟨_, upd_same⟩
    · rintro i m ys σ' H' ⟨τb', acc', rb, k, ch, la, hHD, hyl, hil, rfl, hl⟩
      obtain ⟨I1, I2⟩ := iJ _ _ k
      by_cases hlt : i < ds.length
      · right
        have ed : ds[i]? = some ds[i] := List.getElem?_eq_getElem hlt
        obtain ⟨go, yl⟩ := I1 i _ ed
        refine ⟨go, fun x H2 y => ?_⟩
        obtain ⟨rfl, ix⟩ := yl x H2 y
        rw [List.drop_eq_getElem_cons hlt, lcLoop] at hl
        obtain ⟨τ2, e2, hl⟩ := Option.bind_eq_some_iff.mp hl
        obtain ⟨⟨b, τ3⟩, e4, hl⟩ := Option.bind_eq_some_iff.mp hl
        refine hg.run _ _ τb' σ' H2 x _ τ2 _ rb ix e2 fun σ3 r3 k3 => ?_
        refine hc.run _ _ τ2 σ3 H2 _ b τ3 r3 e4 fun H4 r4 c4 => ?_
        have s4 : Same H2 H4 := fun b o e => c4 b o (fun z => z) e
        cases b with
        | false =>
          rw [if_neg Bool.false_ne_true]
          exact ⟨ds.length - (i + 1), by omega, τ3, acc', r4, k.trans (Same.keep s4), ch.trans (.of s4), la.mono (Same.keep s4).same, s4 _ _ hHD, by omega, hlt, rfl, hl⟩
        | true =>
          rw [if_pos rfl]
          rw [if_pos rfl] at hl
          obtain ⟨⟨z, τ5⟩, e5, hl⟩ := Option.bind_eq_some_iff.mp hl
          refine he.weak.run _ _ τ3 σ3 H4 _ z τ5 r4 e5 fun v H5 r5 c5 i5 => ?_
          have s5 : Same H2 H5 := s4.trans fun b o e => c5 b o (fun z => z) e
          have hD5 := s5 _ _ hHD
          refine ⟨hD5, by omega, ds.length - (i + 1), by omega, τ5, acc' ++ [z], ?_, ?_, ?_, ?_, upd_same, by rw [List.length_append, List.length_singleton]; omega, hlt, rfl, hl⟩
          · have kk : Keep (fun b => S b ∨ b = D) H5 (fun b => S b ∨ b = D) (upd H5 D (.lst (ys ++ [v]))) := fun b o hn e => ⟨hn, by rw [upd_ne (fun z => hn (.inr z))]; exact e⟩
            refine ⟨r5.len, fun j x e => let ⟨u, a, b⟩ := r5.dat j x e; ⟨u, a, b.mono kk.same⟩, fun j xs e => let ⟨_, _, _, h, _⟩ := r5.mt j xs e; h.elim, fun j xs e => let ⟨a, vs, h1, h2, h3⟩ := r5.cst j xs e; ⟨a, vs, h1, kk.same.seq h2, h3.mono kk.same⟩, r5.inj, fun _ h => h.elim, fun a h => ?_, r5.gr.to (fun i d e => ⟨e, rfl⟩) (fun j o a e q => .inl ⟨o, e, q⟩) (fun a h _ => h.elim) (tsS kk.same)⟩
            by_cases e : a = D
            · subst e; exact ⟨_, upd_same⟩
            · obtain ⟨o, q⟩ := r5.ex a h
              exact ⟨o, by rw [upd_ne e]; exact q⟩
          · refine k.trans fun b o hn e => ⟨hn, ?_⟩
            rw [upd_ne (fun z => hn (.inr z))]
            exact s5 _ _ e
          · refine ch.trans fun b o hn e => ?_
            rw [upd_ne hn]
            exact s5 _ _ e
          · refine (isl_snoc (la.mono (Same.keep s5).same) i5).mono (Keep.same fun b o hn e => ⟨hn, ?_⟩)
            rw [upd_ne (fun z => hn (.inr z))]
            exact e
      · left
        have e : i = ds.length := by omega
        subst e
        rw [List.drop_length, lcLoop] at hl
        cases hl
        refine ⟨I2 _ (Nat.le_refl _), ?_⟩
        have s : Same H1 H' := fun b o e => ch b o (ne_of_none e hD) e
        refine q _ H' (r1.same s) (c1.trans (.of s)) ⟨.l acc, D, _, rfl, rfl, r1.none c1 hD, hHD, ys, rfl, la⟩
  · cases ee
end DL
end
section
set_option Elab.async false
set_option linter.all false
set_option maxRecDepth 100000
namespace DL
open PySem L2
variable {K : PySem.W.Frag}
def dLCm (own : Nat) (f1 : List Nat) (j0 : Nat) (f2 : List Nat) (it : DI) (g : DG) (c : DT) (e : DX) (τ : DS) : Option (PyData × DS) := (it τ).bind fun p => if p.1.length ≤ sizeLine ∧ isM p.2 j0 = true ∧ ((f1 ++ f2).all fun j => !isM p.2 j) = true then
    (lcLoop g c e p.1 [] (blkD own (f1 ++ j0 :: f2) p.2)).bind fun q => match q.2[own + f1.length]?, p.2[j0]? with
      | some (some (.m xs)), some (some (.m _)) => some (.list q.1, p.2.set j0 (some (.m xs)))
      | some (some (.k xs)), some (some (.k _)) => some (.list q.1, p.2.set j0 (some (.k xs)))
      | _, _ => none
  else none
theorem dLCm_some {own : Nat} {f1 : List Nat} {j0 : Nat} {f2 : List Nat} {it : DI} {g : DG} {c : DT} {e : DX} {τ : DS} {d : PyData} {τ' : DS} (h : dLCm own f1 j0 f2 it g c e τ = some (d, τ')) :
    ∃ ds τ1 acc τb xs, it τ = some (ds, τ1) ∧ ds.length ≤ sizeLine ∧ isM τ1 j0 = true ∧ ((f1 ++ f2).all fun j => !isM τ1 j) = true ∧ lcLoop g c e ds [] (blkD own (f1 ++ j0 :: f2) τ1) = some (acc, τb) ∧ τb[own + f1.length]? = some (some (Ow.L xs)) ∧ d = .list acc ∧ τ' = τ1.set j0 (some xs.L) ∧ ∃ y0 : Ow, τ1[j0]? = some (some y0.L) ∧ y0.fl = xs.fl := by
  unfold dLCm at h
  obtain ⟨⟨ds, τ1⟩, e1, h⟩ := Option.bind_eq_some_iff.mp h
  split at h
  · rename_i hz
    obtain ⟨⟨acc, τb⟩, e3, h⟩ := Option.bind_eq_some_iff.mp h
    dsimp only at h
    split at h
    · rename_i xs ys hx hy
      cases h
      exact ⟨ds, τ1, acc, τb, .l xs, e1, hz.1, hz.2.1, hz.2.2, e3, hx, rfl, rfl, .l _, hy, rfl⟩
    · rename_i xs ys hx hy
      cases h
      exact ⟨ds, τ1, acc, τb, .t xs, e1, hz.1, hz.2.1, hz.2.2, e3, hx, rfl, rfl, .t _, hy, rfl⟩
    · cases h
  · cases h
theorem at_mid {f1 f2 : List Nat} {j0 k j : Nat} (h : (f1 ++ j0 :: f2)[k]? = some j) : (k = f1.length ∧ j = j0) ∨ j ∈ f1 ++ f2 := by
  rcases Nat.lt_trichotomy k f1.length with q | q | q
  · rw [List.getElem?_append_left q] at h
    exact .inr (List.mem_append_left _ (List.mem_of_getElem? h))
  · subst q
    rw [List.getElem?_append_right (Nat.le_refl _), Nat.sub_self] at h
    cases h
    exact .inl ⟨rfl, rfl⟩
  · rw [List.getElem?_append_right (by omega)] at h
    have e : k - f1.length = (k - f1.length - 1) + 1 := by omega
    rw [e, List.getElem?_cons_succ] at h
    exact .inr (List.mem_append_right _ (List.mem_of_getElem? h))
theorem e_lcm {own : Nat} {f1 : List Nat} {j0 : Nat} {f2 : List Nat} {wi : TI} {it : DI} {tg : TG} {g : DG} {tc : TT} {c : DT} {te : TE} {e : DX} {fe : Bool} (hi : IT K wi it) (hg : TG1 K tg g) (hc : T K tc c) (he : E K te fe e) : E K (tLC own (f1 ++ j0 :: f2) wi tg tc te) true (dLCm own f1 j0 f2 it g c e) := by
  refine ⟨fun τ d τ' h => ?_, ?_⟩
  · obtain ⟨ds, τ1, acc, τb, xs, e1, _, hm, _, _, _, _, rfl, y0, hy, hf⟩ := dLCm_some h
    exact (hi.like _ _ _ e1).trans (like_setO hy hf)
  intro S M τ σ H Q d τ' r ee q
  obtain ⟨ds, τ1, acc, τb, xs, e1, hz, hm, hnm, e3, hx, rfl, rfl, _⟩ := dLCm_some ee
  obtain ⟨y0, hm⟩ := isM_iff.mp hm
  refine hi.run S M τ σ H _ ds _ r e1 fun J H1 r1 c1 iJ => ?_
  obtain ⟨p, us, hp, hM, hHp, lp⟩ := r1.mt j0 y0 hm
  have Sp : S p := r1.sub p hM
  have mid : (f1 ++ j0 :: f2)[f1.length]? = some j0 := by rw [List.getElem?_append_right (Nat.le_refl _), Nat.sub_self]; rfl
  have only : ∀ (i : Nat) (ys : Ow), (blkD own (f1 ++ j0 :: f2) τ1)[i]? = some (some ys.L) → i = own + f1.length ∧ ys = y0 := fun i ys h => by
    obtain ⟨k, j, rfl, ej, et⟩ := blkD_get h
    rcases at_mid ej with ⟨rfl, rfl⟩ | z
    · rw [hm] at et; exact ⟨rfl, (owL_inj et).symm⟩
    · have := List.all_eq_true.mp hnm j z
      rw [isM_iff.mpr ⟨ys, et⟩] at this
      cases this
  intro D hD
  have pD : p ≠ D := ne_of_none hHp hD
  refine ⟨fun i m ys σ' H' => ∃ τb' acc', R K (fun b => S b ∨ b = D) (fun b => b = p) τb' σ' H' ∧ Keep S H1 (fun b => S b ∨ b = D) H' ∧ Chg (fun b => b = D ∨ b = p) H1 H' ∧ IsL K (hid (fun b => S b ∨ b = D) H') acc' ys ∧ H' D = some (.lst ys) ∧ ys.length ≤ i ∧ i ≤ ds.length ∧ m = ds.length - i ∧ lcLoop g c e (ds.drop i) acc' τb' = some (acc, τb) ∧ isM τb' (own + f1.length) = true ∧ σ'[own + f1.length]? = some (some (.ref p)), ?_, ?_⟩
  · have s := same_new hD (HO.lst [])
    have k : Keep S H1 (fun b => S b ∨ b = D) (upd H1 D (.lst [])) := fun b o hn e => by
      have := ne_of_none e hD
      exact ⟨fun z => z.elim hn this, s b o e⟩
    have mb : (blkD own (f1 ++ j0 :: f2) τ1)[own + f1.length]? = some (some y0.L) := by
      unfold blkD
      rw [List.getElem?_append_right (by simp), List.length_replicate, List.getElem?_map, show own + f1.length - own = f1.length by omega, mid]
      show some (noG (τ1[j0]?).join) = _
      rw [hm]; cases y0 <;> rfl
    refine ⟨ds.length, blkD own (f1 ++ j0 :: f2) τ1, [], ⟨?_, ?_, ?_, ?_, ?_, ?_, ?_, GR.nil blkD_g⟩, k, .of s, rfl, upd_same, Nat.le_refl _, Nat.zero_le _, by simp, by simpa using e3, isM_iff.mpr ⟨_, mb⟩, blk_at mid hp⟩
    · unfold blk blkD; simp
    · intro i x e
      obtain ⟨kk, j, rfl, ej, et⟩ := blkD_get e
      obtain ⟨v, h1, h2⟩ := r1.dat j x et
      exact ⟨v, blk_at ej h1, h2.mono k.same⟩
    · intro i ys e
      obtain ⟨rfl, rfl⟩ := only i ys e
      exact ⟨p, us, blk_at mid hp, rfl, s _ _ hHp, lp.mono k.same⟩
    · intro i x e
      obtain ⟨kk, j, rfl, ej, et⟩ := blkD_get e
      obtain ⟨a, vs, h1, h2, h3⟩ := r1.cst j x et
      exact ⟨a, vs, blk_at ej h1, k.same.seq h2, h3.mono k.same⟩
    · intro i j ys zs a e1 e2 _ _
      rw [(only i ys e1).1, (only j zs e2).1]
    · rintro a rfl
      exact .inl Sp
    · rintro a (h | rfl)
      · obtain ⟨o, e⟩ := r1.ex a h
        exact ⟨o, s _ _ e⟩
      · exact ⟨_, upd_same⟩
  · rintro i m ys σ' H' ⟨τb', acc', rb, k, ch, la, hHD, hyl, hil, rfl, hl, hmb, hpb⟩
    obtain ⟨I1, I2⟩ := iJ _ _ k
    by_cases hlt : i < ds.length
    · right
      have ed : ds[i]? = some ds[i] := List.getElem?_eq_getElem hlt
      obtain ⟨go, yl⟩ := I1 i _ ed
      refine ⟨go, fun x H2 y => ?_⟩
      obtain ⟨rfl, ix⟩ := yl x H2 y
      rw [List.drop_eq_getElem_cons hlt, lcLoop] at hl
      obtain ⟨τ2, e2, hl⟩ := Option.bind_eq_some_iff.mp hl
      obtain ⟨⟨b, τ3⟩, e4, hl⟩ := Option.bind_eq_some_iff.mp hl
      obtain ⟨zb, hmb⟩ := isM_iff.mp hmb
      refine hg.run _ _ τb' σ' H2 x _ τ2 _ rb ix e2 fun σ3 r3 k3 => ?_
      have hpb3 : σ3[own + f1.length]? = some (some (.ref p)) := (k3 _ _ hmb).trans hpb
      have hm2 : τ2[own + f1.length]? = some (some zb.L) := ((hg.ms _ _ _ e2).2 _ _).mpr hmb
      refine hc.run _ _ τ2 σ3 H2 _ b τ3 r3 e4 fun H4 r4 c4 => ?_
      have k4 : Keep (fun b => S b ∨ b = D) H2 (fun b => S b ∨ b = D) H4 := c4.keep fun b z => by subst z; exact .inl Sp
      have hm3 := ((hc.like _ _ _ e4).own (own + f1.length)).mpr ⟨_, hm2⟩
      have hD4 : H4 D = some (.lst ys) := c4 D _ (Ne.symm pD) hHD
      have ch4 : Chg (fun b => b = D ∨ b = p) H1 H4 := ch.trans fun b o hn e => c4 b o (fun z => hn (.inr z)) e
      cases b with
      | false =>
        rw [if_neg Bool.false_ne_true]
        exact ⟨ds.length - (i + 1), by omega, τ3, acc', r4, k.trans k4, ch4, la.mono k4.same, hD4, by omega, hlt, rfl, hl, isM_iff.mpr hm3, hpb3⟩
      | true =>
        rw [if_pos rfl]
        rw [if_pos rfl] at hl
        obtain ⟨⟨z, τ5⟩, e5, hl⟩ := Option.bind_eq_some_iff.mp hl
        refine he.weak.run _ _ τ3 σ3 H4 _ z τ5 r4 e5 fun v H5 r5 c5 i5 => ?_
        have k5 : Keep (fun b => S b ∨ b = D) H4 (fun b => S b ∨ b = D) H5 := c5.keep fun b z => by subst z; exact .inl Sp
        have hD5 : H5 D = some (.lst ys) := c5 D _ (Ne.symm pD) hD4
        have hm5 := ((he.like _ _ _ e5).own (own + f1.length)).mpr hm3
        have kk : Keep (fun b => S b ∨ b = D) H5 (fun b => S b ∨ b = D) (upd H5 D (.lst (ys ++ [v]))) := fun b o hn e => ⟨hn, by rw [upd_ne (fun z => hn (.inr z))]; exact e⟩
        refine ⟨hD5, by omega, ds.length - (i + 1), by omega, τ5, acc' ++ [z], ?_, (k.trans (k4.trans k5)).trans kk, ?_, ?_, upd_same, by rw [List.length_append, List.length_singleton]; omega, hlt, rfl, hl, isM_iff.mpr hm5, hpb3⟩
        · refine ⟨r5.len, fun j x e => let ⟨u, a, b⟩ := r5.dat j x e; ⟨u, a, b.mono kk.same⟩, fun j xs e => ?_, fun j xs e => let ⟨a, vs, h1, h2, h3⟩ := r5.cst j xs e; ⟨a, vs, h1, kk.same.seq h2, h3.mono kk.same⟩, r5.inj, r5.sub, fun a h => ?_, r5.gr.to (fun i d e => ⟨e, rfl⟩) (fun j o a e q => .inl ⟨o, e, q⟩) (fun a h _ => ⟨h, upd_ne (by rw [show a = p from h]; exact pD)⟩) (tsS kk.same)⟩
          · obtain ⟨a, ws, h1, h2, h3, h4⟩ := r5.mt j xs e
            exact ⟨a, ws, h1, h2, by rw [upd_ne (by rw [show a = p from h2]; exact pD)]; exact h3, h4.mono kk.same⟩
          · by_cases e : a = D
            · subst e; exact ⟨_, upd_same⟩
            · obtain ⟨o, q⟩ := r5.ex a h
              exact ⟨o, by rw [upd_ne e]; exact q⟩
        · refine ch4.trans fun b o hn e => ?_
          rw [upd_ne (fun z => hn (.inl z))]
          exact c5 b o (fun z => hn (.inr z)) e
        · exact (isl_snoc (la.mono (k4.trans k5).same) i5).mono kk.same
    · left
      have e : i = ds.length := by omega
      subst e
      rw [List.drop_length, lcLoop] at hl
      cases hl
      refine ⟨I2 _ (Nat.le_refl _), ?_⟩
      have cp : Chg (fun b => b = p) H1 H' := fun b o hn e => ch b o (fun z => z.elim (ne_of_none e hD) hn) e
      obtain ⟨a, ws, h1, h2, h3, h4⟩ := rb.mt _ _ hx
      have ea : a = p := h2
      subst ea
      exact q _ H' (r1.setO hm hp cp h3 (h4.mono (hid_less fun b z => .inl z))) (c1.trans fun b o hn e => cp b o (fun z => hn (by subst z; exact hM)) e) ⟨.l acc, D, _, rfl, rfl, r1.none c1 hD, hHD, ys, rfl, la⟩
end DL
end
section
set_option Elab.async false
set_option linter.all false
set_option maxRecDepth 100000
namespace DL
open PySem L2
variable {K : PySem.W.Frag}
def dIxC (i : Nat) (f : DX) (τ : DS) : Option (PyData × DS) := (f τ).bind fun p => match p.2[i]?, p.1 with
  | some (some (.c xs)), .int k => (atI xs k).map fun d => (d, p.2)
  | _, _ => none
theorem e_ixC {i : Nat} {fr : Bool} {tb : TE} {f : DX} (h : E K tb fr f) : E K (tOp (rIxL K) (tVar i) tb) false (dIxC i f) := by
  refine ⟨fun τ d τ' e => ?_, ?_⟩
  · unfold dIxC at e
    obtain ⟨⟨x, τ1⟩, e1, e⟩ := Option.bind_eq_some_iff.mp e
    dsimp only at e
    split at e
    · obtain ⟨z, e3, e⟩ := Option.map_eq_some_iff.mp e
      cases e; exact h.like _ _ _ e1
    · cases e
  intro S M τ σ H Q d τ' r e q
  unfold dIxC at e
  obtain ⟨⟨x, τ1⟩, e1, e⟩ := Option.bind_eq_some_iff.mp e
  dsimp only at e
  split at e
  · rename_i xs k hx
    obtain ⟨z, e3, e⟩ := Option.map_eq_some_iff.mp e
    cases e
    obtain ⟨a, vs, ha, _⟩ := r.cst i xs ((((h.like _ _ _ e1).2 i).1.2 xs).mp hx)
    refine ⟨.ref a, ha, h.weak.run S M τ σ H _ _ _ r e1 fun v H1 r1 c1 i1 => ?_⟩
    obtain ⟨a', vs', ha', h2, h3⟩ := r1.cst i xs hx
    rw [ha] at ha'; cases ha'
    obtain ⟨u, h4, h5⟩ := isl_at h3 e3
    exact ⟨a, vs', k, u, rfl, i1, same_hid.seq h2, h4, q u H1 r1 c1 h5⟩
  · cases e
def dLenC (i : Nat) (τ : DS) : Option (PyData × DS) := match τ[i]? with
  | some (some (.c xs)) => some (.int xs.length, τ)
  | _ => none
theorem e_lenC {i : Nat} : E K (tCB (fun xs H Q => ∃ x n, xs = [x] ∧ LenV K x H n ∧ Q (.int n) H) (tCons (tVar i) tNil)) false (dLenC i) := by
  refine ⟨fun τ d τ' e => ?_, ?_⟩
  · unfold dLenC at e
    split at e
    · cases e; exact .refl
    · cases e
  intro S M τ σ H Q d τ' r e q
  unfold dLenC at e
  split at e
  · rename_i xs hx
    cases e
    obtain ⟨a, vs, ha, h2, h3⟩ := r.cst i xs hx
    refine ⟨.ref a, ha, .ref a, vs.length, rfl, .inl ⟨vs, same_hid.seq h2, rfl⟩, ?_⟩
    exact q _ H r .refl (by rw [h3.length]; rfl)
  · cases e
def dCallC (i : Nat) (G : List L → Option (PyData × List L)) (a : DA) (τ : DS) : Option (PyData × DS) := (a τ).bind fun p => (allD p.1).bind fun ds => match p.2[i]? with
  | some (some (.c xs)) => (G (.c xs :: ds.map L.d)).map fun q => (q.1, p.2)
  | _ => none
theorem e_callC {i : Nat} {fr : Bool} {G : List L → Option (PyData × List L)} {t : TA} {a : DA} {X : XK} (ha : A K t a) : E K (tCall (spD K G fr) [] X (tCons (tVar i) t)) fr (dCallC i G a) := by
  refine ⟨fun τ d τ' e => ?_, ?_⟩
  · unfold dCallC at e
    obtain ⟨⟨x, τ1⟩, e1, e⟩ := Option.bind_eq_some_iff.mp e
    obtain ⟨ds, e2, e⟩ := Option.bind_eq_some_iff.mp e
    dsimp only at e
    split at e
    · obtain ⟨z, e3, e⟩ := Option.map_eq_some_iff.mp e
      cases e; exact ha.like _ _ _ e1
    · cases e
  intro S M τ σ H Q d τ' rr e q
  unfold dCallC at e
  obtain ⟨⟨x, τ1⟩, e1, e⟩ := Option.bind_eq_some_iff.mp e
  obtain ⟨ds, e2, e⟩ := Option.bind_eq_some_iff.mp e
  dsimp only at e
  split at e
  · rename_i xs hx
    obtain ⟨⟨z, ls'⟩, e3, e⟩ := Option.map_eq_some_iff.mp e
    cases e
    obtain ⟨p, us, hp, _⟩ := rr.cst i xs ((((ha.like _ _ _ e1).2 i).1.2 xs).mp hx)
    refine ⟨.ref p, hp, ha.run S M τ σ H _ x _ rr e1 fun vs H1 r1 c1 i1 => ?_⟩
    have l := allD_is i1 e2
    obtain ⟨p', us', hp', h2, h3⟩ := r1.cst i xs hx
    rw [hp] at hp'; cases hp'
    show spD K G fr ((.ref p :: vs) ++ []) H1 Q X
    rw [List.append_nil]
    have ra := r_args r1 l
    refine ⟨S, fun _ => False, .c xs :: ds.map L.d, _, ls', ⟨?_, ?_, ?_, ?_, ?_, fun _ h => h.elim, r1.ex, GR.nil ?_⟩, e3, fun v H' _ c res => ?_⟩
    · have := ra.len
      simp only [List.length_map, List.map_cons, List.length_cons] at this ⊢
      omega
    · intro j x e
      cases j with
      | zero => cases e
      | succ j => exact ra.dat j x (by simpa using e)
    · intro j ys e
      cases j with
      | zero => exact absurd (Option.some.inj (Option.some.inj e)).symm Ow.not_c
      | succ j => obtain ⟨_, _, _, h, _⟩ := ra.mt j ys (by simpa using e); exact h.elim
    · intro j ys e
      cases j with
      | zero => cases e; exact ⟨p, us', rfl, h2, h3⟩
      | succ j => exact ra.cst j ys (by simpa using e)
    · intro j k ys ws b e1 e2 _ _
      cases j with
      | zero => exact absurd (Option.some.inj (Option.some.inj e1)).symm Ow.not_c
      | succ j => obtain ⟨_, _, _, h, _⟩ := ra.mt j ys (by simpa using e1); exact h.elim
    · intro j x e
      cases j with
      | zero => cases e
      | succ j =>
        rw [List.map_cons, List.getElem?_cons_succ, List.getElem?_map, List.getElem?_map] at e
        cases q : ds[j]? with
        | none => rw [q] at e; cases e
        | some d => rw [q] at e; cases e
    · have s : Same H1 H' := fun b o e => c b o (fun z => z) e
      exact q v H' (r1.same s) (c1.trans (.of s)) (res.back r1 c1)
  · cases e
section
variable {F : Frm} {S M : Addr → Prop} {τ τ' : DS} {σ : St} {H H' : Hp}
theorem RF.step (f : RF K F S M τ σ H) (r' : R K S M τ' σ H') (c : Chg M H H') (lk : Like τ τ') : RF K F S M τ' σ H' where
  r := r'
  sS := f.sS
  old := fun b o e n => c b o (fun z => (f.new b z).elim n fun q => by rw [q] at e; cases e) (f.old b o e n)
  new := f.new
  fm := f.fm
  fs := f.fs
  fsub := f.fsub
  snew := f.snew
  par := f.par
  pm := fun i v e => let ⟨xs, h⟩ := f.pm i v e; (lk.own i).mpr ⟨xs, h⟩
  fma := f.fma
theorem RF.stay (f : RF K F S M τ σ H) {σ' : St} (r' : R K S M τ' σ' H) (ms : MSame τ τ') (k : ∀ (j : Nat) (o : Ow), τ[j]? = some (some o.L) → σ'[j]? = σ[j]?) : RF K F S M τ' σ' H where
  r := r'
  sS := f.sS
  old := f.old
  new := f.new
  fm := f.fm
  fs := f.fs
  fsub := f.fsub
  snew := f.snew
  par := fun i v e => by
    obtain ⟨xs, h⟩ := f.pm i v e
    rw [k i xs h]
    exact f.par i v e
  pm := fun i v e => let ⟨xs, h⟩ := f.pm i v e; ⟨xs, (ms.2 i xs).mpr h⟩
  fma := f.fma
theorem RF.hnone (f : RF K F S M τ σ H) {a : Addr} (h : H a = none) : F.H a = none := by
  cases e : F.H a with
  | none => rfl
  | some o =>
    exfalso
    by_cases hm : F.M a
    · obtain ⟨o', e'⟩ := f.r.ex a (f.sS a (f.fsub a hm))
      rw [h] at e'; cases e'
    · have := f.old a o e hm
      rw [h] at this; cases this
theorem RF.res (f : RF K F S M τ σ H) {fr : Bool} {d : PyData} {v : V} (h : Res K fr S H H' d v) : Res K fr F.S F.H H' d v := by
  cases fr with
  | false => exact Is.mono (hid_less f.sS) h
  | true =>
    obtain ⟨xs, a, vs, e1, e2, h1, h2, h3⟩ := h
    exact ⟨xs, a, vs, e1, e2, f.hnone h1, h2, h3.mono (hid_less fun b z => z.elim (fun z => .inl (f.sS b z)) .inr)⟩
end
variable {np : Nat}
def dAsg (e : DX) (g : DG) (τ : DS) : Option Out := (e τ).bind fun p => (g p.1 p.2).map .nx
theorem b_asg {fr fe : Bool} {te : TE} {tg : TG} {e : DX} {g : DG} (he : E K te fe e) (hg : TG1 K tg g) : B K np (tAsg te tg) fr (dAsg e g) := by
  intro F S M τ σ H D out hnp f ee q
  unfold dAsg at ee
  obtain ⟨⟨x, τ1⟩, e1, ee⟩ := Option.bind_eq_some_iff.mp ee
  obtain ⟨τ2, e2, ee⟩ := Option.map_eq_some_iff.mp ee
  cases ee
  refine he.weak.run S M τ σ H _ x τ1 f.r e1 fun v H1 r1 c1 i1 => ?_
  refine hg.run S M τ1 σ H1 v x τ2 _ r1 i1 e2 fun σ' r2 k => ?_
  exact q S M σ' H1 ((f.step r1 c1 (he.like _ _ _ e1)).stay r2 (hg.ms _ _ _ e2) k) (c1.keep f.r.sub)
theorem b_lcs {fr fe : Bool} {te : TE} {i : Nat} {e : DX} (he : E K te fe e) : B K np (fun D σ H => te σ H fun v H' => D.nx (σ.set i (some v)) H') fr (dAsg e (dN i)) := b_asg (tg := gName i) he g_name
def dNew (np i : Nat) (τ : DS) : Option Out := if np ≤ i ∧ i < τ.length then some (.nx (τ.set i (some (.m [])))) else none
def tkP : List (PyData × PyData) → Option (List (List Int × PyData))
  | [] => some []
  | (.tuple ks, d) :: r => (tkI ks).bind fun k => (tkP r).map ((k, d) :: ·)
  | _ => none
where tkI : List PyData → Option (List Int)
  | [] => some []
  | .int i :: r => (tkI r).map (i :: ·)
  | _ => none
theorem tkI_map : ∀ (k : List Int), tkP.tkI (k.map PyData.int) = some k
  | [] => rfl
  | i :: k => by rw [List.map_cons, tkP.tkI, tkI_map k]; rfl
theorem tkP_dct : ∀ (m : List (List Int × PyData)), tkP (dctP m) = some m
  | [] => rfl
  | (k, d) :: m => by
    have := tkP_dct m
    show (tkP.tkI (k.map PyData.int)).bind _ = _
    rw [tkI_map]
    show ((tkP (dctP m)).map _) = _
    rw [this]; rfl
theorem D_dict {o : Ow} {kvs : List (PyData × PyData)} {m : List (List Int × PyData)} (h : PyData.dict kvs = o.D) (e : tkP kvs = some m) : o = .t m := by
  cases o with
  | l xs => cases h
  | t m' => cases h; rw [tkP_dct] at e; cases e; rfl
def dSetM (np i : Nat) (e : DX) (τ : DS) : Option Out := (e τ).bind fun p => match p.1 with
  | .list xs => if np ≤ i ∧ i < p.2.length ∧ p.2.all okM = true then some (.nx (p.2.set i (some (.m xs)))) else none
  | .dict kvs => (tkP kvs).bind fun m => if np ≤ i ∧ i < p.2.length ∧ p.2.all okM = true then some (.nx (p.2.set i (some (.k m)))) else none
  | _ => none
theorem RF.newM {F : Frm} {S M : Addr → Prop} {τ : DS} {σ : St} {H : Hp} (f : RF K F S M τ σ H) {a : Addr} {i : Nat} {xs : Ow} {vs : HO} (hi : i < τ.length) (hnp : F.ar.length ≤ i) (hS : S a) (hM : ¬ M a) (hF : F.H a = none) (h' : H a = some vs)
    (l : IsO K (hid S H) xs a vs) : RF K F S (fun b => M b ∨ b = a) (τ.set i (some xs.L)) (σ.set i (some (.ref a))) H := by
  have hs : i < σ.length := by rw [f.r.len]; exact hi
  have ne : ∀ j, j ≠ i → (τ.set i (some xs.L))[j]? = τ[j]? := fun j hj => List.getElem?_set_ne (Ne.symm hj)
  have ne' : ∀ j, j ≠ i → (σ.set i (some (V.ref a)))[j]? = σ[j]? := fun j hj => List.getElem?_set_ne (Ne.symm hj)
  have se : (τ.set i (some xs.L))[i]? = some (some xs.L) := List.getElem?_set_self hi
  have se' : (σ.set i (some (V.ref a)))[i]? = some (some (.ref a)) := List.getElem?_set_self hs
  have Ma : ∀ (j : Nat) (ys : Ow) (b : Addr), j ≠ i → τ[j]? = some (some ys.L) → σ[j]? = some (some (.ref b)) → b ≠ a := fun j ys b hj e e' z => by
    obtain ⟨b', us, h1, h2, _⟩ := f.r.mt j ys e
    rw [e'] at h1; cases h1
    subst z
    exact hM h2
  refine ⟨⟨by rw [List.length_set, List.length_set]; exact f.r.len, fun j x e => ?_, fun j ys e => ?_, fun j ys e => ?_, fun j1 j2 ys zs b e1 e2 f1 f2 => ?_, fun b h => h.elim (f.r.sub b) fun z => by rw [z]; exact hS, f.r.ex, f.r.gr.to (fun j x e => ?_) (fun j o b e q => ?_) (fun b hb _ => ⟨.inl hb, rfl⟩) .refl⟩, f.sS, f.old, fun b h => h.elim (f.new b) fun z => .inr (by rw [z]; exact hF), fun b h => .inl (f.fm b h), f.fs, f.fsub, f.snew, fun j v e => ?_, fun j v e => ?_, f.fma⟩
  · by_cases hj : j = i
    · subst hj; rw [se] at e; exact absurd (Option.some.inj (Option.some.inj e)) Ow.not_d
    · rw [ne j hj] at e
      rw [ne' j hj]
      exact f.r.dat j x e
  · by_cases hj : j = i
    · subst hj
      rw [se] at e
      obtain rfl := owL_inj e
      exact ⟨a, vs, se', .inr rfl, h', l⟩
    · rw [ne j hj] at e
      rw [ne' j hj]
      obtain ⟨b, us, h1, h2, h3, h4⟩ := f.r.mt j ys e
      exact ⟨b, us, h1, .inl h2, h3, h4⟩
  · by_cases hj : j = i
    · subst hj; rw [se] at e; exact absurd (Option.some.inj (Option.some.inj e)) Ow.not_c
    · rw [ne j hj] at e
      rw [ne' j hj]
      exact f.r.cst j ys e
  · by_cases h1 : j1 = i
    · by_cases h2 : j2 = i
      · rw [h1, h2]
      · exfalso
        subst h1
        rw [se'] at f1; cases f1
        rw [ne j2 h2] at e2
        rw [ne' j2 h2] at f2
        exact Ma j2 zs _ h2 e2 f2 rfl
    · by_cases h2 : j2 = i
      · exfalso
        subst h2
        rw [se'] at f2; cases f2
        rw [ne j1 h1] at e1
        rw [ne' j1 h1] at f1
        exact Ma j1 ys _ h1 e1 f1 rfl
      · rw [ne j1 h1] at e1
        rw [ne' j1 h1] at f1
        rw [ne j2 h2] at e2
        rw [ne' j2 h2] at f2
        exact f.r.inj _ _ _ _ b e1 e2 f1 f2
  · by_cases hj : j = i
    · subst hj; rw [se] at e; exact absurd (Option.some.inj (Option.some.inj e)) Ow.not_g
    · rw [ne j hj] at e; exact ⟨e, ne' j hj⟩
  · by_cases hj : j = i
    · subst hj; rw [se'] at q; cases q; exact .inr hM
    · rw [ne j hj] at e; rw [ne' j hj] at q; exact .inl ⟨o, e, q⟩
  · have : j ≠ i := fun z => by
      subst z
      have := (List.getElem?_eq_some_iff.mp e).1
      omega
    rw [ne' j this]
    exact f.par j v e
  · have : j ≠ i := fun z => by
      subst z
      have := (List.getElem?_eq_some_iff.mp e).1
      omega
    rw [ne j this]
    exact f.pm j v e
theorem RF.hide {F : Frm} {S M : Addr → Prop} {τ : DS} {σ : St} {H H' : Hp} (f : RF K F S M τ σ H) {a : Addr} (s : Same H H') (ha : H a = none) (h' : ∃ o, H' a = some o) : RF K F (fun b => S b ∨ b = a) M τ σ H' := by
  have k : Keep S H (fun b => S b ∨ b = a) H' := fun b o hn e => ⟨fun z => z.elim hn (ne_of_none e ha), s b o e⟩
  refine ⟨⟨f.r.len, fun j x e => let ⟨v, h1, h2⟩ := f.r.dat j x e; ⟨v, h1, h2.mono k.same⟩, fun j x e => let ⟨b, vs, h1, h2, h3, h4⟩ := f.r.mt j x e; ⟨b, vs, h1, h2, s _ _ h3, h4.mono k.same⟩,
    fun j x e => let ⟨b, vs, h1, h2, h3⟩ := f.r.cst j x e; ⟨b, vs, h1, k.same.seq h2, h3.mono k.same⟩, f.r.inj, fun b h => .inl (f.r.sub b h), fun b h => ?_, f.r.gr.to (fun i d e => ⟨e, rfl⟩) (fun j o a e q => .inl ⟨o, e, q⟩) (fun a h _ => ⟨h, by obtain ⟨o, e⟩ := f.r.ex a (f.r.sub a h); rw [e]; exact s _ _ e⟩) (tsS k.same)⟩, fun b h => .inl (f.sS b h), fun b o e n => s _ _ (f.old b o e n), f.new, f.fm, f.fs, f.fsub, fun b h => h.elim (f.snew b) fun z => .inr (by rw [z]; exact f.hnone ha), f.par, f.pm, f.fma⟩
  rcases h with h | h
  · obtain ⟨o, e⟩ := f.r.ex b h
    exact ⟨o, s _ _ e⟩
  · rw [h]; exact h'
theorem RF.hideE {F : Frm} {S M : Addr → Prop} {τ τ1 : DS} {σ : St} {H H' : Hp} (f : RF K F S M τ σ H) {a : Addr} (r1 : R K S M τ1 σ H') (c : Chg M H H') (lk : Like τ τ1) (ok : τ1.all okM = true) (ha : H a = none) (h' : ∃ o, H' a = some o ∧ OwH o) : RF K F (fun b => S b ∨ b = a) M τ1 σ H' := by
  have f1 := f.step r1 c lk
  have k : Keep S H (fun b => S b ∨ b = a) H' := fun b o hn e => ⟨fun z => z.elim hn (ne_of_none e ha), c b o (fun z => hn (f.r.sub b z)) e⟩
  have ts : TSm (hid S H') (hid (fun b => S b ∨ b = a) H') := tsame_hid fun b z => z.elim .inl fun z => by subst z; exact .inr h'
  refine ⟨⟨r1.len, fun j x e => ?_, fun j x e => ?_, fun j x e => ?_, r1.inj, fun b h => .inl (f.r.sub b h), fun b h => ?_, r1.gr.to (fun i d e => ⟨e, rfl⟩) (fun j o a e q => .inl ⟨o, e, q⟩) (fun a h _ => ⟨h, rfl⟩) ts⟩, fun b h => .inl (f.sS b h), f1.old, f.new, f.fm, f.fs, f.fsub, fun b h => h.elim (f.snew b) fun z => .inr (by rw [z]; exact f.hnone ha), f.par, f1.pm, f.fma⟩
  · obtain ⟨v, h1, h2⟩ := f.r.dat j x (((lk.2 j).1.1 x).mp e)
    exact ⟨v, h1, h2.mono k.same⟩
  · obtain ⟨b, vs, h1, h2, h3, h4⟩ := r1.mt j x e
    exact ⟨b, vs, h1, h2, h3, h4.monoT ts (List.all_eq_true.mp ok (some x.L) (List.mem_of_getElem? e))⟩
  · obtain ⟨b, vs, h1, h2, h3⟩ := f.r.cst j x (((lk.2 j).1.2 x).mp e)
    exact ⟨b, vs, h1, k.same.seq h2, h3.mono k.same⟩
  · rcases h with h | h
    · exact r1.ex b h
    · obtain ⟨vs, e, _⟩ := h'
      rw [h]; exact ⟨_, e⟩
theorem b_new {fr : Bool} {i : Nat} : B K np (tAsg (tLst tNil) (gName i)) fr (dNew np i) := by
  intro F S M τ σ H D out hnp f ee q
  unfold dNew at ee
  split at ee
  · rename_i hi
    cases ee
    refine ⟨Nat.zero_le _, fun a ha => ?_⟩
    have s := same_new ha (HO.lst [])
    have f1 := f.hide s ha ⟨_, upd_same⟩
    have hM : ¬ M a := fun z => f.r.fresh ha (f.r.sub a z)
    exact q _ _ _ _ (f1.newM (xs := .l []) hi.2 (Nat.le_trans hnp hi.1) (.inr rfl) hM (f.hnone ha) upd_same ⟨[], rfl, rfl⟩) fun b o hn e => ⟨fun z => z.elim hn (ne_of_none e ha), s b o e⟩
  · cases ee
theorem b_setM {fr : Bool} {i : Nat} {te : TE} {e : DX} (he : E K te true e) : B K np (tAsg te (gName i)) fr (dSetM np i e) := by
  intro F S M τ σ H D out hnp f ee q
  unfold dSetM at ee
  obtain ⟨⟨x, τ1⟩, e1, ee⟩ := Option.bind_eq_some_iff.mp ee
  dsimp only at ee
  split at ee
  · split at ee
    · rename_i xs hi
      cases ee
      refine he.run S M τ σ H _ _ τ1 f.r e1 fun v H1 r1 c1 i1 => ?_
      obtain ⟨ys, a, vs, e2, rfl, h1, h2, h3⟩ := i1
      obtain rfl := Ow.D_list e2
      have f1 := f.hideE r1 c1 (he.like _ _ _ e1) hi.2.2 h1 ⟨_, h2, h3.ho⟩
      have hM : ¬ M a := fun z => f.r.fresh h1 (f.r.sub a z)
      exact q _ _ _ _ (f1.newM (xs := .l _) hi.2.1 (Nat.le_trans hnp hi.1) (.inr rfl) hM (f.hnone h1) h2 h3) fun b o hn e => ⟨fun z => z.elim hn (ne_of_none e h1), c1 b o (fun z => hn (f.r.sub b z)) e⟩
    · cases ee
  · obtain ⟨m, em, ee⟩ := Option.bind_eq_some_iff.mp ee
    split at ee
    · rename_i hi
      cases ee
      refine he.run S M τ σ H _ _ τ1 f.r e1 fun v H1 r1 c1 i1 => ?_
      obtain ⟨ys, a, vs, e2, rfl, h1, h2, h3⟩ := i1
      obtain rfl := D_dict e2 em
      have f1 := f.hideE r1 c1 (he.like _ _ _ e1) hi.2.2 h1 ⟨_, h2, h3.ho⟩
      have hM : ¬ M a := fun z => f.r.fresh h1 (f.r.sub a z)
      exact q _ _ _ _ (f1.newM (xs := .t _) hi.2.1 (Nat.le_trans hnp hi.1) (.inr rfl) hM (f.hnone h1) h2 h3) fun b o hn e => ⟨fun z => z.elim hn (ne_of_none e h1), c1 b o (fun z => hn (f.r.sub b z)) e⟩
    · cases ee
  · cases ee
def dRet (e : DX) (τ : DS) : Option Out := (e τ).map fun p => .rt p.1 p.2
theorem b_ret {fr fe : Bool} {te : TE} {e : DX} (he : E K te fe e) (hf : fr = true → fe = true) : B K np (tRet te) fr (dRet e) := by
  intro F S M τ σ H D out hnp f ee q
  unfold dRet at ee
  obtain ⟨⟨x, τ1⟩, e1, ee⟩ := Option.map_eq_some_iff.mp ee
  cases ee
  refine he.run S M τ σ H _ x τ1 f.r e1 fun v H1 r1 c1 i1 => ?_
  exact q S M σ H1 v (f.step r1 c1 (he.like _ _ _ e1)) (f.res (i1.imp (fun _ => f.r.fresh) fr hf))
def dRetM (np i : Nat) (τ : DS) : Option Out := match τ[i]? with
  | some (some (.m xs)) => if np ≤ i then some (.rt (.list xs) τ) else none
  | some (some (.k xs)) => if np ≤ i then some (.rt (.dict (dctP xs)) τ) else none
  | _ => none
theorem dRetM_some {np i : Nat} {τ : DS} {out : Out} (e : dRetM np i τ = some out) : ∃ w, τ[i]? = some (some (Ow.L w)) ∧ np ≤ i ∧ out = .rt w.D τ := by
  unfold dRetM at e
  split at e
  · rename_i xs hx
    split at e
    · rename_i h; cases e; exact ⟨.l xs, hx, h, rfl⟩
    · cases e
  · rename_i xs hx
    split at e
    · rename_i h; cases e; exact ⟨.t xs, hx, h, rfl⟩
    · cases e
  · cases e
theorem b_retM {fr : Bool} {i : Nat} : B K np (tRet (tVar i)) fr (dRetM np i) := by
  intro F S M τ σ H D out hnp f ee q
  obtain ⟨xs, hx, hi, rfl⟩ := dRetM_some ee
  obtain ⟨a, vs, h1, h2, h3, h4⟩ := f.r.mt i xs hx
  refine ⟨_, h1, q S M σ H _ f ?_⟩
  have hF : F.H a = none := by
    rcases f.new a h2 with z | z
    · exfalso
      obtain ⟨j, hj⟩ := f.fma a z
      obtain ⟨ys, hy⟩ := f.pm j _ hj
      have e := f.r.inj j i ys xs a hy hx (f.par j _ hj) h1
      have := (List.getElem?_eq_some_iff.mp hj).1
      omega
    · exact z
  have res : Res K true F.S F.H H xs.D (.ref a) := ⟨xs, a, vs, rfl, rfl, hF, h3, h4.mono (hid_less fun b z => z.elim (f.sS b) fun z => by rw [z]; exact f.r.sub a h2)⟩
  refine res.imp (fun b hb => ?_) fr fun _ => rfl
  intro z
  obtain ⟨o, e⟩ := f.fs b z
  rw [hb] at e; cases e
def dRetN (τ : DS) : Option Out := some (.rt .none τ)
def dExpr (e : DX) (τ : DS) : Option Out := (e τ).map fun p => .nx p.2
theorem b_expr {fr fe : Bool} {te : TE} {e : DX} (he : E K te fe e) : B K np (tDrop te) fr (dExpr e) := by
  intro F S M τ σ H D out hnp f ee q
  unfold dExpr at ee
  obtain ⟨⟨x, τ1⟩, e1, ee⟩ := Option.map_eq_some_iff.mp ee
  cases ee
  refine he.run S M τ σ H _ x τ1 f.r e1 fun v H1 r1 c1 i1 => ?_
  exact q S M σ H1 (f.step r1 c1 (he.like _ _ _ e1)) (c1.keep f.r.sub)
def dMt (i : Nat) (G : List PyData → List PyData → Option (PyData × List PyData)) (a : DA) (τ : DS) : Option (PyData × DS) := (a τ).bind fun p => (allD p.1).bind fun ds => match p.2[i]? with
  | some (some (.m xs)) => (G xs ds).map fun q => (q.1, p.2.set i (some (.m q.2)))
  | _ => none
def MR (K : PySem.W.Frag) (r : V → List V → Hp → VK → Prop) (G : List PyData → List PyData → Option (PyData × List PyData)) : Prop := ∀ (S : Addr → Prop) H a vs us xs ds d xs' (Q : VK), S a → H a = some (.lst vs) → IsL K (hid S H) xs vs → IsL K (hid S H) ds us → G xs ds = some (d, xs') →
  (∀ v vs', Is K (hid S H) d v → IsL K (hid S H) xs' vs' → Q v (upd H a (.lst vs'))) → r (.ref a) us H Q
theorem hid_upd {S : Addr → Prop} {H : Hp} {a : Addr} {o : HO} (h : S a) : hid S (upd H a o) = hid S H := by
  funext b
  unfold hid
  by_cases z : S b
  · rw [if_pos z, if_pos z]
  · rw [if_neg z, if_neg z, upd_ne (fun e => z (by rw [e]; exact h))]
theorem dMt_some {i : Nat} {G : List PyData → List PyData → Option (PyData × List PyData)} {a : DA} {τ τ' : DS} {d : PyData} (e : dMt i G a τ = some (d, τ')) : ∃ rs τ1 ds xs xs', a τ = some (rs, τ1) ∧ allD rs = some ds ∧ τ1[i]? = some (some (.m xs)) ∧ G xs ds = some (d, xs') ∧ τ' = τ1.set i (some (.m xs')) := by
  unfold dMt at e
  obtain ⟨⟨x, τ1⟩, e1, e⟩ := Option.bind_eq_some_iff.mp e
  obtain ⟨ds, e2, e⟩ := Option.bind_eq_some_iff.mp e
  dsimp only at e
  split at e
  · rename_i xs hx
    obtain ⟨⟨z, zs⟩, e3, e⟩ := Option.map_eq_some_iff.mp e
    cases e
    exact ⟨x, τ1, ds, xs, zs, e1, e2, hx, e3, rfl⟩
  · cases e
theorem e_mt {i : Nat} {r : V → List V → Hp → VK → Prop} {G : List PyData → List PyData → Option (PyData × List PyData)} {t : TA} {a : DA} (h : MR K r G) (ha : A K t a) : E K (tBM K "list" r (tVar i) t) false (dMt i G a) := by
  refine ⟨fun τ d τ' e => ?_, ?_⟩
  · obtain ⟨rs, τ1, ds, xs, xs', e1, e2, e3, e4, rfl⟩ := dMt_some e
    exact (ha.like _ _ _ e1).trans (like_setM e3)
  intro S M τ σ H Q d τ' rr e q
  obtain ⟨rs, τ1, ds, xs, xs', e1, e2, e3, e4, rfl⟩ := dMt_some e
  have lk := ha.like _ _ _ e1
  obtain ⟨zs, hz⟩ := lk.ml e3
  obtain ⟨p, us, hp, hM, hl0, _⟩ := rr.ml i zs hz
  refine ⟨.ref p, hp, .inl ⟨rfl, us, SqL.of hl0⟩, ?_⟩
  refine ha.run S M τ σ H _ rs _ rr e1 fun vs H1 r1 c1 i1 => ?_
  have l := allD_is i1 e2
  obtain ⟨p', us', hp', hM', hl, ll⟩ := r1.ml i xs e3
  rw [hp] at hp'; cases hp'
  have Sp := r1.sub p hM'
  refine h S H1 p us' vs xs ds d xs' _ Sp hl ll l e4 fun v vs' iv il => ?_
  have c : Chg (fun b => b = p) H1 (upd H1 p (.lst vs')) := fun b o hn e => by rw [upd_ne hn]; exact e
  refine q v _ (r1.setM e3 hp c upd_same (by rw [hid_upd Sp]; exact il)) (c1.trans fun b o hn e => c b o (fun z => hn (by subst z; exact hM')) e) ?_
  show Is K (hid S _) d v
  rw [hid_upd Sp]; exact iv
def gAppend : List PyData → List PyData → Option (PyData × List PyData)
  | xs, [d] => if xs.length < sizeLine then some (.none, xs ++ [d]) else none
  | _, _ => none
theorem m_append : MR K rAppend gAppend := by
  intro S H a vs us xs ds d xs' Q Sa hl ll l e q
  unfold gAppend at e
  split at e
  · split at e
    · rename_i d0 hz
      cases e
      obtain ⟨v, us', rfl, iv, iu⟩ := l
      cases (show us' = [] from iu)
      exact ⟨a, vs, v, rfl, rfl, hl, by rw [ll.length]; exact hz, q _ _ rfl (isl_snoc ll iv)⟩
    · cases e
  · cases e
def gExtend : List PyData → List PyData → Option (PyData × List PyData)
  | xs, [.list ys] => if xs.length + ys.length ≤ sizeLine then some (.none, xs ++ ys) else none
  | _, _ => none
theorem m_extend : MR K rExtend gExtend := by
  intro S H a vs us xs ds d xs' Q Sa hl ll l e q
  unfold gExtend at e
  split at e
  · split at e
    · rename_i ys hz
      cases e
      obtain ⟨v, us', rfl, ⟨b, ws, rfl, hb, lb⟩, iu⟩ := l
      cases (show us' = [] from iu)
      exact ⟨a, b, vs, ws, rfl, rfl, hl, (hid_iff.mp hb).2, by rw [ll.length, lb.length]; exact hz, q _ _ rfl (isl_append ll lb)⟩
    · cases e
  · cases e
def gClear : List PyData → List PyData → Option (PyData × List PyData)
  | _, [] => some (.none, [])
  | _, _ => none
theorem isl_set {H : Hp} : ∀ {xs : List PyData} {vs : List V} {j : Nat} {d : PyData} {v : V}, IsL K H xs vs → Is K H d v → IsL K H (xs.set j d) (vs.set j v)
  | [], _, _, _, _, h, _ => by rw [show _ = [] from h]; rfl
  | x :: xs, _, 0, d, v, ⟨u, us, e, h, l⟩, i => by subst e; exact ⟨v, us, rfl, i, l⟩
  | x :: xs, _, j + 1, d, v, ⟨u, us, e, h, l⟩, i => by subst e; exact ⟨u, us.set j v, rfl, h, isl_set l i⟩
def dSetI (i : Nat) (e k : DX) (τ : DS) : Option Out := (e τ).bind fun p => (k p.2).bind fun q => match q.2[i]?, q.1 with
  | some (some (.m xs)), .int n => (ixN xs.length n).map fun j => .nx (q.2.set i (some (.m (xs.set j p.1))))
  | _, _ => none
theorem b_setI {fr f1 f2 : Bool} {i : Nat} {te tk : TE} {e k : DX} (he : E K te f1 e) (hk : E K tk f2 k) : B K np (tAsg te (gSub (tVar i) tk rSetL)) fr (dSetI i e k) := by
  intro F S M τ σ H D out hnp f ee q
  unfold dSetI at ee
  obtain ⟨⟨x, τ1⟩, e1, ee⟩ := Option.bind_eq_some_iff.mp ee
  obtain ⟨⟨y, τ2⟩, e2, ee⟩ := Option.bind_eq_some_iff.mp ee
  dsimp only at ee
  split at ee
  · rename_i xs n hx
    obtain ⟨j, e3, ee⟩ := Option.map_eq_some_iff.mp ee
    cases ee
    have lk1 := he.like _ _ _ e1
    have lk2 := hk.like _ _ _ e2
    refine he.weak.run S M τ σ H _ x τ1 f.r e1 fun v H1 r1 c1 i1 => ?_
    obtain ⟨zs, hz⟩ := lk2.ml hx
    obtain ⟨p, us, hp, hM, _, _⟩ := r1.ml i zs hz
    refine ⟨.ref p, hp, hk.weak.run S M τ1 σ H1 _ _ τ2 r1 e2 fun w H2 r2 c2 i2 => ?_⟩
    obtain ⟨p', us', hp', hM', hl, ll⟩ := r2.ml i xs hx
    rw [hp] at hp'; cases hp'
    have Sp := r2.sub p hM'
    refine ⟨p, us', n, j, rfl, i2, hl, by rw [ll.length]; exact e3, ?_⟩
    have c : Chg (fun b => b = p) H2 (upd H2 p (.lst (us'.set j v))) := fun b o hn e => by rw [upd_ne hn]; exact e
    have iv : Is K (hid S H2) x v := Is.mono (c2.keep r1.sub).same i1
    have f2 := f.step r2 (c1.trans c2) (lk1.trans lk2)
    have r3 := r2.setM hx hp c upd_same (by rw [hid_upd Sp]; exact isl_set (j := j) ll iv)
    have c3 : Chg M H2 (upd H2 p (.lst (us'.set j v))) := fun b o hn e => c b o (fun z => hn (by subst z; exact hM')) e
    exact q S M σ _ (f2.step r3 c3 (like_setM hx)) (((c1.trans c2).trans c3).keep f.r.sub)
  · cases ee
theorem Gl.trans {F : Frm} {fr : Bool} {S S1 : Addr → Prop} {H H1 : Hp} {D : Ends} {o : Out} (k : Keep S H S1 H1) (h : Gl K F fr S H D o) : Gl K F fr S1 H1 D o := by
  cases o with
  | nx τ => exact fun S' M' σ' H' r k' => h S' M' σ' H' r (k.trans k')
  | bk τ => exact fun S' M' σ' H' r k' => h S' M' σ' H' r (k.trans k')
  | ct τ => exact fun S' M' σ' H' r k' => h S' M' σ' H' r (k.trans k')
  | rt d τ => exact fun S' M' σ' H' v r k' => h S' M' σ' H' v r k'
def dNil (τ : DS) : Option Out := some (.nx τ)
theorem b_nil {fr : Bool} : B K np tNext fr dNil := by
  intro F S M τ σ H D out hnp f ee q
  cases ee
  exact q S M σ H f .refl
def dSeq (a b : DB) (τ : DS) : Option Out := (a τ).bind fun o => match o with
  | .nx τ' => b τ'
  | o => some o
theorem b_seq {fr : Bool} {t u : TS} {a b : DB} (ha : B K np t fr a) (hb : B K np u fr b) : B K np (tSeq t u) fr (dSeq a b) := by
  intro F S M τ σ H D out hnp f ee q
  unfold dSeq at ee
  obtain ⟨o, e1, ee⟩ := Option.bind_eq_some_iff.mp ee
  refine ha F S M τ σ H _ o hnp f e1 ?_
  cases o with
  | nx τ1 => exact fun S' M' σ' H' r k => hb F S' M' τ1 σ' H' D out hnp r ee (q.trans k)
  | bk τ1 => cases ee; exact q
  | ct τ1 => cases ee; exact q
  | rt d τ1 => cases ee; exact q
def dIfS (c : DT) (a b : DB) (τ : DS) : Option Out := (c τ).bind fun p => if p.1 = true then a p.2 else b p.2
theorem b_if {fr : Bool} {tc : TT} {t u : TS} {c : DT} {a b : DB} (hc : T K tc c) (ha : B K np t fr a) (hb : B K np u fr b) : B K np (tIfS tc t u) fr (dIfS c a b) := by
  intro F S M τ σ H D out hnp f ee q
  unfold dIfS at ee
  obtain ⟨⟨k, τ1⟩, e1, ee⟩ := Option.bind_eq_some_iff.mp ee
  refine hc.run S M τ σ H _ k τ1 f.r e1 fun H1 r1 c1 => ?_
  have f1 := f.step r1 c1 (hc.like _ _ _ e1)
  cases k with
  | true => exact ha F S M τ1 σ H1 D out hnp f1 ee (q.trans (c1.keep f.r.sub))
  | false => exact hb F S M τ1 σ H1 D out hnp f1 ee (q.trans (c1.keep f.r.sub))
def dBrk (τ : DS) : Option Out := some (.bk τ)
def dCnt (τ : DS) : Option Out := some (.ct τ)
def dNever : DB := fun _ => none
def dLoop (g : DG) (b : DB) : List PyData → DS → Option Out
  | [], τ => some (.nx τ)
  | d :: ds, τ => (g d τ).bind fun τ1 => (b τ1).bind fun o => match o with
    | .nx τ2 => dLoop g b ds τ2
    | .ct τ2 => dLoop g b ds τ2
    | .bk τ2 => some (.nx τ2)
    | .rt d τ2 => some (.rt d τ2)
def dFor (it : DI) (g : DG) (b : DB) (τ : DS) : Option Out := (it τ).bind fun p => dLoop g b p.1 p.2
theorem b_for {fr : Bool} {wi : TI} {tg : TG} {tb : TS} {it : DI} {g : DG} {b : DB} (hi : IT K wi it) (hg : TG1 K tg g) (hb : B K np tb fr b) : B K np (tFor wi tg tb) fr (dFor it g b) := by
  intro F S M τ σ H D out hnp f ee q
  unfold dFor at ee
  obtain ⟨⟨ds, τ1⟩, e1, ee⟩ := Option.bind_eq_some_iff.mp ee
  refine hi.run S M τ σ H _ ds τ1 f.r e1 fun J H1 r1 c1 iJ => ?_
  have f1 := f.step r1 c1 (hi.like _ _ _ e1)
  have q1 := q.trans (c1.keep f.r.sub)
  refine ⟨fun i m σ' H' => m = ds.length - i ∧ i ≤ ds.length ∧ ∃ S' M' τ', RF K F S' M' τ' σ' H' ∧ Keep S H1 S' H' ∧ dLoop g b (ds.drop i) τ' = some out, ⟨ds.length, by simp, Nat.zero_le _, S, M, τ1, f1, .refl, by simpa using ee⟩, ?_⟩
  rintro i m σ' H' ⟨rfl, hil, S', M', τ', f', k', hl⟩
  obtain ⟨I1, I2⟩ := iJ _ _ k'
  by_cases hlt : i < ds.length
  · right
    have ed : ds[i]? = some ds[i] := List.getElem?_eq_getElem hlt
    obtain ⟨go, yl⟩ := I1 i _ ed
    refine ⟨go, fun σ2 H2 => ∃ S2 M2 τ2, RF K F S2 M2 τ2 σ2 H2 ∧ Keep S H1 S2 H2 ∧ dLoop g b (ds.drop (i + 1)) τ2 = some out, fun σ2 H2 h => ⟨ds.length - (i + 1), by omega, rfl, hlt, h⟩, fun x H2 y => ?_⟩
    obtain ⟨rfl, ix⟩ := yl x H2 y
    rw [List.drop_eq_getElem_cons hlt, dLoop] at hl
    obtain ⟨τ2, e2, hl⟩ := Option.bind_eq_some_iff.mp hl
    obtain ⟨o, e3, hl⟩ := Option.bind_eq_some_iff.mp hl
    refine hg.run S' M' τ' σ' H2 x _ τ2 _ f'.r ix e2 fun σ3 r3 k3 => ?_
    have f3 := f'.stay r3 (hg.ms _ _ _ e2) k3
    refine hb F S' M' τ2 σ3 H2 _ o hnp f3 e3 ?_
    cases o with
    | nx τ4 => exact fun S4 M4 σ4 H4 f4 k4 => ⟨S4, M4, τ4, f4, k'.trans k4, hl⟩
    | ct τ4 => exact fun S4 M4 σ4 H4 f4 k4 => ⟨S4, M4, τ4, f4, k'.trans k4, hl⟩
    | bk τ4 => cases hl; exact fun S4 M4 σ4 H4 f4 k4 => q1 S4 M4 σ4 H4 f4 (k'.trans k4)
    | rt d τ4 => cases hl; exact fun S4 M4 σ4 H4 v f4 k4 => q1 S4 M4 σ4 H4 v f4 k4
  · left
    have e : i = ds.length := by omega
    subst e
    rw [List.drop_length, dLoop] at hl
    cases hl
    exact ⟨I2 _ (Nat.le_refl _), q1 S' M' σ' H' f' k'⟩
def fin : List L → DS → Option (List L)
  | [], _ => some []
  | .d x :: ls, _ :: τ => (fin ls τ).map (.d x :: ·)
  | .c x :: ls, _ :: τ => (fin ls τ).map (.c x :: ·)
  | .m _ :: ls, some (.m xs) :: τ => (fin ls τ).map (.m xs :: ·)
  | .k _ :: ls, some (.k xs) :: τ => (fin ls τ).map (.k xs :: ·)
  | _, _ => none
def dFun (fr : Bool) (np nl : Nat) (b : DB) (ls : List L) : Option (PyData × List L) := if ls.length = np then (b (ls.map some ++ List.replicate nl none)).bind fun o => match o with
    | .nx τ => if fr = true then none else (fin ls τ).map fun ls' => (.none, ls')
    | .rt d τ => (fin ls τ).map fun ls' => (d, ls')
    | _ => none
  else none
theorem fin_get : ∀ {ls : List L} {τ : DS} {ls' : List L} {i : Nat} {l : L}, fin ls τ = some ls' → ls'[i]? = some l → match l with
    | .d x => ls[i]? = some (.d x)
    | .c x => ls[i]? = some (.c x)
    | .m xs => (∃ ys, ls[i]? = some (.m ys)) ∧ τ[i]? = some (some (.m xs))
    | .k xs => (∃ ys, ls[i]? = some (.k ys)) ∧ τ[i]? = some (some (.k xs))
    | .g _ => False
  | [], _, _, _, _, h, e => by cases h; simp at e
  | .d x :: ls, o :: τ, _, i, l, h, e => by
    obtain ⟨zs, h1, h⟩ := Option.map_eq_some_iff.mp h
    subst h
    cases i with
    | zero => cases e; rfl
    | succ i =>
      have := fin_get (i := i) (l := l) h1 (by simpa using e)
      cases l <;> simpa using this
  | .c x :: ls, o :: τ, _, i, l, h, e => by
    obtain ⟨zs, h1, h⟩ := Option.map_eq_some_iff.mp h
    subst h
    cases i with
    | zero => cases e; rfl
    | succ i =>
      have := fin_get (i := i) (l := l) h1 (by simpa using e)
      cases l <;> simpa using this
  | .m x :: ls, some (.m xs) :: τ, _, i, l, h, e => by
    obtain ⟨zs, h1, h⟩ := Option.map_eq_some_iff.mp h
    subst h
    cases i with
    | zero => cases e; exact ⟨⟨_, rfl⟩, rfl⟩
    | succ i =>
      have := fin_get (i := i) (l := l) h1 (by simpa using e)
      cases l <;> simpa using this
  | .k x :: ls, some (.k xs) :: τ, _, i, l, h, e => by
    obtain ⟨zs, h1, h⟩ := Option.map_eq_some_iff.mp h
    subst h
    cases i with
    | zero => cases e; exact ⟨⟨_, rfl⟩, rfl⟩
    | succ i =>
      have := fin_get (i := i) (l := l) h1 (by simpa using e)
      cases l <;> simpa using this
theorem fin_len : ∀ {ls : List L} {τ : DS} {ls' : List L}, fin ls τ = some ls' → ls'.length = ls.length
  | [], _, _, h => by cases h; rfl
  | .d x :: ls, o :: τ, _, h => by
    obtain ⟨zs, h1, h⟩ := Option.map_eq_some_iff.mp h
    subst h
    rw [List.length_cons, List.length_cons, fin_len h1]
  | .c x :: ls, o :: τ, _, h => by
    obtain ⟨zs, h1, h⟩ := Option.map_eq_some_iff.mp h
    subst h
    rw [List.length_cons, List.length_cons, fin_len h1]
  | .m x :: ls, some (.m xs) :: τ, _, h => by
    obtain ⟨zs, h1, h⟩ := Option.map_eq_some_iff.mp h
    subst h
    rw [List.length_cons, List.length_cons, fin_len h1]
  | .k x :: ls, some (.k xs) :: τ, _, h => by
    obtain ⟨zs, h1, h⟩ := Option.map_eq_some_iff.mp h
    subst h
    rw [List.length_cons, List.length_cons, fin_len h1]
theorem fin_g : ∀ {ls : List L} {τ : DS} {ls' : List L}, fin ls τ = some ls' → ∀ (i : Nat) (d : PyData), ls[i]? ≠ some (.g d)
  | [], _, _, _, i, d => by simp
  | .d x :: ls, o :: τ, _, h, i, d => by
    obtain ⟨zs, h1, h⟩ := Option.map_eq_some_iff.mp h
    cases i with
    | zero => simp
    | succ i => simpa using fin_g h1 i d
  | .c x :: ls, o :: τ, _, h, i, d => by
    obtain ⟨zs, h1, h⟩ := Option.map_eq_some_iff.mp h
    cases i with
    | zero => simp
    | succ i => simpa using fin_g h1 i d
  | .m x :: ls, some (.m xs) :: τ, _, h, i, d => by
    obtain ⟨zs, h1, h⟩ := Option.map_eq_some_iff.mp h
    cases i with
    | zero => simp
    | succ i => simpa using fin_g h1 i d
  | .k x :: ls, some (.k xs) :: τ, _, h, i, d => by
    obtain ⟨zs, h1, h⟩ := Option.map_eq_some_iff.mp h
    cases i with
    | zero => simp
    | succ i => simpa using fin_g h1 i d
theorem fin_own {ls : List L} {τ : DS} {ls' : List L} {i : Nat} {x : Ow} (h : fin ls τ = some ls') (e : ls'[i]? = some x.L) : (∃ ys : Ow, ls[i]? = some ys.L) ∧ τ[i]? = some (some x.L) := by
  cases x with
  | l xs => obtain ⟨⟨ys, h1⟩, h2⟩ := fin_get h e; exact ⟨⟨.l ys, h1⟩, h2⟩
  | t xs => obtain ⟨⟨ys, h1⟩, h2⟩ := fin_get h e; exact ⟨⟨.t ys, h1⟩, h2⟩
theorem at_map {α β : Type} {f : α → β} {xs : List α} {i : Nat} {y : β} (h : (xs.map f)[i]? = some y) : ∃ x, xs[i]? = some x ∧ f x = y := by
  rw [List.getElem?_map] at h
  cases e : xs[i]? with
  | none => rw [e] at h; cases h
  | some x => rw [e] at h; exact ⟨x, rfl, Option.some.inj h⟩
theorem fn_len {G : List L → Option (PyData × List L)} {fr : Bool} {vs : List V} {H : Hp} {Q : VK} {X : XK} {np : Nat} (hG : ∀ ls r, G ls = some r → ls.length = np) (h : spD K G fr vs H Q X) : vs.length = np := by
  obtain ⟨S, M, ls, r, ls', hR, e, _⟩ := h
  have := hR.len
  rw [List.length_map, List.length_map] at this
  rw [this, hG _ _ e]
theorem dFun_len {fr : Bool} {np nl : Nat} {b : DB} : ∀ ls r, dFun fr np nl b ls = some r → ls.length = np := fun ls r h => by
  unfold dFun at h
  split at h
  · assumption
  · cases h
theorem fn_run {np nl : Nat} {t : TS} {fr : Bool} {b : DB} {N : List Str} {vs : List V} {H : Hp} {Q : VK} {X : XK} (hb : B K np t fr b) (hN : N.length = np + nl) (h : spD K (dFun fr np nl b) fr vs H Q X) : t { nx := fun _ H' => Q .non H', rt := Q } (L2.start N vs) H := by
  obtain ⟨S, M, ls, r, ls', hR, e, q⟩ := h
  have hlen := dFun_len _ _ e
  have hvl : vs.length = ls.length := by have := hR.len; rw [List.length_map, List.length_map] at this; exact this
  unfold dFun at e
  rw [if_pos hlen] at e
  obtain ⟨o, e1, e⟩ := Option.bind_eq_some_iff.mp e
  have est : L2.start N vs = vs.map some ++ List.replicate nl none := by
    unfold L2.start
    rw [hN, hvl, hlen, Nat.add_sub_cancel_left]
  rw [est]
  -- the entry
  have lsm : ∀ (i : Nat) (l : L), (ls.map some ++ List.replicate nl none : DS)[i]? = some (some l) → ls[i]? = some l := fun i l h => by
    by_cases hi : i < ls.length
    · rw [List.getElem?_append_left (by rw [List.length_map]; exact hi)] at h
      obtain ⟨x, h1, h2⟩ := at_map h
      cases h2; exact h1
    · rw [List.getElem?_append_right (by rw [List.length_map]; omega), List.getElem?_replicate] at h
      split at h <;> cases h
  have vsm : ∀ (i : Nat) (v : V), (vs.map some)[i]? = some (some v) → (vs.map some ++ List.replicate nl none : St)[i]? = some (some v) := fun i v h => by
    rw [List.getElem?_append_left (List.getElem?_eq_some_iff.mp h).1]; exact h
  have vsb : ∀ (i : Nat) (v : V), (vs.map some ++ List.replicate nl none : St)[i]? = some (some v) → (vs.map some)[i]? = some (some v) := fun i v h => by
    by_cases hi : i < (vs.map some).length
    · rw [List.getElem?_append_left hi] at h; exact h
    · rw [List.getElem?_append_right (by omega), List.getElem?_replicate] at h
      split at h <;> cases h
  have lm : ∀ (i : Nat) (l : L), ls[i]? = some l → (ls.map some)[i]? = some (some l) := fun i l h => by rw [List.getElem?_map, h]; rfl
  let Mx : Addr → Prop := fun a => ∃ (i : Nat) (xs : Ow), ls[i]? = some xs.L ∧ vs[i]? = some (.ref a)
  let ar : List (Option V) := (ls.zip vs).map fun p => match p.1 with
    | .m _ => some p.2
    | .k _ => some p.2
    | _ => none
  have arg : ∀ (i : Nat) (v : V), ar[i]? = some (some v) → ∃ xs : Ow, ls[i]? = some xs.L ∧ vs[i]? = some v := fun i v h => by
    obtain ⟨⟨l, u⟩, h1, h2⟩ := at_map h
    rw [List.getElem?_zip_eq_some] at h1
    cases l with
    | d x => cases h2
    | c x => cases h2
    | m xs => cases h2; exact ⟨.l xs, h1.1, h1.2⟩
    | k xs => cases h2; exact ⟨.t xs, h1.1, h1.2⟩
    | g x => cases h2
  have gar : ∀ (i : Nat) (xs : Ow) (v : V), ls[i]? = some xs.L → vs[i]? = some v → ar[i]? = some (some v) := fun i xs v h1 h2 => by
    show ((ls.zip vs).map _)[i]? = _
    rw [List.getElem?_map, (List.getElem?_zip_eq_some (z := (xs.L, v))).mpr ⟨h1, h2⟩]
    cases xs <;> rfl
  have Msub : ∀ a, Mx a → M a := fun a ⟨i, xs, h1, h2⟩ => by
    obtain ⟨b', us, h3, h4, _⟩ := hR.mt i xs (lm i _ h1)
    rw [List.getElem?_map, h2] at h3
    cases h3; exact h4
  have hng : ∀ (i : Nat) (d : PyData), ls[i]? ≠ some (.g d) := by
    cases o with
    | nx τ' =>
      cases fr with
      | false => obtain ⟨ls1, e2, _⟩ := Option.map_eq_some_iff.mp e; exact fin_g e2
      | true => cases e
    | bk τ' => cases e
    | ct τ' => cases e
    | rt d τ' => obtain ⟨ls1, e2, _⟩ := Option.map_eq_some_iff.mp e; exact fin_g e2
  have f0 : RF K ⟨S, Mx, H, ar⟩ S Mx (ls.map some ++ List.replicate nl none) (vs.map some ++ List.replicate nl none) H := by
    refine ⟨⟨by simp [hvl], fun i x h => ?_, fun i x h => ?_, fun i x h => ?_, fun i j xs ys a h1 h2 h3 h4 => hR.inj i j xs ys a (lm _ _ (lsm _ _ h1)) (lm _ _ (lsm _ _ h2)) (vsb _ _ h3) (vsb _ _ h4), fun a h => hR.sub a (Msub a h), hR.ex, GR.nil fun i d h => hng i d (lsm i _ h)⟩,
      fun a h => h, fun b o h _ => h, fun a h => .inl h, fun a h => h, hR.ex, fun a h => hR.sub a (Msub a h), fun a h => .inl h, fun i v h => ?_, fun i v h => ?_, fun a ⟨i, xs, h1, h2⟩ => ⟨i, gar i xs _ h1 h2⟩⟩
    · obtain ⟨v, h1, h2⟩ := hR.dat i x (lm _ _ (lsm _ _ h))
      exact ⟨v, vsm _ _ h1, h2⟩
    · obtain ⟨a, us, h1, h2, h3, h4⟩ := hR.mt i x (lm _ _ (lsm _ _ h))
      refine ⟨a, us, vsm _ _ h1, ⟨i, x, lsm _ _ h, ?_⟩, h3, h4⟩
      obtain ⟨v, h5, h6⟩ := at_map h1
      cases h6; exact h5
    · obtain ⟨a, us, h1, h2⟩ := hR.cst i x (lm _ _ (lsm _ _ h))
      exact ⟨a, us, vsm _ _ h1, h2⟩
    · obtain ⟨xs, h1, h2⟩ := arg i v h
      exact vsm _ _ (by rw [List.getElem?_map, h2]; rfl)
    · obtain ⟨xs, h1, h2⟩ := arg i v h
      refine ⟨xs, ?_⟩
      rw [List.getElem?_append_left (by rw [List.length_map]; exact (List.getElem?_eq_some_iff.mp h1).1)]
      exact lm _ _ h1
  have hnp : ar.length ≤ np := by
    show ((ls.zip vs).map _).length ≤ np
    rw [List.length_map, List.length_zip]
    omega
  -- the end
  have done : ∀ {S' M' τ' σ' H' d v} {ls1 : List L}, RF K ⟨S, Mx, H, ar⟩ S' M' τ' σ' H' → fin ls τ' = some ls1 → (r, ls') = (d, ls1) → Res K fr S H H' d v → Q v H' := fun {S' M' τ' σ' H' d v ls1} f hf er res => by
    cases er
    have k : Keep S H S H' := fun b o hn e => ⟨hn, f.old b o e fun z => hn (hR.sub b (Msub b z))⟩
    refine q v H' ⟨?_, fun i x h => ?_, fun i x h => ?_, fun i x h => ?_, fun i j xs ys a h1 h2 h3 h4 => ?_, hR.sub, fun a h => f.r.ex a (f.sS a h), GR.nil fun i d h => ?_⟩ (fun b o hn e => f.old b o e fun z => hn (Msub b z)) res
    · rw [List.length_map, List.length_map, fin_len hf, hvl]
    · obtain ⟨l, h1, h2⟩ := at_map h
      cases h2
      have := fin_get hf h1
      obtain ⟨v, h3, h4⟩ := hR.dat i x (lm _ _ this)
      exact ⟨v, h3, h4.mono k.same⟩
    · obtain ⟨l, h1, h2⟩ := at_map h
      cases h2
      obtain ⟨⟨ys, h3⟩, h4⟩ := fin_own hf h1
      obtain ⟨a, us, h5, h6, h7, h8⟩ := f.r.mt i x h4
      obtain ⟨b, ws, g1, g2, _⟩ := hR.mt i ys (lm _ _ h3)
      obtain ⟨u, g3, g4⟩ := at_map g1
      cases g4
      have := f.par i _ (gar i ys _ h3 g3)
      rw [h5] at this; cases this
      exact ⟨a, us, g1, g2, h7, h8.mono (hid_less f.sS)⟩
    · obtain ⟨l, h1, h2⟩ := at_map h
      cases h2
      have := fin_get hf h1
      obtain ⟨a, us, h3, h4, h5⟩ := hR.cst i x (lm _ _ this)
      exact ⟨a, us, h3, k.same.seq h4, h5.mono k.same⟩
    · obtain ⟨l1, g1, g2⟩ := at_map h1
      obtain ⟨l2, g3, g4⟩ := at_map h2
      cases g2; cases g4
      obtain ⟨⟨zs, h5⟩, _⟩ := fin_own hf g1
      obtain ⟨⟨ws, h6⟩, _⟩ := fin_own hf g3
      exact hR.inj i j zs ws a (lm _ _ h5) (lm _ _ h6) h3 h4
    · obtain ⟨l, h1, h2⟩ := at_map h
      cases h2
      exact fin_get hf h1
  refine hb ⟨S, Mx, H, ar⟩ S Mx _ _ H _ o hnp f0 e1 ?_
  cases o with
  | nx τ' =>
    cases fr with
    | false =>
      obtain ⟨ls1, e2, e⟩ := Option.map_eq_some_iff.mp e
      intro S' M' σ' H' f k
      exact done f e2 e.symm rfl
    | true => cases e
  | bk τ' => cases e
  | ct τ' => cases e
  | rt d τ' =>
    obtain ⟨ls1, e2, e⟩ := Option.map_eq_some_iff.mp e
    intro S' M' σ' H' v f res
    exact done f e2 e.symm res
end DL
end
section
set_option Elab.async false
set_option linter.all false
set_option maxRecDepth 100000
namespace DL
open PySem L2 PyProof.Rows
variable {K : PySem.W.Frag}
def fLen : List PyData → Option PyData
  | [.list xs] => some (.int xs.length)
  | [.tuple xs] => some (.int xs.length)
  | [.str x] => if x.length ≤ sizeLine then some (.int x.length) else none
  | _ => none
theorem c_len : BR K false (fun xs H Q => ∃ x n, xs = [x] ∧ LenV K x H n ∧ Q (.int n) H) fLen := by
  intro S H vs ds d Q _ l e q
  unfold fLen at e
  split at e
  · cases e
    obtain ⟨v, us, rfl, ⟨a, ws, rfl, h, lw⟩, iu⟩ := l
    cases (show us = [] from iu)
    exact ⟨_, ws.length, rfl, .inl ⟨ws, SqL.of (hid_iff.mp h).2, rfl⟩, q _ H (fun _ _ e => e) (by rw [lw.length]; rfl)⟩
  · cases e
    obtain ⟨v, us, rfl, ⟨a, ws, rfl, h, lw⟩, iu⟩ := l
    cases (show us = [] from iu)
    exact ⟨_, ws.length, rfl, .inr ⟨ws, Same.tup same_hid h, rfl⟩, q _ H (fun _ _ e => e) (by rw [lw.length]; rfl)⟩
  · split at e
    · rename_i hz
      cases e
      obtain ⟨v, us, rfl, iv, iu⟩ := l
      cases (show us = [] from iu)
      cases (show v = .str _ from iv)
      exact ⟨_, _, rfl, ⟨hz, rfl⟩, q _ H (fun _ _ e => e) rfl⟩
    · cases e
  · cases e
def f1 (g : Int → Int) : List PyData → Option PyData
  | [.int i] => some (.int (g i))
  | _ => none
def f2 (g : Int → Int → Int) : List PyData → Option PyData
  | [.int i, .int j] => some (.int (g i j))
  | _ => none
def fAbs := f1 fun i => if i < 0 then -i else i
def fMax2 := f2 fun i j => if j > i then j else i
def fMin2 := f2 fun i j => if j < i then j else i
def fInt1 : List PyData → Option PyData
  | [.int i] => some (.int i)
  | [.bool b] => some (.int (if b then 1 else 0))
  | _ => none
def fListOf : List PyData → Option PyData
  | [.list xs] => some (.list xs)
  | [.tuple xs] => some (.list xs)
  | _ => none
theorem c_list : BR K true (fun xs H Q => ∃ p ys, xs = [.ref p] ∧ (SqL K H p ys ∨ SqT K H p ys) ∧ ∀ l, H l = none → Q (.ref l) (upd H l (.lst ys))) fListOf := by
  intro S H vs ds d Q _ l e q
  unfold fListOf at e
  split at e
  · cases e
    obtain ⟨v, us, rfl, ⟨a, ws, rfl, h, lw⟩, iu⟩ := l
    cases (show us = [] from iu)
    exact ⟨a, ws, rfl, .inl (SqL.of (hid_iff.mp h).2), fun p hp => q _ _ (same_new hp _) (res_new hp lw)⟩
  · cases e
    obtain ⟨v, us, rfl, ⟨a, ws, rfl, h, lw⟩, iu⟩ := l
    cases (show us = [] from iu)
    exact ⟨a, ws, rfl, .inr (Same.tup same_hid h), fun p hp => q _ _ (same_new hp _) (res_new hp lw)⟩
  · cases e
def tyN : PyData → String
  | .none => "NoneType"
  | .bool _ => "bool"
  | .int _ => "int"
  | .str _ => "str"
  | .list _ => "list"
  | .tuple _ => "tuple"
  | .dict _ => "dict"
def rIsi (K : PySem.W.Frag) : List V → Hp → VK → Prop := fun xs H Q => ∃ x T d b, xs = [x, .ty T] ∧ Is K H d x ∧ PySem.W.kitOne K (.type (tyN d)) (.type T) = some b ∧ Q (.bl b) H
theorem call_isiK {X : Cx} : CallR X (.builtin "isinstance") (rIsi X.K) := by
  intro pins s σ H xs us Q I r h
  obtain ⟨x, T, d, b, rfl, ix, k, q⟩ := h
  obtain ⟨u, w', rfl, rx, rT⟩ := vals2 r
  cases (show w' = Value.type T from rT)
  have fin : ∀ tk, EP X pins σ Q (.bool b) { s with toks := tk } := fun tk => ⟨.bl b, H, I.tok _, rfl, q⟩
  cases d with
  | none => cases (show x = .non from ix); exact isinst_ok I rx .non k fin
  | bool y => cases (show x = .bl y from ix); exact isinst_ok I rx (.bl y) k fin
  | int y => cases (show x = .int y from ix); exact isinst_ok I rx (.int y) k fin
  | str y => cases (show x = .str y from ix); exact isinst_ok I rx (.str y) k fin
  | list y => obtain ⟨a, vs, rfl, h, _⟩ := ix; exact isinst_ok I rx (.lst h) k fin
  | tuple y =>
    obtain ⟨a, vs, rfl, h, _⟩ := ix
    cases (show u = Value.ref a from rx)
    obtain ⟨its, _, ⟨o, h1, h2, _⟩, _⟩ := I.tuple h
    exact PySem.W.kia_one PySem.W.kitx_tuple I.kIn ⟨o, h1, h2⟩ k (fun z => nomatch z) fin
  | dict y =>
    obtain ⟨a, ts, rfl, h, _⟩ := ix
    cases (show u = Value.ref a from rx)
    obtain ⟨⟨_, _, _, xs, pr, o, es, ep, ho, he, hd, hes⟩, _, _⟩ := (show ObjOk X.prog X.w H s.heap a (.ext (phiD a ts)) from I.hok a _ h)
    exact PySem.W.kia_one PySem.W.kitx_dict I.kIn ⟨o, ho, he.1⟩ k (fun z => nomatch z) fin
def isiT (T t : String) : Bool := t == T || (T == "int" && t == "bool")
def isiD (T : String) (d : PyData) : Bool := isiT T (tyN d)
def tyOk (T : String) : Bool := ["int", "bool", "str", "list", "tuple"].contains T
theorem kit_names {T t : String} (hT : T ∈ ["int", "bool", "str", "list", "tuple"]) (ht : t ∈ ["NoneType", "bool", "int", "str", "list", "tuple", "dict"]) : PySem.W.kitOne K (.type t) (.type T) = some (isiT T t) := by
  simp only [List.mem_cons, List.not_mem_nil, or_false] at hT ht
  rcases hT with rfl | rfl | rfl | rfl | rfl <;> rcases ht with rfl | rfl | rfl | rfl | rfl | rfl | rfl <;> first
    | exact kit_same _
    | exact kit_ty (by decide +kernel) (by decide +kernel) (by decide +kernel)
theorem kit_all {T : String} {d : PyData} (h : tyOk T = true) : PySem.W.kitOne K (.type (tyN d)) (.type T) = some (isiD T d) :=
  kit_names (by simpa [tyOk] using h) (by cases d <;> simp [tyN])
def dIsi (T : String) (a : DX) (τ : DS) : Option (PyData × DS) := (a τ).bind fun p => if tyOk T then some (.bool (isiD T p.1), p.2) else none
theorem e_isi {T : String} {fr : Bool} {t : TE} {a : DX} (ha : E K t fr a) : E K (tCB (rIsi K) (tCons t (tCons (tC (.ty T)) tNil))) false (dIsi T a) := by
  refine ⟨fun τ d τ' e => ?_, ?_⟩
  · unfold dIsi at e
    obtain ⟨⟨x, τ1⟩, e1, e⟩ := Option.bind_eq_some_iff.mp e
    split at e
    · cases e; exact ha.like _ _ _ e1
    · cases e
  intro S M τ σ H Q d τ' r e q
  unfold dIsi at e
  obtain ⟨⟨x, τ1⟩, e1, e⟩ := Option.bind_eq_some_iff.mp e
  split at e
  · rename_i hT
    cases e
    refine ha.weak.run S M τ σ H _ x _ r e1 fun v H1 r1 c1 i1 => ?_
    exact ⟨v, T, x, _, rfl, Is.mono same_hid i1, kit_all hT, q _ H1 r1 c1 rfl⟩
  · cases e
def dPar (i j : Nat) (a : DA) (τ : DS) : Option Out := (a τ).bind fun p => (allD p.1).bind fun ds => match ds with
  | [x, y] => (dN i x p.2).bind fun τ1 => (dN j y τ1).map .nx
  | _ => none
end DL
end
section
set_option Elab.async false
set_option linter.all false
set_option maxRecDepth 100000
namespace DL
open PySem L2
variable {K : PySem.W.Frag}
def dTBor (i : Nat) (f : DT) (τ : DS) : Option (Bool × DS) := match τ[i]? with
  | some (some (.m xs)) => (f (τ.set i (some (.d (.list xs))))).bind fun q => if q.2.all okM then some (q.1, q.2.set i (some (.m xs))) else none
  | some (some (.k xs)) => (f (τ.set i (some (.d (.dict (dctP xs)))))).bind fun q => if q.2.all okM then some (q.1, q.2.set i (some (.k xs))) else none
  | _ => none
theorem dTBor_some {i : Nat} {f : DT} {τ : DS} {d : Bool} {τ' : DS} (e : dTBor i f τ = some (d, τ')) : ∃ w τ1, τ[i]? = some (some (Ow.L w)) ∧ f (τ.set i (some (.d w.D))) = some (d, τ1) ∧ τ1.all okM = true ∧ τ' = τ1.set i (some w.L) := by
  unfold dTBor at e
  split at e
  · rename_i xs hx
    obtain ⟨⟨z, τ1⟩, e1, e⟩ := Option.bind_eq_some_iff.mp e
    dsimp only at e
    split at e
    · rename_i h
      cases e
      exact ⟨.l xs, τ1, hx, e1, h, rfl⟩
    · cases e
  · rename_i xs hx
    obtain ⟨⟨z, τ1⟩, e1, e⟩ := Option.bind_eq_some_iff.mp e
    dsimp only at e
    split at e
    · rename_i h
      cases e
      exact ⟨.t xs, τ1, hx, e1, h, rfl⟩
    · cases e
  · cases e
theorem t_bor {i : Nat} {t : TT} {f : DT} (h : T K t f) : T K t (dTBor i f) := by
  refine ⟨fun τ d τ' e => ?_, ?_⟩
  · obtain ⟨xs, τ1, e1, e2, _, rfl⟩ := dTBor_some e
    exact like_bor e1 (h.like _ _ _ e2)
  intro S M τ σ H Q d τ' r e q
  obtain ⟨xs, τ1, e1, e2, ok, rfl⟩ := dTBor_some e
  obtain ⟨p, us, hp, hM, hl, ll⟩ := r.mt i xs e1
  refine h.run _ _ _ σ H _ d τ1 (frz r e1 hp) e2 fun H' r' c => ?_
  exact q H' (unfrz r e1 hp r' (h.like _ _ _ e2) c ok) (fun b o hn e => c b o (fun z => hn z.1) e)
def dYes (τ : DS) : Option (Bool × DS) := some (true, τ)
theorem t_yes : T K tYes dYes := by
  refine ⟨fun τ d τ' e => ?_, ?_⟩
  · cases e; exact .refl
  intro S M τ σ H Q d τ' r e q
  cases e
  exact q H r .refl
def lcChk (N' : List Str) (own : Nat) (fr : List Nat) (scope : Scope) (N : List Str) (sc : Scope) : Bool :=
  (scope.kind == .function) && decide (N'.length = own + fr.length) && (scope.names.all fun y => y.2 != .cell) && (scope.names.all fun y => y.2 != .local || scope.names.lookup y.1 == some .local) &&
  (scope.names.all fun y => y.2 != .free || sc.names.lookup y.1 == some .cell || sc.names.lookup y.1 == some .free) &&
  (fr.zipIdx.all fun p => match N'[own + p.2]?, N[p.1]? with | some x, some y => decide (x = y) && scope.names.lookup x == some .free | _, _ => false)
theorem lc_ok {X : Cx} {N' : List Str} {own : Nat} {fr : List Nat} {scope : Scope} {N : List Str} {sc : Scope} (hN : X.N = N) (hs : X.env.scope = sc) (h : lcChk N' own fr scope N sc = true) : LcOk X N' own fr scope := by
  unfold lcChk at h
  simp only [Bool.and_eq_true] at h
  obtain ⟨⟨⟨⟨⟨h1, h2⟩, h3⟩, h4⟩, h5⟩, h6⟩ := h
  subst hN hs
  refine ⟨eq_of_beq h1, of_decide_eq_true h2, fun y hy => ?_, fun y hy e => ?_, fun x hx => ?_, fun k j e => ?_⟩
  · have := List.all_eq_true.mp h3 y hy
    intro z
    rw [z] at this
    simp at this
  · have := List.all_eq_true.mp h4 y hy
    rw [e] at this
    simpa using this
  · have := List.all_eq_true.mp h5 _ hx
    simpa using this
  · have hm : (j, k) ∈ fr.zipIdx := by
      rw [List.mem_zipIdx_iff_getElem?]
      exact e
    have := List.all_eq_true.mp h6 _ hm
    dsimp only at this
    split at this
    · rename_i x y hx hy
      rw [Bool.and_eq_true] at this
      have e1 : x = y := of_decide_eq_true this.1
      subst e1
      exact ⟨x, hx, hy, eq_of_beq this.2⟩
    · cases this
end DL
end
section
set_option Elab.async false
set_option linter.all false
set_option maxRecDepth 100000
namespace DL
open PySem L2
theorem fin_nil {τ : DS} : fin [] τ = some [] := by cases τ <;> rfl
theorem fin_d {x : PyData} {ls : List L} {o : Option L} {τ : DS} : fin (.d x :: ls) (o :: τ) = (fin ls τ).map (.d x :: ·) := rfl
theorem fin_c {x : List PyData} {ls : List L} {o : Option L} {τ : DS} : fin (.c x :: ls) (o :: τ) = (fin ls τ).map (.c x :: ·) := rfl
theorem fin_m {x xs : List PyData} {ls : List L} {τ : DS} : fin (.m x :: ls) (some (.m xs) :: τ) = (fin ls τ).map (.m xs :: ·) := rfl
theorem fun_rt {fr : Bool} {np nl : Nat} {b : DB} {ls ls' : List L} {d : PyData} {τ : DS} (h : b (ls.map some ++ List.replicate nl none) = some (.rt d τ)) (hl : ls.length = np) (hf : fin ls τ = some ls') : dFun fr np nl b ls = some (d, ls') := by
  unfold dFun
  rw [if_pos hl, h]
  show (fin ls τ).map _ = _
  rw [hf]
  rfl
theorem seq_nx {a b : DB} {τ τ1 : DS} (h : a τ = some (.nx τ1)) : dSeq a b τ = b τ1 := by
  unfold dSeq
  rw [h]
  rfl
theorem seq_rt {a b : DB} {τ τ1 : DS} {d : PyData} (h : a τ = some (.rt d τ1)) : dSeq a b τ = some (.rt d τ1) := by
  unfold dSeq
  rw [h]
  rfl
theorem asg_nx {e : DX} {g : DG} {τ τ1 τ2 : DS} {d : PyData} (h : e τ = some (d, τ1)) (k : g d τ1 = some τ2) : dAsg e g τ = some (.nx τ2) := by
  unfold dAsg
  rw [h]
  show (g d τ1).map _ = _
  rw [k]
  rfl
theorem ret_rt {e : DX} {τ τ1 : DS} {d : PyData} (h : e τ = some (d, τ1)) : dRet e τ = some (.rt d τ1) := by
  unfold dRet
  rw [h]
  rfl
theorem ifs_t {c : DT} {a b : DB} {τ τ1 : DS} (h : c τ = some (true, τ1)) : dIfS c a b τ = a τ1 := by
  unfold dIfS
  rw [h]
  rfl
theorem ifs_f {c : DT} {a b : DB} {τ τ1 : DS} (h : c τ = some (false, τ1)) : dIfS c a b τ = b τ1 := by
  unfold dIfS
  rw [h]
  rfl
theorem call_eq {G : List L → Option (PyData × List L)} {a : DA} {τ τ1 : DS} {rs : List Ar} {ds : List PyData} {r : PyData} {ls : List L} (h : a τ = some (rs, τ1)) (k : allD rs = some ds) (g : G (ds.map L.d) = some (r, ls)) : dCall G a τ = some (r, τ1) := by
  unfold dCall
  rw [h]
  show (allD rs).bind _ = _
  rw [k]
  show (G (ds.map L.d)).map _ = _
  rw [g]
  rfl
theorem callM_eq {i : Nat} {G : List L → Option (PyData × List L)} {a : DA} {τ τ1 : DS} {rs : List Ar} {ds : List PyData} {r : PyData} {ls : List L} {xs xs' : List PyData} (h : a τ = some (rs, τ1)) (k : allD rs = some ds) (m : τ1[i]? = some (some (.m xs))) (g : G (.m xs :: ds.map L.d) = some (r, .m xs' :: ls)) : dCallM i G a τ = some (r, τ1.set i (some (.m xs'))) := by
  unfold dCallM
  rw [h]
  show (allD rs).bind _ = _
  rw [k]
  dsimp only [Option.bind]
  rw [m]
  dsimp only
  rw [g]
theorem callC_eq {i : Nat} {G : List L → Option (PyData × List L)} {a : DA} {τ τ1 : DS} {rs : List Ar} {ds : List PyData} {r : PyData} {ls : List L} {xs : List PyData} (h : a τ = some (rs, τ1)) (k : allD rs = some ds) (m : τ1[i]? = some (some (.c xs))) (g : G (.c xs :: ds.map L.d) = some (r, ls)) : dCallC i G a τ = some (r, τ1) := by
  unfold dCallC
  rw [h]
  show (allD rs).bind _ = _
  rw [k]
  show (match τ1[i]? with | some (some (.c xs)) => _ | _ => _) = _
  rw [m]
  show (G (.c xs :: ds.map L.d)).map _ = _
  rw [g]
  rfl
theorem for_eq {it : DI} {g : DG} {b : DB} {τ τ1 : DS} {ds : List PyData} (h : it τ = some (ds, τ1)) : dFor it g b τ = dLoop g b ds τ1 := by
  unfold dFor
  rw [h]
  rfl
theorem loop_list {α : Type} {enc : α → PyData} {g : DG} {b : DB} (J : List α → DS → Prop) : ∀ {xs pre : List α} {τ : DS}, J pre τ → (∀ x pre τ, x ∈ xs → J pre τ → ∃ τ1 τ2, g (enc x) τ = some τ1 ∧ b τ1 = some (.nx τ2) ∧ J (pre ++ [x]) τ2) → ∃ τ', dLoop g b (xs.map enc) τ = some (.nx τ') ∧ J (pre ++ xs) τ'
  | [], pre, τ, h0, _ => ⟨τ, rfl, by rw [List.append_nil]; exact h0⟩
  | x :: xs, pre, τ, h0, h => by
    obtain ⟨τ1, τ2, e1, e2, h1⟩ := h x pre τ List.mem_cons_self h0
    obtain ⟨τ', e3, h3⟩ := loop_list J (xs := xs) (pre := pre ++ [x]) (τ := τ2) h1 (fun y p t hy hj => h y p t (List.mem_cons_of_mem _ hy) hj)
    refine ⟨τ', ?_, by rw [List.append_assoc] at h3; exact h3⟩
    rw [List.map_cons, dLoop, e1]
    show (b τ1).bind _ = _
    rw [e2]
    exact e3
theorem lc_list {α : Type} {enc : α → PyData} {g : DG} {c : DT} {e : DX} (J : DS → Prop) (p : α → Bool) (f : α → PyData) : ∀ {xs : List α} {acc : List PyData} {τ : DS}, J τ →
    (∀ x τ, x ∈ xs → J τ → ∃ τ1 τ2, g (enc x) τ = some τ1 ∧ c τ1 = some (p x, τ2) ∧ (p x = false → J τ2) ∧ (p x = true → ∃ τ3, e τ2 = some (f x, τ3) ∧ J τ3)) → ∃ τ', lcLoop g c e (xs.map enc) acc τ = some (acc ++ (xs.filter p).map f, τ')
  | [], acc, τ, h0, _ => ⟨τ, by simp [lcLoop]⟩
  | x :: xs, acc, τ, h0, h => by
    obtain ⟨τ1, τ2, e1, e2, hf, ht⟩ := h x τ List.mem_cons_self h0
    have hr : ∀ y t, y ∈ xs → J t → _ := fun y t hy hj => h y t (List.mem_cons_of_mem _ hy) hj
    cases hp : p x with
    | false =>
      obtain ⟨τ', e3⟩ := lc_list J p f (xs := xs) (acc := acc) (τ := τ2) (hf hp) hr
      refine ⟨τ', ?_⟩
      rw [List.map_cons, lcLoop, e1]
      show (c τ1).bind _ = _
      rw [e2, hp]
      show lcLoop g c e (xs.map enc) acc τ2 = _
      rw [e3, List.filter_cons, hp]
      rfl
    | true =>
      obtain ⟨τ3, e4, h4⟩ := ht hp
      obtain ⟨τ', e3⟩ := lc_list J p f (xs := xs) (acc := acc ++ [f x]) (τ := τ3) h4 hr
      refine ⟨τ', ?_⟩
      rw [List.map_cons, lcLoop, e1]
      show (c τ1).bind _ = _
      rw [e2, hp]
      show (e τ2).bind _ = _
      rw [e4]
      show lcLoop g c e (xs.map enc) (acc ++ [f x]) τ3 = _
      rw [e3, List.filter_cons, hp, List.append_assoc]
      rfl
theorem dlc_eq {own : Nat} {fr : List Nat} {it : DI} {g : DG} {c : DT} {e : DX} {τ τ1 τb : DS} {ds acc : List PyData} (h : it τ = some (ds, τ1)) (hz : ds.length ≤ sizeLine) (hm : (fr.all fun j => !isM τ1 j) = true) (hl : lcLoop g c e ds [] (blkD own fr τ1) = some (acc, τb)) : dLC own fr it g c e τ = some (.list acc, τ1) := by
  unfold dLC
  rw [h]
  show (if ds.length ≤ sizeLine ∧ (fr.all fun j => !isM τ1 j) = true then _ else _) = _
  rw [if_pos ⟨hz, hm⟩, hl]
  rfl
theorem sz {n : Nat} (h : n ≤ 1000) : n ≤ sizeLine := Nat.le_trans h (by decide)
theorem sz' {n : Nat} (h : n ≤ 1000) : (n ≤ sizeLine) = True := eq_true (sz h)
theorem bd_small {m : Int} (h0 : 0 < m) (h1 : m < 10 ^ 70) : Bd 8000 m := by
  have : Bd 240 m := Bd.of (m := 10 ^ 70) (by omega) (by omega) (by decide)
  exact this.mono (by decide)
theorem cst_same {K : PySem.W.Frag} {H : Hp} {a : Addr} {xs : List V} (h : SqL K H a xs) : SqL K (hid (fun _ => False) H) a xs := Same.seq (fun b o e => hid_iff.mpr ⟨fun z => z, e⟩) h
theorem isl_ints {K : PySem.W.Frag} {H : Hp} : ∀ ns : List Int, IsL K H (ns.map PyData.int) (ns.map V.int)
  | [] => rfl
  | _ :: ns => ⟨_, _, rfl, rfl, isl_ints ns⟩
structure Enc {α : Type} [DecidableEq α] (enc : α → PyData) : Prop where
  eqv : ∀ a b, PyData.eqv (enc a) (enc b) = decide (a = b)
  can : ∀ a, (enc a).canLay0 = true
  dep : ∀ a, (enc a).depth ≤ 20
  fix : ∀ a, fixD (enc a) = true
section
variable {α : Type} [DecidableEq α] {enc : α → PyData}
theorem Enc.ok (h : Enc enc) (a : α) : okD (enc a) = true := by
  unfold okD SeqAt.shaped
  rw [Bool.and_eq_true]
  exact ⟨h.can a, decide_eq_true (Nat.le_trans (h.dep a) (by decide))⟩
theorem Enc.canL (h : Enc enc) : ∀ xs : List α, PyData.canLayAll0 (xs.map enc) = true
  | [] => rfl
  | x :: xs => by
    rw [List.map_cons, PyData.canLayAll0, h.can, Enc.canL h xs]; rfl
theorem Enc.depL (h : Enc enc) : ∀ xs : List α, PyData.depthAll (xs.map enc) ≤ 20
  | [] => Nat.zero_le _
  | x :: xs => by
    rw [List.map_cons, PyData.depthAll]
    have := h.dep x
    have := Enc.depL h xs
    omega
theorem Enc.okL (h : Enc enc) (xs : List α) : okD (.list (xs.map enc)) = true := by
  unfold okD SeqAt.shaped
  rw [Bool.and_eq_true, PyData.canLay0, PyData.depth]
  exact ⟨h.canL xs, decide_eq_true (by have := h.depL xs; omega)⟩
theorem Enc.eqvL (h : Enc enc) : ∀ xs ys : List α, PyData.eqvAll (xs.map enc) (ys.map enc) = decide (xs = ys)
  | [], [] => rfl
  | [], _ :: _ => rfl
  | _ :: _, [] => rfl
  | x :: xs, y :: ys => by
    rw [List.map_cons, List.map_cons, PyData.eqvAll, h.eqv, Enc.eqvL h xs ys]
    by_cases e : x = y
    · subst e
      by_cases e' : xs = ys
      · subst e'; simp
      · simp [e']
    · simp [e]
theorem Enc.eqL (h : Enc enc) (xs ys : List α) : PyData.eqv (.list (xs.map enc)) (.list (ys.map enc)) = decide (xs = ys) := by
  rw [PyData.eqv]; exact h.eqvL xs ys
theorem Enc.any (h : Enc enc) (x : α) : ∀ xs : List α, ((xs.map enc).any fun y => PyData.eqv y (enc x)) = decide (x ∈ xs)
  | [] => by simp
  | y :: ys => by
    rw [List.map_cons, List.any_cons, h.eqv, Enc.any h x ys]
    by_cases e : y = x
    · subst e; simp
    · have : ¬ x = y := fun z => e z.symm
      simp [e, this]
theorem Enc.fixL (h : Enc enc) : ∀ xs : List α, fixDs (xs.map enc) = true
  | [] => rfl
  | x :: xs => by rw [List.map_cons, fixDs, h.fix, Enc.fixL h xs]; rfl
theorem Enc.fEq (h : Enc enc) (a b : α) : DL.fEq (enc a) (enc b) = some (.bool (decide (a = b))) := by
  unfold DL.fEq; rw [h.ok, h.ok, h.eqv]; rfl
theorem Enc.fNe (h : Enc enc) (a b : α) : DL.fNe (enc a) (enc b) = some (.bool (!decide (a = b))) := by
  unfold DL.fNe; rw [h.ok, h.ok, h.eqv]; rfl
theorem Enc.fEqL (h : Enc enc) (a b : List α) : DL.fEq (.list (a.map enc)) (.list (b.map enc)) = some (.bool (decide (a = b))) := by
  unfold DL.fEq; rw [h.okL, h.okL, h.eqL]; rfl
theorem Enc.fNeL (h : Enc enc) (a b : List α) : DL.fNe (.list (a.map enc)) (.list (b.map enc)) = some (.bool (!decide (a = b))) := by
  unfold DL.fNe; rw [h.okL, h.okL, h.eqL]; rfl
end
theorem encI : Enc (α := Int) PyData.int := ⟨fun a b => by rw [PyData.eqv]; by_cases h : a = b <;> simp [h], fun _ => rfl, fun _ => by rw [PyData.depth]; decide, fun _ => rfl⟩
def ec (p : Int × Int) : PyData := .tuple [.int p.1, .int p.2]
theorem encC : Enc ec := by
  refine ⟨fun a b => ?_, fun _ => rfl, fun a => ?_, fun _ => rfl⟩
  · unfold ec
    simp only [PyData.eqv, PyData.eqvAll, Bool.and_true]
    obtain ⟨a1, a2⟩ := a
    obtain ⟨b1, b2⟩ := b
    by_cases h1 : a1 = b1
    · by_cases h2 : a2 = b2 <;> simp [h1, h2]
    · simp [h1]
  · unfold ec; simp [PyData.depth, PyData.depthAll]
structure Bx where
  x : Int
  y : Int
  w : Int
  h : Int
  deriving DecidableEq
def eb (b : Bx) : PyData := .tuple [.int b.x, .int b.y, .int b.w, .int b.h]
end DL
end
section
set_option Elab.async false
set_option linter.all false
namespace DL
open PySem L2
def rng (lo : Int) (n : Nat) : List Int := (List.range n).map fun (k : Nat) => lo + (k : Int)
theorem rangeD_eq (lo : Int) (n : Nat) : rangeD lo n = (rng lo n).map PyData.int := by
  unfold rangeD rng
  rw [List.map_map]
  rfl
theorem rng_len (lo : Int) (n : Nat) : (rng lo n).length = n := by unfold rng; simp
theorem mem_rng {lo v n : Int} : v ∈ rng lo n.toNat ↔ lo ≤ v ∧ v < lo + n := by
  unfold rng
  rw [List.mem_map]
  constructor
  · rintro ⟨k, hk, rfl⟩
    rw [List.mem_range] at hk
    omega
  · rintro ⟨h1, h2⟩
    exact ⟨(v - lo).toNat, by rw [List.mem_range]; omega, by omega⟩
abbrev Cl := Int × Int
def rowC (x v : Int) (w : Nat) : List Cl := (rng x w).map fun u => (u, v)
def cells (b : Bx) : List Cl := (rng b.y b.h.toNat).flatMap fun v => rowC b.x v b.w.toNat
def inB (b : Bx) (p : Cl) : Prop := b.x ≤ p.1 ∧ p.1 < b.x + b.w ∧ b.y ≤ p.2 ∧ p.2 < b.y + b.h
instance {b : Bx} {p : Cl} : Decidable (inB b p) := by unfold inB; infer_instance
theorem cells_len (b : Bx) : (cells b).length = b.h.toNat * b.w.toNat := by
  unfold cells
  rw [List.length_flatMap]
  have : ∀ l : List Int, (l.map fun v => (rowC b.x v b.w.toNat).length).sum = l.length * b.w.toNat := by
    intro l
    induction l with
    | nil => simp
    | cons v l ih =>
      rw [List.map_cons, List.sum_cons, ih, List.length_cons, Nat.succ_mul]
      unfold rowC
      rw [List.length_map, rng_len]
      omega
  rw [this, rng_len]
def nM (o : Option L) : Prop := (∀ xs, o ≠ some (.m xs)) ∧ ∀ xs, o ≠ some (.k xs)
theorem nM_none : nM none := ⟨fun xs z => (nomatch z), fun xs z => (nomatch z)⟩
theorem nM_d {x : PyData} : nM (some (.d x)) := ⟨fun xs z => (nomatch z), fun xs z => (nomatch z)⟩
theorem dN_eq {i : Nat} {d : PyData} {τ : DS} {o : Option L} (h : τ[i]? = some o) (hn : nM o) : dN i d τ = some (τ.set i (some (.d d))) := by
  unfold dN
  rw [h]
  cases o with
  | none => rfl
  | some l => cases l with
    | m xs => exact absurd rfl (hn.1 xs)
    | k xs => exact absurd rfl (hn.2 xs)
    | d x => rfl
    | c x => rfl
    | g x => rfl
end DL
end
section
set_option Elab.async false
set_option linter.all false
set_option maxRecDepth 100000
namespace DL
open PySem L2
variable {K : PySem.W.Frag}
def isC (τ : DS) (j : Nat) : Bool := match τ[j]? with
  | some (some (.c _)) => true
  | _ => false
theorem isC_iff {τ : DS} {j : Nat} : isC τ j = true ↔ ∃ xs, τ[j]? = some (some (.c xs)) := by
  unfold isC
  split
  · rename_i xs h; exact ⟨fun _ => ⟨xs, h⟩, fun _ => rfl⟩
  · rename_i h; exact ⟨fun z => (nomatch z), fun ⟨xs, z⟩ => absurd z (h xs)⟩
def dAS (i : Nat) (r : DA) (τ : DS) : Option (List Ar × DS) := if (isM τ i || isC τ i) = true then (r τ).map fun q => (.s i :: q.1, q.2) else none
theorem a_s {i : Nat} {t : TA} {f : DA} (hr : A K t f) : A K (tCons (tVar i) t) (dAS i f) := by
  refine ⟨fun τ d τ' e => ?_, ?_⟩
  · unfold dAS at e
    split at e
    · obtain ⟨⟨y, τ2⟩, e2, e⟩ := Option.map_eq_some_iff.mp e
      cases e
      exact hr.like _ _ _ e2
    · cases e
  intro S M τ σ H Q rs τ' r e q
  unfold dAS at e
  split at e
  · rename_i hi
    obtain ⟨⟨y, τ2⟩, e2, e⟩ := Option.map_eq_some_iff.mp e
    cases e
    have hv : ∃ v, σ[i]? = some (some v) := by
      rw [Bool.or_eq_true] at hi
      rcases hi with hi | hi
      · obtain ⟨xs, h⟩ := isM_iff.mp hi
        obtain ⟨a, vs, h1, _⟩ := r.mt i xs h
        exact ⟨_, h1⟩
      · obtain ⟨xs, h⟩ := isC_iff.mp hi
        obtain ⟨a, vs, h1, _⟩ := r.cst i xs h
        exact ⟨_, h1⟩
    obtain ⟨v, hv⟩ := hv
    refine ⟨v, hv, hr.run S M τ σ H _ y _ r e2 fun vs H2 r2 c2 i2 => ?_⟩
    exact q (v :: vs) H2 r2 c2 ⟨v, vs, rfl, hv, i2⟩
  · cases e
def mkL (τ : DS) : List Ar → Option (List L)
  | [] => some []
  | .d x :: r => (mkL τ r).map (.d x :: ·)
  | .s i :: r => match τ[i]? with
    | some (some (.m xs)) => (mkL τ r).map (.m xs :: ·)
    | some (some (.c xs)) => (mkL τ r).map (.c xs :: ·)
    | _ => none
def nMb : L → Bool
  | .m _ => false
  | .k _ => false
  | _ => true
theorem aris_get {S : Addr → Prop} {σ : St} {H : Hp} : ∀ {rs : List Ar} {vs : List V} {k : Nat} {r : Ar}, ArIs K S σ H rs vs → rs[k]? = some r → ∃ v, vs[k]? = some v ∧ match r with
    | .d x => Is K (hid S H) x v
    | .s i => σ[i]? = some (some v)
  | [], _, _, _, h, e => by simp at e
  | .d x :: rs, _, 0, r, ⟨v, us, e1, h, l⟩, e => by subst e1; cases e; exact ⟨v, rfl, h⟩
  | .d x :: rs, _, k + 1, r, ⟨v, us, e1, h, l⟩, e => by subst e1; exact aris_get (k := k) l (by simpa using e)
  | .s i :: rs, _, 0, r, ⟨v, us, e1, h, l⟩, e => by subst e1; cases e; exact ⟨v, rfl, h⟩
  | .s i :: rs, _, k + 1, r, ⟨v, us, e1, h, l⟩, e => by subst e1; exact aris_get (k := k) l (by simpa using e)
theorem aris_len {S : Addr → Prop} {σ : St} {H : Hp} : ∀ {rs : List Ar} {vs : List V}, ArIs K S σ H rs vs → vs.length = rs.length
  | [], _, h => by rw [show _ = [] from h]; rfl
  | .d x :: rs, _, ⟨v, us, e1, h, l⟩ => by subst e1; rw [List.length_cons, List.length_cons, aris_len l]
  | .s i :: rs, _, ⟨v, us, e1, h, l⟩ => by subst e1; rw [List.length_cons, List.length_cons, aris_len l]
def dCallP (k i : Nat) (G : List L → Option (PyData × List L)) (a : DA) (τ : DS) : Option (PyData × DS) := (a τ).bind fun p => (mkL p.2 p.1).bind fun ls => match p.1[k]?, ls[k]? with
  | some (.s j), some (.m _) => if j = i ∧ (ls.set k (.d .none)).all nMb = true then (G ls).bind fun q => match q.2[k]? with
      | some (.m xs) => some (q.1, p.2.set i (some (.m xs)))
      | _ => none
    else none
  | _, _ => none
theorem tyOk_int : tyOk "int" = true := rfl
theorem isi_int_none : isiD "int" .none = false := rfl
theorem isi_int_bool {b : Bool} : isiD "int" (.bool b) = true := rfl
theorem isi_int_int {b : Int} : isiD "int" (.int b) = true := rfl
theorem isi_int_str {b : Str} : isiD "int" (.str b) = false := rfl
theorem isi_int_list {b : List PyData} : isiD "int" (.list b) = false := rfl
theorem isi_int_tuple {b : List PyData} : isiD "int" (.tuple b) = false := rfl
theorem tyOk_bool : tyOk "bool" = true := rfl
theorem isi_bool_none : isiD "bool" .none = false := rfl
theorem isi_bool_bool {b : Bool} : isiD "bool" (.bool b) = true := rfl
theorem isi_bool_int {b : Int} : isiD "bool" (.int b) = false := rfl
theorem isi_bool_str {b : Str} : isiD "bool" (.str b) = false := rfl
theorem isi_bool_list {b : List PyData} : isiD "bool" (.list b) = false := rfl
theorem isi_bool_tuple {b : List PyData} : isiD "bool" (.tuple b) = false := rfl
theorem tyOk_str : tyOk "str" = true := rfl
theorem isi_str_none : isiD "str" .none = false := rfl
theorem isi_str_bool {b : Bool} : isiD "str" (.bool b) = false := rfl
theorem isi_str_int {b : Int} : isiD "str" (.int b) = false := rfl
theorem isi_str_str {b : Str} : isiD "str" (.str b) = true := rfl
theorem isi_str_list {b : List PyData} : isiD "str" (.list b) = false := rfl
theorem isi_str_tuple {b : List PyData} : isiD "str" (.tuple b) = false := rfl
theorem tyOk_list : tyOk "list" = true := rfl
theorem isi_list_none : isiD "list" .none = false := rfl
theorem isi_list_bool {b : Bool} : isiD "list" (.bool b) = false := rfl
theorem isi_list_int {b : Int} : isiD "list" (.int b) = false := rfl
theorem isi_list_str {b : Str} : isiD "list" (.str b) = false := rfl
theorem isi_list_list {b : List PyData} : isiD "list" (.list b) = true := rfl
theorem isi_list_tuple {b : List PyData} : isiD "list" (.tuple b) = false := rfl
theorem tyOk_tuple : tyOk "tuple" = true := rfl
theorem isi_tuple_none : isiD "tuple" .none = false := rfl
theorem isi_tuple_bool {b : Bool} : isiD "tuple" (.bool b) = false := rfl
theorem isi_tuple_int {b : Int} : isiD "tuple" (.int b) = false := rfl
theorem isi_tuple_str {b : Str} : isiD "tuple" (.str b) = false := rfl
theorem isi_tuple_list {b : List PyData} : isiD "tuple" (.list b) = false := rfl
theorem isi_tuple_tuple {b : List PyData} : isiD "tuple" (.tuple b) = true := rfl
theorem loop_pre_go {α : Type} {enc : α → PyData} {g : DG} {b : DB} {all : List α} (J : List α → DS → Prop) (h : ∀ pre x post τ, all = pre ++ x :: post → J pre τ → ∃ τ1 τ2, g (enc x) τ = some τ1 ∧ b τ1 = some (.nx τ2) ∧ J (pre ++ [x]) τ2) :
    ∀ {xs pre : List α} {τ : DS}, all = pre ++ xs → J pre τ → ∃ τ', dLoop g b (xs.map enc) τ = some (.nx τ') ∧ J all τ'
  | [], pre, τ, e, h0 => ⟨τ, rfl, by rw [e, List.append_nil]; exact h0⟩
  | x :: xs, pre, τ, e, h0 => by
    obtain ⟨τ1, τ2, e1, e2, h1⟩ := h pre x xs τ e h0
    obtain ⟨τ', e3, h3⟩ := loop_pre_go J h (xs := xs) (pre := pre ++ [x]) (τ := τ2) (by rw [e, List.append_assoc]; rfl) h1
    refine ⟨τ', ?_, h3⟩
    rw [List.map_cons, dLoop, e1]
    show (b τ1).bind _ = _
    rw [e2]
    exact e3
theorem loop_pre {α : Type} {enc : α → PyData} {g : DG} {b : DB} {xs : List α} {τ : DS} (J : List α → DS → Prop) (h0 : J [] τ) (h : ∀ pre x post τ, xs = pre ++ x :: post → J pre τ → ∃ τ1 τ2, g (enc x) τ = some τ1 ∧ b τ1 = some (.nx τ2) ∧ J (pre ++ [x]) τ2) :
    ∃ τ', dLoop g b (xs.map enc) τ = some (.nx τ') ∧ J xs τ' := loop_pre_go J h (pre := []) rfl h0
theorem r1_eq {n : Int} {τ τ1 : DS} {a : DA} (h : a τ = some ([.d (.int n)], τ1)) (h0 : -100000 ≤ n) (h1 : n ≤ 100000) : dR1 a τ = some ((rng 0 n.toNat).map PyData.int, τ1) := by
  unfold dR1
  rw [h]
  show (if -(2 ^ 62) ≤ n ∧ n < 2 ^ 62 then some (rangeD 0 n.toNat, τ1) else none) = _
  rw [if_pos (by omega), rangeD_eq]
theorem r2_eq {m n : Int} {τ τ1 : DS} {a : DA} (h : a τ = some ([.d (.int m), .d (.int n)], τ1)) (h0 : -100000 ≤ n) (h1 : n ≤ 100000) (h2 : -100000 ≤ m) (h3 : m ≤ 100000) : dR2 a τ = some ((rng m (n - m).toNat).map PyData.int, τ1) := by
  unfold dR2
  rw [h]
  show (if -(2 ^ 62) ≤ m ∧ m < 2 ^ 62 ∧ -(2 ^ 62) ≤ n ∧ n < 2 ^ 62 then some (rangeD m (n - m).toNat, τ1) else none) = _
  rw [if_pos (by omega), rangeD_eq]
theorem rng_shift (lo : Int) (n : Nat) : rng lo n = (rng 0 n).map fun i => lo + i := by
  unfold rng
  rw [List.map_map]
  refine List.map_congr_left fun k _ => ?_
  show lo + (k : Int) = lo + (0 + (k : Int))
  omega
theorem split_len {α : Type} {xs pre post : List α} {x : α} (e : xs = pre ++ x :: post) : pre.length < xs.length := by rw [e, List.length_append, List.length_cons]; omega
end DL
end
section
set_option Elab.async false
set_option linter.all false
set_option maxRecDepth 100000
namespace DL
open PySem PySem.Spec L2 PyProof.Rows
section
variable {prog : Program} {w : World} {A : Around} {s : Shared} {R : Result → Shared → Prop}
variable {I : Addr} {fp wr : List Addr} {G : Array GenState → Array GenState → Prop} {n : Nat} {P : Nat → Value → Prop} {St : Nat → Shared → Prop}
end
section
variable {prog : Program} {w : World} {A : Around} {E : Value → Shared → Prop} {s : Shared}
variable {I : Addr} {fp wr : List Addr} {G : Array GenState → Array GenState → Prop} {n : Nat} {P : Nat → Value → Prop} {St : Nat → Shared → Prop}
end
variable {K : PySem.W.Frag}
def dRev (f : DX) (τ : DS) : Option (PyData × DS) := (f τ).bind fun p => match p.1 with
  | .list xs => some (.list xs.reverse, p.2)
  | _ => none
theorem okM_none : okM none = true := rfl
theorem okM_d {x : PyData} : okM (some (.d x)) = true := rfl
theorem okM_c {x : List PyData} : okM (some (.c x)) = true := rfl
theorem okM_m {x : List PyData} : okM (some (.m x)) = fixDs x := rfl
end DL
end
section
set_option Elab.async false
set_option linter.all false
set_option maxRecDepth 100000
namespace Srt
open PySem PySem.W PyProof.Rows
def Gd (n : Nat) (r : Nat → Nat → Bool) {α : Type} : KasT α → (α → Prop) → Prop
  | .ret a, Q => Q a
  | .ask i j k, Q => i < n ∧ j < n ∧ Gd n r (k (r i j)) Q
variable {n : Nat} {r : Nat → Nat → Bool}
theorem gd_mono {α : Type} {Q Q' : α → Prop} (h : ∀ a, Q a → Q' a) : ∀ {t : KasT α}, Gd n r t Q → Gd n r t Q'
  | .ret a, g => h a g
  | .ask i j k, ⟨a, b, g⟩ => ⟨a, b, gd_mono h g⟩
theorem gd_bind {α β : Type} {f : α → KasT β} {Q : β → Prop} : ∀ {t : KasT α}, Gd n r t (fun a => Gd n r (f a) Q) → Gd n r (t.bind f) Q
  | .ret a, g => g
  | .ask i j k, ⟨a, b, g⟩ => ⟨a, b, gd_bind g⟩
structure Ord (n : Nat) (r : Nat → Nat → Bool) : Prop where
  irr : ∀ i, i < n → r i i = false
  tr : ∀ i j k, i < n → j < n → k < n → r i j = true → r j k = true → r i k = true
  tot : ∀ i j, i < n → j < n → i ≠ j → r i j = false → r j i = true
structure Arr (n : Nat) (p : Array Nat) : Prop where
  sz : p.size = n
  lt : ∀ a, a < n → p.getD a 0 < n
  inj : ∀ a b, a < n → b < n → p.getD a 0 = p.getD b 0 → a = b
  pm : p.Perm (List.toArray (List.range n))
def Up (r : Nat → Nat → Bool) (p : Array Nat) (k : Nat) : Prop := ∀ a b, a < b → b < k → r (p.getD a 0) (p.getD b 0) = true
def Dn (r : Nat → Nat → Bool) (p : Array Nat) (k : Nat) : Prop := ∀ a b, a < b → b < k → r (p.getD b 0) (p.getD a 0) = true
theorem up_succ (O : Ord n r) {p : Array Nat} (A : Arr n p) {k : Nat} (hk : 1 ≤ k) (hn : k < n) (u : Up r p k) (h : r (p.getD k 0) (p.getD (k - 1) 0) = false) : Up r p (k + 1) := by
  have h1 : r (p.getD (k - 1) 0) (p.getD k 0) = true := O.tot _ _ (A.lt _ hn) (A.lt _ (by omega)) (fun z => by have := A.inj _ _ hn (by omega) z; omega) h
  intro a b hab hb
  by_cases e : b = k
  · subst e
    by_cases e2 : a = b - 1
    · subst e2; exact h1
    · exact O.tr _ _ _ (A.lt _ (by omega)) (A.lt _ (by omega)) (A.lt _ hn) (u a (b - 1) (by omega) (by omega)) h1
  · exact u a b hab (by omega)
theorem dn_succ (O : Ord n r) {p : Array Nat} (A : Arr n p) {k : Nat} (hk : 1 ≤ k) (hn : k < n) (u : Dn r p k) (h1 : r (p.getD k 0) (p.getD (k - 1) 0) = true) : Dn r p (k + 1) := by
  intro a b hab hb
  by_cases e : b = k
  · subst e
    by_cases e2 : a = b - 1
    · subst e2; exact h1
    · exact O.tr _ _ _ (A.lt _ hn) (A.lt _ (by omega)) (A.lt _ (by omega)) h1 (u a (b - 1) (by omega) (by omega))
  · exact u a b hab (by omega)
theorem asc (O : Ord n r) {p : Array Nat} (A : Arr n p) : ∀ (f k : Nat), 1 ≤ k → k + f ≤ n → Up r p k → Gd n r (kas_asc p f k) fun m => k ≤ m ∧ m ≤ k + f ∧ Up r p m ∧ (m < k + f → r (p.getD m 0) (p.getD (m - 1) 0) = true)
  | 0, k, h1, h2, u => ⟨Nat.le_refl _, by omega, u, by omega⟩
  | f + 1, k, h1, h2, u => by
    refine ⟨A.lt _ (by omega), A.lt _ (by omega), ?_⟩
    cases c : r (p.getD k 0) (p.getD (k - 1) 0) with
    | true => exact ⟨Nat.le_refl _, by omega, u, fun _ => c⟩
    | false =>
      show Gd n r (kas_asc p f (k + 1)) _
      refine gd_mono ?_ (asc O A f (k + 1) (by omega) (by omega) (up_succ O A h1 (by omega) u c))
      rintro m ⟨h3, h4, h5, h6⟩
      exact ⟨by omega, by omega, h5, fun z => h6 (by omega)⟩
theorem desc (O : Ord n r) {p : Array Nat} (A : Arr n p) : ∀ (f k : Nat), 1 ≤ k → k + f ≤ n → Dn r p k → Gd n r (kas_desc f p k 0) fun x => x.1 = p ∧ x.2.2 = 0 ∧ k ≤ x.2.1 ∧ x.2.1 ≤ k + f ∧ Dn r p x.2.1
  | 0, k, h1, h2, u => ⟨rfl, rfl, Nat.le_refl _, by show k ≤ k + 0; omega, u⟩
  | f + 1, k, h1, h2, u => by
    refine ⟨A.lt _ (by omega), A.lt _ (by omega), ?_⟩
    cases c : r (p.getD k 0) (p.getD (k - 1) 0) with
    | true =>
      show Gd n r (kas_desc f p (k + 1) 0) _
      refine gd_mono ?_ (desc O A f (k + 1) (by omega) (by omega) (dn_succ O A h1 (by omega) u c))
      rintro m ⟨h3, h4, h5, h6, h7⟩
      exact ⟨h3, h4, by omega, by omega, h7⟩
    | false =>
      refine ⟨A.lt _ (by omega), A.lt _ (by omega), ?_⟩
      have h3 : r (p.getD (k - 1) 0) (p.getD k 0) = true := O.tot _ _ (A.lt _ (by omega)) (A.lt _ (by omega)) (fun z => by have := A.inj _ _ (by omega) (by omega) z; omega) c
      rw [h3]
      exact ⟨rfl, rfl, Nat.le_refl _, by show k ≤ k + (f + 1); omega, u⟩
theorem getD_of {p q : Array Nat} {a b : Nat} (h : q[a]? = p[b]?) : q.getD a 0 = p.getD b 0 := by
  rw [Array.getD_eq_getD_getElem?, Array.getD_eq_getD_getElem?, h]
theorem rev_get {p : Array Nat} {k : Nat} (hk : k ≤ p.size) (a : Nat) : (kas_rev p 0 k).getD a 0 = p.getD (if a < k then k - 1 - a else a) 0 := by
  have e := getElem?_mirror_all (i := 0) hk a
  unfold kas_rev
  refine getD_of (e.trans ?_)
  by_cases h : a < k
  · rw [if_pos ⟨Nat.zero_le _, h⟩, if_pos h]; congr 1; omega
  · rw [if_neg (fun z => h z.2), if_neg h]
theorem arr_rev {p : Array Nat} (A : Arr n p) {k : Nat} (hk : k ≤ n) : Arr n (kas_rev p 0 k) := by
  have hz := A.sz
  refine ⟨by unfold kas_rev; rw [mirror_size, hz], fun a ha => ?_, fun a b ha hb e => ?_, ?_⟩
  · rw [rev_get (by omega)]
    refine A.lt _ ?_
    split <;> omega
  · rw [rev_get (by omega), rev_get (by omega)] at e
    have := A.inj _ _ (by split <;> omega) (by split <;> omega) e
    split at this <;> split at this <;> omega
  · exact (mirror_perm _ _ _ _).trans A.pm
theorem up_rev {p : Array Nat} (A : Arr n p) {k : Nat} (hk : k ≤ n) (d : Dn r p k) : Up r (kas_rev p 0 k) k := by
  have hz := A.sz
  intro a b hab hb
  rw [rev_get (by omega), rev_get (by omega), if_pos (by omega), if_pos hb]
  exact d _ _ (by omega) (by omega)
def Res (n : Nat) (r : Nat → Nat → Bool) (x : Nat × Array Nat) : Prop := Arr n x.2 ∧ 1 ≤ x.1 ∧ x.1 ≤ n ∧ Up r x.2 x.1
theorem tail3 (O : Ord n r) {p : Array Nat} (A : Arr n p) {k : Nat} (h1 : 1 ≤ k) (hk : k ≤ n) (d : Dn r p k) : Gd n r (kas_tail3 k n p) (Res n r) := by
  unfold kas_tail3
  refine gd_bind (gd_mono ?_ (asc O (arr_rev A hk) (n - k) k h1 (by omega) (up_rev A hk d)))
  rintro m ⟨h3, h4, h5, _⟩
  exact ⟨arr_rev A hk, by show 1 ≤ m; omega, by show m ≤ n; omega, h5⟩
theorem count (O : Ord n r) {p : Array Nat} (A : Arr n p) (h1 : 1 ≤ n) : Gd n r (kas_count n p) (Res n r) := by
  unfold kas_count
  refine gd_bind (gd_mono ?_ (asc O A (n - 1) 1 (Nat.le_refl _) (by omega) (fun a b h h' => by omega)))
  rintro m ⟨h3, h4, h5, h6⟩
  by_cases e : m = n
  · rw [if_pos (by simpa using e)]
    exact ⟨A, by show 1 ≤ m; omega, by show m ≤ n; omega, h5⟩
  · rw [if_neg (by simpa using e)]
    by_cases hm : m > 1
    · rw [if_pos hm]
      refine ⟨A.lt _ (by omega), A.lt _ (by omega), ?_⟩
      rw [h5 0 (m - 1) (by omega) (by omega)]
      exact ⟨A, by show 1 ≤ m; omega, by show m ≤ n; omega, h5⟩
    · rw [if_neg hm]
      have hm1 : m = 1 := by omega
      subst hm1
      have c := h6 (by omega)
      unfold kas_descPart
      refine gd_bind (gd_mono ?_ (desc O A (n - 2) 2 (by omega) (by omega) (dn_succ O A (k := 1) (by omega) (by omega) (fun a b h h' => by omega) c)))
      rintro ⟨q, k, z⟩ ⟨rfl, rfl, h7, h8, h9⟩
      dsimp only at *
      rw [if_neg (by omega)]
      exact tail3 O A (by omega) (by omega) h9
theorem place (O : Ord n r) {p : Array Nat} (A : Arr n p) {k : Nat} (hk : k < n) (u : Up r p k) : ∀ (f a b : Nat), b - a ≤ f → a ≤ b → b ≤ k → (∀ c, c < a → r (p.getD c 0) (p.getD k 0) = true) → (∀ c, b ≤ c → c < k → r (p.getD k 0) (p.getD c 0) = true) →
    Gd n r (kas_place p k f a b) fun l => l ≤ k ∧ (∀ c, c < l → r (p.getD c 0) (p.getD k 0) = true) ∧ (∀ c, l ≤ c → c < k → r (p.getD k 0) (p.getD c 0) = true)
  | 0, a, b, hf, hab, hb, h1, h2 => ⟨by omega, h1, fun c hc hk => h2 c (by omega) hk⟩
  | f + 1, a, b, hf, hab, hb, h1, h2 => by
    unfold kas_place
    by_cases e : a ≥ b
    · rw [if_pos e]
      exact ⟨by omega, h1, fun c hc hk => h2 c (by omega) hk⟩
    · rw [if_neg e]
      refine ⟨A.lt _ hk, A.lt _ (by omega), ?_⟩
      have hm : (a + b) / 2 < b := by omega
      have hm2 : a ≤ (a + b) / 2 := by omega
      generalize (a + b) / 2 = m at *
      cases c : r (p.getD k 0) (p.getD m 0) with
      | true =>
        refine place O A hk u f a m (by omega) (by omega) (by omega) h1 fun d hd hdk => ?_
        by_cases e2 : d = m
        · subst e2; exact c
        · exact O.tr _ _ _ (A.lt _ hk) (A.lt _ (by omega)) (A.lt _ (by omega)) c (u m d (by omega) hdk)
      | false =>
        have c' : r (p.getD m 0) (p.getD k 0) = true := O.tot _ _ (A.lt _ hk) (A.lt _ (by omega)) (fun z => by have := A.inj _ _ hk (by omega) z; omega) c
        refine place O A hk u f (m + 1) b (by omega) (by omega) hb (fun d hd => ?_) h2
        by_cases e2 : d = m
        · subst e2; exact c'
        · exact O.tr _ _ _ (A.lt _ (by omega)) (A.lt _ (by omega)) (A.lt _ hk) (u d m (by omega) (by omega)) c'
theorem bub_get {p : Array Nat} {k l : Nat} (hk : k < p.size) (hl : l ≤ k) (a : Nat) : (bubble p k (k - l)).getD a 0 = p.getD (if a = l then k else if l < a ∧ a ≤ k then a - 1 else a) 0 := by
  have e := getElem?_bubble hk (k - l) (by omega) a
  refine getD_of (e.trans ?_)
  rw [show k - (k - l) = l by omega]
  split
  · rfl
  · split <;> rfl
theorem bin (O : Ord n r) : ∀ (f : Nat) {p : Array Nat} {k : Nat}, Arr n p → k + f = n → Up r p k → Gd n r (kas_bin f p k) fun q => Arr n q ∧ Up r q n
  | 0, p, k, A, h, u => ⟨A, by rw [← h]; exact u⟩
  | f + 1, p, k, A, h, u => by
    unfold kas_bin
    refine gd_bind (gd_mono ?_ (place O A (by omega) u k 0 k (by omega) (by omega) (Nat.le_refl _) (fun c h => by omega) (fun c h h' => by omega)))
    rintro l ⟨h1, h2, h3⟩
    have hz := A.sz
    have g := fun a => bub_get (p := p) (k := k) (l := l) (by omega) h1 a
    have A' : Arr n (bubble p k (k - l)) := by
      refine ⟨by rw [bubble_size, hz], fun a ha => ?_, fun a b ha hb e => ?_, (bubble_perm _ _ _).trans A.pm⟩
      · rw [g]
        refine A.lt _ ?_
        split
        · omega
        · split <;> omega
      · rw [g, g] at e
        have := A.inj _ _ (by split <;> first | omega | (split <;> omega)) (by split <;> first | omega | (split <;> omega)) e
        split at this <;> split at this <;> (try split at this) <;> (try split at this) <;> omega
    refine bin O f A' (by omega) fun a b hab hb => ?_
    rw [g, g]
    by_cases ea : a = l
    · rw [if_pos ea, if_neg (by omega), if_pos (by omega)]
      exact h3 _ (by omega) (by omega)
    · rw [if_neg ea]
      by_cases eb : b = l
      · rw [if_pos eb, if_neg (by omega)]
        exact h2 _ (by omega)
      · rw [if_neg eb]
        by_cases ca : l < a ∧ a ≤ k
        · rw [if_pos ca, if_pos (by omega)]
          exact u _ _ (by omega) (by omega)
        · rw [if_neg ca]
          by_cases cb : l < b ∧ b ≤ k
          · rw [if_pos cb]
            exact u _ _ (by omega) (by omega)
          · rw [if_neg cb]
            exact u _ _ (by omega) (by omega)
theorem arr_range : Arr n (List.toArray (List.range n)) := by
  have g : ∀ a, a < n → (List.toArray (List.range n)).getD a 0 = a := fun a ha => by
    rw [Array.getD_eq_getD_getElem?]
    simp [ha]
  refine ⟨by simp, fun a ha => by rw [g a ha]; exact ha, fun a b ha hb e => by rw [g a ha, g b hb] at e; exact e, .refl _⟩
theorem sort (O : Ord n r) (h1 : 1 ≤ n) : Gd n r (kas_sort n) fun q => Arr n q ∧ Up r q n := by
  unfold kas_sort
  refine gd_bind (gd_mono ?_ (count O arr_range h1))
  rintro ⟨m, p⟩ ⟨A, h2, h3, u⟩
  dsimp only at *
  by_cases e : m < n
  · rw [if_pos e]
    exact bin O _ A (by omega) (by rw [show max m 1 = m by omega]; exact u)
  · rw [if_neg e]
    exact ⟨A, by rw [show n = m by omega]; exact u⟩
end Srt
end
section
set_option Elab.async false
set_option linter.all false
set_option maxRecDepth 100000
namespace Srt
open PySem PySem.W PyProof.Rows HT
def Tp (h : Heap) (d : Nat) : List Value → List (List Int) → Prop
  | [], [] => True
  | v :: vs, k :: ks => (∃ a its, v = .ref a ∧ IsTup h a its ∧ IntsAre its.toList k ∧ k.length = d + 1) ∧ Tp h d vs ks
  | _, _ => False
theorem Tp.len {h : Heap} {d : Nat} : ∀ {vs : List Value} {ks : List (List Int)}, Tp h d vs ks → ks.length = vs.length
  | [], [], _ => rfl
  | _ :: _, _ :: _, t => by rw [List.length_cons, List.length_cons, Tp.len t.2]
  | [], _ :: _, t => t.elim
  | _ :: _, [], t => t.elim
theorem Tp.get {h : Heap} {d : Nat} : ∀ {vs : List Value} {ks : List (List Int)} {i : Nat}, Tp h d vs ks → i < vs.length → ∃ a its, vs.getD i Value.none = .ref a ∧ IsTup h a its ∧ IntsAre its.toList (ks.getD i []) ∧ (ks.getD i []).length = d + 1
  | [], _, _, _, hi => absurd hi (Nat.not_lt_zero _)
  | _ :: _, [], _, t, _ => t.elim
  | v :: vs, k :: ks, 0, t, _ => t.1
  | v :: vs, k :: ks, i + 1, t, hi => by
    rw [List.getD_cons_succ, List.getD_cons_succ]
    exact Tp.get t.2 (by simpa using hi)
theorem Tp.mono {h h' : Heap} {d : Nat} (k : ∀ b o, h.get? b = some o → h'.get? b = some o) : ∀ {vs : List Value} {ks : List (List Int)}, Tp h d vs ks → Tp h' d vs ks
  | [], [], _ => trivial
  | _ :: _, _ :: _, ⟨⟨a, its, e, ⟨o, ho, hc, n, hd⟩, hi, hl⟩, t⟩ => ⟨⟨a, its, e, ⟨o, k _ _ ho, hc, n, hd⟩, hi, hl⟩, t.mono k⟩
  | [], _ :: _, t => t.elim
  | _ :: _, [], t => t.elim
section
variable {prog : Program} {w : World} {A : Around} {E : Value → Shared → Prop} {s : Shared}
end
end Srt
end
section
set_option Elab.async false
set_option linter.all false
set_option maxRecDepth 100000
namespace TS
open PySem PyProof.Rows
section
variable {prog : Program} {w : World} {A : Around} {E : Value → Shared → Prop} {s : Shared} {κ : SortKind} {rk : Keyed → Nat} {a₀ : Array Keyed}
def R (rk : Keyed → Nat) (a : Array Keyed) (i : Nat) : Nat := match a[i]? with
  | some p => rk p
  | none => 0
structure Bs (κ : SortKind) (a₀ : Array Keyed) (st : SortSt) : Prop where
  perm : (arrOf st).Perm a₀
  kind : kindOf st = κ
  failed : failedOf st = none
theorem Bs.size {st : SortSt} (h : Bs κ a₀ st) : (arrOf st).size = a₀.size := h.perm.size_eq
theorem R_at {a : Array Keyed} {i : Nat} {x : Keyed} (h : a[i]? = some x) : R rk a i = rk x := by unfold R; rw [h]
theorem R_congr {a b : Array Keyed} {i j : Nat} (h : a[i]? = b[j]?) : R rk a i = R rk b j := by unfold R; rw [h]
theorem Bs.at {st : SortSt} (h : Bs κ a₀ st) {i : Nat} (hi : i < a₀.size) : ∃ x, (arrOf st)[i]? = some x ∧ x ∈ a₀.toList := by
  have hi' : i < (arrOf st).size := by rw [h.size]; exact hi
  exact ⟨(arrOf st)[i], getElem?_pos _ i hi', (Array.perm_iff_toList_perm.mp h.perm).mem_iff.mp (by simp)⟩
theorem Bs.inj {st : SortSt} (h : Bs κ a₀ st) (hn : (a₀.toList.map rk).Nodup) {i j : Nat} (hi : i < a₀.size) (hj : j < a₀.size) (ne : i ≠ j) : R rk (arrOf st) i ≠ R rk (arrOf st) j := by
  have hn' : ((arrOf st).toList.map rk).Nodup := ((Array.perm_iff_toList_perm.mp h.perm).map rk).nodup_iff.mpr hn
  have hi' : i < (arrOf st).size := by rw [h.size]; exact hi
  have hj' : j < (arrOf st).size := by rw [h.size]; exact hj
  rw [R_at (getElem?_pos (arrOf st) i hi'), R_at (getElem?_pos (arrOf st) j hj')]
  intro e
  have P := List.pairwise_iff_getElem.mp hn'
  have li : i < ((arrOf st).toList.map rk).length := by rw [List.length_map]; exact hi'
  have lj : j < ((arrOf st).toList.map rk).length := by rw [List.length_map]; exact hj'
  have gi : ((arrOf st).toList.map rk)[i] = rk (arrOf st)[i] := by simp
  have gj : ((arrOf st).toList.map rk)[j] = rk (arrOf st)[j] := by simp
  rcases Nat.lt_or_gt_of_ne ne with q | q
  · exact P i j li lj q (by rw [gi, gj]; exact e)
  · exact P j i lj li q (by rw [gi, gj]; exact e.symm)
def So (rk : Keyed → Nat) (a : Array Keyed) (i j : Nat) : Prop := ∀ x y, i ≤ x → x < y → y < j → R rk a x < R rk a y
def Dn (rk : Keyed → Nat) (a : Array Keyed) (i j : Nat) : Prop := ∀ x y, i ≤ x → x < y → y < j → R rk a y < R rk a x
theorem So.snoc {a : Array Keyed} {i j : Nat} (h : So rk a i j) (hij : i < j) (e : R rk a (j - 1) < R rk a j) : So rk a i (j + 1) := by
  intro x y h1 h2 h3
  by_cases ey : y = j
  · subst ey
    by_cases ex : x = y - 1
    · subst ex; exact e
    · exact Nat.lt_trans (h x (y - 1) h1 (by omega) (by omega)) e
  · exact h x y h1 h2 (by omega)
theorem Dn.snoc {a : Array Keyed} {i j : Nat} (h : Dn rk a i j) (hij : i < j) (e : R rk a j < R rk a (j - 1)) : Dn rk a i (j + 1) := by
  intro x y h1 h2 h3
  by_cases ey : y = j
  · subst ey
    by_cases ex : x = y - 1
    · subst ex; exact e
    · exact Nat.lt_trans e (h x (y - 1) h1 (by omega) (by omega))
  · exact h x y h1 h2 (by omega)
theorem So.one (a : Array Keyed) (i : Nat) : So rk a i (i + 1) := fun x y h1 h2 h3 => by omega
theorem Dn.one (a : Array Keyed) (i : Nat) : Dn rk a i (i + 1) := fun x y h1 h2 h3 => by omega
theorem R_mirror {a : Array Keyed} {i j : Nat} (hj : j ≤ a.size) (k : Nat) : R rk (mirror a i j ((j - i) / 2)) k = if i ≤ k ∧ k < j then R rk a (i + j - 1 - k) else R rk a k := by
  have e := getElem?_mirror_all (i := i) hj k
  by_cases h1 : i ≤ k ∧ k < j
  · rw [if_pos h1] at e ⊢; exact R_congr e
  · rw [if_neg h1] at e ⊢; exact R_congr e
theorem Dn.turned {a : Array Keyed} {i j : Nat} (h : Dn rk a i j) (hj : j ≤ a.size) : So rk (mirror a i j ((j - i) / 2)) i j := by
  intro x y h1 h2 h3
  rw [R_mirror hj, R_mirror hj, if_pos ⟨h1, by omega⟩, if_pos ⟨by omega, h3⟩]
  exact h _ _ (by omega) (by omega) (by omega)
def Out (a b : Array Keyed) (i j : Nat) : Prop := ∀ k, (k < i ∨ j ≤ k) → b[k]? = a[k]?
end
end TS
end
section
set_option Elab.async false
set_option linter.all false
set_option maxRecDepth 100000
namespace TS
open PySem PyProof.Rows
section
variable {prog : Program} {w : World} {A : Around} {E : Value → Shared → Prop} {s : Shared} {κ : SortKind} {rk : Keyed → Nat} {a₀ : Array Keyed}
theorem Bs.ne {st : SortSt} (h : Bs κ a₀ st) (hn : (a₀.toList.map rk).Nodup) {i j : Nat} (hi : i < a₀.size) (hj : j < a₀.size) (e : i ≠ j) (hc : ¬ R rk (arrOf st) i < R rk (arrOf st) j) : R rk (arrOf st) j < R rk (arrOf st) i := by
  have := h.inj hn hi hj e
  omega
end
end TS
end
section
set_option Elab.async false
set_option linter.all false
set_option maxRecDepth 100000
namespace TS
open PySem PyProof.Rows
section
variable {prog : Program} {w : World} {A : Around} {E : Value → Shared → Prop} {s : Shared} {κ : SortKind} {rk : Keyed → Nat} {a₀ : Array Keyed}
def Pp (rk : Keyed → Nat) (left : Bool) (key : Keyed) (arr : Array Keyed) (base i : Nat) : Prop := if left = true then R rk arr (base + i) < rk key else R rk arr (base + i) ≤ rk key
instance {left : Bool} {key : Keyed} {arr : Array Keyed} {base i : Nat} : Decidable (Pp rk left key arr base i) := by unfold Pp; exact inferInstance
end
end TS
end
section
set_option Elab.async false
set_option linter.all false
set_option maxRecDepth 100000
namespace TS
open PySem PyProof.Rows
section
variable {rk : Keyed → Nat}
def SL (rk : Keyed → Nat) (l : List Keyed) : Prop := l.Pairwise fun x y => rk x < rk y
structure Mg (rk : Keyed → Nat) (ra rb out T : List Keyed) : Prop where
  perm : (out ++ (ra ++ rb)).Perm T
  so : SL rk out
  sa : SL rk ra
  sb : SL rk rb
  lt : ∀ x ∈ out, ∀ y ∈ ra ++ rb, rk x < rk y
theorem SL.R {a : Array Keyed} (h : SL rk a.toList) {i j : Nat} (hij : i < j) (hj : j < a.size) : R rk a i < R rk a j := by
  have := List.pairwise_iff_getElem.mp h i j (by rw [Array.length_toList]; omega) (by rw [Array.length_toList]; omega) hij
  rw [R_at (getElem?_pos a i (by omega)), R_at (getElem?_pos a j hj)]
  simpa using this
theorem SL.le {a : Array Keyed} (h : SL rk a.toList) {i j : Nat} (hij : i ≤ j) (hj : j < a.size) : TS.R rk a i ≤ TS.R rk a j := by
  rcases Nat.lt_or_eq_of_le hij with e | e
  · exact Nat.le_of_lt (h.R e hj)
  · rw [e]; exact Nat.le_refl _
end
end TS
end
section
set_option Elab.async false
set_option linter.all false
set_option maxRecDepth 100000
namespace TS
open PySem PyProof.Rows
section
variable {prog : Program} {w : World} {A : Around} {E : Value → Shared → Prop} {s : Shared} {κ : SortKind} {rk : Keyed → Nat} {a₀ : Array Keyed}
structure Sm (κ : SortKind) (st st' : SortSt) : Prop where
  kind : kindOf st' = κ
  arr : arrOf st' = arrOf st
  pend : pendingOf st' = pendingOf st
  failed : failedOf st' = failedOf st
theorem Sm.refl {st : SortSt} (h : kindOf st = κ) : Sm κ st st := ⟨h, rfl, rfl, rfl⟩
theorem nb {x y : Nat} (h : ¬ (x == y) = true) : x ≠ y := fun z => h (beq_of_eq z)
structure Lo (rk : Keyed → Nat) (a b out : Array Keyed) (ia ib : Nat) : Prop where
  mg : Mg rk (a.toList.drop ia) (b.toList.drop ib) out.toList (a.toList ++ b.toList)
  ia : ia + 1 < a.size
  ib : ib < b.size
end
end TS
end
section
set_option Elab.async false
set_option linter.all false
set_option maxRecDepth 100000
namespace TS
open PySem PyProof.Rows
structure Mh (rk : Keyed → Nat) (ra rb o T : List Keyed) : Prop where
  perm : ((ra ++ rb) ++ o).Perm T
  so : SL rk o
  sa : SL rk ra
  sb : SL rk rb
  lt : ∀ x ∈ ra ++ rb, ∀ y ∈ o, rk x < rk y
section
variable {rk : Keyed → Nat}
end
section
variable {prog : Program} {w : World} {A : Around} {E : Value → Shared → Prop} {s : Shared} {κ : SortKind} {rk : Keyed → Nat} {a₀ : Array Keyed}
structure Hi (rk : Keyed → Nat) (a b out : Array Keyed) (na nb : Nat) : Prop where
  mg : Mh rk (a.toList.take na) (b.toList.take nb) out.toList.reverse (a.toList ++ b.toList)
  n1 : 1 ≤ na
  n2 : 2 ≤ nb
  n3 : na ≤ a.size
  n4 : nb ≤ b.size
end
end TS
end
section
set_option Elab.async false
set_option linter.all false
set_option maxRecDepth 100000
namespace TS
open PySem PyProof.Rows
section
variable {rk : Keyed → Nat}
theorem R_ext {a : Array Keyed} {i j p : Nat} (h : i + p < j) (hj : j ≤ a.size) : R rk (a.extract i j) p = R rk a (i + p) := by
  refine R_congr ?_
  rw [Array.getElem?_extract, if_pos (by omega)]
theorem So.ext {a : Array Keyed} {i j : Nat} (h : So rk a i j) (hj : j ≤ a.size) : SL rk (a.extract i j).toList := by
  refine List.pairwise_iff_getElem.mpr fun p q hp hq hpq => ?_
  rw [Array.length_toList, Array.size_extract] at hp hq
  have e := h (i + p) (i + q) (by omega) (by omega) (by omega)
  rw [R_at (getElem?_pos a (i + p) (by omega)), R_at (getElem?_pos a (i + q) (by omega))] at e
  simpa using e
end
section
variable {prog : Program} {w : World} {A : Around} {E : Value → Shared → Prop} {s : Shared} {κ : SortKind} {rk : Keyed → Nat} {a₀ : Array Keyed}
end
end TS
end
section
set_option Elab.async false
set_option linter.all false
set_option maxRecDepth 100000
namespace TS
open PySem PyProof.Rows
section
variable {rk : Keyed → Nat}
def Rn (rk : Keyed → Nat) (a : Array Keyed) : List (Nat × Nat × Nat) → Nat → Nat → Prop
  | [], x, y => x = y
  | e :: r, x, y => e.1 = x ∧ 1 ≤ e.2.1 ∧ So rk a x (x + e.2.1) ∧ Rn rk a r (x + e.2.1) y
theorem Rn.len {a : Array Keyed} : ∀ {l : List (Nat × Nat × Nat)} {x y : Nat}, Rn rk a l x y → x + l.length ≤ y
  | [], x, y, h => by rw [show x = y from h]; exact Nat.le_refl _
  | e :: l, x, y, ⟨_, h2, _, h4⟩ => by
    have := Rn.len h4
    rw [List.length_cons]
    omega
theorem So.congr {a b : Array Keyed} {x y : Nat} (h : So rk a x y) (hc : ∀ k, x ≤ k → k < y → R rk b k = R rk a k) : So rk b x y := fun p q h1 h2 h3 => by
  rw [hc p h1 (by omega), hc q (by omega) h3]
  exact h p q h1 h2 h3
theorem Rn.congr {a b : Array Keyed} : ∀ {l : List (Nat × Nat × Nat)} {x y : Nat}, Rn rk a l x y → (∀ k, x ≤ k → k < y → R rk b k = R rk a k) → Rn rk b l x y
  | [], x, y, h, _ => h
  | e :: l, x, y, ⟨h1, h2, h3, h4⟩, hc => by
    have := h4.len
    exact ⟨h1, h2, h3.congr fun k k1 k2 => hc k k1 (by omega), h4.congr fun k k1 k2 => hc k (by omega) k2⟩
end
section
variable {prog : Program} {w : World} {A : Around} {E : Value → Shared → Prop} {s : Shared} {κ : SortKind} {rk : Keyed → Nat} {a₀ : Array Keyed}
end
end TS
end
section
set_option Elab.async false
set_option linter.all false
set_option maxRecDepth 100000
namespace TS
open PySem PySem.W PyProof.Rows HT Srt
section
variable {prog : Program} {w : World} {A : Around} {E : Value → Shared → Prop} {s : Shared} {vs : List Value} {ks : List (List Int)} {d : Nat}
open Classical in
end
end TS
end
section
set_option Elab.async false
set_option linter.all false
set_option maxRecDepth 100000
namespace Srt
open PySem PySem.W PyProof.Rows HT
section
variable {prog : Program} {w : World} {A : Around} {E : Value → Shared → Prop} {s : Shared}
end
end Srt
end
section
set_option Elab.async false
set_option linter.all false
set_option maxRecDepth 100000
namespace DL
open PySem L2 PyProof.Rows
variable {K : PySem.W.Frag}
def tupK (k : List Int) : PyData := .tuple (k.map .int)
end DL
end
section
set_option Elab.async false
set_option linter.all false
set_option maxRecDepth 100000
namespace DL
open PySem L2
variable {K : PySem.W.Frag}
abbrev DO := DS → Option (Option Int × DS)
structure OO (K : PySem.W.Frag) (t : TO) (f : DO) : Prop where
  like : ∀ τ b τ', f τ = some (b, τ') → Like τ τ'
  run : ∀ S M τ σ H (Q : Option Int → Hp → Prop) b τ', R K S M τ σ H → f τ = some (b, τ') → (∀ H', R K S M τ' σ H' → Chg M H H' → Q b H') → t σ H Q
def dNoP : DO := fun τ => some (none, τ)
def dPt (f : DX) : DO := fun τ => (f τ).bind fun p => match p.1 with
  | .int i => some (some i, p.2)
  | _ => none
theorem o_nop : OO K tNoPart dNoP := ⟨fun τ b τ' e => by cases e; exact Like.refl, fun S M τ σ H Q b τ' r e q => by cases e; exact q H r Chg.refl⟩
theorem o_pt {fr : Bool} {t : TE} {f : DX} (h : E K t fr f) : OO K (tPart t) (dPt f) := by
  refine ⟨fun τ b τ' e => ?_, ?_⟩
  · unfold dPt at e
    obtain ⟨⟨x, τ1⟩, e1, e⟩ := Option.bind_eq_some_iff.mp e
    dsimp only at e
    split at e
    · cases e; exact h.like _ _ _ e1
    · cases e
  intro S M τ σ H Q b τ' r e q
  unfold dPt at e
  obtain ⟨⟨x, τ1⟩, e1, e⟩ := Option.bind_eq_some_iff.mp e
  dsimp only at e
  split at e
  · rename_i i
    cases e
    refine h.run S M τ σ H _ _ _ r e1 fun v H' r' c iv => ?_
    exact ⟨i, (show v = .int i from r.isr iv), q H' r' c⟩
  · cases e
def cutD (xs : List PyData) (lo hi : Option Int) : List PyData := (xs.drop (HT.sIx xs.length 0 lo)).take (HT.sIx xs.length xs.length hi - HT.sIx xs.length 0 lo)
theorem isl_drop {H : Hp} : ∀ {xs : List PyData} {vs : List V} (n : Nat), IsL K H xs vs → IsL K H (xs.drop n) (vs.drop n)
  | _, _, 0, h => h
  | [], _, n + 1, h => by rw [show _ = [] from h]; rfl
  | x :: xs, _, n + 1, ⟨v, us, e, _, l⟩ => by subst e; exact isl_drop n l
theorem isl_take {H : Hp} : ∀ {xs : List PyData} {vs : List V} (n : Nat), IsL K H xs vs → IsL K H (xs.take n) (vs.take n)
  | _, _, 0, h => rfl
  | [], _, n + 1, h => by rw [show _ = [] from h]; rfl
  | x :: xs, _, n + 1, ⟨v, us, e, i, l⟩ => by subst e; exact ⟨v, _, rfl, i, isl_take n l⟩
theorem isl_cut {H : Hp} {xs : List PyData} {vs : List V} {lo hi : Option Int} (h : IsL K H xs vs) : IsL K H (cutD xs lo hi) (cutV vs lo hi) := by
  unfold cutD cutV
  rw [h.length]
  exact isl_take _ (isl_drop _ h)
def dSl (f : DX) (lo hi : DO) (τ : DS) : Option (PyData × DS) := (f τ).bind fun p => (lo p.2).bind fun l => (hi l.2).bind fun u => match p.1 with
  | .list xs => some (.list (cutD xs l.1 u.1), u.2)
  | _ => none
theorem e_sl {fr : Bool} {te : TE} {tl th : TO} {f : DX} {lo hi : DO} (h : E K te fr f) (hl : OO K tl lo) (hh : OO K th hi) : E K (tSl (rSlL K) te tl th) true (dSl f lo hi) := by
  refine ⟨fun τ d τ' e => ?_, ?_⟩
  · unfold dSl at e
    obtain ⟨⟨x, τ1⟩, e1, e⟩ := Option.bind_eq_some_iff.mp e
    obtain ⟨⟨l, τ2⟩, e2, e⟩ := Option.bind_eq_some_iff.mp e
    obtain ⟨⟨u, τ3⟩, e3, e⟩ := Option.bind_eq_some_iff.mp e
    dsimp only at e
    split at e
    · cases e; exact ((h.like _ _ _ e1).trans (hl.like _ _ _ e2)).trans (hh.like _ _ _ e3)
    · cases e
  intro S M τ σ H Q d τ' r e q
  unfold dSl at e
  obtain ⟨⟨x, τ1⟩, e1, e⟩ := Option.bind_eq_some_iff.mp e
  obtain ⟨⟨l, τ2⟩, e2, e⟩ := Option.bind_eq_some_iff.mp e
  obtain ⟨⟨u, τ3⟩, e3, e⟩ := Option.bind_eq_some_iff.mp e
  dsimp only at e e2 e3
  cases x with
  | list xs =>
    cases e
    refine h.run S M τ σ H _ _ _ r e1 fun v1 H1 r1 c1 i1 => ?_
    refine hl.run S M τ1 σ H1 _ _ _ r1 e2 fun H2 r2 c2 => ?_
    refine hh.run S M τ2 σ H2 _ _ _ r2 e3 fun H3 r3 c3 => ?_
    have i1' : Is K (hid S H3) (.list xs) v1 := ((r.isr i1).mono (c2.keep r1.sub).same).mono (c3.keep r2.sub).same
    obtain ⟨a, vs, rfl, ha, la⟩ := i1'
    refine ⟨a, vs, rfl, SqL.of (hid_iff.mp ha).2, fun p hp => ?_⟩
    have s := same_new hp (HO.lst (cutV vs l u))
    exact q _ _ (r3.same s) (((c1.trans c2).trans c3).trans (.of s)) ((res_new hp (isl_cut la)).back r3 ((c1.trans c2).trans c3))
  | _ => cases e
end DL
end
section
set_option Elab.async false
set_option linter.all false
set_option maxRecDepth 100000
namespace L2
open PySem PySem.Spec PyProof.Rows
section
variable {X : Cx} {pins : List (Addr × Obj)} {σ : L2.St} {H : Hp} {s : Shared}
end
section
variable {X : Cx} {elts : List Expr} {tp : Pos}
end
end L2
end
section
set_option Elab.async false
set_option linter.all false
set_option maxRecDepth 100000
namespace DL
open PySem L2
variable {K : PySem.W.Frag}
def ItIs2 (K : PySem.W.Frag) (S : Addr → Prop) (J : It) (H : Hp) (ds : List PyData) : Prop := ∀ (S2 : Addr → Prop) (H2 : Hp), Keep S H S2 H2 → (∀ a, H2 a = none → ¬ S2 a) → (∀ (i : Nat) (d : PyData), ds[i]? = some d → J.go i H2 ∧ ∀ x H3, J.yld i H2 x H3 → Same H2 H3 ∧ Is K (hid S2 H3) d x) ∧ ∀ i, ds.length ≤ i → J.stop i H2
structure IT2 (K : PySem.W.Frag) (wi : TI) (f : DI) : Prop where
  like : ∀ τ ds τ', f τ = some (ds, τ') → Like τ τ'
  run : ∀ S M τ σ H (Q : It → Hp → Prop) ds τ', R K S M τ σ H → f τ = some (ds, τ') → (∀ J H', R K S M τ' σ H' → Chg M H H' → ItIs2 K S J H' ds → Q J H') → wi σ H Q
end DL
end
section
set_option Elab.async false
set_option linter.all false
set_option maxRecDepth 100000
namespace DL
open PySem L2 PyProof.Rows
variable {K : PySem.W.Frag}
end DL
end
section
set_option Elab.async false
set_option linter.all false
set_option maxRecDepth 100000
namespace DL
open PySem L2
variable {K : PySem.W.Frag}
end DL
end
section
set_option Elab.async false
set_option linter.all false
namespace Stb
open PySem
def F : Nat → Nat → Nat
  | 0, x => x
  | n + 1, x => F n (5 * x + 1)
theorem F_add : ∀ (a b x : Nat), F (a + b) x = F b (F a x)
  | 0, b, x => by rw [Nat.zero_add]; rfl
  | a + 1, b, x => by rw [show a + 1 + b = (a + b) + 1 by omega]; exact F_add a b _
theorem F4 : ∀ (n x : Nat), 4 * F n x + 1 = 5 ^ n * (4 * x + 1)
  | 0, x => by simp [F]
  | n + 1, x => by
    rw [F, F4 n, Nat.pow_succ, Nat.mul_assoc]
    congr 1
    omega
theorem five : ∀ k : Nat, ∃ q, 5 ^ (2 ^ k) = 1 + 2 ^ k * (4 * (2 * q + 1))
  | 0 => ⟨0, by decide⟩
  | k + 1 => by
    obtain ⟨q, e⟩ := five k
    refine ⟨q + 2 ^ k * ((2 * q + 1) * (2 * q + 1)), ?_⟩
    rw [Nat.pow_succ 2 k, Nat.pow_mul, e]
    generalize 2 ^ k = P
    grind
theorem F2k (k z : Nat) : ∃ r, F (2 ^ k) z = z + 2 ^ k * (2 * r + 1) := by
  obtain ⟨q, e⟩ := five k
  have h := F4 (2 ^ k) z
  rw [e] at h
  refine ⟨4 * q * z + q + 2 * z, ?_⟩
  generalize 2 ^ k = P at *
  generalize F P z = f at *
  grind
theorem hit : ∀ (k x y : Nat), ∃ n, n < 2 ^ k ∧ F n x % 2 ^ k = y % 2 ^ k
  | 0, x, y => ⟨0, by decide, by simp [Nat.mod_one]⟩
  | k + 1, x, y => by
    obtain ⟨n, hn, e⟩ := hit k x y
    have hp : 2 ^ (k + 1) = 2 ^ k + 2 ^ k := by rw [Nat.pow_succ]; omega
    by_cases c : F n x % 2 ^ (k + 1) = y % 2 ^ (k + 1)
    · exact ⟨n, by omega, c⟩
    · refine ⟨n + 2 ^ k, by omega, ?_⟩
      rw [F_add]
      obtain ⟨r, er⟩ := F2k k (F n x)
      rw [er]
      have h1 : F n x % 2 ^ (k + 1) % 2 ^ k = y % 2 ^ (k + 1) % 2 ^ k := by
        rw [Nat.mod_mod_of_dvd _ ⟨2, by rw [Nat.pow_succ]⟩, Nat.mod_mod_of_dvd _ ⟨2, by rw [Nat.pow_succ]⟩]; exact e
      have e2 : F n x + 2 ^ k * (2 * r + 1) = F n x + 2 ^ k + 2 ^ (k + 1) * r := by
        rw [hp]; generalize 2 ^ k = P; grind
      rw [e2, Nat.add_mul_mod_self_left, Nat.add_mod]
      have hP : 0 < 2 ^ k := Nat.pow_pos (by decide)
      rw [hp] at *
      generalize 2 ^ k = P at *
      have l1 := Nat.mod_lt (F n x) (show P + P > 0 by omega)
      have l2 := Nat.mod_lt y (show P + P > 0 by omega)
      generalize F n x % (P + P) = a at *
      generalize y % (P + P) = b at *
      rw [Nat.mod_eq_of_lt (show P < P + P by omega)]
      have m1 := Nat.div_add_mod a P
      have m2 := Nat.div_add_mod b P
      rw [h1] at m1
      have d1 : a / P < 2 := Nat.div_lt_of_lt_mul (show a < P * 2 by rw [Nat.mul_two]; exact l1)
      have d2 : b / P < 2 := Nat.div_lt_of_lt_mul (show b < P * 2 by rw [Nat.mul_two]; exact l2)
      generalize a / P = u at *
      generalize b / P = v at *
      generalize b % P = w at *
      have c1 : u = 0 ∨ u = 1 := by omega
      have c2 : v = 0 ∨ v = 1 := by omega
      rcases c1 with c1 | c1 <;> rcases c2 with c2 | c2 <;> rw [c1] at m1 <;> rw [c2] at m2 <;> simp only [Nat.mul_zero, Nat.mul_one, Nat.zero_add] at m1 m2
      · exact absurd (m1.symm.trans m2) c
      · rw [Nat.mod_eq_of_lt (by omega)]; omega
      · rw [show a + P = b + (P + P) by omega, Nat.add_mod_right, Nat.mod_eq_of_lt (by omega)]
      · exact absurd (m1.symm.trans m2) c
end Stb
end
section
set_option Elab.async false
set_option linter.all false
namespace Stb
open PySem SetTable
def st (m : Nat) (h : Int) : Probe := { j := bits h % (m + 1), more := runEnd m (bits h % (m + 1)) - bits h % (m + 1), i := bits h % (m + 1), perturb := bits h, dummy := none }
def ad (m : Nat) (p : Probe) : Probe :=
  if p.more > 0 then { p with j := p.j + 1, more := p.more - 1 } else
  { p with j := (leap m p.i p.perturb).1, more := runEnd m (leap m p.i p.perturb).1 - (leap m p.i p.perturb).1, i := (leap m p.i p.perturb).1, perturb := (leap m p.i p.perturb).2 }
def it (m : Nat) (h : Int) : Nat → Probe
  | 0 => st m h
  | n + 1 => ad m (it m h n)
def pt (m : Nat) (h : Int) (n : Nat) : Nat := (it m h n).j
theorem runEnd_le {m i : Nat} (h : i ≤ m) : runEnd m i ≤ m := by unfold runEnd; split <;> omega
theorem le_runEnd {m i : Nat} : i ≤ runEnd m i := by unfold runEnd; split <;> omega
theorem runEnd_9 {m i : Nat} : runEnd m i ≤ i + 9 := by unfold runEnd; split <;> omega
theorem leap_le (m i p : Nat) : (leap m i p).1 ≤ m := Nat.le_of_lt_succ (Nat.mod_lt _ (Nat.succ_pos m))
structure Okp (m : Nat) (p : Probe) : Prop where
  i : p.i ≤ m
  j : p.j + p.more = runEnd m p.i
  d : p.dummy = none
theorem okp_st (m : Nat) (h : Int) : Okp m (st m h) := by
  have e : bits h % (m + 1) ≤ m := Nat.le_of_lt_succ (Nat.mod_lt _ (Nat.succ_pos m))
  refine ⟨e, ?_, rfl⟩
  have := @le_runEnd m (bits h % (m + 1))
  show bits h % (m + 1) + (runEnd m (bits h % (m + 1)) - bits h % (m + 1)) = _
  show _ = runEnd m (bits h % (m + 1))
  omega
theorem okp_ad {m : Nat} {p : Probe} (o : Okp m p) : Okp m (ad m p) := by
  unfold ad
  by_cases c : p.more > 0
  · rw [if_pos c]
    refine ⟨o.i, ?_, o.d⟩
    have := o.j
    show p.j + 1 + (p.more - 1) = runEnd m p.i
    omega
  · rw [if_neg c]
    refine ⟨leap_le _ _ _, ?_, o.d⟩
    have := @le_runEnd m (leap m p.i p.perturb).1
    show (leap m p.i p.perturb).1 + (runEnd m (leap m p.i p.perturb).1 - (leap m p.i p.perturb).1) = runEnd m (leap m p.i p.perturb).1
    omega
theorem okp_it (m : Nat) (h : Int) : ∀ n, Okp m (it m h n)
  | 0 => okp_st m h
  | n + 1 => okp_ad (okp_it m h n)
theorem pt_le (m : Nat) (h : Int) (n : Nat) : pt m h n ≤ m := by
  have o := okp_it m h n
  have := runEnd_le o.i
  have := o.j
  unfold pt; omega
def R (m : Nat) (h : Int) : Nat → Nat × Nat
  | 0 => (bits h % (m + 1), bits h)
  | r + 1 => leap m (R m h r).1 (R m h r).2
def rd (m : Nat) (x : Nat × Nat) (k : Nat) : Probe := { j := x.1 + k, more := runEnd m x.1 - x.1 - k, i := x.1, perturb := x.2, dummy := none }
def N (m : Nat) (h : Int) : Nat → Nat
  | 0 => 0
  | r + 1 => N m h r + (runEnd m (R m h r).1 - (R m h r).1) + 1
theorem R_le (m : Nat) (h : Int) : ∀ r, (R m h r).1 ≤ m
  | 0 => Nat.le_of_lt_succ (Nat.mod_lt _ (Nat.succ_pos m))
  | r + 1 => leap_le _ _ _
theorem in_round {m : Nat} {h : Int} {n : Nat} {x : Nat × Nat} (e : it m h n = rd m x 0) : ∀ k, k ≤ runEnd m x.1 - x.1 → it m h (n + k) = rd m x k
  | 0, _ => e
  | k + 1, hk => by
    show ad m (it m h (n + k)) = _
    rw [in_round e k (by omega)]
    unfold ad rd
    rw [if_pos (by show runEnd m x.1 - x.1 - k > 0; omega)]
    show Probe.mk (x.1 + k + 1) (runEnd m x.1 - x.1 - k - 1) x.1 x.2 none = Probe.mk (x.1 + (k + 1)) (runEnd m x.1 - x.1 - (k + 1)) x.1 x.2 none
    rw [Nat.sub_sub, Nat.add_assoc]
theorem it_N (m : Nat) (h : Int) : ∀ r, it m h (N m h r) = rd m (R m h r) 0
  | 0 => rfl
  | r + 1 => by
    show ad m (it m h (N m h r + (runEnd m (R m h r).1 - (R m h r).1))) = _
    rw [in_round (it_N m h r) _ (Nat.le_refl _)]
    unfold ad rd
    rw [if_neg (by show ¬ (runEnd m (R m h r).1 - (R m h r).1 - (runEnd m (R m h r).1 - (R m h r).1) > 0); omega)]
    rfl
theorem pt_N (m : Nat) (h : Int) (r : Nat) : pt m h (N m h r) = (R m h r).1 := by unfold pt; rw [it_N]; rfl
theorem pt_round {m : Nat} {h : Int} {r k : Nat} (hk : k ≤ runEnd m (R m h r).1 - (R m h r).1) : pt m h (N m h r + k) = (R m h r).1 + k := by
  unfold pt; rw [in_round (it_N m h r) k hk]; rfl
theorem N_le (m : Nat) (h : Int) : ∀ r, N m h r ≤ 10 * r
  | 0 => Nat.le_refl _
  | r + 1 => by
    have a := N_le m h r
    have b := @runEnd_9 m (R m h r).1
    have c := @le_runEnd m (R m h r).1
    show N m h r + (runEnd m (R m h r).1 - (R m h r).1) + 1 ≤ _
    omega
theorem R_two (m : Nat) (h : Int) : ∀ r, (R m h r).2 = bits h / 32 ^ r
  | 0 => by show bits h = _; simp
  | r + 1 => by
    show (R m h r).2 / 32 = _
    rw [R_two m h r, Nat.div_div_eq_div_mul, Nat.pow_succ]
theorem bits_lt (h : Int) : bits h < 2 ^ 64 := by
  unfold bits
  have a := Int.emod_nonneg h (show (2 ^ 64 : Int) ≠ 0 by decide)
  have b := Int.emod_lt_of_pos h (show (0 : Int) < 2 ^ 64 by decide)
  have : (2 : Int) ^ 64 = 18446744073709551616 := by decide
  have : (2 : Nat) ^ 64 = 18446744073709551616 := by decide
  omega
theorem R_zero (m : Nat) (h : Int) (n : Nat) : (R m h (13 + n)).2 = 0 := by
  rw [R_two]
  refine Nat.div_eq_of_lt (Nat.lt_of_lt_of_le (bits_lt h) ?_)
  rw [Nat.pow_add]
  exact Nat.le_trans (by decide) (Nat.le_mul_of_pos_right _ (Nat.pow_pos (by decide)))
theorem F_succ (n x : Nat) : F (n + 1) x = 5 * F n x + 1 := by rw [F_add n 1]; rfl
theorem R_tail (m : Nat) (h : Int) : ∀ n, (R m h (12 + n)).1 = F n (R m h 12).1 % (m + 1)
  | 0 => by
    show (R m h 12).1 = (R m h 12).1 % (m + 1)
    rw [Nat.mod_eq_of_lt (Nat.lt_succ_of_le (R_le m h 12))]
  | n + 1 => by
    have z := R_zero m h n
    rw [show 13 + n = (12 + n) + 1 by omega] at z
    have z : (R m h (12 + n)).2 / 32 = 0 := z
    show ((R m h (12 + n)).1 * 5 + 1 + (R m h (12 + n)).2 / 32) % (m + 1) = _
    rw [z, R_tail m h n, F_succ, Nat.add_zero, Nat.mul_comm 5, Nat.add_mod, Nat.mul_mod, Nat.mod_mod, ← Nat.mul_mod, ← Nat.add_mod]
theorem round_hit {m k : Nat} (hm : m + 1 = 2 ^ k) (h : Int) {y : Nat} (hy : y ≤ m) : ∃ r, r ≤ 12 + m ∧ (R m h r).1 = y := by
  obtain ⟨n, hn, e⟩ := hit k (R m h 12).1 y
  refine ⟨12 + n, by omega, ?_⟩
  rw [R_tail, hm, e]
  exact Nat.mod_eq_of_lt (by omega)
theorem pt_hit {m k : Nat} (hm : m + 1 = 2 ^ k) (h : Int) {y : Nat} (hy : y ≤ m) : ∃ n, n ≤ 10 * (m + 12) ∧ pt m h n = y := by
  obtain ⟨r, hr, e⟩ := round_hit hm h hy
  refine ⟨N m h r, ?_, (pt_N m h r).trans e⟩
  have := N_le m h r
  omega
end Stb
end
section
set_option Elab.async false
set_option linter.all false
namespace Stb
open PySem SetTable
def Rising (xs : Array Nat) : Prop := xs.toList.Pairwise (· < ·)
theorem Rising.lt {xs : Array Nat} (r : Rising xs) {a b : Nat} (hab : a < b) (hb : b < xs.size) : xs.getD a 0 < xs.getD b 0 := by
  have P := List.pairwise_iff_getElem.mp r a b (by simpa using Nat.lt_trans hab hb) (by simpa using hb) hab
  have ha := Nat.lt_trans hab hb
  simpa [Array.getD, ha, hb] using P
theorem below_go {xs : Array Nat} (r : Rising xs) (j : Nat) : ∀ (f lo hi : Nat), lo ≤ hi → hi ≤ xs.size → hi - lo ≤ f → (∀ a, a < lo → xs.getD a 0 < j) → (∀ a, hi ≤ a → a < xs.size → j ≤ xs.getD a 0) →
    below.go xs j f lo hi ≤ xs.size ∧ (∀ a, a < below.go xs j f lo hi → xs.getD a 0 < j) ∧ (∀ a, below.go xs j f lo hi ≤ a → a < xs.size → j ≤ xs.getD a 0)
  | 0, lo, hi, h1, h2, h3, h4, h5 => by
    have : lo = hi := by omega
    subst this
    exact ⟨h2, h4, h5⟩
  | f + 1, lo, hi, h1, h2, h3, h4, h5 => by
    unfold below.go
    by_cases c : lo < hi
    · rw [if_pos c]
      show (if xs.getD ((lo + hi) / 2) j < j then below.go xs j f ((lo + hi) / 2 + 1) hi else below.go xs j f lo ((lo + hi) / 2)) ≤ _ ∧ (∀ a, a < (if xs.getD ((lo + hi) / 2) j < j then below.go xs j f ((lo + hi) / 2 + 1) hi else below.go xs j f lo ((lo + hi) / 2)) → _) ∧ (∀ a, (if xs.getD ((lo + hi) / 2) j < j then below.go xs j f ((lo + hi) / 2 + 1) hi else below.go xs j f lo ((lo + hi) / 2)) ≤ a → _)
      have hm : (lo + hi) / 2 < xs.size := by omega
      have e : xs.getD ((lo + hi) / 2) j = xs.getD ((lo + hi) / 2) 0 := by simp [Array.getD, hm]
      rw [e]
      by_cases d : xs.getD ((lo + hi) / 2) 0 < j
      · rw [if_pos d]
        refine below_go r j f _ hi (by omega) h2 (by omega) (fun a ha => ?_) h5
        rcases Nat.lt_or_ge a ((lo + hi) / 2) with q | q
        · exact Nat.lt_trans (r.lt q hm) d
        · rw [show a = (lo + hi) / 2 by omega]; exact d
      · rw [if_neg d]
        refine below_go r j f lo _ (by omega) (by omega) (by omega) h4 (fun a ha hs => ?_)
        rcases Nat.lt_or_ge ((lo + hi) / 2) a with q | q
        · have := r.lt q hs; omega
        · rw [show a = (lo + hi) / 2 by omega]; omega
    · rw [if_neg c]
      have : lo = hi := by omega
      subst this
      exact ⟨h2, h4, h5⟩
theorem below_spec {xs : Array Nat} (r : Rising xs) (j : Nat) : below xs j ≤ xs.size ∧ (∀ a, a < below xs j → xs.getD a 0 < j) ∧ (∀ a, below xs j ≤ a → a < xs.size → j ≤ xs.getD a 0) :=
  below_go r j xs.size 0 xs.size (Nat.zero_le _) (Nat.le_refl _) (by omega) (fun a h => absurd h (Nat.not_lt_zero a)) (fun a h h' => absurd h (by omega))
theorem getD_get {xs : Array Nat} {a : Nat} (h : a < xs.size) : xs[a]? = some (xs.getD a 0) := by simp [Array.getD, h]
theorem below_mem {xs : Array Nat} (r : Rising xs) {j : Nat} (h : j ∈ xs.toList) : xs[below xs j]? = some j := by
  obtain ⟨a, ha, e⟩ := List.getElem_of_mem h
  have ha' : a < xs.size := by simpa using ha
  have ea : xs.getD a 0 = j := by simpa [Array.getD, ha'] using e
  obtain ⟨b1, b2, b3⟩ := below_spec r j
  have h1 : ¬ a < below xs j := fun c => by have := b2 a c; omega
  have h2 : ¬ below xs j < a := fun c => by
    have := b3 _ (Nat.le_refl _) (Nat.lt_trans c ha')
    have := r.lt c ha'
    omega
  have : below xs j = a := by omega
  rw [this, getD_get ha', ea]
theorem not_mem_below {xs : Array Nat} {j : Nat} (h : j ∉ xs.toList) : xs[below xs j]? ≠ some j := by
  intro e
  exact h (by rw [Array.mem_toList_iff]; exact Array.mem_of_getElem? e)
theorem slot_mem {t : SetTable} (r : Rising t.place) {j : Nat} (h : j ∈ t.place.toList) : t.slot j = .live (below t.place j) := by
  unfold SetTable.slot
  have := below_mem r h
  simp [this]
theorem slot_not {t : SetTable} (hd : t.dummies = #[]) {j : Nat} (h : j ∉ t.place.toList) : t.slot j = .empty := by
  unfold SetTable.slot
  have := not_mem_below h
  simp [this, hd, SetTable.has]
theorem insertAt_list {α : Type} (xs : Array α) (p : Nat) (x : α) : (insertAt xs p x).toList = xs.toList.take p ++ x :: xs.toList.drop p := by
  unfold insertAt
  simp [Array.toList_extract, List.extract]
  exact List.take_of_length_le (by simp)
theorem mem_insertAt {α : Type} (xs : Array α) (p : Nat) (x y : α) : y ∈ (insertAt xs p x).toList ↔ y = x ∨ y ∈ xs.toList := by
  rw [insertAt_list]
  have : xs.toList = xs.toList.take p ++ xs.toList.drop p := (List.take_append_drop p _).symm
  constructor
  · intro h
    rcases List.mem_append.mp h with h | h
    · exact .inr (List.mem_of_mem_take h)
    · rcases List.mem_cons.mp h with h | h
      · exact .inl h
      · exact .inr (List.mem_of_mem_drop h)
  · rintro (h | h)
    · subst h; exact List.mem_append_right _ List.mem_cons_self
    · rw [this] at h
      rcases List.mem_append.mp h with h | h
      · exact List.mem_append_left _ h
      · exact List.mem_append_right _ (List.mem_cons_of_mem _ h)
theorem size_insertAt {α : Type} (xs : Array α) (p : Nat) (x : α) : (insertAt xs p x).size = xs.size + 1 := by
  have : (insertAt xs p x).toList.length = xs.toList.length + 1 := by
    rw [insertAt_list, List.length_append, List.length_cons]
    have := congrArg List.length (List.take_append_drop p xs.toList)
    rw [List.length_append] at this
    omega
  simpa using this
theorem perm_insertAt {α : Type} (xs : Array α) (p : Nat) (x : α) : (insertAt xs p x).toList.Perm (x :: xs.toList) := by
  rw [insertAt_list]
  refine List.perm_middle.trans ?_
  rw [List.take_append_drop]
theorem rising_insert {xs : Array Nat} (r : Rising xs) {j : Nat} (h : j ∉ xs.toList) : Rising (insertAt xs (below xs j) j) := by
  unfold Rising
  rw [insertAt_list]
  obtain ⟨b1, b2, b3⟩ := below_spec r j
  have r' : (xs.toList.take (below xs j) ++ xs.toList.drop (below xs j)).Pairwise (· < ·) := by rw [List.take_append_drop]; exact r
  obtain ⟨p1, p2, p3⟩ := List.pairwise_append.mp r'
  have lo : ∀ a ∈ xs.toList.take (below xs j), a < j := by
    intro a ha
    obtain ⟨i, hi, e⟩ := List.getElem_of_mem ha
    rw [List.length_take] at hi
    have hi' : i < xs.size := by have : i < xs.toList.length := by omega
                                 simpa using this
    have := b2 i (by omega)
    rw [List.getElem_take] at e
    have e' : xs.getD i 0 = a := by simpa [Array.getD, hi'] using e
    omega
  have hi : ∀ a ∈ xs.toList.drop (below xs j), j < a := by
    intro a ha
    obtain ⟨i, hi, e⟩ := List.getElem_of_mem ha
    rw [List.length_drop] at hi
    rw [List.getElem_drop] at e
    have hl : xs.toList.length = xs.size := by simp
    have hi' : below xs j + i < xs.size := by omega
    have := b3 (below xs j + i) (by omega) hi'
    have e' : xs.getD (below xs j + i) 0 = a := by simpa [Array.getD, hi'] using e
    have : a ≠ j := fun z => h (by rw [← z]; exact List.mem_of_mem_drop ha)
    omega
  refine List.pairwise_append.mpr ⟨p1, List.pairwise_cons.mpr ⟨hi, p2⟩, fun a ha b hb => ?_⟩
  rcases List.mem_cons.mp hb with rfl | hb
  · exact lo a ha
  · exact p3 a ha b hb
theorem len_of_subset : ∀ {xs ys : List Nat}, xs.Nodup → (∀ x ∈ xs, x ∈ ys) → xs.length ≤ ys.length
  | [], ys, _, _ => Nat.zero_le _
  | x :: xs, ys, n, s => by
    have hx := s x List.mem_cons_self
    obtain ⟨n1, n2⟩ := List.nodup_cons.mp n
    have := len_of_subset (ys := ys.erase x) n2 (fun y hy => by
      have : y ≠ x := fun e => n1 (e ▸ hy)
      exact (List.mem_erase_of_ne this).mpr (s y (List.mem_cons_of_mem _ hy)))
    rw [List.length_erase_of_mem hx] at this
    have : 0 < ys.length := List.length_pos_of_mem hx
    simp only [List.length_cons]
    omega
theorem spare {m : Nat} {ps : List Nat} (h : ps.length ≤ m) : ∃ y, y ≤ m ∧ y ∉ ps := by
  by_cases c : ∃ y, y ≤ m ∧ y ∉ ps
  · exact c
  · have : (List.range (m + 1)).length ≤ ps.length := len_of_subset List.nodup_range (fun x hx => by
      by_cases d : x ∈ ps
      · exact d
      · exact absurd ⟨x, Nat.le_of_lt_succ (List.mem_range.mp hx), d⟩ c)
    rw [List.length_range] at this
    omega
def Fst (m : Nat) (ps : List Nat) (h : Int) (n : Nat) : Prop := pt m h n ∉ ps ∧ ∀ k, k < n → pt m h k ∈ ps
theorem least {P : Nat → Prop} (h : ∃ n, P n) : ∃ n, P n ∧ ∀ k, k < n → ¬ P k := by
  obtain ⟨n, hn⟩ := h
  induction n using Nat.strongRecOn with
  | _ n ih =>
    by_cases c : ∃ k, k < n ∧ P k
    · obtain ⟨k, h1, h2⟩ := c; exact ih k h1 h2
    · exact ⟨n, hn, fun k hk hp => c ⟨k, hk, hp⟩⟩
theorem fst_ex {m k : Nat} (hm : m + 1 = 2 ^ k) {ps : List Nat} (hl : ps.length ≤ m) (h : Int) : ∃ n, n ≤ 10 * (m + 12) ∧ Fst m ps h n := by
  obtain ⟨y, hy, hn⟩ := spare hl
  obtain ⟨n, h1, h2⟩ := pt_hit hm h hy
  obtain ⟨n', h3, h4⟩ := least (P := fun n => pt m h n ∉ ps) ⟨n, by rw [h2]; exact hn⟩
  refine ⟨n', ?_, h3, fun k hk => Classical.byContradiction (h4 k hk)⟩
  rcases Nat.lt_or_ge n n' with q | q
  · exact absurd (by rw [h2]; exact hn) (h4 n q)
  · omega
end Stb
end
section
set_option Elab.async false
set_option linter.all false
namespace Stb
open PySem SetTable
def Way (m : Nat) (ps : List Nat) (h : Int) (j : Nat) : Prop := ∃ n, pt m h n = j ∧ ∀ k, k < n → pt m h k ∈ ps
theorem Way.mono {m : Nat} {ps qs : List Nat} {h : Int} {j : Nat} (w : Way m ps h j) (s : ∀ x ∈ ps, x ∈ qs) : Way m qs h j := by
  obtain ⟨n, e, a⟩ := w
  exact ⟨n, e, fun k hk => s _ (a k hk)⟩
def Msk (m : Nat) : Prop := m = 7 ∨ m = 31 ∨ m = 127 ∨ m = 511 ∨ m = 2047 ∨ m = 8191
theorem Msk.pow {m : Nat} (h : Msk m) : ∃ k, m + 1 = 2 ^ k := by
  rcases h with h | h | h | h | h | h <;> subst h
  · exact ⟨3, by decide⟩
  · exact ⟨5, by decide⟩
  · exact ⟨7, by decide⟩
  · exact ⟨9, by decide⟩
  · exact ⟨11, by decide⟩
  · exact ⟨13, by decide⟩
theorem Msk.le {m : Nat} (h : Msk m) : m ≤ 8191 := by
  rcases h with h | h | h | h | h | h <;> subst h <;> decide
theorem Msk.odd {m : Nat} (h : Msk m) : m % 2 = 1 := by
  rcases h with h | h | h | h | h | h <;> subst h <;> decide
structure Inv0 (t : SetTable) (es : Array (Int × Value)) : Prop where
  msk : Msk t.mask
  dum : t.dummies = #[]
  rise : Rising t.place
  le : ∀ j ∈ t.place.toList, j ≤ t.mask
  size : t.place.size = es.size
  room : t.place.size ≤ t.mask
  way : ∀ q ∈ t.place.toList.zip es.toList, Way t.mask t.place.toList q.2.1 q.1
structure Inv (t : SetTable) (es : Array (Int × Value)) : Prop extends Inv0 t es where
  full : t.place.size * 5 < t.mask * 3
theorem Inv0.fill {t : SetTable} {es : Array (Int × Value)} (I : Inv0 t es) : t.fill = es.size := by
  unfold SetTable.fill; rw [I.dum, I.size]; rfl
theorem probe_go {t : SetTable} (rs : Rising t.place) (hd : t.dummies = #[]) (hash : Nat → Int) {h : Int} {e : Nat} (hF : Fst t.mask t.place.toList h e) :
    ∀ (f n : Nat), n ≤ e → e - n < f →
      (probe.go t hash h f (it t.mask h n) = some (.empty (pt t.mask h e) none) ∧ ∀ k, n ≤ k → k < e → hash (below t.place (pt t.mask h k)) ≠ h) ∨
      ∃ k, n ≤ k ∧ k < e ∧ hash (below t.place (pt t.mask h k)) = h ∧ probe.go t hash h f (it t.mask h n) = some (.candidate (pt t.mask h k) (below t.place (pt t.mask h k)) (it t.mask h (k + 1))) ∧ ∀ k', n ≤ k' → k' < k → hash (below t.place (pt t.mask h k')) ≠ h
  | 0, n, h1, h2 => absurd h2 (Nat.not_lt_zero _)
  | f + 1, n, h1, h2 => by
    unfold probe.go
    have hdn : (it t.mask h n).dummy = none := (okp_it t.mask h n).d
    rcases Nat.lt_or_ge n e with q | q
    · have hm := hF.2 n q
      have es : t.slot (it t.mask h n).j = .live (below t.place (pt t.mask h n)) := slot_mem rs hm
      rw [es]
      by_cases c : hash (below t.place (pt t.mask h n)) = h
      · refine .inr ⟨n, Nat.le_refl _, q, c, ?_, fun k' a b => absurd a (by omega)⟩
        show (if (hash (below t.place (pt t.mask h n)) == h) = true then _ else _) = _
        rw [if_pos (by rw [c]; exact beq_self_eq_true _)]
        rfl
      · have e2 : (if (hash (below t.place (pt t.mask h n)) == h) = true then some (Met.candidate (it t.mask h n).j (below t.place (pt t.mask h n)) (t.advance (it t.mask h n))) else probe.go t hash h f (t.advance (it t.mask h n))) = probe.go t hash h f (it t.mask h (n + 1)) := by
          rw [if_neg (by simpa using c)]; rfl
        rcases probe_go rs hd hash hF f (n + 1) q (by omega) with ⟨a, b⟩ | ⟨k, a, b, c', d, e'⟩
        · refine .inl ⟨e2.trans a, fun k hk hk' => ?_⟩
          rcases Nat.lt_or_ge n k with z | z
          · exact b k z hk'
          · rw [show k = n by omega]; exact c
        · refine .inr ⟨k, by omega, b, c', e2.trans d, fun k' hk hk' => ?_⟩
          rcases Nat.lt_or_ge n k' with z | z
          · exact e' k' z hk'
          · rw [show k' = n by omega]; exact c
    · have : n = e := by omega
      subst this
      have es : t.slot (it t.mask h n).j = .empty := slot_not hd hF.1
      rw [es]
      refine .inl ⟨?_, fun k a b => absurd a (by omega)⟩
      show some (Met.empty (it t.mask h n).j (it t.mask h n).dummy) = _
      rw [hdn]; rfl
theorem zip_insert {α β : Type} (xs : Array α) (ys : Array β) (e : xs.size = ys.size) (p : Nat) (x : α) (y : β) (q : α × β) (h : q ∈ (insertAt xs p x).toList.zip (insertAt ys p y).toList) : q = (x, y) ∨ q ∈ xs.toList.zip ys.toList := by
  rw [insertAt_list, insertAt_list] at h
  have el : (xs.toList.take p).length = (ys.toList.take p).length := by
    rw [List.length_take, List.length_take]; simp [e]
  rw [List.zip_append el, List.zip_cons_cons] at h
  have w : xs.toList.zip ys.toList = (xs.toList.take p).zip (ys.toList.take p) ++ (xs.toList.drop p).zip (ys.toList.drop p) := by
    rw [← List.zip_append el, List.take_append_drop, List.take_append_drop]
  rw [w]
  rcases List.mem_append.mp h with h | h
  · exact .inr (List.mem_append_left _ h)
  · rcases List.mem_cons.mp h with h | h
    · exact .inl h
    · exact .inr (List.mem_append_right _ h)
theorem put_eq {t : SetTable} (hd : t.dummies = #[]) (j : Nat) : t.put j = ({ t with place := insertAt t.place (below t.place j) j }, below t.place j) := by
  unfold SetTable.put
  have : has t.dummies j = false := by rw [hd]; simp [SetTable.has]
  simp [this]
theorem inv_put {t : SetTable} {es : Array (Int × Value)} (I : Inv t es) {h : Int} {x : Value} {n : Nat} (hF : Fst t.mask t.place.toList h n) :
    Inv0 { t with place := insertAt t.place (below t.place (pt t.mask h n)) (pt t.mask h n) } (insertAt es (below t.place (pt t.mask h n)) (h, x)) := by
  have f := I.full
  refine ⟨I.msk, I.dum, rising_insert I.rise hF.1, fun j hj => ?_, ?_, ?_, fun q hq => ?_⟩
  · rcases (mem_insertAt _ _ _ _).mp hj with e | e
    · rw [e]; exact pt_le _ _ _
    · exact I.le j e
  · rw [size_insertAt, size_insertAt, I.size]
  · show (insertAt t.place _ _).size ≤ t.mask
    rw [size_insertAt]; omega
  · have sub : ∀ z ∈ t.place.toList, z ∈ (insertAt t.place (below t.place (pt t.mask h n)) (pt t.mask h n)).toList := fun z hz => (mem_insertAt _ _ _ _).mpr (.inr hz)
    rcases zip_insert _ _ I.size _ _ _ q hq with e | e
    · subst e
      exact ⟨n, rfl, fun k hk => sub _ (hF.2 k hk)⟩
    · exact (I.way q e).mono sub
theorem met_all {t : SetTable} {es : Array (Int × Value)} (I : Inv0 t es) {h : Int} {e : Nat} (hF : Fst t.mask t.place.toList h e) {i : Nat} {x : Value} (hi : es[i]? = some (h, x)) : ∃ k, k < e ∧ below t.place (pt t.mask h k) = i := by
  have hs : i < es.size := (Array.getElem?_eq_some_iff.mp hi).1
  have hp : i < t.place.size := by rw [I.size]; exact hs
  have hm : (t.place[i], (h, x)) ∈ t.place.toList.zip es.toList := by
    refine List.mem_iff_getElem?.mpr ⟨i, ?_⟩
    rw [List.getElem?_zip_eq_some]
    refine ⟨by simp [hp], by rw [Array.getElem?_toList]; exact hi⟩
  obtain ⟨n, e1, e2⟩ := I.way _ hm
  have e1 : pt t.mask h n = t.place[i] := e1
  have hj : pt t.mask h n ∈ t.place.toList := by rw [e1]; simp
  have hne : n < e := by
    rcases Nat.lt_or_ge n e with q | q
    · exact q
    · rcases Nat.lt_or_ge e n with q' | q'
      · exact absurd (e2 e q') hF.1
      · rw [show n = e by omega] at hj; exact absurd hj hF.1
  refine ⟨n, hne, ?_⟩
  have b := below_mem I.rise hj
  rw [e1] at b ⊢
  have b1 := (Array.getElem?_eq_some_iff.mp b)
  obtain ⟨b2, b3⟩ := b1
  rcases Nat.lt_trichotomy (below t.place t.place[i]) i with q | q | q
  · have := I.rise.lt q hp
    simp [Array.getD, hp, b2] at this
    omega
  · exact q
  · have := I.rise.lt q b2
    simp [Array.getD, hp, b2] at this
    omega
end Stb
end
section
set_option Elab.async false
set_option linter.all false
namespace Stb
open PySem SetTable
structure Own (m : Nat) (ps : List Nat) (ow : Array (Option Nat)) : Prop where
  sz : ow.size = m + 1
  nd : ps.Nodup
  le : ∀ j ∈ ps, j ≤ m
  yes : ∀ (i j : Nat), ps[i]? = some j → ow[j]? = some (some i)
  no : ∀ (j : Nat), j ≤ m → j ∉ ps → ow[j]? = some none
theorem Own.none_iff {m : Nat} {ps : List Nat} {ow : Array (Option Nat)} (O : Own m ps ow) {j : Nat} (h : j ≤ m) : (ow.getD j (some 0)).isNone = true ↔ j ∉ ps := by
  by_cases c : j ∈ ps
  · obtain ⟨i, hi⟩ := List.mem_iff_getElem?.mp c
    have := O.yes i j hi
    rw [Array.getD_eq_getD_getElem?, this]
    simp [c]
  · have := O.no j h c
    rw [Array.getD_eq_getD_getElem?, this]
    simp [c]
theorem free_spec {m : Nat} {ps : List Nat} {ow : Array (Option Nat)} (O : Own m ps ow) (h : Int) : ∀ (f r : Nat), (∀ k, k < N m h r → pt m h k ∈ ps) → (∃ r', r ≤ r' ∧ r' < r + f ∧ (R m h r').1 ∉ ps) →
    ∃ n, layClean.free m ow f (R m h r).1 (R m h r).2 = some (pt m h n) ∧ Fst m ps h n
  | 0, r, _, ⟨r', a, b, _⟩ => absurd b (by omega)
  | f + 1, r, hb, ⟨r', a, b, c⟩ => by
    unfold layClean.free
    have hR := R_le m h r
    have hl := @le_runEnd m (R m h r).1
    have hu := runEnd_le hR
    cases e : (List.range (runEnd m (R m h r).1 + 1 - (R m h r).1)).find? fun k => (ow.getD ((R m h r).1 + k) (some 0)).isNone with
    | some k =>
      obtain ⟨e1, e2, e3⟩ := List.find?_range_eq_some.mp e
      have e2 := List.mem_range.mp e2
      have hk : k ≤ runEnd m (R m h r).1 - (R m h r).1 := by omega
      refine ⟨N m h r + k, ?_, ?_, fun k' hk' => ?_⟩
      · show some ((R m h r).1 + k) = _
        rw [pt_round hk]
      · rw [pt_round hk]; exact (O.none_iff (by omega)).mp e1
      · rcases Nat.lt_or_ge k' (N m h r) with q | q
        · exact hb k' q
        · have e4 := e3 (k' - N m h r) (by omega)
          have hk2 : k' - N m h r ≤ runEnd m (R m h r).1 - (R m h r).1 := by omega
          have e5 := pt_round (h := h) (r := r) hk2
          rw [show N m h r + (k' - N m h r) = k' by omega] at e5
          rw [e5]
          refine Classical.byContradiction fun z => ?_
          have := (O.none_iff (j := (R m h r).1 + (k' - N m h r)) (by omega)).mpr z
          rw [this] at e4; cases e4
    | none =>
      have e3 := List.find?_eq_none.mp e
      have all : ∀ k, k ≤ runEnd m (R m h r).1 - (R m h r).1 → (R m h r).1 + k ∈ ps := fun k hk => by
        refine Classical.byContradiction fun z => ?_
        exact e3 k (List.mem_range.mpr (by omega)) ((O.none_iff (j := (R m h r).1 + k) (by omega)).mpr z)
      have hb' : ∀ k, k < N m h (r + 1) → pt m h k ∈ ps := fun k hk => by
        rcases Nat.lt_or_ge k (N m h r) with q | q
        · exact hb k q
        · have hk : k < N m h r + (runEnd m (R m h r).1 - (R m h r).1) + 1 := hk
          have e5 := pt_round (m := m) (h := h) (r := r) (k := k - N m h r) (by omega)
          rw [show N m h r + (k - N m h r) = k by omega] at e5
          rw [e5]
          exact all _ (by omega)
      have hr' : r ≠ r' := fun z => by subst z; exact c (by simpa using all 0 (Nat.zero_le _))
      exact free_spec O h f (r + 1) hb' ⟨r', by omega, by omega, c⟩
theorem own_set {m : Nat} {ps : List Nat} {ow : Array (Option Nat)} (O : Own m ps ow) {j : Nat} (hj : j ≤ m) (hn : j ∉ ps) : Own m (ps ++ [j]) (ow.setIfInBounds j (some ps.length)) := by
  refine ⟨by simp [O.sz], ?_, ?_, ?_, ?_⟩
  · refine List.nodup_append.mpr ⟨O.nd, by simp, fun a ha b hb => ?_⟩
    simp at hb
    rw [hb]; exact fun z => hn (z ▸ ha)
  · intro x hx
    rcases List.mem_append.mp hx with hx | hx
    · exact O.le x hx
    · simp at hx; rw [hx]; exact hj
  · intro i x hx
    rcases Nat.lt_trichotomy i ps.length with q | q | q
    · rw [List.getElem?_append_left q] at hx
      have : x ≠ j := fun z => hn (z ▸ List.mem_of_getElem? hx)
      rw [Array.getElem?_setIfInBounds_ne (fun z => this z.symm)]
      exact O.yes i x hx
    · subst q
      rw [List.getElem?_append_right (Nat.le_refl _)] at hx
      simp at hx
      rw [← hx, Array.getElem?_setIfInBounds_self_of_lt (by rw [O.sz]; omega)]
    · rw [List.getElem?_append_right (by omega)] at hx
      have : [j][i - ps.length]? = none := List.getElem?_eq_none (by simp; omega)
      rw [this] at hx; cases hx
  · intro x hx hxn
    have h1 : x ∉ ps := fun z => hxn (List.mem_append_left _ z)
    have h2 : x ≠ j := fun z => hxn (List.mem_append_right _ (by simp [z]))
    rw [Array.getElem?_setIfInBounds_ne (fun z => h2 z.symm)]
    exact O.no x hx h1
theorem own_nil (m : Nat) : Own m [] (Array.replicate (m + 1) none) :=
  ⟨by simp, List.nodup_nil, fun j h => (List.not_mem_nil h).elim, fun i j h => (by cases h), fun j h _ => by rw [Array.getElem?_replicate, if_pos (by omega)]⟩
abbrev layStep (m : Nat) (acc : Option (Array (Option Nat) × Nat)) (h : Int) : Option (Array (Option Nat) × Nat) := do
    let (owner, k) ← acc
    let j ← layClean.free m owner (turns m) (bits h % (m + 1)) (bits h)
    pure (owner.setIfInBounds j (some k), k + 1)
theorem lay_fold {m kk : Nat} (hm : m + 1 = 2 ^ kk) : ∀ (hs done : List Int) (ps : List Nat) (ow : Array (Option Nat)), Own m ps ow → ps.length = done.length → done.length + hs.length ≤ m →
    (∀ (i : Nat) h (j : Nat), done[i]? = some h → ps[i]? = some j → Way m ps h j) →
    ∃ ps' ow', hs.foldl (layStep m) (some (ow, ps.length)) = some (ow', ps'.length) ∧ Own m ps' ow' ∧ ps'.length = done.length + hs.length ∧ (∀ (i : Nat) h (j : Nat), (done ++ hs)[i]? = some h → ps'[i]? = some j → Way m ps' h j)
  | [], done, ps, ow, O, hl, hb, hw => ⟨ps, ow, rfl, O, hl, by rw [List.append_nil]; exact hw⟩
  | h :: hs, done, ps, ow, O, hl, hb, hw => by
    simp only [List.length_cons] at hb
    obtain ⟨y, hy, hyn⟩ := spare (m := m) (ps := ps) (by omega)
    obtain ⟨r, hr, e⟩ := round_hit hm h hy
    obtain ⟨n, ef, hF⟩ := free_spec O h (turns m) 0 (fun k hk => absurd hk (Nat.not_lt_zero k)) ⟨r, Nat.zero_le _, by unfold turns; omega, by rw [e]; exact hyn⟩
    have ef : layClean.free m ow (turns m) (bits h % (m + 1)) (bits h) = some (pt m h n) := ef
    have es : layStep m (some (ow, ps.length)) h = some (ow.setIfInBounds (pt m h n) (some ps.length), (ps ++ [pt m h n]).length) := by
      show (layClean.free m ow (turns m) (bits h % (m + 1)) (bits h)).bind _ = _
      rw [ef]; simp
    have O' := own_set O (pt_le m h n) hF.1
    obtain ⟨ps', ow', a, b, c, d⟩ := lay_fold hm hs (done ++ [h]) (ps ++ [pt m h n]) _ O' (by simp [hl]) (by simp; omega) (fun i h' j h1 h2 => by
      have sub : ∀ z ∈ ps, z ∈ ps ++ [pt m h n] := fun z hz => List.mem_append_left _ hz
      rcases Nat.lt_trichotomy i done.length with q | q | q
      · rw [List.getElem?_append_left q] at h1
        rw [List.getElem?_append_left (by omega)] at h2
        exact (hw i h' j h1 h2).mono sub
      · subst q
        rw [List.getElem?_append_right (Nat.le_refl _)] at h1
        rw [List.getElem?_append_right (by omega), hl] at h2
        simp at h1 h2
        subst h1; subst h2
        exact ⟨n, rfl, fun k hk => sub _ (hF.2 k hk)⟩
      · rw [List.getElem?_append_right (by omega)] at h1
        have : [h][i - done.length]? = none := List.getElem?_eq_none (by simp; omega)
        rw [this] at h1; cases h1)
    refine ⟨ps', ow', ?_, b, by rw [c]; simp; omega, by rw [List.append_assoc] at d; exact d⟩
    rw [List.foldl_cons, es]; exact a
theorem layClean_eq (m : Nat) (hs : Array Int) : layClean m hs = (hs.toList.foldl (layStep m) (some (Array.replicate (m + 1) none, 0))).map (·.1) := by
  unfold layClean
  rw [Array.foldl_toList]
theorem range_get {α : Type} (xs : List α) : (List.range xs.length).filterMap (fun i => xs[i]?) = xs := by
  induction xs with
  | nil => rfl
  | cons x xs ih =>
    rw [List.length_cons, List.range_succ_eq_map, List.filterMap_cons]
    simp only [List.getElem?_cons_zero]
    rw [List.filterMap_map]
    exact congrArg (x :: ·) ih
theorem laid_spec {m kk : Nat} (hm : m + 1 = 2 ^ kk) (hk : Msk m) (fi mo : Nat) (led plain : Bool) (es : Array (Int × Value)) (hl : es.size ≤ m) :
    ∃ t' order, laid m fi mo led plain (es.map (·.1)) = some (t', order) ∧ t'.led = led ∧ t'.mask = m ∧ t'.plain = plain ∧ Inv0 t' (order.filterMap (es[·]?)) ∧ (order.filterMap (es[·]?)).toList.Perm es.toList := by
  obtain ⟨ps, ow, a, O, c, d⟩ := lay_fold hm (es.map (·.1)).toList [] [] _ (own_nil m) rfl (by simpa using hl) (fun i h j h1 => by cases h1)
  have hc : layClean m (es.map (·.1)) = some ow := by
    rw [layClean_eq]
    have a : List.foldl (layStep m) (some (Array.replicate (m + 1) none, 0)) (es.map (·.1)).toList = some (ow, ps.length) := a
    rw [a]; rfl
  have hpl : ps.length = es.size := by rw [c]; simp
  let live := (List.range (m + 1)).filterMap fun j => (ow.getD j none).map (j, ·)
  have hlive : ∀ j i, (j, i) ∈ live ↔ ps[i]? = some j := by
    intro j i
    constructor
    · intro h
      obtain ⟨j', h1, h2⟩ := List.mem_filterMap.mp h
      have h1 := List.mem_range.mp h1
      obtain ⟨i', h3, h4⟩ := Option.map_eq_some_iff.mp h2
      obtain ⟨rfl, rfl⟩ := Prod.mk.inj h4
      by_cases q : j' ∈ ps
      · obtain ⟨i2, q2⟩ := List.mem_iff_getElem?.mp q
        have := O.yes i2 j' q2
        rw [Array.getD_eq_getD_getElem?, this] at h3
        simp at h3
        rw [← h3]; exact q2
      · have := O.no j' (by omega) q
        rw [Array.getD_eq_getD_getElem?, this] at h3
        simp at h3
    · intro h
      refine List.mem_filterMap.mpr ⟨j, List.mem_range.mpr (Nat.lt_succ_of_le (O.le j (List.mem_of_getElem? h))), ?_⟩
      rw [Array.getD_eq_getD_getElem?, O.yes i j h]; rfl
  have hr1 : (live.map (·.1)).Pairwise (· < ·) := by
    rw [List.pairwise_map]
    refine List.pairwise_filterMap.mpr ((List.pairwise_lt_range).imp ?_)
    intro a b hab x hx y hy
    obtain ⟨_, _, rfl⟩ := Option.map_eq_some_iff.mp hx
    obtain ⟨_, _, rfl⟩ := Option.map_eq_some_iff.mp hy
    exact hab
  have hnd : (live.map (·.2)).Nodup := by
    show (live.map (·.2)).Pairwise (· ≠ ·)
    rw [List.pairwise_map]
    have : live.Pairwise (fun x y => x.1 < y.1) := List.pairwise_map.mp hr1
    refine (List.Pairwise.and_mem.mp this).imp ?_
    rintro ⟨x1, x2⟩ ⟨y1, y2⟩ ⟨hx, hy, hlt⟩ e
    have e : x2 = y2 := e
    have hx := (hlive _ _).mp hx
    have hy := (hlive _ _).mp hy
    rw [e, hy] at hx
    have : y1 = x1 := Option.some.inj hx
    have hlt : x1 < y1 := hlt
    omega
  have hperm : (live.map (·.2)).Perm (List.range es.size) := by
    refine (List.perm_ext_iff_of_nodup hnd List.nodup_range).mpr fun i => ?_
    constructor
    · intro h
      obtain ⟨⟨j, i'⟩, h1, rfl⟩ := List.mem_map.mp h
      have := (hlive _ _).mp h1
      rw [← hpl]
      exact List.mem_range.mpr (List.getElem?_eq_some_iff.mp this).1
    · intro h
      have h := List.mem_range.mp h
      rw [← hpl] at h
      exact List.mem_map.mpr ⟨(ps[i], i), (hlive _ _).mpr (List.getElem?_eq_getElem h), rfl⟩
  have hes : (((live.map (·.2)).toArray).filterMap (es[·]?)).toList = (live.map (·.2)).filterMap (fun i => es.toList[i]?) := by
    simp
  have hp2 : (((live.map (·.2)).toArray).filterMap (es[·]?)).toList.Perm es.toList := by
    rw [hes]
    refine (hperm.filterMap _).trans ?_
    have := range_get es.toList
    rw [show es.toList.length = es.size by simp] at this
    rw [this]
  have hzip : ∀ (l : List (Nat × Nat)), (∀ x ∈ l, x.2 < es.size) → ∀ q ∈ (l.map (·.1)).zip ((l.map (·.2)).filterMap (fun i => es.toList[i]?)), ∃ i, (q.1, i) ∈ l ∧ es.toList[i]? = some q.2 := by
    intro l
    induction l with
    | nil => intro _ q hq; simp at hq
    | cons x l ih =>
      intro hx q hq
      have h1 := hx x List.mem_cons_self
      have e : es.toList[x.2]? = some es.toList[x.2] := List.getElem?_eq_getElem (by simpa using h1)
      rw [List.map_cons, List.map_cons, List.filterMap_cons, e] at hq
      rcases List.mem_cons.mp hq with rfl | hq
      · exact ⟨x.2, List.mem_cons_self, e⟩
      · obtain ⟨i, a1, a2⟩ := ih (fun y hy => hx y (List.mem_cons_of_mem _ hy)) q hq
        exact ⟨i, List.mem_cons_of_mem _ a1, a2⟩
  have hmem : ∀ j, j ∈ live.map (·.1) ↔ j ∈ ps := fun j => by
    constructor
    · intro h
      obtain ⟨⟨j', i⟩, h1, rfl⟩ := List.mem_map.mp h
      exact List.mem_of_getElem? ((hlive _ _).mp h1)
    · intro h
      obtain ⟨i, hi⟩ := List.mem_iff_getElem?.mp h
      exact List.mem_map.mpr ⟨(j, i), (hlive _ _).mpr hi, rfl⟩
  have hlen : live.length = es.size := by
    have := hperm.length_eq
    simpa using this
  refine ⟨{ mask := m, place := (live.map (·.1)).toArray, dummies := #[], finger := fi, led, moves := mo, plain }, (live.map (·.2)).toArray, ?_, rfl, rfl, rfl, ⟨hk, rfl, hr1, ?_, ?_, ?_, ?_⟩, hp2⟩
  · unfold laid; rw [hc]; rfl
  · intro j hj; exact O.le j ((hmem j).mp hj)
  · have := hp2.length_eq
    simp only [Array.length_toList] at this
    rw [this]
    show (live.map (·.1)).toArray.size = _
    simp [hlen]
  · show (live.map (·.1)).toArray.size ≤ m
    simp [hlen, hl]
  · intro q hq
    rw [hes] at hq
    obtain ⟨i, a1, a2⟩ := hzip live (fun x hx => by
      have := (List.getElem?_eq_some_iff.mp ((hlive x.1 x.2).mp hx)).1
      omega) q hq
    have h1 := (hlive _ _).mp a1
    have w := d i q.2.1 q.1 (by simp at a2 ⊢; rw [a2]; exact ⟨_, rfl⟩) h1
    exact w.mono fun z hz => (hmem z).mpr hz
theorem relaid_spec {t : SetTable} {es : Array (Int × Value)} (I : Inv0 t es) (hb : es.size ≤ 4914) (hf : t.tooFull = true) (hpre : (es.size - 1) * 5 < t.mask * 3) :
    sizeAbove (grown es.size) ≤ 8192 ∧ ∃ t' order, t.relaid (es.map (·.1)) (grown es.size) = some (t', order) ∧ t'.led = t.led ∧ t'.plain = t.plain ∧ Inv t' (order.filterMap (es[·]?)) ∧ (order.filterMap (es[·]?)).toList.Perm es.toList := by
  have hfull : es.size * 5 ≥ t.mask * 3 := by
    unfold SetTable.tooFull at hf
    rw [I.fill] at hf
    exact of_decide_eq_true hf
  have key : ∃ m', sizeAbove (grown es.size) - 1 = m' ∧ Msk m' ∧ es.size * 5 < m' * 3 ∧ sizeAbove (grown es.size) ≤ 8192 := by
    rcases I.msk with q | q | q | q | q | q <;> rw [q] at hfull hpre
    · rw [show es.size = 5 by omega]; exact ⟨31, by decide, .inr (.inl rfl), by decide, by decide⟩
    · rw [show es.size = 19 by omega]; exact ⟨127, by decide, .inr (.inr (.inl rfl)), by decide, by decide⟩
    · rw [show es.size = 77 by omega]; exact ⟨511, by decide, .inr (.inr (.inr (.inl rfl))), by decide, by decide⟩
    · rw [show es.size = 307 by omega]; exact ⟨2047, by decide, .inr (.inr (.inr (.inr (.inl rfl)))), by decide, by decide⟩
    · rw [show es.size = 1229 by omega]; exact ⟨8191, by decide, .inr (.inr (.inr (.inr (.inr rfl)))), by decide, by decide⟩
    · omega
  obtain ⟨m', e, hk, hr, hs⟩ := key
  refine ⟨hs, ?_⟩
  obtain ⟨kk, hm⟩ := hk.pow
  unfold SetTable.relaid
  rw [e]
  obtain ⟨t', order, a1, a2, a3, a4, a5, a6⟩ := laid_spec hm hk t.finger (t.movedTo m') t.led t.plain es (by omega)
  refine ⟨t', order, a1, a2, a4, ⟨a5, ?_⟩, a6⟩
  have h1 := a5.size
  have h2 := a6.length_eq
  simp only [Array.length_toList] at h2
  rw [a3]; omega
end Stb
end
section
set_option Elab.async false
set_option linter.all false
set_option maxRecDepth 100000
namespace Stb
open PySem PyProof.Rows SetTable
section
variable {prog : Program} {w : World} {A : Around} {E : Value → Shared → Prop} {s : Shared}
abbrev TK (prog : Program) (w : World) (h : Heap) (ks : List Int) (b : Addr) : Prop := IsTupleKey (intKind prog w) h ks b
abbrev hsh (prog : Program) (w : World) (ks : List Int) : Int := tupleKeyHash (intKind prog w) ks
theorem items_int {ks : List Int} {vs : List Value} (h : ItemsAre (intKind prog w) ks vs) : ∀ v ∈ vs, ∃ n t, v = .int n t := by
  induction h with
  | nil => intro v hv; simp at hv
  | @cons k v' ks vs h1 _ ih =>
    intro v hv
    rcases List.mem_cons.mp hv with rfl | hv
    · cases v with
      | int n t => exact ⟨n, t, rfl⟩
      | _ => exact absurd h1 (by simp [intKind, Value.isInt])
    · exact ih v hv
theorem ofClass_int (d : Nat) (n : Int) (t : Tok) : ofAClassStatement d (.int n t) = pure false := by
  unfold ofAClassStatement; rfl
theorem ofClass_tuple {ks : List Int} {a : Addr} {Q : Bool → Shared → Prop} (hk : TK prog w s.heap ks a) (h : Q false s) : wpAny (model prog w) A (ofAClassStatement 8 (.ref a)) Q E s := by
  have hT := hk.typeIs
  obtain ⟨o, items, n, ho, hc, hd, hi⟩ := hk
  unfold ofAClassStatement
  refine wpAny_bind (wpAny_typeOf hT ?_)
  dsimp only
  have e : ("tuple" == "tuple") = true := by decide
  rw [if_pos e]
  refine wpAny_bind (wpAny_pure ?_)
  simp only [Bool.not_true, Bool.false_eq_true, if_false]
  refine wpAny_bind (wpAny_seqItems ho hd ?_)
  dsimp only
  refine wpAny_bind ?_
  rw [← Array.forIn_toList]
  refine wpAny_forIn_list _ (fun rest r s' => r.1 = none ∧ s' = s ∧ ∀ v ∈ rest, ∃ n t, v = Value.int n t) _ ?_ ?_ _ _ ⟨rfl, rfl, items_int hi⟩
  · rintro v rest r s' ⟨hr, rfl, hall⟩
    obtain ⟨n, t, rfl⟩ := hall v List.mem_cons_self
    rw [ofClass_int]
    refine wpAny_bind (wpAny_pure ?_)
    simp only [Bool.false_eq_true, if_false]
    exact wpAny_pure ⟨rfl, rfl, fun u hu' => hall u (List.mem_cons_of_mem _ hu')⟩
  · rintro ⟨r1, r2⟩ s' ⟨hr, rfl, _⟩
    simp only at hr
    subst hr
    exact wpAny_pure h
theorem seen_tuple {ks : List Int} {a : Addr} {ys : List Value} {Q : Bool → Shared → Prop} (hk : TK prog w s.heap ks a) (hy : ∀ y ∈ ys, ∃ b ks', y = .ref b ∧ TK prog w s.heap ks' b) (h : Q false s) : wpAny (model prog w) A (searchCouldBeSeen (.ref a) ys) Q E s := by
  unfold searchCouldBeSeen
  refine wpAny_bind ?_
  refine wpAny_forIn_list _ (fun rest r s' => r.1 = none ∧ s' = s ∧ ∀ y ∈ rest, ∃ b ks', y = .ref b ∧ TK prog w s.heap ks' b) _ ?_ ?_ _ _ ⟨rfl, rfl, hy⟩
  · rintro v rest r s' ⟨hr, rfl, hall⟩
    obtain ⟨b, ks', rfl, hb⟩ := hall v List.mem_cons_self
    dsimp only
    split
    · exact wpAny_pure ⟨rfl, rfl, fun u hu' => hall u (List.mem_cons_of_mem _ hu')⟩
    · refine wpAny_bind (wpAny_eqIsQuiet_tuple hk ?_)
      simp only [Bool.not_true, Bool.false_eq_true, if_false]
      refine wpAny_bind (wpAny_eqIsQuiet_tuple hb ?_)
      simp only [Bool.not_true, Bool.false_eq_true, if_false]
      refine wpAny_bind (ofClass_tuple hk ?_)
      simp only [Bool.false_eq_true, if_false]
      refine wpAny_bind (ofClass_tuple hb ?_)
      simp only [Bool.false_eq_true, if_false]
      exact wpAny_pure ⟨rfl, rfl, fun u hu' => hall u (List.mem_cons_of_mem _ hu')⟩
  · rintro ⟨r1, r2⟩ s' ⟨hr, rfl, _⟩
    simp only at hr
    subst hr
    exact wpAny_pure h
theorem byValue_tuple {ks : List Int} {a : Addr} {Q : Bool → Shared → Prop} (hk : TK prog w s.heap ks a) (h : Q true s) : wpAny (model prog w) A (hashByValue 8 (.ref a)) Q E s := by
  have hT := hk.typeIs
  obtain ⟨o, items, n, ho, hc, hd, hi⟩ := hk
  unfold hashByValue
  refine wpAny_bind (wpAny_specialOf hT F.slot_tuple_hash.lookup ?_)
  dsimp only
  refine wpAny_bind (wpAny_seqItems ho hd ?_)
  show wpAny _ _ (forIn items _ _ >>= _) _ _ s
  refine wpAny_bind ?_
  rw [← Array.forIn_toList]
  refine wpAny_forIn_list _ (fun rest r s' => r.1 = none ∧ s' = s ∧ ∀ v ∈ rest, ∃ n t, v = Value.int n t) _ ?_ ?_ _ _ ⟨rfl, rfl, items_int hi⟩
  · rintro v rest r s' ⟨hr, rfl, hall⟩
    obtain ⟨n, t, rfl⟩ := hall v List.mem_cons_self
    have e : hashByValue 7 (.int n t) = pure true := by unfold hashByValue; rfl
    rw [e]
    refine wpAny_bind (wpAny_pure ?_)
    simp only [Bool.not_true, Bool.false_eq_true, if_false]
    exact wpAny_pure ⟨rfl, rfl, fun u hu' => hall u (List.mem_cons_of_mem _ hu')⟩
  · rintro ⟨r1, r2⟩ s' ⟨hr, rfl, _⟩
    simp only at hr
    subst hr
    exact wpAny_pure h
end
end Stb
end
section
set_option Elab.async false
set_option linter.all false
set_option maxRecDepth 100000
namespace Stb
open PySem PyProof.Rows SetTable
def iv : Value → Int
  | .int n _ => n
  | _ => 0
def tk (h : Heap) : Value → List Int
  | .ref b => match h.get? b with
    | some o => match o.data with
      | .seq items _ => items.toList.map iv
      | _ => []
    | none => []
  | _ => []
section
variable {prog : Program} {w : World} {A : Around} {E : Value → Shared → Prop} {s : Shared}
theorem items_iv {ks : List Int} {vs : List Value} (h : ItemsAre (intKind prog w) ks vs) : vs.map iv = ks := by
  induction h with
  | nil => rfl
  | @cons k v' ks vs h1 h2 ih =>
    rw [List.map_cons, ih]
    obtain ⟨n, t, rfl⟩ := items_int (.cons h1 h2) v' List.mem_cons_self
    have : n = k := by simpa [intKind, Value.isInt] using h1
    rw [this.symm]; rfl
theorem tk_eq {h : Heap} {ks : List Int} {b : Addr} (k : TK prog w h ks b) : tk h (.ref b) = ks := by
  obtain ⟨o, items, n, ho, hc, hd, hi⟩ := k
  show (match h.get? b with
    | some o => match o.data with
      | .seq items _ => items.toList.map iv
      | _ => []
    | none => []) = ks
  rw [ho]
  dsimp only
  rw [hd]
  exact items_iv hi
structure TSet (prog : Program) (w : World) (B : Addr → Prop) (h : Heap) (t : SetTable) (es : Array (Int × Value)) (S : List (List Int)) : Prop where
  inv : Inv t es
  ent : ∀ e ∈ es.toList, ∃ b ks, e = (hsh prog w ks, Value.ref b) ∧ TK prog w h ks b ∧ B b
  nd : S.Nodup
  perm : (es.toList.map fun e => tk h e.2).Perm S
theorem Inv.fits {t : SetTable} {es : Array (Int × Value)} (I : Inv0 t es) : t.fits es.size = true := by
  unfold SetTable.fits
  rw [I.fill, I.size]
  have := I.room
  have := I.size
  simp
  omega
theorem Inv0.even {t : SetTable} {es : Array (Int × Value)} (I : Inv0 t es) : t.gaveWay = false := by
  unfold SetTable.gaveWay
  rw [I.msk.odd]; rfl
theorem getHash {es : Array (Int × Value)} {i : Nat} {e : Int × Value} (h : es[i]? = some e) : ((es[i]?.map (·.1)).getD 0) = e.1 := by rw [h]; rfl
theorem same_moves (t : SetTable) : t.sameMemory t.moves t.mask = some true := by unfold SetTable.sameMemory; simp
theorem search {B : Addr → Prop} {a b : Addr} {o : Obj} {es : Array (Int × Value)} {ep : Nat} {t : SetTable} {ks : List Int} {S : List (List Int)} {Q : SetFound → Shared → Prop}
    (ho : s.heap.get? a = some o) (hd : o.data = .set es ep t) (T : TSet prog w B s.heap t es S) (hk : TK prog w s.heap ks b) (hu : A.units < cLine) {e : Nat}
    (hF : Fst t.mask t.place.toList (hsh prog w ks) e) (he : e ≤ 10 * (t.mask + 12)) (q1 : ks ∈ S → Q (.there none) s) (q2 : ks ∉ S → Q (.free (pt t.mask (hsh prog w ks) e) false) s) :
    ∀ (f n : Nat) (stand : Option Probe), n ≤ e → e - n < f → stand.getD (t.probeStart (hsh prog w ks)) = it t.mask (hsh prog w ks) n →
      (∀ k, k < n → ∀ x, es[below t.place (pt t.mask (hsh prog w ks) k)]? = some x → x.1 = hsh prog w ks → tk s.heap x.2 ≠ ks) →
      wpAny (model prog w) A (setSearchFrom a (.ref b) (hsh prog w ks) true f stand) Q E s
  | 0, n, stand, h1, h2, _, _ => absurd h2 (Nat.not_lt_zero _)
  | f + 1, n, stand, h1, h2, h3, h4 => by
    have I := T.inv.toInv0
    have hf := Inv.fits I
    unfold setSearchFrom
    refine wpAny_bind (wpAny_setState_of ho hd hf ?_)
    dsimp only
    rw [I.even, h3]
    simp only [Bool.false_eq_true, if_false]
    have slotEnt : ∀ k, k < e → ∃ x, es[below t.place (pt t.mask (hsh prog w ks) k)]? = some x := fun k hk => by
      have hm := below_mem I.rise (hF.2 k hk)
      have := (Array.getElem?_eq_some_iff.mp hm).1
      rw [I.size] at this
      exact ⟨_, Array.getElem?_eq_getElem this⟩
    rcases probe_go I.rise I.dum (fun i => ((es[i]?.map (·.1)).getD 0)) hF (10 * turns t.mask) n h1 (by unfold turns; omega) with ⟨e1, e2⟩ | ⟨k, k1, k2, k3, k4, k5⟩
    · have e1 : t.probe (fun i => ((es[i]?.map (·.1)).getD 0)) (hsh prog w ks) (it t.mask (hsh prog w ks) n) = _ := e1
      show wpAny _ _ (match t.probe (fun i => ((es[i]?.map (·.1)).getD 0)) (hsh prog w ks) (it t.mask (hsh prog w ks) n) with | some met => _ | _ => _) _ _ _
      rw [e1]
      refine wpAny_pure (q2 fun hS => ?_)
      have hm := T.perm.mem_iff.mpr hS
      obtain ⟨x, hx, ex⟩ := List.mem_map.mp hm
      obtain ⟨b', ks', rfl, hb', _⟩ := T.ent x hx
      have ek : ks' = ks := by rw [← ex]; exact (tk_eq hb').symm
      subst ek
      obtain ⟨i, hi⟩ := List.mem_iff_getElem?.mp hx
      rw [Array.getElem?_toList] at hi
      obtain ⟨k, hke, ei⟩ := met_all I hF hi
      rcases Nat.lt_or_ge k n with q | q
      · exact h4 k q _ (by rw [ei]; exact hi) rfl (tk_eq hb')
      · exact e2 k q hke (by rw [ei]; exact getHash hi)
    · have k4 : t.probe (fun i => ((es[i]?.map (·.1)).getD 0)) (hsh prog w ks) (it t.mask (hsh prog w ks) n) = _ := k4
      show wpAny _ _ (match t.probe (fun i => ((es[i]?.map (·.1)).getD 0)) (hsh prog w ks) (it t.mask (hsh prog w ks) n) with | some met => _ | _ => _) _ _ _
      rw [k4]
      dsimp only
      obtain ⟨x, hx⟩ := slotEnt k k2
      have hxm : x ∈ es.toList := by rw [Array.mem_toList_iff]; exact Array.mem_of_getElem? hx
      obtain ⟨b', ks', rfl, hb', _⟩ := T.ent x hxm
      have hh : hsh prog w ks' = hsh prog w ks := by have := getHash hx; rw [← k3]; exact this.symm
      cases hl : t.led with
      | true =>
        simp only [Bool.not_true, Bool.false_eq_true, if_false]
        rw [hx]
        dsimp only
        refine wpAny_bind (wpAny_holding (wpAny_eqBool_tuple hu hb' hk ?_))
        refine wpAny_bind (wpAny_setState_of ho hd hf ?_)
        dsimp only
        by_cases c : ks' = ks
        · subst c
          rw [decide_eq_true rfl]
          simp only [Bool.and_self, if_true]
          refine wpAny_pure (q1 ?_)
          exact T.perm.mem_iff.mp (List.mem_map.mpr ⟨_, hxm, tk_eq hb'⟩)
        · rw [decide_eq_false c]
          simp only [Bool.and_false, Bool.false_eq_true, if_false]
          rw [same_moves]
          dsimp only
          simp only [if_true]
          rw [slot_mem I.rise (hF.2 k k2)]
          dsimp only
          rw [hx]
          dsimp only
          refine wpAny_bind (wpAny_isSame_ref_self ?_)
          refine wpAny_bind (wpAny_pure ?_)
          simp only [if_true]
          refine search ho hd T hk hu hF he q1 q2 f (k + 1) _ k2 (by omega) rfl fun k' hk' y hy1 hy2 => ?_
          rcases Nat.lt_or_ge k' n with q | q
          · exact h4 k' q y hy1 hy2
          · rcases Nat.lt_or_ge k' k with q' | q'
            · exact absurd ((getHash hy1).trans hy2) (k5 k' q q')
            · have : k' = k := by omega
              subst this
              rw [hx] at hy1
              obtain rfl := Option.some.inj hy1
              rw [show tk s.heap (hsh prog w ks', Value.ref b').2 = ks' from tk_eq hb']
              exact c
      | false =>
        simp only [Bool.not_false, if_true]
        refine wpAny_bind (seen_tuple hk ?_ ?_)
        · intro y hy
          obtain ⟨z, hz, rfl⟩ := List.mem_map.mp hy
          have hz' : z ∈ es.toList := by
            have := (Array.mem_toList_iff).mp hz
            rw [Array.mem_toList_iff]
            exact (Array.mem_filter.mp this).1
          obtain ⟨b2, ks2, rfl, h2, _⟩ := T.ent z hz'
          exact ⟨b2, ks2, rfl, h2⟩
        · simp only [Bool.false_eq_true, if_false]
          rw [hx]
          dsimp only
          refine wpAny_bind (wpAny_holding (wpAny_eqBool_tuple hu hb' hk ?_))
          refine wpAny_bind (wpAny_setState_of ho hd hf ?_)
          dsimp only
          by_cases c : ks' = ks
          · subst c
            rw [decide_eq_true rfl]
            simp only [Bool.and_self, if_true]
            refine wpAny_pure (q1 ?_)
            exact T.perm.mem_iff.mp (List.mem_map.mpr ⟨_, hxm, tk_eq hb'⟩)
          · rw [decide_eq_false c]
            simp only [Bool.and_false, Bool.false_eq_true, if_false]
            rw [same_moves]
            dsimp only
            simp only [if_true]
            rw [slot_mem I.rise (hF.2 k k2)]
            dsimp only
            rw [hx]
            dsimp only
            refine wpAny_bind (wpAny_isSame_ref_self ?_)
            refine wpAny_bind (wpAny_pure ?_)
            simp only [if_true]
            refine search ho hd T hk hu hF he q1 q2 f (k + 1) _ k2 (by omega) rfl fun k' hk' y hy1 hy2 => ?_
            rcases Nat.lt_or_ge k' n with q | q
            · exact h4 k' q y hy1 hy2
            · rcases Nat.lt_or_ge k' k with q' | q'
              · exact absurd ((getHash hy1).trans hy2) (k5 k' q q')
              · have : k' = k := by omega
                subst this
                rw [hx] at hy1
                obtain rfl := Option.some.inj hy1
                rw [show tk s.heap (hsh prog w ks', Value.ref b').2 = ks' from tk_eq hb']
                exact c
end
end Stb
end
section
set_option Elab.async false
set_option linter.all false
set_option maxRecDepth 100000
namespace Stb
open PySem PyProof.Rows SetTable
section
variable {prog : Program} {w : World} {A : Around} {E : Value → Shared → Prop} {s : Shared}
def ins (S : List (List Int)) (k : List Int) : List (List Int) := if k ∈ S then S else S ++ [k]
theorem TSet.keep {B : Addr → Prop} {h h' : Heap} {t : SetTable} {es : Array (Int × Value)} {S : List (List Int)} (T : TSet prog w B h t es S) (k : ∀ b ks, TK prog w h ks b → TK prog w h' ks b) : TSet prog w B h' t es S := by
  refine ⟨T.inv, fun e he => ?_, T.nd, ?_⟩
  · obtain ⟨b, ks, e1, e2, e3⟩ := T.ent e he
    exact ⟨b, ks, e1, k b ks e2, e3⟩
  · have : es.toList.map (fun e => tk h' e.2) = es.toList.map (fun e => tk h e.2) := List.map_congr_left fun e he => by
      obtain ⟨b, ks, rfl, e2, _⟩ := T.ent e he
      rw [tk_eq e2, tk_eq (k b ks e2)]
    rw [this]; exact T.perm
theorem size_8192 : (8192 : Nat) ≤ sizeLine := by rw [sizeLine_eq]; decide
theorem add {B : Addr → Prop} {a b : Addr} {o : Obj} {es : Array (Int × Value)} {ep : Nat} {t : SetTable} {ks : List Int} {S : List (List Int)} {Q : Bool → Shared → Prop}
    {h0 : Heap} (ext : ∀ b ks, TK prog w h0 ks b → TK prog w s.heap ks b) (ho : s.heap.get? a = some o) (hd : o.data = .set es ep t) (T : TSet prog w B h0 t es S) (hk : TK prog w h0 ks b) (hB : B b) (hu : A.units < cLine) (hb : S.length < 4914)
    (h : ∀ r h' es' ep' t', Heap.SameBut a s.heap h' → h'.get? a = some { o with data := .set es' ep' t' } → TSet prog w B h0 t' es' (ins S ks) → t'.led = t.led → t'.plain = t.plain → Q r { s with heap := h' }) :
    wpAny (model prog w) A (setAddHashed a (.ref b) (hsh prog w ks)) Q E s := by
  have I := T.inv.toInv0
  have hf := Inv.fits I
  have hsz : es.size = S.length := by have := T.perm.length_eq; simpa using this
  unfold setAddHashed setAddHashedIn
  refine wpAny_holding (wpAny_bind (wpAny_setState_of ho hd hf ?_))
  dsimp only
  have hsc : byScan (.ref b) es = false := by unfold byScan; simp [Value.scannable]
  rw [hsc]
  simp only [Bool.false_eq_true, if_false]
  obtain ⟨kk, hm⟩ := I.msk.pow
  obtain ⟨e, he, hF⟩ := fst_ex hm (ps := t.place.toList) (by simpa using I.room) (hsh prog w ks)
  have hle := I.msk.le
  refine wpAny_bind (m := setSearch a (.ref b) (hsh prog w ks) true) (search ho hd (T.keep ext) (ext _ _ hk) hu hF he (fun hS => ?_) (fun hS => ?_) 100000 0 none (Nat.zero_le _) (by omega) rfl (fun k hk => absurd hk (Nat.not_lt_zero k)))
  · dsimp only
    refine wpAny_pure ?_
    have := h false s.heap es ep t (Heap.SameBut.refl a s.heap) (by rw [ho, ← hd]) (by unfold ins; rw [if_pos hS]; exact T) rfl rfl
    exact this
  · dsimp only
    refine wpAny_bind (wpAny_setState_of ho hd hf ?_)
    dsimp only
    rw [put_eq I.dum]
    dsimp only
    have I1 := inv_put T.inv (x := Value.ref b) hF
    generalize hp : below t.place (pt t.mask (hsh prog w ks) e) = p at I1 ⊢
    have hs1 : (insertAt es p (hsh prog w ks, Value.ref b)).size = es.size + 1 := size_insertAt _ _ _
    have step : ∀ t1, ({ t with place := insertAt t.place p (pt t.mask (hsh prog w ks) e) } : SetTable) = t1 → wpAny (model prog w) A (do
        storeSet a (insertAt es p (hsh prog w ks, Value.ref b)) t1
        if (!false && t1.tooFull) = true then do
            setRelay a (grown (es.size + 1))
            pure true
          else pure true) Q E s := by
      intro t1 ht
      have I1 := ht ▸ I1
      have hled : t1.led = t.led := by rw [← ht]
      have hpl : t1.plain = t.plain := by rw [← ht]
      have hmk : t1.mask = t.mask := by rw [← ht]
      have hperm1 : ((insertAt es p (hsh prog w ks, Value.ref b)).toList.map fun e => tk h0 e.2).Perm (ins S ks) := by
        refine ((perm_insertAt es p (hsh prog w ks, Value.ref b)).map _).trans ?_
        rw [List.map_cons, show tk h0 (hsh prog w ks, Value.ref b).2 = ks from tk_eq hk]
        unfold ins; rw [if_neg hS]
        exact (T.perm.cons ks).trans (List.perm_append_singleton ks S).symm
      have hent1 : ∀ x ∈ (insertAt es p (hsh prog w ks, Value.ref b)).toList, ∃ b' ks', x = (hsh prog w ks', Value.ref b') ∧ TK prog w h0 ks' b' ∧ B b' := fun x hx => by
        rcases (mem_insertAt _ _ _ _).mp hx with rfl | hx
        · exact ⟨b, ks, rfl, hk, hB⟩
        · exact T.ent x hx
      have hnd1 : (ins S ks).Nodup := by
        unfold ins; rw [if_neg hS]
        exact (List.perm_append_singleton ks S).nodup_iff.mpr (List.nodup_cons.mpr ⟨hS, T.nd⟩)
      refine wpAny_bind (wpAny_storeSet_of ho hd ?_ (by rw [hs1]; have := size_8192; omega))
      have hg : (s.heap.update a (Obj.putSet (insertAt es p (hsh prog w ks, Value.ref b)) t1)).get? a = some { o with data := .set (insertAt es p (hsh prog w ks, Value.ref b)) (ep + 1) t1 } := by
        have := Heap.get?_update_self (Obj.putSet (insertAt es p (hsh prog w ks, Value.ref b)) t1) ho (by rw [putSet_of _ t1 hd]; rfl)
        rw [putSet_of _ t1 hd] at this; exact this
      have hsb := Heap.SameBut.update s.heap a (Obj.putSet (insertAt es p (hsh prog w ks, Value.ref b)) t1)
      cases hfull : t1.tooFull with
      | false =>
        simp only [Bool.not_false, Bool.and_false, Bool.false_eq_true, if_false]
        refine wpAny_pure (h true _ _ (ep + 1) t1 hsb hg ?_ hled hpl)
        have T1 : TSet prog w B h0 t1 (insertAt es p (hsh prog w ks, Value.ref b)) (ins S ks) := by
          refine ⟨⟨I1, ?_⟩, hent1, hnd1, hperm1⟩
          have hfl := I1.fill
          unfold SetTable.tooFull at hfull
          rw [hfl] at hfull
          have := of_decide_eq_false hfull
          rw [I1.size]; omega
        exact T1
      | true =>
        simp only [Bool.not_false, Bool.and_self, if_true]
        have hpre : ((insertAt es p (hsh prog w ks, Value.ref b)).size - 1) * 5 < t1.mask * 3 := by
          rw [hs1, hmk]; have := T.inv.full; rw [I.size] at this; simpa using this
        obtain ⟨r0, t2, order, r1, r2, r3, r4, r5⟩ := relaid_spec I1 (by rw [hs1]; omega) hfull hpre
        unfold setRelay
        refine wpAny_bind (wpAny_bind (wpAny_setState_of hg rfl (Inv.fits I1) ?_))
        dsimp only
        rw [← hs1]
        rw [if_neg (by have := size_8192; omega)]
        rw [r1]
        have hz2 := r5.length_eq
        simp only [Array.length_toList] at hz2
        refine wpAny_bind ?_
        show wpAny _ _ (if ((order.filterMap ((insertAt es p (hsh prog w ks, Value.ref b))[·]?)).size != (insertAt es p (hsh prog w ks, Value.ref b)).size) = true then _ else _) _ _ _
        rw [if_neg (by rw [hz2]; simp)]
        refine wpAny_pure ?_
        dsimp only
        refine wpAny_storeSet_of hg rfl ?_ (by rw [hz2, hs1]; have := size_8192; omega)
        refine wpAny_pure ?_
        have hg2 : ((s.heap.update a (Obj.putSet (insertAt es p (hsh prog w ks, Value.ref b)) t1)).update a (Obj.putSet (order.filterMap ((insertAt es p (hsh prog w ks, Value.ref b))[·]?)) t2)).get? a = some { o with data := .set (order.filterMap ((insertAt es p (hsh prog w ks, Value.ref b))[·]?)) (ep + 1 + 1) t2 } := by
          have := Heap.get?_update_self (Obj.putSet (order.filterMap ((insertAt es p (hsh prog w ks, Value.ref b))[·]?)) t2) hg (by rw [putSet_of _ t2 rfl]; rfl)
          rw [putSet_of _ t2 rfl] at this; exact this
        have hsb2 := hsb.trans (Heap.SameBut.update (s.heap.update a (Obj.putSet (insertAt es p (hsh prog w ks, Value.ref b)) t1)) a (Obj.putSet (order.filterMap ((insertAt es p (hsh prog w ks, Value.ref b))[·]?)) t2))
        refine h true _ _ (ep + 1 + 1) t2 hsb2 hg2 ?_ (r2.trans hled) (r3.trans hpl)
        have T2 : TSet prog w B h0 t2 (order.filterMap ((insertAt es p (hsh prog w ks, Value.ref b))[·]?)) (ins S ks) :=
          ⟨r4, fun x hx => hent1 x (r5.mem_iff.mp hx), hnd1, (r5.map _).trans hperm1⟩
        exact T2
    cases hpv : t.plain with
    | true =>
      simp only [if_true]
      refine wpAny_bind (byValue_tuple (ext _ _ hk) ?_)
      simp only [if_true]
      exact step _ (by rw [hpv])
    | false =>
      simp only [Bool.false_eq_true, if_false]
      refine wpAny_bind (wpAny_pure ?_)
      simp only [if_true]
      exact step _ (by rw [hpv])
end
end Stb
end
section
set_option Elab.async false
set_option linter.all false
set_option maxRecDepth 100000
namespace Stb
open PySem PyProof.Rows SetTable
def dd (val : Nat → List Int) : Nat → List (List Int)
  | 0 => []
  | i + 1 => ins (dd val i) (val i)
section
variable {prog : Program} {w : World} {A : Around} {R : Result → Shared → Prop} {I : Addr} {fp wr : List Addr} {G : Array GenState → Array GenState → Prop} {n : Nat} {P : Nat → Value → Prop} {St : Nat → Shared → Prop}
theorem TK.at {h0 h : Heap} (k : ∀ b o, h0.get? b = some o → h.get? b = some o) {ks : List Int} {b : Addr} (x : TK prog w h0 ks b) : TK prog w h ks b := by
  obtain ⟨o', items, n, ho', hc, hd', hi⟩ := x
  exact ⟨o', items, n, k _ _ ho', hc, hd', hi⟩
end
end Stb
end
section
set_option Elab.async false
set_option linter.all false
set_option maxRecDepth 100000
namespace Stb
open PySem PyProof.Rows SetTable
section
variable {prog : Program} {w : World} {A : Around} {E : Value → Shared → Prop} {s : Shared}
abbrev setO (led : Bool) : Obj := { cls := .type "set", dict := none, data := .set #[] 0 (.fresh 0 0 led) }
end
end Stb
end
section
set_option Elab.async false
set_option linter.all false
set_option maxRecDepth 100000
namespace Stb
open PySem PyProof.Rows SetTable
section
variable {prog : Program} {w : World} {A : Around} {E : Value → Shared → Prop} {s : Shared}
end
end Stb
end
section
set_option Elab.async false
set_option linter.all false
set_option maxRecDepth 100000
namespace Stb
open PySem PyProof.Rows SetTable
section
variable {prog : Program} {w : World} {A : Around} {E : Value → Shared → Prop} {s : Shared}
end
end Stb
end
section
set_option Elab.async false
set_option linter.all false
set_option maxRecDepth 100000
namespace Stb
open PySem PyProof.Rows SetTable
section
variable {prog : Program} {w : World} {A : Around} {E : Value → Shared → Prop} {s : Shared}
end
end Stb
end
section
set_option Elab.async false
set_option linter.all false
set_option maxRecDepth 100000
namespace Stb
open PySem PyProof.Rows SetTable
section
variable {prog : Program} {w : World} {A : Around} {E : Value → Shared → Prop} {s : Shared}
end
end Stb
end
section
set_option Elab.async false
set_option linter.all false
set_option maxRecDepth 100000
namespace DL
open PySem L2 PyProof.Rows
variable {K : PySem.W.Frag}
theorem items_of {prog : Program} {w : World} : ∀ {vs : List Value} {ns : List Int}, IntsAre vs ns → ItemsAre (intKind prog w) ns vs
  | _, _, .nil => .nil
  | _, _, .cons _ _ h => .cons (by simp [intKind, Value.isInt]) (items_of h)
theorem key_at {X : Cx} {pins : List (Addr × Obj)} {σ : L2.St} {H : Hp} {s : Shared} (I : Inv X pins σ H s) {b : Addr} {k : List Int} (h : SqT X.K H b (k.map V.int)) : Stb.TK X.prog X.w s.heap k b := by
  obtain ⟨its, r1, ⟨o, e, c, n, q⟩, _⟩ := I.tuple h
  exact ⟨o, its.toArray, n, e, c, q, by simpa using items_of (intsAre_of r1)⟩
end DL
end
section
set_option Elab.async false
set_option linter.all false
set_option maxRecDepth 100000
namespace DL
open PySem L2 PyProof.Rows
variable {K : PySem.W.Frag}
end DL
end
section
set_option Elab.async false
set_option linter.all false
namespace DL
open PySem L2
end DL
end
section
set_option Elab.async false
set_option linter.all false
set_option maxRecDepth 100000
namespace Dwk
open PySem
variable {prog : Program} {w : World} {A : Around} {E : Value → Shared → Prop} {s : Shared}
def At (h : Heap) (d : Addr) (ks : List Value) (ep : Nat) : Prop := ∃ (o : Obj) (es : Array DictEntry), h.get? d = some o ∧ o.ExactDict ∧ o.data = .dict es ep ∧ es.toList.map (·.key) = ks
theorem At.type {d : Addr} {ks : List Value} {ep : Nat} (x : At s.heap d ks ep) : s.TypeIs (.ref d) "dict" := let ⟨o, _, h, c, _⟩ := x; ⟨o, h, c.1⟩
theorem At.lt {h : Heap} {d : Addr} {ks : List Value} {ep : Nat} (x : At h d ks ep) : d < h.objs.size := let ⟨_, _, e, _⟩ := x; Heap.lt_size e
theorem At.to {h h' : Heap} {d : Addr} {ks : List Value} {ep : Nat} (x : At h d ks ep) (k : ∀ o, h.get? d = some o → h'.get? d = some o) : At h' d ks ep := let ⟨o, es, e, r⟩ := x; ⟨o, es, k o e, r⟩
theorem sizeOf {es : Array DictEntry} {ks : List Value} (h : es.toList.map (·.key) = ks) : es.size = ks.length := by
  rw [← h, List.length_map, Array.length_toList]
theorem start {d : Addr} {ks : List Value} {ep : Nat} {Q : Value → Shared → Prop} (hd : (d == sysModules) = false) (x : At s.heap d ks ep)
    (q : Q (.ref s.heap.objs.size) { s with heap := s.heap.push { cls := .type "dict_keyiterator", data := .fields #[.ref d, .int 0 0, .int ks.length 0, .int ep 0] } }) : wpAny (model prog w) A (pyIter (.ref d)) Q E s := by
  have hT := x.type
  obtain ⟨o, es, ho, _, hdat, hk⟩ := x
  have hsz := sizeOf hk
  refine wpAny_pyIter_slot hT F.slot_dict_iter (wpAny_call_entry F.slot_dict_iter hT F.entry_dict_iter ?_ (F.args_dict_iter_1 _))
  unfold Builtin.«dict.__iter__» Builtin.Dict.dictSlotNone
  refine wpAny_bind (wpAny_bind (wpAny_notOrdered_dict hT ?_))
  refine (wpAny_pure ?_ : wpAny _ _ (pure (Value.ref d)) _ _ s)
  show wpAny _ _ (Builtin.Dict.showsAll d >>= _) _ _ s
  unfold Builtin.Dict.showsAll
  rw [if_neg (by rw [hd]; exact Bool.false_ne_true)]
  refine wpAny_bind (wpAny_pure (wpAny_bind (wpAny_dictEntries ho hdat (wpAny_bind (wpAny_dictEpoch ho hdat ?_)))))
  refine wpAny_bind (wpAny_newObj_type (wpAny_pure ⟨_, rfl, "dict_keyiterator", _, ⟨_, Heap.get?_push_size _ rfl, rfl⟩, F.slot_dict_keyiterator_next.lookup, ?_⟩))
  simpa [rawInt, hsz] using q
theorem step {J d : Addr} {i ep : Nat} {ks : List Value} {k : Value} {Q : Option Value → Shared → Prop} (hit : s.heap.IsKeyIter J d i ks.length ep) (x : At s.heap d ks ep) (hx : ks[i]? = some k)
    (q : ∀ h', h'.IsKeyIter J d (i + 1) ks.length ep → Heap.SameBut J s.heap h' → Q (some k) { s with heap := h' }) : wpAny (model prog w) A (pyNext (.ref J)) Q E s := by
  obtain ⟨o, ho, hc, hd⟩ := id hit
  obtain ⟨od, es, hod, _, hdd, hk⟩ := x
  have hsz := sizeOf hk
  have hlt : i < es.size := by rw [hsz]; exact (List.getElem?_eq_some_iff.mp hx).1
  have hkey : es[i].key = k := by
    have : (es.toList.map (·.key))[i]? = some k := by rw [hk]; exact hx
    simpa [hlt] using this
  unfold pyNext
  refine wpAny_bind (wpAny_attempt (wpAny_callSpecial?_slot (name := Str.ofString "__next__") hit.typeIs F.slot_dict_keyiterator_next
    (wpAny_call_entry F.slot_dict_keyiterator_next hit.typeIs F.entry_dict_keyiterator_next ?_ (F.args_dict_keyiterator_next_1 _))))
  refine wpAny_bind (wpAny_pure (wpAny_bind (wpAny_bind ?_)))
  first | refine wpAny_bind (wpAny_typeNameOfWhole_keyiter hit.typeIs (wpAny_pure ?_)) | refine wpAny_bind (wpAny_typeNameOf_keyiter hit.typeIs (wpAny_pure ?_))
  refine wpAny_bind (wpAny_fieldsOf ho hd ?_)
  simp only [show Builtin.Dict_items.ownsTuple "dict_keyiterator" = false by decide, Bool.false_eq_true, if_false]
  show wpAny _ _ (if (Value.ref d == Value.none) = true then _ else _) _ _ s
  rw [if_neg (show ¬ ((Value.ref d == Value.none) = true) from Bool.false_ne_true)]
  refine wpAny_bind (wpAny_pure (wpAny_bind (wpAny_dictEntries hod hdd ?_)))
  rw [if_neg (by rw [hsz]; simp)]
  refine wpAny_bind (wpAny_pure (wpAny_bind (wpAny_dictEpoch hod hdd ?_)))
  rw [if_neg (by simp)]
  refine wpAny_pure ?_
  simp only [show ¬ ((i : Int) < 0) from by omega, if_false, Int.toNat_natCast, Array.getElem?_eq_getElem hlt]
  refine wpAny_bind ?_
  first | refine wpAny_bind (wpAny_typeNameOfWhole_keyiter hit.typeIs (wpAny_pure ?_)) | refine wpAny_bind (wpAny_typeNameOf_keyiter hit.typeIs (wpAny_pure ?_))
  refine wpAny_bind (wpAny_isOneOf_keyiter hit.typeIs ?_)
  show wpAny _ _ (setField (.ref J) 1 (rawInt ((i : Int) + 1)) >>= _) _ _ s
  refine wpAny_bind (wpAny_setField ho hd (by simp) ?_)
  have hit' : (s.heap.update J (Obj.mapFields (·.setIfInBounds 1 (rawInt ((i : Int) + 1))))).IsKeyIter J d (i + 1) ks.length ep :=
    ⟨_, Heap.get?_update_self _ ho (Obj.isFreed_of_fields (Obj.data_mapFields hd _)), (Obj.cls_mapFields ..).trans hc, by rw [Obj.data_mapFields hd]; simp [rawInt]⟩
  refine wpAny_bind (wpAny_holding (wpAny_bind (wpAny_isOneOf_keyiter (s := { s with heap := s.heap.update J (Obj.mapFields (·.setIfInBounds 1 (rawInt ((i : Int) + 1)))) }) hit'.typeIs ?_)))
  show wpAny _ _ (pure es[i].key) _ _ _
  rw [hkey]
  exact wpAny_pure (wpAny_pure ⟨_, rfl, wpAny_pure (q _ hit' (Heap.SameBut.update ..))⟩)
theorem last {J d : Addr} {ep : Nat} {ks : List Value} {Q : Option Value → Shared → Prop} (hh : A.handled = none) (hit : s.heap.IsKeyIter J d ks.length ks.length ep) (x : At s.heap d ks ep)
    (q : ∀ h', Heap.ExtBut J s.heap h' → Q none { s with heap := h' }) : wpAny (model prog w) A (pyNext (.ref J)) Q E s := by
  obtain ⟨o, ho, hc, hd⟩ := id hit
  obtain ⟨od, es, hod, _, hdd, hk⟩ := x
  have hsz := sizeOf hk
  unfold pyNext
  refine wpAny_bind (wpAny_attempt (wpAny_callSpecial?_slot (name := Str.ofString "__next__") hit.typeIs F.slot_dict_keyiterator_next
    (wpAny_call_entry F.slot_dict_keyiterator_next hit.typeIs F.entry_dict_keyiterator_next ?_ (F.args_dict_keyiterator_next_1 _))))
  refine wpAny_bind (wpAny_pure (wpAny_bind (wpAny_bind ?_)))
  first | refine wpAny_bind (wpAny_typeNameOfWhole_keyiter hit.typeIs (wpAny_pure ?_)) | refine wpAny_bind (wpAny_typeNameOf_keyiter hit.typeIs (wpAny_pure ?_))
  refine wpAny_bind (wpAny_fieldsOf ho hd ?_)
  simp only [show Builtin.Dict_items.ownsTuple "dict_keyiterator" = false by decide, Bool.false_eq_true, if_false]
  show wpAny _ _ (if (Value.ref d == Value.none) = true then _ else _) _ _ s
  rw [if_neg (show ¬ ((Value.ref d == Value.none) = true) from Bool.false_ne_true)]
  refine wpAny_bind (wpAny_pure (wpAny_bind (wpAny_dictEntries hod hdd ?_)))
  rw [if_neg (by rw [hsz]; simp)]
  refine wpAny_bind (wpAny_pure (wpAny_bind (wpAny_dictEpoch hod hdd ?_)))
  rw [if_neg (by simp)]
  refine wpAny_pure ?_
  simp only [show ¬ ((ks.length : Int) < 0) from by omega, if_false, Int.toNat_natCast, Array.getElem?_eq_none (Nat.le_of_eq hsz)]
  refine wpAny_bind ?_
  first | refine wpAny_bind (wpAny_typeNameOfWhole_keyiter hit.typeIs (wpAny_pure ?_)) | refine wpAny_bind (wpAny_typeNameOf_keyiter hit.typeIs (wpAny_pure ?_))
  show wpAny _ _ (setField (.ref J) 0 .none >>= _) _ _ s
  refine wpAny_bind (wpAny_setField ho hd (by simp) ?_)
  show wpAny _ _ (newExc (.type "StopIteration") [] >>= _) _ _ _
  refine wpAny_bind ?_
  simp only [newExc, newTuple]
  refine wpAny_bind (wpAny_newObj_type ?_ (by size_fits))
  refine wpAny_bind (m := firstArgMember _ _) (wpAny_of_eq (a := Value.none) (by first | rfl | (simp only [firstArgMember]; rfl)) ?_)
  refine wpAny_newObj_type ?_ (by size_fits)
  simp only [raiseNew]
  refine wpAny_bind (wpAny_handled ?_)
  rw [show A.in1.handled = none from hh]
  refine wpAny_bind (wpAny_pure (wpAny_throw ?_))
  refine wpAny_bind (wpAny_isInstance (T := "StopIteration") (b := true) ⟨_, Heap.get?_push_size _ rfl, rfl⟩ isSubtype_stop ?_)
  exact wpAny_pure (q _ (((Heap.SameBut.update ..).extBut.push _).push _))
theorem walks (hh : A.handled = none) (J d : Addr) (hne : d ≠ J) (ks : List Value) (ep : Nat) :
    Walks prog w A J [J, d] [J] ks.length (fun i v => ks[i]? = some v) (fun i h => h.IsKeyIter J d i ks.length ep ∧ At h d ks ep) where
  sub := fun b hb => by simp at hb; simp [hb]
  frame := fun _ _ _ st hk => ⟨st.1.at fun o e => hk J (by simp) o e, st.2.to fun o e => hk d (by simp) o e⟩
  item := fun i s Q E hi st hQ => by
    obtain ⟨k, hx⟩ : ∃ p, ks[i]? = some p := ⟨ks[i], by simp [hi]⟩
    refine step st.1 st.2 hx fun h' hit' hs' => ?_
    exact hQ k h' s.toks hx ⟨hit', st.2.to fun o e => hs'.extBut d o hne e⟩ fun b o hb e => hs'.extBut b o (fun h => hb (by simp [h])) e
  done := fun s Q E st hQ => last hh st.1 st.2 fun h' he' => hQ h' s.toks fun b o hb e => he' b o (fun h => hb (by simp [h])) e
  self := fun _ _ _ _ st hQ => wpAny_pyIter_keyiter st.1 hQ
theorem src {d : Addr} {ks : List Value} {ep : Nat} (lo : (d == sysModules) = false) : PySem.W.KdlSrc prog w "dict" d d ks.length (fun i v => ks[i]? = some v) (fun h => At h d ks ep) where
  type := fun _ x => x.type
  there := fun _ x => ⟨x.lt, x.lt⟩
  keep := fun _ _ x k => x.to fun o e => k d (.inl rfl) o e
  notList := by decide
  notTuple := by decide
  hint := fun _ _ _ _ x q => PySem.W.kdl_hint_dict x.type q
  iter := fun _ _ hh x => ⟨_, _, (fun _ _ q => start lo x q), walks hh _ d (Nat.ne_of_lt x.lt) ks ep, ⟨⟨_, Heap.get?_push_size _ rfl, rfl, rfl⟩, x.to fun o e => Heap.get?_push_of_some _ e⟩⟩
end Dwk
end
section
set_option Elab.async false
set_option linter.all false
set_option maxRecDepth 100000
namespace DL
open PySem L2 PyProof.Rows
variable {K : PySem.W.Frag}
abbrev TsV := List (List Int × Addr × V)
abbrev Rt : List Int × Addr × V → List Int × Addr × Value → Prop := fun t x => t.1 = x.1 ∧ t.2.1 = x.2.1 ∧ RelV t.2.2 x.2.2
def getT : TsV → List Int → Option V
  | [], _ => none
  | t :: r, k => if t.1 = k then some t.2.2 else getT r k
def putT : TsV → List Int → Addr → V → TsV
  | [], k, b, v => [(k, b, v)]
  | t :: r, k, b, v => if t.1 = k then (t.1, t.2.1, v) :: r else t :: putT r k b v
def KsOk (K : PySem.W.Frag) (H : Hp) (ts : TsV) : Prop := ∀ t ∈ ts, SqT K H t.2.1 (t.1.map V.int)
theorem getT_rel {k : List Int} : ∀ {ts : TsV} {xs : List (List Int × Addr × Value)}, Paired Rt ts xs → (match getT ts k with
    | some v => ∃ p, atKey xs k = some p ∧ RelV v p.2
    | none => atKey xs k = none)
  | _, _, .nil => rfl
  | _, _, .cons (a := t) (b := x) (l₁ := ts) (l₂ := xs) h r => by
    obtain ⟨h1, h2, h3⟩ := h
    have ih := getT_rel (k := k) r
    unfold getT
    by_cases e : t.1 = k
    · rw [if_pos e]
      exact ⟨x.2, by simp [atKey, List.find?_cons, h1 ▸ e], h3⟩
    · rw [if_neg e]
      have : atKey (x :: xs) k = atKey xs k := by simp [atKey, List.find?_cons, h1 ▸ e]
      rw [this]; exact ih
theorem put_id {k : List Int} {u : Value} : ∀ {xs : List (List Int × Addr × Value)}, k ∉ xs.map (·.1) → xs.map (putAt k u) = xs
  | [], _ => rfl
  | x :: xs, h => by
    rw [List.map_cons, List.mem_cons, not_or] at h
    rw [List.map_cons, put_id h.2]
    unfold putAt
    rw [if_neg (Ne.symm h.1)]
theorem pair_keys : ∀ {ts : TsV} {xs : List (List Int × Addr × Value)}, Paired Rt ts xs → ts.map (·.1) = xs.map (·.1)
  | _, _, .nil => rfl
  | _, _, .cons h r => by rw [List.map_cons, List.map_cons, h.1, pair_keys r]
theorem put_rel {k : List Int} {b : Addr} {v : V} {u : Value} (hv : RelV v u) : ∀ {ts : TsV} {xs : List (List Int × Addr × Value)}, Paired Rt ts xs → (ts.map (·.1)).Nodup → Paired Rt (putT ts k b v) (storedH xs k b u)
  | _, _, .nil, _ => .cons ⟨rfl, rfl, hv⟩ .nil
  | _, _, .cons (a := t) (b := x) (l₁ := ts) (l₂ := xs) h r, hn => by
    obtain ⟨h1, h2, h3⟩ := h
    rw [List.map_cons, List.nodup_cons] at hn
    have ih := put_rel (k := k) (b := b) hv r hn.2
    unfold putT
    by_cases e : t.1 = k
    · rw [if_pos e]
      have ex : x.1 = k := h1 ▸ e
      have a : atKey (x :: xs) k = some x.2 := by simp [atKey, List.find?_cons, ex]
      rw [storedH_old a, List.map_cons, put_id (by rw [← pair_keys r, ← e]; exact hn.1)]
      refine .cons ?_ r
      unfold putAt
      rw [if_pos ex]
      exact ⟨h1, h2, hv⟩
    · rw [if_neg e]
      have ex : ¬ x.1 = k := h1 ▸ e
      have a : atKey (x :: xs) k = atKey xs k := by simp [atKey, List.find?_cons, ex]
      cases q : atKey xs k with
      | none =>
        rw [storedH_new (a.trans q)]
        rw [storedH_new q] at ih
        exact .cons ⟨h1, h2, h3⟩ ih
      | some p =>
        rw [storedH_old (a.trans q), List.map_cons]
        rw [storedH_old q] at ih
        refine .cons ?_ ih
        unfold putAt
        rw [if_neg ex]
        exact ⟨h1, h2, h3⟩
theorem putT_len (ts : TsV) (k : List Int) (b : Addr) (v : V) : (putT ts k b v).length ≤ ts.length + 1 := by
  induction ts with
  | nil => exact Nat.le_refl _
  | cons t r ih =>
    unfold putT
    split
    · simp
    · simp only [List.length_cons]; omega
theorem putT_keys (ts : TsV) (k : List Int) (b : Addr) (v : V) : (putT ts k b v).map (·.1) = if k ∈ ts.map (·.1) then ts.map (·.1) else ts.map (·.1) ++ [k] := by
  induction ts with
  | nil => rfl
  | cons t r ih =>
    unfold putT
    by_cases e : t.1 = k
    · rw [if_pos e, if_pos (by simp [e])]; rfl
    · rw [if_neg e, List.map_cons, ih, List.map_cons]
      by_cases m : k ∈ r.map (·.1)
      · rw [if_pos m, if_pos (List.mem_cons_of_mem _ m)]
      · rw [if_neg m, if_neg (fun z => (List.mem_cons.mp z).elim (fun q => e q.symm) m)]; rfl
theorem putT_nodup {ts : TsV} {k : List Int} {b : Addr} {v : V} (h : (ts.map (·.1)).Nodup) : ((putT ts k b v).map (·.1)).Nodup := by
  rw [putT_keys]
  split
  · exact h
  · rename_i m
    refine List.nodup_append.mpr ⟨h, List.nodup_cons.mpr ⟨by simp, List.nodup_nil⟩, fun a ha c hc => ?_⟩
    rw [List.mem_singleton] at hc
    exact fun z => m (by rw [← hc, ← z]; exact ha)
section
variable {X : Cx} {pins : List (Addr × Obj)} {σ : L2.St} {H : Hp} {s : Shared}
theorem ts_at (I : Inv X pins σ H s) {a : Addr} {ts : TsV} (h : H a = some (.ext (phiD a ts))) (hk : KsOk X.K H ts) : (a == sysModules) = false ∧ ts.length ≤ sizeLine ∧ (ts.map (·.1)).Nodup ∧ ∃ xs, Paired Rt ts xs ∧ s.heap.DictOfH (tupleKind (intKind X.prog X.w)) a xs := by
  obtain ⟨⟨h1, h2, h3, xs, pr, o, es, ep, ho, he, hd, hes⟩, _, _⟩ := (show ObjOk X.prog X.w H s.heap a (.ext (phiD a ts)) from I.hok a _ h)
  refine ⟨h1, h2, h3, xs, pr, o, es, ep, ho, he, hd, hes, ?_, by rw [← pair_keys pr]; exact h3⟩
  have all : ∀ {ts : TsV} {xs : List (List Int × Addr × Value)}, Paired Rt ts xs → KsOk X.K H ts → ∀ x ∈ xs, (tupleKind (intKind X.prog X.w)).is s.heap x.1 x.2.1 := by
    intro ts xs q
    induction q with
    | nil => intro _ x hx; exact nomatch hx
    | @cons t x ts xs hq _ ih =>
      intro hk y hy
      rcases List.mem_cons.mp hy with e | hy
      · subst e
        have := key_at I (hk t List.mem_cons_self)
        rw [hq.1, hq.2.1] at this
        exact this
      · exact ih (fun t ht => hk t (List.mem_cons_of_mem _ ht)) y hy
  exact all pr hk
end
def rInD (K : PySem.W.Frag) (neg : Bool) : R2 := fun y x H Q => ∃ a b ts k, x = .ref a ∧ y = .ref b ∧ H a = some (.ext (phiD a ts)) ∧ KsOk K H ts ∧ SqT K H b (k.map V.int) ∧ Q (.bl (neg != (getT ts k).isSome)) H
theorem some_rel {k : List Int} {ts : TsV} {xs : List (List Int × Addr × Value)} (pr : Paired Rt ts xs) : (atKey xs k).isSome = (getT ts k).isSome := by
  have g := getT_rel (k := k) pr
  cases e : getT ts k with
  | none => rw [e] at g; rw [show atKey xs k = none from g]; rfl
  | some v => rw [e] at g; obtain ⟨p, hp, _⟩ := g; rw [hp]; rfl
theorem op_inD {X : Cx} (hu : X.A.units + 64 < cLine) : OpR X (compareOp .In) (rInD X.K false) := by
  intro pins s σ H y x u v Q I ry rx h
  obtain ⟨a, b, ts, k, rfl, rfl, hq, hk, hb, q⟩ := h
  cases rx; cases ry
  obtain ⟨h1, h2, h3, xs, pr, dd⟩ := ts_at I hq hk
  refine wpAny_in_heap (tupleKind_room_in1 (by omega)) (key_at I hb) h1 dd ?_
  rw [some_rel pr]
  exact ⟨.bl _, H, I.tok _, rfl, by simpa using q⟩
def rSetD (K : PySem.W.Frag) : V → V → V → Hp → (Hp → Prop) → Prop := fun o i v H Q => ∃ a b ts k, o = .ref a ∧ i = .ref b ∧ H a = some (.ext (phiD a ts)) ∧ KsOk K H ts ∧ SqT K H b (k.map V.int) ∧ ts.length < sizeLine ∧ Q (upd H a (.ext (phiD a (putT ts k b v))))
theorem set_dict {X : Cx} (hu : X.A.units + 64 < cLine) : PSet X (rSetD X.K) := by
  intro pins s σ H o i v ov iv u Q I ro ri rv h
  obtain ⟨a, b, ts, k, rfl, rfl, hq, hk, hb, hl, q⟩ := h
  cases ro; cases ri
  obtain ⟨h1, h2, h3, xs, pr, dd⟩ := ts_at I hq hk
  have hz : xs.length ≤ sizeLine := by have := congrArg List.length (pair_keys pr); simp at this; omega
  refine wpAny_setItem_heap (hsz := hz) (tupleKind_room_in1 (by omega)) (key_at I hb) dd fun h' dd' hs => ⟨_, ?_, q⟩
  obtain ⟨q, es, ep, hq', g2, g3, g4, _, g5⟩ := dd'
  refine I.write (x := a) (e := a) (by rw [hq]; exact True.intro) (.inl rfl) (fun c z hc e => (hs.2 c hc).trans e) ⟨q, hq'⟩ ?_
  have hp := put_rel (k := k) (b := b) rv pr h3
  have hl2 := putT_len ts k b v
  refine ⟨⟨h1, by omega, putT_nodup h3, _, hp, q, es, ep, hq', g2, g3, g4⟩, ⟨q, hq'⟩, fun m1 m2 f kk => ?_⟩
  obtain ⟨f1, f2, f3, xs', f4, o', es', ep', f5, f6⟩ := f
  exact ⟨f1, f2, f3, xs', f4, o', es', ep', kk _ f5, f6⟩
def tNewD : TE := fun _ H Q => ∀ p, H p = none → Q (.ref p) (upd H p (.ext (phiD p [])))
theorem pe_newD {X : Cx} {pos : Pos} : PE X (.Dict [] [] pos) tNewD := fun pins s σ H Q I h => by
  have hb : sysModules < s.heap.objs.size := Nat.lt_trans (by decide) (show mainGlobals < s.heap.objs.size from (I.mod.glob.keeps I.bk).lt)
  have e : (s.heap.push { cls := .type "dict", data := .dict #[] }).get? s.heap.objs.size = some { cls := .type "dict", data := .dict #[] } := Heap.get?_push_size _ rfl
  refine wpAny_Dict_empty ⟨.ref s.heap.objs.size, _, I.laid (a := s.heap.objs.size) (o := .ext (phiD s.heap.objs.size [])) (t' := s.toks) (fun _ _ q => Heap.get?_push_of_some _ q) (Nat.le_refl _) ?_, rfl, h _ (I.hok.fresh (Nat.le_refl _))⟩
  refine ⟨⟨beq_eq_false_iff_ne.mpr (Ne.symm (Nat.ne_of_lt hb)), Nat.zero_le _, List.nodup_nil, [], .nil, _, #[], 0, e, ⟨rfl, rfl, rfl⟩, rfl, rfl⟩, ⟨_, e⟩, fun m1 m2 f kk => ?_⟩
  obtain ⟨f1, f2, f3, xs', f4, o', es', ep', f5, f6⟩ := f
  exact ⟨f1, f2, f3, xs', f4, o', es', ep', kk _ f5, f6⟩
end DL
end
section
set_option Elab.async false
set_option linter.all false
set_option maxRecDepth 100000
namespace DL
open PySem L2 PyProof.Rows
variable {K : PySem.W.Frag}
def getP : List (List Int × PyData) → List Int → Option PyData
  | [], _ => none
  | t :: r, k => if t.1 = k then some t.2 else getP r k
def putP : List (List Int × PyData) → List Int → PyData → List (List Int × PyData)
  | [], k, d => [(k, d)]
  | t :: r, k, d => if t.1 = k then (t.1, d) :: r else t :: putP r k d
theorem putP_len (m : List (List Int × PyData)) (k : List Int) (d : PyData) : (putP m k d).length ≤ m.length + 1 := by
  induction m with
  | nil => exact Nat.le_refl _
  | cons t r ih =>
    unfold putP
    split
    · simp
    · simp only [List.length_cons]; omega
theorem tkI_is {H : Hp} : ∀ {ks : List PyData} {k : List Int} {vs : List V}, tkP.tkI ks = some k → IsL K H ks vs → vs = k.map V.int
  | [], _, _, e, l => by cases e; exact l
  | .int i :: ks, k, vs, e, ⟨x, xs, ev, h, l⟩ => by
    unfold tkP.tkI at e
    obtain ⟨k', e1, rfl⟩ := Option.map_eq_some_iff.mp e
    rw [ev, tkI_is e1 l, show x = V.int i from h]; rfl
  | .none :: _, _, _, e, _ => by cases e
  | .bool _ :: _, _, _, e, _ => by cases e
  | .str _ :: _, _, _, e, _ => by cases e
  | .list _ :: _, _, _, e, _ => by cases e
  | .tuple _ :: _, _, _, e, _ => by cases e
  | .dict _ :: _, _, _, e, _ => by cases e
theorem kv_ok {H : Hp} : ∀ {l : List (PyData × PyData)} {ts : TsV}, IsKV K H l ts → KsOk K H ts
  | [], _, h => by rw [show _ = [] from h]; exact fun t ht => nomatch ht
  | (k, d) :: l, _, ⟨t, tr, e, _, hk, _, r⟩ => by
    subst e
    intro y hy
    rcases List.mem_cons.mp hy with rfl | hy
    · exact hk
    · exact kv_ok r y hy
theorem int_inj : ∀ {a b : List Int}, a.map PyData.int = b.map PyData.int → a = b
  | [], [], _ => rfl
  | [], _ :: _, h => by cases h
  | _ :: _, [], h => by cases h
  | x :: a, y :: b, h => by
    rw [List.map_cons, List.map_cons] at h
    injection h with h1 h2
    injection h1 with h1
    rw [h1, int_inj h2]
theorem tkP_is {H : Hp} : ∀ {l : List (PyData × PyData)} {ts : TsV} {m : List (List Int × PyData)}, IsKV K H l ts → tkP l = some m → m.map (·.1) = ts.map (·.1) ∧ l = dctP m
  | [], _, _, h, e => by cases e; rw [show _ = [] from h]; exact ⟨rfl, rfl⟩
  | (k, d) :: l, _, m, ⟨t, tr, ev, ek, hk, h, r⟩, e => by
    subst ev ek
    unfold tkP at e
    obtain ⟨k', e1, e⟩ := Option.bind_eq_some_iff.mp e
    obtain ⟨m', e2, rfl⟩ := Option.map_eq_some_iff.mp e
    rw [tkI_map] at e1
    cases e1
    obtain ⟨a, b⟩ := tkP_is r e2
    exact ⟨by rw [List.map_cons, List.map_cons, a], by rw [b]; rfl⟩
theorem get_is {H : Hp} {k : List Int} : ∀ {m : List (List Int × PyData)} {ts : TsV}, IsKV K H (dctP m) ts → (match getP m k with
    | some d => ∃ v, getT ts k = some v ∧ Is K H d v
    | none => getT ts k = none)
  | [], _, h => by rw [show _ = [] from h]; rfl
  | (k', d) :: m, _, ⟨t, tr, ev, ek, hk, h, r⟩ => by
    subst ev
    have e1 : k' = t.1 := by
      injection ek with ek
      exact int_inj ek
    have ih := get_is (k := k) r
    unfold getP getT
    by_cases e : t.1 = k
    · rw [if_pos e, if_pos (show ((k', d) : List Int × PyData).1 = k from e1.trans e)]
      exact ⟨_, rfl, h⟩
    · rw [if_neg e, if_neg (show ¬ ((k', d) : List Int × PyData).1 = k from fun z => e (e1.symm.trans z))]
      exact ih
theorem put_is {H : Hp} {k : List Int} {b : Addr} {d : PyData} {v : V} (hb : SqT K H b (k.map V.int)) (hd : Is K H d v) : ∀ {m : List (List Int × PyData)} {ts : TsV}, IsKV K H (dctP m) ts → IsKV K H (dctP (putP m k d)) (putT ts k b v)
  | [], _, h => by rw [show _ = [] from h]; exact ⟨_, [], rfl, rfl, hb, hd, rfl⟩
  | (k', d') :: m, _, ⟨t, tr, ev, ek, hk, h, r⟩ => by
    subst ev
    have e1 : k' = t.1 := by
      injection ek with ek
      exact int_inj ek
    unfold putP putT
    by_cases e : t.1 = k
    · rw [if_pos e, if_pos (show ((k', d') : List Int × PyData).1 = k from e1.trans e)]
      exact ⟨_, tr, rfl, ek, hk, hd, r⟩
    · rw [if_neg e, if_neg (show ¬ ((k', d') : List Int × PyData).1 = k from fun z => e (e1.symm.trans z))]
      exact ⟨t, _, rfl, ek, hk, h, put_is hb hd r⟩
def fInD (neg : Bool) : PyData → PyData → Option PyData
  | .tuple ks, .dict l => (tkP l).bind fun m => (tkP.tkI ks).map fun k => .bool (neg != (getP m k).isSome)
  | _, _ => none
theorem get_some {H : Hp} {k : List Int} {m : List (List Int × PyData)} {ts : TsV} (h : IsKV K H (dctP m) ts) : (getT ts k).isSome = (getP m k).isSome := by
  have g := get_is (k := k) h
  cases e : getP m k with
  | none => rw [e] at g; rw [show getT ts k = none from g]; rfl
  | some d => rw [e] at g; obtain ⟨v, g1, _⟩ := g; rw [g1]; rfl
theorem o_inD {neg : Bool} : OR K false (rInD K neg) (fInD neg) := by
  intro S H y x dy dx d Q _ iy ix e q
  unfold fInD at e
  split at e
  · rename_i ks l
    obtain ⟨m, e1, e⟩ := Option.bind_eq_some_iff.mp e
    obtain ⟨k, e2, rfl⟩ := Option.map_eq_some_iff.mp e
    obtain ⟨a, ts, rfl, h, lv⟩ := ix
    obtain ⟨b, vs, rfl, hb, lb⟩ := iy
    obtain rfl := tkI_is e2 lb
    obtain ⟨_, rfl⟩ := tkP_is lv e1
    refine ⟨a, b, ts, k, rfl, rfl, (hid_iff.mp h).2, fun t ht => Same.tup same_hid (kv_ok lv t ht), Same.tup same_hid hb, ?_⟩
    rw [get_some lv]
    exact q _ H (fun _ _ e => e) rfl
  · cases e
def dNewK (np i : Nat) (τ : DS) : Option Out := if np ≤ i ∧ i < τ.length then some (.nx (τ.set i (some (.k [])))) else none
theorem b_newK {np : Nat} {fr : Bool} {i : Nat} : B K np (tAsg tNewD (gName i)) fr (dNewK np i) := by
  intro F S M τ σ H D out hnp f ee q
  unfold dNewK at ee
  split at ee
  · rename_i hi
    cases ee
    intro a ha
    have s := same_new ha (HO.ext (phiD a []))
    have f1 := f.hide s ha ⟨_, upd_same⟩
    have hM : ¬ M a := fun z => f.r.fresh ha (f.r.sub a z)
    exact q _ _ _ _ (f1.newM (xs := .t []) hi.2 (Nat.le_trans hnp hi.1) (.inr rfl) hM (f.hnone ha) upd_same ⟨[], rfl, rfl⟩) fun b o hn e => ⟨fun z => z.elim hn (ne_of_none e ha), s b o e⟩
  · cases ee
def dPutK (i : Nat) (e k : DX) (τ : DS) : Option Out := (e τ).bind fun p => (k p.2).bind fun q => match q.2[i]?, q.1 with
  | some (some (.k m)), .tuple ks => (tkP.tkI ks).bind fun c => if m.length < sizeLine then some (.nx (q.2.set i (some (.k (putP m c p.1))))) else none
  | _, _ => none
theorem kv_len {H : Hp} : ∀ {l : List (PyData × PyData)} {ts : TsV}, IsKV K H l ts → ts.length = l.length
  | [], _, h => by rw [show _ = [] from h]; rfl
  | (k, d) :: l, _, ⟨t, tr, e, _, _, _, r⟩ => by subst e; rw [List.length_cons, List.length_cons, kv_len r]
theorem b_putK {np : Nat} {fr f1 f2 : Bool} {i : Nat} {te tk : TE} {e k : DX} (he : E K te f1 e) (hk : E K tk f2 k) : B K np (tAsg te (gSub (tVar i) tk (rSetD K))) fr (dPutK i e k) := by
  intro F S M τ σ H D out hnp f ee q
  unfold dPutK at ee
  obtain ⟨⟨x, τ1⟩, e1, ee⟩ := Option.bind_eq_some_iff.mp ee
  obtain ⟨⟨y, τ2⟩, e2, ee⟩ := Option.bind_eq_some_iff.mp ee
  dsimp only at ee
  split at ee
  · rename_i m ks hx
    obtain ⟨c, e3, ee⟩ := Option.bind_eq_some_iff.mp ee
    split at ee
    · rename_i hml
      cases ee
      have lk1 := he.like _ _ _ e1
      have lk2 := hk.like _ _ _ e2
      refine he.weak.run S M τ σ H _ x τ1 f.r e1 fun v H1 r1 c1 i1 => ?_
      obtain ⟨zs, hz⟩ := lk2.kl hx
      obtain ⟨p, ho, hp, hM, _, _⟩ := r1.mt i (.t zs) hz
      refine ⟨.ref p, hp, hk.weak.run S M τ1 σ H1 _ _ τ2 r1 e2 fun w H2 r2 c2 i2 => ?_⟩
      obtain ⟨p', ho', hp', hM', hl, ts, rfl, lv⟩ := r2.mt i (.t m) hx
      rw [hp] at hp'; cases hp'
      have Sp := r2.sub p hM'
      obtain ⟨b, vs, rfl, hb, lb⟩ := i2
      obtain rfl := tkI_is e3 lb
      have lt : ts.length < sizeLine := by rw [kv_len lv]; unfold dctP; rw [List.length_map]; exact hml
      refine ⟨p, b, ts, c, rfl, rfl, hl, fun t ht => Same.tup same_hid (kv_ok lv t ht), Same.tup same_hid hb, lt, ?_⟩
      have cc : Chg (fun b => b = p) H2 (upd H2 p (.ext (phiD p (putT ts c b v)))) := fun b o hn e => by rw [upd_ne hn]; exact e
      have iv : Is K (hid S H2) x v := Is.mono (c2.keep r1.sub).same i1
      have f2 := f.step r2 (c1.trans c2) (lk1.trans lk2)
      have r3 := r2.setO (w := .t m) (w' := .t (putP m c x)) hx hp cc upd_same (by rw [hid_upd Sp]; exact ⟨_, rfl, put_is hb iv lv⟩)
      have c3 : Chg M H2 (upd H2 p (.ext (phiD p (putT ts c b v)))) := fun b o hn e => cc b o (fun z => hn (by subst z; exact hM')) e
      exact q S M σ _ (f2.step r3 c3 (like_setO (w := .t m) (w' := .t (putP m c x)) hx rfl)) (((c1.trans c2).trans c3).keep f.r.sub)
    · cases ee
  · cases ee
theorem inD_eq {neg : Bool} {m : List (List Int × PyData)} {k : List Int} : fInD neg (tupK k) (.dict (dctP m)) = some (.bool (neg != (getP m k).isSome)) := by
  unfold fInD tupK
  dsimp only
  rw [tkP_dct, tkI_map]; rfl
end DL
end
section
set_option Elab.async false
set_option linter.all false
set_option maxRecDepth 100000
namespace DL
open PySem L2
variable {K : PySem.W.Frag}
end DL
end
section
set_option Elab.async false
set_option linter.all false
set_option maxRecDepth 100000
namespace L2
open PySem
end L2
namespace DL
open PySem L2
variable {K : PySem.W.Frag}
end DL
end
section
set_option Elab.async false
set_option linter.all false
set_option maxRecDepth 100000
namespace EnG
open PySem PyProof.Rows
section
variable {prog : Program} {w : World} {A : Around} {E : Value → Shared → Prop} {s : Shared}
end
end EnG
namespace EnG
open PySem PyProof.Rows
open Sem (wp)
open AutoSeq1 (wpAny_loadPart')
section
variable {prog : Program} {w : World} {A : Around} {E : Value → Shared → Prop} {s : Shared}
end
end EnG
namespace L2
open PySem PySem.Spec PyProof.Rows EnG
section
variable {X : Cx} {elts : List Expr} {tp : Pos}
end
end L2
end
section
set_option Elab.async false
set_option linter.all false
set_option maxRecDepth 100000
namespace DL
open PySem L2 PyProof.Rows
variable {K : PySem.W.Frag}
end DL
end
section
set_option Elab.async false
set_option linter.all false
set_option maxRecDepth 100000
namespace L2
open PySem PySem.Spec PyProof.Rows
section
variable {X : Cx} {pos : Pos}
end
end L2
namespace DL
open PySem L2
variable {K : PySem.W.Frag}
end DL
end
section
set_option Elab.async false
set_option linter.all false
set_option maxRecDepth 100000
namespace DL
open PySem L2
variable {K : PySem.W.Frag}
theorem RF.frz {F : Frm} {S M : Addr → Prop} {τ : DS} {σ : St} {H : Hp} (f : RF K F S M τ σ H) {i : Nat} {w : Ow} {p : Addr} (hi : τ[i]? = some (some w.L)) (hp : σ[i]? = some (some (.ref p))) (hnp : F.ar.length ≤ i) :
    RF K F (fun b => S b ∧ b ≠ p) (fun b => M b ∧ b ≠ p) (τ.set i (some (.d w.D))) σ H := by
  have np : ¬ F.M p := fun z => by
    obtain ⟨j, hj⟩ := f.fma p z
    obtain ⟨o, ho⟩ := f.pm j _ hj
    have := f.r.inj j i o w p ho hi (f.par j _ hj) hp
    subst this
    have := (List.getElem?_eq_some_iff.mp hj).1
    omega
  have ns : ¬ F.S p := fun z => by
    obtain ⟨o, ho⟩ := f.fs p z
    obtain ⟨a, h, h1, h2, _⟩ := f.r.mt i w hi
    rw [hp] at h1; cases h1
    rcases f.new p h2 with q | q
    · exact np q
    · rw [q] at ho; cases ho
  exact {
    r := DL.frz f.r hi hp
    sS := fun a z => ⟨f.sS a z, fun e => ns (e ▸ z)⟩
    old := f.old
    new := fun a z => f.new a z.1
    fm := fun a z => ⟨f.fm a z, fun e => np (e ▸ z)⟩
    fs := f.fs
    fsub := f.fsub
    snew := fun a z => f.snew a z.1
    par := f.par
    pm := fun j v e => by
      obtain ⟨o, ho⟩ := f.pm j v e
      have hj : j ≠ i := fun z => by
        subst z
        have := (List.getElem?_eq_some_iff.mp e).1
        omega
      exact ⟨o, by rw [List.getElem?_set_ne (Ne.symm hj)]; exact ho⟩
    fma := f.fma }
end DL
end
section
set_option Elab.async false
set_option linter.all false
set_option maxRecDepth 100000
namespace L2
open PySem PySem.Spec PyProof.Rows
section
variable {X : Cx}
end
end L2
namespace DL
open PySem L2 PyProof.Rows
variable {K : PySem.W.Frag}
end DL
end
section
set_option Elab.async false
set_option linter.all false
set_option maxRecDepth 100000
namespace L2
open PySem PySem.Spec PyProof.Rows
structure Pt (N : Addr → Prop) (fs : List Addr) (h h' : Heap) : Prop where
  same : ∀ b o, h.get? b = some o → ¬ N b → b ∉ fs → h'.get? b = some o
  slot : ∀ b o, h.get? b = some o → ¬ N b → ∃ sl, h'.get? b = some { o with slots := sl }
  size : h.objs.size ≤ h'.objs.size
theorem Pt.trans {N : Addr → Prop} {fs : List Addr} {h h1 h2 : Heap} (a : Pt N fs h h1) (b : Pt N fs h1 h2) : Pt N fs h h2 :=
  ⟨fun c o e n f => b.same c o (a.same c o e n f) n f, fun c o e n => let ⟨_, e1⟩ := a.slot c o e n; let ⟨sl, e2⟩ := b.slot c _ e1 n; ⟨sl, e2⟩, Nat.le_trans a.size b.size⟩
theorem Pt.keeps {N : Addr → Prop} {fs : List Addr} {h h' : Heap} (k : ∀ b o, h.get? b = some o → h'.get? b = some o) (z : h.objs.size ≤ h'.objs.size) : Pt N fs h h' :=
  ⟨fun b o e _ _ => k b o e, fun b o e _ => ⟨o.slots, k b o e⟩, z⟩
def XAt (N : Addr → Prop) (h : Heap) (e : Addr) (C : Addr) (fl : Value) : Prop :=
  ∃ oe vs T oT ts, h.get? e = some oe ∧ (oe.cls = .ref C ∧ oe.dict = none) ∧ oe.data = .fields vs ∧ vs[1]? = some (.ref T) ∧ N T ∧ T ≠ e ∧ h.get? T = some oT ∧ oT.data = .fields ts ∧ ts[3]? = some fl
section
variable {M : Model} {A : Around} {E : Value → Shared → Prop} {s : Shared} {N : Addr → Prop} {base : Heap} {env : Env} {outer : List Env} {L e C : Addr} {Q : Unit → Shared → Prop}
theorem xe_land {fl : Value} {fs : List Addr} (x : XAt N s.heap e C fl) (hNe : N e) (h : ∀ h', Pt N fs s.heap h' → XAt N h' e C .none → Q () { s with heap := h' }) : wpAny M A (setFlight (.ref e) none) Q E s := by
  obtain ⟨oe, vs, T, oT, ts, he, hc, hd, h1, hNT, hTe, hT, hdT, h3⟩ := x
  have hsz3 : 3 < ts.size := (Array.getElem?_eq_some_iff.mp h3).1
  have other : ∀ b, b ≠ T → (s.heap.update T (Obj.mapFields (·.setIfInBounds 3 ((none : Option Addr).elim Value.none fun f => rawInt f)))).get? b = s.heap.get? b :=
    fun b hb => Heap.get?_update_other _ _ (Ne.symm hb)
  unfold setFlight
  refine wpAny_bind (wpAny_field he hd h1 ?_)
  rw [if_pos (show (Value.ref T != Value.none) = true from by simp)]
  refine wpAny_setField hT hdT hsz3 (h _ ⟨fun b o eb nb _ => (other b fun z => nb (z ▸ hNT)).trans eb, fun b o eb nb => ⟨o.slots, (other b fun z => nb (z ▸ hNT)).trans eb⟩, Nat.le_of_eq (Heap.size_after_update ..).symm⟩ ?_)
  exact ⟨oe, vs, T, _, _, (other e (Ne.symm hTe)).trans he, hc, hd, h1, hNT, hTe, Heap.get?_update_self _ hT (Obj.isFreed_of_fields (Obj.data_mapFields hdT _)), Obj.data_mapFields hdT _, by simp [hsz3]⟩
end
end L2
end
section
set_option Elab.async false
set_option linter.all false
set_option maxRecDepth 100000
namespace L2
open PySem PySem.Spec PyProof.Rows
theorem ObjOk.some {P : Program} {w : World} {H : Hp} {h : Heap} {a : Addr} {o : HO} (x : ObjOk P w H h a o) : ∃ u, h.get? a = Option.some u := by
  cases o with
  | lst xs => obtain ⟨_, _, _, _, e⟩ := x; exact ⟨_, e⟩
  | tup xs => obtain ⟨_, _, _, o, e, _⟩ := x; exact ⟨_, e⟩
  | dK kvs => obtain ⟨_, _, _, _, o, _, _, e, _⟩ := x; exact ⟨_, e⟩
  | dT kvs => obtain ⟨_, _, _, _, o, _, _, e, _⟩ := x; exact ⟨_, e⟩
  | set S n => obtain ⟨o, _, _, _, e, _⟩ := x; exact ⟨_, e⟩
  | ins C dx fs => obtain ⟨_, _, _, e, _⟩ := x; exact ⟨_, e⟩
  | own y => obtain ⟨_, e⟩ := x; exact ⟨_, e⟩
  | xd fs => obtain ⟨_, ⟨_, _, _, e, _⟩, _⟩ := x; exact ⟨_, e⟩
  | rng lo hi => obtain ⟨_, _, _, e⟩ := x; exact ⟨_, e⟩
  | frz ob u => obtain ⟨e, _⟩ := x; exact ⟨_, e⟩
  | tbl ps => exact ⟨_, (show h.get? a = Option.some _ from x)⟩
  | met f y => exact ⟨_, (show h.get? a = Option.some _ from x)⟩
  | ext φ => obtain ⟨_, ⟨_, e⟩, _⟩ := x; exact ⟨_, e⟩
def Nw (h : Heap) (H : Hp) : Addr → Prop := fun b => h.get? b = none ∧ H b = none
theorem XAt.mono {N N' : Addr → Prop} {h : Heap} {e C : Addr} {fl : Value} (x : XAt N h e C fl) (k : ∀ b, N b → N' b) : XAt N' h e C fl := by
  obtain ⟨oe, vs, T, oT, ts, he, hc, hd, h1, hNT, r⟩ := x
  exact ⟨oe, vs, T, oT, ts, he, hc, hd, h1, k T hNT, r⟩
theorem Nw.fresh {P : Program} {w : World} {h h' : Heap} {H : Hp} (hok : HOk P w H h') (k : ∀ b o, h.get? b = some o → ∃ o', h'.get? b = some o') {b : Addr} (hb : h'.objs.size ≤ b) : Nw h H b := by
  refine ⟨?_, hok.fresh hb⟩
  cases q : h.get? b with
  | none => rfl
  | some o =>
    obtain ⟨o', e⟩ := k b o q
    exact absurd (Nat.lt_of_lt_of_le (Heap.lt_size e) hb) (Nat.lt_irrefl _)
theorem un_pt {N : Addr → Prop} {fs gs : List Addr} {H H1 : Hp} {h h1 h2 : Heap} (u : Un fs [] H H1 h h1) (p : Pt N gs h1 h2) (hN : ∀ b o, h.get? b = some o → ¬ N b) (hg : ∀ b o, h.get? b = some o → b ∈ gs → b ∈ fs) : Un fs [] H H1 h h2 where
  keep := fun b o q n hb hx => p.same b o (u.keep b o q n hb hx) (hN b o q) fun z => hb (hg b o q z)
  slot := fun b o q n hb hx => by
    obtain ⟨sl, e⟩ := u.slot b o q n hb hx
    obtain ⟨sl', e'⟩ := p.slot b _ e (hN b o q)
    exact ⟨sl', e'⟩
  free := u.free
  there := fun b o q hx => by
    obtain ⟨o', e⟩ := u.there b o q hx
    obtain ⟨sl', e'⟩ := p.slot b _ e (hN b o q)
    exact ⟨_, e'⟩
  tups := u.tups
  frzs := u.frzs
  tbls := u.tbls
theorem hok_pt {P : Program} {w : World} {N : Addr → Prop} {gs : List Addr} {H : Hp} {h h' : Heap} (hok : HOk P w H h) (p : Pt N gs h h') (hN : ∀ b, N b → H b = none) (hg : ∀ b ∈ gs, H b = none) : HOk P w H h' := fun a o e => by
  have tr : ∀ b x u, H b = some x → h.get? b = some u → h'.get? b = some u := fun b x u q e1 => p.same b u e1 (fun z => by rw [hN b z] at q; cases q) fun z => by rw [hg b z] at q; cases q
  refine (hok a o e).stay (fun b u hb q => ?_) (fun _ q => q) fun _ _ q => q
  rcases hb with rfl | hb
  · exact tr b o u e q
  · exact tr b _ u hb q
end L2
end
section
set_option Elab.async false
set_option linter.all false
set_option maxRecDepth 100000
namespace L2
open PySem PySem.Spec PyProof.Rows
abbrev Cx.within (X : Cx) (ea : Addr) (oe : Obj) : Cx := { X with A := X.A.mark (some (.ref ea)), calm := false, pn := X.pn ++ [(ea, oe)], xe := fun _ _ => False }
theorem Inv.within {X : Cx} {pins : List (Addr × Obj)} {σ : St} {H : Hp} {s : Shared} {ea : Addr} {oe : Obj} (I : Inv X pins σ H s) (h : s.heap.get? ea = some oe ∧ H ea = none ∧ ea ≠ X.env.locals ∧ ea ∉ X.fs ∧ ∀ v, oe.data ≠ .cell v) :
    Inv (X.within ea oe) pins σ H s := by
  have ok := I.ok
  refine ⟨⟨ok.mod, ok.kind, ok.glob, ok.blt, ok.above, ok.inj, ok.has, ok.cab, (fun z => nomatch z), ok.frames, ok.stk, ok.exf, ok.bs, ok.bsz, ok.noex, ok.exfs, ok.funs, ok.frf⟩, I.os, I.bare, I.base, I.loc, I.cell, I.free, I.freeC, fun p hp => ?_, I.hok, I.len⟩
  rcases List.mem_append.mp hp with hp | hp
  · rcases List.mem_append.mp hp with hp | hp
    · exact I.pin p (List.mem_append_left _ hp)
    · obtain rfl := List.mem_singleton.mp hp
      exact h
  · exact I.pin p (List.mem_append_right _ hp)
theorem Inv.without {X : Cx} {pins : List (Addr × Obj)} {σ : St} {H : Hp} {s : Shared} {ea : Addr} {oe : Obj} (ok : X.Ok) (I : Inv (X.within ea oe) pins σ H s) : Inv X pins σ H s :=
  ⟨ok, I.os, I.bare, I.base, I.loc, I.cell, I.free, I.freeC, fun p hp => (List.mem_append.mp hp).elim (fun z => I.pin p (List.mem_append_left _ (List.mem_append_left _ z))) (fun z => I.pin p (List.mem_append_right _ z)), I.hok, I.len⟩
theorem SP.without {X : Cx} {pins : List (Addr × Obj)} {ea : Addr} {oe : Obj} {D : Ends} {f : Flow} {s' : Shared} (ok : X.Ok) (h : SP (X.within ea oe) pins D f s') : SP X pins D f s' := by
  cases f with
  | next => obtain ⟨σ', H', I, q⟩ := h; exact ⟨σ', H', I.without ok, q⟩
  | brk => obtain ⟨σ', H', I, q⟩ := h; exact ⟨σ', H', I.without ok, q⟩
  | cont => obtain ⟨σ', H', I, q⟩ := h; exact ⟨σ', H', I.without ok, q⟩
  | ret u => obtain ⟨v, σ', H', I, r, q⟩ := h; exact ⟨v, σ', H', I.without ok, r, q⟩
structure Got1 (X : Cx) (pins : List (Addr × Obj)) (σ : St) (H H' : Hp) (s : Shared) (ea C : Addr) (fl : Value) (s3 : Shared) : Prop where
  os : s3.os = s.os
  bare : AllBare s3.gens
  un : Un (frs X.stack) [] H H' s.heap s3.heap
  hok : HOk X.prog X.w H' s3.heap
  new : Nw s.heap H' ea
  xat : XAt (Nw s.heap H') s3.heap ea C fl
section
variable {X : Cx} {pins : List (Addr × Obj)} {σ : St} {H H' : Hp} {s s3 : Shared} {ea C : Addr} {fl : Value}
theorem Got1.inv (g : Got1 X pins σ H H' s ea C fl s3) (I : Inv X pins σ H s) : Inv X pins σ H' s3 := I.call' g.os g.un g.hok g.bare fun _ z => nomatch z
theorem Got1.old {b : Addr} {o : Obj} (e : s.heap.get? b = some o) : ¬ Nw s.heap H' b := fun z => by rw [z.1] at e; cases e
theorem Got1.fresh (g : Got1 X pins σ H H' s ea C fl s3) : ∀ b, s3.heap.objs.size ≤ b → Nw s.heap H' b := fun b hb => Nw.fresh g.hok (fun c o q => g.un.there c o q (by simp)) hb
theorem Got1.step {fl' : Value} {h4 : Heap} (g : Got1 X pins σ H H' s ea C fl s3) (I : Inv X pins σ H s) (p : Pt (Nw s.heap H') (frs X.stack) s3.heap h4) (x : XAt (Nw s.heap H') h4 ea C fl') : Got1 X pins σ H H' s ea C fl' { s3 with heap := h4 } :=
  ⟨g.os, g.bare, un_pt g.un p (fun b o e => Got1.old e) fun _ _ _ z => z, hok_pt g.hok p (fun b z => z.2) (g.inv I).stkFree, g.new, x⟩
theorem Got1.pin (g : Got1 X pins σ H H' s ea C fl s3) (I : Inv X pins σ H s) : ∃ oe, (s3.heap.get? ea = some oe ∧ H' ea = none ∧ ea ≠ X.env.locals ∧ ea ∉ X.fs ∧ ∀ v, oe.data ≠ .cell v) ∧ oe.cls = .ref C ∧ oe.dict = none ∧ PySem.W.notCls oe = true := by
  obtain ⟨oe, vs, T, oT, ts, he, hc, hd, _⟩ := g.xat
  refine ⟨oe, ⟨he, g.new.2, fun z => ?_, fun z => ?_, fun v => by rw [hd]; intro q; cases q⟩, hc.1, hc.2, ?_⟩
  · obtain ⟨m, ⟨o, _, _, ho, _⟩, _⟩ := I.loc
    have := g.new.1
    rw [z, ho] at this; cases this
  · obtain ⟨_, o, ho, _⟩ := I.funs.mem z
    have := g.new.1
    rw [ho] at this; cases this
  · obtain ⟨c, d, dt, sl⟩ := oe
    cases hd
    rfl
theorem Got1.again {M : Model} {A : Around} {E0 : Value → Shared → Prop} {R : Shared → Prop} (g : Got1 X pins σ H H' s ea C .none s3) (I : Inv X pins σ H s)
    (h : ∀ s4, Got1 X pins σ H H' s ea C .none s4 → R s4) : wpAny M A (setFlight (.ref ea) none) (fun _ s₃ => R s₃) E0 s3 :=
  xe_land (fs := frs X.stack) g.xat g.new fun h5 p5 x5 => h _ (g.step I p5 x5)
end
structure Catches (K : PySem.W.Frag) (C D : Addr) : Prop where
  ty : PySem.W.typeIn K (.ref D) = some (.type "type")
  cl : (PySem.W.clsIn K D).isSome = true
  sub : PySem.W.subIn K (.ref C) (.ref D) = some true
  exc : PySem.W.subIn K (.ref D) (.type "BaseException") = some true
section
variable {X : Cx} {k : Nat} {f C D' : Addr} {fd : FuncData} {ps : List Str} {sp : Sp} {x cn : Str} {p pos p1 np hp p2 : Pos} {e : Expr} {es : List Expr} {t : TA} {b₀ : Stmt} {suite : List Stmt} {ts : Addr → TS}
end
end L2
end
section
set_option Elab.async false
set_option linter.all false
set_option maxRecDepth 100000
namespace L2
open PySem PySem.Spec PyProof.Rows PySem.W
section
variable {prog : Program} {w : World} {A : Around} {E : Value → Shared → Prop} {s : Shared} {K : Frag} {x C : Addr} {ox : Obj}
structure XCls (K : Frag) (C : Addr) : Prop where
  ga : findIn K (.ref C) "__getattribute__" = some (some (.builtin "BaseException.__getattribute__"))
  gt : findIn K (.ref C) "__getattr__" = some none
  cl : (clsIn K C).isSome = true
  ha : findIn K (.ref C) "__class__" = some (some (.builtin "object.__class__"))
  hn : specialIn K (.builtin "object.__class__") "__get__" = some (some (.builtin "getset_descriptor.__get__"))
  ht : takesIn K (.builtin "object.__class__") = some true
  ob : mroIn K C (.type "object") = some true
  be : mroIn K C (.type "BaseException") = some true
end
section
variable {X : Cx} {ea C : Addr} {oe : Obj}
end
end L2
end
section
set_option Elab.async false
set_option linter.all false
set_option maxRecDepth 100000
namespace L2
open PySem PySem.Spec PyProof.Rows
theorem Inv.gone {X : Cx} {pins : List (Addr × Obj)} {σ : St} {H : Hp} {s : Shared} {h' : Heap} {m' : Str → Option Value} {t' : Nat} (I : Inv X pins σ H s) (hn : h'.Ns X.env.locals m') (hs : Heap.SameBut X.env.locals s.heap h') :
    Inv X pins (σ.map fun _ => none) H { s with heap := h', toks := t' } := by
  refine ⟨I.ok, I.os, I.bare, ⟨fun b o e n hb hx => ?_, fun b o e n hb hx => ?_, I.base.free, fun b o e hx => ?_, I.base.tups, I.base.frzs, I.base.tbls⟩, ⟨_, hn, fun j y v' e1 e2 e3 => ?_⟩, fun y c e => ?_, I.free, I.freeC, fun p hp => ?_, fun b ob e => ?_, by simpa using I.len⟩
  · exact (hs.2 b (Nat.ne_of_lt (Nat.lt_of_lt_of_le (Heap.lt_size e) I.ok.above))).trans (I.base.keep b o e n hb hx)
  · obtain ⟨sl, e1⟩ := I.base.slot b o e n hb hx
    exact ⟨sl, (hs.2 b (Nat.ne_of_lt (Nat.lt_of_lt_of_le (Heap.lt_size e) I.ok.above))).trans e1⟩
  · obtain ⟨o', e1⟩ := I.base.there b o e hx
    exact ⟨o', (hs.2 b (Nat.ne_of_lt (Nat.lt_of_lt_of_le (Heap.lt_size e) I.ok.above))).trans e1⟩
  · rw [List.getElem?_map] at e2
    cases q : σ[j]? with
    | none => rw [q] at e2; cases e2
    | some z => rw [q] at e2; cases e2
  · obtain ⟨w', z⟩ := I.cell y c e
    exact ⟨w', z.sameBut hs (I.cne y c e)⟩
  · obtain ⟨e, n, ne, nf, d⟩ := I.pin p hp
    exact ⟨(hs.2 p.1 ne).trans e, n, ne, nf, d⟩
  · refine (I.hok b ob e).stay (fun c w' hc q => (hs.2 c ?_).trans q) (fun _ q => q) fun _ _ q => q
    rintro rfl
    rcases hc with rfl | hc
    · rw [I.free] at e; cases e
    · rw [I.free] at hc; cases hc
section
variable {X : Cx} {k i : Nat} {f C D' : Addr} {fd : FuncData} {ps : List Str} {sp : Sp} {x cn n : Str} {p pos p1 np hp p2 : Pos} {e : Expr} {es : List Expr} {t : TA} {b₀ : Stmt} {suite : List Stmt} {ts : Addr → TS}
end
end L2
end
section
set_option Elab.async false
set_option linter.all false
set_option maxRecDepth 100000
namespace L2
open PySem PySem.Spec PyProof.Rows
end L2
namespace DL
open PySem L2
instance {i j : Int} : Decidable (CDivM i j) := by unfold CDivM Bd; infer_instance
end DL
end
section
set_option Elab.async false
set_option linter.all false
set_option maxRecDepth 100000
namespace L2
open PySem PySem.Spec PyProof.Rows
end L2
namespace DL
open PySem L2 PyProof.Rows
variable {K : PySem.W.Frag}
mutual
def constIn (K : PySem.W.Frag) : PyData → Value → Bool
  | .int i, .int j _ => decide (i = j)
  | .str x, .str y _ => decide (x = y)
  | .tuple ds, .ref a => match K.lookup a with
    | some ⟨.type "tuple", _, .seq its _, _⟩ => decide (its.size ≤ 1000) && constInL K ds its.toList
    | _ => false
  | _, _ => false
def constInL (K : PySem.W.Frag) : List PyData → List Value → Bool
  | [], [] => true
  | d :: ds, v :: vs => constIn K d v && constInL K ds vs
  | _, _ => false
end
def KdL (K : PySem.W.Frag) (w : World) : List DictEntry → List (Str × PyData) → Prop
  | [], [] => True
  | e :: es, p :: tb => (∃ t, e.key = .str p.1 t) ∧ e.hash = hashStr w p.1 ∧ constIn K p.2 e.val = true ∧ KdL K w es tb
  | _, _ => False
structure KD (K : PySem.W.Frag) (w : World) (a : Addr) (tb : List (Str × PyData)) : Prop where
  ex : ∃ es n, K.lookup a = some ⟨.type "dict", none, .dict es n, #[]⟩ ∧ KdL K w es.toList tb
end DL
end
section
set_option Elab.async false
set_option linter.all false
set_option maxRecDepth 100000
namespace DL
open PySem L2
variable {K : PySem.W.Frag}
section
variable {S S' : Addr → Prop} {H : Hp}
mutual
theorem Dp.is (k : TSm (hid S H) (hid S' H)) : ∀ {d : PyData} {v : V} {F : List Addr}, (∀ a ∈ F, ¬ S' a) → Dp K S H d v F → Is K (hid S' H) d v
  | .none, _, _, _, h => h.1
  | .bool _, _, _, _, h => h.1
  | .int _, _, _, _, h => h.1
  | .str _, _, _, _, h => h.1
  | .tuple _, _, _, f, ⟨a, vs, e, h, l⟩ => ⟨a, vs, e, k.tup h, DpL.is k f l⟩
  | .list _, _, _, f, ⟨a, vs, G, e, e2, h, l⟩ => ⟨a, vs, e, hid_iff.mpr ⟨f a (by rw [e2]; exact List.mem_cons_self ..), h⟩, DpL.is k (fun b hb => f b (by rw [e2]; exact List.mem_cons_of_mem _ hb)) l⟩
theorem DpL.is (k : TSm (hid S H) (hid S' H)) : ∀ {ds : List PyData} {vs : List V} {F : List Addr}, (∀ a ∈ F, ¬ S' a) → DpL K S H ds vs F → IsL K (hid S' H) ds vs
  | [], _, _, _, h => h.1
  | _ :: _, _, _, f, ⟨x, xs, F1, F2, e, e2, h, l⟩ => ⟨x, xs, e, Dp.is k (fun b hb => f b (by rw [e2]; exact List.mem_append_left _ hb)) h, DpL.is k (fun b hb => f b (by rw [e2]; exact List.mem_append_right _ hb)) l⟩
end
mutual
theorem Dp.lst : ∀ {d : PyData} {v : V} {F : List Addr}, Dp K S H d v F → ∀ a ∈ F, ∃ vs, H a = some (.lst vs)
  | .none, _, _, h, a, q => by rw [h.2] at q; cases q
  | .bool _, _, _, h, a, q => by rw [h.2] at q; cases q
  | .int _, _, _, h, a, q => by rw [h.2] at q; cases q
  | .str _, _, _, h, a, q => by rw [h.2] at q; cases q
  | .tuple _, _, _, ⟨_, vs, e, h, l⟩, a, q => DpL.lst l a q
  | .list _, _, _, ⟨b, vs, G, e, e2, h, l⟩, a, q => by
    rw [e2] at q
    rcases List.mem_cons.mp q with rfl | q
    · exact ⟨vs, h⟩
    · exact DpL.lst l a q
theorem DpL.lst : ∀ {ds : List PyData} {vs : List V} {F : List Addr}, DpL K S H ds vs F → ∀ a ∈ F, ∃ vs, H a = some (.lst vs)
  | [], _, _, h, a, q => by rw [h.2] at q; cases q
  | _ :: _, _, _, ⟨x, xs, F1, F2, e, e2, h, l⟩, a, q => by
    rw [e2] at q
    rcases List.mem_append.mp q with q | q
    · exact Dp.lst h a q
    · exact DpL.lst l a q
end
mutual
theorem Dp.fix : ∀ {d : PyData} {v : V}, fixD d = true → Is K (hid S H) d v → Dp K S H d v []
  | .none, _, _, h => ⟨h, rfl⟩
  | .bool _, _, _, h => ⟨h, rfl⟩
  | .int _, _, _, h => ⟨h, rfl⟩
  | .str _, _, _, h => ⟨h, rfl⟩
  | .tuple _, _, f, ⟨a, vs, e, h, l⟩ => ⟨a, vs, e, h, DpL.fix f l⟩
  | .list _, _, f, _ => absurd f Bool.false_ne_true
  | .dict _, _, f, _ => absurd f Bool.false_ne_true
theorem DpL.fix : ∀ {ds : List PyData} {vs : List V}, fixDs ds = true → IsL K (hid S H) ds vs → DpL K S H ds vs []
  | [], _, _, h => ⟨h, rfl⟩
  | _ :: _, _, f, ⟨x, xs, e, h, l⟩ => ⟨x, xs, [], [], e, rfl, Dp.fix (by rw [fixDs, Bool.and_eq_true] at f; exact f.1) h, DpL.fix (by rw [fixDs, Bool.and_eq_true] at f; exact f.2) l⟩
end
mutual
theorem Dp.unfix : ∀ {d : PyData} {v : V} {F : List Addr}, fixD d = true → Dp K S H d v F → F = [] ∧ Is K (hid S H) d v
  | .none, _, _, _, h => ⟨h.2, h.1⟩
  | .bool _, _, _, _, h => ⟨h.2, h.1⟩
  | .int _, _, _, _, h => ⟨h.2, h.1⟩
  | .str _, _, _, _, h => ⟨h.2, h.1⟩
  | .tuple _, _, _, f, ⟨a, vs, e, h, l⟩ => let ⟨z, y⟩ := DpL.unfix f l; ⟨z, a, vs, e, h, y⟩
  | .list _, _, _, f, _ => absurd f Bool.false_ne_true
  | .dict _, _, _, f, _ => absurd f Bool.false_ne_true
theorem DpL.unfix : ∀ {ds : List PyData} {vs : List V} {F : List Addr}, fixDs ds = true → DpL K S H ds vs F → F = [] ∧ IsL K (hid S H) ds vs
  | [], _, _, _, h => ⟨h.2, h.1⟩
  | _ :: _, _, _, f, ⟨x, xs, F1, F2, e, e2, h, l⟩ => by
    rw [fixDs, Bool.and_eq_true] at f
    obtain ⟨rfl, y1⟩ := Dp.unfix f.1 h
    obtain ⟨rfl, y2⟩ := DpL.unfix f.2 l
    exact ⟨e2, x, xs, e, y1, y2⟩
end
theorem DpL.length : ∀ {ds : List PyData} {vs : List V} {F : List Addr}, DpL K S H ds vs F → vs.length = ds.length
  | [], _, _, h => by rw [h.1]; rfl
  | _ :: _, _, _, ⟨x, xs, F1, F2, e, e2, h, l⟩ => by rw [e, List.length_cons, List.length_cons, DpL.length l]
theorem DpL.snoc : ∀ {ds : List PyData} {vs : List V} {F : List Addr} {d : PyData} {v : V} {G : List Addr}, DpL K S H ds vs F → Dp K S H d v G → DpL K S H (ds ++ [d]) (vs ++ [v]) (F ++ G)
  | [], _, _, d, v, G, ⟨rfl, rfl⟩, h => ⟨v, [], G, [], rfl, by simp, h, rfl, rfl⟩
  | _ :: _, _, _, d, v, G, ⟨x, xs, F1, F2, e, e2, h, l⟩, h2 => ⟨x, xs ++ [v], F1, F2 ++ G, by rw [e]; rfl, by rw [e2, List.append_assoc], h, DpL.snoc l h2⟩
theorem DpL.at : ∀ {ds : List PyData} {vs : List V} {F : List Addr} {y : Nat} {d : PyData}, DpL K S H ds vs F → F.Nodup → ds[y]? = some d → ∃ x Fy, vs[y]? = some x ∧ (∀ a ∈ Fy, a ∈ F) ∧ Fy.Nodup ∧ Dp K S H d x Fy ∧
    ∀ (H' : Hp) (d' : PyData), TSm (hid S H) (hid S H') → (∀ a ∈ F, a ∉ Fy → H' a = H a) → Dp K S H' d' x Fy → DpL K S H' (ds.set y d') vs F
  | [], _, _, _, _, _, _, e => by simp at e
  | d0 :: ds, _, _, 0, d, ⟨x, xs, F1, F2, e, e2, h, l⟩, hn, q => by
    subst e e2
    simp at q
    subst q
    obtain ⟨n1, n2, n3⟩ := List.nodup_append.mp hn
    refine ⟨x, F1, rfl, fun a ha => List.mem_append_left _ ha, n1, h, fun H' d' ts hh hd => ⟨x, xs, F1, F2, rfl, rfl, hd, l.mono ts fun a ha => hh a (List.mem_append_right _ ha) fun z => n3 a z a ha rfl⟩⟩
  | d0 :: ds, _, _, y + 1, d, ⟨x, xs, F1, F2, e, e2, h, l⟩, hn, q => by
    subst e e2
    obtain ⟨n1, n2, n3⟩ := List.nodup_append.mp hn
    obtain ⟨x', Fy, a1, a2, a3, a4, a5⟩ := DpL.at (y := y) (d := d) l n2 (by simpa using q)
    refine ⟨x', Fy, by simpa using a1, fun a ha => List.mem_append_right _ (a2 a ha), a3, a4, fun H' d' ts hh hd => ⟨x, xs, F1, F2, rfl, rfl, h.mono ts fun a ha => hh a (List.mem_append_left _ ha) fun z => n3 a ha a (a2 a z) rfl, a5 H' d' ts (fun a ha => hh a (List.mem_append_right _ ha)) hd⟩⟩
end
theorem Dp.set2 {S : Addr → Prop} {H : Hp} {rows cs : List PyData} {v : V} {F : List Addr} {y x : Nat} {d3 : PyData} {v3 : V} (h : Dp K S H (.list rows) v F) (hn : F.Nodup) (hS : ∀ a ∈ F, S a) (hy : rows[y]? = some (.list cs)) (hf : fixDs cs = true) (f3 : fixD d3 = true) (i3 : Is K (hid S H) d3 v3) :
    ∃ a vs p cvs, v = .ref a ∧ H a = some (.lst vs) ∧ vs.length = rows.length ∧ a ∈ F ∧ vs[y]? = some (.ref p) ∧ p ∈ F ∧ H p = some (.lst cvs) ∧ cvs.length = cs.length ∧ Dp K S (upd H p (.lst (cvs.set x v3))) (.list (rows.set y (.list (cs.set x d3)))) v F := by
  obtain ⟨a, vs, G, rfl, rfl, ha, l⟩ := h
  obtain ⟨na, nG⟩ := List.nodup_cons.mp hn
  obtain ⟨u, Fy, h1, h2, h3, ⟨p, cvs, Gy, rfl, rfl, hp, lc⟩, h5⟩ := DpL.at l nG hy
  obtain ⟨rfl, lc'⟩ := DpL.unfix hf lc
  have pG : p ∈ G := h2 p (List.mem_cons_self ..)
  have pF : p ∈ a :: G := List.mem_cons_of_mem _ pG
  have ap : a ≠ p := fun z => na (z ▸ pG)
  refine ⟨a, vs, p, cvs, rfl, ha, l.length, List.mem_cons_self .., h1, pF, hp, lc'.length, a, vs, G, rfl, rfl, by rw [upd_ne ap]; exact ha, ?_⟩
  have eh : hid S (upd H p (.lst (cvs.set x v3))) = hid S H := hid_upd (hS p pF)
  refine h5 _ _ (by rw [eh]; exact .refl) (fun b hb hn => upd_ne fun z => hn (by rw [z]; exact List.mem_cons_self ..)) ⟨p, _, [], rfl, rfl, upd_same, ?_⟩
  have fs : ∀ (cs : List PyData) (x : Nat), fixDs cs = true → fixDs (cs.set x d3) = true := by
    intro cs
    induction cs with
    | nil => intro x h; exact h
    | cons c cs ih =>
      intro x h
      rw [fixDs, Bool.and_eq_true] at h
      cases x with
      | zero => rw [List.set_cons_zero, fixDs, Bool.and_eq_true]; exact ⟨f3, h.2⟩
      | succ x => rw [List.set_cons_succ, fixDs, Bool.and_eq_true]; exact ⟨h.1, ih x h.2⟩
  exact DpL.fix (fs cs x hf) (by rw [eh]; exact isl_set lc' i3)
def mem (F : List Addr) (b : Addr) : Prop := b ∈ F
theorem frzG {S M : Addr → Prop} {τ : DS} {σ : St} {H : Hp} (r : R K S M τ σ H) {i : Nat} {d : PyData} (hi : τ[i]? = some (some (.g d))) :
    ∃ v F, σ[i]? = some (some v) ∧ Dp K S H d v F ∧ F.Nodup ∧ (∀ a ∈ F, M a) ∧ (∀ (j : Nat) (o : Ow) (a : Addr), τ[j]? = some (some o.L) → σ[j]? = some (some (.ref a)) → a ∉ F) ∧ R K (fun b => S b ∧ b ∉ F) (fun b => M b ∧ b ∉ F) (τ.set i (some (.d d))) σ H := by
  obtain ⟨φ, g⟩ := r.gr
  obtain ⟨⟨v, g1, g2⟩, g3, g4, g5, g6⟩ := g i d hi
  refine ⟨v, φ i, g1, g2, g3, g4, g5, ?_⟩
  have hlt : i < τ.length := (List.getElem?_eq_some_iff.mp hi).1
  have ne : ∀ j, j ≠ i → (τ.set i (some (.d d)))[j]? = τ[j]? := fun j hj => List.getElem?_set_ne (Ne.symm hj)
  have se : (τ.set i (some (.d d)))[i]? = some (some (.d d)) := List.getElem?_set_self hlt
  have k : Same (hid S H) (hid (fun b => S b ∧ b ∉ φ i) H) := hid_less fun a z => z.1
  have mn : ∀ (j : Nat) (ys : Ow), (τ.set i (some (.d d)))[j]? = some (some ys.L) → j ≠ i ∧ τ[j]? = some (some ys.L) := fun j ys e => by
    by_cases hj : j = i
    · subst hj; rw [se] at e; exact absurd (Option.some.inj (Option.some.inj e)).symm Ow.not_d
    · rw [ne j hj] at e; exact ⟨hj, e⟩
  have cs : ∀ (j : Nat) (ys : List PyData), (τ.set i (some (.d d)))[j]? = some (some (.c ys)) → τ[j]? = some (some (.c ys)) := fun j ys e => by
    by_cases hj : j = i
    · subst hj; rw [se] at e; cases e
    · rw [ne j hj] at e; exact e
  refine ⟨by rw [List.length_set]; exact r.len, fun j x e => ?_, fun j ys e => ?_, fun j ys e => let ⟨a, vs, h1, h2, h3⟩ := r.cst j ys (cs j ys e); ⟨a, vs, h1, k.seq h2, h3.mono k⟩, fun j1 j2 ys zs b e1 e2 f1 f2 => ?_, fun a h => ⟨r.sub a h.1, h.2⟩, fun a h => r.ex a h.1, ?_⟩
  · by_cases hj : j = i
    · subst hj
      rw [se] at e
      cases e
      exact ⟨v, g1, g2.is (tsS k) fun a ha z => z.2 ha⟩
    · rw [ne j hj] at e
      obtain ⟨v, h1, h2⟩ := r.dat j x e
      exact ⟨v, h1, h2.mono k⟩
  · obtain ⟨hj, e⟩ := mn j ys e
    obtain ⟨b, us, h1, h2, h3, h4⟩ := r.mt j ys e
    exact ⟨b, us, h1, ⟨h2, g5 j ys b e h1⟩, h3, h4.mono k⟩
  · exact r.inj j1 j2 ys zs b (mn _ _ e1).2 (mn _ _ e2).2 f1 f2
  · refine ⟨φ, fun j x e => ?_⟩
    by_cases hj : j = i
    · subst hj; rw [se] at e; cases e
    · rw [ne j hj] at e
      obtain ⟨⟨v', q1, q2⟩, q3, q4, q5, q6⟩ := g j x e
      refine ⟨⟨v', q1, q2.mono (tsS k) fun _ _ => rfl⟩, q3, fun a ha => ⟨q4 a ha, q6 i d (Ne.symm hj) hi a ha⟩, fun j' o a z1 z2 => q5 j' o a (mn j' o z1).2 z2, fun j' x' hj' z => ?_⟩
      by_cases hj2 : j' = i
      · subst hj2; rw [se] at z; cases z
      · rw [ne j' hj2] at z; exact q6 j' x' hj' z
theorem unfrzG {S M : Addr → Prop} {τ τ1 : DS} {σ : St} {H H3 H4 : Hp} (r : R K S M τ σ H) {i : Nat} {d d' : PyData} {v : V} {F : List Addr} (hi : τ[i]? = some (some (.g d))) (hv : σ[i]? = some (some v)) (hn : F.Nodup) (hM : ∀ a ∈ F, M a)
    (ho : ∀ (j : Nat) (o : Ow) (a : Addr), τ[j]? = some (some o.L) → σ[j]? = some (some (.ref a)) → a ∉ F)
    (r1 : R K (fun b => S b ∧ b ∉ F) (fun b => M b ∧ b ∉ F) τ1 σ H3) (lk : Like (τ.set i (some (.d d))) τ1) (c : Chg (fun b => M b ∧ b ∉ F) H H3) (ok : τ1.all okM = true)
    (hl3 : ∀ a ∈ F, ∃ vs, H3 a = some (.lst vs)) (c4 : ∀ b, b ∉ F → H4 b = H3 b) (hd : Dp K S H4 d' v F) : R K S M (τ1.set i (some (.g d'))) σ H4 := by
  have hlt : i < τ.length := (List.getElem?_eq_some_iff.mp hi).1
  have hl1 : τ1.length = τ.length := by have := lk.1; rw [List.length_set] at this; exact this
  have hlt1 : i < τ1.length := by omega
  have ne : ∀ j, j ≠ i → (τ1.set i (some (.g d')))[j]? = τ1[j]? := fun j hj => List.getElem?_set_ne (Ne.symm hj)
  have se : (τ1.set i (some (.g d')))[i]? = some (some (.g d')) := List.getElem?_set_self hlt1
  have ne0 : ∀ j, j ≠ i → (τ.set i (some (.d d)))[j]? = τ[j]? := fun j hj => List.getElem?_set_ne (Ne.symm hj)
  have k : Keep S H S H4 := fun b o h e => ⟨h, by
    have hb : b ∉ F := fun z => h (r.sub b (hM b z))
    rw [c4 b hb]; exact c b o (fun z => h (r.sub b z.1)) e⟩
  have ts : TSm (hid (fun b => S b ∧ b ∉ F) H3) (hid S H4) := fun b o e nl ne => by
    obtain ⟨e1, e2⟩ := hid_iff.mp e
    have hb : b ∉ F := fun z => by
      obtain ⟨vs, q⟩ := hl3 b z
      rw [e2] at q; cases q; exact nl _ rfl
    exact hid_iff.mpr ⟨fun z => e1 ⟨z, hb⟩, by rw [c4 b hb]; exact e2⟩
  have own : ∀ (j : Nat) (ys : Ow), (τ1.set i (some (.g d')))[j]? = some (some ys.L) → j ≠ i ∧ τ1[j]? = some (some ys.L) := fun j ys e => by
    by_cases hj : j = i
    · subst hj; rw [se] at e; exact absurd (Option.some.inj (Option.some.inj e)).symm Ow.not_g
    · rw [ne j hj] at e; exact ⟨hj, e⟩
  have mm : ∀ (j : Nat) (ys : Ow), j ≠ i → τ1[j]? = some (some ys.L) → ∃ zs : Ow, τ[j]? = some (some zs.L) := fun j ys hj e => by
    obtain ⟨zs, q⟩ := (lk.own j).mp ⟨_, e⟩
    rw [ne0 j hj] at q
    exact ⟨zs, q⟩
  have cs : ∀ (j : Nat) (ys : List PyData), (τ1.set i (some (.g d')))[j]? = some (some (.c ys)) → τ[j]? = some (some (.c ys)) := fun j ys e => by
    by_cases hj : j = i
    · subst hj; rw [se] at e; cases e
    · rw [ne j hj] at e
      have := ((lk.2 j).1.2 ys).mp e
      rw [ne0 j hj] at this
      exact this
  refine ⟨by rw [List.length_set]; exact r1.len, fun j x e => ?_, fun j ys e => ?_, fun j ys e => let ⟨a, vs, h1, h2, h3⟩ := r.cst j ys (cs j ys e); ⟨a, vs, h1, k.same.seq h2, h3.mono k.same⟩, fun j1 j2 ys zs b e1 e2 f1 f2 => ?_, r.sub, fun a h => ?_, ?_⟩
  · by_cases hj : j = i
    · subst hj; rw [se] at e; cases e
    · rw [ne j hj] at e
      have := ((lk.2 j).1.1 x).mp e
      rw [ne0 j hj] at this
      obtain ⟨v, h5, h6⟩ := r.dat j x this
      exact ⟨v, h5, h6.mono k.same⟩
  · obtain ⟨hj, e⟩ := own j ys e
    obtain ⟨b, ws, h5, h6, h7, h8⟩ := r1.mt j ys e
    have fx : okM (some ys.L) = true := List.all_eq_true.mp ok (some ys.L) (List.mem_of_getElem? e)
    exact ⟨b, ws, h5, h6.1, by rw [c4 b h6.2]; exact h7, h8.monoT ts fx⟩
  · obtain ⟨g1, e1⟩ := own _ _ e1
    obtain ⟨g2, e2⟩ := own _ _ e2
    obtain ⟨_, q1⟩ := mm j1 ys g1 e1
    obtain ⟨_, q2⟩ := mm j2 zs g2 e2
    exact r.inj _ _ _ _ b q1 q2 f1 f2
  · by_cases e : a ∈ F
    · obtain ⟨vs, q⟩ := hd.lst a e; exact ⟨_, q⟩
    · obtain ⟨o, q⟩ := r1.ex a ⟨h, e⟩; exact ⟨o, by rw [c4 a e]; exact q⟩
  · obtain ⟨φ, g⟩ := r1.gr
    refine ⟨fun j => if j = i then F else φ j, fun j x e => ?_⟩
    have gs : ∀ (j : Nat) (x : PyData), j ≠ i → (τ1.set i (some (.g d')))[j]? = some (some (.g x)) → τ1[j]? = some (some (.g x)) := fun j x hj e => by rw [ne j hj] at e; exact e
    by_cases hj : j = i
    · subst hj
      rw [se] at e; cases e
      simp only [if_true]
      refine ⟨⟨v, hv, hd⟩, hn, hM, fun j' o a z1 z2 => ?_, fun j' x' hj' z a ha => ?_⟩
      · obtain ⟨q1, q2⟩ := own j' o z1
        obtain ⟨zs, q3⟩ := mm j' o q1 q2
        exact ho j' zs a q3 z2
      · rw [if_neg hj']
        intro hq
        obtain ⟨_, _, q4, _, _⟩ := g j' x' (gs j' x' hj' z)
        exact (q4 a hq).2 ha
    · dsimp only
      simp only [if_neg hj]
      obtain ⟨⟨v', q1, q2⟩, q3, q4, q5, q6⟩ := g j x (gs j x hj e)
      refine ⟨⟨v', q1, q2.mono ts fun a ha => c4 a (q4 a ha).2⟩, q3, fun a ha => (q4 a ha).1, fun j' o a z1 z2 => q5 j' o a (own j' o z1).2 z2, fun j' x' hj' z a ha => ?_⟩
      by_cases hj2 : j' = i
      · rw [if_pos hj2]; exact (q4 a ha).2
      · rw [if_neg hj2]; exact q6 j' x' hj' (gs j' x' hj2 z) a ha
end DL
end
section
set_option Elab.async false
set_option linter.all false
set_option maxRecDepth 100000
namespace DL
open PySem L2
variable {K : PySem.W.Frag}
theorem R.hideX {S M : Addr → Prop} {τ τ1 : DS} {σ : St} {H H' : Hp} (r : R K S M τ σ H) {X : List Addr} (r1 : R K S M τ1 σ H') (c : Chg M H H') (lk : Like τ τ1) (ok : ∀ (j : Nat) (o : Ow), τ1[j]? = some (some o.L) → okM (some o.L) = true) (hX : ∀ a ∈ X, H a = Option.none) (h' : ∀ a ∈ X, ∃ vs, H' a = some (.lst vs)) :
    R K (fun b => S b ∨ b ∈ X) M τ1 σ H' := by
  have k : Keep S H (fun b => S b ∨ b ∈ X) H' := fun b o hn e => ⟨fun z => z.elim hn (fun z => by rw [hX b z] at e; cases e), c b o (fun z => hn (r.sub b z)) e⟩
  have ts : TSm (hid S H') (hid (fun b => S b ∨ b ∈ X) H') := tsame_hid fun b z => z.elim .inl fun z => let ⟨vs, e⟩ := h' b z; .inr ⟨_, e, .inl ⟨vs, rfl⟩⟩
  refine ⟨r1.len, fun j x e => ?_, fun j x e => ?_, fun j x e => ?_, r1.inj, fun b h => .inl (r.sub b h), fun b h => ?_, r1.gr.to (fun i d e => ⟨e, rfl⟩) (fun j o a e q => .inl ⟨o, e, q⟩) (fun a h _ => ⟨h, rfl⟩) ts⟩
  · obtain ⟨v, h1, h2⟩ := r.dat j x (((lk.2 j).1.1 x).mp e)
    exact ⟨v, h1, h2.mono k.same⟩
  · obtain ⟨b, vs, h1, h2, h3, h4⟩ := r1.mt j x e
    exact ⟨b, vs, h1, h2, h3, h4.monoT ts (ok j x e)⟩
  · obtain ⟨b, vs, h1, h2, h3⟩ := r.cst j x (((lk.2 j).1.2 x).mp e)
    exact ⟨b, vs, h1, k.same.seq h2, h3.mono k.same⟩
  · rcases h with h | h
    · exact r1.ex b h
    · obtain ⟨vs, e⟩ := h' b h
      exact ⟨_, e⟩
theorem RF.hideG {F : Frm} {S M : Addr → Prop} {τ τ1 : DS} {σ : St} {H H' : Hp} (f : RF K F S M τ σ H) {X : List Addr} (r1 : R K S M τ1 σ H') (c : Chg M H H') (lk : Like τ τ1) (ok : τ1.all okM = true) (hX : ∀ a ∈ X, H a = none) (h' : ∀ a ∈ X, ∃ vs, H' a = some (.lst vs)) :
    RF K F (fun b => S b ∨ b ∈ X) M τ1 σ H' := by
  have f1 := f.step r1 c lk
  exact ⟨f.r.hideX r1 c lk (fun j o e => List.all_eq_true.mp ok (some o.L) (List.mem_of_getElem? e)) hX h', fun b h => .inl (f.sS b h), f1.old, f.new, f.fm, f.fs, f.fsub, fun b h => h.elim (f.snew b) fun z => .inr (f.hnone (hX b z)), f.par, f1.pm, f.fma⟩
theorem RF.newG {F : Frm} {S M : Addr → Prop} {τ : DS} {σ : St} {H : Hp} (f : RF K F S M τ σ H) {X : List Addr} {i : Nat} {d : PyData} {v : V} (hi : i < τ.length) (hnp : F.ar.length ≤ i) (hS : ∀ a ∈ X, S a) (hM : ∀ a ∈ X, ¬ M a) (hF : ∀ a ∈ X, F.H a = none) (hn : X.Nodup)
    (h : Dp K S H d v X) : RF K F S (fun b => M b ∨ b ∈ X) (τ.set i (some (.g d))) (σ.set i (some v)) H := by
  have hs : i < σ.length := by rw [f.r.len]; exact hi
  have ne : ∀ j, j ≠ i → (τ.set i (some (.g d)))[j]? = τ[j]? := fun j hj => List.getElem?_set_ne (Ne.symm hj)
  have ne' : ∀ j, j ≠ i → (σ.set i (some v))[j]? = σ[j]? := fun j hj => List.getElem?_set_ne (Ne.symm hj)
  have se : (τ.set i (some (.g d)))[i]? = some (some (.g d)) := List.getElem?_set_self hi
  have se' : (σ.set i (some v))[i]? = some (some v) := List.getElem?_set_self hs
  have own : ∀ (j : Nat) (ys : Ow), (τ.set i (some (.g d)))[j]? = some (some ys.L) → j ≠ i ∧ τ[j]? = some (some ys.L) := fun j ys e => by
    by_cases hj : j = i
    · subst hj; rw [se] at e; exact absurd (Option.some.inj (Option.some.inj e)).symm Ow.not_g
    · rw [ne j hj] at e; exact ⟨hj, e⟩
  have jn : ∀ {j : Nat} {v : V}, F.ar[j]? = some (some v) → j ≠ i := fun {j v} e z => by
    subst z
    have := (List.getElem?_eq_some_iff.mp e).1
    omega
  refine ⟨⟨by rw [List.length_set, List.length_set]; exact f.r.len, fun j x e => ?_, fun j ys e => ?_, fun j ys e => ?_, fun j1 j2 ys zs b e1 e2 f1 f2 => ?_, fun b h => h.elim (f.r.sub b) (hS b), f.r.ex, ?_⟩, f.sS, f.old, fun b h => h.elim (f.new b) fun z => .inr (hF b z), fun b h => .inl (f.fm b h), f.fs, f.fsub, f.snew, fun j v e => ?_, fun j v e => ?_, f.fma⟩
  · by_cases hj : j = i
    · subst hj; rw [se] at e; cases e
    · rw [ne j hj] at e
      rw [ne' j hj]
      exact f.r.dat j x e
  · obtain ⟨hj, e⟩ := own j ys e
    rw [ne' j hj]
    obtain ⟨b, us, h1, h2, h3, h4⟩ := f.r.mt j ys e
    exact ⟨b, us, h1, .inl h2, h3, h4⟩
  · by_cases hj : j = i
    · subst hj; rw [se] at e; cases e
    · rw [ne j hj] at e
      rw [ne' j hj]
      exact f.r.cst j ys e
  · obtain ⟨h1, e1⟩ := own _ _ e1
    obtain ⟨h2, e2⟩ := own _ _ e2
    rw [ne' j1 h1] at f1
    rw [ne' j2 h2] at f2
    exact f.r.inj _ _ _ _ b e1 e2 f1 f2
  · obtain ⟨φ, g⟩ := f.r.gr
    refine ⟨fun j => if j = i then X else φ j, fun j x e => ?_⟩
    by_cases hj : j = i
    · subst hj
      rw [se] at e; cases e
      simp only [if_true]
      refine ⟨⟨v, se', h⟩, hn, fun a ha => .inr ha, fun j' o a z1 z2 ha => ?_, fun j' x' hj' z a ha => ?_⟩
      · obtain ⟨q1, q2⟩ := own j' o z1
        rw [ne' j' q1] at z2
        obtain ⟨b, us, h1, h2, _⟩ := f.r.mt j' o q2
        rw [z2] at h1; cases h1
        exact hM a ha h2
      · rw [if_neg hj']
        intro hq
        rw [ne j' hj'] at z
        obtain ⟨_, _, q4, _, _⟩ := g j' x' z
        exact hM a ha (q4 a hq)
    · dsimp only
      simp only [if_neg hj]
      rw [ne j hj] at e
      obtain ⟨⟨v', q1, q2⟩, q3, q4, q5, q6⟩ := g j x e
      refine ⟨⟨v', by rw [ne' j hj]; exact q1, q2⟩, q3, fun a ha => .inl (q4 a ha), fun j' o a z1 z2 => ?_, fun j' x' hj' z a ha => ?_⟩
      · obtain ⟨w1, w2⟩ := own j' o z1
        rw [ne' j' w1] at z2
        exact q5 j' o a w2 z2
      · by_cases hj2 : j' = i
        · rw [if_pos hj2]; exact fun hq => hM a hq (q4 a ha)
        · rw [if_neg hj2]
          rw [ne j' hj2] at z
          exact q6 j' x' hj' z a ha
  · rw [ne' j (jn e)]
    exact f.par j v e
  · rw [ne j (jn e)]
    exact f.pm j v e
structure EG (K : PySem.W.Frag) (t : TE) (f : DX) : Prop where
  like : ∀ τ d τ', f τ = some (d, τ') → Like τ τ'
  isl : ∀ τ d τ', f τ = some (d, τ') → ∃ ds, d = .list ds
  run : ∀ S M τ σ H (Q : VK) d τ', R K S M τ σ H → f τ = some (d, τ') → (∀ v H' F, R K S M τ' σ H' → Chg M H H' → F.Nodup → (∀ a ∈ F, H a = none) → Dp K S H' d v F → Q v H') → t σ H Q
theorem res_of {S : Addr → Prop} {H H' : Hp} {ds : List PyData} {v : V} {F : List Addr} (hn : F.Nodup) (hF : ∀ a ∈ F, H a = none) (hS : ∀ a, H a = none → ¬ S a) (h : Dp K S H' (.list ds) v F) : Res K true S H H' (.list ds) v := by
  obtain ⟨a, vs, G, rfl, rfl, ha, l⟩ := h
  obtain ⟨na, nG⟩ := List.nodup_cons.mp hn
  refine ⟨.l ds, a, .lst vs, rfl, rfl, hF a (List.mem_cons_self ..), ha, vs, rfl, l.is (tsame_hid fun b z => ?_) fun b hb z => ?_⟩
  · rcases z with z | rfl
    · exact .inl z
    · exact .inr ⟨_, ha, .inl ⟨vs, rfl⟩⟩
  · rcases z with z | rfl
    · exact hS b (hF b (List.mem_cons_of_mem _ hb)) z
    · exact na hb
theorem EG.e {t : TE} {f : DX} (h : EG K t f) : E K t true f := by
  refine ⟨h.like, fun S M τ σ H Q d τ' r e q => h.run S M τ σ H Q d τ' r e fun v H' F r' c hn hF hd => ?_⟩
  obtain ⟨ds, rfl⟩ := h.isl _ _ _ e
  exact q v H' r' c (res_of hn hF (fun _ => r.fresh) hd)
def dFx (f : DX) (τ : DS) : Option (PyData × DS) := (f τ).bind fun p => match p.1 with
  | .list ds => if fixDs ds = true then some p else none
  | _ => none
theorem dFx_some {f : DX} {τ τ' : DS} {d : PyData} (e : dFx f τ = some (d, τ')) : ∃ ds, d = .list ds ∧ fixDs ds = true ∧ f τ = some (.list ds, τ') := by
  unfold dFx at e
  obtain ⟨⟨x, τ1⟩, e1, e⟩ := Option.bind_eq_some_iff.mp e
  cases x with
  | list ds =>
    have e : (if fixDs ds = true then some (PyData.list ds, τ1) else none) = some (d, τ') := e
    split at e
    · rename_i h
      cases e
      exact ⟨ds, rfl, h, e1⟩
    · cases e
  | _ => cases e
theorem eg_fx {t : TE} {f : DX} (h : E K t true f) : EG K t (dFx f) := by
  refine ⟨fun τ d τ' e => ?_, fun τ d τ' e => ?_, ?_⟩
  · obtain ⟨ds, rfl, _, e1⟩ := dFx_some e; exact h.like _ _ _ e1
  · obtain ⟨ds, rfl, _⟩ := dFx_some e; exact ⟨ds, rfl⟩
  intro S M τ σ H Q d τ' r e q
  obtain ⟨ds, rfl, fx, e1⟩ := dFx_some e
  refine h.run S M τ σ H Q _ τ' r e1 fun v H' r' c res => ?_
  obtain ⟨o, a, ho, e2, rfl, h1, h2, h3⟩ := res
  obtain rfl := Ow.D_list e2
  obtain ⟨vs, rfl, l⟩ := h3
  exact q _ H' [a] r' c (by simp) (fun b hb => by rw [List.mem_singleton.mp hb]; exact h1) ⟨a, vs, [], rfl, rfl, h2, DpL.fix fx (l.mono (hid_less fun b z => .inl z))⟩
def dSetG (np i : Nat) (e : DX) (τ : DS) : Option Out := (e τ).bind fun p => if np ≤ i ∧ i < p.2.length ∧ p.2.all okM = true then some (.nx (p.2.set i (some (.g p.1)))) else none
variable {np : Nat}
theorem b_setG {fr : Bool} {i : Nat} {te : TE} {e : DX} (he : EG K te e) : B K np (tAsg te (gName i)) fr (dSetG np i e) := by
  intro F S M τ σ H D out hnp f ee q
  unfold dSetG at ee
  obtain ⟨⟨x, τ1⟩, e1, ee⟩ := Option.bind_eq_some_iff.mp ee
  dsimp only at ee
  split at ee
  · rename_i hi
    cases ee
    refine he.run S M τ σ H _ x τ1 f.r e1 fun v H1 X r1 c1 hn hX hd => ?_
    have lk := he.like _ _ _ e1
    have f1 := f.hideG r1 c1 lk hi.2.2 hX hd.lst
    have ts : TSm (hid S H1) (hid (fun b => S b ∨ b ∈ X) H1) := tsame_hid fun b z => z.elim .inl fun z => let ⟨vs, e⟩ := hd.lst b z; .inr ⟨_, e, .inl ⟨vs, rfl⟩⟩
    exact q _ _ _ _ (f1.newG hi.2.1 (Nat.le_trans hnp hi.1) (fun a ha => .inr ha) (fun a ha z => f.r.fresh (hX a ha) (f.r.sub a z)) (fun a ha => f.hnone (hX a ha)) hn (hd.mono ts fun _ _ => rfl)) fun b o hn e => ⟨fun z => z.elim hn (fun z => by rw [hX b z] at e; cases e), c1 b o (fun z => hn (f.r.sub b z)) e⟩
  · cases ee
theorem b_lcsG {fr : Bool} {te : TE} {i : Nat} {e : DX} (he : EG K te e) : B K np (fun D σ H => te σ H fun v H' => D.nx (σ.set i (some v)) H') fr (dSetG np i e) := b_setG he
def dRetG (i : Nat) (τ : DS) : Option Out := match τ[i]? with
  | some (some (.g (.list ds))) => some (.rt (.list ds) τ)
  | _ => none
theorem b_retG {fr : Bool} {i : Nat} : B K np (tRet (tVar i)) fr (dRetG i) := by
  intro F S M τ σ H D out hnp f ee q
  unfold dRetG at ee
  split at ee
  · rename_i ds hi
    cases ee
    obtain ⟨v, X, hv, hd, hn, hM, ho, _⟩ := frzG f.r hi
    have nf : ∀ a ∈ X, F.H a = none := fun a ha => by
      rcases f.new a (hM a ha) with z | z
      · obtain ⟨j, hj⟩ := f.fma a z
        obtain ⟨o, e⟩ := f.pm j _ hj
        exact absurd ha (ho j o a e (f.par j _ hj))
      · exact z
    have nS : ∀ a, F.H a = none → ¬ F.S a := fun a e z => by
      obtain ⟨o, h⟩ := f.fs a z
      rw [e] at h; cases h
    refine ⟨v, hv, q S M σ H v f ?_⟩
    have hd' : Dp K F.S H (.list ds) v X := hd.mono (tsS (hid_less f.sS)) fun _ _ => rfl
    cases fr with
    | false => exact hd'.is .refl fun a ha => nS a (nf a ha)
    | true => exact res_of hn nf nS hd'
  · cases ee
def set2 (rows : List PyData) (y x : Int) (d : PyData) : Option (List PyData) := (ixN rows.length y).bind fun a => match rows[a]? with
  | some (.list cs) => if fixDs cs = true then (ixN cs.length x).map fun b => rows.set a (.list (cs.set b d)) else none
  | _ => none
theorem set2_some {rows rows' : List PyData} {y x : Int} {d : PyData} (h : set2 rows y x d = some rows') : ∃ a b cs, ixN rows.length y = some a ∧ rows[a]? = some (.list cs) ∧ fixDs cs = true ∧ ixN cs.length x = some b ∧ rows' = rows.set a (.list (cs.set b d)) := by
  unfold set2 at h
  obtain ⟨a, e1, h⟩ := Option.bind_eq_some_iff.mp h
  split at h
  · rename_i cs hc
    split at h
    · rename_i hf
      obtain ⟨b, e2, h⟩ := Option.map_eq_some_iff.mp h
      exact ⟨a, b, cs, e1, hc, hf, e2, h.symm⟩
    · cases h
  · cases h
def dSetGG (i : Nat) (e e1 e2 : DX) (τ : DS) : Option Out := match τ[i]? with
  | some (some (.g (.list rows))) => (e (τ.set i (some (.d (.list rows))))).bind fun p => (e1 p.2).bind fun q => (e2 q.2).bind fun w => match q.1, w.1 with
    | .int y, .int x => if fixD p.1 = true ∧ w.2.all okM = true then (set2 rows y x p.1).map fun rows' => .nx (w.2.set i (some (.g (.list rows')))) else none
    | _, _ => none
  | _ => none
theorem b_setGG {fr f0 f1 f2 : Bool} {i : Nat} {te t1 t2 : TE} {e e1 e2 : DX} (he : E K te f0 e) (h1 : E K t1 f1 e1) (h2 : E K t2 f2 e2) : B K np (tAsg te (gSub (tOp (rIxL K) (tVar i) t1) t2 rSetL)) fr (dSetGG i e e1 e2) := by
  intro F S M τ σ H D out hnp f ee q
  unfold dSetGG at ee
  split at ee
  · rename_i rows hi
    obtain ⟨⟨x3, τ1⟩, ea, ee⟩ := Option.bind_eq_some_iff.mp ee
    obtain ⟨⟨y1, τ2⟩, eb, ee⟩ := Option.bind_eq_some_iff.mp ee
    obtain ⟨⟨y2, τ3⟩, ec, ee⟩ := Option.bind_eq_some_iff.mp ee
    dsimp only at ee
    split at ee
    · rename_i y x _
      split at ee
      · rename_i hc
        obtain ⟨fx, ok⟩ := hc
        obtain ⟨rows', es, ee⟩ := Option.map_eq_some_iff.mp ee
        cases ee
        obtain ⟨ya, xb, cs, iy, hr, hf, ix, rfl⟩ := set2_some es
        obtain ⟨v, X, hv, hd, hn, hM, ho, rz⟩ := frzG f.r hi
        have hS : ∀ a ∈ X, S a := fun a ha => f.r.sub a (hM a ha)
        have lk : Like (τ.set i (some (.d (.list rows)))) τ3 := ((he.like _ _ _ ea).trans (h1.like _ _ _ eb)).trans (h2.like _ _ _ ec)
        have onX : ∀ {Hx : Hp}, Chg (fun b => M b ∧ b ∉ X) H Hx → ∀ a ∈ X, Hx a = H a := fun {Hx} cx a ha => by
          obtain ⟨vs, z⟩ := hd.lst a ha
          rw [z]; exact cx a _ (fun z => z.2 ha) z
        have kp : ∀ {Hx : Hp}, Chg (fun b => M b ∧ b ∉ X) H Hx → Keep S H S Hx := fun {Hx} cx b o h z => ⟨h, cx b o (fun z => h (f.r.sub b z.1)) z⟩
        refine he.weak.run _ _ _ σ H _ x3 τ1 rz ea fun v3 Ha ra ca ia => ?_
        refine ⟨v, hv, h1.weak.run _ _ τ1 σ Ha _ _ τ2 ra eb fun u Hb rb cb ib => ?_⟩
        cases (show u = .int y from ib)
        have cB : Chg (fun b => M b ∧ b ∉ X) H Hb := ca.trans cb
        -- the row, as it stands in H
        obtain ⟨a, vs, p, cvs, rfl, ha, hvl, aX, hp, pX, hpp, hcl, _⟩ := Dp.set2 (x := 0) hd hn hS hr hf (d3 := .none) (v3 := .non) rfl rfl
        refine ⟨a, vs, y, .ref p, rfl, rfl, SqL.of (by rw [onX cB a aX]; exact ha), by unfold atI; rw [hvl, iy]; exact hp, ?_⟩
        refine h2.weak.run _ _ τ2 σ Hb _ _ τ3 rb ec fun w Hc rc cc ic => ?_
        cases (show w = .int x from ic)
        have cC : Chg (fun b => M b ∧ b ∉ X) H Hc := cB.trans cc
        refine ⟨p, cvs, x, xb, rfl, rfl, by rw [onX cC p pX]; exact hpp, by rw [hcl]; exact ix, ?_⟩
        have hdc : Dp K S Hc (.list rows) (.ref a) X := hd.mono (tsS (kp cC).same) (onX cC)
        have i3 : Is K (hid S Hc) x3 v3 := Is.monoT (fun b o z nl ne => by
          obtain ⟨z1, z2⟩ := hid_iff.mp z
          have hb : b ∉ X := fun hb => by
            obtain ⟨us, zz⟩ := hd.lst b hb
            rw [← onX ca b hb, z2] at zz; cases zz; exact nl _ rfl
          have hs : ¬ S b := fun hs => z1 ⟨hs, hb⟩
          exact hid_iff.mpr ⟨hs, (cb.trans cc) b o (fun z => hs (f.r.sub b z.1)) z2⟩) fx ia
        obtain ⟨a', vs', p', cvs', e0, ha', hvl', aX', hp', pX', hpp', hcl', hd4⟩ := Dp.set2 (x := xb) hdc hn hS hr hf fx i3
        cases e0
        rw [onX cC a aX, ha] at ha'
        cases ha'
        rw [hp] at hp'
        cases hp'
        rw [onX cC p pX, hpp] at hpp'
        cases hpp'
        have r4 := unfrzG (H4 := upd Hc p (.lst (cvs.set xb v3))) f.r hi hv hn hM ho rc lk cC ok (fun b hb => by rw [onX cC b hb]; exact hd.lst b hb) (fun b hb => upd_ne fun z => hb (z ▸ pX)) hd4
        have c4 : Chg M H (upd Hc p (.lst (cvs.set xb v3))) := fun b o h z => by
          have hb : b ≠ p := fun w => h (by rw [w]; exact hM p pX)
          rw [upd_ne hb]
          exact cC b o (fun z => h z.1) z
        have hlt : i < τ.length := (List.getElem?_eq_some_iff.mp hi).1
        refine q S M σ _ ⟨r4, f.sS, fun b o e n => c4 b o (fun z => (f.new b z).elim n fun w => by rw [w] at e; cases e) (f.old b o e n), f.new, f.fm, f.fs, f.fsub, f.snew, f.par, fun j v' e => ?_, f.fma⟩ (c4.keep f.r.sub)
        obtain ⟨o, ho'⟩ := f.pm j v' e
        have hj : j ≠ i := fun z => by subst z; rw [hi] at ho'; exact Ow.not_g (Option.some.inj (Option.some.inj ho')).symm
        obtain ⟨o2, h2'⟩ := (lk.own j).mpr ⟨o, by rw [List.getElem?_set_ne (Ne.symm hj)]; exact ho'⟩
        exact ⟨o2, by rw [List.getElem?_set_ne (Ne.symm hj)]; exact h2'⟩
      · cases ee
    · cases ee
  · cases ee
end DL
end
section
set_option Elab.async false
set_option linter.all false
set_option maxRecDepth 100000
namespace DL
open PySem L2
variable {K : PySem.W.Frag}
theorem eg_lc {own : Nat} {fr : List Nat} {wi : TI} {it : DI} {tg : TG} {g : DG} {tc : TT} {c : DT} {te : TE} {e : DX} (hi : IT K wi it) (hg : TG1 K tg g) (hc : T K tc c) (he : EG K te e) : EG K (tLC own fr wi tg tc te) (dLC own fr it g c e) := by
  refine ⟨(e_lc hi hg hc he.e).like, fun τ d τ' e => ?_, ?_⟩
  · unfold dLC at e
    obtain ⟨⟨x, τ1⟩, e1, e⟩ := Option.bind_eq_some_iff.mp e
    split at e
    · obtain ⟨z, e3, e⟩ := Option.map_eq_some_iff.mp e
      cases e; exact ⟨_, rfl⟩
    · cases e
  intro S M τ σ H Q d τ' r ee q
  unfold dLC at ee
  obtain ⟨⟨ds, τ1⟩, e1, ee⟩ := Option.bind_eq_some_iff.mp ee
  split at ee
  · rename_i hz
    obtain ⟨hz, hnm⟩ := hz
    have hz : ds.length ≤ sizeLine := hz
    obtain ⟨⟨acc, τb⟩, e3, ee⟩ := Option.map_eq_some_iff.mp ee
    obtain ⟨rfl, rfl⟩ : d = .list acc ∧ τ' = τ1 := by cases ee; exact ⟨rfl, rfl⟩
    refine hi.run S M τ σ H _ ds _ r e1 fun J H1 r1 c1 iJ => ?_
    intro D hD
    refine ⟨fun i m ys σ' H' => ∃ τb' acc' G, R K (fun b => S b ∨ b ∈ D :: G) (fun _ => False) τb' σ' H' ∧ Keep S H1 (fun b => S b ∨ b ∈ D :: G) H' ∧ Chg (fun b => b = D) H1 H' ∧ DpL K (fun b => S b ∨ b ∈ D :: G) H' acc' ys G ∧ (D :: G).Nodup ∧ (∀ a ∈ G, H1 a = none) ∧ H' D = some (.lst ys) ∧ ys.length ≤ i ∧ i ≤ ds.length ∧ m = ds.length - i ∧ lcLoop g c e (ds.drop i) acc' τb' = some (acc, τb), ?_, ?_⟩
    · have s := same_new hD (HO.lst [])
      have k : Keep S H1 (fun b => S b ∨ b ∈ [D]) (upd H1 D (.lst [])) := fun b o hn e => by
        have := ne_of_none e hD
        exact ⟨fun z => z.elim hn fun z => this (List.mem_singleton.mp z), s b o e⟩
      refine ⟨ds.length, blkD own fr τ', [], [], ⟨?_, ?_, ?_, ?_, ?_, fun a h => h.elim, ?_, GR.nil blkD_g⟩, k, .of s, ⟨rfl, rfl⟩, by simp, fun _ h => by simp at h, upd_same, Nat.le_refl _, Nat.zero_le _, by simp, by simpa using e3⟩
      · unfold blk blkD; simp
      · intro i x e
        obtain ⟨kk, j, rfl, ej, et⟩ := blkD_get e
        obtain ⟨v, h1, h2⟩ := r1.dat j x et
        exact ⟨v, blk_at ej h1, h2.mono k.same⟩
      · intro i xs e
        obtain ⟨kk, j, rfl, ej, et⟩ := blkD_get e
        have := List.all_eq_true.mp hnm j (List.mem_of_getElem? ej)
        rw [isM_iff.mpr ⟨xs, et⟩] at this
        cases this
      · intro i x e
        obtain ⟨kk, j, rfl, ej, et⟩ := blkD_get e
        obtain ⟨a, vs, h1, h2, h3⟩ := r1.cst j x et
        exact ⟨a, vs, blk_at ej h1, k.same.seq h2, h3.mono k.same⟩
      · intro i j xs ys a e
        obtain ⟨kk, j', rfl, ej, et⟩ := blkD_get e
        have := List.all_eq_true.mp hnm j' (List.mem_of_getElem? ej)
        rw [isM_iff.mpr ⟨xs, et⟩] at this
        cases this
      · rintro a (h | h)
        · obtain ⟨o, e⟩ := r1.ex a h
          exact ⟨o, s _ _ e⟩
        · rw [List.mem_singleton.mp h]; exact ⟨_, upd_same⟩
    · rintro i m ys σ' H' ⟨τb', acc', G, rb, k, ch, la, hG, hG1, hHD, hyl, hil, rfl, hl⟩
      obtain ⟨I1, I2⟩ := iJ _ _ k
      by_cases hlt : i < ds.length
      · right
        have ed : ds[i]? = some ds[i] := List.getElem?_eq_getElem hlt
        obtain ⟨go, yl⟩ := I1 i _ ed
        refine ⟨go, fun x H2 y => ?_⟩
        obtain ⟨rfl, ix⟩ := yl x H2 y
        rw [List.drop_eq_getElem_cons hlt, lcLoop] at hl
        obtain ⟨τ2, e2, hl⟩ := Option.bind_eq_some_iff.mp hl
        obtain ⟨⟨b, τ3⟩, e4, hl⟩ := Option.bind_eq_some_iff.mp hl
        refine hg.run _ _ τb' σ' H2 x _ τ2 _ rb ix e2 fun σ3 r3 k3 => ?_
        refine hc.run _ _ τ2 σ3 H2 _ b τ3 r3 e4 fun H4 r4 c4 => ?_
        have s4 : Same H2 H4 := fun b o e => c4 b o (fun z => z) e
        have on4 : ∀ {Hx : Hp}, Same H2 Hx → ∀ a ∈ G, Hx a = H2 a := fun {Hx} s a ha => by
          obtain ⟨vs, z⟩ := la.lst a ha
          rw [z]; exact s _ _ z
        cases b with
        | false =>
          rw [if_neg Bool.false_ne_true]
          exact ⟨ds.length - (i + 1), by omega, τ3, acc', G, r4, k.trans (Same.keep s4), ch.trans (.of s4), la.mono (tsS (Same.keep s4).same) (on4 s4), hG, hG1, s4 _ _ hHD, by omega, hlt, rfl, hl⟩
        | true =>
          rw [if_pos rfl]
          rw [if_pos rfl] at hl
          obtain ⟨⟨z, τ5⟩, e5, hl⟩ := Option.bind_eq_some_iff.mp hl
          refine he.run _ _ τ3 σ3 H4 _ z τ5 r4 e5 fun v H5 X r5 c5 hnX hX hd => ?_
          have s45 : Same H4 H5 := fun b o e => c5 b o (fun z => z) e
          have s5 : Same H2 H5 := s4.trans s45
          have hD5 := s5 _ _ hHD
          have r6 := r4.hideX r5 c5 (he.like _ _ _ e5) (fun j o e => by obtain ⟨_, _, _, h, _⟩ := r5.mt j o e; exact h.elim) hX hd.lst
          have DX : D ∉ X := fun z => by have := hX D z; rw [s4 _ _ hHD] at this; cases this
          have GX : ∀ a ∈ G, a ∉ X := fun a ha z => by
            obtain ⟨vs, w⟩ := la.lst a ha
            have := hX a z; rw [s4 _ _ w] at this; cases this
          have eS : ∀ b, (S b ∨ b ∈ D :: (G ++ X)) ↔ ((S b ∨ b ∈ D :: G) ∨ b ∈ X) := fun b => by
            rw [List.mem_cons, List.mem_cons, List.mem_append, or_assoc, or_assoc]
          have eS' : (fun b => (S b ∨ b ∈ D :: G) ∨ b ∈ X) = fun b => S b ∨ b ∈ D :: (G ++ X) := funext fun b => propext (eS b).symm
          rw [eS'] at r6
          have hDS : S D ∨ D ∈ D :: (G ++ X) := .inr (List.mem_cons_self ..)
          have kk : Keep (fun b => S b ∨ b ∈ D :: (G ++ X)) H5 (fun b => S b ∨ b ∈ D :: (G ++ X)) (upd H5 D (.lst (ys ++ [v]))) := fun b o hn e => ⟨hn, by rw [upd_ne (fun z => hn (by rw [z]; exact hDS))]; exact e⟩
          have k5 : Keep (fun b => S b ∨ b ∈ D :: G) H2 (fun b => S b ∨ b ∈ D :: (G ++ X)) H5 := fun b o hn e => ⟨fun z => ((eS b).mp z).elim hn (fun z => by have := hX b z; rw [s4 _ _ e] at this; cases this), s5 _ _ e⟩
          have tX : TSm (hid (fun b => S b ∨ b ∈ D :: G) H5) (hid (fun b => S b ∨ b ∈ D :: (G ++ X)) H5) := tsame_hid fun b z => ((eS b).mp z).elim .inl fun z => let ⟨vs, e⟩ := hd.lst b z; .inr ⟨_, e, .inl ⟨vs, rfl⟩⟩
          have hu : hid (fun b => S b ∨ b ∈ D :: (G ++ X)) (upd H5 D (.lst (ys ++ [v]))) = hid (fun b => S b ∨ b ∈ D :: (G ++ X)) H5 := hid_upd hDS
          have DG : D ∉ G := (List.nodup_cons.mp hG).1
          refine ⟨hD5, by omega, ds.length - (i + 1), by omega, τ5, acc' ++ [z], G ++ X, ?_, (k.trans k5).trans kk, ?_, ?_, ?_, ?_, upd_same, by rw [List.length_append, List.length_singleton]; omega, hlt, rfl, hl⟩
          · refine ⟨r6.len, fun j x e => let ⟨u, a, b⟩ := r6.dat j x e; ⟨u, a, b.mono kk.same⟩, fun j xs e => let ⟨_, _, _, h, _⟩ := r6.mt j xs e; h.elim, fun j xs e => let ⟨a, vs, h1, h2, h3⟩ := r6.cst j xs e; ⟨a, vs, h1, kk.same.seq h2, h3.mono kk.same⟩, r6.inj, fun _ h => h.elim, fun a h => ?_, r6.gr.to (fun i d e => ⟨e, rfl⟩) (fun j o a e q => .inl ⟨o, e, q⟩) (fun a h _ => h.elim) (tsS kk.same)⟩
            by_cases e : a = D
            · subst e; exact ⟨_, upd_same⟩
            · obtain ⟨o, q⟩ := r6.ex a h
              exact ⟨o, by rw [upd_ne e]; exact q⟩
          · refine ch.trans fun b o hn e => ?_
            rw [upd_ne hn]
            exact s5 _ _ e
          · have l1 : DpL K (fun b => S b ∨ b ∈ D :: (G ++ X)) (upd H5 D (.lst (ys ++ [v]))) acc' ys G := la.mono (tsS (k5.trans kk).same) fun a ha => by
              have hb : a ≠ D := fun w => DG (by rw [← w]; exact ha)
              rw [upd_ne hb]; exact on4 s5 a ha
            have l2 : Dp K (fun b => S b ∨ b ∈ D :: (G ++ X)) (upd H5 D (.lst (ys ++ [v]))) z v X := hd.mono (by rw [hu]; exact tX) fun a ha => upd_ne fun z => DX (z ▸ ha)
            exact l1.snoc l2
          · refine List.nodup_cons.mpr ⟨fun z => (List.mem_append.mp z).elim DG DX, List.nodup_append.mpr ⟨(List.nodup_cons.mp hG).2, hnX, fun a ha b hb z => GX a ha (z ▸ hb)⟩⟩
          · intro a ha
            rcases List.mem_append.mp ha with ha | ha
            · exact hG1 a ha
            · cases z : H1 a with
              | none => rfl
              | some o =>
                exfalso
                have h4 := hX a ha
                have : a ≠ D := fun w => DX (w ▸ ha)
                have h2 := ch a o this z
                rw [s4 _ _ h2] at h4; cases h4
      · left
        have e : i = ds.length := by omega
        subst e
        rw [List.drop_length, lcLoop] at hl
        cases hl
        refine ⟨I2 _ (Nat.le_refl _), ?_⟩
        have s : Same H1 H' := fun b o e => ch b o (ne_of_none e hD) e
        refine q _ H' (D :: G) (r1.same s) (c1.trans (.of s)) hG (fun a ha => ?_) ⟨D, ys, G, rfl, rfl, hHD, la.mono (tsS (hid_less fun b z => .inl z)) fun _ _ => rfl⟩
        rcases List.mem_cons.mp ha with rfl | ha
        · exact r1.none c1 hD
        · exact r1.none c1 (hG1 a ha)
  · cases ee
def spG (K : PySem.W.Frag) (G : List L → Option (PyData × List L)) : Sp := fun vs H Q _ => ∃ (S : Addr → Prop) (ds : List PyData) (r : PyData) (ls' : List L), R K S (fun _ => False) ((ds.map L.d).map some) (vs.map some) H ∧ G (ds.map L.d) = some (r, ls') ∧
  ∀ v H' F, Same H H' → F.Nodup → (∀ a ∈ F, H a = none) → Dp K S H' r v F → Q v H'
theorem fn_lenG {G : List L → Option (PyData × List L)} {vs : List V} {H : Hp} {Q : VK} {X : XK} {np : Nat} (hG : ∀ ls r, G ls = some r → ls.length = np) (h : spG K G vs H Q X) : vs.length = np := by
  obtain ⟨S, ds, r, ls', hR, e, _⟩ := h
  have := hR.len
  rw [List.length_map, List.length_map] at this
  rw [this, hG _ _ e]
theorem R_ext {S M : Addr → Prop} {ls : List L} {vs : List V} {H : Hp} (hR : R K S M (ls.map some) (vs.map some) H) (hng : ∀ (i : Nat) (d : PyData), ls[i]? ≠ some (.g d)) (nl : Nat) : R K S M (ls.map some ++ List.replicate nl none) (vs.map some ++ List.replicate nl none) H := by
  have hvl : vs.length = ls.length := by have := hR.len; rw [List.length_map, List.length_map] at this; exact this
  have lsm : ∀ (i : Nat) (l : L), (ls.map some ++ List.replicate nl none : DS)[i]? = some (some l) → ls[i]? = some l := fun i l h => by
    by_cases hi : i < ls.length
    · rw [List.getElem?_append_left (by rw [List.length_map]; exact hi)] at h
      obtain ⟨x, h1, h2⟩ := at_map h
      cases h2; exact h1
    · rw [List.getElem?_append_right (by rw [List.length_map]; omega), List.getElem?_replicate] at h
      split at h <;> cases h
  have vsm : ∀ (i : Nat) (v : V), (vs.map some)[i]? = some (some v) → (vs.map some ++ List.replicate nl none : St)[i]? = some (some v) := fun i v h => by
    rw [List.getElem?_append_left (List.getElem?_eq_some_iff.mp h).1]; exact h
  have vsb : ∀ (i : Nat) (v : V), (vs.map some ++ List.replicate nl none : St)[i]? = some (some v) → (vs.map some)[i]? = some (some v) := fun i v h => by
    by_cases hi : i < (vs.map some).length
    · rw [List.getElem?_append_left hi] at h; exact h
    · rw [List.getElem?_append_right (by omega), List.getElem?_replicate] at h
      split at h <;> cases h
  have lm : ∀ (i : Nat) (l : L), ls[i]? = some l → (ls.map some)[i]? = some (some l) := fun i l h => by rw [List.getElem?_map, h]; rfl
  refine ⟨by simp [hvl], fun i x h => ?_, fun i x h => ?_, fun i x h => ?_, fun i j xs ys a h1 h2 h3 h4 => hR.inj i j xs ys a (lm _ _ (lsm _ _ h1)) (lm _ _ (lsm _ _ h2)) (vsb _ _ h3) (vsb _ _ h4), hR.sub, hR.ex, GR.nil fun i d h => hng i d (lsm i _ h)⟩
  · obtain ⟨v, h1, h2⟩ := hR.dat i x (lm _ _ (lsm _ _ h))
    exact ⟨v, vsm _ _ h1, h2⟩
  · obtain ⟨a, us, h1, h2⟩ := hR.mt i x (lm _ _ (lsm _ _ h))
    exact ⟨a, us, vsm _ _ h1, h2⟩
  · obtain ⟨a, us, h1, h2⟩ := hR.cst i x (lm _ _ (lsm _ _ h))
    exact ⟨a, us, vsm _ _ h1, h2⟩
theorem fn_runG {np nl : Nat} {te : TE} {e : DX} {N : List Str} {vs : List V} {H : Hp} {Q : VK} {X : XK} (he : EG K te e) (hN : N.length = np + nl) (h : spG K (dFun true np nl (dRet e)) vs H Q X) : tRet te { nx := fun _ H' => Q .non H', rt := Q } (L2.start N vs) H := by
  obtain ⟨S, ds, r, ls', hR, ee, q⟩ := h
  have hlen := dFun_len _ _ ee
  have hvl : vs.length = (ds.map L.d).length := by have := hR.len; rw [List.length_map, List.length_map] at this; exact this
  unfold dFun at ee
  rw [if_pos hlen] at ee
  obtain ⟨o, e1, ee⟩ := Option.bind_eq_some_iff.mp ee
  have est : L2.start N vs = vs.map some ++ List.replicate nl none := by
    unfold L2.start
    rw [hN, hvl, hlen, Nat.add_sub_cancel_left]
  rw [est]
  have r0 := R_ext hR (fun i d h => by rw [List.getElem?_map] at h; cases q : ds[i]? with | none => rw [q] at h; cases h | some d => rw [q] at h; cases h) nl
  unfold dRet at e1
  obtain ⟨⟨x, τ1⟩, e2, e1⟩ := Option.map_eq_some_iff.mp e1
  subst e1
  obtain ⟨ls1, e3, ee⟩ := Option.map_eq_some_iff.mp ee
  cases ee
  exact he.run S _ _ _ H _ x τ1 r0 e2 fun v H' F _ c hn hF hd => q v H' F (fun b o z => c b o (fun w => w) z) hn hF hd
def dLs (f : DX) (τ : DS) : Option (PyData × DS) := (f τ).bind fun p => match p.1 with
  | .list _ => some p
  | _ => none
theorem dLs_some {f : DX} {τ τ' : DS} {d : PyData} (e : dLs f τ = some (d, τ')) : f τ = some (d, τ') ∧ ∃ ds, d = .list ds := by
  unfold dLs at e
  obtain ⟨⟨x, τ1⟩, e1, e⟩ := Option.bind_eq_some_iff.mp e
  cases x with
  | list ds => cases e; exact ⟨e1, _, rfl⟩
  | _ => cases e
theorem eg_callL {G : List L → Option (PyData × List L)} {t : TA} {a : DA} {X : XK} (ha : A K t a) : EG K (tCall (spG K G) [] X t) (dLs (dCall G a)) := by
  refine ⟨fun τ d τ' e => ?_, fun τ d τ' e => (dLs_some e).2, ?_⟩
  · have e := (dLs_some e).1
    unfold dCall at e
    obtain ⟨⟨x, τ1⟩, e1, e⟩ := Option.bind_eq_some_iff.mp e
    obtain ⟨ds, e2, e⟩ := Option.bind_eq_some_iff.mp e
    obtain ⟨z, e3, e⟩ := Option.map_eq_some_iff.mp e
    cases e; exact ha.like _ _ _ e1
  intro S M τ σ H Q d τ' rr e q
  have e := (dLs_some e).1
  unfold dCall at e
  obtain ⟨⟨x, τ1⟩, e1, e⟩ := Option.bind_eq_some_iff.mp e
  obtain ⟨ds, e2, e⟩ := Option.bind_eq_some_iff.mp e
  obtain ⟨⟨z, ls'⟩, e3, e⟩ := Option.map_eq_some_iff.mp e
  cases e
  refine ha.run S M τ σ H _ x _ rr e1 fun vs H1 r1 c1 i1 => ?_
  have l := allD_is i1 e2
  show spG K G (vs ++ []) H1 Q X
  rw [List.append_nil]
  refine ⟨S, ds, _, ls', r_args r1 l, e3, fun v H' F s hn hF hd => ?_⟩
  exact q v H' F (r1.same s) (c1.trans (.of s)) hn (fun a ha => r1.none c1 (hF a ha)) hd
end DL
end
section
set_option Elab.async false
set_option linter.all false
set_option maxRecDepth 100000
namespace DL
open PySem L2
variable {K : PySem.W.Frag}
def mkO (τ : DS) : List Ar → Option (List L)
  | [] => some []
  | .d x :: r => (mkO τ r).map (.d x :: ·)
  | .s i :: r => (τ[i]?.bind id).bind fun l => match l with
    | .g _ => none
    | .d _ => none
    | l => (mkO τ r).map (l :: ·)
theorem mkO_s {τ : DS} {i : Nat} {r : List Ar} {ls : List L} (h : mkO τ (.s i :: r) = some ls) : ∃ l zs, τ[i]? = some (some l) ∧ (∀ x, l ≠ .g x) ∧ mkO τ r = some zs ∧ ls = l :: zs := by
  unfold mkO at h
  obtain ⟨l, h0, h⟩ := Option.bind_eq_some_iff.mp h
  obtain ⟨o, h1, h2⟩ := Option.bind_eq_some_iff.mp h0
  cases (show o = some l from h2)
  cases l with
  | g x => cases h
  | d x => cases h
  | m x => obtain ⟨zs, h3, h⟩ := Option.map_eq_some_iff.mp h; exact ⟨_, zs, h1, fun _ z => (nomatch z), h3, h.symm⟩
  | c x => obtain ⟨zs, h3, h⟩ := Option.map_eq_some_iff.mp h; exact ⟨_, zs, h1, fun _ z => (nomatch z), h3, h.symm⟩
  | k x => obtain ⟨zs, h3, h⟩ := Option.map_eq_some_iff.mp h; exact ⟨_, zs, h1, fun _ z => (nomatch z), h3, h.symm⟩
theorem mkO_get {τ : DS} : ∀ {rs : List Ar} {ls : List L} {k : Nat} {l : L}, mkO τ rs = some ls → ls[k]? = some l → ∃ r, rs[k]? = some r ∧ match r with
    | .d x => l = .d x
    | .s i => τ[i]? = some (some l) ∧ ∀ x, l ≠ .g x
  | [], _, _, _, h, e => by cases h; simp at e
  | .d x :: rs, _, k, l, h, e => by
    obtain ⟨zs, h1, h⟩ := Option.map_eq_some_iff.mp h
    subst h
    cases k with
    | zero => cases e; exact ⟨_, rfl, rfl⟩
    | succ k => exact mkO_get (k := k) h1 (by simpa using e)
  | .s i :: rs, _, k, l, h, e => by
    obtain ⟨l', zs, h1, h2, h3, rfl⟩ := mkO_s h
    cases k with
    | zero => cases e; exact ⟨_, rfl, h1, h2⟩
    | succ k => exact mkO_get (k := k) h3 (by simpa using e)
theorem mkO_len {τ : DS} : ∀ {rs : List Ar} {ls : List L}, mkO τ rs = some ls → ls.length = rs.length
  | [], _, h => by cases h; rfl
  | .d x :: rs, _, h => by
    obtain ⟨zs, h1, h⟩ := Option.map_eq_some_iff.mp h
    subst h
    rw [List.length_cons, List.length_cons, mkO_len h1]
  | .s i :: rs, _, h => by
    obtain ⟨l', zs, h1, h2, h3, rfl⟩ := mkO_s h
    rw [List.length_cons, List.length_cons, mkO_len h3]
def dCallP2 (k1 i1 k2 i2 : Nat) (G : List L → Option (PyData × List L)) (a : DA) (τ : DS) : Option (PyData × DS) := (a τ).bind fun p => (mkO p.2 p.1).bind fun ls => match p.1[k1]?, p.1[k2]? with
  | some (.s j1), some (.s j2) => if j1 = i1 ∧ j2 = i2 ∧ i1 ≠ i2 ∧ k1 ≠ k2 ∧ ((ls.set k1 (.d .none)).set k2 (.d .none)).all nMb = true then (G ls).bind fun q => match ls[k1]?, ls[k2]?, q.2[k1]?, q.2[k2]? with
      | some (.m _), some (.k _), some (.m xs), some (.k kv) => some (q.1, (p.2.set i1 (some (.m xs))).set i2 (some (.k kv)))
      | _, _, _, _ => none
    else none
  | _, _ => none
theorem dCallP2_some {k1 i1 k2 i2 : Nat} {G : List L → Option (PyData × List L)} {a : DA} {τ τ' : DS} {d : PyData} (e : dCallP2 k1 i1 k2 i2 G a τ = some (d, τ')) :
    ∃ rs τ1 ls xs kv ls' xs' kv', a τ = some (rs, τ1) ∧ mkO τ1 rs = some ls ∧ rs[k1]? = some (.s i1) ∧ rs[k2]? = some (.s i2) ∧ i1 ≠ i2 ∧ k1 ≠ k2 ∧ ((ls.set k1 (.d .none)).set k2 (.d .none)).all nMb = true ∧ ls[k1]? = some (.m xs) ∧ ls[k2]? = some (.k kv) ∧ G ls = some (d, ls') ∧ ls'[k1]? = some (.m xs') ∧ ls'[k2]? = some (.k kv') ∧ τ' = (τ1.set i1 (some (.m xs'))).set i2 (some (.k kv')) := by
  unfold dCallP2 at e
  obtain ⟨⟨rs, τ1⟩, e1, e⟩ := Option.bind_eq_some_iff.mp e
  obtain ⟨ls, e2, e⟩ := Option.bind_eq_some_iff.mp e
  dsimp only at e
  split at e
  · rename_i j1 j2 h1 h2
    split at e
    · rename_i hc
      obtain ⟨⟨z, ls'⟩, e3, e⟩ := Option.bind_eq_some_iff.mp e
      dsimp only at e
      split at e
      · rename_i xs0 kv0 xs kv g1 g2 g3 g4
        cases e
        obtain ⟨rfl, rfl, n1, n2, hc⟩ := hc
        exact ⟨rs, τ1, ls, xs0, kv0, ls', xs, kv, e1, e2, h1, h2, n1, n2, hc, g1, g2, e3, g3, g4, rfl⟩
      · cases e
    · cases e
  · cases e
theorem e_callP2 {k1 i1 k2 i2 : Nat} {fr : Bool} {G : List L → Option (PyData × List L)} {t : TA} {a : DA} {X : XK} (ha : A K t a) : E K (tCall (spD K G fr) [] X t) fr (dCallP2 k1 i1 k2 i2 G a) := by
  have at1' : ∀ {rs : List Ar} {τ1 : DS} {ls : List L} {k i : Nat} {l : L}, mkO τ1 rs = some ls → rs[k]? = some (.s i) → ls[k]? = some l → τ1[i]? = some (some l) := fun {rs τ1 ls k i l} e2 e3 e4 => by
    obtain ⟨r, h1, h2⟩ := mkO_get e2 e4
    rw [e3] at h1; cases h1
    exact h2.1
  refine ⟨fun τ d τ' e => ?_, ?_⟩
  · obtain ⟨rs, τ1, ls, xs, kv, ls', xs', kv', e1, e2, e3, e4, n1, n2, e5, g1, g2, e6, g3, g4, rfl⟩ := dCallP2_some e
    have h1 := at1' e2 e3 g1
    have h2 := at1' e2 e4 g2
    have s1 := like_setO (w := .l xs) (w' := .l xs') h1 rfl
    have s2 := like_setO (τ := τ1.set i1 (some (.m xs'))) (i := i2) (w := .t kv) (w' := .t kv') (by rw [List.getElem?_set_ne n1]; exact h2) rfl
    exact ((ha.like _ _ _ e1).trans s1).trans s2
  intro S M τ σ H Q d τ' rr e q
  obtain ⟨rs, τ1, ls, xs, kv, ls', xs', kv', e1, e2, e3, e4, n1, n2, e5, g1, g2, e6, g3, g4, rfl⟩ := dCallP2_some e
  refine ha.run S M τ σ H _ rs _ rr e1 fun vs H1 r1 c1 i1' => ?_
  have hi1 := at1' e2 e3 g1
  have hi2 := at1' e2 e4 g2
  obtain ⟨p1, u1, hp1, hM1, hl1, ll1⟩ := r1.mt i1 (.l xs) hi1
  obtain ⟨p2, u2, hp2, hM2, hl2, ll2⟩ := r1.mt i2 (.t kv) hi2
  have pn : p1 ≠ p2 := fun z => n1 (r1.inj i1 i2 (.l xs) (.t kv) p1 hi1 hi2 hp1 (by rw [z]; exact hp2))
  obtain ⟨v1, hv1, hv1'⟩ := aris_get i1' e3
  have hv1'' : σ[i1]? = some (some v1) := hv1'
  rw [hp1] at hv1''; cases hv1''
  obtain ⟨v2, hv2, hv2'⟩ := aris_get i1' e4
  have hv2'' : σ[i2]? = some (some v2) := hv2'
  rw [hp2] at hv2''; cases hv2''
  have only : ∀ (j : Nat) (ys : Ow), ls[j]? = some ys.L → j = k1 ∨ j = k2 := fun j ys h => by
    by_cases hj : j = k1
    · exact .inl hj
    · by_cases hj2 : j = k2
      · exact .inr hj2
      · exfalso
        have : ((ls.set k1 (.d .none)).set k2 (.d .none))[j]? = some ys.L := by rw [List.getElem?_set_ne (Ne.symm hj2), List.getElem?_set_ne (Ne.symm hj)]; exact h
        have := List.all_eq_true.mp e5 _ (List.mem_of_getElem? this)
        cases ys <;> cases this
  have at1 : ∀ (j : Nat) (l : L), (ls.map some)[j]? = some (some l) → ls[j]? = some l := fun j l h => by
    obtain ⟨x, h1, h2⟩ := at_map h
    cases h2; exact h1
  have w1 : (vs.map some)[k1]? = some (some (.ref p1)) := by rw [List.getElem?_map, hv1]; rfl
  have w2 : (vs.map some)[k2]? = some (some (.ref p2)) := by rw [List.getElem?_map, hv2]; rfl
  show spD K G fr (vs ++ []) H1 Q X
  rw [List.append_nil]
  refine ⟨S, fun b => b = p1 ∨ b = p2, ls, d, ls', ⟨?_, ?_, ?_, ?_, ?_, ?_, r1.ex, GR.nil fun j x h => ?_⟩, e6, fun v H' r' c res => ?_⟩
  · rw [List.length_map, List.length_map, aris_len i1', mkO_len e2]
  · intro j x h
    obtain ⟨r, h1, h2⟩ := mkO_get e2 (at1 j _ h)
    obtain ⟨v, h3, h4⟩ := aris_get i1' h1
    cases r with
    | d y =>
      cases (show L.d x = L.d y from h2)
      exact ⟨v, by rw [List.getElem?_map, h3]; rfl, h4⟩
    | s n =>
      obtain ⟨u, q1, q2⟩ := r1.dat n x h2.1
      have h4' : σ[n]? = some (some v) := h4
      rw [q1] at h4'; cases h4'
      exact ⟨v, by rw [List.getElem?_map, h3]; rfl, q2⟩
  · intro j ys h
    rcases only j ys (at1 j _ h) with rfl | rfl
    · have := at1 _ _ h
      rw [g1] at this
      obtain rfl : Ow.l xs = ys := Ow.inj (Option.some.inj this)
      exact ⟨p1, _, w1, .inl rfl, hl1, ll1⟩
    · have := at1 _ _ h
      rw [g2] at this
      obtain rfl : Ow.t kv = ys := Ow.inj (Option.some.inj this)
      exact ⟨p2, _, w2, .inr rfl, hl2, ll2⟩
  · intro j ys h
    obtain ⟨r, h1, h2⟩ := mkO_get e2 (at1 j _ h)
    obtain ⟨v, h3, h4⟩ := aris_get i1' h1
    cases r with
    | d y => cases (show L.c ys = L.d y from h2)
    | s n =>
      obtain ⟨b, ws, q1, q2⟩ := r1.cst n ys h2.1
      have h4' : σ[n]? = some (some v) := h4
      rw [q1] at h4'; cases h4'
      exact ⟨b, ws, by rw [List.getElem?_map, h3]; rfl, q2⟩
  · intro j1 j2 ys zs b h1 h2 h3 h4
    rcases only j1 ys (at1 _ _ h1) with rfl | rfl <;> rcases only j2 zs (at1 _ _ h2) with rfl | rfl
    · rfl
    · rw [w1] at h3; rw [w2] at h4; cases h3; cases h4; exact absurd rfl pn
    · rw [w2] at h3; rw [w1] at h4; cases h3; cases h4; exact absurd rfl pn
    · rfl
  · rintro b (rfl | rfl)
    · exact r1.sub _ hM1
    · exact r1.sub _ hM2
  · obtain ⟨r, h1, h2⟩ := mkO_get e2 (at1 j _ h)
    cases r with
    | d y => cases (show L.g x = L.d y from h2)
    | s n => exact h2.2 x rfl
  · obtain ⟨a1, o1, x1, x2, x3, x4⟩ := r'.mt k1 (.l xs') (by rw [List.getElem?_map, g3]; rfl)
    rw [w1] at x1; cases x1
    obtain ⟨a2, o2, y1, y2, y3, y4⟩ := r'.mt k2 (.t kv') (by rw [List.getElem?_map, g4]; rfl)
    rw [w2] at y1; cases y1
    have S2 : S p2 := r1.sub _ hM2
    let H1' : Hp := fun b => if b = p2 then H1 p2 else H' b
    have eh : hid S H1' = hid S H' := by
      funext b
      unfold hid
      by_cases z : S b
      · rw [if_pos z, if_pos z]
      · rw [if_neg z, if_neg z]
        show (if b = p2 then H1 p2 else H' b) = H' b
        rw [if_neg fun w => z (by rw [w]; exact S2)]
    have ca : Chg (fun b => b = p1) H1 H1' := fun b o hn z => by
      show (if b = p2 then H1 p2 else H' b) = _
      by_cases w : b = p2
      · rw [if_pos w, ← w]; exact z
      · rw [if_neg w]; exact c b o (fun y => y.elim hn w) z
    have cb : Chg (fun b => b = p2) H1' H' := fun b o hn z => by
      have z : (if b = p2 then H1 p2 else H' b) = some o := z
      rw [if_neg hn] at z; exact z
    have ra := r1.setO (w := .l xs) (w' := .l xs') hi1 hp1 ca (h := o1) (by show (if p1 = p2 then H1 p2 else H' p1) = _; rw [if_neg pn]; exact x3) (by rw [eh]; exact x4)
    have rb := ra.setO (i := i2) (w := .t kv) (w' := .t kv') (by rw [List.getElem?_set_ne n1]; exact hi2) hp2 cb y3 y4
    exact q v H' rb (c1.trans fun b o hn e => c b o (fun z => z.elim (fun z => hn (by rw [z]; exact hM1)) fun z => hn (by rw [z]; exact hM2)) e) (res.back r1 c1)
end DL
end
section
set_option Elab.async false
set_option linter.all false
set_option maxRecDepth 100000
namespace DL
open PySem L2
theorem lc_ok2 {X : Cx} {N : List Str} {scope2 : Scope} {cl : List (Str × Addr)} {fp : List Addr} {s3 : Shared} {H3 : Hp} {N' : List Str} {own : Nat} {fr : List Nat} {scope : Scope} (h : (lcChk N' own fr scope N scope2 && scope2.names.all fun y => y.2 != .cell) = true) : LcOk (cxC X N scope2 cl fp s3 H3) N' own fr scope := by
  rw [Bool.and_eq_true] at h
  have o := lc_ok (X := { X with N := N, env := { X.env with scope := scope2 } }) rfl rfl h.1
  refine ⟨o.kind, o.len, o.cell, o.names, fun x hx => ?_, o.slot⟩
  show (relabel scope2 X.env).names.lookup x = some .cell ∨ (relabel scope2 X.env).names.lookup x = some .free
  rcases o.free x hx with z | z
  · have := List.all_eq_true.mp h.2 _ (PySem.mem_of_lookup z)
    simp at this
  · exact rl_free z
end DL
end
set_option Elab.async false
set_option linter.all false
set_option maxRecDepth 100000
set_option maxHeartbeats 2000000
namespace My
open PySem L2 DL
local macro_rules | `(tactic| walk_at "zz") => `(tactic| first | rfl | (intro _; rfl) | exact .inl rfl | exact .inr rfl | with_unfolding_all rfl | decide | assumption)
local macro_rules | `(tactic| walk_at "dk") => `(tactic| decide +kernel)
abbrev dbP (x : Str) : Prop := (x == ("__debug__" : Str)) = false
abbrev clP (x : Str) : Prop := (x == ("__classdict__" : Str)) = false
abbrev glP (s : Stmt) (x : Str) : Prop := (defScope s).names.lookup x = some NameKind.globalImplicit
theorem viL {sc : Scope} {x : Str} (h : L2.Loc sc x) : Vis sc x := h.elim Or.inl fun h => Or.inr (Or.inl h)
def top (i : Nat) : Stmt := PySem.Challenge.pw_scenemend_k66_plans_by_hand.main.body.getD i (.Pass ⟨0, 0, 0, 0⟩)
theorem dbg__law_at : dbP "_law_at" := by decide +kernel
theorem cls__law_at : clP "_law_at" := by decide +kernel
theorem dbg__law_behind : dbP "_law_behind" := by decide +kernel
theorem cls__law_behind : clP "_law_behind" := by decide +kernel
theorem dbg__law_big : dbP "_law_big" := by decide +kernel
theorem dbg__law_big_here : dbP "_law_big_here" := by decide +kernel
theorem cls__law_big_here : clP "_law_big_here" := by decide +kernel
theorem dbg__law_by : dbP "_law_by" := by decide +kernel
theorem cls__law_by : clP "_law_by" := by decide +kernel
theorem dbg__law_cell : dbP "_law_cell" := by decide +kernel
theorem cls__law_cell : clP "_law_cell" := by decide +kernel
theorem dbg__law_cell_at : dbP "_law_cell_at" := by decide +kernel
theorem dbg__law_cells : dbP "_law_cells" := by decide +kernel
theorem cls__law_cells : clP "_law_cells" := by decide +kernel
theorem dbg__law_copies : dbP "_law_copies" := by decide +kernel
theorem cls__law_copies : clP "_law_copies" := by decide +kernel
theorem dbg__law_copy : dbP "_law_copy" := by decide +kernel
theorem dbg__law_digit : dbP "_law_digit" := by decide +kernel
theorem dbg__law_digit_here : dbP "_law_digit_here" := by decide +kernel
theorem cls__law_digit_here : clP "_law_digit_here" := by decide +kernel
theorem dbg__law_due : dbP "_law_due" := by decide +kernel
theorem dbg__law_due_here : dbP "_law_due_here" := by decide +kernel
theorem cls__law_due_here : clP "_law_due_here" := by decide +kernel
theorem dbg__law_dx : dbP "_law_dx" := by decide +kernel
theorem cls__law_dx : clP "_law_dx" := by decide +kernel
theorem dbg__law_dy : dbP "_law_dy" := by decide +kernel
theorem cls__law_dy : clP "_law_dy" := by decide +kernel
theorem dbg__law_fits : dbP "_law_fits" := by decide +kernel
theorem dbg__law_found : dbP "_law_found" := by decide +kernel
theorem cls__law_found : clP "_law_found" := by decide +kernel
theorem dbg__law_h : dbP "_law_h" := by decide +kernel
theorem cls__law_h : clP "_law_h" := by decide +kernel
theorem dbg__law_handed : dbP "_law_handed" := by decide +kernel
theorem cls__law_handed : clP "_law_handed" := by decide +kernel
theorem dbg__law_is_fraction : dbP "_law_is_fraction" := by decide +kernel
theorem dbg__law_j : dbP "_law_j" := by decide +kernel
theorem cls__law_j : clP "_law_j" := by decide +kernel
theorem dbg__law_k : dbP "_law_k" := by decide +kernel
theorem cls__law_k : clP "_law_k" := by decide +kernel
theorem dbg__law_kept : dbP "_law_kept" := by decide +kernel
theorem cls__law_kept : clP "_law_kept" := by decide +kernel
theorem dbg__law_line : dbP "_law_line" := by decide +kernel
theorem cls__law_line : clP "_law_line" := by decide +kernel
theorem dbg__law_made : dbP "_law_made" := by decide +kernel
theorem cls__law_made : clP "_law_made" := by decide +kernel
theorem dbg__law_many : dbP "_law_many" := by decide +kernel
theorem cls__law_many : clP "_law_many" := by decide +kernel
theorem dbg__law_most : dbP "_law_most" := by decide +kernel
theorem cls__law_most : clP "_law_most" := by decide +kernel
theorem dbg__law_near_by : dbP "_law_near_by" := by decide +kernel
theorem dbg__law_next_by : dbP "_law_next_by" := by decide +kernel
theorem dbg__law_old : dbP "_law_old" := by decide +kernel
theorem cls__law_old : clP "_law_old" := by decide +kernel
theorem dbg__law_one : dbP "_law_one" := by decide +kernel
theorem cls__law_one : clP "_law_one" := by decide +kernel
theorem dbg__law_picture : dbP "_law_picture" := by decide +kernel
theorem cls__law_picture : clP "_law_picture" := by decide +kernel
theorem dbg__law_picture_by : dbP "_law_picture_by" := by decide +kernel
theorem dbg__law_plan : dbP "_law_plan" := by decide +kernel
theorem cls__law_plan : clP "_law_plan" := by decide +kernel
theorem dbg__law_prime : dbP "_law_prime" := by decide +kernel
theorem cls__law_prime : clP "_law_prime" := by decide +kernel
theorem dbg__law_rest : dbP "_law_rest" := by decide +kernel
theorem cls__law_rest : clP "_law_rest" := by decide +kernel
theorem dbg__law_same_picture : dbP "_law_same_picture" := by decide +kernel
theorem dbg__law_script : dbP "_law_script" := by decide +kernel
theorem cls__law_script : clP "_law_script" := by decide +kernel
theorem dbg__law_shade : dbP "_law_shade" := by decide +kernel
theorem cls__law_shade : clP "_law_shade" := by decide +kernel
theorem dbg__law_shades : dbP "_law_shades" := by decide +kernel
theorem cls__law_shades : clP "_law_shades" := by decide +kernel
theorem dbg__law_shift : dbP "_law_shift" := by decide +kernel
theorem cls__law_shift : clP "_law_shift" := by decide +kernel
theorem dbg__law_stretch : dbP "_law_stretch" := by decide +kernel
theorem cls__law_stretch : clP "_law_stretch" := by decide +kernel
theorem dbg__law_stretches : dbP "_law_stretches" := by decide +kernel
theorem dbg__law_thing : dbP "_law_thing" := by decide +kernel
theorem cls__law_thing : clP "_law_thing" := by decide +kernel
theorem dbg__law_told : dbP "_law_told" := by decide +kernel
theorem cls__law_told : clP "_law_told" := by decide +kernel
theorem dbg__law_used : dbP "_law_used" := by decide +kernel
theorem cls__law_used : clP "_law_used" := by decide +kernel
theorem dbg__law_w : dbP "_law_w" := by decide +kernel
theorem cls__law_w : clP "_law_w" := by decide +kernel
theorem dbg__law_x : dbP "_law_x" := by decide +kernel
theorem cls__law_x : clP "_law_x" := by decide +kernel
theorem dbg__law_y : dbP "_law_y" := by decide +kernel
theorem cls__law_y : clP "_law_y" := by decide +kernel
theorem dbg_behind : dbP "behind" := by decide +kernel
theorem cls_behind : clP "behind" := by decide +kernel
theorem dbg_bool : dbP "bool" := by decide +kernel
theorem nam_bool : ("bool" : Str) ≠ "__name__" := by decide +kernel
theorem dbg_box : dbP "box" := by decide +kernel
theorem cls_box : clP "box" := by decide +kernel
theorem dbg_cells : dbP "cells" := by decide +kernel
theorem cls_cells : clP "cells" := by decide +kernel
theorem dbg_cells_of : dbP "cells_of" := by decide +kernel
theorem dbg_int : dbP "int" := by decide +kernel
theorem nam_int : ("int" : Str) ≠ "__name__" := by decide +kernel
theorem dbg_isinstance : dbP "isinstance" := by decide +kernel
theorem nam_isinstance : ("isinstance" : Str) ≠ "__name__" := by decide +kernel
theorem dbg_len : dbP "len" := by decide +kernel
theorem nam_len : ("len" : Str) ≠ "__name__" := by decide +kernel
theorem dbg_list : dbP "list" := by decide +kernel
theorem nam_list : ("list" : Str) ≠ "__name__" := by decide +kernel
theorem dbg_many : dbP "many" := by decide +kernel
theorem cls_many : clP "many" := by decide +kernel
theorem dbg_old : dbP "old" := by decide +kernel
theorem cls_old : clP "old" := by decide +kernel
theorem dbg_picture : dbP "picture" := by decide +kernel
theorem cls_picture : clP "picture" := by decide +kernel
theorem dbg_picture_copied : dbP "picture_copied" := by decide +kernel
theorem dbg_plan : dbP "plan" := by decide +kernel
theorem cls_plan : clP "plan" := by decide +kernel
theorem dbg_plan_done : dbP "plan_done" := by decide +kernel
theorem dbg_row : dbP "row" := by decide +kernel
theorem cls_row : clP "row" := by decide +kernel
theorem dbg_shift : dbP "shift" := by decide +kernel
theorem cls_shift : clP "shift" := by decide +kernel
theorem dbg_stretch_cells : dbP "stretch_cells" := by decide +kernel
theorem dbg_stretches : dbP "stretches" := by decide +kernel
theorem cls_stretches : clP "stretches" := by decide +kernel
theorem dbg_tuple : dbP "tuple" := by decide +kernel
theorem nam_tuple : ("tuple" : Str) ≠ "__name__" := by decide +kernel
theorem dbg_x : dbP "x" := by decide +kernel
theorem cls_x : clP "x" := by decide +kernel
theorem dbg_y : dbP "y" := by decide +kernel
theorem cls_y : clP "y" := by decide +kernel
abbrev s_L_digit : Stmt := top 10
theorem sc_L_digit : FnScope ["_law_rest", "_law_many", "_law_digit_here"] ["_law_rest", "_law_many"] (defScope s_L_digit) := ⟨rfl, rfl, rfl, by decide +kernel, rfl, by decide +kernel, by decide +kernel⟩
theorem n_L_digit_0 : L2.Loc (defScope s_L_digit) "_law_rest" := by unfold L2.Loc; decide +kernel
theorem v_L_digit_0 : Vis (defScope s_L_digit) "_law_rest" := viL n_L_digit_0
theorem n_L_digit_1 : L2.Loc (defScope s_L_digit) "_law_many" := by unfold L2.Loc; decide +kernel
theorem v_L_digit_1 : Vis (defScope s_L_digit) "_law_many" := viL n_L_digit_1
theorem n_L_digit_2 : L2.Loc (defScope s_L_digit) "_law_digit_here" := by unfold L2.Loc; decide +kernel
theorem v_L_digit_2 : Vis (defScope s_L_digit) "_law_digit_here" := viL n_L_digit_2
abbrev s_L_picture_by : Stmt := top 13
theorem sc_L_picture_by : FnScope ["_law_rest", "_law_w", "_law_h", "_law_many", "_law_shades"] ["_law_rest", "_law_w", "_law_h"] (defScope s_L_picture_by) := ⟨rfl, rfl, rfl, by decide +kernel, rfl, by decide +kernel, by decide +kernel⟩
theorem n_L_picture_by_0 : L2.Loc (defScope s_L_picture_by) "_law_rest" := by unfold L2.Loc; decide +kernel
theorem v_L_picture_by_0 : Vis (defScope s_L_picture_by) "_law_rest" := viL n_L_picture_by_0
theorem n_L_picture_by_2 : L2.Loc (defScope s_L_picture_by) "_law_h" := by unfold L2.Loc; decide +kernel
theorem v_L_picture_by_2 : Vis (defScope s_L_picture_by) "_law_h" := viL n_L_picture_by_2
theorem n_L_picture_by_3 : L2.Loc (defScope s_L_picture_by) "_law_many" := by unfold L2.Loc; decide +kernel
theorem v_L_picture_by_3 : Vis (defScope s_L_picture_by) "_law_many" := viL n_L_picture_by_3
theorem n_L_picture_by_4 : L2.Loc (defScope s_L_picture_by) "_law_shades" := by unfold L2.Loc; decide +kernel
theorem g_L_picture_by__law_digit : glP s_L_picture_by "_law_digit" := by decide +kernel
theorem g_L_picture_by_range : glP s_L_picture_by "range" := by decide +kernel
theorem nd0_L_picture_by : List.Nodup (["_law_y", "_law_shades", "_law_rest", "_law_many", "_law_w"] : List Str) := by decide +kernel
theorem nd1_L_picture_by : List.Nodup (["_law_x", "_law_shades", "_law_rest", "_law_many"] : List Str) := by decide +kernel
abbrev s_L_near_by : Stmt := top 14
theorem sc_L_near_by : FnScope ["_law_rest", "_law_picture", "_law_made", "_law_k", "_law_x"] ["_law_rest", "_law_picture"] (defScope s_L_near_by) := ⟨rfl, rfl, rfl, by decide +kernel, rfl, by decide +kernel, by decide +kernel⟩
theorem n_L_near_by_0 : L2.Loc (defScope s_L_near_by) "_law_rest" := by unfold L2.Loc; decide +kernel
theorem v_L_near_by_0 : Vis (defScope s_L_near_by) "_law_rest" := viL n_L_near_by_0
theorem n_L_near_by_1 : L2.Loc (defScope s_L_near_by) "_law_picture" := by unfold L2.Loc; decide +kernel
theorem v_L_near_by_1 : Vis (defScope s_L_near_by) "_law_picture" := viL n_L_near_by_1
theorem n_L_near_by_2 : L2.Loc (defScope s_L_near_by) "_law_made" := by unfold L2.Loc; decide +kernel
theorem v_L_near_by_2 : Vis (defScope s_L_near_by) "_law_made" := viL n_L_near_by_2
theorem l_L_near_by_2 : (defScope s_L_near_by).names.lookup ("_law_made" : Str) = some NameKind.local := by decide +kernel
theorem n_L_near_by_3 : L2.Loc (defScope s_L_near_by) "_law_k" := by unfold L2.Loc; decide +kernel
theorem n_L_near_by_4 : L2.Loc (defScope s_L_near_by) "_law_x" := by unfold L2.Loc; decide +kernel
theorem v_L_near_by_4 : Vis (defScope s_L_near_by) "_law_x" := viL n_L_near_by_4
theorem g_L_near_by__law_digit : glP s_L_near_by "_law_digit" := by decide +kernel
theorem g_L_near_by_range : glP s_L_near_by "range" := by decide +kernel
theorem g_L_near_by_len : glP s_L_near_by "len" := by decide +kernel
theorem nd0_L_near_by : List.Nodup (["_law_line"] : List Str) := by decide +kernel
abbrev s_L_next_by : Stmt := top 15
theorem sc_L_next_by : FnScope ["_law_rest", "_law_picture"] ["_law_rest", "_law_picture"] (defScope s_L_next_by) := ⟨rfl, rfl, rfl, by decide +kernel, rfl, by decide +kernel, by decide +kernel⟩
theorem n_L_next_by_0 : L2.Loc (defScope s_L_next_by) "_law_rest" := by unfold L2.Loc; decide +kernel
theorem v_L_next_by_0 : Vis (defScope s_L_next_by) "_law_rest" := viL n_L_next_by_0
theorem n_L_next_by_1 : L2.Loc (defScope s_L_next_by) "_law_picture" := by unfold L2.Loc; decide +kernel
theorem v_L_next_by_1 : Vis (defScope s_L_next_by) "_law_picture" := viL n_L_next_by_1
theorem g_L_next_by__law_digit : glP s_L_next_by "_law_digit" := by decide +kernel
theorem g_L_next_by_len : glP s_L_next_by "len" := by decide +kernel
theorem g_L_next_by__law_picture_by : glP s_L_next_by "_law_picture_by" := by decide +kernel
theorem g_L_next_by__law_near_by : glP s_L_next_by "_law_near_by" := by decide +kernel
abbrev s_L_fits : Stmt := top 17
theorem sc_L_fits : FnScope ["_law_w", "_law_h", "_law_stretch", "_law_shift", "_law_x", "_law_y", "_law_many"] ["_law_w", "_law_h", "_law_stretch", "_law_shift"] (defScope s_L_fits) := ⟨rfl, rfl, rfl, by decide +kernel, rfl, by decide +kernel, by decide +kernel⟩
theorem n_L_fits_0 : L2.Loc (defScope s_L_fits) "_law_w" := by unfold L2.Loc; decide +kernel
theorem v_L_fits_0 : Vis (defScope s_L_fits) "_law_w" := viL n_L_fits_0
theorem n_L_fits_1 : L2.Loc (defScope s_L_fits) "_law_h" := by unfold L2.Loc; decide +kernel
theorem v_L_fits_1 : Vis (defScope s_L_fits) "_law_h" := viL n_L_fits_1
theorem n_L_fits_2 : L2.Loc (defScope s_L_fits) "_law_stretch" := by unfold L2.Loc; decide +kernel
theorem v_L_fits_2 : Vis (defScope s_L_fits) "_law_stretch" := viL n_L_fits_2
theorem n_L_fits_3 : L2.Loc (defScope s_L_fits) "_law_shift" := by unfold L2.Loc; decide +kernel
theorem v_L_fits_3 : Vis (defScope s_L_fits) "_law_shift" := viL n_L_fits_3
theorem n_L_fits_4 : L2.Loc (defScope s_L_fits) "_law_x" := by unfold L2.Loc; decide +kernel
theorem v_L_fits_4 : Vis (defScope s_L_fits) "_law_x" := viL n_L_fits_4
theorem n_L_fits_5 : L2.Loc (defScope s_L_fits) "_law_y" := by unfold L2.Loc; decide +kernel
theorem v_L_fits_5 : Vis (defScope s_L_fits) "_law_y" := viL n_L_fits_5
theorem n_L_fits_6 : L2.Loc (defScope s_L_fits) "_law_many" := by unfold L2.Loc; decide +kernel
theorem v_L_fits_6 : Vis (defScope s_L_fits) "_law_many" := viL n_L_fits_6
abbrev s_L_stretches : Stmt := top 18
theorem sc_L_stretches : FnScope ["_law_rest", "_law_w", "_law_h", "_law_shift", "_law_used", "_law_most", "_law_found", "_law_k", "_law_x", "_law_y", "_law_stretch", "_law_cells", "_law_cell"] ["_law_rest", "_law_w", "_law_h", "_law_shift", "_law_used", "_law_most"] (defScope s_L_stretches) := ⟨rfl, rfl, rfl, by decide +kernel, rfl, by decide +kernel, by decide +kernel⟩
theorem n_L_stretches_0 : L2.Loc (defScope s_L_stretches) "_law_rest" := by unfold L2.Loc; decide +kernel
theorem v_L_stretches_0 : Vis (defScope s_L_stretches) "_law_rest" := viL n_L_stretches_0
theorem n_L_stretches_1 : L2.Loc (defScope s_L_stretches) "_law_w" := by unfold L2.Loc; decide +kernel
theorem v_L_stretches_1 : Vis (defScope s_L_stretches) "_law_w" := viL n_L_stretches_1
theorem n_L_stretches_2 : L2.Loc (defScope s_L_stretches) "_law_h" := by unfold L2.Loc; decide +kernel
theorem v_L_stretches_2 : Vis (defScope s_L_stretches) "_law_h" := viL n_L_stretches_2
theorem n_L_stretches_3 : L2.Loc (defScope s_L_stretches) "_law_shift" := by unfold L2.Loc; decide +kernel
theorem v_L_stretches_3 : Vis (defScope s_L_stretches) "_law_shift" := viL n_L_stretches_3
theorem n_L_stretches_4 : L2.Loc (defScope s_L_stretches) "_law_used" := by unfold L2.Loc; decide +kernel
theorem v_L_stretches_4 : Vis (defScope s_L_stretches) "_law_used" := viL n_L_stretches_4
theorem n_L_stretches_5 : L2.Loc (defScope s_L_stretches) "_law_most" := by unfold L2.Loc; decide +kernel
theorem v_L_stretches_5 : Vis (defScope s_L_stretches) "_law_most" := viL n_L_stretches_5
theorem n_L_stretches_6 : L2.Loc (defScope s_L_stretches) "_law_found" := by unfold L2.Loc; decide +kernel
theorem v_L_stretches_6 : Vis (defScope s_L_stretches) "_law_found" := viL n_L_stretches_6
theorem n_L_stretches_7 : L2.Loc (defScope s_L_stretches) "_law_k" := by unfold L2.Loc; decide +kernel
theorem n_L_stretches_8 : L2.Loc (defScope s_L_stretches) "_law_x" := by unfold L2.Loc; decide +kernel
theorem v_L_stretches_8 : Vis (defScope s_L_stretches) "_law_x" := viL n_L_stretches_8
theorem n_L_stretches_9 : L2.Loc (defScope s_L_stretches) "_law_y" := by unfold L2.Loc; decide +kernel
theorem v_L_stretches_9 : Vis (defScope s_L_stretches) "_law_y" := viL n_L_stretches_9
theorem n_L_stretches_10 : L2.Loc (defScope s_L_stretches) "_law_stretch" := by unfold L2.Loc; decide +kernel
theorem v_L_stretches_10 : Vis (defScope s_L_stretches) "_law_stretch" := viL n_L_stretches_10
theorem n_L_stretches_11 : L2.Loc (defScope s_L_stretches) "_law_cells" := by unfold L2.Loc; decide +kernel
theorem v_L_stretches_11 : Vis (defScope s_L_stretches) "_law_cells" := viL n_L_stretches_11
theorem l_L_stretches_11 : (defScope s_L_stretches).names.lookup ("_law_cells" : Str) = some NameKind.local := by decide +kernel
theorem n_L_stretches_12 : L2.Loc (defScope s_L_stretches) "_law_cell" := by unfold L2.Loc; decide +kernel
theorem v_L_stretches_12 : Vis (defScope s_L_stretches) "_law_cell" := viL n_L_stretches_12
theorem g_L_stretches__law_digit : glP s_L_stretches "_law_digit" := by decide +kernel
theorem g_L_stretches_range : glP s_L_stretches "range" := by decide +kernel
theorem g_L_stretches__law_fits : glP s_L_stretches "_law_fits" := by decide +kernel
theorem nd0_L_stretches : List.Nodup (["_law_j", "_law_y", "_law_x"] : List Str) := by decide +kernel
theorem nd1_L_stretches : List.Nodup (["_law_cell", "_law_used"] : List Str) := by decide +kernel
abbrev s_picture_copied : Stmt := top 3
theorem sc_picture_copied : FnScope ["picture"] ["picture"] (defScope s_picture_copied) := ⟨rfl, rfl, rfl, by decide +kernel, rfl, by decide +kernel, by decide +kernel⟩
theorem n_picture_copied_0 : L2.Loc (defScope s_picture_copied) "picture" := by unfold L2.Loc; decide +kernel
theorem v_picture_copied_0 : Vis (defScope s_picture_copied) "picture" := viL n_picture_copied_0
theorem nd0_picture_copied : List.Nodup (["row"] : List Str) := by decide +kernel
abbrev s_cells_of : Stmt := top 1
theorem sc_cells_of : FnScope ["box", "cells", "y"] ["box"] (defScope s_cells_of) := ⟨rfl, rfl, rfl, by decide +kernel, rfl, by decide +kernel, by decide +kernel⟩
theorem n_cells_of_0 : L2.Loc (defScope s_cells_of) "box" := by unfold L2.Loc; decide +kernel
theorem v_cells_of_0 : Vis (defScope s_cells_of) "box" := viL n_cells_of_0
theorem n_cells_of_1 : L2.Loc (defScope s_cells_of) "cells" := by unfold L2.Loc; decide +kernel
theorem v_cells_of_1 : Vis (defScope s_cells_of) "cells" := viL n_cells_of_1
theorem n_cells_of_2 : L2.Loc (defScope s_cells_of) "y" := by unfold L2.Loc; decide +kernel
theorem g_cells_of_range : glP s_cells_of "range" := by decide +kernel
theorem nd0_cells_of : List.Nodup (["x", "y"] : List Str) := by decide +kernel
abbrev s_stretch_cells : Stmt := top 5
theorem sc_stretch_cells : FnScope ["stretches", "cells", "x", "y", "many"] ["stretches"] (defScope s_stretch_cells) := ⟨rfl, rfl, rfl, by decide +kernel, rfl, by decide +kernel, by decide +kernel⟩
theorem n_stretch_cells_0 : L2.Loc (defScope s_stretch_cells) "stretches" := by unfold L2.Loc; decide +kernel
theorem v_stretch_cells_0 : Vis (defScope s_stretch_cells) "stretches" := viL n_stretch_cells_0
theorem n_stretch_cells_1 : L2.Loc (defScope s_stretch_cells) "cells" := by unfold L2.Loc; decide +kernel
theorem v_stretch_cells_1 : Vis (defScope s_stretch_cells) "cells" := viL n_stretch_cells_1
theorem n_stretch_cells_2 : L2.Loc (defScope s_stretch_cells) "x" := by unfold L2.Loc; decide +kernel
theorem v_stretch_cells_2 : Vis (defScope s_stretch_cells) "x" := viL n_stretch_cells_2
theorem n_stretch_cells_3 : L2.Loc (defScope s_stretch_cells) "y" := by unfold L2.Loc; decide +kernel
theorem v_stretch_cells_3 : Vis (defScope s_stretch_cells) "y" := viL n_stretch_cells_3
theorem n_stretch_cells_4 : L2.Loc (defScope s_stretch_cells) "many" := by unfold L2.Loc; decide +kernel
theorem v_stretch_cells_4 : Vis (defScope s_stretch_cells) "many" := viL n_stretch_cells_4
theorem g_stretch_cells_cells_of : glP s_stretch_cells "cells_of" := by decide +kernel
abbrev s_plan_done : Stmt := top 6
theorem sc_plan_done : FnScope ["plan", "old", "behind", "shift", "picture", "x", "y"] ["plan", "old", "behind"] (defScope s_plan_done) := ⟨rfl, rfl, rfl, by decide +kernel, rfl, by decide +kernel, by decide +kernel⟩
theorem n_plan_done_0 : L2.Loc (defScope s_plan_done) "plan" := by unfold L2.Loc; decide +kernel
theorem v_plan_done_0 : Vis (defScope s_plan_done) "plan" := viL n_plan_done_0
theorem n_plan_done_1 : L2.Loc (defScope s_plan_done) "old" := by unfold L2.Loc; decide +kernel
theorem v_plan_done_1 : Vis (defScope s_plan_done) "old" := viL n_plan_done_1
theorem n_plan_done_2 : L2.Loc (defScope s_plan_done) "behind" := by unfold L2.Loc; decide +kernel
theorem v_plan_done_2 : Vis (defScope s_plan_done) "behind" := viL n_plan_done_2
theorem n_plan_done_3 : L2.Loc (defScope s_plan_done) "shift" := by unfold L2.Loc; decide +kernel
theorem v_plan_done_3 : Vis (defScope s_plan_done) "shift" := viL n_plan_done_3
theorem n_plan_done_4 : L2.Loc (defScope s_plan_done) "picture" := by unfold L2.Loc; decide +kernel
theorem v_plan_done_4 : Vis (defScope s_plan_done) "picture" := viL n_plan_done_4
theorem n_plan_done_5 : L2.Loc (defScope s_plan_done) "x" := by unfold L2.Loc; decide +kernel
theorem v_plan_done_5 : Vis (defScope s_plan_done) "x" := viL n_plan_done_5
theorem n_plan_done_6 : L2.Loc (defScope s_plan_done) "y" := by unfold L2.Loc; decide +kernel
theorem v_plan_done_6 : Vis (defScope s_plan_done) "y" := viL n_plan_done_6
theorem g_plan_done_picture_copied : glP s_plan_done "picture_copied" := by decide +kernel
theorem g_plan_done_stretch_cells : glP s_plan_done "stretch_cells" := by decide +kernel
abbrev s_L_is_fraction : Stmt := top 11
theorem sc_L_is_fraction : FnScope ["_law_thing", "_law_one"] ["_law_thing"] (defScope s_L_is_fraction) := ⟨rfl, rfl, rfl, by decide +kernel, rfl, by decide +kernel, by decide +kernel⟩
theorem n_L_is_fraction_0 : L2.Loc (defScope s_L_is_fraction) "_law_thing" := by unfold L2.Loc; decide +kernel
theorem v_L_is_fraction_0 : Vis (defScope s_L_is_fraction) "_law_thing" := viL n_L_is_fraction_0
theorem n_L_is_fraction_1 : L2.Loc (defScope s_L_is_fraction) "_law_one" := by unfold L2.Loc; decide +kernel
theorem v_L_is_fraction_1 : Vis (defScope s_L_is_fraction) "_law_one" := viL n_L_is_fraction_1
theorem g_L_is_fraction_len : glP s_L_is_fraction "len" := by decide +kernel
theorem g_L_is_fraction_tuple : glP s_L_is_fraction "tuple" := by decide +kernel
theorem g_L_is_fraction_isinstance : glP s_L_is_fraction "isinstance" := by decide +kernel
theorem g_L_is_fraction_bool : glP s_L_is_fraction "bool" := by decide +kernel
theorem g_L_is_fraction_int : glP s_L_is_fraction "int" := by decide +kernel
abbrev s_L_same_picture : Stmt := top 12
theorem sc_L_same_picture : FnScope ["_law_found", "_law_due_here", "_law_y"] ["_law_found", "_law_due_here"] (defScope s_L_same_picture) := ⟨rfl, rfl, rfl, by decide +kernel, rfl, by decide +kernel, by decide +kernel⟩
theorem n_L_same_picture_0 : L2.Loc (defScope s_L_same_picture) "_law_found" := by unfold L2.Loc; decide +kernel
theorem v_L_same_picture_0 : Vis (defScope s_L_same_picture) "_law_found" := viL n_L_same_picture_0
theorem n_L_same_picture_1 : L2.Loc (defScope s_L_same_picture) "_law_due_here" := by unfold L2.Loc; decide +kernel
theorem v_L_same_picture_1 : Vis (defScope s_L_same_picture) "_law_due_here" := viL n_L_same_picture_1
theorem n_L_same_picture_2 : L2.Loc (defScope s_L_same_picture) "_law_y" := by unfold L2.Loc; decide +kernel
theorem v_L_same_picture_2 : Vis (defScope s_L_same_picture) "_law_y" := viL n_L_same_picture_2
theorem g_L_same_picture_len : glP s_L_same_picture "len" := by decide +kernel
theorem g_L_same_picture_list : glP s_L_same_picture "list" := by decide +kernel
theorem g_L_same_picture_isinstance : glP s_L_same_picture "isinstance" := by decide +kernel
theorem g_L_same_picture_range : glP s_L_same_picture "range" := by decide +kernel
theorem nd0_L_same_picture : List.Nodup (["_law_shade"] : List Str) := by decide +kernel
abbrev s_L_cell_at : Stmt := top 8
theorem sc_L_cell_at : FnScope ["_law_script", "_law_k"] ["_law_script", "_law_k"] (defScope s_L_cell_at) := ⟨rfl, rfl, rfl, by decide +kernel, rfl, by decide +kernel, by decide +kernel⟩
theorem n_L_cell_at_0 : L2.Loc (defScope s_L_cell_at) "_law_script" := by unfold L2.Loc; decide +kernel
theorem v_L_cell_at_0 : Vis (defScope s_L_cell_at) "_law_script" := viL n_L_cell_at_0
theorem n_L_cell_at_1 : L2.Loc (defScope s_L_cell_at) "_law_k" := by unfold L2.Loc; decide +kernel
theorem v_L_cell_at_1 : Vis (defScope s_L_cell_at) "_law_k" := viL n_L_cell_at_1
theorem g_L_cell_at_len : glP s_L_cell_at "len" := by decide +kernel
abbrev s_L_big : Stmt := top 9
theorem sc_L_big : FnScope ["_law_script", "_law_at", "_law_by", "_law_prime", "_law_cell", "_law_big_here", "_law_k", "_law_one"] ["_law_script", "_law_at"] (defScope s_L_big) := ⟨rfl, rfl, rfl, by decide +kernel, rfl, by decide +kernel, by decide +kernel⟩
theorem n_L_big_0 : L2.Loc (defScope s_L_big) "_law_script" := by unfold L2.Loc; decide +kernel
theorem v_L_big_0 : Vis (defScope s_L_big) "_law_script" := viL n_L_big_0
theorem n_L_big_1 : L2.Loc (defScope s_L_big) "_law_at" := by unfold L2.Loc; decide +kernel
theorem v_L_big_1 : Vis (defScope s_L_big) "_law_at" := viL n_L_big_1
theorem n_L_big_2 : L2.Loc (defScope s_L_big) "_law_by" := by unfold L2.Loc; decide +kernel
theorem v_L_big_2 : Vis (defScope s_L_big) "_law_by" := viL n_L_big_2
theorem n_L_big_3 : L2.Loc (defScope s_L_big) "_law_prime" := by unfold L2.Loc; decide +kernel
theorem v_L_big_3 : Vis (defScope s_L_big) "_law_prime" := viL n_L_big_3
theorem n_L_big_4 : L2.Loc (defScope s_L_big) "_law_cell" := by unfold L2.Loc; decide +kernel
theorem v_L_big_4 : Vis (defScope s_L_big) "_law_cell" := viL n_L_big_4
theorem n_L_big_5 : L2.Loc (defScope s_L_big) "_law_big_here" := by unfold L2.Loc; decide +kernel
theorem v_L_big_5 : Vis (defScope s_L_big) "_law_big_here" := viL n_L_big_5
theorem n_L_big_6 : L2.Loc (defScope s_L_big) "_law_k" := by unfold L2.Loc; decide +kernel
theorem v_L_big_6 : Vis (defScope s_L_big) "_law_k" := viL n_L_big_6
theorem n_L_big_7 : L2.Loc (defScope s_L_big) "_law_one" := by unfold L2.Loc; decide +kernel
theorem v_L_big_7 : Vis (defScope s_L_big) "_law_one" := viL n_L_big_7
theorem g_L_big__law_cell_at : glP s_L_big "_law_cell_at" := by decide +kernel
theorem g_L_big_range : glP s_L_big "range" := by decide +kernel
abbrev s_L_copy : Stmt := top 16
theorem sc_L_copy : FnScope ["_law_picture"] ["_law_picture"] (defScope s_L_copy) := ⟨rfl, rfl, rfl, by decide +kernel, rfl, by decide +kernel, by decide +kernel⟩
theorem n_L_copy_0 : L2.Loc (defScope s_L_copy) "_law_picture" := by unfold L2.Loc; decide +kernel
theorem v_L_copy_0 : Vis (defScope s_L_copy) "_law_picture" := viL n_L_copy_0
theorem nd0_L_copy : List.Nodup (["_law_line"] : List Str) := by decide +kernel
abbrev s_L_due : Stmt := top 19
theorem sc_L_due : FnScope ["_law_plan", "_law_old", "_law_behind", "_law_due_here", "_law_dx", "_law_dy", "_law_x", "_law_y", "_law_many", "_law_k"] ["_law_plan", "_law_old", "_law_behind"] (defScope s_L_due) := ⟨rfl, rfl, rfl, by decide +kernel, rfl, by decide +kernel, by decide +kernel⟩
theorem n_L_due_0 : L2.Loc (defScope s_L_due) "_law_plan" := by unfold L2.Loc; decide +kernel
theorem v_L_due_0 : Vis (defScope s_L_due) "_law_plan" := viL n_L_due_0
theorem n_L_due_1 : L2.Loc (defScope s_L_due) "_law_old" := by unfold L2.Loc; decide +kernel
theorem v_L_due_1 : Vis (defScope s_L_due) "_law_old" := viL n_L_due_1
theorem n_L_due_2 : L2.Loc (defScope s_L_due) "_law_behind" := by unfold L2.Loc; decide +kernel
theorem v_L_due_2 : Vis (defScope s_L_due) "_law_behind" := viL n_L_due_2
theorem n_L_due_3 : L2.Loc (defScope s_L_due) "_law_due_here" := by unfold L2.Loc; decide +kernel
theorem v_L_due_3 : Vis (defScope s_L_due) "_law_due_here" := viL n_L_due_3
theorem n_L_due_4 : L2.Loc (defScope s_L_due) "_law_dx" := by unfold L2.Loc; decide +kernel
theorem v_L_due_4 : Vis (defScope s_L_due) "_law_dx" := viL n_L_due_4
theorem n_L_due_5 : L2.Loc (defScope s_L_due) "_law_dy" := by unfold L2.Loc; decide +kernel
theorem v_L_due_5 : Vis (defScope s_L_due) "_law_dy" := viL n_L_due_5
theorem n_L_due_6 : L2.Loc (defScope s_L_due) "_law_x" := by unfold L2.Loc; decide +kernel
theorem v_L_due_6 : Vis (defScope s_L_due) "_law_x" := viL n_L_due_6
theorem n_L_due_7 : L2.Loc (defScope s_L_due) "_law_y" := by unfold L2.Loc; decide +kernel
theorem v_L_due_7 : Vis (defScope s_L_due) "_law_y" := viL n_L_due_7
theorem n_L_due_8 : L2.Loc (defScope s_L_due) "_law_many" := by unfold L2.Loc; decide +kernel
theorem v_L_due_8 : Vis (defScope s_L_due) "_law_many" := viL n_L_due_8
theorem n_L_due_9 : L2.Loc (defScope s_L_due) "_law_k" := by unfold L2.Loc; decide +kernel
theorem v_L_due_9 : Vis (defScope s_L_due) "_law_k" := viL n_L_due_9
theorem g_L_due__law_copy : glP s_L_due "_law_copy" := by decide +kernel
theorem g_L_due_range : glP s_L_due "range" := by decide +kernel
abbrev s_law : Stmt := top 20
theorem sc_law : FnScope ["_law_script", "_law_rest", "_law_w", "_law_h", "_law_old", "_law_behind", "_law_shift", "_law_used", "_law_copies", "_law_plan", "_law_kept", "_law_handed", "_law_told"] ["_law_script"] (defScope s_law) := ⟨rfl, rfl, rfl, by decide +kernel, rfl, by decide +kernel, by decide +kernel⟩
theorem n_law_0 : L2.Loc (defScope s_law) "_law_script" := by unfold L2.Loc; decide +kernel
theorem v_law_0 : Vis (defScope s_law) "_law_script" := viL n_law_0
theorem n_law_1 : L2.Loc (defScope s_law) "_law_rest" := by unfold L2.Loc; decide +kernel
theorem v_law_1 : Vis (defScope s_law) "_law_rest" := viL n_law_1
theorem n_law_2 : L2.Loc (defScope s_law) "_law_w" := by unfold L2.Loc; decide +kernel
theorem v_law_2 : Vis (defScope s_law) "_law_w" := viL n_law_2
theorem n_law_3 : L2.Loc (defScope s_law) "_law_h" := by unfold L2.Loc; decide +kernel
theorem v_law_3 : Vis (defScope s_law) "_law_h" := viL n_law_3
theorem n_law_4 : L2.Loc (defScope s_law) "_law_old" := by unfold L2.Loc; decide +kernel
theorem v_law_4 : Vis (defScope s_law) "_law_old" := viL n_law_4
theorem n_law_5 : L2.Loc (defScope s_law) "_law_behind" := by unfold L2.Loc; decide +kernel
theorem v_law_5 : Vis (defScope s_law) "_law_behind" := viL n_law_5
theorem n_law_6 : L2.Loc (defScope s_law) "_law_shift" := by unfold L2.Loc; decide +kernel
theorem v_law_6 : Vis (defScope s_law) "_law_shift" := viL n_law_6
theorem n_law_7 : L2.Loc (defScope s_law) "_law_used" := by unfold L2.Loc; decide +kernel
theorem v_law_7 : Vis (defScope s_law) "_law_used" := viL n_law_7
theorem n_law_8 : L2.Loc (defScope s_law) "_law_copies" := by unfold L2.Loc; decide +kernel
theorem v_law_8 : Vis (defScope s_law) "_law_copies" := viL n_law_8
theorem n_law_9 : L2.Loc (defScope s_law) "_law_plan" := by unfold L2.Loc; decide +kernel
theorem v_law_9 : Vis (defScope s_law) "_law_plan" := viL n_law_9
theorem n_law_10 : L2.Loc (defScope s_law) "_law_kept" := by unfold L2.Loc; decide +kernel
theorem v_law_10 : Vis (defScope s_law) "_law_kept" := viL n_law_10
theorem n_law_11 : L2.Loc (defScope s_law) "_law_handed" := by unfold L2.Loc; decide +kernel
theorem v_law_11 : Vis (defScope s_law) "_law_handed" := viL n_law_11
theorem n_law_12 : L2.Loc (defScope s_law) "_law_told" := by unfold L2.Loc; decide +kernel
theorem v_law_12 : Vis (defScope s_law) "_law_told" := viL n_law_12
theorem g_law__law_big : glP s_law "_law_big" := by decide +kernel
theorem g_law__law_digit : glP s_law "_law_digit" := by decide +kernel
theorem g_law__law_picture_by : glP s_law "_law_picture_by" := by decide +kernel
theorem g_law__law_next_by : glP s_law "_law_next_by" := by decide +kernel
theorem g_law__law_stretches : glP s_law "_law_stretches" := by decide +kernel
theorem g_law_list : glP s_law "list" := by decide +kernel
theorem g_law__law_copy : glP s_law "_law_copy" := by decide +kernel
theorem g_law_plan_done : glP s_law "plan_done" := by decide +kernel
theorem g_law__law_due : glP s_law "_law_due" := by decide +kernel
theorem g_law__law_same_picture : glP s_law "_law_same_picture" := by decide +kernel
def m_L_digit : List L → Option (PyData × List L) := dFun false 2 1 (dSeq (dAsg (dBor 0 (dOp fMod (dOp fIxL (dVar 0) (dC (.int 0))) (dVar 1))) (dN 2)) (dSeq (dSetI 0 (dBor 0 (dOp fDiv (dOp fIxL (dVar 0) (dC (.int 0))) (dVar 1))) (dC (.int 0))) (dRet (dVar 2))))
def m_L_picture_by : List L → Option (PyData × List L) := dFun true 3 2 (dSeq (dAsg (dOp fAdd (dC (.int 1)) (dCallM 0 m_L_digit (dACons (dC (.int 4)) dANil))) (dN 3)) (dSeq (dAsg (dSl (dLst (dACons (dTup (dACons (dC (.int 0)) (dACons (dC (.int 1)) dANil))) (dACons (dTup (dACons (dC (.int 1)) (dACons (dC (.int 1)) dANil))) (dACons (dTup (dACons (dC (.int 1)) (dACons (dC (.int 2)) dANil))) (dACons (dTup (dACons (dC (.int 2)) (dACons (dC (.int 3)) dANil))) dANil))))) dNoP (dPt (dVar 3))) (dN 4)) (dRet (dLCm 1 [4] 0 [3, 1] (dR1 (dACons (dVar 2) dANil)) (dN 0) dYes (dLCm 1 [1] 2 [3] (dR1 (dACons (dVar 4) dANil)) (dN 0) dYes (dOp fIxL (dVar 1) (dCallM 2 m_L_digit (dACons (dVar 3) dANil))))))))
def m_L_near_by : List L → Option (PyData × List L) := dFun true 2 3 (dSeq (dSetG 2 2 (dLC 1 [] (dIL (dVar 1)) (dN 0) dYes (dFx (dApp fListOf (dACons (dVar 0) dANil))))) (dSeq (dFor (dR1 (dACons (dCallM 0 m_L_digit (dACons (dC (.int 7)) dANil)) dANil)) (dN 3) (dSeq (dAsg (dCallM 0 m_L_digit (dACons (dApp fLen (dACons (dOp fIxL (dVar 1) (dC (.int 0))) dANil)) dANil)) (dN 4)) (dSetGG 2 (dOp fIxL (dLst (dACons (dTup (dACons (dC (.int 0)) (dACons (dC (.int 1)) dANil))) (dACons (dTup (dACons (dC (.int 1)) (dACons (dC (.int 2)) dANil))) (dACons (dTup (dACons (dC (.int 1)) (dACons (dC (.int 3)) dANil))) dANil)))) (dCallM 0 m_L_digit (dACons (dC (.int 3)) dANil))) (dCallM 0 m_L_digit (dACons (dApp fLen (dACons (dVar 1) dANil)) dANil)) (dVar 4)))) (dRetG 2)))
def m_L_next_by : List L → Option (PyData × List L) := dFun true 2 0 (dSeq (dIfS (dTest (dOp fEq (dCallM 0 m_L_digit (dACons (dC (.int 3)) dANil)) (dC (.int 0)))) (dRet (dCallM 0 m_L_picture_by (dACons (dApp fLen (dACons (dOp fIxL (dVar 1) (dC (.int 0))) dANil)) (dACons (dApp fLen (dACons (dVar 1) dANil)) dANil)))) dNil) (dRet (dCallM 0 m_L_near_by (dACons (dVar 1) dANil))))
def m_L_fits : List L → Option (PyData × List L) := dFun false 4 3 (dSeq (dAsg (dVar 2) (dGT (dGCons (dN 4) (dGCons (dN 5) (dGCons (dN 6) dGNil))))) (dSeq (dIfS (dTOr (dTNot (dTest (dOp fLe (dC (.int 0)) (dOp fSub (dVar 4) (dOp fIxT (dVar 3) (dC (.int 0))))))) (dTOr (dTNot (dTest (dOp fLe (dOp fAdd (dOp fSub (dVar 4) (dOp fIxT (dVar 3) (dC (.int 0)))) (dVar 6)) (dVar 0)))) (dTNot (dTest (dChain fLe fLt (dC (.int 0)) (dOp fSub (dVar 5) (dOp fIxT (dVar 3) (dC (.int 1)))) (dVar 1)))))) (dRet (dC (.bool false))) dNil) (dRet (dC (.bool true)))))
def m_L_stretches : List L → Option (PyData × List L) := dFun true 6 7 (dSeq (dNew 6 6) (dSeq (dFor (dR1 (dACons (dCallM 0 m_L_digit (dACons (dOp fAdd (dVar 5) (dC (.int 1))) dANil)) dANil)) (dN 7) (dSeq (dAsg (dCallM 0 m_L_digit (dACons (dVar 1) dANil)) (dN 8)) (dSeq (dAsg (dCallM 0 m_L_digit (dACons (dVar 2) dANil)) (dN 9)) (dSeq (dAsg (dTup (dACons (dVar 8) (dACons (dVar 9) (dACons (dOp fAdd (dC (.int 1)) (dCallM 0 m_L_digit (dACons (dOp fSub (dVar 1) (dVar 8)) dANil))) dANil)))) (dN 10)) (dSeq (dAsg (dLC 1 [9, 8] (dR1 (dACons (dOp fIxT (dVar 10) (dC (.int 2))) dANil)) (dN 0) dYes (dTup (dACons (dOp fAdd (dVar 2) (dVar 0)) (dACons (dVar 1) dANil)))) (dN 11)) (dIfS (dTBor 4 (dTAnd (dTest (dCall m_L_fits (dACons (dVar 1) (dACons (dVar 2) (dACons (dVar 10) (dACons (dVar 3) dANil)))))) (dTest (dOp fEq (dLC 1 [4] (dIL (dVar 11)) (dN 0) (dTest (dOp (fInD false) (dVar 0) (dVar 1))) (dVar 0)) (dLst dANil))))) (dSeq (dExpr (dMt 6 gAppend (dACons (dVar 10) dANil))) (dFor (dIL (dVar 11)) (dN 12) (dPutK 4 (dC (.bool true)) (dVar 12)))) dNil)))))) (dRetM 6 6)))
def m_picture_copied : List L → Option (PyData × List L) := dFun true 1 0 (dRet (dLC 1 [] (dIL (dVar 0)) (dN 0) dYes (dFx (dApp fListOf (dACons (dVar 0) dANil)))))
def m_cells_of : List L → Option (PyData × List L) := dFun true 1 2 (dSeq (dNew 1 1) (dSeq (dFor (dR2 (dACons (dOp fIxT (dVar 0) (dC (.int 1))) (dACons (dOp fAdd (dOp fIxT (dVar 0) (dC (.int 1))) (dOp fIxT (dVar 0) (dC (.int 3)))) dANil))) (dN 2) (dExpr (dMt 1 gExtend (dACons (dLC 1 [2] (dR2 (dACons (dOp fIxT (dVar 0) (dC (.int 0))) (dACons (dOp fAdd (dOp fIxT (dVar 0) (dC (.int 0))) (dOp fIxT (dVar 0) (dC (.int 2)))) dANil))) (dN 0) dYes (dTup (dACons (dVar 0) (dACons (dVar 1) dANil)))) dANil)))) (dRetM 1 1)))
def m_stretch_cells : List L → Option (PyData × List L) := dFun true 1 4 (dSeq (dNew 1 1) (dSeq (dFor (dIL (dVar 0)) (dGT (dGCons (dN 2) (dGCons (dN 3) (dGCons (dN 4) dGNil)))) (dExpr (dMt 1 gExtend (dACons (dCall m_cells_of (dACons (dTup (dACons (dVar 2) (dACons (dVar 3) (dACons (dVar 4) (dACons (dC (.int 1)) dANil))))) dANil)) dANil)))) (dRetM 1 1)))
def m_plan_done : List L → Option (PyData × List L) := dFun true 3 4 (dSeq (dAsg (dOp fIxT (dVar 0) (dC (.int 0))) (dN 3)) (dSeq (dSetG 3 4 (dLs (dCall m_picture_copied (dACons (dVar 1) dANil)))) (dSeq (dFor (dIL (dCall m_stretch_cells (dACons (dOp fIxT (dVar 0) (dC (.int 1))) dANil))) (dGT (dGCons (dN 5) (dGCons (dN 6) dGNil))) (dSetGG 4 (dOp fIxL (dOp fIxL (dVar 1) (dOp fSub (dVar 6) (dOp fIxT (dVar 3) (dC (.int 1))))) (dOp fSub (dVar 5) (dOp fIxT (dVar 3) (dC (.int 0))))) (dVar 6) (dVar 5))) (dSeq (dFor (dIL (dCall m_stretch_cells (dACons (dOp fIxT (dVar 0) (dC (.int 2))) dANil))) (dGT (dGCons (dN 5) (dGCons (dN 6) dGNil))) (dSetGG 4 (dOp fIxL (dOp fIxL (dVar 2) (dVar 6)) (dVar 5)) (dVar 6) (dVar 5))) (dRetG 4)))))
def m_L_is_fraction : List L → Option (PyData × List L) := dFun false 1 1 (dSeq (dIfS (dTOr (dTNot (dTest (dIsi "tuple" (dVar 0)))) (dTest (dOp fNe (dApp fLen (dACons (dVar 0) dANil)) (dC (.int 2))))) (dRet (dC (.bool false))) dNil) (dSeq (dFor (dIT (dVar 0)) (dN 1) (dIfS (dTOr (dTNot (dTest (dIsi "int" (dVar 1)))) (dTest (dIsi "bool" (dVar 1)))) (dRet (dC (.bool false))) dNil)) (dRet (dC (.bool true)))))
def m_L_same_picture : List L → Option (PyData × List L) := dFun false 2 1 (dSeq (dIfS (dTOr (dTNot (dTest (dIsi "list" (dVar 0)))) (dTest (dOp fNe (dApp fLen (dACons (dVar 0) dANil)) (dApp fLen (dACons (dVar 1) dANil))))) (dRet (dC (.bool false))) dNil) (dSeq (dFor (dR1 (dACons (dApp fLen (dACons (dVar 1) dANil)) dANil)) (dN 2) (dSeq (dIfS (dTOr (dTNot (dTest (dIsi "list" (dOp fIxL (dVar 0) (dVar 2))))) (dTest (dOp fNe (dOp fIxL (dVar 0) (dVar 2)) (dOp fIxL (dVar 1) (dVar 2))))) (dRet (dC (.bool false))) dNil) (dIfS (dTest (dOp fNe (dLC 1 [] (dIL (dOp fIxL (dVar 0) (dVar 2))) (dN 0) (dTNot (dTest (dCall m_L_is_fraction (dACons (dVar 0) dANil)))) (dVar 0)) (dLst dANil))) (dRet (dC (.bool false))) dNil))) (dRet (dC (.bool true)))))
def m_L_cell_at : List L → Option (PyData × List L) := dFun false 2 0 (dSeq (dIfS (dTest (dOp fLt (dVar 1) (dLenC 0))) (dRet (dIxC 0 (dVar 1))) dNil) (dRet (dC (.int 0))))
def m_L_big : List L → Option (PyData × List L) := dFun false 2 6 (dSeq (dAsg (dTup (dACons (dC (.int 48271)) (dACons (dC (.int 69621)) (dACons (dC (.int 16807)) (dACons (dC (.int 39373)) (dACons (dC (.int 21401)) (dACons (dC (.int 60493)) (dACons (dC (.int 87721)) (dACons (dC (.int 31337)) dANil))))))))) (dN 2)) (dSeq (dAsg (dTup (dACons (dC (.int 99991)) (dACons (dC (.int 99989)) (dACons (dC (.int 99971)) (dACons (dC (.int 99961)) (dACons (dC (.int 99929)) (dACons (dC (.int 99923)) (dACons (dC (.int 99907)) (dACons (dC (.int 99901)) dANil))))))))) (dN 3)) (dSeq (dAsg (dCallC 0 m_L_cell_at (dACons (dVar 1) dANil)) (dN 4)) (dSeq (dIfS (dTest (dOp fGe (dVar 4) (dOp fPow (dC (.int 10)) (dC (.int 18))))) (dRet (dVar 4)) dNil) (dSeq (dAsg (dC (.int 0)) (dN 5)) (dSeq (dFor (dR1 (dACons (dC (.int 60)) dANil)) (dN 6) (dSeq (dAsg (dOp fAdd (dOp fAdd (dOp fMod (dCallC 0 m_L_cell_at (dACons (dOp fAdd (dVar 1) (dOp fMod (dVar 6) (dC (.int 9)))) dANil)) (dOp fPow (dC (.int 10)) (dC (.int 18)))) (dC (.int 1))) (dOp fMul (dVar 6) (dVar 6))) (dN 7)) (dAsg (dOp fAdd (dOp fMul (dVar 5) (dC (.int 7919))) (dOp fMod (dOp fMod (dOp fMul (dVar 7) (dOp fIxT (dVar 2) (dOp fMod (dVar 6) (dC (.int 8))))) (dOp fIxT (dVar 3) (dOp fMod (dVar 6) (dC (.int 8))))) (dC (.int 7919)))) (dN 5)))) (dRet (dVar 5))))))))
def m_L_copy : List L → Option (PyData × List L) := dFun true 1 0 (dRet (dLC 1 [] (dIL (dVar 0)) (dN 0) dYes (dFx (dApp fListOf (dACons (dVar 0) dANil)))))
def m_L_due : List L → Option (PyData × List L) := dFun true 3 7 (dSeq (dSetG 3 3 (dLs (dCall m_L_copy (dACons (dVar 1) dANil)))) (dSeq (dAsg (dOp fIxT (dVar 0) (dC (.int 0))) (dGT (dGCons (dN 4) (dGCons (dN 5) dGNil)))) (dSeq (dFor (dIL (dOp fIxT (dVar 0) (dC (.int 1)))) (dGT (dGCons (dN 6) (dGCons (dN 7) (dGCons (dN 8) dGNil)))) (dFor (dR1 (dACons (dVar 8) dANil)) (dN 9) (dSetGG 3 (dOp fIxL (dOp fIxL (dVar 1) (dOp fSub (dVar 7) (dVar 5))) (dOp fSub (dOp fAdd (dVar 6) (dVar 9)) (dVar 4))) (dVar 7) (dOp fAdd (dVar 6) (dVar 9))))) (dSeq (dFor (dIL (dOp fIxT (dVar 0) (dC (.int 2)))) (dGT (dGCons (dN 6) (dGCons (dN 7) (dGCons (dN 8) dGNil)))) (dFor (dR1 (dACons (dVar 8) dANil)) (dN 9) (dSetGG 3 (dOp fIxL (dOp fIxL (dVar 2) (dVar 7)) (dOp fAdd (dVar 6) (dVar 9))) (dVar 7) (dOp fAdd (dVar 6) (dVar 9))))) (dRetG 3)))))
def m_law : List L → Option (PyData × List L) := dFun false 1 12 (dSeq (dSetM 1 1 (dLst (dACons (dCallC 0 m_L_big (dACons (dC (.int 0)) dANil)) dANil))) (dSeq (dAsg (dOp fAdd (dC (.int 1)) (dCallM 1 m_L_digit (dACons (dC (.int 9)) dANil))) (dN 2)) (dSeq (dAsg (dOp fAdd (dC (.int 1)) (dCallM 1 m_L_digit (dACons (dC (.int 6)) dANil))) (dN 3)) (dSeq (dAsg (dCallM 1 m_L_picture_by (dACons (dVar 2) (dACons (dVar 3) dANil))) (dN 4)) (dSeq (dAsg (dCallM 1 m_L_next_by (dACons (dVar 4) dANil)) (dN 5)) (dSeq (dAsg (dTup (dACons (dOp fSub (dCallM 1 m_L_digit (dACons (dC (.int 9)) dANil)) (dC (.int 4))) (dACons (dOp fSub (dCallM 1 m_L_digit (dACons (dC (.int 5)) dANil)) (dC (.int 2))) dANil))) (dN 6)) (dSeq (dNewK 1 7) (dSeq (dAsg (dCallP2 0 1 4 7 m_L_stretches (dAS 1 (dACons (dVar 2) (dACons (dVar 3) (dACons (dVar 6) (dAS 7 (dACons (dC (.int 5)) dANil))))))) (dN 8)) (dSeq (dAsg (dTup (dACons (dVar 6) (dACons (dVar 8) (dACons (dCallP2 0 1 4 7 m_L_stretches (dAS 1 (dACons (dVar 2) (dACons (dVar 3) (dACons (dTup (dACons (dC (.int 0)) (dACons (dC (.int 0)) dANil))) (dAS 7 (dACons (dC (.int 4)) dANil))))))) dANil)))) (dN 9)) (dSeq (dAsg (dTup (dACons (dVar 6) (dACons (dApp fListOf (dACons (dOp fIxT (dVar 9) (dC (.int 1))) dANil)) (dACons (dApp fListOf (dACons (dOp fIxT (dVar 9) (dC (.int 2))) dANil)) dANil)))) (dN 10)) (dSeq (dAsg (dLst (dACons (dLs (dCall m_L_copy (dACons (dVar 4) dANil))) (dACons (dLs (dCall m_L_copy (dACons (dVar 5) dANil))) dANil))) (dN 11)) (dSeq (dAsg (dCall m_plan_done (dACons (dVar 9) (dACons (dOp fIxL (dVar 11) (dC (.int 0))) (dACons (dOp fIxL (dVar 11) (dC (.int 1))) dANil)))) (dN 12)) (dSeq (dIfS (dTOr (dTest (dOp fNe (dVar 9) (dVar 10))) (dTest (dOp fNe (dVar 11) (dLst (dACons (dVar 4) (dACons (dVar 5) dANil)))))) (dRet (dC (.bool false))) dNil) (dRet (dCall m_L_same_picture (dACons (dVar 12) (dACons (dCall m_L_due (dACons (dVar 9) (dACons (dVar 4) (dACons (dVar 5) dANil)))) dANil)))))))))))))))))
theorem hu64 {k : Nat} {A : Around} (hr : Room k A) : A.units + 64 < cLine := hr.units
section
variable {P : Program} {w : World} {K : PySem.W.Frag} {mg : Str → Option Value} {base : Heap} {f : Addr} {fd : FuncData}
theorem ok_L_digit (F : Fun K "_law_digit" "_law_digit" s_L_digit f fd) : FnOk P w K mg base CX0 1 f fd ["_law_rest", "_law_many"] (spD K m_L_digit false) := by
  have nd := sc_L_digit.nd
  refine F.ok sc_L_digit (fun vs H Q E h => fn_len dFun_len h) (fun cdv A outer s H vs Q E hr h => ?_)
  exact ⟨_, (@pss_cons _ _ _ _ _ (@ps_set _ _ 2 _ _ _ _ nd rfl n_L_digit_2 (@pe_op _ _ _ _ _ _ _ _ op_mod (@pe_ix _ _ _ _ _ _ _ ix_list (@pv _ 0 _ _ rfl v_L_digit_0 dbg__law_rest cls__law_rest) pe_int (fun _ _ => rfl)) (@pv _ 1 _ _ rfl v_L_digit_1 dbg__law_many cls__law_many)) (by walk_at "zz") (by walk_at "zz")) (@pss_cons _ _ _ _ _ (@ps_asg _ _ _ _ _ _ (@pe_op _ _ _ _ _ _ _ _ op_fdivB (@pe_ix _ _ _ _ _ _ _ ix_list (@pv _ 0 _ _ rfl v_L_digit_0 dbg__law_rest cls__law_rest) pe_int (fun _ _ => rfl)) (@pv _ 1 _ _ rfl v_L_digit_1 dbg__law_many cls__law_many)) (@pg_sub _ _ _ _ _ _ _ (@pv _ 0 _ _ rfl v_L_digit_0 dbg__law_rest cls__law_rest) pe_int set_list (by walk_at "zz")) (by walk_at "zz") (by walk_at "zz") (by walk_at "zz")) (@pss_one _ _ _ (@ps_ret _ _ _ _ (@pv _ 2 _ _ rfl v_L_digit_2 dbg__law_digit_here cls__law_digit_here))))), fn_run (N := ["_law_rest", "_law_many", "_law_digit_here"]) (np := 2) (nl := 1) (b_seq (b_asg (e_bor (i := 0) (e_op o_mod (e_op o_ixL e_var e_int) e_var)) g_name) (b_seq (b_setI (i := 0) (e_bor (i := 0) (e_op o_div (e_op o_ixL e_var e_int) e_var)) e_int) (b_ret e_var (by decide)))) rfl h⟩
theorem ok_L_picture_by (F : Fun K "_law_picture_by" "_law_picture_by" s_L_picture_by f fd) (C_L_digit : Cal P w K mg base 1 "_law_digit" ["_law_rest", "_law_many"] (spD K m_L_digit false)) (z_range : mg "range" = none) : FnOk P w K mg base CX0 2 f fd ["_law_rest", "_law_w", "_law_h"] (spD K m_L_picture_by true) := by
  have nd := sc_L_picture_by.nd
  refine F.ok sc_L_picture_by (fun vs H Q E h => fn_len dFun_len h) (fun cdv A outer s H vs Q E hr h => ?_)
  exact ⟨_, (@pss_cons _ _ _ _ _ (@ps_set _ _ 3 _ _ _ _ nd rfl n_L_picture_by_3 (@pe_op _ _ _ _ _ _ _ _ op_add pe_int (@pe_callC _ _ _ _ _ _ _ _ _ _ C_L_digit hr g_L_picture_by__law_digit (@pa_cons _ _ _ _ _ (@pv _ 0 _ _ rfl v_L_picture_by_0 dbg__law_rest cls__law_rest) (@pa_cons _ _ _ _ _ pe_int pa_nil (by walk_at "zz")) (by walk_at "zz")) dbg__law_digit (by walk_at "zz") (by walk_at "zz"))) (by walk_at "zz") (by walk_at "zz")) (@pss_cons _ _ _ _ _ (@ps_set _ _ 4 _ _ _ _ nd rfl n_L_picture_by_4 (@pe_slice _ _ _ _ _ _ _ _ _ _ sl_list (@pe_lst _ _ _ _ (@pa_cons _ _ _ _ _ (@pe_tup _ _ _ _ _ (@pa_cons _ _ _ _ _ pe_int (@pa_cons _ _ _ _ _ pe_int pa_nil (by walk_at "zz")) (by walk_at "zz"))) (@pa_cons _ _ _ _ _ (@pe_tup _ _ _ _ _ (@pa_cons _ _ _ _ _ pe_int (@pa_cons _ _ _ _ _ pe_int pa_nil (by walk_at "zz")) (by walk_at "zz"))) (@pa_cons _ _ _ _ _ (@pe_tup _ _ _ _ _ (@pa_cons _ _ _ _ _ pe_int (@pa_cons _ _ _ _ _ pe_int pa_nil (by walk_at "zz")) (by walk_at "zz"))) (@pa_cons _ _ _ _ _ (@pe_tup _ _ _ _ _ (@pa_cons _ _ _ _ _ pe_int (@pa_cons _ _ _ _ _ pe_int pa_nil (by walk_at "zz")) (by walk_at "zz"))) pa_nil (by walk_at "zz")) (by walk_at "zz")) (by walk_at "zz")) (by walk_at "zz"))) po_none (@po_some _ _ _ (@pv _ 3 _ _ rfl v_L_picture_by_3 dbg__law_many cls__law_many))) (by walk_at "zz") (by walk_at "zz")) (@pss_one _ _ _ (@ps_ret _ _ _ _ (@pe_lc _ ["_law_y", "_law_shades", "_law_rest", "_law_many", "_law_w"] 1 [4, 0, 3, 1] _ _ _ _ _ _ _ _ _ _ rfl (@lc_ok _ ["_law_y", "_law_shades", "_law_rest", "_law_many", "_law_w"] 1 [4, 0, 3, 1] _ ["_law_rest", "_law_w", "_law_h", "_law_many", "_law_shades"] (defScope s_L_picture_by) rfl rfl (by walk_at "dk")) (@pi_range1 _ _ _ _ _ _ g_L_picture_by_range z_range (@pa_cons _ _ _ _ _ (@pv _ 2 _ _ rfl v_L_picture_by_2 dbg__law_h cls__law_h) pa_nil (by walk_at "zz")) (by walk_at "zz")) (fun cl fp s3 H3 => (@pg_name _ _ 0 _ nd0_L_picture_by rfl (loc_local (by walk_at "dk")) (Or.inr (rl_local (by walk_at "dk"))))) (fun cl fp s3 H3 => pts_nil) (fun cl fp s3 H3 => (@pe_lc _ ["_law_x", "_law_shades", "_law_rest", "_law_many"] 1 [1, 2, 3] _ _ _ _ _ _ _ _ _ _ rfl (lc_ok2 (N' := ["_law_x", "_law_shades", "_law_rest", "_law_many"]) (own := 1) (fr := [1, 2, 3]) (N := ["_law_y", "_law_shades", "_law_rest", "_law_many", "_law_w"]) (by walk_at "dk")) (@pi_range1 _ _ _ _ _ _ (rl_glob (by walk_at "dk")) z_range (@pa_cons _ _ _ _ _ (@pv _ 4 _ _ rfl (vis_free (by walk_at "dk")) dbg__law_w cls__law_w) pa_nil (by walk_at "zz")) (by walk_at "zz")) (fun cl fp s3 H3 => (@pg_name _ _ 0 _ nd1_L_picture_by rfl (loc_local (by walk_at "dk")) (Or.inr (rl_local (by walk_at "dk"))))) (fun cl fp s3 H3 => pts_nil) (fun cl fp s3 H3 => (@pe_ix _ _ _ _ _ _ _ ix_list (@pv _ 1 _ _ rfl (vis_free (by walk_at "dk")) dbg__law_shades cls__law_shades) (@pe_callC _ _ _ _ _ _ _ _ _ _ C_L_digit hr (rl_glob (by walk_at "dk")) (@pa_cons _ _ _ _ _ (@pv _ 2 _ _ rfl (vis_free (by walk_at "dk")) dbg__law_rest cls__law_rest) (@pa_cons _ _ _ _ _ (@pv _ 3 _ _ rfl (vis_free (by walk_at "dk")) dbg__law_many cls__law_many) pa_nil (by walk_at "zz")) (by walk_at "zz")) dbg__law_digit (by walk_at "zz") (by walk_at "zz")) (fun _ _ => rfl))) (by walk_at "zz"))) (by walk_at "zz")))))), fn_run (N := ["_law_rest", "_law_w", "_law_h", "_law_many", "_law_shades"]) (np := 3) (nl := 2) (b_seq (b_asg (e_op o_add e_int (e_callM (i := 0) (a_cons e_int a_nil))) g_name) (b_seq (b_asg (e_sl (e_lst (a_cons (e_tup (a_cons e_int (a_cons e_int a_nil))) (a_cons (e_tup (a_cons e_int (a_cons e_int a_nil))) (a_cons (e_tup (a_cons e_int (a_cons e_int a_nil))) (a_cons (e_tup (a_cons e_int (a_cons e_int a_nil))) a_nil))))) o_nop (o_pt e_var)) g_name) (b_ret (e_lcm (f1 := [4]) (j0 := 0) (f2 := [3, 1]) (it_range1 (a_cons e_var a_nil)) g_name t_yes (e_lcm (f1 := [1]) (j0 := 2) (f2 := [3]) (it_range1 (a_cons e_var a_nil)) g_name t_yes (e_op o_ixL e_var (e_callM (i := 2) (a_cons e_var a_nil))))) (by decide)))) rfl h⟩
theorem ok_L_near_by (F : Fun K "_law_near_by" "_law_near_by" s_L_near_by f fd) (C_L_digit : Cal P w K mg base 1 "_law_digit" ["_law_rest", "_law_many"] (spD K m_L_digit false)) (z_list : mg "list" = none) (z_range : mg "range" = none) (z_len : mg "len" = none) : FnOk P w K mg base CX0 2 f fd ["_law_rest", "_law_picture"] (spD K m_L_near_by true) := by
  have nd := sc_L_near_by.nd
  refine F.ok sc_L_near_by (fun vs H Q E h => fn_len dFun_len h) (fun cdv A outer s H vs Q E hr h => ?_)
  exact ⟨_, (@pss_cons _ _ _ _ _ (@ps_setLC _ ["_law_line"] 1 [] _ _ _ _ _ _ _ _ _ _ 2 _ _ _ nd rfl l_L_near_by_2 rfl (@lc_ok _ ["_law_line"] 1 [] _ ["_law_rest", "_law_picture", "_law_made", "_law_k", "_law_x"] (defScope s_L_near_by) rfl rfl (by walk_at "dk")) (@pi_list _ _ _ _ (@pv _ 1 _ _ rfl v_L_near_by_1 dbg__law_picture cls__law_picture)) (fun cl fp s3 H3 => (@pg_name _ _ 0 _ nd0_L_near_by rfl (loc_local (by walk_at "dk")) (Or.inr (rl_local (by walk_at "dk"))))) (fun cl fp s3 H3 => pts_nil) (fun cl fp s3 H3 => (@pe_callTy _ _ _ _ _ _ _ _ _ call_list_of (rl_glob (by walk_at "dk")) z_list PySem.Pv.boot_list (@pa_cons _ _ _ _ _ (@pv _ 0 _ _ rfl (vis_local (by walk_at "dk")) dbg__law_line cls__law_line) pa_nil (by walk_at "zz")) nam_list dbg_list (by walk_at "zz") (by walk_at "zz"))) (by walk_at "zz") (by walk_at "zz")) (@pss_cons _ _ _ _ _ (@ps_for _ _ _ _ _ _ _ _ PassesOwn.never rfl (@pi_range1 _ _ _ _ _ _ g_L_near_by_range z_range (@pa_cons _ _ _ _ _ (@pe_callC _ _ _ _ _ _ _ _ _ _ C_L_digit hr g_L_near_by__law_digit (@pa_cons _ _ _ _ _ (@pv _ 0 _ _ rfl v_L_near_by_0 dbg__law_rest cls__law_rest) (@pa_cons _ _ _ _ _ pe_int pa_nil (by walk_at "zz")) (by walk_at "zz")) dbg__law_digit (by walk_at "zz") (by walk_at "zz")) pa_nil (by walk_at "zz")) (by walk_at "zz")) (@pg_name _ _ 3 _ nd rfl n_L_near_by_3 (by walk_at "zz")) (@pss_cons _ _ _ _ _ (@ps_set _ _ 4 _ _ _ _ nd rfl n_L_near_by_4 (@pe_callC _ _ _ _ _ _ _ _ _ _ C_L_digit hr g_L_near_by__law_digit (@pa_cons _ _ _ _ _ (@pv _ 0 _ _ rfl v_L_near_by_0 dbg__law_rest cls__law_rest) (@pa_cons _ _ _ _ _ (@pe_callB _ _ _ _ _ _ _ _ _ call_len g_L_near_by_len z_len PySem.boot_len (@pa_cons _ _ _ _ _ (@pe_ix _ _ _ _ _ _ _ ix_list (@pv _ 1 _ _ rfl v_L_near_by_1 dbg__law_picture cls__law_picture) pe_int (fun _ _ => rfl)) pa_nil (by walk_at "zz")) nam_len dbg_len (by walk_at "zz") (by walk_at "zz")) pa_nil (by walk_at "zz")) (by walk_at "zz")) dbg__law_digit (by walk_at "zz") (by walk_at "zz")) (by walk_at "zz") (by walk_at "zz")) (@pss_one _ _ _ (@ps_asg _ _ _ _ _ _ (@pe_ix _ _ _ _ _ _ _ ix_list (@pe_lst _ _ _ _ (@pa_cons _ _ _ _ _ (@pe_tup _ _ _ _ _ (@pa_cons _ _ _ _ _ pe_int (@pa_cons _ _ _ _ _ pe_int pa_nil (by walk_at "zz")) (by walk_at "zz"))) (@pa_cons _ _ _ _ _ (@pe_tup _ _ _ _ _ (@pa_cons _ _ _ _ _ pe_int (@pa_cons _ _ _ _ _ pe_int pa_nil (by walk_at "zz")) (by walk_at "zz"))) (@pa_cons _ _ _ _ _ (@pe_tup _ _ _ _ _ (@pa_cons _ _ _ _ _ pe_int (@pa_cons _ _ _ _ _ pe_int pa_nil (by walk_at "zz")) (by walk_at "zz"))) pa_nil (by walk_at "zz")) (by walk_at "zz")) (by walk_at "zz"))) (@pe_callC _ _ _ _ _ _ _ _ _ _ C_L_digit hr g_L_near_by__law_digit (@pa_cons _ _ _ _ _ (@pv _ 0 _ _ rfl v_L_near_by_0 dbg__law_rest cls__law_rest) (@pa_cons _ _ _ _ _ pe_int pa_nil (by walk_at "zz")) (by walk_at "zz")) dbg__law_digit (by walk_at "zz") (by walk_at "zz")) (fun _ _ => rfl)) (@pg_sub _ _ _ _ _ _ _ (@pe_ix _ _ _ _ _ _ _ ix_list (@pv _ 2 _ _ rfl v_L_near_by_2 dbg__law_made cls__law_made) (@pe_callC _ _ _ _ _ _ _ _ _ _ C_L_digit hr g_L_near_by__law_digit (@pa_cons _ _ _ _ _ (@pv _ 0 _ _ rfl v_L_near_by_0 dbg__law_rest cls__law_rest) (@pa_cons _ _ _ _ _ (@pe_callB _ _ _ _ _ _ _ _ _ call_len g_L_near_by_len z_len PySem.boot_len (@pa_cons _ _ _ _ _ (@pv _ 1 _ _ rfl v_L_near_by_1 dbg__law_picture cls__law_picture) pa_nil (by walk_at "zz")) nam_len dbg_len (by walk_at "zz") (by walk_at "zz")) pa_nil (by walk_at "zz")) (by walk_at "zz")) dbg__law_digit (by walk_at "zz") (by walk_at "zz")) (fun _ _ => rfl)) (@pv _ 4 _ _ rfl v_L_near_by_4 dbg__law_x cls__law_x) set_list (by walk_at "zz")) (by walk_at "zz") (by walk_at "zz") (by walk_at "zz")))) (by walk_at "zz")) (@pss_one _ _ _ (@ps_ret _ _ _ _ (@pv _ 2 _ _ rfl v_L_near_by_2 dbg__law_made cls__law_made))))), fn_run (N := ["_law_rest", "_law_picture", "_law_made", "_law_k", "_law_x"]) (np := 2) (nl := 3) (b_seq (b_lcsG (eg_lc (it_list e_var) g_name t_yes (eg_fx (e_app c_list (a_cons e_var a_nil))))) (b_seq (b_for (it_range1 (a_cons (e_callM (i := 0) (a_cons e_int a_nil)) a_nil)) g_name (b_seq (b_asg (e_callM (i := 0) (a_cons (e_app c_len (a_cons (e_op o_ixL e_var e_int) a_nil)) a_nil)) g_name) (b_setGG (i := 2) (e_op o_ixL (e_lst (a_cons (e_tup (a_cons e_int (a_cons e_int a_nil))) (a_cons (e_tup (a_cons e_int (a_cons e_int a_nil))) (a_cons (e_tup (a_cons e_int (a_cons e_int a_nil))) a_nil)))) (e_callM (i := 0) (a_cons e_int a_nil))) (e_callM (i := 0) (a_cons (e_app c_len (a_cons e_var a_nil)) a_nil)) e_var))) (b_retG (i := 2)))) rfl h⟩
theorem ok_L_next_by (F : Fun K "_law_next_by" "_law_next_by" s_L_next_by f fd) (C_L_digit : Cal P w K mg base 2 "_law_digit" ["_law_rest", "_law_many"] (spD K m_L_digit false)) (C_L_picture_by : Cal P w K mg base 2 "_law_picture_by" ["_law_rest", "_law_w", "_law_h"] (spD K m_L_picture_by true)) (C_L_near_by : Cal P w K mg base 2 "_law_near_by" ["_law_rest", "_law_picture"] (spD K m_L_near_by true)) (z_len : mg "len" = none) : FnOk P w K mg base CX0 3 f fd ["_law_rest", "_law_picture"] (spD K m_L_next_by true) := by
  have nd := sc_L_next_by.nd
  refine F.ok sc_L_next_by (fun vs H Q E h => fn_len dFun_len h) (fun cdv A outer s H vs Q E hr h => ?_)
  exact ⟨_, (@pss_cons _ _ _ _ _ (@ps_if _ _ _ _ _ _ _ _ (@pt_cmpR _ _ _ _ _ _ _ _ (@op_eqK _ (hu64 hr)) (@pe_callC _ _ _ _ _ _ _ _ _ _ C_L_digit hr g_L_next_by__law_digit (@pa_cons _ _ _ _ _ (@pv _ 0 _ _ rfl v_L_next_by_0 dbg__law_rest cls__law_rest) (@pa_cons _ _ _ _ _ pe_int pa_nil (by walk_at "zz")) (by walk_at "zz")) dbg__law_digit (by walk_at "zz") (by walk_at "zz")) pe_int (nomark _)) (@pss_one _ _ _ (@ps_ret _ _ _ _ (@pe_callC _ _ _ _ _ _ _ _ _ _ C_L_picture_by hr g_L_next_by__law_picture_by (@pa_cons _ _ _ _ _ (@pv _ 0 _ _ rfl v_L_next_by_0 dbg__law_rest cls__law_rest) (@pa_cons _ _ _ _ _ (@pe_callB _ _ _ _ _ _ _ _ _ call_len g_L_next_by_len z_len PySem.boot_len (@pa_cons _ _ _ _ _ (@pe_ix _ _ _ _ _ _ _ ix_list (@pv _ 1 _ _ rfl v_L_next_by_1 dbg__law_picture cls__law_picture) pe_int (fun _ _ => rfl)) pa_nil (by walk_at "zz")) nam_len dbg_len (by walk_at "zz") (by walk_at "zz")) (@pa_cons _ _ _ _ _ (@pe_callB _ _ _ _ _ _ _ _ _ call_len g_L_next_by_len z_len PySem.boot_len (@pa_cons _ _ _ _ _ (@pv _ 1 _ _ rfl v_L_next_by_1 dbg__law_picture cls__law_picture) pa_nil (by walk_at "zz")) nam_len dbg_len (by walk_at "zz") (by walk_at "zz")) pa_nil (by walk_at "zz")) (by walk_at "zz")) (by walk_at "zz")) dbg__law_picture_by (by walk_at "zz") (by walk_at "zz")))) pss_nil) (@pss_one _ _ _ (@ps_ret _ _ _ _ (@pe_callC _ _ _ _ _ _ _ _ _ _ C_L_near_by hr g_L_next_by__law_near_by (@pa_cons _ _ _ _ _ (@pv _ 0 _ _ rfl v_L_next_by_0 dbg__law_rest cls__law_rest) (@pa_cons _ _ _ _ _ (@pv _ 1 _ _ rfl v_L_next_by_1 dbg__law_picture cls__law_picture) pa_nil (by walk_at "zz")) (by walk_at "zz")) dbg__law_near_by (by walk_at "zz") (by walk_at "zz"))))), fn_run (N := ["_law_rest", "_law_picture"]) (np := 2) (nl := 0) (b_seq (b_if (t_test (e_op o_eq (e_callM (i := 0) (a_cons e_int a_nil)) e_int)) (b_ret (e_callM (i := 0) (a_cons (e_app c_len (a_cons (e_op o_ixL e_var e_int) a_nil)) (a_cons (e_app c_len (a_cons e_var a_nil)) a_nil))) (by decide)) b_nil) (b_ret (e_callM (i := 0) (a_cons e_var a_nil)) (by decide))) rfl h⟩
theorem ok_L_fits (F : Fun K "_law_fits" "_law_fits" s_L_fits f fd) : FnOk P w K mg base CX0 1 f fd ["_law_w", "_law_h", "_law_stretch", "_law_shift"] (spD K m_L_fits false) := by
  have nd := sc_L_fits.nd
  refine F.ok sc_L_fits (fun vs H Q E h => fn_len dFun_len h) (fun cdv A outer s H vs Q E hr h => ?_)
  exact ⟨_, (@pss_cons _ _ _ _ _ (@ps_asg _ _ _ _ _ _ (@pv _ 2 _ _ rfl v_L_fits_2 dbg__law_stretch cls__law_stretch) (@pg_tup _ _ _ _ _ _ rfl (@pgs_cons _ _ _ _ _ (@pg_name _ _ 4 _ nd rfl n_L_fits_4 (by walk_at "zz")) (@pgs_cons _ _ _ _ _ (@pg_name _ _ 5 _ nd rfl n_L_fits_5 (by walk_at "zz")) (@pgs_cons _ _ _ _ _ (@pg_name _ _ 6 _ nd rfl n_L_fits_6 (by walk_at "zz")) pgs_nil (by walk_at "zz")) (by walk_at "zz")) (by walk_at "zz")) (by walk_at "zz") (by walk_at "zz")) (by walk_at "zz") (by walk_at "zz") (by walk_at "zz")) (@pss_cons _ _ _ _ _ (@ps_if _ _ _ _ _ _ _ _ (@PW.pt _ _ _ (@pw_or _ _ _ _ _ _ _ (@pt_not _ _ _ _ (@pt_cmpR _ _ _ _ _ _ _ _ op_le pe_int (@pe_op _ _ _ _ _ _ _ _ op_sub (@pv _ 4 _ _ rfl v_L_fits_4 dbg__law_x cls__law_x) (@pe_ix _ _ _ _ _ _ _ ix_tup (@pv _ 3 _ _ rfl v_L_fits_3 dbg__law_shift cls__law_shift) pe_int (fun _ _ => rfl))) (nomark _))) (@pw_or _ _ _ _ _ _ _ (@pt_not _ _ _ _ (@pt_cmpR _ _ _ _ _ _ _ _ op_le (@pe_op _ _ _ _ _ _ _ _ op_add (@pe_op _ _ _ _ _ _ _ _ op_sub (@pv _ 4 _ _ rfl v_L_fits_4 dbg__law_x cls__law_x) (@pe_ix _ _ _ _ _ _ _ ix_tup (@pv _ 3 _ _ rfl v_L_fits_3 dbg__law_shift cls__law_shift) pe_int (fun _ _ => rfl))) (@pv _ 6 _ _ rfl v_L_fits_6 dbg__law_many cls__law_many)) (@pv _ 0 _ _ rfl v_L_fits_0 dbg__law_w cls__law_w) (nomark _))) (@pw_or1 _ _ _ _ (@pt_not _ _ _ _ (@pt_chain _ _ _ _ _ _ _ _ _ _ _ _ op_le op_lt pe_int (@pe_op _ _ _ _ _ _ _ _ op_sub (@pv _ 5 _ _ rfl v_L_fits_5 dbg__law_y cls__law_y) (@pe_ix _ _ _ _ _ _ _ ix_tup (@pv _ 3 _ _ rfl v_L_fits_3 dbg__law_shift cls__law_shift) pe_int (fun _ _ => rfl))) (@pv _ 1 _ _ rfl v_L_fits_1 dbg__law_h cls__law_h) (by walk_at "zz"))))))) (@pss_one _ _ _ (@ps_ret _ _ _ _ pe_bl)) pss_nil) (@pss_one _ _ _ (@ps_ret _ _ _ _ pe_bl)))), fn_run (N := ["_law_w", "_law_h", "_law_stretch", "_law_shift", "_law_x", "_law_y", "_law_many"]) (np := 4) (nl := 3) (b_seq (b_asg e_var (g_tup (gs_cons g_name (gs_cons g_name (gs_cons g_name gs_nil))) (len_cons (len_cons (len_cons len_nil))))) (b_seq (b_if (t_or (t_not (t_test (e_op o_le e_int (e_op o_sub e_var (e_op o_ixT e_var e_int))))) (t_or (t_not (t_test (e_op o_le (e_op o_add (e_op o_sub e_var (e_op o_ixT e_var e_int)) e_var) e_var))) (t_not (t_test (e_chain o_le o_lt e_int (e_op o_sub e_var (e_op o_ixT e_var e_int)) e_var))))) (b_ret e_bl (by decide)) b_nil) (b_ret e_bl (by decide)))) rfl h⟩
theorem ok_L_stretches (F : Fun K "_law_stretches" "_law_stretches" s_L_stretches f fd) (C_L_digit : Cal P w K mg base 1 "_law_digit" ["_law_rest", "_law_many"] (spD K m_L_digit false)) (C_L_fits : Cal P w K mg base 1 "_law_fits" ["_law_w", "_law_h", "_law_stretch", "_law_shift"] (spD K m_L_fits false)) (z_range : mg "range" = none) : FnOk P w K mg base CX0 2 f fd ["_law_rest", "_law_w", "_law_h", "_law_shift", "_law_used", "_law_most"] (spD K m_L_stretches true) := by
  have nd := sc_L_stretches.nd
  refine F.ok sc_L_stretches (fun vs H Q E h => fn_len dFun_len h) (fun cdv A outer s H vs Q E hr h => ?_)
  exact ⟨_, (@pss_cons _ _ _ _ _ (@ps_set _ _ 6 _ _ _ _ nd rfl n_L_stretches_6 (@pe_lst _ _ _ _ pa_nil) (by walk_at "zz") (by walk_at "zz")) (@pss_cons _ _ _ _ _ (@ps_for _ _ _ _ _ _ _ _ PassesOwn.never rfl (@pi_range1 _ _ _ _ _ _ g_L_stretches_range z_range (@pa_cons _ _ _ _ _ (@pe_callC _ _ _ _ _ _ _ _ _ _ C_L_digit hr g_L_stretches__law_digit (@pa_cons _ _ _ _ _ (@pv _ 0 _ _ rfl v_L_stretches_0 dbg__law_rest cls__law_rest) (@pa_cons _ _ _ _ _ (@pe_op _ _ _ _ _ _ _ _ op_add (@pv _ 5 _ _ rfl v_L_stretches_5 dbg__law_most cls__law_most) pe_int) pa_nil (by walk_at "zz")) (by walk_at "zz")) dbg__law_digit (by walk_at "zz") (by walk_at "zz")) pa_nil (by walk_at "zz")) (by walk_at "zz")) (@pg_name _ _ 7 _ nd rfl n_L_stretches_7 (by walk_at "zz")) (@pss_cons _ _ _ _ _ (@ps_set _ _ 8 _ _ _ _ nd rfl n_L_stretches_8 (@pe_callC _ _ _ _ _ _ _ _ _ _ C_L_digit hr g_L_stretches__law_digit (@pa_cons _ _ _ _ _ (@pv _ 0 _ _ rfl v_L_stretches_0 dbg__law_rest cls__law_rest) (@pa_cons _ _ _ _ _ (@pv _ 1 _ _ rfl v_L_stretches_1 dbg__law_w cls__law_w) pa_nil (by walk_at "zz")) (by walk_at "zz")) dbg__law_digit (by walk_at "zz") (by walk_at "zz")) (by walk_at "zz") (by walk_at "zz")) (@pss_cons _ _ _ _ _ (@ps_set _ _ 9 _ _ _ _ nd rfl n_L_stretches_9 (@pe_callC _ _ _ _ _ _ _ _ _ _ C_L_digit hr g_L_stretches__law_digit (@pa_cons _ _ _ _ _ (@pv _ 0 _ _ rfl v_L_stretches_0 dbg__law_rest cls__law_rest) (@pa_cons _ _ _ _ _ (@pv _ 2 _ _ rfl v_L_stretches_2 dbg__law_h cls__law_h) pa_nil (by walk_at "zz")) (by walk_at "zz")) dbg__law_digit (by walk_at "zz") (by walk_at "zz")) (by walk_at "zz") (by walk_at "zz")) (@pss_cons _ _ _ _ _ (@ps_set _ _ 10 _ _ _ _ nd rfl n_L_stretches_10 (@pe_tup _ _ _ _ _ (@pa_cons _ _ _ _ _ (@pv _ 8 _ _ rfl v_L_stretches_8 dbg__law_x cls__law_x) (@pa_cons _ _ _ _ _ (@pv _ 9 _ _ rfl v_L_stretches_9 dbg__law_y cls__law_y) (@pa_cons _ _ _ _ _ (@pe_op _ _ _ _ _ _ _ _ op_add pe_int (@pe_callC _ _ _ _ _ _ _ _ _ _ C_L_digit hr g_L_stretches__law_digit (@pa_cons _ _ _ _ _ (@pv _ 0 _ _ rfl v_L_stretches_0 dbg__law_rest cls__law_rest) (@pa_cons _ _ _ _ _ (@pe_op _ _ _ _ _ _ _ _ op_sub (@pv _ 1 _ _ rfl v_L_stretches_1 dbg__law_w cls__law_w) (@pv _ 8 _ _ rfl v_L_stretches_8 dbg__law_x cls__law_x)) pa_nil (by walk_at "zz")) (by walk_at "zz")) dbg__law_digit (by walk_at "zz") (by walk_at "zz"))) pa_nil (by walk_at "zz")) (by walk_at "zz")) (by walk_at "zz"))) (by walk_at "zz") (by walk_at "zz")) (@pss_cons _ _ _ _ _ (@ps_setLC _ ["_law_j", "_law_y", "_law_x"] 1 [9, 8] _ _ _ _ _ _ _ _ _ _ 11 _ _ _ nd rfl l_L_stretches_11 rfl (@lc_ok _ ["_law_j", "_law_y", "_law_x"] 1 [9, 8] _ ["_law_rest", "_law_w", "_law_h", "_law_shift", "_law_used", "_law_most", "_law_found", "_law_k", "_law_x", "_law_y", "_law_stretch", "_law_cells", "_law_cell"] (defScope s_L_stretches) rfl rfl (by walk_at "dk")) (@pi_range1 _ _ _ _ _ _ g_L_stretches_range z_range (@pa_cons _ _ _ _ _ (@pe_ix _ _ _ _ _ _ _ ix_tup (@pv _ 10 _ _ rfl v_L_stretches_10 dbg__law_stretch cls__law_stretch) pe_int (fun _ _ => rfl)) pa_nil (by walk_at "zz")) (by walk_at "zz")) (fun cl fp s3 H3 => (@pg_name _ _ 0 _ nd0_L_stretches rfl (loc_local (by walk_at "dk")) (Or.inr (rl_local (by walk_at "dk"))))) (fun cl fp s3 H3 => pts_nil) (fun cl fp s3 H3 => (@pe_tup _ _ _ _ _ (@pa_cons _ _ _ _ _ (@pe_op _ _ _ _ _ _ _ _ op_add (@pv _ 2 _ _ rfl (vis_free (by walk_at "dk")) dbg__law_x cls__law_x) (@pv _ 0 _ _ rfl (vis_local (by walk_at "dk")) dbg__law_j cls__law_j)) (@pa_cons _ _ _ _ _ (@pv _ 1 _ _ rfl (vis_free (by walk_at "dk")) dbg__law_y cls__law_y) pa_nil (by walk_at "zz")) (by walk_at "zz")))) (by walk_at "zz") (by walk_at "zz")) (@pss_one _ _ _ (@ps_if _ _ _ _ _ _ _ _ (@PW.pt _ _ _ (@pw_and _ _ _ _ _ _ _ (@pt_val _ _ _ (@pe_callC _ _ _ _ _ _ _ _ _ _ C_L_fits hr g_L_stretches__law_fits (@pa_cons _ _ _ _ _ (@pv _ 1 _ _ rfl v_L_stretches_1 dbg__law_w cls__law_w) (@pa_cons _ _ _ _ _ (@pv _ 2 _ _ rfl v_L_stretches_2 dbg__law_h cls__law_h) (@pa_cons _ _ _ _ _ (@pv _ 10 _ _ rfl v_L_stretches_10 dbg__law_stretch cls__law_stretch) (@pa_cons _ _ _ _ _ (@pv _ 3 _ _ rfl v_L_stretches_3 dbg__law_shift cls__law_shift) pa_nil (by walk_at "zz")) (by walk_at "zz")) (by walk_at "zz")) (by walk_at "zz")) dbg__law_fits (by walk_at "zz") (by walk_at "zz")) (by walk_at "zz")) (@pw_and1 _ _ _ _ (@pt_cmpR _ _ _ _ _ _ _ _ (@op_eqK _ (hu64 hr)) (@pe_lc _ ["_law_cell", "_law_used"] 1 [4] _ _ _ _ _ _ _ _ _ _ rfl (@lc_ok _ ["_law_cell", "_law_used"] 1 [4] _ ["_law_rest", "_law_w", "_law_h", "_law_shift", "_law_used", "_law_most", "_law_found", "_law_k", "_law_x", "_law_y", "_law_stretch", "_law_cells", "_law_cell"] (defScope s_L_stretches) rfl rfl (by walk_at "dk")) (@pi_list _ _ _ _ (@pv _ 11 _ _ rfl v_L_stretches_11 dbg__law_cells cls__law_cells)) (fun cl fp s3 H3 => (@pg_name _ _ 0 _ nd1_L_stretches rfl (loc_local (by walk_at "dk")) (Or.inr (rl_local (by walk_at "dk"))))) (fun cl fp s3 H3 => (@pts_one _ _ _ (@pt_cmpR _ _ _ _ _ _ _ _ (@op_inD _ (hu64 hr)) (@pv _ 0 _ _ rfl (vis_local (by walk_at "dk")) dbg__law_cell cls__law_cell) (@pv _ 1 _ _ rfl (vis_free (by walk_at "dk")) dbg__law_used cls__law_used) (by with_unfolding_all rfl)))) (fun cl fp s3 H3 => (@pv _ 0 _ _ rfl (vis_local (by walk_at "dk")) dbg__law_cell cls__law_cell)) (by walk_at "zz")) (@pe_lst _ _ _ _ pa_nil) (nomark _))))) (@pss_cons _ _ _ _ _ (@ps_expr _ _ _ _ (@pe_bm _ _ _ _ _ _ _ _ _ _ _ _ PySem.F.plainAttrs_list PySem.F.slot_list_append PySem.F.type_list_append mt_append (@pv _ 6 _ _ rfl v_L_stretches_6 dbg__law_found cls__law_found) (@pa_cons _ _ _ _ _ (@pv _ 10 _ _ rfl v_L_stretches_10 dbg__law_stretch cls__law_stretch) pa_nil (by walk_at "zz")) (by walk_at "zz") (by walk_at "zz") (by walk_at "zz") (by walk_at "zz") (by walk_at "zz")) (by walk_at "zz")) (@pss_one _ _ _ (@ps_for _ _ _ _ _ _ _ _ PassesOwn.never rfl (@pi_list _ _ _ _ (@pv _ 11 _ _ rfl v_L_stretches_11 dbg__law_cells cls__law_cells)) (@pg_name _ _ 12 _ nd rfl n_L_stretches_12 (by walk_at "zz")) (@pss_one _ _ _ (@ps_asg _ _ _ _ _ _ pe_bl (@pg_sub _ _ _ _ _ _ _ (@pv _ 4 _ _ rfl v_L_stretches_4 dbg__law_used cls__law_used) (@pv _ 12 _ _ rfl v_L_stretches_12 dbg__law_cell cls__law_cell) (@set_dict _ (hu64 hr)) (by walk_at "zz")) (by walk_at "zz") (by walk_at "zz") (by walk_at "zz"))) (by walk_at "zz")))) pss_nil)))))) (by walk_at "zz")) (@pss_one _ _ _ (@ps_ret _ _ _ _ (@pv _ 6 _ _ rfl v_L_stretches_6 dbg__law_found cls__law_found))))), fn_run (N := ["_law_rest", "_law_w", "_law_h", "_law_shift", "_law_used", "_law_most", "_law_found", "_law_k", "_law_x", "_law_y", "_law_stretch", "_law_cells", "_law_cell"]) (np := 6) (nl := 7) (b_seq b_new (b_seq (b_for (it_range1 (a_cons (e_callM (i := 0) (a_cons (e_op o_add e_var e_int) a_nil)) a_nil)) g_name (b_seq (b_asg (e_callM (i := 0) (a_cons e_var a_nil)) g_name) (b_seq (b_asg (e_callM (i := 0) (a_cons e_var a_nil)) g_name) (b_seq (b_asg (e_tup (a_cons e_var (a_cons e_var (a_cons (e_op o_add e_int (e_callM (i := 0) (a_cons (e_op o_sub e_var e_var) a_nil))) a_nil)))) g_name) (b_seq (b_lcs (e_lc (it_range1 (a_cons (e_op o_ixT e_var e_int) a_nil)) g_name t_yes (e_tup (a_cons (e_op o_add e_var e_var) (a_cons e_var a_nil))))) (b_if (t_bor (i := 4) (t_and (t_val (e_call (a_cons e_var (a_cons e_var (a_cons e_var (a_cons e_var a_nil)))))) (t_test (e_op o_eq (e_lc (it_list e_var) g_name (t_test (e_op o_inD e_var e_var)) e_var) (e_lst a_nil))))) (b_seq (b_expr (e_mt (i := 6) m_append (a_cons e_var a_nil))) (b_for (it_list e_var) g_name (b_putK (i := 4) e_bl e_var))) b_nil)))))) (b_retM (i := 6)))) rfl h⟩
theorem ok_picture_copied (F : Fun K "picture_copied" "picture_copied" s_picture_copied f fd) (z_list : mg "list" = none) : FnOk P w K mg base CX0 1 f fd ["picture"] (spG K m_picture_copied) := by
  have nd := sc_picture_copied.nd
  refine F.ok sc_picture_copied (fun vs H Q E h => fn_lenG dFun_len h) (fun cdv A outer s H vs Q E hr h => ?_)
  exact ⟨_, (@pss_one _ _ _ (@ps_ret _ _ _ _ (@pe_lc _ ["row"] 1 [] _ _ _ _ _ _ _ _ _ _ rfl (@lc_ok _ ["row"] 1 [] _ ["picture"] (defScope s_picture_copied) rfl rfl (by walk_at "dk")) (@pi_list _ _ _ _ (@pv _ 0 _ _ rfl v_picture_copied_0 dbg_picture cls_picture)) (fun cl fp s3 H3 => (@pg_name _ _ 0 _ nd0_picture_copied rfl (loc_local (by walk_at "dk")) (Or.inr (rl_local (by walk_at "dk"))))) (fun cl fp s3 H3 => pts_nil) (fun cl fp s3 H3 => (@pe_callTy _ _ _ _ _ _ _ _ _ call_list_of (rl_glob (by walk_at "dk")) z_list PySem.Pv.boot_list (@pa_cons _ _ _ _ _ (@pv _ 0 _ _ rfl (vis_local (by walk_at "dk")) dbg_row cls_row) pa_nil (by walk_at "zz")) nam_list dbg_list (by walk_at "zz") (by walk_at "zz"))) (by walk_at "zz")))), fn_runG (N := ["picture"]) (np := 1) (nl := 0) (eg_lc (it_list e_var) g_name t_yes (eg_fx (e_app c_list (a_cons e_var a_nil)))) rfl h⟩
theorem ok_cells_of (F : Fun K "cells_of" "cells_of" s_cells_of f fd) (z_range : mg "range" = none) : FnOk P w K mg base CX0 1 f fd ["box"] (spD K m_cells_of true) := by
  have nd := sc_cells_of.nd
  refine F.ok sc_cells_of (fun vs H Q E h => fn_len dFun_len h) (fun cdv A outer s H vs Q E hr h => ?_)
  exact ⟨_, (@pss_cons _ _ _ _ _ (@ps_set _ _ 1 _ _ _ _ nd rfl n_cells_of_1 (@pe_lst _ _ _ _ pa_nil) (by walk_at "zz") (by walk_at "zz")) (@pss_cons _ _ _ _ _ (@ps_for _ _ _ _ _ _ _ _ PassesOwn.never rfl (@pi_range2 _ _ _ _ _ _ _ g_cells_of_range z_range (@pa_cons _ _ _ _ _ (@pe_ix _ _ _ _ _ _ _ ix_tup (@pv _ 0 _ _ rfl v_cells_of_0 dbg_box cls_box) pe_int (fun _ _ => rfl)) (@pa_cons _ _ _ _ _ (@pe_op _ _ _ _ _ _ _ _ op_add (@pe_ix _ _ _ _ _ _ _ ix_tup (@pv _ 0 _ _ rfl v_cells_of_0 dbg_box cls_box) pe_int (fun _ _ => rfl)) (@pe_ix _ _ _ _ _ _ _ ix_tup (@pv _ 0 _ _ rfl v_cells_of_0 dbg_box cls_box) pe_int (fun _ _ => rfl))) pa_nil (by walk_at "zz")) (by walk_at "zz")) (by walk_at "zz") (by walk_at "zz")) (@pg_name _ _ 2 _ nd rfl n_cells_of_2 (by walk_at "zz")) (@pss_one _ _ _ (@ps_expr _ _ _ _ (@pe_bm _ _ _ _ _ _ _ _ _ _ _ _ PySem.F.plainAttrs_list PySem.F.slot_list_extend PySem.F.type_list_extend mt_extend (@pv _ 1 _ _ rfl v_cells_of_1 dbg_cells cls_cells) (@pa_cons _ _ _ _ _ (@pe_lc _ ["x", "y"] 1 [2] _ _ _ _ _ _ _ _ _ _ rfl (@lc_ok _ ["x", "y"] 1 [2] _ ["box", "cells", "y"] (defScope s_cells_of) rfl rfl (by walk_at "dk")) (@pi_range2 _ _ _ _ _ _ _ g_cells_of_range z_range (@pa_cons _ _ _ _ _ (@pe_ix _ _ _ _ _ _ _ ix_tup (@pv _ 0 _ _ rfl v_cells_of_0 dbg_box cls_box) pe_int (fun _ _ => rfl)) (@pa_cons _ _ _ _ _ (@pe_op _ _ _ _ _ _ _ _ op_add (@pe_ix _ _ _ _ _ _ _ ix_tup (@pv _ 0 _ _ rfl v_cells_of_0 dbg_box cls_box) pe_int (fun _ _ => rfl)) (@pe_ix _ _ _ _ _ _ _ ix_tup (@pv _ 0 _ _ rfl v_cells_of_0 dbg_box cls_box) pe_int (fun _ _ => rfl))) pa_nil (by walk_at "zz")) (by walk_at "zz")) (by walk_at "zz") (by walk_at "zz")) (fun cl fp s3 H3 => (@pg_name _ _ 0 _ nd0_cells_of rfl (loc_local (by walk_at "dk")) (Or.inr (rl_local (by walk_at "dk"))))) (fun cl fp s3 H3 => pts_nil) (fun cl fp s3 H3 => (@pe_tup _ _ _ _ _ (@pa_cons _ _ _ _ _ (@pv _ 0 _ _ rfl (vis_local (by walk_at "dk")) dbg_x cls_x) (@pa_cons _ _ _ _ _ (@pv _ 1 _ _ rfl (vis_free (by walk_at "dk")) dbg_y cls_y) pa_nil (by walk_at "zz")) (by walk_at "zz")))) (by walk_at "zz")) pa_nil (by walk_at "zz")) (by walk_at "zz") (by walk_at "zz") (by walk_at "zz") (by walk_at "zz") (by walk_at "zz")) (by walk_at "zz"))) (by walk_at "zz")) (@pss_one _ _ _ (@ps_ret _ _ _ _ (@pv _ 1 _ _ rfl v_cells_of_1 dbg_cells cls_cells))))), fn_run (N := ["box", "cells", "y"]) (np := 1) (nl := 2) (b_seq b_new (b_seq (b_for (it_range2 (a_cons (e_op o_ixT e_var e_int) (a_cons (e_op o_add (e_op o_ixT e_var e_int) (e_op o_ixT e_var e_int)) a_nil))) g_name (b_expr (e_mt (i := 1) m_extend (a_cons (e_lc (it_range2 (a_cons (e_op o_ixT e_var e_int) (a_cons (e_op o_add (e_op o_ixT e_var e_int) (e_op o_ixT e_var e_int)) a_nil))) g_name t_yes (e_tup (a_cons e_var (a_cons e_var a_nil)))) a_nil)))) (b_retM (i := 1)))) rfl h⟩
theorem ok_stretch_cells (F : Fun K "stretch_cells" "stretch_cells" s_stretch_cells f fd) (C_cells_of : Cal P w K mg base 1 "cells_of" ["box"] (spD K m_cells_of true)) : FnOk P w K mg base CX0 2 f fd ["stretches"] (spD K m_stretch_cells true) := by
  have nd := sc_stretch_cells.nd
  refine F.ok sc_stretch_cells (fun vs H Q E h => fn_len dFun_len h) (fun cdv A outer s H vs Q E hr h => ?_)
  exact ⟨_, (@pss_cons _ _ _ _ _ (@ps_set _ _ 1 _ _ _ _ nd rfl n_stretch_cells_1 (@pe_lst _ _ _ _ pa_nil) (by walk_at "zz") (by walk_at "zz")) (@pss_cons _ _ _ _ _ (@ps_for _ _ _ _ _ _ _ _ PassesOwn.never rfl (@pi_list _ _ _ _ (@pv _ 0 _ _ rfl v_stretch_cells_0 dbg_stretches cls_stretches)) (@pg_tup _ _ _ _ _ _ rfl (@pgs_cons _ _ _ _ _ (@pg_name _ _ 2 _ nd rfl n_stretch_cells_2 (by walk_at "zz")) (@pgs_cons _ _ _ _ _ (@pg_name _ _ 3 _ nd rfl n_stretch_cells_3 (by walk_at "zz")) (@pgs_cons _ _ _ _ _ (@pg_name _ _ 4 _ nd rfl n_stretch_cells_4 (by walk_at "zz")) pgs_nil (by walk_at "zz")) (by walk_at "zz")) (by walk_at "zz")) (by walk_at "zz") (by walk_at "zz")) (@pss_one _ _ _ (@ps_expr _ _ _ _ (@pe_bm _ _ _ _ _ _ _ _ _ _ _ _ PySem.F.plainAttrs_list PySem.F.slot_list_extend PySem.F.type_list_extend mt_extend (@pv _ 1 _ _ rfl v_stretch_cells_1 dbg_cells cls_cells) (@pa_cons _ _ _ _ _ (@pe_callC _ _ _ _ _ _ _ _ _ _ C_cells_of hr g_stretch_cells_cells_of (@pa_cons _ _ _ _ _ (@pe_tup _ _ _ _ _ (@pa_cons _ _ _ _ _ (@pv _ 2 _ _ rfl v_stretch_cells_2 dbg_x cls_x) (@pa_cons _ _ _ _ _ (@pv _ 3 _ _ rfl v_stretch_cells_3 dbg_y cls_y) (@pa_cons _ _ _ _ _ (@pv _ 4 _ _ rfl v_stretch_cells_4 dbg_many cls_many) (@pa_cons _ _ _ _ _ pe_int pa_nil (by walk_at "zz")) (by walk_at "zz")) (by walk_at "zz")) (by walk_at "zz"))) pa_nil (by walk_at "zz")) dbg_cells_of (by walk_at "zz") (by walk_at "zz")) pa_nil (by walk_at "zz")) (by walk_at "zz") (by walk_at "zz") (by walk_at "zz") (by walk_at "zz") (by walk_at "zz")) (by walk_at "zz"))) (by walk_at "zz")) (@pss_one _ _ _ (@ps_ret _ _ _ _ (@pv _ 1 _ _ rfl v_stretch_cells_1 dbg_cells cls_cells))))), fn_run (N := ["stretches", "cells", "x", "y", "many"]) (np := 1) (nl := 4) (b_seq b_new (b_seq (b_for (it_list e_var) (g_tup (gs_cons g_name (gs_cons g_name (gs_cons g_name gs_nil))) (len_cons (len_cons (len_cons len_nil)))) (b_expr (e_mt (i := 1) m_extend (a_cons (e_call (a_cons (e_tup (a_cons e_var (a_cons e_var (a_cons e_var (a_cons e_int a_nil))))) a_nil)) a_nil)))) (b_retM (i := 1)))) rfl h⟩
theorem ok_plan_done (F : Fun K "plan_done" "plan_done" s_plan_done f fd) (C_picture_copied : Cal P w K mg base 2 "picture_copied" ["picture"] (spG K m_picture_copied)) (C_stretch_cells : Cal P w K mg base 2 "stretch_cells" ["stretches"] (spD K m_stretch_cells true)) : FnOk P w K mg base CX0 3 f fd ["plan", "old", "behind"] (spD K m_plan_done true) := by
  have nd := sc_plan_done.nd
  refine F.ok sc_plan_done (fun vs H Q E h => fn_len dFun_len h) (fun cdv A outer s H vs Q E hr h => ?_)
  exact ⟨_, (@pss_cons _ _ _ _ _ (@ps_set _ _ 3 _ _ _ _ nd rfl n_plan_done_3 (@pe_ix _ _ _ _ _ _ _ ix_tup (@pv _ 0 _ _ rfl v_plan_done_0 dbg_plan cls_plan) pe_int (fun _ _ => rfl)) (by walk_at "zz") (by walk_at "zz")) (@pss_cons _ _ _ _ _ (@ps_set _ _ 4 _ _ _ _ nd rfl n_plan_done_4 (@pe_callC _ _ _ _ _ _ _ _ _ _ C_picture_copied hr g_plan_done_picture_copied (@pa_cons _ _ _ _ _ (@pv _ 1 _ _ rfl v_plan_done_1 dbg_old cls_old) pa_nil (by walk_at "zz")) dbg_picture_copied (by walk_at "zz") (by walk_at "zz")) (by walk_at "zz") (by walk_at "zz")) (@pss_cons _ _ _ _ _ (@ps_for _ _ _ _ _ _ _ _ PassesOwn.never rfl (@pi_list _ _ _ _ (@pe_callC _ _ _ _ _ _ _ _ _ _ C_stretch_cells hr g_plan_done_stretch_cells (@pa_cons _ _ _ _ _ (@pe_ix _ _ _ _ _ _ _ ix_tup (@pv _ 0 _ _ rfl v_plan_done_0 dbg_plan cls_plan) pe_int (fun _ _ => rfl)) pa_nil (by walk_at "zz")) dbg_stretch_cells (by walk_at "zz") (by walk_at "zz"))) (@pg_tup _ _ _ _ _ _ rfl (@pgs_cons _ _ _ _ _ (@pg_name _ _ 5 _ nd rfl n_plan_done_5 (by walk_at "zz")) (@pgs_cons _ _ _ _ _ (@pg_name _ _ 6 _ nd rfl n_plan_done_6 (by walk_at "zz")) pgs_nil (by walk_at "zz")) (by walk_at "zz")) (by walk_at "zz") (by walk_at "zz")) (@pss_one _ _ _ (@ps_asg _ _ _ _ _ _ (@pe_ix _ _ _ _ _ _ _ ix_list (@pe_ix _ _ _ _ _ _ _ ix_list (@pv _ 1 _ _ rfl v_plan_done_1 dbg_old cls_old) (@pe_op _ _ _ _ _ _ _ _ op_sub (@pv _ 6 _ _ rfl v_plan_done_6 dbg_y cls_y) (@pe_ix _ _ _ _ _ _ _ ix_tup (@pv _ 3 _ _ rfl v_plan_done_3 dbg_shift cls_shift) pe_int (fun _ _ => rfl))) (fun _ _ => rfl)) (@pe_op _ _ _ _ _ _ _ _ op_sub (@pv _ 5 _ _ rfl v_plan_done_5 dbg_x cls_x) (@pe_ix _ _ _ _ _ _ _ ix_tup (@pv _ 3 _ _ rfl v_plan_done_3 dbg_shift cls_shift) pe_int (fun _ _ => rfl))) (fun _ _ => rfl)) (@pg_sub _ _ _ _ _ _ _ (@pe_ix _ _ _ _ _ _ _ ix_list (@pv _ 4 _ _ rfl v_plan_done_4 dbg_picture cls_picture) (@pv _ 6 _ _ rfl v_plan_done_6 dbg_y cls_y) (fun _ _ => rfl)) (@pv _ 5 _ _ rfl v_plan_done_5 dbg_x cls_x) set_list (by walk_at "zz")) (by walk_at "zz") (by walk_at "zz") (by walk_at "zz"))) (by walk_at "zz")) (@pss_cons _ _ _ _ _ (@ps_for _ _ _ _ _ _ _ _ PassesOwn.never rfl (@pi_list _ _ _ _ (@pe_callC _ _ _ _ _ _ _ _ _ _ C_stretch_cells hr g_plan_done_stretch_cells (@pa_cons _ _ _ _ _ (@pe_ix _ _ _ _ _ _ _ ix_tup (@pv _ 0 _ _ rfl v_plan_done_0 dbg_plan cls_plan) pe_int (fun _ _ => rfl)) pa_nil (by walk_at "zz")) dbg_stretch_cells (by walk_at "zz") (by walk_at "zz"))) (@pg_tup _ _ _ _ _ _ rfl (@pgs_cons _ _ _ _ _ (@pg_name _ _ 5 _ nd rfl n_plan_done_5 (by walk_at "zz")) (@pgs_cons _ _ _ _ _ (@pg_name _ _ 6 _ nd rfl n_plan_done_6 (by walk_at "zz")) pgs_nil (by walk_at "zz")) (by walk_at "zz")) (by walk_at "zz") (by walk_at "zz")) (@pss_one _ _ _ (@ps_asg _ _ _ _ _ _ (@pe_ix _ _ _ _ _ _ _ ix_list (@pe_ix _ _ _ _ _ _ _ ix_list (@pv _ 2 _ _ rfl v_plan_done_2 dbg_behind cls_behind) (@pv _ 6 _ _ rfl v_plan_done_6 dbg_y cls_y) (fun _ _ => rfl)) (@pv _ 5 _ _ rfl v_plan_done_5 dbg_x cls_x) (fun _ _ => rfl)) (@pg_sub _ _ _ _ _ _ _ (@pe_ix _ _ _ _ _ _ _ ix_list (@pv _ 4 _ _ rfl v_plan_done_4 dbg_picture cls_picture) (@pv _ 6 _ _ rfl v_plan_done_6 dbg_y cls_y) (fun _ _ => rfl)) (@pv _ 5 _ _ rfl v_plan_done_5 dbg_x cls_x) set_list (by walk_at "zz")) (by walk_at "zz") (by walk_at "zz") (by walk_at "zz"))) (by walk_at "zz")) (@pss_one _ _ _ (@ps_ret _ _ _ _ (@pv _ 4 _ _ rfl v_plan_done_4 dbg_picture cls_picture))))))), fn_run (N := ["plan", "old", "behind", "shift", "picture", "x", "y"]) (np := 3) (nl := 4) (b_seq (b_asg (e_op o_ixT e_var e_int) g_name) (b_seq (b_setG (eg_callL (a_cons e_var a_nil))) (b_seq (b_for (it_list (e_call (a_cons (e_op o_ixT e_var e_int) a_nil))) (g_tup (gs_cons g_name (gs_cons g_name gs_nil)) (len_cons (len_cons len_nil))) (b_setGG (i := 4) (e_op o_ixL (e_op o_ixL e_var (e_op o_sub e_var (e_op o_ixT e_var e_int))) (e_op o_sub e_var (e_op o_ixT e_var e_int))) e_var e_var)) (b_seq (b_for (it_list (e_call (a_cons (e_op o_ixT e_var e_int) a_nil))) (g_tup (gs_cons g_name (gs_cons g_name gs_nil)) (len_cons (len_cons len_nil))) (b_setGG (i := 4) (e_op o_ixL (e_op o_ixL e_var e_var) e_var) e_var e_var)) (b_retG (i := 4)))))) rfl h⟩
theorem ok_L_is_fraction (F : Fun K "_law_is_fraction" "_law_is_fraction" s_L_is_fraction f fd) (z_len : mg "len" = none) (z_tuple : mg "tuple" = none) (z_isinstance : mg "isinstance" = none) (z_bool : mg "bool" = none) (z_int : mg "int" = none) : FnOk P w K mg base CX0 1 f fd ["_law_thing"] (spD K m_L_is_fraction false) := by
  have nd := sc_L_is_fraction.nd
  refine F.ok sc_L_is_fraction (fun vs H Q E h => fn_len dFun_len h) (fun cdv A outer s H vs Q E hr h => ?_)
  exact ⟨_, (@pss_cons _ _ _ _ _ (@ps_if _ _ _ _ _ _ _ _ (@PW.pt _ _ _ (@pw_or _ _ _ _ _ _ _ (@pt_not _ _ _ _ (@pt_val _ _ _ (@pe_callB _ _ _ _ _ _ _ _ _ call_isiK g_L_is_fraction_isinstance z_isinstance PyProof.Rows.boot_isinstance (@pa_cons _ _ _ _ _ (@pv _ 0 _ _ rfl v_L_is_fraction_0 dbg__law_thing cls__law_thing) (@pa_cons _ _ _ _ _ (pe_ty g_L_is_fraction_tuple z_tuple PySem.Pv.boot_tuple nam_tuple dbg_tuple) pa_nil (by walk_at "zz")) (by walk_at "zz")) nam_isinstance dbg_isinstance (by walk_at "zz") (by walk_at "zz")) (by walk_at "zz"))) (@pw_or1 _ _ _ _ (@pt_cmpR _ _ _ _ _ _ _ _ (@op_neK _ (hu64 hr)) (@pe_callB _ _ _ _ _ _ _ _ _ call_len g_L_is_fraction_len z_len PySem.boot_len (@pa_cons _ _ _ _ _ (@pv _ 0 _ _ rfl v_L_is_fraction_0 dbg__law_thing cls__law_thing) pa_nil (by walk_at "zz")) nam_len dbg_len (by walk_at "zz") (by walk_at "zz")) pe_int (nomark _))))) (@pss_one _ _ _ (@ps_ret _ _ _ _ pe_bl)) pss_nil) (@pss_cons _ _ _ _ _ (@ps_for _ _ _ _ _ _ _ _ PassesOwn.never rfl (@pi_tup _ _ _ _ (@pv _ 0 _ _ rfl v_L_is_fraction_0 dbg__law_thing cls__law_thing)) (@pg_name _ _ 1 _ nd rfl n_L_is_fraction_1 (by walk_at "zz")) (@pss_one _ _ _ (@ps_if _ _ _ _ _ _ _ _ (@PW.pt _ _ _ (@pw_or _ _ _ _ _ _ _ (@pt_not _ _ _ _ (@pt_val _ _ _ (@pe_callB _ _ _ _ _ _ _ _ _ call_isiK g_L_is_fraction_isinstance z_isinstance PyProof.Rows.boot_isinstance (@pa_cons _ _ _ _ _ (@pv _ 1 _ _ rfl v_L_is_fraction_1 dbg__law_one cls__law_one) (@pa_cons _ _ _ _ _ (pe_ty g_L_is_fraction_int z_int PySem.Pv.boot_int nam_int dbg_int) pa_nil (by walk_at "zz")) (by walk_at "zz")) nam_isinstance dbg_isinstance (by walk_at "zz") (by walk_at "zz")) (by walk_at "zz"))) (@pw_or1 _ _ _ _ (@pt_val _ _ _ (@pe_callB _ _ _ _ _ _ _ _ _ call_isiK g_L_is_fraction_isinstance z_isinstance PyProof.Rows.boot_isinstance (@pa_cons _ _ _ _ _ (@pv _ 1 _ _ rfl v_L_is_fraction_1 dbg__law_one cls__law_one) (@pa_cons _ _ _ _ _ (pe_ty g_L_is_fraction_bool z_bool PySem.Pv.boot_bool nam_bool dbg_bool) pa_nil (by walk_at "zz")) (by walk_at "zz")) nam_isinstance dbg_isinstance (by walk_at "zz") (by walk_at "zz")) (by walk_at "zz"))))) (@pss_one _ _ _ (@ps_ret _ _ _ _ pe_bl)) pss_nil)) (by walk_at "zz")) (@pss_one _ _ _ (@ps_ret _ _ _ _ pe_bl)))), fn_run (N := ["_law_thing", "_law_one"]) (np := 1) (nl := 1) (b_seq (b_if (t_or (t_not (t_val (e_isi (T := "tuple") e_var))) (t_test (e_op o_ne (e_app c_len (a_cons e_var a_nil)) e_int))) (b_ret e_bl (by decide)) b_nil) (b_seq (b_for (it_tup e_var) g_name (b_if (t_or (t_not (t_val (e_isi (T := "int") e_var))) (t_val (e_isi (T := "bool") e_var))) (b_ret e_bl (by decide)) b_nil)) (b_ret e_bl (by decide)))) rfl h⟩
theorem ok_L_same_picture (F : Fun K "_law_same_picture" "_law_same_picture" s_L_same_picture f fd) (C_L_is_fraction : Cal P w K mg base 1 "_law_is_fraction" ["_law_thing"] (spD K m_L_is_fraction false)) (z_len : mg "len" = none) (z_list : mg "list" = none) (z_isinstance : mg "isinstance" = none) (z_range : mg "range" = none) : FnOk P w K mg base CX0 2 f fd ["_law_found", "_law_due_here"] (spD K m_L_same_picture false) := by
  have nd := sc_L_same_picture.nd
  refine F.ok sc_L_same_picture (fun vs H Q E h => fn_len dFun_len h) (fun cdv A outer s H vs Q E hr h => ?_)
  exact ⟨_, (@pss_cons _ _ _ _ _ (@ps_if _ _ _ _ _ _ _ _ (@PW.pt _ _ _ (@pw_or _ _ _ _ _ _ _ (@pt_not _ _ _ _ (@pt_val _ _ _ (@pe_callB _ _ _ _ _ _ _ _ _ call_isiK g_L_same_picture_isinstance z_isinstance PyProof.Rows.boot_isinstance (@pa_cons _ _ _ _ _ (@pv _ 0 _ _ rfl v_L_same_picture_0 dbg__law_found cls__law_found) (@pa_cons _ _ _ _ _ (pe_ty g_L_same_picture_list z_list PySem.Pv.boot_list nam_list dbg_list) pa_nil (by walk_at "zz")) (by walk_at "zz")) nam_isinstance dbg_isinstance (by walk_at "zz") (by walk_at "zz")) (by walk_at "zz"))) (@pw_or1 _ _ _ _ (@pt_cmpR _ _ _ _ _ _ _ _ (@op_neK _ (hu64 hr)) (@pe_callB _ _ _ _ _ _ _ _ _ call_len g_L_same_picture_len z_len PySem.boot_len (@pa_cons _ _ _ _ _ (@pv _ 0 _ _ rfl v_L_same_picture_0 dbg__law_found cls__law_found) pa_nil (by walk_at "zz")) nam_len dbg_len (by walk_at "zz") (by walk_at "zz")) (@pe_callB _ _ _ _ _ _ _ _ _ call_len g_L_same_picture_len z_len PySem.boot_len (@pa_cons _ _ _ _ _ (@pv _ 1 _ _ rfl v_L_same_picture_1 dbg__law_due_here cls__law_due_here) pa_nil (by walk_at "zz")) nam_len dbg_len (by walk_at "zz") (by walk_at "zz")) (nomark _))))) (@pss_one _ _ _ (@ps_ret _ _ _ _ pe_bl)) pss_nil) (@pss_cons _ _ _ _ _ (@ps_for _ _ _ _ _ _ _ _ PassesOwn.never rfl (@pi_range1 _ _ _ _ _ _ g_L_same_picture_range z_range (@pa_cons _ _ _ _ _ (@pe_callB _ _ _ _ _ _ _ _ _ call_len g_L_same_picture_len z_len PySem.boot_len (@pa_cons _ _ _ _ _ (@pv _ 1 _ _ rfl v_L_same_picture_1 dbg__law_due_here cls__law_due_here) pa_nil (by walk_at "zz")) nam_len dbg_len (by walk_at "zz") (by walk_at "zz")) pa_nil (by walk_at "zz")) (by walk_at "zz")) (@pg_name _ _ 2 _ nd rfl n_L_same_picture_2 (by walk_at "zz")) (@pss_cons _ _ _ _ _ (@ps_if _ _ _ _ _ _ _ _ (@PW.pt _ _ _ (@pw_or _ _ _ _ _ _ _ (@pt_not _ _ _ _ (@pt_val _ _ _ (@pe_callB _ _ _ _ _ _ _ _ _ call_isiK g_L_same_picture_isinstance z_isinstance PyProof.Rows.boot_isinstance (@pa_cons _ _ _ _ _ (@pe_ix _ _ _ _ _ _ _ ix_list (@pv _ 0 _ _ rfl v_L_same_picture_0 dbg__law_found cls__law_found) (@pv _ 2 _ _ rfl v_L_same_picture_2 dbg__law_y cls__law_y) (fun _ _ => rfl)) (@pa_cons _ _ _ _ _ (pe_ty g_L_same_picture_list z_list PySem.Pv.boot_list nam_list dbg_list) pa_nil (by walk_at "zz")) (by walk_at "zz")) nam_isinstance dbg_isinstance (by walk_at "zz") (by walk_at "zz")) (by walk_at "zz"))) (@pw_or1 _ _ _ _ (@pt_cmpR _ _ _ _ _ _ _ _ (@op_neK _ (hu64 hr)) (@pe_ix _ _ _ _ _ _ _ ix_list (@pv _ 0 _ _ rfl v_L_same_picture_0 dbg__law_found cls__law_found) (@pv _ 2 _ _ rfl v_L_same_picture_2 dbg__law_y cls__law_y) (fun _ _ => rfl)) (@pe_ix _ _ _ _ _ _ _ ix_list (@pv _ 1 _ _ rfl v_L_same_picture_1 dbg__law_due_here cls__law_due_here) (@pv _ 2 _ _ rfl v_L_same_picture_2 dbg__law_y cls__law_y) (fun _ _ => rfl)) (nomark _))))) (@pss_one _ _ _ (@ps_ret _ _ _ _ pe_bl)) pss_nil) (@pss_one _ _ _ (@ps_if _ _ _ _ _ _ _ _ (@pt_cmpR _ _ _ _ _ _ _ _ (@op_neK _ (hu64 hr)) (@pe_lc _ ["_law_shade"] 1 [] _ _ _ _ _ _ _ _ _ _ rfl (@lc_ok _ ["_law_shade"] 1 [] _ ["_law_found", "_law_due_here", "_law_y"] (defScope s_L_same_picture) rfl rfl (by walk_at "dk")) (@pi_list _ _ _ _ (@pe_ix _ _ _ _ _ _ _ ix_list (@pv _ 0 _ _ rfl v_L_same_picture_0 dbg__law_found cls__law_found) (@pv _ 2 _ _ rfl v_L_same_picture_2 dbg__law_y cls__law_y) (fun _ _ => rfl))) (fun cl fp s3 H3 => (@pg_name _ _ 0 _ nd0_L_same_picture rfl (loc_local (by walk_at "dk")) (Or.inr (rl_local (by walk_at "dk"))))) (fun cl fp s3 H3 => (@pts_one _ _ _ (@pt_not _ _ _ _ (@pt_val _ _ _ (@pe_callC _ _ _ _ _ _ _ _ _ _ C_L_is_fraction hr (rl_glob (by walk_at "dk")) (@pa_cons _ _ _ _ _ (@pv _ 0 _ _ rfl (vis_local (by walk_at "dk")) dbg__law_shade cls__law_shade) pa_nil (by walk_at "zz")) dbg__law_is_fraction (by walk_at "zz") (by walk_at "zz")) (by walk_at "zz"))))) (fun cl fp s3 H3 => (@pv _ 0 _ _ rfl (vis_local (by walk_at "dk")) dbg__law_shade cls__law_shade)) (by walk_at "zz")) (@pe_lst _ _ _ _ pa_nil) (nomark _)) (@pss_one _ _ _ (@ps_ret _ _ _ _ pe_bl)) pss_nil))) (by walk_at "zz")) (@pss_one _ _ _ (@ps_ret _ _ _ _ pe_bl)))), fn_run (N := ["_law_found", "_law_due_here", "_law_y"]) (np := 2) (nl := 1) (b_seq (b_if (t_or (t_not (t_val (e_isi (T := "list") e_var))) (t_test (e_op o_ne (e_app c_len (a_cons e_var a_nil)) (e_app c_len (a_cons e_var a_nil))))) (b_ret e_bl (by decide)) b_nil) (b_seq (b_for (it_range1 (a_cons (e_app c_len (a_cons e_var a_nil)) a_nil)) g_name (b_seq (b_if (t_or (t_not (t_val (e_isi (T := "list") (e_op o_ixL e_var e_var)))) (t_test (e_op o_ne (e_op o_ixL e_var e_var) (e_op o_ixL e_var e_var)))) (b_ret e_bl (by decide)) b_nil) (b_if (t_test (e_op o_ne (e_lc (it_list (e_op o_ixL e_var e_var)) g_name (t_not (t_val (e_call (a_cons e_var a_nil)))) e_var) (e_lst a_nil))) (b_ret e_bl (by decide)) b_nil))) (b_ret e_bl (by decide)))) rfl h⟩
theorem ok_L_cell_at (F : Fun K "_law_cell_at" "_law_cell_at" s_L_cell_at f fd) (z_len : mg "len" = none) : FnOk P w K mg base CX0 1 f fd ["_law_script", "_law_k"] (spD K m_L_cell_at false) := by
  have nd := sc_L_cell_at.nd
  refine F.ok sc_L_cell_at (fun vs H Q E h => fn_len dFun_len h) (fun cdv A outer s H vs Q E hr h => ?_)
  exact ⟨_, (@pss_cons _ _ _ _ _ (@ps_if _ _ _ _ _ _ _ _ (@pt_cmpR _ _ _ _ _ _ _ _ op_lt (@pv _ 1 _ _ rfl v_L_cell_at_1 dbg__law_k cls__law_k) (@pe_callB _ _ _ _ _ _ _ _ _ call_len g_L_cell_at_len z_len PySem.boot_len (@pa_cons _ _ _ _ _ (@pv _ 0 _ _ rfl v_L_cell_at_0 dbg__law_script cls__law_script) pa_nil (by walk_at "zz")) nam_len dbg_len (by walk_at "zz") (by walk_at "zz")) (nomark _)) (@pss_one _ _ _ (@ps_ret _ _ _ _ (@pe_ix _ _ _ _ _ _ _ ix_list (@pv _ 0 _ _ rfl v_L_cell_at_0 dbg__law_script cls__law_script) (@pv _ 1 _ _ rfl v_L_cell_at_1 dbg__law_k cls__law_k) (fun _ _ => rfl)))) pss_nil) (@pss_one _ _ _ (@ps_ret _ _ _ _ pe_int))), fn_run (N := ["_law_script", "_law_k"]) (np := 2) (nl := 0) (b_seq (b_if (t_test (e_op o_lt e_var (e_lenC (i := 0)))) (b_ret (e_ixC (i := 0) e_var) (by decide)) b_nil) (b_ret e_int (by decide))) rfl h⟩
theorem ok_L_big (F : Fun K "_law_big" "_law_big" s_L_big f fd) (C_L_cell_at : Cal P w K mg base 1 "_law_cell_at" ["_law_script", "_law_k"] (spD K m_L_cell_at false)) (z_range : mg "range" = none) : FnOk P w K mg base CX0 2 f fd ["_law_script", "_law_at"] (spD K m_L_big false) := by
  have nd := sc_L_big.nd
  refine F.ok sc_L_big (fun vs H Q E h => fn_len dFun_len h) (fun cdv A outer s H vs Q E hr h => ?_)
  exact ⟨_, (@pss_cons _ _ _ _ _ (@ps_set _ _ 2 _ _ _ _ nd rfl n_L_big_2 (@pe_tup _ _ _ _ _ (@pa_cons _ _ _ _ _ pe_int (@pa_cons _ _ _ _ _ pe_int (@pa_cons _ _ _ _ _ pe_int (@pa_cons _ _ _ _ _ pe_int (@pa_cons _ _ _ _ _ pe_int (@pa_cons _ _ _ _ _ pe_int (@pa_cons _ _ _ _ _ pe_int (@pa_cons _ _ _ _ _ pe_int pa_nil (by walk_at "zz")) (by walk_at "zz")) (by walk_at "zz")) (by walk_at "zz")) (by walk_at "zz")) (by walk_at "zz")) (by walk_at "zz")) (by walk_at "zz"))) (by walk_at "zz") (by walk_at "zz")) (@pss_cons _ _ _ _ _ (@ps_set _ _ 3 _ _ _ _ nd rfl n_L_big_3 (@pe_tup _ _ _ _ _ (@pa_cons _ _ _ _ _ pe_int (@pa_cons _ _ _ _ _ pe_int (@pa_cons _ _ _ _ _ pe_int (@pa_cons _ _ _ _ _ pe_int (@pa_cons _ _ _ _ _ pe_int (@pa_cons _ _ _ _ _ pe_int (@pa_cons _ _ _ _ _ pe_int (@pa_cons _ _ _ _ _ pe_int pa_nil (by walk_at "zz")) (by walk_at "zz")) (by walk_at "zz")) (by walk_at "zz")) (by walk_at "zz")) (by walk_at "zz")) (by walk_at "zz")) (by walk_at "zz"))) (by walk_at "zz") (by walk_at "zz")) (@pss_cons _ _ _ _ _ (@ps_set _ _ 4 _ _ _ _ nd rfl n_L_big_4 (@pe_callC _ _ _ _ _ _ _ _ _ _ C_L_cell_at hr g_L_big__law_cell_at (@pa_cons _ _ _ _ _ (@pv _ 0 _ _ rfl v_L_big_0 dbg__law_script cls__law_script) (@pa_cons _ _ _ _ _ (@pv _ 1 _ _ rfl v_L_big_1 dbg__law_at cls__law_at) pa_nil (by walk_at "zz")) (by walk_at "zz")) dbg__law_cell_at (by walk_at "zz") (by walk_at "zz")) (by walk_at "zz") (by walk_at "zz")) (@pss_cons _ _ _ _ _ (@ps_if _ _ _ _ _ _ _ _ (@pt_cmpR _ _ _ _ _ _ _ _ op_ge (@pv _ 4 _ _ rfl v_L_big_4 dbg__law_cell cls__law_cell) (@pe_op _ _ _ _ _ _ _ _ op_pow pe_int pe_int) (nomark _)) (@pss_one _ _ _ (@ps_ret _ _ _ _ (@pv _ 4 _ _ rfl v_L_big_4 dbg__law_cell cls__law_cell))) pss_nil) (@pss_cons _ _ _ _ _ (@ps_set _ _ 5 _ _ _ _ nd rfl n_L_big_5 pe_int (by walk_at "zz") (by walk_at "zz")) (@pss_cons _ _ _ _ _ (@ps_for _ _ _ _ _ _ _ _ PassesOwn.never rfl (@pi_range1 _ _ _ _ _ _ g_L_big_range z_range (@pa_cons _ _ _ _ _ pe_int pa_nil (by walk_at "zz")) (by walk_at "zz")) (@pg_name _ _ 6 _ nd rfl n_L_big_6 (by walk_at "zz")) (@pss_cons _ _ _ _ _ (@ps_set _ _ 7 _ _ _ _ nd rfl n_L_big_7 (@pe_op _ _ _ _ _ _ _ _ op_add (@pe_op _ _ _ _ _ _ _ _ op_add (@pe_op _ _ _ _ _ _ _ _ op_mod (@pe_callC _ _ _ _ _ _ _ _ _ _ C_L_cell_at hr g_L_big__law_cell_at (@pa_cons _ _ _ _ _ (@pv _ 0 _ _ rfl v_L_big_0 dbg__law_script cls__law_script) (@pa_cons _ _ _ _ _ (@pe_op _ _ _ _ _ _ _ _ op_add (@pv _ 1 _ _ rfl v_L_big_1 dbg__law_at cls__law_at) (@pe_op _ _ _ _ _ _ _ _ op_mod (@pv _ 6 _ _ rfl v_L_big_6 dbg__law_k cls__law_k) pe_int)) pa_nil (by walk_at "zz")) (by walk_at "zz")) dbg__law_cell_at (by walk_at "zz") (by walk_at "zz")) (@pe_op _ _ _ _ _ _ _ _ op_pow pe_int pe_int)) pe_int) (@pe_op _ _ _ _ _ _ _ _ op_mulB (@pv _ 6 _ _ rfl v_L_big_6 dbg__law_k cls__law_k) (@pv _ 6 _ _ rfl v_L_big_6 dbg__law_k cls__law_k))) (by walk_at "zz") (by walk_at "zz")) (@pss_one _ _ _ (@ps_set _ _ 5 _ _ _ _ nd rfl n_L_big_5 (@pe_op _ _ _ _ _ _ _ _ op_add (@pe_op _ _ _ _ _ _ _ _ op_mulB (@pv _ 5 _ _ rfl v_L_big_5 dbg__law_big_here cls__law_big_here) pe_int) (@pe_op _ _ _ _ _ _ _ _ op_mod (@pe_op _ _ _ _ _ _ _ _ op_mod (@pe_op _ _ _ _ _ _ _ _ op_mulB (@pv _ 7 _ _ rfl v_L_big_7 dbg__law_one cls__law_one) (@pe_ix _ _ _ _ _ _ _ ix_tup (@pv _ 2 _ _ rfl v_L_big_2 dbg__law_by cls__law_by) (@pe_op _ _ _ _ _ _ _ _ op_mod (@pv _ 6 _ _ rfl v_L_big_6 dbg__law_k cls__law_k) pe_int) (fun _ _ => rfl))) (@pe_ix _ _ _ _ _ _ _ ix_tup (@pv _ 3 _ _ rfl v_L_big_3 dbg__law_prime cls__law_prime) (@pe_op _ _ _ _ _ _ _ _ op_mod (@pv _ 6 _ _ rfl v_L_big_6 dbg__law_k cls__law_k) pe_int) (fun _ _ => rfl))) pe_int)) (by walk_at "zz") (by walk_at "zz")))) (by walk_at "zz")) (@pss_one _ _ _ (@ps_ret _ _ _ _ (@pv _ 5 _ _ rfl v_L_big_5 dbg__law_big_here cls__law_big_here))))))))), fn_run (N := ["_law_script", "_law_at", "_law_by", "_law_prime", "_law_cell", "_law_big_here", "_law_k", "_law_one"]) (np := 2) (nl := 6) (b_seq (b_asg (e_tup (a_cons e_int (a_cons e_int (a_cons e_int (a_cons e_int (a_cons e_int (a_cons e_int (a_cons e_int (a_cons e_int a_nil))))))))) g_name) (b_seq (b_asg (e_tup (a_cons e_int (a_cons e_int (a_cons e_int (a_cons e_int (a_cons e_int (a_cons e_int (a_cons e_int (a_cons e_int a_nil))))))))) g_name) (b_seq (b_asg (e_callC (i := 0) (a_cons e_var a_nil)) g_name) (b_seq (b_if (t_test (e_op o_ge e_var (e_op o_pow e_int e_int))) (b_ret e_var (by decide)) b_nil) (b_seq (b_asg e_int g_name) (b_seq (b_for (it_range1 (a_cons e_int a_nil)) g_name (b_seq (b_asg (e_op o_add (e_op o_add (e_op o_mod (e_callC (i := 0) (a_cons (e_op o_add e_var (e_op o_mod e_var e_int)) a_nil)) (e_op o_pow e_int e_int)) e_int) (e_op o_mul e_var e_var)) g_name) (b_asg (e_op o_add (e_op o_mul e_var e_int) (e_op o_mod (e_op o_mod (e_op o_mul e_var (e_op o_ixT e_var (e_op o_mod e_var e_int))) (e_op o_ixT e_var (e_op o_mod e_var e_int))) e_int)) g_name))) (b_ret e_var (by decide)))))))) rfl h⟩
theorem ok_L_copy (F : Fun K "_law_copy" "_law_copy" s_L_copy f fd) (z_list : mg "list" = none) : FnOk P w K mg base CX0 1 f fd ["_law_picture"] (spG K m_L_copy) := by
  have nd := sc_L_copy.nd
  refine F.ok sc_L_copy (fun vs H Q E h => fn_lenG dFun_len h) (fun cdv A outer s H vs Q E hr h => ?_)
  exact ⟨_, (@pss_one _ _ _ (@ps_ret _ _ _ _ (@pe_lc _ ["_law_line"] 1 [] _ _ _ _ _ _ _ _ _ _ rfl (@lc_ok _ ["_law_line"] 1 [] _ ["_law_picture"] (defScope s_L_copy) rfl rfl (by walk_at "dk")) (@pi_list _ _ _ _ (@pv _ 0 _ _ rfl v_L_copy_0 dbg__law_picture cls__law_picture)) (fun cl fp s3 H3 => (@pg_name _ _ 0 _ nd0_L_copy rfl (loc_local (by walk_at "dk")) (Or.inr (rl_local (by walk_at "dk"))))) (fun cl fp s3 H3 => pts_nil) (fun cl fp s3 H3 => (@pe_callTy _ _ _ _ _ _ _ _ _ call_list_of (rl_glob (by walk_at "dk")) z_list PySem.Pv.boot_list (@pa_cons _ _ _ _ _ (@pv _ 0 _ _ rfl (vis_local (by walk_at "dk")) dbg__law_line cls__law_line) pa_nil (by walk_at "zz")) nam_list dbg_list (by walk_at "zz") (by walk_at "zz"))) (by walk_at "zz")))), fn_runG (N := ["_law_picture"]) (np := 1) (nl := 0) (eg_lc (it_list e_var) g_name t_yes (eg_fx (e_app c_list (a_cons e_var a_nil)))) rfl h⟩
theorem ok_L_due (F : Fun K "_law_due" "_law_due" s_L_due f fd) (C_L_copy : Cal P w K mg base 1 "_law_copy" ["_law_picture"] (spG K m_L_copy)) (z_range : mg "range" = none) : FnOk P w K mg base CX0 2 f fd ["_law_plan", "_law_old", "_law_behind"] (spD K m_L_due true) := by
  have nd := sc_L_due.nd
  refine F.ok sc_L_due (fun vs H Q E h => fn_len dFun_len h) (fun cdv A outer s H vs Q E hr h => ?_)
  exact ⟨_, (@pss_cons _ _ _ _ _ (@ps_set _ _ 3 _ _ _ _ nd rfl n_L_due_3 (@pe_callC _ _ _ _ _ _ _ _ _ _ C_L_copy hr g_L_due__law_copy (@pa_cons _ _ _ _ _ (@pv _ 1 _ _ rfl v_L_due_1 dbg__law_old cls__law_old) pa_nil (by walk_at "zz")) dbg__law_copy (by walk_at "zz") (by walk_at "zz")) (by walk_at "zz") (by walk_at "zz")) (@pss_cons _ _ _ _ _ (@ps_asg _ _ _ _ _ _ (@pe_ix _ _ _ _ _ _ _ ix_tup (@pv _ 0 _ _ rfl v_L_due_0 dbg__law_plan cls__law_plan) pe_int (fun _ _ => rfl)) (@pg_tup _ _ _ _ _ _ rfl (@pgs_cons _ _ _ _ _ (@pg_name _ _ 4 _ nd rfl n_L_due_4 (by walk_at "zz")) (@pgs_cons _ _ _ _ _ (@pg_name _ _ 5 _ nd rfl n_L_due_5 (by walk_at "zz")) pgs_nil (by walk_at "zz")) (by walk_at "zz")) (by walk_at "zz") (by walk_at "zz")) (by walk_at "zz") (by walk_at "zz") (by walk_at "zz")) (@pss_cons _ _ _ _ _ (@ps_for _ _ _ _ _ _ _ _ PassesOwn.never rfl (@pi_list _ _ _ _ (@pe_ix _ _ _ _ _ _ _ ix_tup (@pv _ 0 _ _ rfl v_L_due_0 dbg__law_plan cls__law_plan) pe_int (fun _ _ => rfl))) (@pg_tup _ _ _ _ _ _ rfl (@pgs_cons _ _ _ _ _ (@pg_name _ _ 6 _ nd rfl n_L_due_6 (by walk_at "zz")) (@pgs_cons _ _ _ _ _ (@pg_name _ _ 7 _ nd rfl n_L_due_7 (by walk_at "zz")) (@pgs_cons _ _ _ _ _ (@pg_name _ _ 8 _ nd rfl n_L_due_8 (by walk_at "zz")) pgs_nil (by walk_at "zz")) (by walk_at "zz")) (by walk_at "zz")) (by walk_at "zz") (by walk_at "zz")) (@pss_one _ _ _ (@ps_for _ _ _ _ _ _ _ _ PassesOwn.never rfl (@pi_range1 _ _ _ _ _ _ g_L_due_range z_range (@pa_cons _ _ _ _ _ (@pv _ 8 _ _ rfl v_L_due_8 dbg__law_many cls__law_many) pa_nil (by walk_at "zz")) (by walk_at "zz")) (@pg_name _ _ 9 _ nd rfl n_L_due_9 (by walk_at "zz")) (@pss_one _ _ _ (@ps_asg _ _ _ _ _ _ (@pe_ix _ _ _ _ _ _ _ ix_list (@pe_ix _ _ _ _ _ _ _ ix_list (@pv _ 1 _ _ rfl v_L_due_1 dbg__law_old cls__law_old) (@pe_op _ _ _ _ _ _ _ _ op_sub (@pv _ 7 _ _ rfl v_L_due_7 dbg__law_y cls__law_y) (@pv _ 5 _ _ rfl v_L_due_5 dbg__law_dy cls__law_dy)) (fun _ _ => rfl)) (@pe_op _ _ _ _ _ _ _ _ op_sub (@pe_op _ _ _ _ _ _ _ _ op_add (@pv _ 6 _ _ rfl v_L_due_6 dbg__law_x cls__law_x) (@pv _ 9 _ _ rfl v_L_due_9 dbg__law_k cls__law_k)) (@pv _ 4 _ _ rfl v_L_due_4 dbg__law_dx cls__law_dx)) (fun _ _ => rfl)) (@pg_sub _ _ _ _ _ _ _ (@pe_ix _ _ _ _ _ _ _ ix_list (@pv _ 3 _ _ rfl v_L_due_3 dbg__law_due_here cls__law_due_here) (@pv _ 7 _ _ rfl v_L_due_7 dbg__law_y cls__law_y) (fun _ _ => rfl)) (@pe_op _ _ _ _ _ _ _ _ op_add (@pv _ 6 _ _ rfl v_L_due_6 dbg__law_x cls__law_x) (@pv _ 9 _ _ rfl v_L_due_9 dbg__law_k cls__law_k)) set_list (by walk_at "zz")) (by walk_at "zz") (by walk_at "zz") (by walk_at "zz"))) (by walk_at "zz"))) (by walk_at "zz")) (@pss_cons _ _ _ _ _ (@ps_for _ _ _ _ _ _ _ _ PassesOwn.never rfl (@pi_list _ _ _ _ (@pe_ix _ _ _ _ _ _ _ ix_tup (@pv _ 0 _ _ rfl v_L_due_0 dbg__law_plan cls__law_plan) pe_int (fun _ _ => rfl))) (@pg_tup _ _ _ _ _ _ rfl (@pgs_cons _ _ _ _ _ (@pg_name _ _ 6 _ nd rfl n_L_due_6 (by walk_at "zz")) (@pgs_cons _ _ _ _ _ (@pg_name _ _ 7 _ nd rfl n_L_due_7 (by walk_at "zz")) (@pgs_cons _ _ _ _ _ (@pg_name _ _ 8 _ nd rfl n_L_due_8 (by walk_at "zz")) pgs_nil (by walk_at "zz")) (by walk_at "zz")) (by walk_at "zz")) (by walk_at "zz") (by walk_at "zz")) (@pss_one _ _ _ (@ps_for _ _ _ _ _ _ _ _ PassesOwn.never rfl (@pi_range1 _ _ _ _ _ _ g_L_due_range z_range (@pa_cons _ _ _ _ _ (@pv _ 8 _ _ rfl v_L_due_8 dbg__law_many cls__law_many) pa_nil (by walk_at "zz")) (by walk_at "zz")) (@pg_name _ _ 9 _ nd rfl n_L_due_9 (by walk_at "zz")) (@pss_one _ _ _ (@ps_asg _ _ _ _ _ _ (@pe_ix _ _ _ _ _ _ _ ix_list (@pe_ix _ _ _ _ _ _ _ ix_list (@pv _ 2 _ _ rfl v_L_due_2 dbg__law_behind cls__law_behind) (@pv _ 7 _ _ rfl v_L_due_7 dbg__law_y cls__law_y) (fun _ _ => rfl)) (@pe_op _ _ _ _ _ _ _ _ op_add (@pv _ 6 _ _ rfl v_L_due_6 dbg__law_x cls__law_x) (@pv _ 9 _ _ rfl v_L_due_9 dbg__law_k cls__law_k)) (fun _ _ => rfl)) (@pg_sub _ _ _ _ _ _ _ (@pe_ix _ _ _ _ _ _ _ ix_list (@pv _ 3 _ _ rfl v_L_due_3 dbg__law_due_here cls__law_due_here) (@pv _ 7 _ _ rfl v_L_due_7 dbg__law_y cls__law_y) (fun _ _ => rfl)) (@pe_op _ _ _ _ _ _ _ _ op_add (@pv _ 6 _ _ rfl v_L_due_6 dbg__law_x cls__law_x) (@pv _ 9 _ _ rfl v_L_due_9 dbg__law_k cls__law_k)) set_list (by walk_at "zz")) (by walk_at "zz") (by walk_at "zz") (by walk_at "zz"))) (by walk_at "zz"))) (by walk_at "zz")) (@pss_one _ _ _ (@ps_ret _ _ _ _ (@pv _ 3 _ _ rfl v_L_due_3 dbg__law_due_here cls__law_due_here))))))), fn_run (N := ["_law_plan", "_law_old", "_law_behind", "_law_due_here", "_law_dx", "_law_dy", "_law_x", "_law_y", "_law_many", "_law_k"]) (np := 3) (nl := 7) (b_seq (b_setG (eg_callL (a_cons e_var a_nil))) (b_seq (b_asg (e_op o_ixT e_var e_int) (g_tup (gs_cons g_name (gs_cons g_name gs_nil)) (len_cons (len_cons len_nil)))) (b_seq (b_for (it_list (e_op o_ixT e_var e_int)) (g_tup (gs_cons g_name (gs_cons g_name (gs_cons g_name gs_nil))) (len_cons (len_cons (len_cons len_nil)))) (b_for (it_range1 (a_cons e_var a_nil)) g_name (b_setGG (i := 3) (e_op o_ixL (e_op o_ixL e_var (e_op o_sub e_var e_var)) (e_op o_sub (e_op o_add e_var e_var) e_var)) e_var (e_op o_add e_var e_var)))) (b_seq (b_for (it_list (e_op o_ixT e_var e_int)) (g_tup (gs_cons g_name (gs_cons g_name (gs_cons g_name gs_nil))) (len_cons (len_cons (len_cons len_nil)))) (b_for (it_range1 (a_cons e_var a_nil)) g_name (b_setGG (i := 3) (e_op o_ixL (e_op o_ixL e_var e_var) (e_op o_add e_var e_var)) e_var (e_op o_add e_var e_var)))) (b_retG (i := 3)))))) rfl h⟩
theorem ok_law (F : Fun K "law" "law" s_law f fd) (C_L_big : Cal P w K mg base 3 "_law_big" ["_law_script", "_law_at"] (spD K m_L_big false)) (C_L_digit : Cal P w K mg base 3 "_law_digit" ["_law_rest", "_law_many"] (spD K m_L_digit false)) (C_L_picture_by : Cal P w K mg base 3 "_law_picture_by" ["_law_rest", "_law_w", "_law_h"] (spD K m_L_picture_by true)) (C_L_next_by : Cal P w K mg base 3 "_law_next_by" ["_law_rest", "_law_picture"] (spD K m_L_next_by true)) (C_L_stretches : Cal P w K mg base 3 "_law_stretches" ["_law_rest", "_law_w", "_law_h", "_law_shift", "_law_used", "_law_most"] (spD K m_L_stretches true)) (C_L_copy : Cal P w K mg base 3 "_law_copy" ["_law_picture"] (spG K m_L_copy)) (C_plan_done : Cal P w K mg base 3 "plan_done" ["plan", "old", "behind"] (spD K m_plan_done true)) (C_L_same_picture : Cal P w K mg base 3 "_law_same_picture" ["_law_found", "_law_due_here"] (spD K m_L_same_picture false)) (C_L_due : Cal P w K mg base 3 "_law_due" ["_law_plan", "_law_old", "_law_behind"] (spD K m_L_due true)) (z_list : mg "list" = none) : FnOk P w K mg base CX0 4 f fd ["_law_script"] (spD K m_law false) := by
  have nd := sc_law.nd
  refine F.ok sc_law (fun vs H Q E h => fn_len dFun_len h) (fun cdv A outer s H vs Q E hr h => ?_)
  exact ⟨_, (@pss_cons _ _ _ _ _ (@ps_set _ _ 1 _ _ _ _ nd rfl n_law_1 (@pe_lst _ _ _ _ (@pa_cons _ _ _ _ _ (@pe_callC _ _ _ _ _ _ _ _ _ _ C_L_big hr g_law__law_big (@pa_cons _ _ _ _ _ (@pv _ 0 _ _ rfl v_law_0 dbg__law_script cls__law_script) (@pa_cons _ _ _ _ _ pe_int pa_nil (by walk_at "zz")) (by walk_at "zz")) dbg__law_big (by walk_at "zz") (by walk_at "zz")) pa_nil (by walk_at "zz"))) (by walk_at "zz") (by walk_at "zz")) (@pss_cons _ _ _ _ _ (@ps_set _ _ 2 _ _ _ _ nd rfl n_law_2 (@pe_op _ _ _ _ _ _ _ _ op_add pe_int (@pe_callC _ _ _ _ _ _ _ _ _ _ C_L_digit hr g_law__law_digit (@pa_cons _ _ _ _ _ (@pv _ 1 _ _ rfl v_law_1 dbg__law_rest cls__law_rest) (@pa_cons _ _ _ _ _ pe_int pa_nil (by walk_at "zz")) (by walk_at "zz")) dbg__law_digit (by walk_at "zz") (by walk_at "zz"))) (by walk_at "zz") (by walk_at "zz")) (@pss_cons _ _ _ _ _ (@ps_set _ _ 3 _ _ _ _ nd rfl n_law_3 (@pe_op _ _ _ _ _ _ _ _ op_add pe_int (@pe_callC _ _ _ _ _ _ _ _ _ _ C_L_digit hr g_law__law_digit (@pa_cons _ _ _ _ _ (@pv _ 1 _ _ rfl v_law_1 dbg__law_rest cls__law_rest) (@pa_cons _ _ _ _ _ pe_int pa_nil (by walk_at "zz")) (by walk_at "zz")) dbg__law_digit (by walk_at "zz") (by walk_at "zz"))) (by walk_at "zz") (by walk_at "zz")) (@pss_cons _ _ _ _ _ (@ps_set _ _ 4 _ _ _ _ nd rfl n_law_4 (@pe_callC _ _ _ _ _ _ _ _ _ _ C_L_picture_by hr g_law__law_picture_by (@pa_cons _ _ _ _ _ (@pv _ 1 _ _ rfl v_law_1 dbg__law_rest cls__law_rest) (@pa_cons _ _ _ _ _ (@pv _ 2 _ _ rfl v_law_2 dbg__law_w cls__law_w) (@pa_cons _ _ _ _ _ (@pv _ 3 _ _ rfl v_law_3 dbg__law_h cls__law_h) pa_nil (by walk_at "zz")) (by walk_at "zz")) (by walk_at "zz")) dbg__law_picture_by (by walk_at "zz") (by walk_at "zz")) (by walk_at "zz") (by walk_at "zz")) (@pss_cons _ _ _ _ _ (@ps_set _ _ 5 _ _ _ _ nd rfl n_law_5 (@pe_callC _ _ _ _ _ _ _ _ _ _ C_L_next_by hr g_law__law_next_by (@pa_cons _ _ _ _ _ (@pv _ 1 _ _ rfl v_law_1 dbg__law_rest cls__law_rest) (@pa_cons _ _ _ _ _ (@pv _ 4 _ _ rfl v_law_4 dbg__law_old cls__law_old) pa_nil (by walk_at "zz")) (by walk_at "zz")) dbg__law_next_by (by walk_at "zz") (by walk_at "zz")) (by walk_at "zz") (by walk_at "zz")) (@pss_cons _ _ _ _ _ (@ps_set _ _ 6 _ _ _ _ nd rfl n_law_6 (@pe_tup _ _ _ _ _ (@pa_cons _ _ _ _ _ (@pe_op _ _ _ _ _ _ _ _ op_sub (@pe_callC _ _ _ _ _ _ _ _ _ _ C_L_digit hr g_law__law_digit (@pa_cons _ _ _ _ _ (@pv _ 1 _ _ rfl v_law_1 dbg__law_rest cls__law_rest) (@pa_cons _ _ _ _ _ pe_int pa_nil (by walk_at "zz")) (by walk_at "zz")) dbg__law_digit (by walk_at "zz") (by walk_at "zz")) pe_int) (@pa_cons _ _ _ _ _ (@pe_op _ _ _ _ _ _ _ _ op_sub (@pe_callC _ _ _ _ _ _ _ _ _ _ C_L_digit hr g_law__law_digit (@pa_cons _ _ _ _ _ (@pv _ 1 _ _ rfl v_law_1 dbg__law_rest cls__law_rest) (@pa_cons _ _ _ _ _ pe_int pa_nil (by walk_at "zz")) (by walk_at "zz")) dbg__law_digit (by walk_at "zz") (by walk_at "zz")) pe_int) pa_nil (by walk_at "zz")) (by walk_at "zz"))) (by walk_at "zz") (by walk_at "zz")) (@pss_cons _ _ _ _ _ (@ps_set _ _ 7 _ _ _ _ nd rfl n_law_7 pe_newD (by walk_at "zz") (by walk_at "zz")) (@pss_cons _ _ _ _ _ (@ps_set _ _ 8 _ _ _ _ nd rfl n_law_8 (@pe_callC _ _ _ _ _ _ _ _ _ _ C_L_stretches hr g_law__law_stretches (@pa_cons _ _ _ _ _ (@pv _ 1 _ _ rfl v_law_1 dbg__law_rest cls__law_rest) (@pa_cons _ _ _ _ _ (@pv _ 2 _ _ rfl v_law_2 dbg__law_w cls__law_w) (@pa_cons _ _ _ _ _ (@pv _ 3 _ _ rfl v_law_3 dbg__law_h cls__law_h) (@pa_cons _ _ _ _ _ (@pv _ 6 _ _ rfl v_law_6 dbg__law_shift cls__law_shift) (@pa_cons _ _ _ _ _ (@pv _ 7 _ _ rfl v_law_7 dbg__law_used cls__law_used) (@pa_cons _ _ _ _ _ pe_int pa_nil (by walk_at "zz")) (by walk_at "zz")) (by walk_at "zz")) (by walk_at "zz")) (by walk_at "zz")) (by walk_at "zz")) dbg__law_stretches (by walk_at "zz") (by walk_at "zz")) (by walk_at "zz") (by walk_at "zz")) (@pss_cons _ _ _ _ _ (@ps_set _ _ 9 _ _ _ _ nd rfl n_law_9 (@pe_tup _ _ _ _ _ (@pa_cons _ _ _ _ _ (@pv _ 6 _ _ rfl v_law_6 dbg__law_shift cls__law_shift) (@pa_cons _ _ _ _ _ (@pv _ 8 _ _ rfl v_law_8 dbg__law_copies cls__law_copies) (@pa_cons _ _ _ _ _ (@pe_callC _ _ _ _ _ _ _ _ _ _ C_L_stretches hr g_law__law_stretches (@pa_cons _ _ _ _ _ (@pv _ 1 _ _ rfl v_law_1 dbg__law_rest cls__law_rest) (@pa_cons _ _ _ _ _ (@pv _ 2 _ _ rfl v_law_2 dbg__law_w cls__law_w) (@pa_cons _ _ _ _ _ (@pv _ 3 _ _ rfl v_law_3 dbg__law_h cls__law_h) (@pa_cons _ _ _ _ _ (@pe_tup _ _ _ _ _ (@pa_cons _ _ _ _ _ pe_int (@pa_cons _ _ _ _ _ pe_int pa_nil (by walk_at "zz")) (by walk_at "zz"))) (@pa_cons _ _ _ _ _ (@pv _ 7 _ _ rfl v_law_7 dbg__law_used cls__law_used) (@pa_cons _ _ _ _ _ pe_int pa_nil (by walk_at "zz")) (by walk_at "zz")) (by walk_at "zz")) (by walk_at "zz")) (by walk_at "zz")) (by walk_at "zz")) dbg__law_stretches (by walk_at "zz") (by walk_at "zz")) pa_nil (by walk_at "zz")) (by walk_at "zz")) (by walk_at "zz"))) (by walk_at "zz") (by walk_at "zz")) (@pss_cons _ _ _ _ _ (@ps_set _ _ 10 _ _ _ _ nd rfl n_law_10 (@pe_tup _ _ _ _ _ (@pa_cons _ _ _ _ _ (@pv _ 6 _ _ rfl v_law_6 dbg__law_shift cls__law_shift) (@pa_cons _ _ _ _ _ (@pe_callTy _ _ _ _ _ _ _ _ _ call_list_of g_law_list z_list PySem.Pv.boot_list (@pa_cons _ _ _ _ _ (@pe_ix _ _ _ _ _ _ _ ix_tup (@pv _ 9 _ _ rfl v_law_9 dbg__law_plan cls__law_plan) pe_int (fun _ _ => rfl)) pa_nil (by walk_at "zz")) nam_list dbg_list (by walk_at "zz") (by walk_at "zz")) (@pa_cons _ _ _ _ _ (@pe_callTy _ _ _ _ _ _ _ _ _ call_list_of g_law_list z_list PySem.Pv.boot_list (@pa_cons _ _ _ _ _ (@pe_ix _ _ _ _ _ _ _ ix_tup (@pv _ 9 _ _ rfl v_law_9 dbg__law_plan cls__law_plan) pe_int (fun _ _ => rfl)) pa_nil (by walk_at "zz")) nam_list dbg_list (by walk_at "zz") (by walk_at "zz")) pa_nil (by walk_at "zz")) (by walk_at "zz")) (by walk_at "zz"))) (by walk_at "zz") (by walk_at "zz")) (@pss_cons _ _ _ _ _ (@ps_set _ _ 11 _ _ _ _ nd rfl n_law_11 (@pe_lst _ _ _ _ (@pa_cons _ _ _ _ _ (@pe_callC _ _ _ _ _ _ _ _ _ _ C_L_copy hr g_law__law_copy (@pa_cons _ _ _ _ _ (@pv _ 4 _ _ rfl v_law_4 dbg__law_old cls__law_old) pa_nil (by walk_at "zz")) dbg__law_copy (by walk_at "zz") (by walk_at "zz")) (@pa_cons _ _ _ _ _ (@pe_callC _ _ _ _ _ _ _ _ _ _ C_L_copy hr g_law__law_copy (@pa_cons _ _ _ _ _ (@pv _ 5 _ _ rfl v_law_5 dbg__law_behind cls__law_behind) pa_nil (by walk_at "zz")) dbg__law_copy (by walk_at "zz") (by walk_at "zz")) pa_nil (by walk_at "zz")) (by walk_at "zz"))) (by walk_at "zz") (by walk_at "zz")) (@pss_cons _ _ _ _ _ (@ps_set _ _ 12 _ _ _ _ nd rfl n_law_12 (@pe_callC _ _ _ _ _ _ _ _ _ _ C_plan_done hr g_law_plan_done (@pa_cons _ _ _ _ _ (@pv _ 9 _ _ rfl v_law_9 dbg__law_plan cls__law_plan) (@pa_cons _ _ _ _ _ (@pe_ix _ _ _ _ _ _ _ ix_list (@pv _ 11 _ _ rfl v_law_11 dbg__law_handed cls__law_handed) pe_int (fun _ _ => rfl)) (@pa_cons _ _ _ _ _ (@pe_ix _ _ _ _ _ _ _ ix_list (@pv _ 11 _ _ rfl v_law_11 dbg__law_handed cls__law_handed) pe_int (fun _ _ => rfl)) pa_nil (by walk_at "zz")) (by walk_at "zz")) (by walk_at "zz")) dbg_plan_done (by walk_at "zz") (by walk_at "zz")) (by walk_at "zz") (by walk_at "zz")) (@pss_cons _ _ _ _ _ (@ps_if _ _ _ _ _ _ _ _ (@PW.pt _ _ _ (@pw_or _ _ _ _ _ _ _ (@pt_cmpR _ _ _ _ _ _ _ _ (@op_neK _ (hu64 hr)) (@pv _ 9 _ _ rfl v_law_9 dbg__law_plan cls__law_plan) (@pv _ 10 _ _ rfl v_law_10 dbg__law_kept cls__law_kept) (nomark _)) (@pw_or1 _ _ _ _ (@pt_cmpR _ _ _ _ _ _ _ _ (@op_neK _ (hu64 hr)) (@pv _ 11 _ _ rfl v_law_11 dbg__law_handed cls__law_handed) (@pe_lst _ _ _ _ (@pa_cons _ _ _ _ _ (@pv _ 4 _ _ rfl v_law_4 dbg__law_old cls__law_old) (@pa_cons _ _ _ _ _ (@pv _ 5 _ _ rfl v_law_5 dbg__law_behind cls__law_behind) pa_nil (by walk_at "zz")) (by walk_at "zz"))) (nomark _))))) (@pss_one _ _ _ (@ps_ret _ _ _ _ pe_bl)) pss_nil) (@pss_one _ _ _ (@ps_ret _ _ _ _ (@pe_callC _ _ _ _ _ _ _ _ _ _ C_L_same_picture hr g_law__law_same_picture (@pa_cons _ _ _ _ _ (@pv _ 12 _ _ rfl v_law_12 dbg__law_told cls__law_told) (@pa_cons _ _ _ _ _ (@pe_callC _ _ _ _ _ _ _ _ _ _ C_L_due hr g_law__law_due (@pa_cons _ _ _ _ _ (@pv _ 9 _ _ rfl v_law_9 dbg__law_plan cls__law_plan) (@pa_cons _ _ _ _ _ (@pv _ 4 _ _ rfl v_law_4 dbg__law_old cls__law_old) (@pa_cons _ _ _ _ _ (@pv _ 5 _ _ rfl v_law_5 dbg__law_behind cls__law_behind) pa_nil (by walk_at "zz")) (by walk_at "zz")) (by walk_at "zz")) dbg__law_due (by walk_at "zz") (by walk_at "zz")) pa_nil (by walk_at "zz")) (by walk_at "zz")) dbg__law_same_picture (by walk_at "zz") (by walk_at "zz"))))))))))))))))), fn_run (N := ["_law_script", "_law_rest", "_law_w", "_law_h", "_law_old", "_law_behind", "_law_shift", "_law_used", "_law_copies", "_law_plan", "_law_kept", "_law_handed", "_law_told"]) (np := 1) (nl := 12) (b_seq (b_setM (e_lst (a_cons (e_callC (i := 0) (a_cons e_int a_nil)) a_nil))) (b_seq (b_asg (e_op o_add e_int (e_callM (i := 1) (a_cons e_int a_nil))) g_name) (b_seq (b_asg (e_op o_add e_int (e_callM (i := 1) (a_cons e_int a_nil))) g_name) (b_seq (b_asg (e_callM (i := 1) (a_cons e_var (a_cons e_var a_nil))) g_name) (b_seq (b_asg (e_callM (i := 1) (a_cons e_var a_nil)) g_name) (b_seq (b_asg (e_tup (a_cons (e_op o_sub (e_callM (i := 1) (a_cons e_int a_nil)) e_int) (a_cons (e_op o_sub (e_callM (i := 1) (a_cons e_int a_nil)) e_int) a_nil))) g_name) (b_seq b_newK (b_seq (b_asg (e_callP2 (k1 := 0) (i1 := 1) (k2 := 4) (i2 := 7) (a_s (i := 1) (a_cons e_var (a_cons e_var (a_cons e_var (a_s (i := 7) (a_cons e_int a_nil))))))) g_name) (b_seq (b_asg (e_tup (a_cons e_var (a_cons e_var (a_cons (e_callP2 (k1 := 0) (i1 := 1) (k2 := 4) (i2 := 7) (a_s (i := 1) (a_cons e_var (a_cons e_var (a_cons (e_tup (a_cons e_int (a_cons e_int a_nil))) (a_s (i := 7) (a_cons e_int a_nil))))))) a_nil)))) g_name) (b_seq (b_asg (e_tup (a_cons e_var (a_cons (e_app c_list (a_cons (e_op o_ixT e_var e_int) a_nil)) (a_cons (e_app c_list (a_cons (e_op o_ixT e_var e_int) a_nil)) a_nil)))) g_name) (b_seq (b_asg (e_lst (a_cons (EG.e (eg_callL (a_cons e_var a_nil))) (a_cons (EG.e (eg_callL (a_cons e_var a_nil))) a_nil))) g_name) (b_seq (b_asg (e_call (a_cons e_var (a_cons (e_op o_ixL e_var e_int) (a_cons (e_op o_ixL e_var e_int) a_nil)))) g_name) (b_seq (b_if (t_or (t_test (e_op o_ne e_var e_var)) (t_test (e_op o_ne e_var (e_lst (a_cons e_var (a_cons e_var a_nil)))))) (b_ret e_bl (by decide)) b_nil) (b_ret (e_call (a_cons e_var (a_cons (e_call (a_cons e_var (a_cons e_var (a_cons e_var a_nil)))) a_nil))) (by decide))))))))))))))) rfl h⟩
end
theorem modI {i j : Int} (h : 0 < j) : fMod (.int i) (.int j) = some (.int (i % j)) := if_pos h
theorem divI {i j : Int} (h : 0 < j) (h1 : j < 10 ^ 70) : fDiv (.int i) (.int j) = some (.int (i / j)) := if_pos ⟨h, bd_small h h1⟩
theorem mulI {i j : Int} (h : CMulB i j) : fMul (.int i) (.int j) = some (.int (i * j)) := if_pos h
theorem pow18 : fPow (.int 10) (.int 18) = some (.int 1000000000000000000) := rfl
theorem L_digit {v m : Int} (h0 : 0 < m) (h1 : m < 10 ^ 70) : m_L_digit [.m [.int v], .d (.int m)] = some (.int (v % m), [.m [.int (v / m)], .d (.int m)]) := by
  simp only [m_L_digit, modI h0, divI h0 h1, dFun, dSeq, dAsg, dN, dNew, dSetM, dRet, dRetM, dRetN, dExpr, dMt, gAppend, gExtend, gClear, dSetI, dNil, dIfS, dBrk, dCnt, dNever, dFor, dPar, dVar, dC, dOp, dUn, fI, fAdd, fSub, fLt, fLe, fGt, fGe, fNeg, isNo, fIsN, fNotN, fIxL, fIxT, dTest, dTAnd, dTOr, dTNot, dIf, dAnd, dOr, dNot, dChain, dANil, dACons, allD, dTup, dLst, dApp, dCall, dCallM, dCallC, dCallP, dAS, mkL, nMb, isM, isC, dBor, dBorF, dTBor, dYes, dIL, dIT, dR1, dR2, dGNil, dGCons, dGT, fin_nil, fin_d, fin_c, fin_m, fLen, f1, f2, fAbs, fMax2, fMin2, fInt1, fListOf, dRev, dIsi, dIxC, dLenC, atI, ixN, okM_none, okM_d, okM_c, okM_m, fixD, fixDs, sz', Option.bind_some, Option.bind_none, Option.map_some, Option.map_none, List.map_cons, List.map_nil, List.cons_append, List.nil_append, List.length_cons, List.length_nil, List.getElem?_cons_zero, List.getElem?_cons_succ, List.set_cons_zero, List.set_cons_succ, List.replicate_succ, List.replicate_zero, List.all_cons, List.all_nil, Bool.and_self, Bool.and_true, Bool.true_and, Bool.false_and, Bool.and_false, Bool.or_true, Bool.true_or, Bool.false_or, Bool.or_false, Bool.not_true, Bool.not_false, if_true, if_false, reduceIte, Bool.false_eq_true, Nat.reduceAdd, Nat.reduceLT, Nat.reduceSub, Nat.reduceMul, Int.reduceEq, Int.reduceSub, Int.reduceMul, Int.reducePow, Int.reduceDiv, Int.reduceMod, Nat.reduceLeDiff, Nat.reduceEqDiff, and_self, and_true, true_and, Int.natCast_add, Int.reduceAdd, Int.reduceLT, Int.reduceLE, Int.reduceToNat, Int.reduceNeg, Int.toNat_zero, Int.toNat_one, Int.zero_lt_one, Int.le_refl, Int.reduceNegSucc, Int.cast_ofNat_Int, Nat.zero_add, Nat.add_zero]
theorem L_dig {v m : Int} (h0 : 0 < m) (h1 : m < 1000000000) : m_L_digit [.m [.int v], .d (.int m)] = some (.int (v % m), [.m [.int (v / m)], .d (.int m)]) := L_digit h0 (by omega)
theorem L_cell_at {ns : List Int} {k : Int} (h0 : 0 ≤ k) : ∃ v : Int, m_L_cell_at [.c (ns.map .int), .d (.int k)] = some (.int v, [.c (ns.map .int), .d (.int k)]) := by
  by_cases h : k < (ns.length : Int)
  · have hk : k.toNat < ns.length := by omega
    have e : (ns.map PyData.int)[k.toNat]? = some (.int ns[k.toNat]) := by simp [hk]
    exact ⟨ns[k.toNat], by simp only [m_L_cell_at, List.length_map, h0, h, decide_true, e, dFun, dSeq, dAsg, dN, dNew, dSetM, dRet, dRetM, dRetN, dExpr, dMt, gAppend, gExtend, gClear, dSetI, dNil, dIfS, dBrk, dCnt, dNever, dFor, dPar, dVar, dC, dOp, dUn, fI, fAdd, fSub, fLt, fLe, fGt, fGe, fNeg, isNo, fIsN, fNotN, fIxL, fIxT, dTest, dTAnd, dTOr, dTNot, dIf, dAnd, dOr, dNot, dChain, dANil, dACons, allD, dTup, dLst, dApp, dCall, dCallM, dCallC, dCallP, dAS, mkL, nMb, isM, isC, dBor, dBorF, dTBor, dYes, dIL, dIT, dR1, dR2, dGNil, dGCons, dGT, fin_nil, fin_d, fin_c, fin_m, fLen, f1, f2, fAbs, fMax2, fMin2, fInt1, fListOf, dRev, dIsi, dIxC, dLenC, atI, ixN, okM_none, okM_d, okM_c, okM_m, fixD, fixDs, sz', Option.bind_some, Option.bind_none, Option.map_some, Option.map_none, List.map_cons, List.map_nil, List.cons_append, List.nil_append, List.length_cons, List.length_nil, List.getElem?_cons_zero, List.getElem?_cons_succ, List.set_cons_zero, List.set_cons_succ, List.replicate_succ, List.replicate_zero, List.all_cons, List.all_nil, Bool.and_self, Bool.and_true, Bool.true_and, Bool.false_and, Bool.and_false, Bool.or_true, Bool.true_or, Bool.false_or, Bool.or_false, Bool.not_true, Bool.not_false, if_true, if_false, reduceIte, Bool.false_eq_true, Nat.reduceAdd, Nat.reduceLT, Nat.reduceSub, Nat.reduceMul, Int.reduceEq, Int.reduceSub, Int.reduceMul, Int.reducePow, Int.reduceDiv, Int.reduceMod, Nat.reduceLeDiff, Nat.reduceEqDiff, and_self, and_true, true_and, Int.natCast_add, Int.reduceAdd, Int.reduceLT, Int.reduceLE, Int.reduceToNat, Int.reduceNeg, Int.toNat_zero, Int.toNat_one, Int.zero_lt_one, Int.le_refl, Int.reduceNegSucc, Int.cast_ofNat_Int, Nat.zero_add, Nat.add_zero]⟩
  · exact ⟨0, by simp only [m_L_cell_at, List.length_map, h0, h, decide_false, dFun, dSeq, dAsg, dN, dNew, dSetM, dRet, dRetM, dRetN, dExpr, dMt, gAppend, gExtend, gClear, dSetI, dNil, dIfS, dBrk, dCnt, dNever, dFor, dPar, dVar, dC, dOp, dUn, fI, fAdd, fSub, fLt, fLe, fGt, fGe, fNeg, isNo, fIsN, fNotN, fIxL, fIxT, dTest, dTAnd, dTOr, dTNot, dIf, dAnd, dOr, dNot, dChain, dANil, dACons, allD, dTup, dLst, dApp, dCall, dCallM, dCallC, dCallP, dAS, mkL, nMb, isM, isC, dBor, dBorF, dTBor, dYes, dIL, dIT, dR1, dR2, dGNil, dGCons, dGT, fin_nil, fin_d, fin_c, fin_m, fLen, f1, f2, fAbs, fMax2, fMin2, fInt1, fListOf, dRev, dIsi, dIxC, dLenC, atI, ixN, okM_none, okM_d, okM_c, okM_m, fixD, fixDs, sz', Option.bind_some, Option.bind_none, Option.map_some, Option.map_none, List.map_cons, List.map_nil, List.cons_append, List.nil_append, List.length_cons, List.length_nil, List.getElem?_cons_zero, List.getElem?_cons_succ, List.set_cons_zero, List.set_cons_succ, List.replicate_succ, List.replicate_zero, List.all_cons, List.all_nil, Bool.and_self, Bool.and_true, Bool.true_and, Bool.false_and, Bool.and_false, Bool.or_true, Bool.true_or, Bool.false_or, Bool.or_false, Bool.not_true, Bool.not_false, if_true, if_false, reduceIte, Bool.false_eq_true, Nat.reduceAdd, Nat.reduceLT, Nat.reduceSub, Nat.reduceMul, Int.reduceEq, Int.reduceSub, Int.reduceMul, Int.reducePow, Int.reduceDiv, Int.reduceMod, Nat.reduceLeDiff, Nat.reduceEqDiff, and_self, and_true, true_and, Int.natCast_add, Int.reduceAdd, Int.reduceLT, Int.reduceLE, Int.reduceToNat, Int.reduceNeg, Int.toNat_zero, Int.toNat_one, Int.zero_lt_one, Int.le_refl, Int.reduceNegSucc, Int.cast_ofNat_Int, Nat.zero_add, Nat.add_zero]⟩
theorem tabT {xs : List Int} {k : Int} (h0 : 0 ≤ k) (h : k < (xs.length : Int)) : ∃ v : Int, atI (xs.map PyData.int) k = some (.int v) ∧ v ∈ xs := by
  have hk : k.toNat < xs.length := by omega
  refine ⟨xs[k.toNat], ?_, List.getElem_mem hk⟩
  unfold atI ixN
  rw [List.length_map, if_pos h0, if_pos h]
  simp [hk]
def by8 : PyData := .tuple ([48271, 69621, 16807, 39373, 21401, 60493, 87721, 31337].map .int)
def pr8 : PyData := .tuple ([99991, 99989, 99971, 99961, 99929, 99923, 99907, 99901].map .int)
theorem L_big {ns : List Int} {k : Int} (h0 : 0 ≤ k) : ∃ (v : Int) (ls : List L), m_L_big [.c (ns.map .int), .d (.int k)] = some (.int v, ls) := by
  obtain ⟨cell, hc⟩ := L_cell_at (ns := ns) h0
  by_cases hb : (1000000000000000000 : Int) ≤ cell
  · exact ⟨cell, _, by simp only [m_L_big, hc, pow18, hb, decide_true, dFun, dSeq, dAsg, dN, dNew, dSetM, dRet, dRetM, dRetN, dExpr, dMt, gAppend, gExtend, gClear, dSetI, dNil, dIfS, dBrk, dCnt, dNever, dFor, dPar, dVar, dC, dOp, dUn, fI, fAdd, fSub, fLt, fLe, fGt, fGe, fNeg, isNo, fIsN, fNotN, fIxL, fIxT, dTest, dTAnd, dTOr, dTNot, dIf, dAnd, dOr, dNot, dChain, dANil, dACons, allD, dTup, dLst, dApp, dCall, dCallM, dCallC, dCallP, dAS, mkL, nMb, isM, isC, dBor, dBorF, dTBor, dYes, dIL, dIT, dR1, dR2, dGNil, dGCons, dGT, fin_nil, fin_d, fin_c, fin_m, fLen, f1, f2, fAbs, fMax2, fMin2, fInt1, fListOf, dRev, dIsi, dIxC, dLenC, atI, ixN, okM_none, okM_d, okM_c, okM_m, fixD, fixDs, sz', Option.bind_some, Option.bind_none, Option.map_some, Option.map_none, List.map_cons, List.map_nil, List.cons_append, List.nil_append, List.length_cons, List.length_nil, List.getElem?_cons_zero, List.getElem?_cons_succ, List.set_cons_zero, List.set_cons_succ, List.replicate_succ, List.replicate_zero, List.all_cons, List.all_nil, Bool.and_self, Bool.and_true, Bool.true_and, Bool.false_and, Bool.and_false, Bool.or_true, Bool.true_or, Bool.false_or, Bool.or_false, Bool.not_true, Bool.not_false, if_true, if_false, reduceIte, Bool.false_eq_true, Nat.reduceAdd, Nat.reduceLT, Nat.reduceSub, Nat.reduceMul, Int.reduceEq, Int.reduceSub, Int.reduceMul, Int.reducePow, Int.reduceDiv, Int.reduceMod, Nat.reduceLeDiff, Nat.reduceEqDiff, and_self, and_true, true_and, Int.natCast_add, Int.reduceAdd, Int.reduceLT, Int.reduceLE, Int.reduceToNat, Int.reduceNeg, Int.toNat_zero, Int.toNat_one, Int.zero_lt_one, Int.le_refl, Int.reduceNegSucc, Int.cast_ofNat_Int, Nat.zero_add, Nat.add_zero]; rfl⟩
  · have lp : ∃ τ', dLoop (dN 6) (dSeq (dAsg (dOp fAdd (dOp fAdd (dOp fMod (dCallC 0 m_L_cell_at (dACons (dOp fAdd (dVar 1) (dOp fMod (dVar 6) (dC (.int 9)))) dANil)) (dOp fPow (dC (.int 10)) (dC (.int 18)))) (dC (.int 1))) (dOp fMul (dVar 6) (dVar 6))) (dN 7)) (dAsg (dOp fAdd (dOp fMul (dVar 5) (dC (.int 7919))) (dOp fMod (dOp fMod (dOp fMul (dVar 7) (dOp fIxT (dVar 2) (dOp fMod (dVar 6) (dC (.int 8))))) (dOp fIxT (dVar 3) (dOp fMod (dVar 6) (dC (.int 8))))) (dC (.int 7919)))) (dN 5)))
        ((rng 0 60).map PyData.int) [some (.c (ns.map .int)), some (.d (.int k)), some (.d by8), some (.d pr8), some (.d (.int cell)), some (.d (.int 0)), none, none] = some (.nx τ') ∧
        ∃ (b : Int) (o1 o2 : Option L), nM o1 ∧ nM o2 ∧ τ' = [some (.c (ns.map .int)), some (.d (.int k)), some (.d by8), some (.d pr8), some (.d (.int cell)), some (.d (.int b)), o1, o2] := by
      refine loop_list (enc := PyData.int) (pre := []) (fun _ τ => ∃ (b : Int) (o1 o2 : Option L), nM o1 ∧ nM o2 ∧ τ = [some (.c (ns.map .int)), some (.d (.int k)), some (.d by8), some (.d pr8), some (.d (.int cell)), some (.d (.int b)), o1, o2]) ⟨0, none, none, nM_none, nM_none, rfl⟩ ?_
      rintro j _ τ hj ⟨b, o1, o2, n1, n2, rfl⟩
      have hj' := (mem_rng (n := 60)).mp hj
      have h9 : 0 ≤ j % 9 := Int.emod_nonneg _ (by decide)
      obtain ⟨c, hc⟩ := L_cell_at (ns := ns) (k := k + j % 9) (by omega)
      obtain ⟨u1, hu1, m1⟩ := tabT (xs := [48271, 69621, 16807, 39373, 21401, 60493, 87721, 31337]) (k := j % 8) (Int.emod_nonneg _ (by decide)) (Int.emod_lt_of_pos _ (by decide))
      obtain ⟨u2, hu2, m2⟩ := tabT (xs := [99991, 99989, 99971, 99961, 99929, 99923, 99907, 99901]) (k := j % 8) (Int.emod_nonneg _ (by decide)) (Int.emod_lt_of_pos _ (by decide))
      have hu1' : fIxT by8 (.int (j % 8)) = some (.int u1) := hu1
      have hu2' : fIxT pr8 (.int (j % 8)) = some (.int u2) := hu2
      have m1' : -(2 ^ 64) < u1 ∧ u1 < 2 ^ 64 := by
        simp only [List.mem_cons, List.not_mem_nil, or_false] at m1
        omega
      have m2' : 0 < u2 := by
        simp only [List.mem_cons, List.not_mem_nil, or_false] at m2
        omega
      have x1 : fMul (.int j) (.int j) = some (.int (j * j)) := mulI (.inl (.inl ⟨by omega, by omega⟩))
      have x2 : fMul (.int b) (.int 7919) = some (.int (b * 7919)) := mulI (.inl (.inr ⟨by decide, by decide⟩))
      have x3 : ∀ z : Int, fMul (.int z) (.int u1) = some (.int (z * u1)) := fun z => mulI (.inl (.inr m1'))
      have x4 : ∀ z : Int, fMod (.int z) (.int u2) = some (.int (z % u2)) := fun z => modI m2'
      have x5 : ∀ z : Int, fMod (.int z) (.int 7919) = some (.int (z % 7919)) := fun z => modI (by decide)
      have x6 : ∀ z : Int, fMod (.int z) (.int 9) = some (.int (z % 9)) := fun z => modI (by decide)
      have x7 : ∀ z : Int, fMod (.int z) (.int 8) = some (.int (z % 8)) := fun z => modI (by decide)
      have x8 : ∀ z : Int, fMod (.int z) (.int 1000000000000000000) = some (.int (z % 1000000000000000000)) := fun z => modI (by decide)
      refine ⟨_, [some (.c (ns.map .int)), some (.d (.int k)), some (.d by8), some (.d pr8), some (.d (.int cell)), some (.d (.int (b * 7919 + (c % 1000000000000000000 + 1 + j * j) * u1 % u2 % 7919))), some (.d (.int j)), some (.d (.int (c % 1000000000000000000 + 1 + j * j)))], dN_eq rfl n1, ?_, _, _, _, nM_d, nM_d, rfl⟩
      refine (seq_nx (τ1 := [some (.c (ns.map .int)), some (.d (.int k)), some (.d by8), some (.d pr8), some (.d (.int cell)), some (.d (.int b)), some (.d (.int j)), some (.d (.int (c % 1000000000000000000 + 1 + j * j)))]) (asg_nx (d := .int (c % 1000000000000000000 + 1 + j * j)) (τ1 := [some (.c (ns.map .int)), some (.d (.int k)), some (.d by8), some (.d pr8), some (.d (.int cell)), some (.d (.int b)), some (.d (.int j)), o2]) ?_ (dN_eq rfl n2))).trans ?_
      · simp only [dOp, dVar, dC, dCallC, dACons, dANil, allD, fAdd, fI, pow18, hc, x1, x6, x8, List.getElem?_cons_zero, List.getElem?_cons_succ, List.set_cons_zero, List.set_cons_succ, Option.bind_some, Option.map_some, List.map_cons, List.map_nil]
      · simp only [dAsg, dN, dOp, dVar, dC, fAdd, fI, hu1', hu2', x2, x3, x4, x5, x7, List.getElem?_cons_zero, List.getElem?_cons_succ, List.set_cons_zero, List.set_cons_succ, Option.bind_some, Option.map_some]
    obtain ⟨τ', e, b, o1, o2, n1, n2, rfl⟩ := lp
    refine ⟨b, [.c (ns.map .int), .d (.int k)], ?_⟩
    have hr : dR1 (dACons (dC (.int 60)) dANil) [some (.c (ns.map .int)), some (.d (.int k)), some (.d by8), some (.d pr8), some (.d (.int cell)), some (.d (.int 0)), none, none] = some ((rng 0 60).map PyData.int, [some (.c (ns.map .int)), some (.d (.int k)), some (.d by8), some (.d pr8), some (.d (.int cell)), some (.d (.int 0)), none, none]) := by
      rw [← rangeD_eq]; rfl
    refine fun_rt (τ := [some (.c (ns.map .int)), some (.d (.int k)), some (.d by8), some (.d pr8), some (.d (.int cell)), some (.d (.int b)), o1, o2]) ?_ rfl rfl
    refine (seq_nx rfl).trans ((seq_nx rfl).trans ((seq_nx (τ1 := [some (.c (ns.map .int)), some (.d (.int k)), some (.d by8), some (.d pr8), some (.d (.int cell)), none, none, none]) (asg_nx (callC_eq (xs := ns.map .int) rfl rfl rfl hc) rfl)).trans ?_))
    refine (seq_nx (τ1 := [some (.c (ns.map .int)), some (.d (.int k)), some (.d by8), some (.d pr8), some (.d (.int cell)), none, none, none]) ?_).trans ((seq_nx (τ1 := [some (.c (ns.map .int)), some (.d (.int k)), some (.d by8), some (.d pr8), some (.d (.int cell)), some (.d (.int 0)), none, none]) rfl).trans ((seq_nx ((for_eq hr).trans e)).trans rfl))
    simp only [pow18, hb, decide_false, dFun, dSeq, dAsg, dN, dNew, dSetM, dRet, dRetM, dRetN, dExpr, dMt, gAppend, gExtend, gClear, dSetI, dNil, dIfS, dBrk, dCnt, dNever, dFor, dPar, dVar, dC, dOp, dUn, fI, fAdd, fSub, fLt, fLe, fGt, fGe, fNeg, isNo, fIsN, fNotN, fIxL, fIxT, dTest, dTAnd, dTOr, dTNot, dIf, dAnd, dOr, dNot, dChain, dANil, dACons, allD, dTup, dLst, dApp, dCall, dCallM, dCallC, dCallP, dAS, mkL, nMb, isM, isC, dBor, dBorF, dTBor, dYes, dIL, dIT, dR1, dR2, dGNil, dGCons, dGT, fin_nil, fin_d, fin_c, fin_m, fLen, f1, f2, fAbs, fMax2, fMin2, fInt1, fListOf, dRev, dIsi, dIxC, dLenC, atI, ixN, okM_none, okM_d, okM_c, okM_m, fixD, fixDs, sz', Option.bind_some, Option.bind_none, Option.map_some, Option.map_none, List.map_cons, List.map_nil, List.cons_append, List.nil_append, List.length_cons, List.length_nil, List.getElem?_cons_zero, List.getElem?_cons_succ, List.set_cons_zero, List.set_cons_succ, List.replicate_succ, List.replicate_zero, List.all_cons, List.all_nil, Bool.and_self, Bool.and_true, Bool.true_and, Bool.false_and, Bool.and_false, Bool.or_true, Bool.true_or, Bool.false_or, Bool.or_false, Bool.not_true, Bool.not_false, if_true, if_false, reduceIte, Bool.false_eq_true, Nat.reduceAdd, Nat.reduceLT, Nat.reduceSub, Nat.reduceMul, Int.reduceEq, Int.reduceSub, Int.reduceMul, Int.reducePow, Int.reduceDiv, Int.reduceMod, Nat.reduceLeDiff, Nat.reduceEqDiff, and_self, and_true, true_and, Int.natCast_add, Int.reduceAdd, Int.reduceLT, Int.reduceLE, Int.reduceToNat, Int.reduceNeg, Int.toNat_zero, Int.toNat_one, Int.zero_lt_one, Int.le_refl, Int.reduceNegSucc, Int.cast_ofNat_Int, Nat.zero_add, Nat.add_zero]
def okB (b : Bx) : Prop := 1 ≤ b.w ∧ b.w ≤ 12 ∧ 1 ≤ b.h ∧ b.h ≤ 12
theorem extn {i : Nat} {a : DA} {τ τ1 : DS} {rs : List Ar} {xs ys : List PyData} (h : a τ = some (rs, τ1)) (k : allD rs = some [.list ys]) (m : τ1[i]? = some (some (.m xs))) (hz : xs.length + ys.length ≤ 900) : dExpr (dMt i gExtend a) τ = some (.nx (τ1.set i (some (.m (xs ++ ys))))) := by
  have hs : xs.length + ys.length ≤ sizeLine := sz (Nat.le_trans hz (by decide))
  unfold dExpr dMt
  rw [h]
  show (((allD rs).bind _)).map _ = _
  rw [k]
  show ((match τ1[i]? with | some (some (.m xs)) => _ | _ => _) : Option (PyData × DS)).map _ = _
  rw [m]
  show ((if xs.length + ys.length ≤ sizeLine then some (PyData.none, xs ++ ys) else none).map _).map _ = _
  rw [if_pos hs]
  rfl
theorem ac1 {f : DX} {τ τ1 : DS} {d : PyData} (h : f τ = some (d, τ1)) : dACons f dANil τ = some ([.d d], τ1) := by
  simp only [h, dFun, dSeq, dAsg, dN, dNew, dSetM, dRet, dRetM, dRetN, dExpr, dMt, gAppend, gExtend, gClear, dSetI, dNil, dIfS, dBrk, dCnt, dNever, dFor, dPar, dVar, dC, dOp, dUn, fI, fAdd, fSub, fLt, fLe, fGt, fGe, fNeg, isNo, fIsN, fNotN, fIxL, fIxT, dTest, dTAnd, dTOr, dTNot, dIf, dAnd, dOr, dNot, dChain, dANil, dACons, allD, dTup, dLst, dApp, dCall, dCallM, dCallC, dCallP, dAS, mkL, nMb, isM, isC, dBor, dBorF, dTBor, dYes, dIL, dIT, dR1, dR2, dGNil, dGCons, dGT, fin_nil, fin_d, fin_c, fin_m, fLen, f1, f2, fAbs, fMax2, fMin2, fInt1, fListOf, dRev, dIsi, tyOk_int, isi_int_none, isi_int_bool, isi_int_int, isi_int_str, isi_int_list, isi_int_tuple, tyOk_bool, isi_bool_none, isi_bool_bool, isi_bool_int, isi_bool_str, isi_bool_list, isi_bool_tuple, tyOk_str, isi_str_none, isi_str_bool, isi_str_int, isi_str_str, isi_str_list, isi_str_tuple, tyOk_list, isi_list_none, isi_list_bool, isi_list_int, isi_list_str, isi_list_list, isi_list_tuple, tyOk_tuple, isi_tuple_none, isi_tuple_bool, isi_tuple_int, isi_tuple_str, isi_tuple_list, isi_tuple_tuple, dIxC, dLenC, atI, ixN, okM_none, okM_d, okM_c, okM_m, fixD, fixDs, sz', Option.bind_some, Option.bind_none, Option.map_some, Option.map_none, List.map_cons, List.map_nil, List.cons_append, List.nil_append, List.length_cons, List.length_nil, List.getElem?_cons_zero, List.getElem?_cons_succ, List.set_cons_zero, List.set_cons_succ, List.replicate_succ, List.replicate_zero, List.all_cons, List.all_nil, Bool.and_self, Bool.and_true, Bool.true_and, Bool.false_and, Bool.and_false, Bool.or_true, Bool.true_or, Bool.false_or, Bool.or_false, Bool.not_true, Bool.not_false, if_true, if_false, reduceIte, Bool.false_eq_true, Nat.reduceAdd, Nat.reduceLT, Nat.reduceSub, Nat.reduceMul, Int.reduceEq, Int.reduceSub, Int.reduceMul, Int.reducePow, Int.reduceDiv, Int.reduceMod, Nat.reduceLeDiff, Nat.reduceEqDiff, and_self, and_true, true_and, Int.natCast_add, Int.reduceAdd, Int.reduceLT, Int.reduceLE, Int.reduceToNat, Int.reduceNeg, Int.toNat_zero, Int.toNat_one, Int.zero_lt_one, Int.le_refl, Int.reduceNegSucc, Int.cast_ofNat_Int, Nat.zero_add, Nat.add_zero]
theorem row_lc {b : Bx} {v : Int} {acc : List PyData} (h : okB b) (hx : -2000 ≤ b.x) (hx2 : b.x ≤ 2000) :
    dLC 1 [2] (dR2 (dACons (dOp fIxT (dVar 0) (dC (.int 0))) (dACons (dOp fAdd (dOp fIxT (dVar 0) (dC (.int 0))) (dOp fIxT (dVar 0) (dC (.int 2)))) dANil))) (dN 0) dYes (dTup (dACons (dVar 0) (dACons (dVar 1) dANil))) [some (.d (eb b)), some (.m acc), some (.d (.int v))] = some (.list ((rowC b.x v b.w.toNat).map ec), [some (.d (eb b)), some (.m acc), some (.d (.int v))]) := by
  obtain ⟨h1, h2, h3, h4⟩ := h
  obtain ⟨τb, el⟩ := lc_list (enc := PyData.int) (g := dN 0) (c := dYes) (e := dTup (dACons (dVar 0) (dACons (dVar 1) dANil))) (fun τ => ∃ o1, nM o1 ∧ τ = [o1, some (.d (.int v))]) (fun _ => true) (fun u => ec (u, v)) (xs := rng b.x b.w.toNat) (acc := []) (τ := [none, some (.d (.int v))]) ⟨none, nM_none, rfl⟩ (by
    rintro x τ _ ⟨o1, h1, rfl⟩
    exact ⟨_, [some (.d (.int x)), some (.d (.int v))], dN_eq (o := o1) rfl h1, rfl, fun z => (nomatch z), fun _ => ⟨_, rfl, _, nM_d, rfl⟩⟩)
  rw [List.nil_append, List.filter_eq_self.mpr (fun _ _ => rfl)] at el
  unfold rowC
  rw [List.map_map]
  have e := r2_eq (m := b.x) (n := b.x + b.w) (a := dACons (dOp fIxT (dVar 0) (dC (.int 0))) (dACons (dOp fAdd (dOp fIxT (dVar 0) (dC (.int 0))) (dOp fIxT (dVar 0) (dC (.int 2)))) dANil)) (τ := [some (.d (eb b)), some (.m acc), some (.d (.int v))]) (τ1 := [some (.d (eb b)), some (.m acc), some (.d (.int v))]) rfl (by omega) (by omega) (by omega) (by omega)
  rw [show b.x + b.w - b.x = b.w by omega] at e
  exact dlc_eq (τb := τb) e (by rw [List.length_map, rng_len]; exact sz (by omega)) rfl el
theorem cells_of_eq {b : Bx} (h : okB b) (hx : -2000 ≤ b.x) (hx2 : b.x ≤ 2000) (hy : -2000 ≤ b.y) (hy2 : b.y ≤ 2000) : m_cells_of [.d (eb b)] = some (.list ((cells b).map ec), [.d (eb b)]) := by
  have hb := h
  obtain ⟨h1, h2, h3, h4⟩ := h
  have key : ∃ τ', dLoop (dN 2) (dExpr (dMt 1 gExtend (dACons (dLC 1 [2] (dR2 (dACons (dOp fIxT (dVar 0) (dC (.int 0))) (dACons (dOp fAdd (dOp fIxT (dVar 0) (dC (.int 0))) (dOp fIxT (dVar 0) (dC (.int 2)))) dANil))) (dN 0) dYes (dTup (dACons (dVar 0) (dACons (dVar 1) dANil)))) dANil))) ((rng b.y b.h.toNat).map PyData.int) [some (.d (eb b)), some (.m []), none] = some (.nx τ') ∧
      ∃ o, nM o ∧ τ' = [some (.d (eb b)), some (.m ((cells b).map ec)), o] := by
    refine loop_pre (fun (pre : List Int) τ => ∃ o, nM o ∧ τ = [some (.d (eb b)), some (.m ((pre.flatMap fun j => rowC b.x j b.w.toNat).map ec)), o]) ⟨none, nM_none, by simp⟩ ?_
    rintro pre j post τ hp ⟨o, ho, rfl⟩
    have hl := split_len hp
    rw [rng_len] at hl
    have hz : ((pre.flatMap fun j => rowC b.x j b.w.toNat).map ec).length = pre.length * b.w.toNat := by
      rw [List.length_map, List.length_flatMap]
      clear hp hl
      induction pre with
      | nil => simp
      | cons v l ih =>
        rw [List.map_cons, List.sum_cons, ih, List.length_cons, Nat.succ_mul]
        unfold rowC
        rw [List.length_map, rng_len]
        omega
    have hz2 : pre.length * b.w.toNat ≤ 12 * 12 := Nat.mul_le_mul (by omega) (by omega)
    have hz3 : ((rowC b.x j b.w.toNat).map ec).length ≤ 12 := by
      unfold rowC
      rw [List.length_map, List.length_map, rng_len]; omega
    have e1 := row_lc (v := j) (acc := (pre.flatMap fun j => rowC b.x j b.w.toNat).map ec) hb hx hx2
    have e2 := extn (i := 1) (rs := [.d (.list ((rowC b.x j b.w.toNat).map ec))]) (xs := (pre.flatMap fun j => rowC b.x j b.w.toNat).map ec) (ys := (rowC b.x j b.w.toNat).map ec) (τ := [some (.d (eb b)), some (.m ((pre.flatMap fun j => rowC b.x j b.w.toNat).map ec)), some (.d (.int j))]) (τ1 := [some (.d (eb b)), some (.m ((pre.flatMap fun j => rowC b.x j b.w.toNat).map ec)), some (.d (.int j))]) (a := (dACons (dLC 1 [2] (dR2 (dACons (dOp fIxT (dVar 0) (dC (.int 0))) (dACons (dOp fAdd (dOp fIxT (dVar 0) (dC (.int 0))) (dOp fIxT (dVar 0) (dC (.int 2)))) dANil))) (dN 0) dYes (dTup (dACons (dVar 0) (dACons (dVar 1) dANil)))) dANil)) (ac1 e1) rfl rfl (by omega)
    refine ⟨[some (.d (eb b)), some (.m ((pre.flatMap fun j => rowC b.x j b.w.toNat).map ec)), some (.d (.int j))], _, dN_eq (o := o) rfl ho, e2, some (.d (.int j)), nM_d, ?_⟩
    simp [List.flatMap_append]
  obtain ⟨τ', e, o, ho, rfl⟩ := key
  unfold m_cells_of
  refine fun_rt (τ := [some (.d (eb b)), some (.m ((cells b).map ec)), o]) ?_ rfl rfl
  have er := r2_eq (m := b.y) (n := b.y + b.h) (a := (dACons (dOp fIxT (dVar 0) (dC (.int 1))) (dACons (dOp fAdd (dOp fIxT (dVar 0) (dC (.int 1))) (dOp fIxT (dVar 0) (dC (.int 3)))) dANil))) (τ := [some (.d (eb b)), some (.m []), none]) (τ1 := [some (.d (eb b)), some (.m []), none]) rfl (by omega) (by omega) (by omega) (by omega)
  rw [show b.y + b.h - b.y = b.h by omega] at er
  refine (seq_nx (τ1 := [some (.d (eb b)), some (.m []), none]) rfl).trans ((seq_nx ((for_eq er).trans e)).trans rfl)
theorem acc {f : DX} {a : DA} {τ τ1 τ2 : DS} {d : PyData} {rs : List Ar} (h : f τ = some (d, τ1)) (k : a τ1 = some (rs, τ2)) : dACons f a τ = some (.d d :: rs, τ2) := by
  unfold dACons
  rw [h]
  show ((a τ1).map _) = _
  rw [k]; rfl
theorem tst {f : DX} {τ τ1 : DS} {b : Bool} (h : f τ = some (.bool b, τ1)) : dTest f τ = some (b, τ1) := by
  unfold dTest
  rw [h]; rfl
theorem tnot {t : DT} {τ τ1 : DS} {b : Bool} (h : t τ = some (b, τ1)) : dTNot t τ = some (!b, τ1) := by
  unfold dTNot
  rw [h]; rfl
theorem op2 {F : PyData → PyData → Option PyData} {f g : DX} {τ τ1 τ2 : DS} {x y r : PyData} (h : f τ = some (x, τ1)) (k : g τ1 = some (y, τ2)) (e : F x y = some r) : dOp F f g τ = some (r, τ2) := by
  unfold dOp
  rw [h]
  show ((g τ1).bind _) = _
  rw [k]
  show ((F x y).map _) = _
  rw [e]; rfl
theorem orFF {x y : DT} {τ τ1 τ2 : DS} (h1 : x τ = some (false, τ1)) (h2 : y τ1 = some (false, τ2)) : dTOr x y τ = some (false, τ2) := by
  unfold dTOr
  rw [h1]; exact h2
theorem setM_nx {np i : Nat} {e : DX} {τ τ1 : DS} {xs : List PyData} (h : e τ = some (.list xs, τ1)) (h1 : np ≤ i) (h2 : i < τ1.length) (h3 : τ1.all okM = true) : dSetM np i e τ = some (.nx (τ1.set i (some (.m xs)))) := by
  unfold dSetM
  rw [h]
  dsimp only [Option.bind]
  rw [if_pos ⟨h1, h2, h3⟩]
theorem tand {a b : DT} {τ : DS} {p q : Bool} (h1 : a τ = some (p, τ)) (h2 : b τ = some (q, τ)) : dTAnd a b τ = some (p && q, τ) := by
  unfold dTAnd
  rw [h1]
  cases p with
  | true => exact h2
  | false => rfl
theorem lc_anyP {α β : Type} {enc : α → PyData} {en2 : β → PyData} {g : DG} {c : DT} {e : DX} (J : DS → Prop) (Z : β → Prop) : ∀ {xs : List α} {acc : List PyData} {τ : DS}, J τ →
    (∀ x τ, x ∈ xs → J τ → ∃ τ1 τ2 τ3 y, g (enc x) τ = some τ1 ∧ c τ1 = some (true, τ2) ∧ e τ2 = some (en2 y, τ3) ∧ J τ3 ∧ Z y) → ∃ (ys : List β) (τ' : DS), lcLoop g c e (xs.map enc) acc τ = some (acc ++ ys.map en2, τ') ∧ J τ' ∧ ys.length = xs.length ∧ ∀ y ∈ ys, Z y
  | [], acc, τ, h0, _ => ⟨[], τ, by simp [lcLoop], h0, rfl, fun y hy => by simp at hy⟩
  | x :: xs, acc, τ, h0, h => by
    obtain ⟨τ1, τ2, τ3, y, e1, e2, e3, h3, z3⟩ := h x τ List.mem_cons_self h0
    obtain ⟨ys, τ', e4, h4, hl, hz⟩ := lc_anyP J Z (xs := xs) (acc := acc ++ [en2 y]) (τ := τ3) h3 (fun z t hz hj => h z t (List.mem_cons_of_mem _ hz) hj)
    refine ⟨y :: ys, τ', ?_, h4, by rw [List.length_cons, hl, List.length_cons], fun u hu => (List.mem_cons.mp hu).elim (fun q => q ▸ z3) (hz u)⟩
    rw [List.map_cons, lcLoop, e1]
    show (c τ1).bind _ = _
    rw [e2]
    show (e τ2).bind _ = _
    rw [e3]
    show lcLoop g c e (xs.map enc) (acc ++ [en2 y]) τ3 = _
    rw [e4, List.append_assoc]
    rfl
theorem dlcm_eq {own : Nat} {f1 f2 : List Nat} {j0 : Nat} {it : DI} {g : DG} {c : DT} {e : DX} {τ τ1 τb : DS} {ds acc xs ys : List PyData} (h : it τ = some (ds, τ1)) (hz : ds.length ≤ sizeLine) (hj : τ1[j0]? = some (some (.m ys))) (hm : ((f1 ++ f2).all fun j => !isM τ1 j) = true) (hl : lcLoop g c e ds [] (blkD own (f1 ++ j0 :: f2) τ1) = some (acc, τb)) (hx : τb[own + f1.length]? = some (some (.m xs))) :
    dLCm own f1 j0 f2 it g c e τ = some (.list acc, τ1.set j0 (some (.m xs))) := by
  unfold dLCm
  rw [h]
  show (if ds.length ≤ sizeLine ∧ isM τ1 j0 = true ∧ ((f1 ++ f2).all fun j => !isM τ1 j) = true then _ else _) = _
  rw [if_pos ⟨hz, isM_iff.mpr ⟨.l ys, hj⟩, hm⟩, hl]
  dsimp only [Option.bind]
  rw [hx, hj]
abbrev Pc := List (List Cl)
def eL (r : List Cl) : PyData := .list (r.map ec)
def ep (P : Pc) : PyData := .list (P.map eL)
structure OkP (P : Pc) (w h : Nat) : Prop where
  len : P.length = h
  all : ∀ r ∈ P, r.length = w
def pcGet (P : Pc) (x y : Int) : Cl := (P.getD y.toNat []).getD x.toNat (0, 0)
def pcPut (P : Pc) (x y : Int) (s : Cl) : Pc := P.set y.toNat ((P.getD y.toNat []).set x.toNat s)
theorem OkP.row {P : Pc} {w h : Nat} (o : OkP P w h) {y : Int} (h0 : 0 ≤ y) (h1 : y < h) : (P.getD y.toNat []).length = w := by
  have hk : y.toNat < P.length := by rw [o.len]; omega
  rw [List.getD_eq_getElem?_getD, List.getElem?_eq_getElem hk]
  exact o.all _ (List.getElem_mem hk)
theorem OkP.put {P : Pc} {w h : Nat} (o : OkP P w h) {x y : Int} {s : Cl} (h0 : 0 ≤ y) (h1 : y < h) : OkP (pcPut P x y s) w h := by
  refine ⟨by unfold pcPut; rw [List.length_set]; exact o.len, fun r hr => ?_⟩
  unfold pcPut at hr
  rcases List.mem_or_eq_of_mem_set hr with hr | rfl
  · exact o.all r hr
  · rw [List.length_set]; exact o.row h0 h1
theorem ixN_in {n : Nat} {i : Int} (h0 : 0 ≤ i) (h1 : i < n) : ixN n i = some i.toNat := by unfold ixN; rw [if_pos h0, if_pos h1]
theorem ix_row {P : Pc} {w h : Nat} (o : OkP P w h) {y : Int} (h0 : 0 ≤ y) (h1 : y < h) : fIxL (ep P) (.int y) = some (eL (P.getD y.toNat [])) := by
  have hk : y.toNat < P.length := by rw [o.len]; omega
  show atI (P.map eL) y = _
  unfold atI
  rw [List.length_map, ixN_in h0 (by rw [o.len]; exact h1)]
  show (P.map eL)[y.toNat]? = _
  rw [List.getElem?_map, List.getD_eq_getElem?_getD, List.getElem?_eq_getElem hk]; rfl
theorem ix_cs {cs : List Cl} {k : Int} (h0 : 0 ≤ k) (h1 : k < cs.length) : fIxL (eL cs) (.int k) = some (ec (cs.getD k.toNat (0, 0))) := by
  have hk : k.toNat < cs.length := by omega
  show atI (cs.map ec) k = _
  unfold atI
  rw [List.length_map, ixN_in h0 h1]
  show (cs.map ec)[k.toNat]? = _
  rw [List.getElem?_map, List.getD_eq_getElem?_getD, List.getElem?_eq_getElem hk]; rfl
theorem ix_cell {P : Pc} {w h : Nat} (o : OkP P w h) {x y : Int} (h0 : 0 ≤ y) (h1 : y < h) (x0 : 0 ≤ x) (x1 : x < w) : fIxL (eL (P.getD y.toNat [])) (.int x) = some (ec (pcGet P x y)) := ix_cs x0 (by rw [o.row h0 h1]; exact x1)
theorem set2_ep {P : Pc} {w h : Nat} (o : OkP P w h) {x y : Int} {s : Cl} (h0 : 0 ≤ y) (h1 : y < h) (x0 : 0 ≤ x) (x1 : x < w) : set2 (P.map eL) y x (ec s) = some ((pcPut P x y s).map eL) := by
  have hk : y.toNat < P.length := by rw [o.len]; omega
  have hr := o.row h0 h1
  have er : P.getD y.toNat [] = P[y.toNat] := by rw [List.getD_eq_getElem?_getD, List.getElem?_eq_getElem hk]; rfl
  unfold set2
  rw [List.length_map, ixN_in h0 (by rw [o.len]; exact h1), Option.bind_some, List.getElem?_map, List.getElem?_eq_getElem hk]
  show (if fixDs ((P[y.toNat]).map ec) = true then _ else _) = _
  rw [if_pos (encC.fixL _), List.length_map, ← er, ixN_in x0 (by rw [hr]; exact x1), Option.map_some]
  unfold pcPut
  rw [List.map_set]
  unfold eL
  rw [List.map_set]
theorem setGG_eq {i : Nat} {e e1 e2 : DX} {τ τ1 τ2 τ3 : DS} {P : Pc} {w h : Nat} {x y : Int} {s : Cl} (o : OkP P w h) (hi : τ[i]? = some (some (.g (ep P)))) (ha : e (τ.set i (some (.d (ep P)))) = some (ec s, τ1)) (hb : e1 τ1 = some (.int y, τ2)) (hc : e2 τ2 = some (.int x, τ3)) (ok : τ3.all okM = true)
    (h0 : 0 ≤ y) (h1 : y < h) (x0 : 0 ≤ x) (x1 : x < w) : dSetGG i e e1 e2 τ = some (.nx (τ3.set i (some (.g (ep (pcPut P x y s)))))) := by
  unfold dSetGG
  rw [hi]
  show (e (τ.set i (some (.d (ep P))))).bind _ = _
  rw [ha]
  show (e1 τ1).bind _ = _
  rw [hb]
  show (e2 τ2).bind _ = _
  rw [hc]
  show (if fixD (ec s) = true ∧ τ3.all okM = true then (set2 (P.map eL) y x (ec s)).map _ else none) = _
  rw [if_pos ⟨encC.fix s, ok⟩, set2_ep o h0 h1 x0 x1]; rfl
theorem setG_nx {np i : Nat} {e : DX} {τ τ1 : DS} {d : PyData} (h : e τ = some (d, τ1)) (h1 : np ≤ i) (h2 : i < τ1.length) (h3 : τ1.all okM = true) : dSetG np i e τ = some (.nx (τ1.set i (some (.g d)))) := by
  unfold dSetG
  rw [h]
  show (if np ≤ i ∧ i < τ1.length ∧ τ1.all okM = true then _ else _) = _
  rw [if_pos ⟨h1, h2, h3⟩]
theorem lc_copy {P : Pc} {τ : DS} {i : Nat} (hi : τ[i]? = some (some (.d (ep P)))) (hz : P.length ≤ 1000) : dLC 1 [] (dIL (dVar i)) (dN 0) dYes (dFx (dApp fListOf (dACons (dVar 0) dANil))) τ = some (ep P, τ) := by
  obtain ⟨τb, el⟩ := lc_list (enc := eL) (g := dN 0) (c := dYes) (e := dFx (dApp fListOf (dACons (dVar 0) dANil))) (fun τ => ∃ o, nM o ∧ τ = [o]) (fun _ => true) eL (xs := P) (acc := []) (τ := [none]) ⟨none, nM_none, rfl⟩ (by
    rintro r τ _ ⟨o, ho, rfl⟩
    refine ⟨_, [some (.d (eL r))], dN_eq (o := o) rfl ho, rfl, fun z => (nomatch z), fun _ => ⟨[some (.d (eL r))], ?_, _, nM_d, rfl⟩⟩
    show (if fixDs (r.map ec) = true then _ else _) = _
    rw [if_pos (encC.fixL r)]; rfl)
  rw [List.nil_append, List.filter_eq_self.mpr (fun _ _ => rfl)] at el
  have h1 : dIL (dVar i) τ = some (P.map eL, τ) := by
    unfold dIL dVar
    rw [hi]; rfl
  exact dlc_eq (τb := τb) h1 (by rw [List.length_map]; exact sz hz) rfl el
theorem P_can : ∀ P : Pc, PyData.canLayAll0 (P.map eL) = true
  | [] => rfl
  | r :: P => by
    rw [List.map_cons, PyData.canLayAll0, P_can P]
    unfold eL
    rw [PyData.canLay0, encC.canL]; rfl
theorem P_dep : ∀ P : Pc, PyData.depthAll (P.map eL) ≤ 21
  | [] => Nat.zero_le _
  | r :: P => by
    rw [List.map_cons, PyData.depthAll]
    have := P_dep P
    have : (eL r).depth ≤ 21 := by unfold eL; rw [PyData.depth]; have := encC.depL r; omega
    omega
theorem eqv_L (r : List Cl) : PyData.eqv (eL r) (eL r) = true := by
  unfold eL; rw [encC.eqL]; simp
theorem eqvA_P : ∀ P : Pc, PyData.eqvAll (P.map eL) (P.map eL) = true
  | [] => rfl
  | r :: P => by rw [List.map_cons, PyData.eqvAll, eqv_L, eqvA_P P]; rfl
theorem eqv_P (P : Pc) : PyData.eqv (ep P) (ep P) = true := by
  unfold ep; rw [PyData.eqv]; exact eqvA_P P
theorem p_can (P : Pc) : (ep P).canLay0 = true := by unfold ep; rw [PyData.canLay0]; exact P_can P
theorem p_dep (P : Pc) : (ep P).depth ≤ 22 := by unfold ep; rw [PyData.depth]; have := P_dep P; omega
theorem okD_of {d : PyData} (h1 : d.canLay0 = true) (h2 : d.depth ≤ 40) : okD d = true := by
  unfold okD SeqAt.shaped
  rw [Bool.and_eq_true]
  exact ⟨h1, decide_eq_true (Nat.le_trans h2 (by decide))⟩
theorem fNe_self {d : PyData} (h1 : d.canLay0 = true) (h2 : d.depth ≤ 40) (h3 : PyData.eqv d d = true) : fNe d d = some (.bool false) := by
  unfold DL.fNe; rw [okD_of h1 h2, h3]; rfl
theorem fNe_PP (P Q : Pc) : fNe (.list [ep P, ep Q]) (.list [ep P, ep Q]) = some (.bool false) := by
  refine fNe_self ?_ ?_ ?_
  · rw [PyData.canLay0, PyData.canLayAll0, PyData.canLayAll0, PyData.canLayAll0, p_can, p_can]; rfl
  · rw [PyData.depth, PyData.depthAll, PyData.depthAll, PyData.depthAll]
    have := p_dep P
    have := p_dep Q
    omega
  · rw [PyData.eqv, PyData.eqvAll, PyData.eqvAll, PyData.eqvAll, eqv_P, eqv_P]; rfl
def sh4 : List Cl := [(0, 1), (1, 1), (1, 2), (2, 3)]
theorem row_by {o : Option L} {cs : List Cl} {u many w : Int} (hm : many = cs.length) (h1 : 1 ≤ many) (h4 : many ≤ 4) (w1 : 1 ≤ w) (w9 : w ≤ 9) :
    ∃ (r : List Cl) (u' : Int), dLCm 1 [1] 2 [3] (dR1 (dACons (dVar 4) dANil)) (dN 0) dYes (dOp fIxL (dVar 1) (dCallM 2 m_L_digit (dACons (dVar 3) dANil))) [o, some (.d (eL cs)), some (.m [.int u]), some (.d (.int many)), some (.d (.int w))] = some (eL r, [o, some (.d (eL cs)), some (.m [.int u']), some (.d (.int many)), some (.d (.int w))]) ∧ r.length = w.toNat := by
  obtain ⟨r, τ', el, ⟨o', u', ho', rfl⟩, hl, _⟩ := lc_anyP (enc := PyData.int) (en2 := ec) (g := dN 0) (c := dYes) (e := dOp fIxL (dVar 1) (dCallM 2 m_L_digit (dACons (dVar 3) dANil))) (fun τ => ∃ o u, nM o ∧ τ = [o, some (.d (eL cs)), some (.m [.int u]), some (.d (.int many))]) (fun _ => True) (xs := rng 0 w.toNat) (acc := []) (τ := [none, some (.d (eL cs)), some (.m [.int u]), some (.d (.int many))]) ⟨none, u, nM_none, rfl⟩ (by
    rintro k τ _ ⟨o, u, ho, rfl⟩
    have e := L_dig (v := u) (m := many) (by omega) (by omega)
    have e2 := ix_cs (cs := cs) (k := u % many) (Int.emod_nonneg _ (by omega)) (by rw [← hm]; exact Int.emod_lt_of_pos _ (by omega))
    refine ⟨[some (.d (.int k)), some (.d (eL cs)), some (.m [.int u]), some (.d (.int many))], [some (.d (.int k)), some (.d (eL cs)), some (.m [.int u]), some (.d (.int many))], [some (.d (.int k)), some (.d (eL cs)), some (.m [.int (u / many)]), some (.d (.int many))], cs.getD (u % many).toNat (0, 0), dN_eq (o := o) rfl ho, rfl, ?_, ⟨_, _, nM_d, rfl⟩, trivial⟩
    exact op2 (τ1 := [some (.d (.int k)), some (.d (eL cs)), some (.m [.int u]), some (.d (.int many))]) rfl (callM_eq (τ1 := [some (.d (.int k)), some (.d (eL cs)), some (.m [.int u]), some (.d (.int many))]) (rs := [.d (.int many)]) (ds := [.int many]) (xs := [.int u]) rfl rfl rfl e) e2)
  rw [List.nil_append] at el
  refine ⟨r, u', dlcm_eq (τ1 := [o, some (.d (eL cs)), some (.m [.int u]), some (.d (.int many)), some (.d (.int w))]) (r1_eq (n := w) rfl (by omega) (by omega)) (by rw [List.length_map, rng_len]; exact sz (by omega)) rfl rfl el rfl, ?_⟩
  rw [hl, rng_len]
theorem picture_by {v w h : Int} (w1 : 1 ≤ w) (w9 : w ≤ 9) (h1 : 1 ≤ h) (h6 : h ≤ 9) : ∃ (P : Pc) (v' : Int), m_L_picture_by [.m [.int v], .d (.int w), .d (.int h)] = some (ep P, [.m [.int v'], .d (.int w), .d (.int h)]) ∧ OkP P w.toNat h.toNat := by
  have hv : v % 4 = 0 ∨ v % 4 = 1 ∨ v % 4 = 2 ∨ v % 4 = 3 := by omega
  let many : Int := 1 + v % 4
  have hmany : many = 1 ∨ many = 2 ∨ many = 3 ∨ many = 4 := by
    show 1 + v % 4 = 1 ∨ _
    omega
  let cs : List Cl := sh4.take many.toNat
  have hcs : many = cs.length := by
    rcases hmany with e | e | e | e <;> (show many = ((sh4.take many.toNat).length : Nat); rw [e]; rfl)
  let st := fun (u : Int) (s : Option L) => [some (.m [.int u]), some (.d (.int w)), some (.d (.int h)), some (.d (.int many)), s]
  have sl : dSl (dLst (dACons (dTup (dACons (dC (.int 0)) (dACons (dC (.int 1)) dANil))) (dACons (dTup (dACons (dC (.int 1)) (dACons (dC (.int 1)) dANil))) (dACons (dTup (dACons (dC (.int 1)) (dACons (dC (.int 2)) dANil))) (dACons (dTup (dACons (dC (.int 2)) (dACons (dC (.int 3)) dANil))) dANil))))) dNoP (dPt (dVar 3)) (st (v / 4) none) = some (eL cs, st (v / 4) none) := by
    show dSl _ _ _ [some (.m [.int (v / 4)]), some (.d (.int w)), some (.d (.int h)), some (.d (.int many)), none] = some (eL (sh4.take many.toNat), [some (.m [.int (v / 4)]), some (.d (.int w)), some (.d (.int h)), some (.d (.int many)), none])
    generalize many = k at hmany
    rcases hmany with rfl | rfl | rfl | rfl <;> rfl
  obtain ⟨P, τ', el, ⟨o', u', ho', rfl⟩, hl, hz⟩ := lc_anyP (enc := PyData.int) (en2 := eL) (g := dN 0) (c := dYes) (e := dLCm 1 [1] 2 [3] (dR1 (dACons (dVar 4) dANil)) (dN 0) dYes (dOp fIxL (dVar 1) (dCallM 2 m_L_digit (dACons (dVar 3) dANil)))) (fun τ => ∃ o u, nM o ∧ τ = [o, some (.d (eL cs)), some (.m [.int u]), some (.d (.int many)), some (.d (.int w))]) (fun r => r.length = w.toNat) (xs := rng 0 h.toNat) (acc := []) (τ := [none, some (.d (eL cs)), some (.m [.int (v / 4)]), some (.d (.int many)), some (.d (.int w))]) ⟨none, v / 4, nM_none, rfl⟩ (by
    rintro k τ _ ⟨o, u, ho, rfl⟩
    obtain ⟨r, u', e, hr⟩ := row_by (o := some (.d (.int k))) (u := u) (w := w) hcs (by omega) (by omega) w1 w9
    exact ⟨_, [some (.d (.int k)), some (.d (eL cs)), some (.m [.int u]), some (.d (.int many)), some (.d (.int w))], _, r, dN_eq (o := o) rfl ho, rfl, e, ⟨_, _, nM_d, rfl⟩, hr⟩)
  rw [List.nil_append] at el
  refine ⟨P, u', ?_, ⟨by rw [hl, rng_len], hz⟩⟩
  unfold m_L_picture_by
  refine fun_rt (τ := st u' (some (.d (eL cs)))) ?_ rfl rfl
  refine (seq_nx (τ1 := st (v / 4) none) ?_).trans ((seq_nx (τ1 := st (v / 4) (some (.d (eL cs)))) (asg_nx sl rfl)).trans (ret_rt ?_))
  · exact asg_nx (op2 (x := .int 1) (y := .int (v % 4)) rfl (callM_eq (τ1 := [some (.m [.int v]), some (.d (.int w)), some (.d (.int h)), none, none]) (rs := [.d (.int 4)]) (ds := [.int 4]) (xs := [.int v]) rfl rfl rfl (L_dig (by decide) (by decide))) rfl) rfl
  · exact dlcm_eq (τ1 := st (v / 4) (some (.d (eL cs)))) (r1_eq (n := h) rfl (by omega) (by omega)) (by rw [List.length_map, rng_len]; exact sz (by omega)) rfl rfl el rfl
theorem len_row1 {P : Pc} {w h : Nat} (o : OkP P w h) (h1 : 1 ≤ h) {τ : DS} (ht : τ[1]? = some (some (.d (ep P)))) : dApp fLen (dACons (dOp fIxL (dVar 1) (dC (.int 0))) dANil) τ = some (.int (w : Int), τ) := by
  have e := ix_row o (y := 0) (by omega) (by omega)
  have hv : dVar 1 τ = some (ep P, τ) := by unfold dVar; rw [ht]
  have e2 := op2 (f := dVar 1) (g := dC (.int 0)) hv rfl e
  have hr := o.row (y := 0) (by omega) (by omega)
  unfold dApp
  rw [ac1 e2]
  show some (PyData.int (((P.getD (0 : Int).toNat []).map ec).length : Nat), τ) = _
  rw [List.length_map, hr]
theorem len_P1 {P : Pc} {w h : Nat} (o : OkP P w h) {τ : DS} (ht : τ[1]? = some (some (.d (ep P)))) : dApp fLen (dACons (dVar 1) dANil) τ = some (.int (h : Int), τ) := by
  have hv : dVar 1 τ = some (ep P, τ) := by unfold dVar; rw [ht]
  unfold dApp
  rw [ac1 hv]
  show some (PyData.int ((P.map eL).length : Nat), τ) = _
  rw [List.length_map, o.len]
theorem near_by {P : Pc} {w h : Nat} {v : Int} (o : OkP P w h) (w1 : 1 ≤ w) (w9 : w ≤ 9) (h1 : 1 ≤ h) (h9 : h ≤ 9) : ∃ (Q : Pc) (v' : Int), m_L_near_by [.m [.int v], .d (ep P)] = some (ep Q, [.m [.int v'], .d (ep P)]) ∧ OkP Q w h := by
  let st := fun (u : Int) (Q : Pc) (a b : Option L) => [some (.m [.int u]), some (.d (ep P)), some (.g (ep Q)), a, b]
  have lp : ∃ τ', dLoop (dN 3) (dSeq (dAsg (dCallM 0 m_L_digit (dACons (dApp fLen (dACons (dOp fIxL (dVar 1) (dC (.int 0))) dANil)) dANil)) (dN 4)) (dSetGG 2 (dOp fIxL (dLst (dACons (dTup (dACons (dC (.int 0)) (dACons (dC (.int 1)) dANil))) (dACons (dTup (dACons (dC (.int 1)) (dACons (dC (.int 2)) dANil))) (dACons (dTup (dACons (dC (.int 1)) (dACons (dC (.int 3)) dANil))) dANil)))) (dCallM 0 m_L_digit (dACons (dC (.int 3)) dANil))) (dCallM 0 m_L_digit (dACons (dApp fLen (dACons (dVar 1) dANil)) dANil)) (dVar 4))) ((rng 0 (v % 7).toNat).map PyData.int) (st (v / 7) P none none) = some (.nx τ') ∧ ∃ u Q a b, nM a ∧ nM b ∧ OkP Q w h ∧ τ' = st u Q a b := by
    refine loop_pre (fun (_ : List Int) τ => ∃ u Q a b, nM a ∧ nM b ∧ OkP Q w h ∧ τ = st u Q a b) ⟨v / 7, P, none, none, nM_none, nM_none, o, rfl⟩ ?_
    rintro pre k post τ _ ⟨u, Q, a, b, ha, hb, oQ, rfl⟩
    have hw : (0 : Int) < w := by omega
    have hh : (0 : Int) < h := by omega
    have x0 := Int.emod_nonneg u (b := (w : Int)) (by omega)
    have x1 := Int.emod_lt_of_pos u hw
    have hk3 : (u / w) % 3 = 0 ∨ (u / w) % 3 = 1 ∨ (u / w) % 3 = 2 := by omega
    obtain ⟨s, hs⟩ : ∃ s : Cl, fIxL (.list [.tuple [.int 0, .int 1], .tuple [.int 1, .int 2], .tuple [.int 1, .int 3]]) (.int (u / w % 3)) = some (ec s) := by
      rcases hk3 with e | e | e <;> rw [e]
      · exact ⟨(0, 1), rfl⟩
      · exact ⟨(1, 2), rfl⟩
      · exact ⟨(1, 3), rfl⟩
    have y0 := Int.emod_nonneg (u / w / 3) (b := (h : Int)) (by omega)
    have y1 := Int.emod_lt_of_pos (u / w / 3) hh
    refine ⟨st u Q (some (.d (.int k))) b, st (u / w / 3 / h) (pcPut Q (u % w) (u / w / 3 % h) s) (some (.d (.int k))) (some (.d (.int (u % w)))), dN_eq (o := a) rfl ha, ?_, _, _, _, _, nM_d, nM_d, oQ.put y0 y1, rfl⟩
    refine (seq_nx (τ1 := st (u / w) Q (some (.d (.int k))) (some (.d (.int (u % w))))) ?_).trans ?_
    · exact asg_nx (callM_eq (τ1 := st u Q (some (.d (.int k))) b) (ds := [.int (w : Int)]) (xs := [.int u]) (ac1 (len_row1 o h1 rfl)) rfl rfl (L_dig hw (by omega))) (dN_eq (o := b) rfl hb)
    · let sf := fun (u' : Int) => [some (L.m [.int u']), some (.d (ep P)), some (.d (ep Q)), some (.d (.int k)), some (.d (.int (u % w)))]
      exact setGG_eq (τ1 := sf (u / w / 3)) (τ2 := sf (u / w / 3 / h)) (τ3 := sf (u / w / 3 / h)) oQ rfl (op2 (τ1 := sf (u / w)) rfl (callM_eq (τ1 := sf (u / w)) (rs := [.d (.int 3)]) (ds := [.int 3]) (xs := [.int (u / w)]) rfl rfl rfl (L_dig (by decide) (by decide))) hs) (callM_eq (τ1 := sf (u / w / 3)) (ds := [.int (h : Int)]) (xs := [.int (u / w / 3)]) (ac1 (len_P1 o rfl)) rfl rfl (L_dig hh (by omega))) rfl rfl y0 y1 x0 x1
  obtain ⟨τ', e, u, Q, a, b, ha, hb, oQ, rfl⟩ := lp
  refine ⟨Q, u, ?_, oQ⟩
  unfold m_L_near_by
  refine fun_rt (τ := st u Q a b) ?_ rfl rfl
  have z0 := Int.emod_nonneg v (b := 7) (by decide)
  have z1 := Int.emod_lt_of_pos v (b := 7) (by decide)
  refine (seq_nx (τ1 := st v P none none) (setG_nx (lc_copy rfl (by rw [o.len]; omega)) (by decide) (by show 2 < 5; decide) rfl)).trans ?_
  refine (seq_nx ((for_eq (τ1 := st (v / 7) P none none) (r1_eq (n := v % 7) (ac1 (callM_eq (τ1 := st v P none none) (rs := [.d (.int 7)]) (ds := [.int 7]) (xs := [.int v]) rfl rfl rfl (L_dig (by decide) (by decide)))) (by omega) (by omega))).trans e)).trans rfl
theorem next_by {P : Pc} {w h : Nat} {v : Int} (o : OkP P w h) (w1 : 1 ≤ w) (w9 : w ≤ 9) (h1 : 1 ≤ h) (h9 : h ≤ 9) : ∃ (Q : Pc) (v' : Int), m_L_next_by [.m [.int v], .d (ep P)] = some (ep Q, [.m [.int v'], .d (ep P)]) ∧ OkP Q w h := by
  let st := fun (u : Int) => [some (L.m [.int u]), some (.d (ep P))]
  have t : dTest (dOp fEq (dCallM 0 m_L_digit (dACons (dC (.int 3)) dANil)) (dC (.int 0))) (st v) = some (decide (v % 3 = 0), st (v / 3)) :=
    tst (op2 (callM_eq (τ1 := st v) (rs := [.d (.int 3)]) (ds := [.int 3]) (xs := [.int v]) rfl rfl rfl (L_dig (by decide) (by decide))) rfl (encI.fEq (v % 3) 0))
  unfold m_L_next_by
  by_cases hv : v % 3 = 0
  · obtain ⟨Q, u, e, oQ⟩ := picture_by (v := v / 3) (w := w) (h := h) (by omega) (by omega) (by omega) (by omega)
    rw [Int.toNat_natCast, Int.toNat_natCast] at oQ
    refine ⟨Q, u, fun_rt (τ := st u) ?_ rfl rfl, oQ⟩
    rw [decide_eq_true hv] at t
    have la := acc (len_row1 o h1 (τ := st (v / 3)) rfl) (ac1 (len_P1 o (τ := st (v / 3)) rfl))
    exact seq_rt ((ifs_t t).trans (ret_rt (callM_eq (ds := [.int (w : Int), .int (h : Int)]) (xs := [.int (v / 3)]) la rfl rfl e)))
  · obtain ⟨Q, u, e, oQ⟩ := near_by (v := v / 3) o w1 w9 h1 h9
    refine ⟨Q, u, fun_rt (τ := st u) ?_ rfl rfl, oQ⟩
    rw [decide_eq_false hv] at t
    exact (seq_nx ((ifs_f t).trans rfl)).trans (ret_rt (callM_eq (τ1 := st (v / 3)) (rs := [.d (ep P)]) (ds := [ep P]) (xs := [.int (v / 3)]) rfl rfl rfl e))
theorem copy_eq {P : Pc} (hz : P.length ≤ 1000) : m_L_copy [.d (ep P)] = some (ep P, [.d (ep P)]) := by
  unfold m_L_copy
  exact fun_rt (τ := [some (.d (ep P))]) (ret_rt (lc_copy rfl hz)) rfl rfl
abbrev S3 := Int × Int × Int
def e3 (s : S3) : PyData := .tuple [.int s.1, .int s.2.1, .int s.2.2]
theorem enc3 : Enc e3 := by
  refine ⟨fun a b => ?_, fun _ => rfl, fun a => ?_, fun _ => rfl⟩
  · unfold e3
    simp only [PyData.eqv, PyData.eqvAll, Bool.and_true]
    obtain ⟨a1, a2, a3⟩ := a
    obtain ⟨b1, b2, b3⟩ := b
    by_cases h1 : a1 = b1 <;> by_cases h2 : a2 = b2 <;> by_cases h3 : a3 = b3 <;> simp [h1, h2, h3]
  · unfold e3; simp [PyData.depth, PyData.depthAll]
def InB (w h : Nat) (s : S3) : Prop := 0 ≤ s.1 ∧ 1 ≤ s.2.2 ∧ s.1 + s.2.2 ≤ w ∧ 0 ≤ s.2.1 ∧ s.2.1 < h
def FitB (w h : Nat) (sh : Cl) (s : S3) : Prop := 0 ≤ s.1 - sh.1 ∧ s.1 - sh.1 + s.2.2 ≤ w ∧ 0 ≤ s.2.1 - sh.2 ∧ s.2.1 - sh.2 < h
instance {w h : Nat} {sh : Cl} {s : S3} : Decidable (FitB w h sh s) := by unfold FitB; infer_instance
theorem fits_eq {w h : Nat} {s : S3} {sh : Cl} : m_L_fits [.d (.int w), .d (.int h), .d (e3 s), .d (ec sh)] = some (.bool (decide (FitB w h sh s)), [.d (.int w), .d (.int h), .d (e3 s), .d (ec sh)]) := by
  obtain ⟨x, y, m⟩ := s
  obtain ⟨dx, dy⟩ := sh
  unfold FitB
  by_cases h1 : 0 ≤ x - dx
  · by_cases h2 : x - dx + m ≤ w
    · by_cases h3 : 0 ≤ y - dy
      · by_cases h4 : y - dy < h
        · simp only [m_L_fits, e3, ec, h1, h2, h3, h4, decide_true, dFun, dSeq, dAsg, dN, dNew, dSetM, dRet, dRetM, dRetN, dExpr, dMt, gAppend, gExtend, gClear, dSetI, dNil, dIfS, dBrk, dCnt, dNever, dFor, dPar, dVar, dC, dOp, dUn, fI, fAdd, fSub, fLt, fLe, fGt, fGe, fNeg, isNo, fIsN, fNotN, fIxL, fIxT, dTest, dTAnd, dTOr, dTNot, dIf, dAnd, dOr, dNot, dChain, dANil, dACons, allD, dTup, dLst, dApp, dCall, dCallM, dCallC, dCallP, dAS, mkL, nMb, isM, isC, dBor, dBorF, dTBor, dYes, dIL, dIT, dR1, dR2, dGNil, dGCons, dGT, fin_nil, fin_d, fin_c, fin_m, fLen, f1, f2, fAbs, fMax2, fMin2, fInt1, fListOf, dRev, dIsi, dIxC, dLenC, atI, ixN, okM_none, okM_d, okM_c, okM_m, fixD, fixDs, sz', Option.bind_some, Option.bind_none, Option.map_some, Option.map_none, List.map_cons, List.map_nil, List.cons_append, List.nil_append, List.length_cons, List.length_nil, List.getElem?_cons_zero, List.getElem?_cons_succ, List.set_cons_zero, List.set_cons_succ, List.replicate_succ, List.replicate_zero, List.all_cons, List.all_nil, Bool.and_self, Bool.and_true, Bool.true_and, Bool.false_and, Bool.and_false, Bool.or_true, Bool.true_or, Bool.false_or, Bool.or_false, Bool.not_true, Bool.not_false, if_true, if_false, reduceIte, Bool.false_eq_true, Nat.reduceAdd, Nat.reduceLT, Nat.reduceSub, Nat.reduceMul, Int.reduceEq, Int.reduceSub, Int.reduceMul, Int.reducePow, Int.reduceDiv, Int.reduceMod, Nat.reduceLeDiff, Nat.reduceEqDiff, and_self, and_true, true_and, Int.natCast_add, Int.reduceAdd, Int.reduceLT, Int.reduceLE, Int.reduceToNat, Int.reduceNeg, Int.toNat_zero, Int.toNat_one, Int.zero_lt_one, Int.le_refl, Int.reduceNegSucc, Int.cast_ofNat_Int, Nat.zero_add, Nat.add_zero]
        · simp only [m_L_fits, e3, ec, h1, h2, h3, h4, decide_true, decide_false, dFun, dSeq, dAsg, dN, dNew, dSetM, dRet, dRetM, dRetN, dExpr, dMt, gAppend, gExtend, gClear, dSetI, dNil, dIfS, dBrk, dCnt, dNever, dFor, dPar, dVar, dC, dOp, dUn, fI, fAdd, fSub, fLt, fLe, fGt, fGe, fNeg, isNo, fIsN, fNotN, fIxL, fIxT, dTest, dTAnd, dTOr, dTNot, dIf, dAnd, dOr, dNot, dChain, dANil, dACons, allD, dTup, dLst, dApp, dCall, dCallM, dCallC, dCallP, dAS, mkL, nMb, isM, isC, dBor, dBorF, dTBor, dYes, dIL, dIT, dR1, dR2, dGNil, dGCons, dGT, fin_nil, fin_d, fin_c, fin_m, fLen, f1, f2, fAbs, fMax2, fMin2, fInt1, fListOf, dRev, dIsi, dIxC, dLenC, atI, ixN, okM_none, okM_d, okM_c, okM_m, fixD, fixDs, sz', Option.bind_some, Option.bind_none, Option.map_some, Option.map_none, List.map_cons, List.map_nil, List.cons_append, List.nil_append, List.length_cons, List.length_nil, List.getElem?_cons_zero, List.getElem?_cons_succ, List.set_cons_zero, List.set_cons_succ, List.replicate_succ, List.replicate_zero, List.all_cons, List.all_nil, Bool.and_self, Bool.and_true, Bool.true_and, Bool.false_and, Bool.and_false, Bool.or_true, Bool.true_or, Bool.false_or, Bool.or_false, Bool.not_true, Bool.not_false, if_true, if_false, reduceIte, Bool.false_eq_true, Nat.reduceAdd, Nat.reduceLT, Nat.reduceSub, Nat.reduceMul, Int.reduceEq, Int.reduceSub, Int.reduceMul, Int.reducePow, Int.reduceDiv, Int.reduceMod, Nat.reduceLeDiff, Nat.reduceEqDiff, and_self, and_true, true_and, Int.natCast_add, Int.reduceAdd, Int.reduceLT, Int.reduceLE, Int.reduceToNat, Int.reduceNeg, Int.toNat_zero, Int.toNat_one, Int.zero_lt_one, Int.le_refl, Int.reduceNegSucc, Int.cast_ofNat_Int, Nat.zero_add, Nat.add_zero]
      · simp only [m_L_fits, e3, ec, h1, h2, h3, decide_true, decide_false, false_and, dFun, dSeq, dAsg, dN, dNew, dSetM, dRet, dRetM, dRetN, dExpr, dMt, gAppend, gExtend, gClear, dSetI, dNil, dIfS, dBrk, dCnt, dNever, dFor, dPar, dVar, dC, dOp, dUn, fI, fAdd, fSub, fLt, fLe, fGt, fGe, fNeg, isNo, fIsN, fNotN, fIxL, fIxT, dTest, dTAnd, dTOr, dTNot, dIf, dAnd, dOr, dNot, dChain, dANil, dACons, allD, dTup, dLst, dApp, dCall, dCallM, dCallC, dCallP, dAS, mkL, nMb, isM, isC, dBor, dBorF, dTBor, dYes, dIL, dIT, dR1, dR2, dGNil, dGCons, dGT, fin_nil, fin_d, fin_c, fin_m, fLen, f1, f2, fAbs, fMax2, fMin2, fInt1, fListOf, dRev, dIsi, dIxC, dLenC, atI, ixN, okM_none, okM_d, okM_c, okM_m, fixD, fixDs, sz', Option.bind_some, Option.bind_none, Option.map_some, Option.map_none, List.map_cons, List.map_nil, List.cons_append, List.nil_append, List.length_cons, List.length_nil, List.getElem?_cons_zero, List.getElem?_cons_succ, List.set_cons_zero, List.set_cons_succ, List.replicate_succ, List.replicate_zero, List.all_cons, List.all_nil, Bool.and_self, Bool.and_true, Bool.true_and, Bool.false_and, Bool.and_false, Bool.or_true, Bool.true_or, Bool.false_or, Bool.or_false, Bool.not_true, Bool.not_false, if_true, if_false, reduceIte, Bool.false_eq_true, Nat.reduceAdd, Nat.reduceLT, Nat.reduceSub, Nat.reduceMul, Int.reduceEq, Int.reduceSub, Int.reduceMul, Int.reducePow, Int.reduceDiv, Int.reduceMod, Nat.reduceLeDiff, Nat.reduceEqDiff, and_self, and_true, true_and, Int.natCast_add, Int.reduceAdd, Int.reduceLT, Int.reduceLE, Int.reduceToNat, Int.reduceNeg, Int.toNat_zero, Int.toNat_one, Int.zero_lt_one, Int.le_refl, Int.reduceNegSucc, Int.cast_ofNat_Int, Nat.zero_add, Nat.add_zero]
    · simp only [m_L_fits, e3, ec, h1, h2, decide_true, decide_false, false_and, dFun, dSeq, dAsg, dN, dNew, dSetM, dRet, dRetM, dRetN, dExpr, dMt, gAppend, gExtend, gClear, dSetI, dNil, dIfS, dBrk, dCnt, dNever, dFor, dPar, dVar, dC, dOp, dUn, fI, fAdd, fSub, fLt, fLe, fGt, fGe, fNeg, isNo, fIsN, fNotN, fIxL, fIxT, dTest, dTAnd, dTOr, dTNot, dIf, dAnd, dOr, dNot, dChain, dANil, dACons, allD, dTup, dLst, dApp, dCall, dCallM, dCallC, dCallP, dAS, mkL, nMb, isM, isC, dBor, dBorF, dTBor, dYes, dIL, dIT, dR1, dR2, dGNil, dGCons, dGT, fin_nil, fin_d, fin_c, fin_m, fLen, f1, f2, fAbs, fMax2, fMin2, fInt1, fListOf, dRev, dIsi, dIxC, dLenC, atI, ixN, okM_none, okM_d, okM_c, okM_m, fixD, fixDs, sz', Option.bind_some, Option.bind_none, Option.map_some, Option.map_none, List.map_cons, List.map_nil, List.cons_append, List.nil_append, List.length_cons, List.length_nil, List.getElem?_cons_zero, List.getElem?_cons_succ, List.set_cons_zero, List.set_cons_succ, List.replicate_succ, List.replicate_zero, List.all_cons, List.all_nil, Bool.and_self, Bool.and_true, Bool.true_and, Bool.false_and, Bool.and_false, Bool.or_true, Bool.true_or, Bool.false_or, Bool.or_false, Bool.not_true, Bool.not_false, if_true, if_false, reduceIte, Bool.false_eq_true, Nat.reduceAdd, Nat.reduceLT, Nat.reduceSub, Nat.reduceMul, Int.reduceEq, Int.reduceSub, Int.reduceMul, Int.reducePow, Int.reduceDiv, Int.reduceMod, Nat.reduceLeDiff, Nat.reduceEqDiff, and_self, and_true, true_and, Int.natCast_add, Int.reduceAdd, Int.reduceLT, Int.reduceLE, Int.reduceToNat, Int.reduceNeg, Int.toNat_zero, Int.toNat_one, Int.zero_lt_one, Int.le_refl, Int.reduceNegSucc, Int.cast_ofNat_Int, Nat.zero_add, Nat.add_zero]
  · simp only [m_L_fits, e3, ec, h1, decide_true, decide_false, false_and, dFun, dSeq, dAsg, dN, dNew, dSetM, dRet, dRetM, dRetN, dExpr, dMt, gAppend, gExtend, gClear, dSetI, dNil, dIfS, dBrk, dCnt, dNever, dFor, dPar, dVar, dC, dOp, dUn, fI, fAdd, fSub, fLt, fLe, fGt, fGe, fNeg, isNo, fIsN, fNotN, fIxL, fIxT, dTest, dTAnd, dTOr, dTNot, dIf, dAnd, dOr, dNot, dChain, dANil, dACons, allD, dTup, dLst, dApp, dCall, dCallM, dCallC, dCallP, dAS, mkL, nMb, isM, isC, dBor, dBorF, dTBor, dYes, dIL, dIT, dR1, dR2, dGNil, dGCons, dGT, fin_nil, fin_d, fin_c, fin_m, fLen, f1, f2, fAbs, fMax2, fMin2, fInt1, fListOf, dRev, dIsi, dIxC, dLenC, atI, ixN, okM_none, okM_d, okM_c, okM_m, fixD, fixDs, sz', Option.bind_some, Option.bind_none, Option.map_some, Option.map_none, List.map_cons, List.map_nil, List.cons_append, List.nil_append, List.length_cons, List.length_nil, List.getElem?_cons_zero, List.getElem?_cons_succ, List.set_cons_zero, List.set_cons_succ, List.replicate_succ, List.replicate_zero, List.all_cons, List.all_nil, Bool.and_self, Bool.and_true, Bool.true_and, Bool.false_and, Bool.and_false, Bool.or_true, Bool.true_or, Bool.false_or, Bool.or_false, Bool.not_true, Bool.not_false, if_true, if_false, reduceIte, Bool.false_eq_true, Nat.reduceAdd, Nat.reduceLT, Nat.reduceSub, Nat.reduceMul, Int.reduceEq, Int.reduceSub, Int.reduceMul, Int.reducePow, Int.reduceDiv, Int.reduceMod, Nat.reduceLeDiff, Nat.reduceEqDiff, and_self, and_true, true_and, Int.natCast_add, Int.reduceAdd, Int.reduceLT, Int.reduceLE, Int.reduceToNat, Int.reduceNeg, Int.toNat_zero, Int.toNat_one, Int.zero_lt_one, Int.le_refl, Int.reduceNegSucc, Int.cast_ofNat_Int, Nat.zero_add, Nat.add_zero]
structure OkK (kvs : List (List Int × PyData)) (n : Nat) : Prop where
  len : kvs.length ≤ n
  fix : fixDs (kvs.map (·.2)) = true
theorem OkK.put {kvs : List (List Int × PyData)} {n : Nat} (o : OkK kvs n) (k : List Int) : OkK (putP kvs k (.bool true)) (n + 1) := by
  refine ⟨Nat.le_trans (putP_len kvs k _) (by have := o.len; omega), ?_⟩
  have := o.fix
  clear o
  induction kvs with
  | nil => rfl
  | cons t r ih =>
    rw [List.map_cons, fixDs, Bool.and_eq_true] at this
    unfold putP
    split
    · rw [List.map_cons, fixDs, this.2]; rfl
    · rw [List.map_cons, fixDs, this.1, ih this.2]; rfl
theorem inD_eq (kvs : List (List Int × PyData)) (c : Cl) : fInD false (ec c) (.dict (dctP kvs)) = some (.bool (getP kvs [c.1, c.2]).isSome) := by
  show (tkP (dctP kvs)).bind _ = _
  rw [tkP_dct]
  show some (PyData.bool (false != (getP kvs [c.1, c.2]).isSome)) = _
  simp
theorem tborK' {i : Nat} {f : DT} {τ : DS} {m : List (List Int × PyData)} {b : Bool} (hi : τ[i]? = some (some (.k m))) (hf : f (τ.set i (some (.d (.dict (dctP m))))) = some (b, τ.set i (some (.d (.dict (dctP m)))))) (hok : (τ.set i (some (.d (.dict (dctP m))))).all okM = true) : dTBor i f τ = some (b, τ) := by
  unfold dTBor
  rw [hi]
  dsimp only
  rw [hf]
  dsimp only [Option.bind]
  rw [if_pos hok, List.set_set]
  congr 2
  obtain ⟨hlt, he⟩ := List.getElem?_eq_some_iff.mp hi
  rw [← he, List.set_getElem_self]
def cellsOf (s : S3) : List Cl := rowC s.1 s.2.1 s.2.2.toNat
theorem free_eq (kvs : List (List Int × PyData)) (cs : List Cl) (hz : cs.length ≤ 900) {τ : DS} (h1 : τ[11]? = some (some (.d (.list (cs.map ec))))) (h4 : τ[4]? = some (some (.d (.dict (dctP kvs))))) :
    dTest (dOp fEq (dLC 1 [4] (dIL (dVar 11)) (dN 0) (dTest (dOp (fInD false) (dVar 0) (dVar 1))) (dVar 0)) (dLst dANil)) τ = some (decide (cs.filter (fun c => (getP kvs [c.1, c.2]).isSome) = []), τ) := by
  obtain ⟨τb, el⟩ := lc_list (enc := ec) (g := dN 0) (c := dTest (dOp (fInD false) (dVar 0) (dVar 1))) (e := dVar 0) (fun τ => ∃ o, nM o ∧ τ = [o, some (.d (.dict (dctP kvs)))]) (fun c => (getP kvs [c.1, c.2]).isSome) ec (xs := cs) (acc := []) (τ := [none, some (.d (.dict (dctP kvs)))]) ⟨none, nM_none, rfl⟩ (by
    rintro c τ _ ⟨o, ho, rfl⟩
    refine ⟨_, [some (.d (ec c)), some (.d (.dict (dctP kvs)))], dN_eq (o := o) rfl ho, tst (op2 rfl rfl (inD_eq kvs c)), fun _ => ⟨_, nM_d, rfl⟩, fun _ => ⟨[some (.d (ec c)), some (.d (.dict (dctP kvs)))], rfl, _, nM_d, rfl⟩⟩)
  rw [List.nil_append] at el
  have hb : blkD 1 [4] τ = [none, some (.d (.dict (dctP kvs)))] := by
    unfold blkD
    show [none] ++ [noG (τ[4]?).join] = _
    rw [h4]; rfl
  have hi : dIL (dVar 11) τ = some (cs.map ec, τ) := by
    unfold dIL dVar
    rw [h1]; rfl
  have hm : ([4].all fun j => !isM τ j) = true := by
    show (!isM τ 4 && true) = true
    unfold isM
    rw [h4]; rfl
  have e1 := dlc_eq (own := 1) (fr := [4]) (g := dN 0) (c := dTest (dOp (fInD false) (dVar 0) (dVar 1))) (e := dVar 0) hi (by rw [List.length_map]; exact sz (by omega)) hm (by rw [hb]; exact el)
  exact tst (op2 e1 (y := .list (([] : List Cl).map ec)) rfl (encC.fEqL _ _))
def strBody : DB := dSeq (dAsg (dCallM 0 m_L_digit (dACons (dVar 1) dANil)) (dN 8)) (dSeq (dAsg (dCallM 0 m_L_digit (dACons (dVar 2) dANil)) (dN 9)) (dSeq (dAsg (dTup (dACons (dVar 8) (dACons (dVar 9) (dACons (dOp fAdd (dC (.int 1)) (dCallM 0 m_L_digit (dACons (dOp fSub (dVar 1) (dVar 8)) dANil))) dANil)))) (dN 10)) (dSeq (dAsg (dLC 1 [9, 8] (dR1 (dACons (dOp fIxT (dVar 10) (dC (.int 2))) dANil)) (dN 0) dYes (dTup (dACons (dOp fAdd (dVar 2) (dVar 0)) (dACons (dVar 1) dANil)))) (dN 11)) (dIfS (dTBor 4 (dTAnd (dTest (dCall m_L_fits (dACons (dVar 1) (dACons (dVar 2) (dACons (dVar 10) (dACons (dVar 3) dANil)))))) (dTest (dOp fEq (dLC 1 [4] (dIL (dVar 11)) (dN 0) (dTest (dOp (fInD false) (dVar 0) (dVar 1))) (dVar 0)) (dLst dANil))))) (dSeq (dExpr (dMt 6 gAppend (dACons (dVar 10) dANil))) (dFor (dIL (dVar 11)) (dN 12) (dPutK 4 (dC (.bool true)) (dVar 12)))) dNil))))
theorem rng_shift (x : Int) (n : Nat) : (rng 0 n).map (fun k => x + k) = rng x n := by
  unfold rng
  rw [List.map_map]
  refine List.map_congr_left fun k _ => ?_
  show x + (0 + (k : Int)) = x + k
  omega
section
variable {w h : Nat} {sh : Cl} {most : Int}
theorem str_step {u k : Int} {kvs : List (List Int × PyData)} {n : Nat} {ss : List S3} {a b c d e : Option L} (w1 : 1 ≤ w) (w9 : w ≤ 9) (h1 : 1 ≤ h) (h9 : h ≤ 9) (ok : OkK kvs n) (hn : n ≤ 500) (hs : ss.length ≤ 20) (n8 : nM a) (n9 : nM b) (n10 : nM c) (n11 : nM d) (n12 : nM e) :
    ∃ (u' : Int) (kvs' : List (List Int × PyData)) (ss' : List S3) (a' b' c' d' e' : Option L), strBody [some (.m [.int u]), some (.d (.int w)), some (.d (.int h)), some (.d (ec sh)), some (.k kvs), some (.d (.int most)), some (.m (ss.map e3)), some (.d (.int k)), a, b, c, d, e] = some (.nx [some (.m [.int u']), some (.d (.int w)), some (.d (.int h)), some (.d (ec sh)), some (.k kvs'), some (.d (.int most)), some (.m (ss'.map e3)), some (.d (.int k)), a', b', c', d', e']) ∧
      OkK kvs' (n + 9) ∧ nM a' ∧ nM b' ∧ nM c' ∧ nM d' ∧ nM e' ∧ (ss' = ss ∨ ∃ s, ss' = ss ++ [s] ∧ InB w h s ∧ FitB w h sh s) := by
  have hw : (0 : Int) < w := by omega
  have hh : (0 : Int) < h := by omega
  have x0 := Int.emod_nonneg u (b := (w : Int)) (by omega)
  have x1 := Int.emod_lt_of_pos u hw
  let x := u % w
  let u1 := u / w
  have y0 := Int.emod_nonneg u1 (b := (h : Int)) (by omega)
  have y1 := Int.emod_lt_of_pos u1 hh
  let y := u1 % h
  let u2 := u1 / h
  have hwx : 0 < (w : Int) - x := by show 0 < (w : Int) - u % w; omega
  have m0 := Int.emod_nonneg u2 (b := (w : Int) - x) (by omega)
  have m1 := Int.emod_lt_of_pos u2 hwx
  let m := 1 + u2 % ((w : Int) - x)
  let u3 := u2 / ((w : Int) - x)
  let s : S3 := (x, y, m)
  have hx : 0 ≤ x ∧ x < w := ⟨x0, x1⟩
  have hy : 0 ≤ y ∧ y < h := ⟨y0, y1⟩
  have hm : 1 ≤ m ∧ x + m ≤ w := by
    show 1 ≤ 1 + u2 % ((w : Int) - x) ∧ x + (1 + u2 % ((w : Int) - x)) ≤ w
    omega
  let st := fun (u : Int) (kvs : List (List Int × PyData)) (ss : List S3) (a b c d e : Option L) => [some (.m [.int u]), some (.d (.int (w : Int))), some (.d (.int (h : Int))), some (.d (ec sh)), some (.k kvs), some (.d (.int most)), some (.m (ss.map e3)), some (.d (.int k)), a, b, c, d, e]
  have q1 : dAsg (dCallM 0 m_L_digit (dACons (dVar 1) dANil)) (dN 8) (st u kvs ss a b c d e) = some (.nx (st u1 kvs ss (some (.d (.int x))) b c d e)) :=
    asg_nx (callM_eq (τ1 := st u kvs ss a b c d e) (rs := [.d (.int w)]) (ds := [.int w]) (xs := [.int u]) rfl rfl rfl (L_dig hw (by omega))) (dN_eq (o := a) rfl n8)
  have q2 : dAsg (dCallM 0 m_L_digit (dACons (dVar 2) dANil)) (dN 9) (st u1 kvs ss (some (.d (.int x))) b c d e) = some (.nx (st u2 kvs ss (some (.d (.int x))) (some (.d (.int y))) c d e)) :=
    asg_nx (callM_eq (τ1 := st u1 kvs ss (some (.d (.int x))) b c d e) (rs := [.d (.int h)]) (ds := [.int h]) (xs := [.int u1]) rfl rfl rfl (L_dig hh (by omega))) (dN_eq (o := b) rfl n9)
  have q3 : dAsg (dTup (dACons (dVar 8) (dACons (dVar 9) (dACons (dOp fAdd (dC (.int 1)) (dCallM 0 m_L_digit (dACons (dOp fSub (dVar 1) (dVar 8)) dANil))) dANil)))) (dN 10) (st u2 kvs ss (some (.d (.int x))) (some (.d (.int y))) c d e) = some (.nx (st u3 kvs ss (some (.d (.int x))) (some (.d (.int y))) (some (.d (e3 s))) d e)) := by
    have z := op2 (F := fAdd) (f := dC (.int 1)) (g := dCallM 0 m_L_digit (dACons (dOp fSub (dVar 1) (dVar 8)) dANil)) (x := .int 1) (y := .int (u2 % ((w : Int) - x))) (r := .int m) (τ := st u2 kvs ss (some (.d (.int x))) (some (.d (.int y))) c d e) rfl (callM_eq (τ1 := st u2 kvs ss (some (.d (.int x))) (some (.d (.int y))) c d e) (rs := [.d (.int ((w : Int) - x))]) (ds := [.int ((w : Int) - x)]) (xs := [.int u2]) rfl rfl rfl (L_dig hwx (by omega))) rfl
    refine asg_nx (d := e3 s) (τ1 := st u3 kvs ss (some (.d (.int x))) (some (.d (.int y))) c d e) ?_ (dN_eq (o := c) rfl n10)
    have z2 := acc (f := dVar 8) (d := .int x) (τ := st u2 kvs ss (some (.d (.int x))) (some (.d (.int y))) c d e) rfl (acc (f := dVar 9) (d := .int y) (τ := st u2 kvs ss (some (.d (.int x))) (some (.d (.int y))) c d e) rfl (ac1 z))
    unfold dTup
    rw [z2]; rfl
  have hcl : cellsOf s = (rng 0 m.toNat).map fun k => (x + k, y) := by
    show rowC x y m.toNat = _
    unfold rowC
    rw [← rng_shift, List.map_map]; rfl
  have q4 : dAsg (dLC 1 [9, 8] (dR1 (dACons (dOp fIxT (dVar 10) (dC (.int 2))) dANil)) (dN 0) dYes (dTup (dACons (dOp fAdd (dVar 2) (dVar 0)) (dACons (dVar 1) dANil)))) (dN 11) (st u3 kvs ss (some (.d (.int x))) (some (.d (.int y))) (some (.d (e3 s))) d e) = some (.nx (st u3 kvs ss (some (.d (.int x))) (some (.d (.int y))) (some (.d (e3 s))) (some (.d (.list ((cellsOf s).map ec)))) e)) := by
    refine asg_nx (d := .list ((cellsOf s).map ec)) (τ1 := st u3 kvs ss (some (.d (.int x))) (some (.d (.int y))) (some (.d (e3 s))) d e) ?_ (dN_eq (o := d) rfl n11)
    obtain ⟨τb, el⟩ := lc_list (enc := PyData.int) (g := dN 0) (c := dYes) (e := dTup (dACons (dOp fAdd (dVar 2) (dVar 0)) (dACons (dVar 1) dANil))) (fun τ => ∃ o, nM o ∧ τ = [o, some (.d (.int y)), some (.d (.int x))]) (fun _ => true) (fun j => ec (x + j, y)) (xs := rng 0 m.toNat) (acc := []) (τ := [none, some (.d (.int y)), some (.d (.int x))]) ⟨none, nM_none, rfl⟩ (by
      rintro j τ _ ⟨o, ho, rfl⟩
      exact ⟨_, [some (.d (.int j)), some (.d (.int y)), some (.d (.int x))], dN_eq (o := o) rfl ho, rfl, fun z => (nomatch z), fun _ => ⟨[some (.d (.int j)), some (.d (.int y)), some (.d (.int x))], rfl, _, nM_d, rfl⟩⟩)
    rw [List.nil_append, List.filter_eq_self.mpr (fun _ _ => rfl)] at el
    rw [hcl, List.map_map]
    exact dlc_eq (τb := τb) (r1_eq (n := m) rfl (by omega) (by omega)) (by rw [List.length_map, rng_len]; exact sz (by omega)) rfl el
  have hlen : (cellsOf s).length ≤ 9 := by
    rw [hcl, List.length_map, rng_len]; omega
  let τ4 := st u3 kvs ss (some (.d (.int x))) (some (.d (.int y))) (some (.d (e3 s))) (some (.d (.list ((cellsOf s).map ec)))) e
  have q5 : dTBor 4 (dTAnd (dTest (dCall m_L_fits (dACons (dVar 1) (dACons (dVar 2) (dACons (dVar 10) (dACons (dVar 3) dANil)))))) (dTest (dOp fEq (dLC 1 [4] (dIL (dVar 11)) (dN 0) (dTest (dOp (fInD false) (dVar 0) (dVar 1))) (dVar 0)) (dLst dANil)))) τ4 = some (decide (FitB w h sh s) && decide ((cellsOf s).filter (fun c => (getP kvs [c.1, c.2]).isSome) = []), τ4) := by
    refine tborK' (m := kvs) rfl (tand (tst (call_eq (rs := [.d (.int w), .d (.int h), .d (e3 s), .d (ec sh)]) (ds := [.int w, .int h, e3 s, ec sh]) rfl rfl fits_eq)) (free_eq kvs (cellsOf s) (by omega) rfl rfl)) ?_
    have e6 : okM (some (.m (ss.map e3))) = true := enc3.fixL ss
    have e12 : okM e = true := by
      cases e with
      | none => rfl
      | some l => cases l with
        | m xs => exact absurd rfl (n12.1 xs)
        | k xs => exact absurd rfl (n12.2 xs)
        | d _ => rfl
        | c _ => rfl
        | g _ => rfl
    show ((okM _) && (_ && (_ && (_ && (_ && (_ && (okM (some (.m (ss.map e3))) && (_ && (_ && (_ && (_ && (_ && (okM e && true))))))))))))) = true
    rw [e6, e12]; rfl
  unfold strBody
  by_cases hc : FitB w h sh s ∧ (cellsOf s).filter (fun c => (getP kvs [c.1, c.2]).isSome) = []
  · rw [decide_eq_true hc.1, decide_eq_true hc.2] at q5
    have lp : ∃ τ', dLoop (dN 12) (dPutK 4 (dC (.bool true)) (dVar 12)) ((cellsOf s).map ec) (st u3 kvs (ss ++ [s]) (some (.d (.int x))) (some (.d (.int y))) (some (.d (e3 s))) (some (.d (.list ((cellsOf s).map ec)))) e) = some (.nx τ') ∧ ∃ kv e', nM e' ∧ OkK kv (n + (cellsOf s).length) ∧ τ' = st u3 kv (ss ++ [s]) (some (.d (.int x))) (some (.d (.int y))) (some (.d (e3 s))) (some (.d (.list ((cellsOf s).map ec)))) e' := by
      refine loop_pre (fun (pre : List Cl) τ => ∃ kv e', nM e' ∧ OkK kv (n + pre.length) ∧ τ = st u3 kv (ss ++ [s]) (some (.d (.int x))) (some (.d (.int y))) (some (.d (e3 s))) (some (.d (.list ((cellsOf s).map ec)))) e') ⟨kvs, e, n12, ok, rfl⟩ ?_
      rintro pre q post τ hp ⟨kv, e', he', okv, rfl⟩
      have hl := split_len hp
      have hz : kv.length < sizeLine := Nat.lt_of_le_of_lt okv.len (Nat.lt_of_lt_of_le (show n + pre.length < 1000 by omega) (by decide))
      refine ⟨_, st u3 (putP kv [q.1, q.2] (.bool true)) (ss ++ [s]) (some (.d (.int x))) (some (.d (.int y))) (some (.d (e3 s))) (some (.d (.list ((cellsOf s).map ec)))) (some (.d (ec q))), dN_eq (o := e') rfl he', ?_, _, _, nM_d, ?_, rfl⟩
      · show (if kv.length < sizeLine then _ else _) = _
        rw [if_pos hz]; rfl
      · rw [List.length_append, List.length_singleton, ← Nat.add_assoc]
        exact okv.put _
    obtain ⟨τ', el, kv, e', he', okv, rfl⟩ := lp
    refine ⟨u3, kv, ss ++ [s], _, _, _, _, e', (seq_nx q1).trans ((seq_nx q2).trans ((seq_nx q3).trans ((seq_nx q4).trans ((ifs_t q5).trans ((seq_nx (τ1 := st u3 kvs (ss ++ [s]) (some (.d (.int x))) (some (.d (.int y))) (some (.d (e3 s))) (some (.d (.list ((cellsOf s).map ec)))) e) ?_).trans ((for_eq rfl).trans el)))))), ⟨by have := okv.len; omega, okv.fix⟩, nM_d, nM_d, nM_d, nM_d, he', .inr ⟨s, rfl, ⟨hx.1, hm.1, hm.2, hy.1, hy.2⟩, hc.1⟩⟩
    show ((if (ss.map e3).length < sizeLine then some (PyData.none, ss.map e3 ++ [e3 s]) else none).map _).map _ = _
    rw [if_pos (Nat.lt_of_le_of_lt (show (ss.map e3).length ≤ 20 by rw [List.length_map]; exact hs) (by decide))]
    show some (Out.nx _) = some (Out.nx _)
    congr 2
    show [some (.m [.int u3]), some (.d (.int (w : Int))), some (.d (.int (h : Int))), some (.d (ec sh)), some (.k kvs), some (.d (.int most)), some (.m (ss.map e3 ++ [e3 s])), some (.d (.int k)), some (.d (.int x)), some (.d (.int y)), some (.d (e3 s)), some (.d (.list ((cellsOf s).map ec))), e] = [some (.m [.int u3]), some (.d (.int (w : Int))), some (.d (.int (h : Int))), some (.d (ec sh)), some (.k kvs), some (.d (.int most)), some (.m ((ss ++ [s]).map e3)), some (.d (.int k)), some (.d (.int x)), some (.d (.int y)), some (.d (e3 s)), some (.d (.list ((cellsOf s).map ec))), e]
    rw [List.map_append]; rfl
  · have hb : (decide (FitB w h sh s) && decide ((cellsOf s).filter (fun c => (getP kvs [c.1, c.2]).isSome) = [])) = false := by
      by_cases h1 : FitB w h sh s
      · rw [decide_eq_false (fun z => hc ⟨h1, z⟩), Bool.and_false]
      · rw [decide_eq_false h1, Bool.false_and]
    rw [hb] at q5
    exact ⟨u3, kvs, ss, _, _, _, _, e, (seq_nx q1).trans ((seq_nx q2).trans ((seq_nx q3).trans ((seq_nx q4).trans ((ifs_f q5).trans rfl)))), ⟨by have := ok.len; omega, ok.fix⟩, nM_d, nM_d, nM_d, nM_d, n12, .inl rfl⟩
theorem stretches_eq {u : Int} {kvs : List (List Int × PyData)} {n : Nat} (w1 : 1 ≤ w) (w9 : w ≤ 9) (h1 : 1 ≤ h) (h9 : h ≤ 9) (ok : OkK kvs n) (hn : n ≤ 100) (m0 : 1 ≤ most) (m9 : most ≤ 9) :
    ∃ (u' : Int) (kvs' : List (List Int × PyData)) (ss : List S3), m_L_stretches [.m [.int u], .d (.int w), .d (.int h), .d (ec sh), .k kvs, .d (.int most)] = some (.list (ss.map e3), [.m [.int u'], .d (.int w), .d (.int h), .d (ec sh), .k kvs', .d (.int most)]) ∧ OkK kvs' (n + 90) ∧ ss.length ≤ 9 ∧ ∀ s ∈ ss, InB w h s ∧ FitB w h sh s := by
  let st := fun (u : Int) (kvs : List (List Int × PyData)) (ss : List S3) (z a b c d e : Option L) => [some (.m [.int u]), some (.d (.int (w : Int))), some (.d (.int (h : Int))), some (.d (ec sh)), some (.k kvs), some (.d (.int most)), some (.m (ss.map e3)), z, a, b, c, d, e]
  have z0 := Int.emod_nonneg u (b := most + 1) (by omega)
  have z1 := Int.emod_lt_of_pos u (b := most + 1) (by omega)
  have lp : ∃ τ', dLoop (dN 7) strBody ((rng 0 (u % (most + 1)).toNat).map PyData.int) (st (u / (most + 1)) kvs [] none none none none none none) = some (.nx τ') ∧ ∃ u' kv ss z a b c d e, nM z ∧ nM a ∧ nM b ∧ nM c ∧ nM d ∧ nM e ∧ OkK kv (n + 9 * (rng 0 (u % (most + 1)).toNat).length) ∧ ss.length ≤ (rng 0 (u % (most + 1)).toNat).length ∧ (∀ s ∈ ss, InB w h s ∧ FitB w h sh s) ∧ τ' = st u' kv ss z a b c d e := by
    refine loop_pre (fun (pre : List Int) τ => ∃ u' kv ss z a b c d e, nM z ∧ nM a ∧ nM b ∧ nM c ∧ nM d ∧ nM e ∧ OkK kv (n + 9 * pre.length) ∧ ss.length ≤ pre.length ∧ (∀ s ∈ ss, InB w h s ∧ FitB w h sh s) ∧ τ = st u' kv ss z a b c d e) ⟨_, kvs, [], none, none, none, none, none, none, nM_none, nM_none, nM_none, nM_none, nM_none, nM_none, ok, Nat.le_refl _, fun s hs => by simp at hs, rfl⟩ ?_
    rintro pre k post τ hp ⟨u', kv, ss, z, a, b, c, d, e, nz, na, nb, nc, nd, ne, okv, hl, hss, rfl⟩
    have hpl := split_len hp
    rw [rng_len] at hpl
    obtain ⟨u2, kv2, ss2, a2, b2, c2, d2, e2, es, ok2, na2, nb2, nc2, nd2, ne2, hs2⟩ := str_step (w := w) (h := h) (sh := sh) (most := most) (u := u') (k := k) (kvs := kv) (ss := ss) (n := n + 9 * pre.length) w1 w9 h1 h9 okv (by omega) (by omega) na nb nc nd ne
    refine ⟨_, _, dN_eq (o := z) rfl nz, es, u2, kv2, ss2, _, a2, b2, c2, d2, e2, nM_d, na2, nb2, nc2, nd2, ne2, ⟨by have := ok2.len; rw [List.length_append, List.length_singleton]; omega, ok2.fix⟩, ?_, ?_, rfl⟩
    · rw [List.length_append, List.length_singleton]
      rcases hs2 with rfl | ⟨s, rfl, _⟩
      · omega
      · rw [List.length_append, List.length_singleton]; omega
    · rcases hs2 with rfl | ⟨s, rfl, q⟩
      · exact hss
      · intro t ht
        rcases List.mem_append.mp ht with ht | ht
        · exact hss t ht
        · rw [List.mem_singleton.mp ht]; exact q
  obtain ⟨τ', el, u', kv, ss, z, a, b, c, d, e, _, _, _, _, _, _, okv, hl, hss, rfl⟩ := lp
  rw [rng_len] at okv hl
  refine ⟨u', kv, ss, ?_, ⟨by have := okv.len; omega, okv.fix⟩, by omega, hss⟩
  unfold m_L_stretches
  refine fun_rt (τ := st u' kv ss z a b c d e) ?_ rfl rfl
  refine (seq_nx (τ1 := st u kvs [] none none none none none none) rfl).trans ?_
  exact (seq_nx ((for_eq (τ1 := st (u / (most + 1)) kvs [] none none none none none none) (r1_eq (n := u % (most + 1)) (ac1 (callM_eq (τ1 := st u kvs [] none none none none none none) (rs := [.d (.int (most + 1))]) (ds := [.int (most + 1)]) (xs := [.int u]) rfl rfl rfl (L_dig (by omega) (by omega)))) (by omega) (by omega))).trans el)).trans rfl
end
def wr (src : Pc) (sh : Cl) (Q : Pc) (c : Cl) : Pc := pcPut Q c.1 c.2 (pcGet src (c.1 - sh.1) (c.2 - sh.2))
def wr0 (src : Pc) (Q : Pc) (c : Cl) : Pc := pcPut Q c.1 c.2 (pcGet src c.1 c.2)
def cellsAll (ss : List S3) : List Cl := ss.flatMap cellsOf
theorem mem_cellsOf {s : S3} {c : Cl} (h : c ∈ cellsOf s) : c.2 = s.2.1 ∧ s.1 ≤ c.1 ∧ c.1 < s.1 + s.2.2 := by
  unfold cellsOf rowC at h
  obtain ⟨u, hu, rfl⟩ := List.mem_map.mp h
  have := mem_rng.mp hu
  exact ⟨rfl, this.1, this.2⟩
theorem cells_s (s : S3) : cells ⟨s.1, s.2.1, s.2.2, 1⟩ = cellsOf s := by
  show (rng s.2.1 1).flatMap (fun v => rowC s.1 v s.2.2.toNat) = _
  have : rng s.2.1 1 = [s.2.1] := by unfold rng; simp
  rw [this]; simp [cellsOf]
section
variable {w h : Nat}
theorem cells_len {ss : List S3} (w9 : w ≤ 9) (hs : ∀ s ∈ ss, InB w h s) : (cellsAll ss).length ≤ 9 * ss.length := by
  induction ss with
  | nil => simp [cellsAll]
  | cons s ss ih =>
    have h1 := ih fun t ht => hs t (List.mem_cons_of_mem _ ht)
    obtain ⟨a1, a2, a3, _⟩ := hs s (List.mem_cons_self ..)
    unfold cellsAll at h1 ⊢
    rw [List.flatMap_cons, List.length_append, List.length_cons]
    have : (cellsOf s).length = s.2.2.toNat := by unfold cellsOf rowC; rw [List.length_map, rng_len]
    omega
theorem stretch_cells_eq {ss : List S3} (w9 : w ≤ 9) (h9 : h ≤ 9) (hl : ss.length ≤ 9) (hs : ∀ s ∈ ss, InB w h s) : m_stretch_cells [.d (.list (ss.map e3))] = some (.list ((cellsAll ss).map ec), [.d (.list (ss.map e3))]) := by
  let st := fun (cs : List Cl) (a b c : Option L) => [some (.d (.list (ss.map e3))), some (.m (cs.map ec)), a, b, c]
  have lp : ∃ τ', dLoop (dGT (dGCons (dN 2) (dGCons (dN 3) (dGCons (dN 4) dGNil)))) (dExpr (dMt 1 gExtend (dACons (dCall m_cells_of (dACons (dTup (dACons (dVar 2) (dACons (dVar 3) (dACons (dVar 4) (dACons (dC (.int 1)) dANil))))) dANil)) dANil))) (ss.map e3) (st [] none none none) = some (.nx τ') ∧ ∃ a b c, nM a ∧ nM b ∧ nM c ∧ τ' = st (cellsAll ss) a b c := by
    refine loop_pre (fun (pre : List S3) τ => ∃ a b c, nM a ∧ nM b ∧ nM c ∧ τ = st (cellsAll pre) a b c) ⟨none, none, none, nM_none, nM_none, nM_none, rfl⟩ ?_
    rintro pre s post τ hp ⟨a, b, c, ha, hb, hc, rfl⟩
    obtain ⟨i1, i2, i3, i4, i5⟩ := hs s (by rw [hp]; simp)
    have hpl := split_len hp
    have hcl := cells_len (w := w) (h := h) (ss := pre) w9 fun t ht => hs t (by rw [hp]; exact List.mem_append_left _ ht)
    have hsl : (cellsOf s).length ≤ 9 := by unfold cellsOf rowC; rw [List.length_map, rng_len]; omega
    let st2 := st (cellsAll pre) (some (.d (.int s.1))) (some (.d (.int s.2.1))) (some (.d (.int s.2.2)))
    have e1 := cells_of_eq (b := ⟨s.1, s.2.1, s.2.2, 1⟩) ⟨i2, by show s.2.2 ≤ 12; omega, by show (1 : Int) ≤ 1; decide, by show (1 : Int) ≤ 12; decide⟩ (by show -2000 ≤ s.1; omega) (by show s.1 ≤ 2000; omega) (by show -2000 ≤ s.2.1; omega) (by show s.2.1 ≤ 2000; omega)
    rw [cells_s] at e1
    refine ⟨st2, st (cellsAll (pre ++ [s])) (some (.d (.int s.1))) (some (.d (.int s.2.1))) (some (.d (.int s.2.2))), ?_, ?_, _, _, _, nM_d, nM_d, nM_d, rfl⟩
    · show (dN 2 (.int s.1) (st (cellsAll pre) a b c)).bind _ = _
      rw [dN_eq (o := a) rfl ha]
      show (dN 3 (.int s.2.1) (st (cellsAll pre) (some (.d (.int s.1))) b c)).bind _ = _
      rw [dN_eq (o := b) rfl hb]
      show (dN 4 (.int s.2.2) (st (cellsAll pre) (some (.d (.int s.1))) (some (.d (.int s.2.1))) c)).bind _ = _
      rw [dN_eq (o := c) rfl hc]; rfl
    · have e2 := call_eq (G := m_cells_of) (a := dACons (dTup (dACons (dVar 2) (dACons (dVar 3) (dACons (dVar 4) (dACons (dC (.int 1)) dANil))))) dANil) (τ := st2) (τ1 := st2) (rs := [.d (eb ⟨s.1, s.2.1, s.2.2, 1⟩)]) (ds := [eb ⟨s.1, s.2.1, s.2.2, 1⟩]) rfl rfl e1
      have e3' := extn (i := 1) (rs := [.d (.list ((cellsOf s).map ec))]) (xs := (cellsAll pre).map ec) (ys := (cellsOf s).map ec) (τ := st2) (τ1 := st2) (ac1 e2) rfl rfl (by rw [List.length_map, List.length_map]; omega)
      rw [e3']
      show some (Out.nx (st2.set 1 (some (.m ((cellsAll pre).map ec ++ (cellsOf s).map ec))))) = some (Out.nx (st (cellsAll (pre ++ [s])) _ _ _))
      have : cellsAll (pre ++ [s]) = cellsAll pre ++ cellsOf s := by unfold cellsAll; simp [List.flatMap_append]
      rw [this, ← List.map_append]; rfl
  obtain ⟨τ', el, a, b, c, _, _, _, rfl⟩ := lp
  unfold m_stretch_cells
  refine fun_rt (τ := st (cellsAll ss) a b c) ?_ rfl rfl
  exact (seq_nx (τ1 := st [] none none none) rfl).trans ((seq_nx ((for_eq rfl).trans el)).trans rfl)
theorem ok_fold {f : Pc → Cl → Pc} {cs : List Cl} {P : Pc} (hf : ∀ Q c, c ∈ cs → OkP Q w h → OkP (f Q c) w h) (o : OkP P w h) : OkP (cs.foldl f P) w h := by
  induction cs generalizing P with
  | nil => exact o
  | cons c cs ih => exact ih (fun Q d hd => hf Q d (List.mem_cons_of_mem _ hd)) (hf P c (List.mem_cons_self ..) o)
def GoodC (w h : Nat) (sh : Cl) (c : Cl) : Prop := 0 ≤ c.1 ∧ c.1 < w ∧ 0 ≤ c.2 ∧ c.2 < h ∧ 0 ≤ c.1 - sh.1 ∧ c.1 - sh.1 < w ∧ 0 ≤ c.2 - sh.2 ∧ c.2 - sh.2 < h
theorem good_of {s : S3} {sh : Cl} {c : Cl} (i : InB w h s) (f : FitB w h sh s) (hc : c ∈ cellsOf s) : GoodC w h sh c := by
  obtain ⟨c1, c2, c3⟩ := mem_cellsOf hc
  obtain ⟨i1, i2, i3, i4, i5⟩ := i
  obtain ⟨f1, f2, f3, f4⟩ := f
  unfold GoodC
  omega
theorem good_all {ss : List S3} {sh : Cl} (hs : ∀ s ∈ ss, InB w h s ∧ FitB w h sh s) : ∀ c ∈ cellsAll ss, GoodC w h sh c := fun c hc => by
  obtain ⟨s, h1, h2⟩ := List.mem_flatMap.mp hc
  exact good_of (hs s h1).1 (hs s h1).2 h2
theorem two_ix {P : Pc} (o : OkP P w h) {x y : Int} (x0 : 0 ≤ x) (x1 : x < w) (y0 : 0 ≤ y) (y1 : y < h) {f g k : DX} {τ : DS} (hf : f τ = some (ep P, τ)) (hg : g τ = some (.int y, τ)) (hk : k τ = some (.int x, τ)) : dOp fIxL (dOp fIxL f g) k τ = some (ec (pcGet P x y), τ) :=
  op2 (op2 hf hg (ix_row o y0 y1)) hk (ix_cell o y0 y1 x0 x1)
def epl (sh : Cl) (a b : List S3) : PyData := .tuple [ec sh, .list (a.map e3), .list (b.map e3)]
theorem copied_eq {P : Pc} (hz : P.length ≤ 1000) : m_picture_copied [.d (ep P)] = some (ep P, [.d (ep P)]) := by
  unfold m_picture_copied
  exact fun_rt (τ := [some (.d (ep P))]) (ret_rt (lc_copy rfl hz)) rfl rfl
theorem ls_call {G : List L → Option (PyData × List L)} {a : DA} {τ τ1 : DS} {xs : List PyData} (h : dCall G a τ = some (.list xs, τ1)) : dLs (dCall G a) τ = some (.list xs, τ1) := by
  unfold dLs
  rw [h]; rfl
theorem plan_eq {sh : Cl} {s1 s2 : List S3} {A B : Pc} (w9 : w ≤ 9) (h9 : h ≤ 9) (oA : OkP A w h) (oB : OkP B w h) (l1 : s1.length ≤ 9) (l2 : s2.length ≤ 9) (g1 : ∀ s ∈ s1, InB w h s ∧ FitB w h sh s) (g2 : ∀ s ∈ s2, InB w h s ∧ FitB w h (0, 0) s) :
    ∃ ls, m_plan_done [.d (epl sh s1 s2), .d (ep A), .d (ep B)] = some (ep ((cellsAll s2).foldl (wr0 B) ((cellsAll s1).foldl (wr A sh) A)), ls) := by
  let st := fun (Q : Pc) (x y : Option L) => [some (.d (epl sh s1 s2)), some (.d (ep A)), some (.d (ep B)), some (.d (ec sh)), some (.g (ep Q)), x, y]
  let sd := fun (Q : Pc) (x y : Option L) => [some (.d (epl sh s1 s2)), some (.d (ep A)), some (.d (ep B)), some (.d (ec sh)), some (.d (ep Q)), x, y]
  have q1 := good_all g1
  have q2 := good_all g2
  have tg : ∀ (Q : Pc) (x y : Option L) (c : Cl), nM x → nM y → dGT (dGCons (dN 5) (dGCons (dN 6) dGNil)) (ec c) (st Q x y) = some (st Q (some (.d (.int c.1))) (some (.d (.int c.2)))) := fun Q x y c hx hy => by
    show (dN 5 (.int c.1) (st Q x y)).bind _ = _
    rw [dN_eq (o := x) rfl hx]
    show (dN 6 (.int c.2) (st Q (some (.d (.int c.1))) y)).bind _ = _
    rw [dN_eq (o := y) rfl hy]; rfl
  have lp1 : ∃ τ', dLoop (dGT (dGCons (dN 5) (dGCons (dN 6) dGNil))) (dSetGG 4 (dOp fIxL (dOp fIxL (dVar 1) (dOp fSub (dVar 6) (dOp fIxT (dVar 3) (dC (.int 1))))) (dOp fSub (dVar 5) (dOp fIxT (dVar 3) (dC (.int 0))))) (dVar 6) (dVar 5)) ((cellsAll s1).map ec) (st A none none) = some (.nx τ') ∧ ∃ x y, nM x ∧ nM y ∧ OkP ((cellsAll s1).foldl (wr A sh) A) w h ∧ τ' = st ((cellsAll s1).foldl (wr A sh) A) x y := by
    refine loop_pre (fun (pre : List Cl) τ => ∃ x y, nM x ∧ nM y ∧ OkP (pre.foldl (wr A sh) A) w h ∧ τ = st (pre.foldl (wr A sh) A) x y) ⟨none, none, nM_none, nM_none, oA, rfl⟩ ?_
    rintro pre c post τ hp ⟨x, y, hx, hy, oQ, rfl⟩
    obtain ⟨c1, c2, c3, c4, c5, c6, c7, c8⟩ := q1 c (by rw [hp]; simp)
    have ef : (pre ++ [c]).foldl (wr A sh) A = wr A sh (pre.foldl (wr A sh) A) c := by rw [List.foldl_append]; rfl
    refine ⟨_, st (wr A sh (pre.foldl (wr A sh) A) c) (some (.d (.int c.1))) (some (.d (.int c.2))), tg _ x y c hx hy, ?_, _, _, nM_d, nM_d, by rw [ef]; exact oQ.put c3 c4, by rw [ef]⟩
    exact setGG_eq (τ1 := sd (pre.foldl (wr A sh) A) (some (.d (.int c.1))) (some (.d (.int c.2)))) (τ2 := sd (pre.foldl (wr A sh) A) (some (.d (.int c.1))) (some (.d (.int c.2)))) (τ3 := sd (pre.foldl (wr A sh) A) (some (.d (.int c.1))) (some (.d (.int c.2)))) oQ rfl (two_ix oA c5 c6 c7 c8 rfl rfl rfl) rfl rfl rfl c3 c4 c1 c2
  obtain ⟨τ1, el1, x1, y1, nx1, ny1, oQ1, rfl⟩ := lp1
  let Q1 := (cellsAll s1).foldl (wr A sh) A
  have lp2 : ∃ τ', dLoop (dGT (dGCons (dN 5) (dGCons (dN 6) dGNil))) (dSetGG 4 (dOp fIxL (dOp fIxL (dVar 2) (dVar 6)) (dVar 5)) (dVar 6) (dVar 5)) ((cellsAll s2).map ec) (st Q1 x1 y1) = some (.nx τ') ∧ ∃ x y, nM x ∧ nM y ∧ OkP ((cellsAll s2).foldl (wr0 B) Q1) w h ∧ τ' = st ((cellsAll s2).foldl (wr0 B) Q1) x y := by
    refine loop_pre (fun (pre : List Cl) τ => ∃ x y, nM x ∧ nM y ∧ OkP (pre.foldl (wr0 B) Q1) w h ∧ τ = st (pre.foldl (wr0 B) Q1) x y) ⟨x1, y1, nx1, ny1, oQ1, rfl⟩ ?_
    rintro pre c post τ hp ⟨x, y, hx, hy, oQ, rfl⟩
    obtain ⟨c1, c2, c3, c4, _⟩ := q2 c (by rw [hp]; simp)
    have ef : (pre ++ [c]).foldl (wr0 B) Q1 = wr0 B (pre.foldl (wr0 B) Q1) c := by rw [List.foldl_append]; rfl
    refine ⟨_, st (wr0 B (pre.foldl (wr0 B) Q1) c) (some (.d (.int c.1))) (some (.d (.int c.2))), tg _ x y c hx hy, ?_, _, _, nM_d, nM_d, by rw [ef]; exact oQ.put c3 c4, by rw [ef]⟩
    exact setGG_eq (τ1 := sd (pre.foldl (wr0 B) Q1) (some (.d (.int c.1))) (some (.d (.int c.2)))) (τ2 := sd (pre.foldl (wr0 B) Q1) (some (.d (.int c.1))) (some (.d (.int c.2)))) (τ3 := sd (pre.foldl (wr0 B) Q1) (some (.d (.int c.1))) (some (.d (.int c.2)))) oQ rfl (two_ix oB c1 c2 c3 c4 rfl rfl rfl) rfl rfl rfl c3 c4 c1 c2
  obtain ⟨τ2, el2, x2, y2, nx2, ny2, oQ2, rfl⟩ := lp2
  unfold m_plan_done
  let s0 : DS := [some (.d (epl sh s1 s2)), some (.d (ep A)), some (.d (ep B)), some (.d (ec sh)), none, none, none]
  have eg : dLs (dCall m_picture_copied (dACons (dVar 1) dANil)) s0 = some (ep A, s0) := ls_call (call_eq (rs := [.d (ep A)]) (ds := [ep A]) rfl rfl (copied_eq (by rw [oA.len]; omega)))
  have it1 : dIL (dCall m_stretch_cells (dACons (dOp fIxT (dVar 0) (dC (.int 1))) dANil)) (st A none none) = some ((cellsAll s1).map ec, st A none none) := by
    have := call_eq (G := m_stretch_cells) (a := dACons (dOp fIxT (dVar 0) (dC (.int 1))) dANil) (τ := st A none none) (τ1 := st A none none) (rs := [.d (.list (s1.map e3))]) (ds := [.list (s1.map e3)]) rfl rfl (stretch_cells_eq w9 h9 l1 fun s hs => (g1 s hs).1)
    unfold dIL
    rw [this]; rfl
  have it2 : dIL (dCall m_stretch_cells (dACons (dOp fIxT (dVar 0) (dC (.int 2))) dANil)) (st Q1 x1 y1) = some ((cellsAll s2).map ec, st Q1 x1 y1) := by
    have := call_eq (G := m_stretch_cells) (a := dACons (dOp fIxT (dVar 0) (dC (.int 2))) dANil) (τ := st Q1 x1 y1) (τ1 := st Q1 x1 y1) (rs := [.d (.list (s2.map e3))]) (ds := [.list (s2.map e3)]) rfl rfl (stretch_cells_eq w9 h9 l2 fun s hs => (g2 s hs).1)
    unfold dIL
    rw [this]; rfl
  refine ⟨_, fun_rt (τ := st ((cellsAll s2).foldl (wr0 B) Q1) x2 y2) ?_ rfl rfl⟩
  refine (seq_nx (τ1 := s0) rfl).trans ((seq_nx (τ1 := st A none none) (setG_nx eg (by decide) (by show _ < 7; decide) rfl)).trans ?_)
  exact (seq_nx ((for_eq it1).trans el1)).trans ((seq_nx ((for_eq it2).trans el2)).trans rfl)
end
section
variable {w h : Nat}
theorem due_eq {sh : Cl} {s1 s2 : List S3} {A B : Pc} (w9 : w ≤ 9) (h9 : h ≤ 9) (oA : OkP A w h) (oB : OkP B w h) (g1 : ∀ s ∈ s1, InB w h s ∧ FitB w h sh s) (g2 : ∀ s ∈ s2, InB w h s ∧ FitB w h (0, 0) s) :
    ∃ ls, m_L_due [.d (epl sh s1 s2), .d (ep A), .d (ep B)] = some (ep ((cellsAll s2).foldl (wr0 B) ((cellsAll s1).foldl (wr A sh) A)), ls) := by
  let st := fun (Q : Pc) (x y m k : Option L) => [some (.d (epl sh s1 s2)), some (.d (ep A)), some (.d (ep B)), some (.g (ep Q)), some (.d (.int sh.1)), some (.d (.int sh.2)), x, y, m, k]
  let sd := fun (Q : Pc) (x y m k : Option L) => [some (.d (epl sh s1 s2)), some (.d (ep A)), some (.d (ep B)), some (.d (ep Q)), some (.d (.int sh.1)), some (.d (.int sh.2)), x, y, m, k]
  let dI := fun (i : Int) => some (L.d (.int i))
  have tg : ∀ (Q : Pc) (x y m k : Option L) (s : S3), nM x → nM y → nM m → dGT (dGCons (dN 6) (dGCons (dN 7) (dGCons (dN 8) dGNil))) (e3 s) (st Q x y m k) = some (st Q (dI s.1) (dI s.2.1) (dI s.2.2) k) := fun Q x y m k s hx hy hm => by
    show (dN 6 (.int s.1) (st Q x y m k)).bind _ = _
    rw [dN_eq (o := x) rfl hx]
    show (dN 7 (.int s.2.1) (st Q (dI s.1) y m k)).bind _ = _
    rw [dN_eq (o := y) rfl hy]
    show (dN 8 (.int s.2.2) (st Q (dI s.1) (dI s.2.1) m k)).bind _ = _
    rw [dN_eq (o := m) rfl hm]; rfl
  have cls : ∀ s : S3, cellsOf s = (rng 0 s.2.2.toNat).map fun k => (s.1 + k, s.2.1) := fun s => by
    unfold cellsOf rowC
    rw [← rng_shift, List.map_map]; rfl
  have fm : ∀ {f : Pc → Cl → Pc} {Q : Pc} {x y : Int} (pre : List Int) (k : Int), ((pre ++ [k]).map fun k => (x + k, y)).foldl f Q = f ((pre.map fun k => (x + k, y)).foldl f Q) (x + k, y) := fun {f Q x y} pre k => by rw [List.map_append, List.foldl_append]; rfl
  -- the inner loops
  have in1 : ∀ (s : S3) (Q : Pc) (k : Option L), InB w h s → FitB w h sh s → OkP Q w h → nM k → ∃ k', nM k' ∧ OkP ((cellsOf s).foldl (wr A sh) Q) w h ∧ dFor (dR1 (dACons (dVar 8) dANil)) (dN 9) (dSetGG 3 (dOp fIxL (dOp fIxL (dVar 1) (dOp fSub (dVar 7) (dVar 5))) (dOp fSub (dOp fAdd (dVar 6) (dVar 9)) (dVar 4))) (dVar 7) (dOp fAdd (dVar 6) (dVar 9))) (st Q (dI s.1) (dI s.2.1) (dI s.2.2) k) = some (.nx (st ((cellsOf s).foldl (wr A sh) Q) (dI s.1) (dI s.2.1) (dI s.2.2) k')) := fun s Q k i f oQ nk => by
    have i' := i
    obtain ⟨i1, i2, i3, i4, i5⟩ := i
    have lp : ∃ τ', dLoop (dN 9) (dSetGG 3 (dOp fIxL (dOp fIxL (dVar 1) (dOp fSub (dVar 7) (dVar 5))) (dOp fSub (dOp fAdd (dVar 6) (dVar 9)) (dVar 4))) (dVar 7) (dOp fAdd (dVar 6) (dVar 9))) ((rng 0 s.2.2.toNat).map PyData.int) (st Q (dI s.1) (dI s.2.1) (dI s.2.2) k) = some (.nx τ') ∧ ∃ k', nM k' ∧ OkP (((rng 0 s.2.2.toNat).map fun k => (s.1 + k, s.2.1)).foldl (wr A sh) Q) w h ∧ τ' = st (((rng 0 s.2.2.toNat).map fun k => (s.1 + k, s.2.1)).foldl (wr A sh) Q) (dI s.1) (dI s.2.1) (dI s.2.2) k' := by
      refine loop_pre (fun (pre : List Int) τ => ∃ k', nM k' ∧ OkP ((pre.map fun k => (s.1 + k, s.2.1)).foldl (wr A sh) Q) w h ∧ τ = st ((pre.map fun k => (s.1 + k, s.2.1)).foldl (wr A sh) Q) (dI s.1) (dI s.2.1) (dI s.2.2) k') ⟨k, nk, oQ, rfl⟩ ?_
      rintro pre j post τ hp ⟨k', nk', oR, rfl⟩
      have hj : j ∈ rng 0 s.2.2.toNat := by rw [hp]; simp
      have hm : (s.1 + j, s.2.1) ∈ cellsOf s := by rw [cls]; exact List.mem_map.mpr ⟨j, hj, rfl⟩
      obtain ⟨c1, c2, c3, c4, c5, c6, c7, c8⟩ := good_of i' f hm
      let R := (pre.map fun k => (s.1 + k, s.2.1)).foldl (wr A sh) Q
      refine ⟨st R (dI s.1) (dI s.2.1) (dI s.2.2) (dI j), st (wr A sh R (s.1 + j, s.2.1)) (dI s.1) (dI s.2.1) (dI s.2.2) (dI j), dN_eq (o := k') rfl nk', ?_, _, nM_d, by rw [fm]; exact oR.put c3 c4, by rw [fm]⟩
      exact setGG_eq (τ1 := sd R (dI s.1) (dI s.2.1) (dI s.2.2) (dI j)) (τ2 := sd R (dI s.1) (dI s.2.1) (dI s.2.2) (dI j)) (τ3 := sd R (dI s.1) (dI s.2.1) (dI s.2.2) (dI j)) oR rfl (two_ix oA c5 c6 c7 c8 rfl rfl rfl) rfl rfl rfl c3 c4 c1 c2
    obtain ⟨τ', el, k', nk', oR, rfl⟩ := lp
    rw [← cls] at el oR
    exact ⟨k', nk', oR, (for_eq (r1_eq (n := s.2.2) rfl (by omega) (by omega))).trans el⟩
  have in2 : ∀ (s : S3) (Q : Pc) (k : Option L), InB w h s → FitB w h (0, 0) s → OkP Q w h → nM k → ∃ k', nM k' ∧ OkP ((cellsOf s).foldl (wr0 B) Q) w h ∧ dFor (dR1 (dACons (dVar 8) dANil)) (dN 9) (dSetGG 3 (dOp fIxL (dOp fIxL (dVar 2) (dVar 7)) (dOp fAdd (dVar 6) (dVar 9))) (dVar 7) (dOp fAdd (dVar 6) (dVar 9))) (st Q (dI s.1) (dI s.2.1) (dI s.2.2) k) = some (.nx (st ((cellsOf s).foldl (wr0 B) Q) (dI s.1) (dI s.2.1) (dI s.2.2) k')) := fun s Q k i f oQ nk => by
    have i' := i
    obtain ⟨i1, i2, i3, i4, i5⟩ := i
    have lp : ∃ τ', dLoop (dN 9) (dSetGG 3 (dOp fIxL (dOp fIxL (dVar 2) (dVar 7)) (dOp fAdd (dVar 6) (dVar 9))) (dVar 7) (dOp fAdd (dVar 6) (dVar 9))) ((rng 0 s.2.2.toNat).map PyData.int) (st Q (dI s.1) (dI s.2.1) (dI s.2.2) k) = some (.nx τ') ∧ ∃ k', nM k' ∧ OkP (((rng 0 s.2.2.toNat).map fun k => (s.1 + k, s.2.1)).foldl (wr0 B) Q) w h ∧ τ' = st (((rng 0 s.2.2.toNat).map fun k => (s.1 + k, s.2.1)).foldl (wr0 B) Q) (dI s.1) (dI s.2.1) (dI s.2.2) k' := by
      refine loop_pre (fun (pre : List Int) τ => ∃ k', nM k' ∧ OkP ((pre.map fun k => (s.1 + k, s.2.1)).foldl (wr0 B) Q) w h ∧ τ = st ((pre.map fun k => (s.1 + k, s.2.1)).foldl (wr0 B) Q) (dI s.1) (dI s.2.1) (dI s.2.2) k') ⟨k, nk, oQ, rfl⟩ ?_
      rintro pre j post τ hp ⟨k', nk', oR, rfl⟩
      have hj : j ∈ rng 0 s.2.2.toNat := by rw [hp]; simp
      have hm : (s.1 + j, s.2.1) ∈ cellsOf s := by rw [cls]; exact List.mem_map.mpr ⟨j, hj, rfl⟩
      obtain ⟨c1, c2, c3, c4, _⟩ := good_of i' f hm
      let R := (pre.map fun k => (s.1 + k, s.2.1)).foldl (wr0 B) Q
      refine ⟨st R (dI s.1) (dI s.2.1) (dI s.2.2) (dI j), st (wr0 B R (s.1 + j, s.2.1)) (dI s.1) (dI s.2.1) (dI s.2.2) (dI j), dN_eq (o := k') rfl nk', ?_, _, nM_d, by rw [fm]; exact oR.put c3 c4, by rw [fm]⟩
      exact setGG_eq (τ1 := sd R (dI s.1) (dI s.2.1) (dI s.2.2) (dI j)) (τ2 := sd R (dI s.1) (dI s.2.1) (dI s.2.2) (dI j)) (τ3 := sd R (dI s.1) (dI s.2.1) (dI s.2.2) (dI j)) oR rfl (two_ix oB c1 c2 c3 c4 rfl rfl rfl) rfl rfl rfl c3 c4 c1 c2
    obtain ⟨τ', el, k', nk', oR, rfl⟩ := lp
    rw [← cls] at el oR
    exact ⟨k', nk', oR, (for_eq (r1_eq (n := s.2.2) rfl (by omega) (by omega))).trans el⟩
  have ca : ∀ {f : Pc → Cl → Pc} {Q : Pc} (pre : List S3) (s : S3), (cellsAll (pre ++ [s])).foldl f Q = (cellsOf s).foldl f ((cellsAll pre).foldl f Q) := fun {f Q} pre s => by
    have : cellsAll (pre ++ [s]) = cellsAll pre ++ cellsOf s := by unfold cellsAll; simp [List.flatMap_append]
    rw [this, List.foldl_append]
  have lp1 : ∃ τ', dLoop (dGT (dGCons (dN 6) (dGCons (dN 7) (dGCons (dN 8) dGNil)))) (dFor (dR1 (dACons (dVar 8) dANil)) (dN 9) (dSetGG 3 (dOp fIxL (dOp fIxL (dVar 1) (dOp fSub (dVar 7) (dVar 5))) (dOp fSub (dOp fAdd (dVar 6) (dVar 9)) (dVar 4))) (dVar 7) (dOp fAdd (dVar 6) (dVar 9)))) (s1.map e3) (st A none none none none) = some (.nx τ') ∧ ∃ x y m k, nM x ∧ nM y ∧ nM m ∧ nM k ∧ OkP ((cellsAll s1).foldl (wr A sh) A) w h ∧ τ' = st ((cellsAll s1).foldl (wr A sh) A) x y m k := by
    refine loop_pre (fun (pre : List S3) τ => ∃ x y m k, nM x ∧ nM y ∧ nM m ∧ nM k ∧ OkP ((cellsAll pre).foldl (wr A sh) A) w h ∧ τ = st ((cellsAll pre).foldl (wr A sh) A) x y m k) ⟨none, none, none, none, nM_none, nM_none, nM_none, nM_none, oA, rfl⟩ ?_
    rintro pre s post τ hp ⟨x, y, m, k, hx, hy, hm, hk, oQ, rfl⟩
    obtain ⟨gi, gf⟩ := g1 s (by rw [hp]; simp)
    obtain ⟨k', nk', oR, e⟩ := in1 s _ k gi gf oQ hk
    exact ⟨_, _, tg _ x y m k s hx hy hm, e, _, _, _, k', nM_d, nM_d, nM_d, nk', by rw [ca]; exact oR, by rw [ca]⟩
  obtain ⟨τ1, el1, x1, y1, m1, k1, hx1, hy1, hm1, hk1, oQ1, rfl⟩ := lp1
  let Q1 := (cellsAll s1).foldl (wr A sh) A
  have lp2 : ∃ τ', dLoop (dGT (dGCons (dN 6) (dGCons (dN 7) (dGCons (dN 8) dGNil)))) (dFor (dR1 (dACons (dVar 8) dANil)) (dN 9) (dSetGG 3 (dOp fIxL (dOp fIxL (dVar 2) (dVar 7)) (dOp fAdd (dVar 6) (dVar 9))) (dVar 7) (dOp fAdd (dVar 6) (dVar 9)))) (s2.map e3) (st Q1 x1 y1 m1 k1) = some (.nx τ') ∧ ∃ x y m k, nM x ∧ nM y ∧ nM m ∧ nM k ∧ OkP ((cellsAll s2).foldl (wr0 B) Q1) w h ∧ τ' = st ((cellsAll s2).foldl (wr0 B) Q1) x y m k := by
    refine loop_pre (fun (pre : List S3) τ => ∃ x y m k, nM x ∧ nM y ∧ nM m ∧ nM k ∧ OkP ((cellsAll pre).foldl (wr0 B) Q1) w h ∧ τ = st ((cellsAll pre).foldl (wr0 B) Q1) x y m k) ⟨x1, y1, m1, k1, hx1, hy1, hm1, hk1, oQ1, rfl⟩ ?_
    rintro pre s post τ hp ⟨x, y, m, k, hx, hy, hm, hk, oQ, rfl⟩
    obtain ⟨gi, gf⟩ := g2 s (by rw [hp]; simp)
    obtain ⟨k', nk', oR, e⟩ := in2 s _ k gi gf oQ hk
    exact ⟨_, _, tg _ x y m k s hx hy hm, e, _, _, _, k', nM_d, nM_d, nM_d, nk', by rw [ca]; exact oR, by rw [ca]⟩
  obtain ⟨τ2, el2, x2, y2, m2, k2, _, _, _, _, oQ2, rfl⟩ := lp2
  unfold m_L_due
  let s0 : DS := [some (.d (epl sh s1 s2)), some (.d (ep A)), some (.d (ep B)), none, none, none, none, none, none, none]
  have eg : dLs (dCall m_L_copy (dACons (dVar 1) dANil)) s0 = some (ep A, s0) := ls_call (call_eq (rs := [.d (ep A)]) (ds := [ep A]) rfl rfl (copy_eq (by rw [oA.len]; omega)))
  refine ⟨_, fun_rt (τ := st ((cellsAll s2).foldl (wr0 B) Q1) x2 y2 m2 k2) ?_ rfl rfl⟩
  refine (seq_nx (τ1 := s0.set 3 (some (.g (ep A)))) (setG_nx eg (by decide) (by show _ < 10; decide) rfl)).trans ((seq_nx (τ1 := st A none none none none) rfl).trans ?_)
  exact (seq_nx ((for_eq rfl).trans el1)).trans ((seq_nx ((for_eq rfl).trans el2)).trans rfl)
theorem isfrac (p : Cl) : ∃ ls, m_L_is_fraction [.d (ec p)] = some (.bool true, ls) := ⟨_, rfl⟩
theorem same_eq {P : Pc} (o : OkP P w h) (w9 : w ≤ 9) (h9 : h ≤ 9) : ∃ ls, m_L_same_picture [.d (ep P), .d (ep P)] = some (.bool true, ls) := by
  let st := fun (y : Option L) => [some (L.d (ep P)), some (.d (ep P)), y]
  have ln : ∀ (i : Nat) (y : Option L), i < 2 → dApp fLen (dACons (dVar i) dANil) (st y) = some (.int h, st y) := fun i y hi => by
    have hv : dVar i (st y) = some (ep P, st y) := by
      rcases (show i = 0 ∨ i = 1 by omega) with rfl | rfl <;> rfl
    unfold dApp
    rw [ac1 hv]
    show some (PyData.int ((P.map eL).length : Nat), st y) = _
    rw [List.length_map, o.len]
  have lp : ∃ τ', dLoop (dN 2) (dSeq (dIfS (dTOr (dTNot (dTest (dIsi "list" (dOp fIxL (dVar 0) (dVar 2))))) (dTest (dOp fNe (dOp fIxL (dVar 0) (dVar 2)) (dOp fIxL (dVar 1) (dVar 2))))) (dRet (dC (.bool false))) dNil) (dIfS (dTest (dOp fNe (dLC 1 [] (dIL (dOp fIxL (dVar 0) (dVar 2))) (dN 0) (dTNot (dTest (dCall m_L_is_fraction (dACons (dVar 0) dANil)))) (dVar 0)) (dLst dANil))) (dRet (dC (.bool false))) dNil)) ((rng 0 (h : Int).toNat).map PyData.int) (st none) = some (.nx τ') ∧ ∃ y, nM y ∧ τ' = st y := by
    refine loop_pre (fun (_ : List Int) τ => ∃ y, nM y ∧ τ = st y) ⟨none, nM_none, rfl⟩ ?_
    rintro pre k post τ hp ⟨y, hy, rfl⟩
    have hk := mem_rng.mp (show k ∈ rng 0 (h : Int).toNat by rw [hp]; simp)
    rw [Int.zero_add] at hk
    let r := P.getD k.toNat []
    have er : ∀ i, i < 2 → dOp fIxL (dVar i) (dVar 2) (st (some (.d (.int k)))) = some (eL r, st (some (.d (.int k)))) := fun i hi => by
      rcases (show i = 0 ∨ i = 1 by omega) with rfl | rfl
      · exact op2 (x := ep P) rfl rfl (ix_row o hk.1 hk.2)
      · exact op2 (x := ep P) rfl rfl (ix_row o hk.1 hk.2)
    have t1 : dTest (dIsi "list" (dOp fIxL (dVar 0) (dVar 2))) (st (some (.d (.int k)))) = some (true, st (some (.d (.int k)))) := by
      refine tst ?_
      unfold dIsi
      rw [er 0 (by decide)]; rfl
    have t2 : dTest (dOp fNe (dOp fIxL (dVar 0) (dVar 2)) (dOp fIxL (dVar 1) (dVar 2))) (st (some (.d (.int k)))) = some (false, st (some (.d (.int k)))) := by
      refine tst (op2 (er 0 (by decide)) (er 1 (by decide)) ?_)
      have := encC.fNeL r r
      rw [decide_eq_true (rfl : r = r)] at this
      exact this
    have hr : r.length ≤ 9 := by have := o.row hk.1 hk.2; show (P.getD k.toNat []).length ≤ 9; omega
    have t3 : dTest (dOp fNe (dLC 1 [] (dIL (dOp fIxL (dVar 0) (dVar 2))) (dN 0) (dTNot (dTest (dCall m_L_is_fraction (dACons (dVar 0) dANil)))) (dVar 0)) (dLst dANil)) (st (some (.d (.int k)))) = some (false, st (some (.d (.int k)))) := by
      obtain ⟨τb, el⟩ := lc_list (enc := ec) (g := dN 0) (c := dTNot (dTest (dCall m_L_is_fraction (dACons (dVar 0) dANil)))) (e := dVar 0) (fun τ => ∃ o, nM o ∧ τ = [o]) (fun _ => false) ec (xs := r) (acc := []) (τ := [none]) ⟨none, nM_none, rfl⟩ (by
        rintro c τ _ ⟨o, ho, rfl⟩
        obtain ⟨ls, e⟩ := isfrac c
        exact ⟨_, [some (.d (ec c))], dN_eq (o := o) rfl ho, tnot (b := true) (tst (call_eq (rs := [.d (ec c)]) (ds := [ec c]) rfl rfl e)), fun _ => ⟨_, nM_d, rfl⟩, fun z => (nomatch z)⟩)
      have hf : r.filter (fun _ => false) = [] := by simp
      rw [List.nil_append, hf] at el
      have hi : dIL (dOp fIxL (dVar 0) (dVar 2)) (st (some (.d (.int k)))) = some (r.map ec, st (some (.d (.int k)))) := by
        unfold dIL
        rw [er 0 (by decide)]; rfl
      exact tst (op2 (dlc_eq (τb := τb) hi (by rw [List.length_map]; exact sz (by omega)) rfl el) (y := .list (([] : List Cl).map ec)) rfl (encC.fNeL [] []))
    exact ⟨_, st (some (.d (.int k))), dN_eq (o := y) rfl hy, (seq_nx ((ifs_f (orFF (tnot t1) t2)).trans rfl)).trans ((ifs_f t3).trans rfl), _, nM_d, rfl⟩
  obtain ⟨τ', el, y, hy, rfl⟩ := lp
  unfold m_L_same_picture
  refine ⟨_, fun_rt (τ := st y) ?_ rfl rfl⟩
  have t1 : dTest (dIsi "list" (dVar 0)) (st none) = some (true, st none) := rfl
  have t2 : dTest (dOp fNe (dApp fLen (dACons (dVar 0) dANil)) (dApp fLen (dACons (dVar 1) dANil))) (st none) = some (false, st none) := by
    refine tst (op2 (ln 0 none (by decide)) (ln 1 none (by decide)) ?_)
    have := encI.fNe (h : Int) h
    rw [decide_eq_true (rfl : (h : Int) = h)] at this
    exact this
  exact (seq_nx ((ifs_f (orFF (tnot t1) t2)).trans rfl)).trans ((seq_nx ((for_eq (r1_eq (n := h) (ac1 (ln 1 none (by decide))) (by omega) (by omega))).trans el)).trans rfl)
end
theorem pl_ne (sh : Cl) (a b : List S3) : fNe (epl sh a b) (epl sh a b) = some (.bool false) := by
  unfold epl
  refine fNe_self ?_ ?_ ?_
  · rw [PyData.canLay0, PyData.canLayAll0, PyData.canLayAll0, PyData.canLayAll0, PyData.canLayAll0, encC.can, PyData.canLay0, PyData.canLay0, enc3.canL, enc3.canL]; rfl
  · rw [PyData.depth, PyData.depthAll, PyData.depthAll, PyData.depthAll, PyData.depthAll, PyData.depth, PyData.depth]
    have := enc3.depL a
    have := enc3.depL b
    have := encC.dep sh
    omega
  · rw [PyData.eqv, PyData.eqvAll, PyData.eqvAll, PyData.eqvAll, PyData.eqvAll, encC.eqv, enc3.eqL, enc3.eqL]
    simp
theorem tup_eq {a : DA} {τ τ1 : DS} {rs : List Ar} {ds : List PyData} (h : a τ = some (rs, τ1)) (k : allD rs = some ds) (hz : ds.length ≤ 1000) : dTup a τ = some (.tuple ds, τ1) := by
  unfold dTup
  rw [h]
  show (allD rs).bind _ = _
  rw [k]
  show (if ds.length ≤ sizeLine then _ else _) = _
  rw [if_pos (sz hz)]
theorem callP2_eq {k1 i1 k2 i2 : Nat} {G : List L → Option (PyData × List L)} {a : DA} {τ τ1 : DS} {rs : List Ar} {ls ls' : List L} {d : PyData} {xs xs' : List PyData} {kv kv' : List (List Int × PyData)} (h : a τ = some (rs, τ1)) (hm : mkO τ1 rs = some ls) (r1 : rs[k1]? = some (.s i1)) (r2 : rs[k2]? = some (.s i2)) (n1 : i1 ≠ i2) (n2 : k1 ≠ k2) (hb : ((ls.set k1 (.d .none)).set k2 (.d .none)).all nMb = true) (g : G ls = some (d, ls'))
    (l1 : ls[k1]? = some (.m xs)) (l2 : ls[k2]? = some (.k kv)) (l3 : ls'[k1]? = some (.m xs')) (l4 : ls'[k2]? = some (.k kv')) : dCallP2 k1 i1 k2 i2 G a τ = some (d, (τ1.set i1 (some (.m xs'))).set i2 (some (.k kv'))) := by
  unfold dCallP2
  rw [h]
  show (mkO τ1 rs).bind _ = _
  rw [hm]
  dsimp only [Option.bind]
  rw [r1, r2]
  dsimp only
  rw [if_pos ⟨rfl, rfl, n1, n2, hb⟩, g]
  dsimp only
  rw [l1, l2, l3, l4]
theorem m_law_holds (ns : List Int) (h63 : ns.length ≤ 63) : ∃ ls, m_law [.c (ns.map .int)] = some (.bool true, ls) := by
  obtain ⟨v0, lb, hbig⟩ := L_big (ns := ns) (k := 0) (by decide)
  let C := some (L.c (ns.map .int))
  let I := fun (i : Int) => some (L.d (.int i))
  let M := fun (i : Int) => some (L.m [.int i])
  let w : Nat := (1 + v0 % 9).toNat
  let h : Nat := (1 + v0 / 9 % 6).toNat
  have ew : 1 + v0 % 9 = (w : Int) := by show _ = (((1 + v0 % 9).toNat : Nat) : Int); omega
  have eh : 1 + v0 / 9 % 6 = (h : Int) := by show _ = (((1 + v0 / 9 % 6).toNat : Nat) : Int); omega
  have w1 : 1 ≤ w := by omega
  have w9 : w ≤ 9 := by omega
  have h1 : 1 ≤ h := by omega
  have h6 : h ≤ 9 := by omega
  obtain ⟨A, v3, eA, oA⟩ := picture_by (v := v0 / 9 / 6) (w := w) (h := h) (by omega) (by omega) (by omega) (by omega)
  rw [Int.toNat_natCast, Int.toNat_natCast] at oA
  obtain ⟨B, v4, eB, oB⟩ := next_by (v := v3) oA w1 w9 h1 h6
  let sh : Cl := (v4 % 9 - 4, v4 / 9 % 5 - 2)
  obtain ⟨v5, kv, s1, e1, ok1, l1, g1⟩ := stretches_eq (w := w) (h := h) (sh := sh) (most := 5) (u := v4 / 9 / 5) (kvs := []) (n := 0) w1 w9 h1 h6 ⟨Nat.le_refl _, rfl⟩ (by decide) (by decide) (by decide)
  obtain ⟨v6, kv2, s2, e2, ok2, l2, g2⟩ := stretches_eq (w := w) (h := h) (sh := (0, 0)) (most := 4) (u := v5) (kvs := kv) (n := 90) w1 w9 h1 h6 ok1 (by decide) (by decide) (by decide)
  let D := fun (d : PyData) => some (L.d d)
  let pl := epl sh s1 s2
  let hd : PyData := .list [ep A, ep B]
  let Z := (cellsAll s2).foldl (wr0 B) ((cellsAll s1).foldl (wr A sh) A)
  obtain ⟨lp, ep1⟩ := plan_eq w9 h6 oA oB l1 l2 g1 g2
  obtain ⟨ld, ed⟩ := due_eq w9 h6 oA oB g1 g2
  have oZ : OkP Z w h := ok_fold (fun Q c hc o => o.put (good_all g2 c hc).2.2.1 (good_all g2 c hc).2.2.2.1) (ok_fold (fun Q c hc o => o.put (good_all g1 c hc).2.2.1 (good_all g1 c hc).2.2.2.1) oA)
  obtain ⟨lz, ez⟩ := same_eq oZ w9 h6
  have zA : A.length ≤ 1000 := by rw [oA.len]; omega
  have zB : B.length ≤ 1000 := by rw [oB.len]; omega
  -- the states
  let t0 : DS := [C, none, none, none, none, none, none, none, none, none, none, none, none]
  let t1 : DS := [C, M v0, none, none, none, none, none, none, none, none, none, none, none]
  let t2 : DS := [C, M (v0 / 9), I w, none, none, none, none, none, none, none, none, none, none]
  let t3 : DS := [C, M (v0 / 9 / 6), I w, I h, none, none, none, none, none, none, none, none, none]
  let t4 : DS := [C, M v3, I w, I h, D (ep A), none, none, none, none, none, none, none, none]
  let t5 : DS := [C, M v4, I w, I h, D (ep A), D (ep B), none, none, none, none, none, none, none]
  let t6 : DS := [C, M (v4 / 9 / 5), I w, I h, D (ep A), D (ep B), D (ec sh), none, none, none, none, none, none]
  let t7 : DS := [C, M (v4 / 9 / 5), I w, I h, D (ep A), D (ep B), D (ec sh), some (.k []), none, none, none, none, none]
  let t8 : DS := [C, M v5, I w, I h, D (ep A), D (ep B), D (ec sh), some (.k kv), D (.list (s1.map e3)), none, none, none, none]
  let t9 : DS := [C, M v6, I w, I h, D (ep A), D (ep B), D (ec sh), some (.k kv2), D (.list (s1.map e3)), D pl, none, none, none]
  let t10 : DS := [C, M v6, I w, I h, D (ep A), D (ep B), D (ec sh), some (.k kv2), D (.list (s1.map e3)), D pl, D pl, none, none]
  let t11 : DS := [C, M v6, I w, I h, D (ep A), D (ep B), D (ec sh), some (.k kv2), D (.list (s1.map e3)), D pl, D pl, D hd, none]
  let t12 : DS := [C, M v6, I w, I h, D (ep A), D (ep B), D (ec sh), some (.k kv2), D (.list (s1.map e3)), D pl, D pl, D hd, D (ep Z)]
  unfold m_law
  refine ⟨_, fun_rt (τ := t12) ?_ rfl rfl⟩
  refine (seq_nx (τ1 := t1) (setM_nx (τ1 := t0) (xs := [.int v0]) ?_ (by decide) (by show 1 < 13; decide) rfl)).trans ?_
  · show dLst (dACons (dCallC 0 m_L_big (dACons (dC (.int 0)) dANil)) dANil) t0 = _
    have := callC_eq (i := 0) (G := m_L_big) (a := dACons (dC (.int 0)) dANil) (τ := t0) (τ1 := t0) (rs := [.d (.int 0)]) (ds := [.int 0]) rfl rfl rfl hbig
    unfold dLst
    rw [ac1 this]; rfl
  refine (seq_nx (τ1 := t2) ?_).trans ?_
  · refine asg_nx (d := .int w) (τ1 := [C, M (v0 / 9), none, none, none, none, none, none, none, none, none, none, none]) (op2 (x := .int 1) (y := .int (v0 % 9)) rfl (callM_eq (τ1 := t1) (rs := [.d (.int 9)]) (ds := [.int 9]) (xs := [.int v0]) rfl rfl rfl (L_dig (by decide) (by decide))) ?_) rfl
    show some (PyData.int (1 + v0 % 9)) = _
    rw [ew]
  refine (seq_nx (τ1 := t3) ?_).trans ?_
  · refine asg_nx (d := .int h) (τ1 := [C, M (v0 / 9 / 6), I w, none, none, none, none, none, none, none, none, none, none]) (op2 (x := .int 1) (y := .int (v0 / 9 % 6)) rfl (callM_eq (τ1 := t2) (rs := [.d (.int 6)]) (ds := [.int 6]) (xs := [.int (v0 / 9)]) rfl rfl rfl (L_dig (by decide) (by decide))) ?_) rfl
    show some (PyData.int (1 + v0 / 9 % 6)) = _
    rw [eh]
  refine (seq_nx (τ1 := t4) (asg_nx (callM_eq (τ1 := t3) (rs := [.d (.int w), .d (.int h)]) (ds := [.int w, .int h]) (xs := [.int (v0 / 9 / 6)]) rfl rfl rfl eA) rfl)).trans ?_
  refine (seq_nx (τ1 := t5) (asg_nx (callM_eq (τ1 := t4) (rs := [.d (ep A)]) (ds := [ep A]) (xs := [.int v3]) rfl rfl rfl eB) rfl)).trans ?_
  refine (seq_nx (τ1 := t6) ?_).trans ?_
  · refine asg_nx (d := ec sh) (τ1 := [C, M (v4 / 9 / 5), I w, I h, D (ep A), D (ep B), none, none, none, none, none, none, none]) ?_ rfl
    have z1 := op2 (F := fSub) (f := dCallM 1 m_L_digit (dACons (dC (.int 9)) dANil)) (g := dC (.int 4)) (r := .int (v4 % 9 - 4)) (callM_eq (τ := t5) (τ1 := t5) (rs := [.d (.int 9)]) (ds := [.int 9]) (xs := [.int v4]) rfl rfl rfl (L_dig (by decide) (by decide))) rfl rfl
    have z2 := op2 (F := fSub) (f := dCallM 1 m_L_digit (dACons (dC (.int 5)) dANil)) (g := dC (.int 2)) (r := .int (v4 / 9 % 5 - 2)) (callM_eq (τ := [C, M (v4 / 9), I w, I h, D (ep A), D (ep B), none, none, none, none, none, none, none]) (τ1 := [C, M (v4 / 9), I w, I h, D (ep A), D (ep B), none, none, none, none, none, none, none]) (rs := [.d (.int 5)]) (ds := [.int 5]) (xs := [.int (v4 / 9)]) rfl rfl rfl (L_dig (by decide) (by decide))) rfl rfl
    have z3 := acc z1 (ac1 z2)
    unfold dTup
    rw [z3]; rfl
  refine (seq_nx (τ1 := t7) rfl).trans ?_
  refine (seq_nx (τ1 := t8) ?_).trans ?_
  · exact asg_nx (d := .list (s1.map e3)) (τ1 := [C, M v5, I w, I h, D (ep A), D (ep B), D (ec sh), some (.k kv), none, none, none, none, none]) (callP2_eq (τ1 := t7) (rs := [.s 1, .d (.int w), .d (.int h), .d (ec sh), .s 7, .d (.int 5)]) (xs := [.int (v4 / 9 / 5)]) (kv := []) rfl rfl rfl rfl (by decide) (by decide) rfl e1 rfl rfl rfl rfl) rfl
  refine (seq_nx (τ1 := t9) ?_).trans ?_
  · refine asg_nx (d := pl) (τ1 := [C, M v6, I w, I h, D (ep A), D (ep B), D (ec sh), some (.k kv2), D (.list (s1.map e3)), none, none, none, none]) ?_ rfl
    have z := callP2_eq (k1 := 0) (i1 := 1) (k2 := 4) (i2 := 7) (G := m_L_stretches) (a := dAS 1 (dACons (dVar 2) (dACons (dVar 3) (dACons (dTup (dACons (dC (.int 0)) (dACons (dC (.int 0)) dANil))) (dAS 7 (dACons (dC (.int 4)) dANil)))))) (τ := t8) (τ1 := t8) (rs := [.s 1, .d (.int w), .d (.int h), .d (ec (0, 0)), .s 7, .d (.int 4)]) (xs := [.int v5]) (kv := kv) rfl rfl rfl rfl (by decide) (by decide) rfl e2 rfl rfl rfl rfl
    have z3 := acc (f := dVar 6) (d := ec sh) (τ := t8) (τ1 := t8) rfl (acc (f := dVar 8) (d := .list (s1.map e3)) (τ1 := t8) rfl (ac1 z))
    exact tup_eq z3 rfl (by show 3 ≤ 1000; decide)
  refine (seq_nx (τ1 := t10) rfl).trans ?_
  refine (seq_nx (τ1 := t11) ?_).trans ?_
  · refine asg_nx (d := hd) (τ1 := t10) ?_ rfl
    have c1 : dLs (dCall m_L_copy (dACons (dVar 4) dANil)) t10 = some (ep A, t10) := ls_call (call_eq (rs := [.d (ep A)]) (ds := [ep A]) rfl rfl (copy_eq zA))
    have c2 : dLs (dCall m_L_copy (dACons (dVar 5) dANil)) t10 = some (ep B, t10) := ls_call (call_eq (rs := [.d (ep B)]) (ds := [ep B]) rfl rfl (copy_eq zB))
    have z3 := acc c1 (ac1 c2)
    unfold dLst
    rw [z3]; rfl
  refine (seq_nx (τ1 := t12) (asg_nx (call_eq (τ1 := t11) (rs := [.d pl, .d (ep A), .d (ep B)]) (ds := [pl, ep A, ep B]) rfl rfl ep1) rfl)).trans ?_
  refine (seq_nx (τ1 := t12) ((ifs_f (orFF (tst (op2 (x := pl) (y := pl) (τ1 := t12) rfl rfl (pl_ne sh s1 s2))) (tst (op2 (x := hd) (y := hd) rfl rfl (fNe_PP A B))))).trans rfl)).trans ?_
  have zd := call_eq (G := m_L_due) (a := dACons (dVar 9) (dACons (dVar 4) (dACons (dVar 5) dANil))) (τ := t12) (τ1 := t12) (rs := [.d pl, .d (ep A), .d (ep B)]) (ds := [pl, ep A, ep B]) rfl rfl ed
  exact ret_rt (call_eq (rs := [.d (ep Z), .d (ep Z)]) (ds := [ep Z, ep Z]) (acc rfl (ac1 zd)) rfl ez)
theorem all_mk {l : PySem.W.OpenLaw} {w : World} {K : PySem.W.Frag} {h : Heap} {mg : Str → Option Value} {fa : Addr} (X : K.In h) (G : h.Ns mainGlobals mg) (hfa : mg "law" = some (.ref fa))
    {f0 : Addr} {od0 an0 : Option Addr} {sl0 : Array (Option Value)} {oc0 kV0 dc0 pm0 cd0 ct0 : Value}
    (a0 : PySem.W.nsIn K mainGlobals "_law_digit" = some (some (.ref f0))) (l0 : K.lookup f0 = some ⟨oc0, od0, .func (PySem.W.fnOf "_law_digit" "_law_digit" (defArgs s_L_digit) (defBody s_L_digit) (defScope s_L_digit) .none kV0 dc0 pm0 an0 cd0 ct0), sl0⟩) (c0 : PySem.W.codeIn K cd0 "_law_digit" = true) (k0 : PySem.W.keepIn K (.ref f0) = true)
    {f1 : Addr} {od1 an1 : Option Addr} {sl1 : Array (Option Value)} {oc1 kV1 dc1 pm1 cd1 ct1 : Value}
    (a1 : PySem.W.nsIn K mainGlobals "_law_picture_by" = some (some (.ref f1))) (l1 : K.lookup f1 = some ⟨oc1, od1, .func (PySem.W.fnOf "_law_picture_by" "_law_picture_by" (defArgs s_L_picture_by) (defBody s_L_picture_by) (defScope s_L_picture_by) .none kV1 dc1 pm1 an1 cd1 ct1), sl1⟩) (c1 : PySem.W.codeIn K cd1 "_law_picture_by" = true) (k1 : PySem.W.keepIn K (.ref f1) = true)
    {f2 : Addr} {od2 an2 : Option Addr} {sl2 : Array (Option Value)} {oc2 kV2 dc2 pm2 cd2 ct2 : Value}
    (a2 : PySem.W.nsIn K mainGlobals "_law_near_by" = some (some (.ref f2))) (l2 : K.lookup f2 = some ⟨oc2, od2, .func (PySem.W.fnOf "_law_near_by" "_law_near_by" (defArgs s_L_near_by) (defBody s_L_near_by) (defScope s_L_near_by) .none kV2 dc2 pm2 an2 cd2 ct2), sl2⟩) (c2 : PySem.W.codeIn K cd2 "_law_near_by" = true) (k2 : PySem.W.keepIn K (.ref f2) = true)
    {f3 : Addr} {od3 an3 : Option Addr} {sl3 : Array (Option Value)} {oc3 kV3 dc3 pm3 cd3 ct3 : Value}
    (a3 : PySem.W.nsIn K mainGlobals "_law_next_by" = some (some (.ref f3))) (l3 : K.lookup f3 = some ⟨oc3, od3, .func (PySem.W.fnOf "_law_next_by" "_law_next_by" (defArgs s_L_next_by) (defBody s_L_next_by) (defScope s_L_next_by) .none kV3 dc3 pm3 an3 cd3 ct3), sl3⟩) (c3 : PySem.W.codeIn K cd3 "_law_next_by" = true) (k3 : PySem.W.keepIn K (.ref f3) = true)
    {f4 : Addr} {od4 an4 : Option Addr} {sl4 : Array (Option Value)} {oc4 kV4 dc4 pm4 cd4 ct4 : Value}
    (a4 : PySem.W.nsIn K mainGlobals "_law_fits" = some (some (.ref f4))) (l4 : K.lookup f4 = some ⟨oc4, od4, .func (PySem.W.fnOf "_law_fits" "_law_fits" (defArgs s_L_fits) (defBody s_L_fits) (defScope s_L_fits) .none kV4 dc4 pm4 an4 cd4 ct4), sl4⟩) (c4 : PySem.W.codeIn K cd4 "_law_fits" = true) (k4 : PySem.W.keepIn K (.ref f4) = true)
    {f5 : Addr} {od5 an5 : Option Addr} {sl5 : Array (Option Value)} {oc5 kV5 dc5 pm5 cd5 ct5 : Value}
    (a5 : PySem.W.nsIn K mainGlobals "_law_stretches" = some (some (.ref f5))) (l5 : K.lookup f5 = some ⟨oc5, od5, .func (PySem.W.fnOf "_law_stretches" "_law_stretches" (defArgs s_L_stretches) (defBody s_L_stretches) (defScope s_L_stretches) .none kV5 dc5 pm5 an5 cd5 ct5), sl5⟩) (c5 : PySem.W.codeIn K cd5 "_law_stretches" = true) (k5 : PySem.W.keepIn K (.ref f5) = true)
    {f6 : Addr} {od6 an6 : Option Addr} {sl6 : Array (Option Value)} {oc6 kV6 dc6 pm6 cd6 ct6 : Value}
    (a6 : PySem.W.nsIn K mainGlobals "picture_copied" = some (some (.ref f6))) (l6 : K.lookup f6 = some ⟨oc6, od6, .func (PySem.W.fnOf "picture_copied" "picture_copied" (defArgs s_picture_copied) (defBody s_picture_copied) (defScope s_picture_copied) .none kV6 dc6 pm6 an6 cd6 ct6), sl6⟩) (c6 : PySem.W.codeIn K cd6 "picture_copied" = true) (k6 : PySem.W.keepIn K (.ref f6) = true)
    {f7 : Addr} {od7 an7 : Option Addr} {sl7 : Array (Option Value)} {oc7 kV7 dc7 pm7 cd7 ct7 : Value}
    (a7 : PySem.W.nsIn K mainGlobals "cells_of" = some (some (.ref f7))) (l7 : K.lookup f7 = some ⟨oc7, od7, .func (PySem.W.fnOf "cells_of" "cells_of" (defArgs s_cells_of) (defBody s_cells_of) (defScope s_cells_of) .none kV7 dc7 pm7 an7 cd7 ct7), sl7⟩) (c7 : PySem.W.codeIn K cd7 "cells_of" = true) (k7 : PySem.W.keepIn K (.ref f7) = true)
    {f8 : Addr} {od8 an8 : Option Addr} {sl8 : Array (Option Value)} {oc8 kV8 dc8 pm8 cd8 ct8 : Value}
    (a8 : PySem.W.nsIn K mainGlobals "stretch_cells" = some (some (.ref f8))) (l8 : K.lookup f8 = some ⟨oc8, od8, .func (PySem.W.fnOf "stretch_cells" "stretch_cells" (defArgs s_stretch_cells) (defBody s_stretch_cells) (defScope s_stretch_cells) .none kV8 dc8 pm8 an8 cd8 ct8), sl8⟩) (c8 : PySem.W.codeIn K cd8 "stretch_cells" = true) (k8 : PySem.W.keepIn K (.ref f8) = true)
    {f9 : Addr} {od9 an9 : Option Addr} {sl9 : Array (Option Value)} {oc9 kV9 dc9 pm9 cd9 ct9 : Value}
    (a9 : PySem.W.nsIn K mainGlobals "plan_done" = some (some (.ref f9))) (l9 : K.lookup f9 = some ⟨oc9, od9, .func (PySem.W.fnOf "plan_done" "plan_done" (defArgs s_plan_done) (defBody s_plan_done) (defScope s_plan_done) .none kV9 dc9 pm9 an9 cd9 ct9), sl9⟩) (c9 : PySem.W.codeIn K cd9 "plan_done" = true) (k9 : PySem.W.keepIn K (.ref f9) = true)
    {f10 : Addr} {od10 an10 : Option Addr} {sl10 : Array (Option Value)} {oc10 kV10 dc10 pm10 cd10 ct10 : Value}
    (a10 : PySem.W.nsIn K mainGlobals "_law_is_fraction" = some (some (.ref f10))) (l10 : K.lookup f10 = some ⟨oc10, od10, .func (PySem.W.fnOf "_law_is_fraction" "_law_is_fraction" (defArgs s_L_is_fraction) (defBody s_L_is_fraction) (defScope s_L_is_fraction) .none kV10 dc10 pm10 an10 cd10 ct10), sl10⟩) (c10 : PySem.W.codeIn K cd10 "_law_is_fraction" = true) (k10 : PySem.W.keepIn K (.ref f10) = true)
    {f11 : Addr} {od11 an11 : Option Addr} {sl11 : Array (Option Value)} {oc11 kV11 dc11 pm11 cd11 ct11 : Value}
    (a11 : PySem.W.nsIn K mainGlobals "_law_same_picture" = some (some (.ref f11))) (l11 : K.lookup f11 = some ⟨oc11, od11, .func (PySem.W.fnOf "_law_same_picture" "_law_same_picture" (defArgs s_L_same_picture) (defBody s_L_same_picture) (defScope s_L_same_picture) .none kV11 dc11 pm11 an11 cd11 ct11), sl11⟩) (c11 : PySem.W.codeIn K cd11 "_law_same_picture" = true) (k11 : PySem.W.keepIn K (.ref f11) = true)
    {f12 : Addr} {od12 an12 : Option Addr} {sl12 : Array (Option Value)} {oc12 kV12 dc12 pm12 cd12 ct12 : Value}
    (a12 : PySem.W.nsIn K mainGlobals "_law_cell_at" = some (some (.ref f12))) (l12 : K.lookup f12 = some ⟨oc12, od12, .func (PySem.W.fnOf "_law_cell_at" "_law_cell_at" (defArgs s_L_cell_at) (defBody s_L_cell_at) (defScope s_L_cell_at) .none kV12 dc12 pm12 an12 cd12 ct12), sl12⟩) (c12 : PySem.W.codeIn K cd12 "_law_cell_at" = true) (k12 : PySem.W.keepIn K (.ref f12) = true)
    {f13 : Addr} {od13 an13 : Option Addr} {sl13 : Array (Option Value)} {oc13 kV13 dc13 pm13 cd13 ct13 : Value}
    (a13 : PySem.W.nsIn K mainGlobals "_law_big" = some (some (.ref f13))) (l13 : K.lookup f13 = some ⟨oc13, od13, .func (PySem.W.fnOf "_law_big" "_law_big" (defArgs s_L_big) (defBody s_L_big) (defScope s_L_big) .none kV13 dc13 pm13 an13 cd13 ct13), sl13⟩) (c13 : PySem.W.codeIn K cd13 "_law_big" = true) (k13 : PySem.W.keepIn K (.ref f13) = true)
    {f14 : Addr} {od14 an14 : Option Addr} {sl14 : Array (Option Value)} {oc14 kV14 dc14 pm14 cd14 ct14 : Value}
    (a14 : PySem.W.nsIn K mainGlobals "_law_copy" = some (some (.ref f14))) (l14 : K.lookup f14 = some ⟨oc14, od14, .func (PySem.W.fnOf "_law_copy" "_law_copy" (defArgs s_L_copy) (defBody s_L_copy) (defScope s_L_copy) .none kV14 dc14 pm14 an14 cd14 ct14), sl14⟩) (c14 : PySem.W.codeIn K cd14 "_law_copy" = true) (k14 : PySem.W.keepIn K (.ref f14) = true)
    {f15 : Addr} {od15 an15 : Option Addr} {sl15 : Array (Option Value)} {oc15 kV15 dc15 pm15 cd15 ct15 : Value}
    (a15 : PySem.W.nsIn K mainGlobals "_law_due" = some (some (.ref f15))) (l15 : K.lookup f15 = some ⟨oc15, od15, .func (PySem.W.fnOf "_law_due" "_law_due" (defArgs s_L_due) (defBody s_L_due) (defScope s_L_due) .none kV15 dc15 pm15 an15 cd15 ct15), sl15⟩) (c15 : PySem.W.codeIn K cd15 "_law_due" = true) (k15 : PySem.W.keepIn K (.ref f15) = true)
    {f16 : Addr} {od16 an16 : Option Addr} {sl16 : Array (Option Value)} {oc16 kV16 dc16 pm16 cd16 ct16 : Value}
    (a16 : PySem.W.nsIn K mainGlobals "law" = some (some (.ref f16))) (l16 : K.lookup f16 = some ⟨oc16, od16, .func (PySem.W.fnOf "law" "law" (defArgs s_law) (defBody s_law) (defScope s_law) .none kV16 dc16 pm16 an16 cd16 ct16), sl16⟩) (c16 : PySem.W.codeIn K cd16 "law" = true) (k16 : PySem.W.keepIn K (.ref f16) = true)
    (z_bool : PySem.W.nsIn K mainGlobals "bool" = some none)
    (z_int : PySem.W.nsIn K mainGlobals "int" = some none)
    (z_isinstance : PySem.W.nsIn K mainGlobals "isinstance" = some none)
    (z_len : PySem.W.nsIn K mainGlobals "len" = some none)
    (z_list : PySem.W.nsIn K mainGlobals "list" = some none)
    (z_range : PySem.W.nsIn K mainGlobals "range" = some none)
    (z_tuple : PySem.W.nsIn K mainGlobals "tuple" = some none)
    : ∃ fd : FuncData, (∀ (s : Shared) (v : Value), BindsTo s fd ⟨[v], []⟩ [("_law_script", v)]) ∧ ∀ base : Heap, K.In base → base.Ns mainGlobals mg → FnOk l.prog w K mg base CX0 4 fa fd ["_law_script"] (spD K m_law false) := by
  have e := hfa.symm.trans (PySem.W.mg_of X G a16)
  cases e
  have F0 := fun_mk (st := s_L_digit) l0 c0 k0
  have F1 := fun_mk (st := s_L_picture_by) l1 c1 k1
  have F2 := fun_mk (st := s_L_near_by) l2 c2 k2
  have F3 := fun_mk (st := s_L_next_by) l3 c3 k3
  have F4 := fun_mk (st := s_L_fits) l4 c4 k4
  have F5 := fun_mk (st := s_L_stretches) l5 c5 k5
  have F6 := fun_mk (st := s_picture_copied) l6 c6 k6
  have F7 := fun_mk (st := s_cells_of) l7 c7 k7
  have F8 := fun_mk (st := s_stretch_cells) l8 c8 k8
  have F9 := fun_mk (st := s_plan_done) l9 c9 k9
  have F10 := fun_mk (st := s_L_is_fraction) l10 c10 k10
  have F11 := fun_mk (st := s_L_same_picture) l11 c11 k11
  have F12 := fun_mk (st := s_L_cell_at) l12 c12 k12
  have F13 := fun_mk (st := s_L_big) l13 c13 k13
  have F14 := fun_mk (st := s_L_copy) l14 c14 k14
  have F15 := fun_mk (st := s_L_due) l15 c15 k15
  have F16 := fun_mk (st := s_law) l16 c16 k16
  have b0 := F0.binds (ps := ["_law_rest", "_law_many"]) fun _ _ _ _ _ _ us hl => match us, hl with | [_, _], _ => rfl
  have b1 := F1.binds (ps := ["_law_rest", "_law_w", "_law_h"]) fun _ _ _ _ _ _ us hl => match us, hl with | [_, _, _], _ => rfl
  have b2 := F2.binds (ps := ["_law_rest", "_law_picture"]) fun _ _ _ _ _ _ us hl => match us, hl with | [_, _], _ => rfl
  have b3 := F3.binds (ps := ["_law_rest", "_law_picture"]) fun _ _ _ _ _ _ us hl => match us, hl with | [_, _], _ => rfl
  have b4 := F4.binds (ps := ["_law_w", "_law_h", "_law_stretch", "_law_shift"]) fun _ _ _ _ _ _ us hl => match us, hl with | [_, _, _, _], _ => rfl
  have b5 := F5.binds (ps := ["_law_rest", "_law_w", "_law_h", "_law_shift", "_law_used", "_law_most"]) fun _ _ _ _ _ _ us hl => match us, hl with | [_, _, _, _, _, _], _ => rfl
  have b6 := F6.binds (ps := ["picture"]) fun _ _ _ _ _ _ us hl => match us, hl with | [_], _ => rfl
  have b7 := F7.binds (ps := ["box"]) fun _ _ _ _ _ _ us hl => match us, hl with | [_], _ => rfl
  have b8 := F8.binds (ps := ["stretches"]) fun _ _ _ _ _ _ us hl => match us, hl with | [_], _ => rfl
  have b9 := F9.binds (ps := ["plan", "old", "behind"]) fun _ _ _ _ _ _ us hl => match us, hl with | [_, _, _], _ => rfl
  have b10 := F10.binds (ps := ["_law_thing"]) fun _ _ _ _ _ _ us hl => match us, hl with | [_], _ => rfl
  have b11 := F11.binds (ps := ["_law_found", "_law_due_here"]) fun _ _ _ _ _ _ us hl => match us, hl with | [_, _], _ => rfl
  have b12 := F12.binds (ps := ["_law_script", "_law_k"]) fun _ _ _ _ _ _ us hl => match us, hl with | [_, _], _ => rfl
  have b13 := F13.binds (ps := ["_law_script", "_law_at"]) fun _ _ _ _ _ _ us hl => match us, hl with | [_, _], _ => rfl
  have b14 := F14.binds (ps := ["_law_picture"]) fun _ _ _ _ _ _ us hl => match us, hl with | [_], _ => rfl
  have b15 := F15.binds (ps := ["_law_plan", "_law_old", "_law_behind"]) fun _ _ _ _ _ _ us hl => match us, hl with | [_, _, _], _ => rfl
  have y_bool := PySem.W.mg_none_of X G z_bool
  have y_int := PySem.W.mg_none_of X G z_int
  have y_isinstance := PySem.W.mg_none_of X G z_isinstance
  have y_len := PySem.W.mg_none_of X G z_len
  have y_list := PySem.W.mg_none_of X G z_list
  have y_range := PySem.W.mg_none_of X G z_range
  have y_tuple := PySem.W.mg_none_of X G z_tuple
  refine ⟨PySem.W.fnOf "law" "law" (defArgs s_law) (defBody s_law) (defScope s_law) .none kV16 dc16 pm16 an16 cd16 ct16, fun s v => .of_eq rfl, fun base _ _ => ?_⟩
  have R_L_digit : Cal l.prog w K mg base 1 "_law_digit" ["_law_rest", "_law_many"] (spD K m_L_digit false) := Cal.of F0 (ok_L_digit F0) b0 (PySem.W.mg_of X G a0)
  have R_L_fits : Cal l.prog w K mg base 1 "_law_fits" ["_law_w", "_law_h", "_law_stretch", "_law_shift"] (spD K m_L_fits false) := Cal.of F4 (ok_L_fits F4) b4 (PySem.W.mg_of X G a4)
  have R_picture_copied : Cal l.prog w K mg base 1 "picture_copied" ["picture"] (spG K m_picture_copied) := Cal.of F6 (ok_picture_copied F6 y_list) b6 (PySem.W.mg_of X G a6)
  have R_cells_of : Cal l.prog w K mg base 1 "cells_of" ["box"] (spD K m_cells_of true) := Cal.of F7 (ok_cells_of F7 y_range) b7 (PySem.W.mg_of X G a7)
  have R_L_is_fraction : Cal l.prog w K mg base 1 "_law_is_fraction" ["_law_thing"] (spD K m_L_is_fraction false) := Cal.of F10 (ok_L_is_fraction F10 y_len y_tuple y_isinstance y_bool y_int) b10 (PySem.W.mg_of X G a10)
  have R_L_cell_at : Cal l.prog w K mg base 1 "_law_cell_at" ["_law_script", "_law_k"] (spD K m_L_cell_at false) := Cal.of F12 (ok_L_cell_at F12 y_len) b12 (PySem.W.mg_of X G a12)
  have R_L_copy : Cal l.prog w K mg base 1 "_law_copy" ["_law_picture"] (spG K m_L_copy) := Cal.of F14 (ok_L_copy F14 y_list) b14 (PySem.W.mg_of X G a14)
  have R_L_picture_by : Cal l.prog w K mg base 2 "_law_picture_by" ["_law_rest", "_law_w", "_law_h"] (spD K m_L_picture_by true) := Cal.of F1 (ok_L_picture_by F1 (R_L_digit.mono (by decide)) y_range) b1 (PySem.W.mg_of X G a1)
  have R_L_near_by : Cal l.prog w K mg base 2 "_law_near_by" ["_law_rest", "_law_picture"] (spD K m_L_near_by true) := Cal.of F2 (ok_L_near_by F2 (R_L_digit.mono (by decide)) y_list y_range y_len) b2 (PySem.W.mg_of X G a2)
  have R_L_stretches : Cal l.prog w K mg base 2 "_law_stretches" ["_law_rest", "_law_w", "_law_h", "_law_shift", "_law_used", "_law_most"] (spD K m_L_stretches true) := Cal.of F5 (ok_L_stretches F5 (R_L_digit.mono (by decide)) (R_L_fits.mono (by decide)) y_range) b5 (PySem.W.mg_of X G a5)
  have R_stretch_cells : Cal l.prog w K mg base 2 "stretch_cells" ["stretches"] (spD K m_stretch_cells true) := Cal.of F8 (ok_stretch_cells F8 (R_cells_of.mono (by decide))) b8 (PySem.W.mg_of X G a8)
  have R_L_same_picture : Cal l.prog w K mg base 2 "_law_same_picture" ["_law_found", "_law_due_here"] (spD K m_L_same_picture false) := Cal.of F11 (ok_L_same_picture F11 (R_L_is_fraction.mono (by decide)) y_len y_list y_isinstance y_range) b11 (PySem.W.mg_of X G a11)
  have R_L_big : Cal l.prog w K mg base 2 "_law_big" ["_law_script", "_law_at"] (spD K m_L_big false) := Cal.of F13 (ok_L_big F13 (R_L_cell_at.mono (by decide)) y_range) b13 (PySem.W.mg_of X G a13)
  have R_L_due : Cal l.prog w K mg base 2 "_law_due" ["_law_plan", "_law_old", "_law_behind"] (spD K m_L_due true) := Cal.of F15 (ok_L_due F15 (R_L_copy.mono (by decide)) y_range) b15 (PySem.W.mg_of X G a15)
  have R_L_next_by : Cal l.prog w K mg base 3 "_law_next_by" ["_law_rest", "_law_picture"] (spD K m_L_next_by true) := Cal.of F3 (ok_L_next_by F3 (R_L_digit.mono (by decide)) (R_L_picture_by.mono (by decide)) (R_L_near_by.mono (by decide)) y_len) b3 (PySem.W.mg_of X G a3)
  have R_plan_done : Cal l.prog w K mg base 3 "plan_done" ["plan", "old", "behind"] (spD K m_plan_done true) := Cal.of F9 (ok_plan_done F9 (R_picture_copied.mono (by decide)) (R_stretch_cells.mono (by decide))) b9 (PySem.W.mg_of X G a9)
  exact ok_law F16 (R_L_big.mono (by decide)) (R_L_digit.mono (by decide)) (R_L_picture_by.mono (by decide)) (R_L_next_by.mono (by decide)) (R_L_stretches.mono (by decide)) (R_L_copy.mono (by decide)) (R_plan_done.mono (by decide)) (R_L_same_picture.mono (by decide)) (R_L_due.mono (by decide)) y_list
theorem entry {K : PySem.W.Frag} {H : Hp} {a : Addr} {ns : List Int} {Q : VK} {X : XK} (hS : SqL K H a (ns.map V.int)) (h63 : ns.length ≤ 63) (q : ∀ H', Q (.bl true) H') : spD K m_law false [.ref a] H Q X := by
  obtain ⟨ls, e⟩ := m_law_holds ns h63
  refine ⟨fun _ => False, fun _ => False, [.c (ns.map PyData.int)], .bool true, ls, ⟨rfl, fun i x e => ?_, fun i x e => ?_, fun i x e => ?_, fun i j xs ys b e => ?_, fun _ h => h.elim, fun _ h => h.elim, GR.nil fun i x e => ?_⟩, e, fun v H' _ _ res => ?_⟩
  · match i, e with
    | 0, e => cases e
    | i + 1, e => cases e
  · match i, e with
    | 0, e => exact absurd (Option.some.inj (Option.some.inj e)).symm Ow.not_c
    | i + 1, e => cases e
  · match i, e with
    | 0, e =>
      cases e
      exact ⟨a, ns.map V.int, rfl, cst_same hS, isl_ints ns⟩
    | i + 1, e => cases e
  · match i, e with
    | 0, e => exact absurd (Option.some.inj (Option.some.inj e)).symm Ow.not_c
    | i + 1, e => cases e
  · match i, e with
    | 0, e => cases e
    | i + 1, e => cases e
  · cases (show v = .bl true from res)
    exact q H'
theorem walk {l : PySem.W.OpenLaw} {q : Program} {loose : List Str} {XP : (Str → Option Value) → Heap → Prop} {YP : World → Heap → Prop} {d : DefRec} {K : Params → PySem.W.Frag} (hn : l.most = some 63) (hdf : d.params.defaults = [])
    (hY : ∀ (w : World) (h : Heap), YP w h → (K w.params).In h)
    (F : ∀ (w : World) (mg : Str → Option Value) (fa : Addr) (h : Heap), (K w.params).In h → h.Ns mainGlobals mg → mg d.name = some (.ref fa) →
      ∃ fd : FuncData, (∀ (s : Shared) (u : Value), BindsTo s fd ⟨[u], []⟩ [("_law_script", u)]) ∧ ∀ base : Heap, (K w.params).In base → base.Ns mainGlobals mg → FnOk l.prog w (K w.params) mg base CX0 4 fa fd ["_law_script"] (spD (K w.params) m_law false)) :
    PySem.W.WalkO q loose XP YP l.row.toRowW d [] (fun f vs => PySem.call f vs) :=
  L2.walk_of (n := 63) (k := 4) (x := "_law_script") (CX := fun _ => CX0) (sp := fun w => spD (K w.params) m_law false) hn (by decide) hdf ⟨rfl, by decide, by decide⟩ hY F (fun _ _ a ns hl _ hS => entry hS hl fun _ => rfl) fun _ _ _ _ _ z => z
end My
open PySem PySem.W PyProof.Rows
set_option maxRecDepth 100000 in
set_option maxHeartbeats 0 in
theorem PySem.Challenge.cw_scenemend_k66_plans_by_hand_holds : PySem.Challenge.rw_scenemend_k66_plans_by_hand.Holds := by
  w_on; o_law; k_head; (case hw => w_witness2)
  k_fill
  refine My.walk (l := PySem.Challenge.rw_scenemend_k66_plans_by_hand) rfl rfl (fun w h Y => PySem.W.kIn_of Y) ?F
  case F =>
    intro w mg fa h KX G hmg
    refine' My.all_mk KX G hmg ?a0 ?l0 ?c0 ?k0 ?a1 ?l1 ?c1 ?k1 ?a2 ?l2 ?c2 ?k2 ?a3 ?l3 ?c3 ?k3 ?a4 ?l4 ?c4 ?k4 ?a5 ?l5 ?c5 ?k5 ?a6 ?l6 ?c6 ?k6 ?a7 ?l7 ?c7 ?k7 ?a8 ?l8 ?c8 ?k8 ?a9 ?l9 ?c9 ?k9 ?a10 ?l10 ?c10 ?k10 ?a11 ?l11 ?c11 ?k11 ?a12 ?l12 ?c12 ?k12 ?a13 ?l13 ?c13 ?k13 ?a14 ?l14 ?c14 ?k14 ?a15 ?l15 ?c15 ?k15 ?a16 ?l16 ?c16 ?k16 ?z_bool ?z_int ?z_isinstance ?z_len ?z_list ?z_range ?z_tuple
    (case a0 => k_is)
    (case l0 => k_is)
    (case c0 => k_is)
    (case k0 => k_is)
    (case a1 => k_is)
    (case l1 => k_is)
    (case c1 => k_is)
    (case k1 => k_is)
    (case a2 => k_is)
    (case l2 => k_is)
    (case c2 => k_is)
    (case k2 => k_is)
    (case a3 => k_is)
    (case l3 => k_is)
    (case c3 => k_is)
    (case k3 => k_is)
    (case a4 => k_is)
    (case l4 => k_is)
    (case c4 => k_is)
    (case k4 => k_is)
    (case a5 => k_is)
    (case l5 => k_is)
    (case c5 => k_is)
    (case k5 => k_is)
    (case a6 => k_is)
    (case l6 => k_is)
    (case c6 => k_is)
    (case k6 => k_is)
    (case a7 => k_is)
    (case l7 => k_is)
    (case c7 => k_is)
    (case k7 => k_is)
    (case a8 => k_is)
    (case l8 => k_is)
    (case c8 => k_is)
    (case k8 => k_is)
    (case a9 => k_is)
    (case l9 => k_is)
    (case c9 => k_is)
    (case k9 => k_is)
    (case a10 => k_is)
    (case l10 => k_is)
    (case c10 => k_is)
    (case k10 => k_is)
    (case a11 => k_is)
    (case l11 => k_is)
    (case c11 => k_is)
    (case k11 => k_is)
    (case a12 => k_is)
    (case l12 => k_is)
    (case c12 => k_is)
    (case k12 => k_is)
    (case a13 => k_is)
    (case l13 => k_is)
    (case c13 => k_is)
    (case k13 => k_is)
    (case a14 => k_is)
    (case l14 => k_is)
    (case c14 => k_is)
    (case k14 => k_is)
    (case a15 => k_is)
    (case l15 => k_is)
    (case c15 => k_is)
    (case k15 => k_is)
    (case a16 => k_is)
    (case l16 => k_is)
    (case c16 => k_is)
    (case k16 => k_is)
    (case z_bool => k_is)
    (case z_int => k_is)
    (case z_isinstance => k_is)
    (case z_len => k_is)
    (case z_list => k_is)
    (case z_range => k_is)
    (case z_tuple => k_is)
