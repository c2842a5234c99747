import PyProof.Rows.All
import Wide.All
import OpenK.AllK
import Wide.FinOn
import Lean
import PyProof.EqAt
import PyProof.EqKinds
import PyProof.TupleCall
import KE.KSortTup
import PyProof.EnumMake
import PyProof.EnumStmt
import PyProof.EnumFor
import PyProof.TupleKey
import PyProof.Rows.SetFrom
import PyProof.IsRules
import PyProof.DictWalks
import PyProof.FactsAll.set
import PyProof.CollectIter
import PyProof.ConsumeS
import PySem.SetOps
import KE.KDictList
import PyProof.DictRoadsH
import PyProof.DictFindH
import PyProof.Rows.SortRuns
import PyProof.Draws
import PyProof.Rows.TupIter
import PyProof.Rows.FStr
import PyProof.StrCalls2
import PyProof.SliceStr2
import PyProof.StrBlockI
import PyProof.StrLawsNeg
import PyProof.StrLawsJoin
import KE.KIntText
import PySem.Challenge.RW_scenemend_k01_fractions_made
section
set_option Elab.async false
set_option linter.all false
set_option maxRecDepth 100000
namespace L2
open PySem PySem.Spec PyProof.Rows
abbrev Key := Sum Int Str
def keyIs : Key → Value → Bool
  | .inl k, v => Value.isInt k v
  | .inr x, v => Value.isStrOf x v
def keyH (w : World) : Key → Int
  | .inl k => hashInt k
  | .inr x => hashStr w x
theorem keyIs_shape : ∀ {k : Key} {v : Value}, keyIs k v = true → (∃ i t, k = Sum.inl i ∧ v = Value.int i t) ∨ (∃ x t, k = Sum.inr x ∧ v = Value.str x t)
  | .inl i, v, h => by
    obtain ⟨t, e⟩ := Value.isInt_shape (k := i) (v := v) h
    exact .inl ⟨i, t, rfl, e⟩
  | .inr x, v, h => by
    obtain ⟨t, e⟩ := Value.isStrOf_shape (x := x) (v := v) h
    exact .inr ⟨x, t, rfl, e⟩
theorem key_ll (a b : Int) : decide ((Sum.inl a : Key) = Sum.inl b) = (a == b) := by
  by_cases e : a = b
  · subst e; simp
  · have h : ¬ (Sum.inl a : Key) = Sum.inl b := fun q => e (Sum.inl.inj q)
    rw [decide_eq_false h]
    exact (beq_eq_false_iff_ne.mpr e).symm
theorem key_rr (a b : Str) : decide ((Sum.inr a : Key) = Sum.inr b) = decide (a = b) := by
  by_cases e : a = b
  · subst e; simp
  · have h : ¬ (Sum.inr a : Key) = Sum.inr b := fun q => e (Sum.inr.inj q)
    rw [decide_eq_false h, decide_eq_false e]
theorem key_lr (a : Int) (b : Str) : decide ((Sum.inl a : Key) = Sum.inr b) = false := decide_eq_false (fun q => nomatch q)
theorem key_rl (a : Str) (b : Int) : decide ((Sum.inr a : Key) = Sum.inl b) = false := decide_eq_false (fun q => nomatch q)
def mixKind (prog : Program) (w : World) : PySem.KeyKind prog w Key where
  is := keyIs
  hash := keyH w
  inj := fun v a b ha hb => by
    rcases keyIs_shape ha with ⟨i, t, rfl, rfl⟩ | ⟨x, t, rfl, rfl⟩
    · rcases keyIs_shape hb with ⟨j, u, rfl, e⟩ | ⟨y, u, rfl, e⟩
      · injection e with e1 _; rw [e1]
      · exact nomatch e
    · rcases keyIs_shape hb with ⟨j, u, rfl, e⟩ | ⟨y, u, rfl, e⟩
      · exact nomatch e
      · injection e with e1 _; rw [e1]
  byValue := fun k v h => by
    rcases keyIs_shape h with ⟨i, t, rfl, rfl⟩ | ⟨x, t, rfl, rfl⟩ <;> rfl
  pyHash := fun hv h => by
    rcases keyIs_shape hv with ⟨i, t, rfl, rfl⟩ | ⟨x, t, rfl, rfl⟩
    · exact wpAny_pyHash_int h
    · exact wpAny_pyHash_str h
  eqBool := fun hu hv h => by
    rcases keyIs_shape hu with ⟨i, t, rfl, rfl⟩ | ⟨x, t, rfl, rfl⟩
    · rcases keyIs_shape hv with ⟨j, u, rfl, rfl⟩ | ⟨y, u, rfl, rfl⟩
      · rw [key_ll] at h; exact wpAny_eqBool_int h
      · rw [key_lr] at h; exact SeqAt.EqAt.int_str i t y u _ _ _ _ h
    · rcases keyIs_shape hv with ⟨j, u, rfl, rfl⟩ | ⟨y, u, rfl, rfl⟩
      · rw [key_rl] at h; exact SeqAt.EqAt.str_int x t j u _ _ _ _ h
      · rw [key_rr] at h; exact wpAny_eqBool_str h
  «strs» := fun k x t v h => by
    rcases keyIs_shape h with ⟨i, u, rfl, e⟩ | ⟨y, u, rfl, e⟩
    · exact nomatch e
    · injection e with e1 _
      subst e1
      cases v <;> rfl
end L2
namespace L2
open PySem PySem.Spec PyProof.Rows
inductive V where
  | non | bl (b : Bool) | int (i : Int) | str (x : Str) | byt (b : Array UInt8) | flt (b : UInt64) | ref (a : Addr) | ty (n : String)
  deriving DecidableEq
def RelV : V → Value → Prop
  | .non, u => u = Value.none
  | .bl b, u => u = Value.bool b
  | .int i, u => ∃ t, u = Value.int i t
  | .str x, u => ∃ t, u = Value.str x t
  | .byt b, u => ∃ t, u = Value.bytes b t
  | .flt b, u => ∃ t, u = Value.float b t
  | .ref a, u => u = Value.ref a
  | .ty n, u => u = Value.type n
abbrev Vals : List V → List Value → Prop := Paired RelV
theorem Vals.length {xs : List V} {us : List Value} (r : Vals xs us) : xs.length = us.length := Paired.length r
theorem Vals.get : ∀ {xs : List V} {us : List Value} {i : Nat} {x : V}, Vals xs us → xs[i]? = some x → ∃ u, us[i]? = some u ∧ RelV x u
  | _, _, _, _, .nil, e => by simp at e
  | _, _, 0, _, .cons r _, e => by simp at e; subst e; exact ⟨_, rfl, r⟩
  | _, _, i + 1, x, .cons _ t, e => by
    obtain ⟨u, h1, h2⟩ := Vals.get (i := i) (x := x) t (by simpa using e)
    exact ⟨u, by simpa using h1, h2⟩
theorem Vals.set {x : V} {u : Value} (r : RelV x u) : ∀ {xs : List V} {us : List Value} (i : Nat), Vals xs us → Vals (xs.set i x) (us.set i u)
  | _, _, _, .nil => .nil
  | _, _, 0, .cons _ t => .cons r t
  | _, _, i + 1, .cons q t => .cons q (Vals.set r i t)
theorem Vals.append : ∀ {xs ys : List V} {us ws : List Value}, Vals xs us → Vals ys ws → Vals (xs ++ ys) (us ++ ws)
  | _, _, _, _, .nil, s => s
  | _, _, _, _, .cons r t, s => .cons r (Vals.append t s)
theorem Vals.take : ∀ {xs : List V} {us : List Value} (n : Nat), Vals xs us → Vals (xs.take n) (us.take n)
  | _, _, 0, _ => .nil
  | _, _, _ + 1, .nil => .nil
  | _, _, n + 1, .cons r t => .cons r (Vals.take n t)
theorem Vals.drop : ∀ {xs : List V} {us : List Value} (n : Nat), Vals xs us → Vals (xs.drop n) (us.drop n)
  | _, _, 0, r => r
  | _, _, _ + 1, .nil => .nil
  | _, _, n + 1, .cons _ t => Vals.drop n t
def RelO : Option V → Option Value → Prop
  | some v, some u => RelV v u
  | none, none => True
  | _, _ => False
def KV {κ : Type} : List (κ × V) → List (κ × Value) → Prop := Paired fun (p : κ × V) (q : κ × Value) => p.1 = q.1 ∧ RelV p.2 q.2
def kV : Key → V
  | .inl i => .int i
  | .inr x => .str x
inductive HO where
  | lst (xs : List V)
  | tup (xs : List V)
  | dK (kvs : List (Key × V)) | dT (kvs : List (List Key × V))
  | set (S : Int → Bool) (n : Nat)
  | ins (C dx : Addr) (fs : List (Str × V))
  | own (x : Addr)
  | xd (fs : List (Str × V))
  | met (f x : Addr)
  | rng (lo hi : Int)
  | frz (o : Obj) (u : HO)
  | tbl (ps : Array Value)
  | ext (φ : Heap → Prop)
abbrev Hp := Addr → Option HO
def upd (H : Hp) (a : Addr) (o : HO) : Hp := fun b => if b = a then some o else H b
theorem upd_same {H : Hp} {a : Addr} {o : HO} : upd H a o a = some o := by unfold upd; rw [if_pos rfl]
theorem upd_ne {H : Hp} {a b : Addr} {o : HO} (h : b ≠ a) : upd H a o b = H b := by unfold upd; rw [if_neg h]
theorem ne_of_none {H : Hp} {a b : Addr} {o : HO} (h : H a = some o) (h' : H b = none) : a ≠ b := by
  intro e; subst e; rw [h] at h'; cases h'
section
variable (P : Program) (w : World)
def ObjOk (H : Hp) (h : Heap) (a : Addr) : HO → Prop
  | .lst xs => xs.length ≤ sizeLine ∧ ∃ (its : List Value) (n : Nat), Vals xs its ∧ h.get? a = some { cls := .type "list", data := .seq its.toArray n }
  | .tup xs => xs.length ≤ sizeLine ∧ ∃ its : List Value, Vals xs its ∧ IsTup h a its.toArray
  | .dK kvs => kvs.length ≤ sizeLine ∧ (a == sysModules) = false ∧ ∃ vs, KV kvs vs ∧ h.DictOf (mixKind P w) a vs
  | .dT kvs => kvs.length ≤ sizeLine ∧ (a == sysModules) = false ∧ ∃ xs : List (List Key × Addr × Value),
      Paired (fun (p : List Key × V) (q : List Key × Addr × Value) => p.1 = q.1 ∧ H q.2.1 = some (.tup (p.1.map kV)) ∧ RelV p.2 q.2.2) kvs xs ∧
      ∃ o es ep, h.get? a = some o ∧ o.ExactDict ∧ o.data = .dict es ep ∧ es.toList = xs.map (entryOfKey (tupleKind (mixKind P w))) ∧ (xs.map (·.1)).Nodup
  | .set S n => h.SetOf (intKind P w) a S n
  | .ins C dx fs => H dx = some (.own a) ∧ fs.length ≤ 1000 ∧ dx ≠ a ∧ h.get? a = some (PySem.W.instObj C dx) ∧
      ∃ mA, h.Ns1 dx mA ∧ (∀ f, RelO (fs.lookup f) (mA f)) ∧ PySem.Within mA (fs.map (·.1))
  | .own _ => ∃ o, h.get? a = some o
  | .xd fs => ∃ mA, h.Ns1 a mA ∧ ∀ f, RelO (fs.lookup f) (mA f)
  | .rng lo hi => ∃ t u v, h.get? a = some { cls := .type "range", data := .fields #[.int lo t, .int hi u, .int 1 v] }
  | .frz o u => h.get? a = some o ∧ ObjOk H h a u
  | .tbl ps => h.get? a = some { cls := .none, data := .fields ps }
  | .met f x => h.get? a = some (PySem.W.methodObj (.ref f) (.ref x))
  | .ext φ => φ h ∧ (∃ o, h.get? a = some o) ∧ ∀ h1 h2 : Heap, φ h1 → (∀ o, h1.get? a = some o → h2.get? a = some o) → φ h2
def HOk (H : Hp) (h : Heap) : Prop := ∀ a o, H a = some o → ObjOk P w H h a o
end
section
variable {P : Program} {w : World} {H H' : Hp} {h h' : Heap} {a : Addr} {o : HO}
theorem ObjOk.lt (x : ObjOk P w H h a o) : a < h.objs.size := by
  cases o with
  | lst xs => obtain ⟨_, _, _, _, e⟩ := x; exact Heap.lt_size e
  | tup xs => obtain ⟨_, _, _, p⟩ := x; exact p.lt
  | dK kvs => obtain ⟨_, _, _, _, o, _, _, e, _⟩ := x; exact Heap.lt_size e
  | dT kvs => obtain ⟨_, _, _, _, o, _, _, e, _⟩ := x; exact Heap.lt_size e
  | set S n => obtain ⟨o, _, _, _, e, _⟩ := x; exact Heap.lt_size e
  | ins C dx fs => obtain ⟨_, _, _, e, _⟩ := x; exact Heap.lt_size e
  | own y => obtain ⟨_, e⟩ := x; exact Heap.lt_size e
  | xd fs => obtain ⟨_, ⟨_, _, _, e, _⟩, _⟩ := x; exact Heap.lt_size e
  | rng lo hi => obtain ⟨_, _, _, e⟩ := x; exact Heap.lt_size e
  | frz ob u => obtain ⟨e, _⟩ := x; exact Heap.lt_size e
  | tbl ps => exact Heap.lt_size (show h.get? a = some _ from x)
  | met f y => exact Heap.lt_size (show h.get? a = some _ from x)
  | ext φ => obtain ⟨_, ⟨_, e⟩, _⟩ := x; exact Heap.lt_size e
theorem Paired.mapP {α β : Type} {F G : α → β → Prop} : ∀ {l₁ : List α} {l₂ : List β}, Paired F l₁ l₂ → (∀ a b, F a b → G a b) → Paired G l₁ l₂
  | _, _, .nil, _ => .nil
  | _, _, .cons r t, f => .cons (f _ _ r) (Paired.mapP t f)
theorem ObjOk.stay (x : ObjOk P w H h a o) (k : ∀ b u, (b = a ∨ H b = some (.own a)) → h.get? b = some u → h'.get? b = some u)
    (ho : ∀ b, H b = some (.own a) → H' b = some (.own a)) (ht : ∀ b xs, H b = some (.tup xs) → H' b = some (.tup xs)) : ObjOk P w H' h' a o := by
  induction o with
  | lst xs => obtain ⟨z, its, n, r, e⟩ := x; exact ⟨z, its, n, r, k _ _ (.inl rfl) e⟩
  | tup xs => obtain ⟨z, its, r, ob, e, c⟩ := x; exact ⟨z, its, r, ob, k _ _ (.inl rfl) e, c⟩
  | dK kvs => obtain ⟨z, y, vs, r, ob, es, ep, e, c⟩ := x; exact ⟨z, y, vs, r, ob, es, ep, k _ _ (.inl rfl) e, c⟩
  | dT kvs =>
    obtain ⟨z, y, xs, r, ob, es, ep, e, c⟩ := x
    exact ⟨z, y, xs, Paired.mapP r fun p q z => ⟨z.1, ht _ _ z.2.1, z.2.2⟩, ob, es, ep, k _ _ (.inl rfl) e, c⟩
  | set S n => obtain ⟨ob, es, ep, t, e, c⟩ := x; exact ⟨ob, es, ep, t, k _ _ (.inl rfl) e, c⟩
  | ins C dx fs =>
    obtain ⟨d, z, ne, e, mA, ⟨od, es, ep, e2, c⟩, r⟩ := x
    exact ⟨ho _ d, z, ne, k _ _ (.inl rfl) e, mA, ⟨od, es, ep, k _ _ (.inr d) e2, c⟩, r⟩
  | own y => obtain ⟨ob, e⟩ := x; exact ⟨ob, k _ _ (.inl rfl) e⟩
  | xd fs => obtain ⟨mA, ⟨od, es, ep, e, c⟩, r⟩ := x; exact ⟨mA, ⟨od, es, ep, k _ _ (.inl rfl) e, c⟩, r⟩
  | rng lo hi => obtain ⟨t, u, v, e⟩ := x; exact ⟨t, u, v, k _ _ (.inl rfl) e⟩
  | frz ob u ih => obtain ⟨e, q⟩ := x; exact ⟨k _ _ (.inl rfl) e, ih q⟩
  | tbl ps =>
    have e : h.get? a = some { cls := .none, data := .fields ps } := x
    show h'.get? a = some { cls := .none, data := .fields ps }
    exact k a _ (.inl rfl) e
  | met f y =>
    have e : h.get? a = some (PySem.W.methodObj (.ref f) (.ref y)) := x
    show h'.get? a = some (PySem.W.methodObj (.ref f) (.ref y))
    exact k a _ (.inl rfl) e
  | ext φ => obtain ⟨p, ⟨o, e⟩, st⟩ := x; exact ⟨st _ _ p fun o q => k _ _ (.inl rfl) q, ⟨o, k _ _ (.inl rfl) e⟩, st⟩
theorem HOk.lt (x : HOk P w H h) (e : H a = some o) : a < h.objs.size := (x a o e).lt
theorem HOk.fresh (x : HOk P w H h) (e : h.objs.size ≤ a) : H a = none := by
  cases q : H a with
  | none => rfl
  | some u => exact absurd (Nat.lt_of_lt_of_le (x.lt q) e) (Nat.lt_irrefl _)
theorem HOk.kept (x : HOk P w H h) (k : ∀ b u, h.get? b = some u → h'.get? b = some u) : HOk P w H h' := fun a o e =>
  (x a o e).stay (fun b u _ q => k b u q) (fun _ q => q) fun _ _ q => q
theorem HOk.laid (x : HOk P w H h) (k : ∀ b u, h.get? b = some u → h'.get? b = some u) (hp : h.objs.size ≤ a) (new : ObjOk P w (upd H a o) h' a o) : HOk P w (upd H a o) h' := fun b u e => by
  have hn := x.fresh hp
  by_cases hb : b = a
  · subst hb; rw [upd_same] at e; cases e; exact new
  · rw [upd_ne hb] at e
    exact (x b u e).stay (fun c v _ q => k c v q) (fun c q => by rw [upd_ne (ne_of_none q hn)]; exact q) fun c xs q => by rw [upd_ne (ne_of_none q hn)]; exact q
end
def Rd (H : Hp) (a : Addr) (u : HO) : Prop := H a = some u ∨ ∃ o, H a = some (.frz o u)
theorem Rd.of {H : Hp} {a : Addr} {u : HO} (h : H a = some u) : Rd H a u := .inl h
theorem Rd.ok {P : Program} {w : World} {H : Hp} {h : Heap} {a : Addr} {u : HO} (r : Rd H a u) (x : HOk P w H h) : ObjOk P w H h a u := by
  rcases r with r | ⟨o, r⟩
  · exact x a u r
  · obtain ⟨_, q⟩ := x a _ r
    exact q
def Mut : Option HO → Prop
  | some (.lst _) => True
  | some (.dK _) => True
  | some (.dT _) => True
  | some (.set _ _) => True
  | some (.ins _ _ _) => True
  | some (.ext _) => True
  | _ => False
section
variable {P : Program} {w : World} {H : Hp} {h h' : Heap} {x e : Addr} {o' : HO}
theorem HOk.write (ok : HOk P w H h) (mu : Mut (H x)) (he : e = x ∨ H e = some (.own x)) (k : ∀ b u, b ≠ e → h.get? b = some u → h'.get? b = some u) (heo : ∃ u, h'.get? e = some u)
    (new : ObjOk P w (upd H x o') h' x o') : HOk P w (upd H x o') h' := fun b u q => by
  have nown : ∀ c y, H c = some (.own y) → c ≠ x := fun c y r z => by subst z; rw [r] at mu; exact mu
  have ntup : ∀ c xs, H c = some (.tup xs) → c ≠ x := fun c xs r z => by subst z; rw [r] at mu; exact mu
  by_cases hb : b = x
  · subst hb; rw [upd_same] at q; cases q; exact new
  · rw [upd_ne hb] at q
    by_cases hbe : b = e
    · have q' : H b = some (.own x) := by
        rcases he with z | z
        · exact absurd (hbe.trans z) hb
        · rw [hbe]; exact z
      rw [q] at q'; cases q'
      obtain ⟨v, hv⟩ := heo
      exact ⟨v, by rw [hbe]; exact hv⟩
    · refine (ok b u q).stay (fun c v hc r => k c v ?_ r) (fun c r => by rw [upd_ne (nown c b r)]; exact r) fun c xs r => by rw [upd_ne (ntup c xs r)]; exact r
      rcases hc with rfl | hc
      · exact hbe
      · rintro rfl
        rcases he with z | z
        · exact nown c b hc z
        · rw [hc] at z; cases z; exact hb rfl
end
structure Un (fs ex : List Addr) (H H' : Hp) (h h' : Heap) : Prop where
  keep : ∀ b o, h.get? b = some o → H b = none → b ∉ fs → b ∉ ex → h'.get? b = some o
  slot : ∀ b o, h.get? b = some o → H b = none → b ∈ fs → b ∉ ex → ∃ sl, h'.get? b = some { o with slots := sl }
  free : ∀ b o, h.get? b = some o → H b = none → b ∉ ex → H' b = none
  there : ∀ b o, h.get? b = some o → b ∉ ex → ∃ o', h'.get? b = some o'
  tups : ∀ b xs, H b = some (.tup xs) → H' b = some (.tup xs)
  frzs : ∀ b o u, H b = some (.frz o u) → H' b = some (.frz o u)
  tbls : ∀ b ps, H b = some (.tbl ps) → ∃ more, H' b = some (.tbl (ps ++ more))
section
variable {fs fs' ex ex' : List Addr} {H H1 H2 : Hp} {h h1 h2 h' : Heap} {a x e : Addr} {o : HO}
theorem Un.any (u : Un fs ex H H1 h h1) {b : Addr} {ob : Obj} (q : h.get? b = some ob) (n : H b = none) (hx : b ∉ ex) : ∃ sl, h1.get? b = some { ob with slots := sl } := by
  by_cases hb : b ∈ fs
  · exact u.slot b ob q n hb hx
  · exact ⟨ob.slots, u.keep b ob q n hb hx⟩
theorem Un.trans (a : Un fs ex H H1 h h1) (b : Un fs ex H1 H2 h1 h2) : Un fs ex H H2 h h2 where
  keep := fun c ob q n hc hx => b.keep c ob (a.keep c ob q n hc hx) (a.free c ob q n hx) hc hx
  slot := fun c ob q n hc hx => by
    obtain ⟨sl, e1⟩ := a.slot c ob q n hc hx
    obtain ⟨sl', e2⟩ := b.slot c _ e1 (a.free c ob q n hx) hc hx
    exact ⟨sl', e2⟩
  free := fun c ob q n hx => by
    obtain ⟨o', e1⟩ := a.there c ob q hx
    exact b.free c o' e1 (a.free c ob q n hx) hx
  there := fun c ob q hx => by
    obtain ⟨o', e1⟩ := a.there c ob q hx
    exact b.there c o' e1 hx
  tups := fun c xs q => b.tups c xs (a.tups c xs q)
  frzs := fun c ob xs q => b.frzs c ob xs (a.frzs c ob xs q)
  tbls := fun c ps q => by
    obtain ⟨m1, e1⟩ := a.tbls c ps q
    obtain ⟨m2, e2⟩ := b.tbls c _ e1
    exact ⟨m1 ++ m2, by rw [e2, Array.append_assoc]⟩
theorem Un.kept (k : ∀ b u, h.get? b = some u → h'.get? b = some u) : Un fs ex H H h h' :=
  ⟨fun b ob q _ _ _ => k b ob q, fun b ob q _ _ _ => ⟨ob.slots, k b ob q⟩, fun _ _ _ n _ => n, fun b ob q _ => ⟨ob, k b ob q⟩, fun _ _ q => q, fun _ _ _ q => q, fun _ ps q => ⟨#[], by rw [q]; simp⟩⟩
theorem Un.refl : Un fs ex H H h h := Un.kept fun _ _ q => q
theorem Un.laid (k : ∀ b u, h.get? b = some u → h'.get? b = some u) (hp : h.objs.size ≤ a) (hn : H a = none) : Un fs ex H (upd H a o) h h' where
  keep := fun b u q _ _ _ => k b u q
  slot := fun b u q _ _ _ => ⟨u.slots, k b u q⟩
  free := fun b u q n _ => by rw [upd_ne (Nat.ne_of_lt (Nat.lt_of_lt_of_le (Heap.lt_size q) hp))]; exact n
  there := fun b u q _ => ⟨u, k b u q⟩
  tups := fun b xs q => by rw [upd_ne (ne_of_none q hn)]; exact q
  frzs := fun b u xs q => by rw [upd_ne (ne_of_none q hn)]; exact q
  tbls := fun b ps q => ⟨#[], by rw [upd_ne (ne_of_none q hn), q]; simp⟩
theorem Un.write (mu : Mut (H x)) (he : e = x ∨ H e = some (.own x)) (k : ∀ b u, b ≠ e → h.get? b = some u → h'.get? b = some u) (heo : ∃ u, h'.get? e = some u) : Un fs ex H (upd H x o) h h' := by
  have hx : ∀ b, H b = none → b ≠ x := fun b n z => by subst z; rw [n] at mu; exact mu
  have hb : ∀ b, H b = none → b ≠ e := fun b n z => by
    subst z
    rcases he with r | r
    · exact hx b n r
    · rw [n] at r; cases r
  have hm : ∀ b u, H b = some u → ¬ Mut (some u) → b ≠ x := fun b u q nm z => by subst z; rw [q] at mu; exact nm mu
  refine ⟨fun b u q n _ _ => k b u (hb b n) q, fun b u q n _ _ => ⟨u.slots, k b u (hb b n) q⟩, fun b u q n _ => by rw [upd_ne (hx b n)]; exact n, fun b u q _ => ?_,
    fun b xs q => by rw [upd_ne (hm b _ q fun z => z)]; exact q, fun b u xs q => by rw [upd_ne (hm b _ q fun z => z)]; exact q, fun b ps q => ⟨#[], by rw [upd_ne (hm b _ q fun z => z), q]; simp⟩⟩
  by_cases hbe : b = e
  · subst hbe; exact heo
  · exact ⟨u, k b u hbe q⟩
theorem Un.mono (u : Un fs ex H H1 h h1) (hs : ∀ b ∈ fs, b ∈ fs') (hx : ∀ b ∈ ex, b ∈ ex') : Un fs' ex' H H1 h h1 :=
  ⟨fun b ob q n hb he => u.keep b ob q n (fun z => hb (hs b z)) fun z => he (hx b z), fun _ _ q n _ he => u.any q n fun z => he (hx _ z), fun b ob q n he => u.free b ob q n fun z => he (hx b z), fun b ob q he => u.there b ob q fun z => he (hx b z), u.tups, u.frzs, u.tbls⟩
end
def trk (h : Heap) (H : Hp) : List Addr := (List.range h.objs.size).filter fun a => (H a).isSome
def hidT (h : Heap) (H : Hp) : Heap := PySem.W.hideAll h (trk h H)
theorem hidT_size (h : Heap) (H : Hp) : (hidT h H).objs.size = h.objs.size := PySem.W.hideAll_size _ _
theorem hidT_get {h : Heap} {H : Hp} {b : Addr} {o : Obj} (e : h.get? b = some o) (n : H b = none) : (hidT h H).get? b = some o :=
  PySem.W.hideAll_get _ e fun hm => by
    have q : (H b).isSome = true := (List.mem_filter.mp hm).2
    rw [n] at q; simp at q
theorem of_hidT {h : Heap} {H : Hp} {b : Addr} {o : Obj} (e : (hidT h H).get? b = some o) : h.get? b = some o ∧ H b = none := by
  have e' : h.get? b = some o := PySem.W.of_hideAll (trk h H) e
  refine ⟨e', ?_⟩
  cases q : H b with
  | none => rfl
  | some x =>
    have hm : b ∈ trk h H := List.mem_filter.mpr ⟨List.mem_range.mpr (Heap.lt_size e'), by simp [q]⟩
    have z : (hidT h H).get? b = none := PySem.W.hideAll_none (trk h H) hm
    rw [z] at e; cases e
def allNews (g h : Heap) (L : Addr) : List (Addr × Obj) := (List.range h.objs.size).filterMap fun a => if a = L ∨ (g.get? a).isSome = true then none else (h.get? a).map fun o => (a, o)
def rest (g h : Heap) (L d : Addr) : List (Addr × Obj) := (allNews g h L).filter fun p => decide (p.1 ≠ d)
end L2
namespace L2
open PySem PySem.Spec PyProof.Rows
structure Mod (K : PySem.W.Frag) (mg : Str → Option Value) (base : Heap) : Prop where
  kin : K.In base
  glob : base.Ns mainGlobals mg
  blt : ∃ mb, base.Ns builtinsNs mb ∧ ∀ x : Str, x ≠ "__name__" → mb x = bootBuiltins x
  nolimit : base.NoLimit
structure Cx where
  prog : Program
  w : World
  K : PySem.W.Frag
  mg : Str → Option Value
  base : Heap
  A : Around
  N : List Str
  s₀ : Shared
  H₀ : Hp
  env : Env
  outer : List Env
  stack : List Env
  ex : List Addr
  fn : Str → Bool
  calm : Bool
  pn : List (Addr × Obj)
  xe : Value → Shared → Prop
def frs (l : List Env) : List Addr := l.filterMap (·.frame)
abbrev Cx.fs (X : Cx) : List Addr := frs X.outer
def Vis (sc : Scope) (x : Str) : Prop := sc.names.lookup x = some .local ∨ sc.names.lookup x = some .cell ∨ sc.names.lookup x = some .free
def Loc (sc : Scope) (x : Str) : Prop := sc.names.lookup x = some .local ∨ sc.names.lookup x = some .cell
def Look (env : Env) (h : Heap) (m : Str → Option Value) (x : Str) (u : Value) : Prop :=
  (env.kindOf x = some .local ∧ m x = some u) ∨ ((env.kindOf x = some .cell ∨ env.kindOf x = some .free) ∧ ∃ c, env.cells.lookup x = some c ∧ h.IsCell c (some u))
structure Cx.Ok (X : Cx) : Prop where
  mod : Mod X.K X.mg X.base
  kind : X.env.scope.kind = .function
  glob : X.env.globals = mainGlobals
  blt : X.env.builtins = builtinsNs
  above : X.s₀.heap.objs.size ≤ X.env.locals
  inj : ∀ x y c, X.env.cells.lookup x = some c → X.env.cells.lookup y = some c → x = y
  has : ∀ x, (X.env.kindOf x = some .cell ∨ X.env.kindOf x = some .free) → ∃ c, X.env.cells.lookup x = some c
  cab : ∀ x c, X.fn x = true → X.env.cells.lookup x = some c → X.s₀.heap.objs.size ≤ c
  hd : X.calm = true → X.A.handled = none
  frames : X.A.frames = some X.stack
  stk : X.stack = X.outer ∨ (X.stack = X.env :: X.outer ∧ X.env.frame = some X.env.locals)
  exf : ∀ b ∈ X.ex, b ≠ X.env.locals ∧ ∀ x c, X.env.cells.lookup x = some c → c ≠ b
  bs : ∀ b o, X.base.get? b = some o → X.s₀.heap.get? b = some o ∧ X.H₀ b = none
  bsz : X.base.objs.size ≤ X.s₀.heap.objs.size
  noex : ∀ b o, X.base.get? b = some o → b ∉ X.ex
  exfs : ∀ b ∈ X.ex, b ∉ X.fs
  funs : X.s₀.heap.FunFrames X.base X.outer
  frf : ∀ b ∈ X.fs, X.H₀ b = none
structure Inv (X : Cx) (pins : List (Addr × Obj)) (σ : List (Option V)) (H : Hp) (s : Shared) : Prop where
  ok : X.Ok
  os : s.os = X.s₀.os
  bare : AllBare s.gens
  base : Un X.fs X.ex X.H₀ H X.s₀.heap s.heap
  loc : ∃ m, s.heap.Ns X.env.locals m ∧ ∀ (i : Nat) (x : Str) (v : V), X.N[i]? = some x → σ[i]? = some (some v) → Vis X.env.scope x → ∃ u, RelV v u ∧ Look X.env s.heap m x u
  cell : ∀ x c, X.env.cells.lookup x = some c → ∃ v, s.heap.IsCell c v
  free : H X.env.locals = none
  freeC : ∀ x c, X.env.cells.lookup x = some c → H c = none
  pin : ∀ p ∈ X.pn ++ pins, s.heap.get? p.1 = some p.2 ∧ H p.1 = none ∧ p.1 ≠ X.env.locals ∧ p.1 ∉ X.fs ∧ ∀ v, p.2.data ≠ .cell v
  hok : HOk X.prog X.w H s.heap
  len : σ.length = X.N.length
section
variable {X : Cx} {pins : List (Addr × Obj)} {σ : List (Option V)} {H H' : Hp} {s : Shared} {h' : Heap}
theorem Cx.Ok.nofr (ok : X.Ok) {b : Addr} {o : Obj} (e : X.base.get? b = some o) : b ∉ X.fs := fun hb => by
  have := (ok.funs.mem hb).1
  rw [e] at this; cases this
theorem Inv.bs (I : Inv X pins σ H s) : ∀ b o, X.base.get? b = some o → s.heap.get? b = some o ∧ H b = none := fun b o e =>
  ⟨I.base.keep b o (I.ok.bs b o e).1 (I.ok.bs b o e).2 (I.ok.nofr e) (I.ok.noex b o e), I.base.free b o (I.ok.bs b o e).1 (I.ok.bs b o e).2 (I.ok.noex b o e)⟩
theorem Inv.bk (I : Inv X pins σ H s) : ∀ b o, X.base.get? b = some o → s.heap.get? b = some o := fun b o e => (I.bs b o e).1
theorem Inv.mod (I : Inv X pins σ H s) : Mod X.K X.mg X.base := I.ok.mod
theorem Inv.kIn (I : Inv X pins σ H s) : X.K.In s.heap := I.ok.mod.kin.keeps I.bk
theorem Inv.nolimit (I : Inv X pins σ H s) : s.heap.NoLimit := I.ok.mod.nolimit.keeps I.bk
theorem Inv.fr (I : Inv X pins σ H s) : ∃ m, Fr X.base X.env.locals s.heap m :=
  let ⟨m, hn, _⟩ := I.loc
  ⟨m, hn, I.bk, Nat.le_trans I.ok.bsz I.ok.above⟩
theorem Inv.lt (I : Inv X pins σ H s) : X.env.locals < s.heap.objs.size := let ⟨_, hn, _⟩ := I.loc; hn.lt
theorem Inv.sz (I : Inv X pins σ H s) : X.s₀.heap.objs.size ≤ s.heap.objs.size := Nat.le_trans I.ok.above (Nat.le_of_lt I.lt)
theorem Inv.nofs (I : Inv X pins σ H s) {a : Addr} (h : s.heap.objs.size ≤ a) : a ∉ X.fs := fun hb => by
  obtain ⟨_, o, ho, _⟩ := I.ok.funs.mem hb
  exact absurd (Nat.lt_of_lt_of_le (Heap.lt_size ho) (Nat.le_trans I.sz h)) (Nat.lt_irrefl _)
theorem Inv.cne (I : Inv X pins σ H s) : ∀ x c, X.env.cells.lookup x = some c → c ≠ X.env.locals := fun x c e z => by
  obtain ⟨v, o, ho, hd⟩ := I.cell x c e
  obtain ⟨m, ⟨o', es, ep, ho', hd', _⟩, _⟩ := I.loc
  rw [z, ho'] at ho; cases ho; rw [hd'] at hd; cases hd
theorem Inv.funs (I : Inv X pins σ H s) : s.heap.FunFrames X.base X.outer := by
  have all : ∀ (l : List Env), (∀ b ∈ frs l, b ∈ X.fs) → X.s₀.heap.FunFrames X.base l → s.heap.FunFrames X.base l := by
    intro l
    induction l with
    | nil => intro _ _; trivial
    | cons env r ih =>
      intro hs hl
      obtain ⟨hk, ⟨L, o, hf, hn, ho, hd⟩, hr⟩ := hl
      have hL : L ∈ X.fs := hs L (by unfold frs; rw [List.filterMap_cons, hf]; exact List.mem_cons_self)
      obtain ⟨sl, e⟩ := I.base.slot L o ho (I.ok.frf L hL) hL fun z => I.ok.exfs L z hL
      exact ⟨hk, ⟨L, _, hf, hn, e, hd⟩, ih (fun b hb => hs b (by unfold frs; rw [List.filterMap_cons, hf]; exact List.mem_cons_of_mem _ hb)) hr⟩
  exact all X.outer (fun _ hb => hb) I.ok.funs
theorem Inv.stack (I : Inv X pins σ H s) : s.heap.FunFrames X.base X.stack := by
  rcases I.ok.stk with e | ⟨e, hf⟩
  · rw [e]; exact I.funs
  · rw [e]
    obtain ⟨m, hn, _⟩ := I.loc
    refine .cons (by rw [I.ok.kind]; decide) hf hn ?_ I.funs
    exact Heap.get?_none_of_le (Nat.le_trans I.ok.bsz I.ok.above)
theorem Inv.stkSub (I : Inv X pins σ H s) : ∀ b ∈ frs X.stack, b ∈ X.env.locals :: X.fs := fun b hb => by
  rcases I.ok.stk with e | ⟨e, hf⟩
  · rw [e] at hb; exact List.mem_cons_of_mem _ hb
  · rw [e] at hb
    unfold frs at hb
    rw [List.filterMap_cons, hf] at hb
    exact hb
theorem Inv.stkFree (I : Inv X pins σ H s) : ∀ b ∈ frs X.stack, H b = none := fun b hb => by
  rcases List.mem_cons.mp (I.stkSub b hb) with e | hb
  · rw [e]; exact I.free
  · obtain ⟨_, o, ho, _⟩ := I.ok.funs.mem hb
    exact I.base.free b o ho (I.ok.frf b hb) fun z => I.ok.exfs b z hb
theorem Inv.step {g' : Array GenState} {t' : Nat} {d' : Drawn} {ch : List Addr} (I : Inv X pins σ H s)
    (hch : ∀ b ∈ ch, (b ∈ X.ex ∨ X.s₀.heap.objs.size ≤ b) ∧ b ≠ X.env.locals ∧ (∀ x c, X.env.cells.lookup x = some c → c ≠ b) ∧ ∀ p ∈ X.pn ++ pins, p.1 ≠ b)
    (keep : ∀ b o, b ≠ X.env.locals → b ∉ X.fs → b ∉ ch → s.heap.get? b = some o → H b = none → h'.get? b = some o)
    (slot : ∀ b o, b ≠ X.env.locals → b ∈ X.fs → b ∉ ch → s.heap.get? b = some o → H b = none → ∃ sl, h'.get? b = some { o with slots := sl }) (free : ∀ b o, b ∉ ch → s.heap.get? b = some o → H b = none → H' b = none)
    (there : ∀ b o, b ∉ ch → s.heap.get? b = some o → ∃ o', h'.get? b = some o')
    (tups : ∀ b xs, H b = some (.tup xs) → H' b = some (.tup xs)) (frzs : ∀ b o u, H b = some (.frz o u) → H' b = some (.frz o u)) (tbls : ∀ b ps, H b = some (.tbl ps) → ∃ more, H' b = some (.tbl (ps ++ more)))
    (ns : ∀ m, s.heap.Ns X.env.locals m → h'.Ns X.env.locals m) (hok : HOk X.prog X.w H' h') (hg : AllBare g') :
    Inv X pins σ H' { s with heap := h', gens := g', drawn := d', toks := t' } := by
  have neL : ∀ b o, X.s₀.heap.get? b = some o → b ≠ X.env.locals := fun b o e => Nat.ne_of_lt (Nat.lt_of_lt_of_le (Heap.lt_size e) I.ok.above)
  have neC : ∀ b o, X.s₀.heap.get? b = some o → b ∉ X.ex → b ∉ ch := fun b o e hx hb => by
    rcases (hch b hb).1 with z | z
    · exact hx z
    · exact absurd (Nat.lt_of_lt_of_le (Heap.lt_size e) z) (Nat.lt_irrefl _)
  have cellK : ∀ x c, X.env.cells.lookup x = some c → ∀ v, s.heap.IsCell c v → h'.IsCell c v := fun x c e v ⟨o, ho, hd⟩ => by
    have nch : c ∉ ch := fun z => (hch c z).2.2.1 x c e rfl
    by_cases hc : c ∈ X.fs
    · obtain ⟨sl, q⟩ := slot c o (I.cne x c e) hc nch ho (I.freeC x c e)
      exact ⟨_, q, hd⟩
    · exact ⟨o, keep c o (I.cne x c e) hc nch ho (I.freeC x c e), hd⟩
  refine ⟨I.ok, I.os, hg, ⟨fun b o e n hb hx => ?_, fun b o e n hb hx => ?_, fun b o e n hx => ?_, fun b o e hx => ?_, fun b xs e => tups b xs (I.base.tups b xs e), fun b o xs e => frzs b o xs (I.base.frzs b o xs e), fun b ps e => ?_⟩, ?_, fun x c e => ?_, ?_, fun x c e => ?_, fun p hp => ?_, hok, I.len⟩
  · exact keep b o (neL b o e) hb (neC b o e hx) (I.base.keep b o e n hb hx) (I.base.free b o e n hx)
  · obtain ⟨sl, e1⟩ := I.base.slot b o e n hb hx
    obtain ⟨sl', e2⟩ := slot b _ (neL b o e) hb (neC b o e hx) e1 (I.base.free b o e n hx)
    exact ⟨sl', e2⟩
  · obtain ⟨o', e1⟩ := I.base.there b o e hx
    exact free b o' (neC b o e hx) e1 (I.base.free b o e n hx)
  · obtain ⟨o', e1⟩ := I.base.there b o e hx
    exact there b o' (neC b o e hx) e1
  · obtain ⟨m1, e1⟩ := I.base.tbls b ps e
    obtain ⟨m2, e2⟩ := tbls b _ e1
    exact ⟨m1 ++ m2, by rw [e2, Array.append_assoc]⟩
  · obtain ⟨m, hn, hl⟩ := I.loc
    refine ⟨m, ns m hn, fun i x v e1 e2 e3 => ?_⟩
    obtain ⟨u, r, l⟩ := hl i x v e1 e2 e3
    refine ⟨u, r, ?_⟩
    rcases l with l | ⟨k, c, e, z⟩
    · exact .inl l
    · exact .inr ⟨k, c, e, cellK x c e _ z⟩
  · obtain ⟨v, z⟩ := I.cell x c e
    exact ⟨v, cellK x c e v z⟩
  · obtain ⟨m, ⟨o, _, _, ho, _⟩, _⟩ := I.loc
    exact free _ o (fun z => (hch _ z).2.1 rfl) ho I.free
  · obtain ⟨v, o, ho, hd⟩ := I.cell x c e
    exact free c o (fun z => (hch c z).2.2.1 x c e rfl) ho (I.freeC x c e)
  · obtain ⟨e, n, ne, nf, d⟩ := I.pin p hp
    have nch : p.1 ∉ ch := fun z => (hch p.1 z).2.2.2 p hp rfl
    exact ⟨keep p.1 p.2 ne nf nch e n, free p.1 p.2 nch e n, ne, nf, d⟩
theorem Inv.un {t' : Nat} (I : Inv X pins σ H s) (u : Un X.fs [] H H' s.heap h') (hok : HOk X.prog X.w H' h') : Inv X pins σ H' { s with heap := h', toks := t' } := by
  obtain ⟨m, ⟨o, es, ep, ho, r⟩, _⟩ := id I.loc
  obtain ⟨sl, hL⟩ := u.any ho I.free (by simp)
  exact I.step (g' := s.gens) (d' := s.drawn) (ch := []) (fun _ z => nomatch z) (fun b o _ hb _ e n => u.keep b o e n hb (by simp)) (fun b o _ hb _ e n => u.slot b o e n hb (by simp)) (fun b o _ e n => u.free b o e n (by simp)) (fun b o _ e => u.there b o e (by simp)) u.tups u.frzs u.tbls (fun m' hm => by
    obtain ⟨o', es', ep', ho', r'⟩ := hm
    rw [ho] at ho'; cases ho'
    exact ⟨_, es', ep', hL, r'⟩) hok I.bare
theorem Inv.call {g' : Array GenState} {t' : Nat} {d' : Drawn} {ch : List Addr} (I : Inv X pins σ H s) (u : Un (frs X.stack) ch H H' s.heap h') (hok : HOk X.prog X.w H' h') (hg : AllBare g')
    (hch : ∀ b ∈ ch, (b ∈ X.ex ∨ X.s₀.heap.objs.size ≤ b) ∧ b ≠ X.env.locals ∧ (∀ x c, X.env.cells.lookup x = some c → c ≠ b) ∧ ∀ p ∈ X.pn ++ pins, p.1 ≠ b) :
    Inv X pins σ H' { s with heap := h', gens := g', drawn := d', toks := t' } := by
  obtain ⟨m, ⟨o, es, ep, ho, r⟩, _⟩ := id I.loc
  obtain ⟨sl, hL⟩ := u.any ho I.free fun z => (hch _ z).2.1 rfl
  exact I.step (ch := ch) hch (fun b o hL hb hc e n => u.keep b o e n (fun z => (List.mem_cons.mp (I.stkSub b z)).elim hL hb) hc) (fun b o _ _ hc e n => u.any e n hc) (fun b o hc e n => u.free b o e n hc) (fun b o hc e => u.there b o e hc) u.tups u.frzs u.tbls (fun m' hm => by
    obtain ⟨o', es', ep', ho', r'⟩ := hm
    rw [ho] at ho'; cases ho'
    exact ⟨_, es', ep', hL, r'⟩) hok hg
theorem Inv.turned {t' : Nat} {it : Addr} (I : Inv X pins σ H s) (k : ∀ b o, b ≠ it → s.heap.get? b = some o → h'.get? b = some o) (hn : H it = none) (hL : it ≠ X.env.locals)
    (h1 : it ∈ X.ex ∨ X.s₀.heap.objs.size ≤ it) (h2 : ∀ x c, X.env.cells.lookup x = some c → c ≠ it) (h3 : ∀ p ∈ X.pn ++ pins, p.1 ≠ it) : Inv X pins σ H { s with heap := h', toks := t' } := by
  have nit : ∀ b u, H b = some u → b ≠ it := fun b u e z => by rw [z, hn] at e; cases e
  refine I.step (g' := s.gens) (d' := s.drawn) (ch := [it]) (fun b hb => ?_) (fun b o _ _ hc e _ => k b o (fun z => hc (by simp [z])) e) (fun b o _ _ hc e _ => ⟨o.slots, k b o (fun z => hc (by simp [z])) e⟩) (fun _ _ _ _ n => n)
    (fun b o hc e => ⟨o, k b o (fun z => hc (by simp [z])) e⟩) (fun _ _ e => e) (fun _ _ _ e => e) (fun b ps e => ⟨#[], by rw [e]; simp⟩) (fun m hm => ?_) (fun b u e => ?_) I.bare
  · have e : b = it := by simpa using hb
    subst e
    exact ⟨h1, hL, h2, h3⟩
  · obtain ⟨o, es, ep, ho, r⟩ := hm
    exact ⟨o, es, ep, k _ o (Ne.symm hL) ho, r⟩
  · refine (I.hok b u e).stay (fun c v hc q => k c v ?_ q) (fun _ q => q) fun _ _ q => q
    rcases hc with z | z
    · rw [z]; exact nit b u e
    · exact nit c _ z
theorem Inv.tok (I : Inv X pins σ H s) (t : Nat) : Inv X pins σ H { s with toks := t } := I.un (h' := s.heap) (t' := t) Un.refl I.hok
theorem Inv.kept {t' : Nat} (I : Inv X pins σ H s) (k : ∀ b u, s.heap.get? b = some u → h'.get? b = some u) : Inv X pins σ H { s with heap := h', toks := t' } := I.un (Un.kept k) (I.hok.kept k)
theorem Inv.laid {a : Addr} {o : HO} {t' : Nat} (I : Inv X pins σ H s) (k : ∀ b u, s.heap.get? b = some u → h'.get? b = some u) (hp : s.heap.objs.size ≤ a) (new : ObjOk X.prog X.w (upd H a o) h' a o) :
    Inv X pins σ (upd H a o) { s with heap := h', toks := t' } := I.un (Un.laid k hp (I.hok.fresh hp)) (I.hok.laid k hp new)
theorem Inv.write {x e : Addr} {o : HO} {t' : Nat} (I : Inv X pins σ H s) (mu : Mut (H x)) (he : e = x ∨ H e = some (.own x)) (k : ∀ b u, b ≠ e → s.heap.get? b = some u → h'.get? b = some u) (heo : ∃ u, h'.get? e = some u)
    (new : ObjOk X.prog X.w (upd H x o) h' x o) : Inv X pins σ (upd H x o) { s with heap := h', toks := t' } := I.un (Un.write mu he k heo) (I.hok.write mu he k heo new)
theorem Inv.weak {σ' : List (Option V)} (I : Inv X pins σ H s) (hl : σ'.length = σ.length) (w : ∀ (i : Nat) v, σ'[i]? = some (some v) → σ[i]? = some (some v)) : Inv X pins σ' H s :=
  ⟨I.ok, I.os, I.bare, I.base, let ⟨m, hn, hl'⟩ := I.loc; ⟨m, hn, fun i x v e1 e2 e3 => hl' i x v e1 (w i v e2) e3⟩, I.cell, I.free, I.freeC, I.pin, I.hok, hl.trans I.len⟩
theorem Inv.pins_of {pins' : List (Addr × Obj)} (I : Inv X pins σ H s) (h : ∀ p ∈ pins', s.heap.get? p.1 = some p.2 ∧ H p.1 = none ∧ p.1 ≠ X.env.locals ∧ p.1 ∉ X.fs ∧ ∀ v, p.2.data ≠ .cell v) : Inv X pins' σ H s :=
  ⟨I.ok, I.os, I.bare, I.base, I.loc, I.cell, I.free, I.freeC, fun p hp => (List.mem_append.mp hp).elim (fun z => I.pin p (List.mem_append_left _ z)) (h p), I.hok, I.len⟩
theorem nodup_ix {N : List Str} (hN : N.Nodup) {i j : Nat} {x : Str} (a : N[i]? = some x) (b : N[j]? = some x) : i = j := by
  obtain ⟨h1, e1⟩ := List.getElem?_eq_some_iff.mp a
  obtain ⟨h2, e2⟩ := List.getElem?_eq_some_iff.mp b
  exact (List.getElem_inj hN).mp (e1.trans e2.symm)
theorem store_ok2 {M : Model} {A : Around} {E : Value → Shared → Prop} {i : Nat} {x : Str} {v : V} {u : Value} {Q : Unit → Shared → Prop} (I : Inv X pins σ H s) (hN : X.N.Nodup) (hi : X.N[i]? = some x) (hx : Loc X.env.scope x) (r : RelV v u)
    (h : ∀ s', Inv X pins (σ.set i (some v)) H s' → (∃ a, Heap.SameBut a s.heap s'.heap ∧ (a = X.env.locals ∨ X.env.cells.lookup x = some a)) → Q () s') (hf : X.fn x = true ∨ X.env.scope.names.lookup x = some .local := by first | exact .inl rfl | exact .inr rfl | assumption) : wpAny M A (storeName X.env x u) Q E s := by
  obtain ⟨m, hn, hl⟩ := id I.loc
  have hcls : (X.env.scope.kind == .class || (X.env.scope.kind == .module && X.env.locals != X.env.globals)) = false := by rw [I.ok.kind]; rfl
  have hiσ : i < σ.length := by rw [I.len]; exact (List.getElem?_eq_some_iff.mp hi).1
  have cne := I.cne
  have tracked : ∀ {a : Addr} {h' : Heap}, (∃ o, s.heap.get? a = some o ∧ H a = none) → Heap.SameBut a s.heap h' → HOk X.prog X.w H h' := fun {a h'} ha hs b ob e => by
    obtain ⟨_, _, hfree⟩ := ha
    refine (I.hok b ob e).stay (fun c w' hc q => (hs.2 c ?_).trans q) (fun _ q => q) fun _ _ q => q
    rintro rfl
    rcases hc with rfl | hc
    · rw [hfree] at e; cases e
    · rw [hfree] at hc; cases hc
  rcases hx with hk | hk
  · refine wpAny_storeName_local hk hn (fun h' hn' hs => ?_) hcls
    obtain ⟨oL, _, _, hoL, _⟩ := id hn
    refine h _ ⟨I.ok, I.os, I.bare, ⟨fun b o e n hb hx => ?_, fun b o e n hb hx => ?_, I.base.free, fun b o e hx => ?_, I.base.tups, I.base.frzs, I.base.tbls⟩, ⟨_, hn', fun j y v' e1 e2 e3 => ?_⟩, fun y c e => ?_, I.free, I.freeC, fun p hp => ?_, tracked ⟨oL, hoL, I.free⟩ hs, by simpa using I.len⟩ ⟨_, hs, .inl rfl⟩
    · exact (hs.2 b (Nat.ne_of_lt (Nat.lt_of_lt_of_le (Heap.lt_size e) I.ok.above))).trans (I.base.keep b o e n hb hx)
    · obtain ⟨sl, e1⟩ := I.base.slot b o e n hb hx
      exact ⟨sl, (hs.2 b (Nat.ne_of_lt (Nat.lt_of_lt_of_le (Heap.lt_size e) I.ok.above))).trans e1⟩
    · obtain ⟨o', e1⟩ := I.base.there b o e hx
      exact ⟨o', (hs.2 b (Nat.ne_of_lt (Nat.lt_of_lt_of_le (Heap.lt_size e) I.ok.above))).trans e1⟩
    · by_cases hj : j = i
      · subst hj
        rw [hi] at e1; cases e1
        rw [List.getElem?_set_self hiσ] at e2
        cases e2
        exact ⟨u, r, .inl ⟨hk, by simp⟩⟩
      · rw [List.getElem?_set_ne (Ne.symm hj)] at e2
        obtain ⟨u', r', q⟩ := hl j y v' e1 e2 e3
        refine ⟨u', r', ?_⟩
        rcases q with ⟨k, e⟩ | ⟨k, c, e, z⟩
        · refine .inl ⟨k, ?_⟩
          have : y ≠ x := fun e => hj (nodup_ix hN e1 (e ▸ hi))
          simp [this, e]
        · exact .inr ⟨k, c, e, z.sameBut hs (cne y c e)⟩
    · obtain ⟨w', z⟩ := I.cell y c e
      exact ⟨w', z.sameBut hs (cne y c e)⟩
    · obtain ⟨e, n, ne, nf, d⟩ := I.pin p hp
      exact ⟨(hs.2 p.1 ne).trans e, n, ne, nf, d⟩
  · have hfn : X.fn x = true := by
      rcases hf with z | z
      · exact z
      · rw [z] at hk; cases hk
    obtain ⟨c, hc⟩ := I.ok.has x (.inl hk)
    obtain ⟨w', z⟩ := I.cell x c hc
    refine wpAny_storeName_cell I.ok.kind hk hc z (fun h' hc' hs => ?_)
    obtain ⟨oc, hoc, hocd⟩ := id z
    refine h { s with heap := h' } ⟨I.ok, I.os, I.bare, ⟨fun b o e n hb hx => ?_, fun b o e n hb hx => ?_, I.base.free, fun b o e hx => ?_, I.base.tups, I.base.frzs, I.base.tbls⟩, ⟨m, hn.sameBut hs (Ne.symm (cne x c hc)), fun j y v' e1 e2 e3 => ?_⟩, fun y c' e => ?_, I.free, I.freeC, fun p hp => ?_, tracked ⟨oc, hoc, I.freeC x c hc⟩ hs, by simpa using I.len⟩ ⟨c, hs, .inr hc⟩
    · exact (hs.2 b (Nat.ne_of_lt (Nat.lt_of_lt_of_le (Heap.lt_size e) (I.ok.cab x c hfn hc)))).trans (I.base.keep b o e n hb hx)
    · obtain ⟨sl, e1⟩ := I.base.slot b o e n hb hx
      exact ⟨sl, (hs.2 b (Nat.ne_of_lt (Nat.lt_of_lt_of_le (Heap.lt_size e) (I.ok.cab x c hfn hc)))).trans e1⟩
    · obtain ⟨o', e1⟩ := I.base.there b o e hx
      exact ⟨o', (hs.2 b (Nat.ne_of_lt (Nat.lt_of_lt_of_le (Heap.lt_size e) (I.ok.cab x c hfn hc)))).trans e1⟩
    · by_cases hj : j = i
      · subst hj
        rw [hi] at e1; cases e1
        rw [List.getElem?_set_self hiσ] at e2
        cases e2
        exact ⟨u, r, .inr ⟨.inl hk, c, hc, hc'⟩⟩
      · rw [List.getElem?_set_ne (Ne.symm hj)] at e2
        obtain ⟨u', r', q⟩ := hl j y v' e1 e2 e3
        refine ⟨u', r', ?_⟩
        rcases q with q | ⟨k, c', e, z'⟩
        · exact .inl q
        · refine .inr ⟨k, c', e, z'.sameBut hs ?_⟩
          rintro rfl
          exact hj (nodup_ix hN e1 (I.ok.inj _ _ _ e hc ▸ hi))
    · by_cases hcc : c' = c
      · subst hcc; exact ⟨_, hc'⟩
      · obtain ⟨w2, z2⟩ := I.cell y c' e
        exact ⟨w2, z2.sameBut hs hcc⟩
    · obtain ⟨e, n, ne, nf, d⟩ := I.pin p hp
      refine ⟨(hs.2 p.1 ?_).trans e, n, ne, nf, d⟩
      intro q
      rw [q, hoc] at e
      have q' : oc = p.2 := Option.some.inj e
      exact d w' (by rw [← q']; exact hocd)
theorem store_ok {M : Model} {A : Around} {E : Value → Shared → Prop} {i : Nat} {x : Str} {v : V} {u : Value} {Q : Unit → Shared → Prop} (I : Inv X pins σ H s) (hN : X.N.Nodup) (hi : X.N[i]? = some x) (hx : Loc X.env.scope x) (r : RelV v u)
    (h : ∀ s', Inv X pins (σ.set i (some v)) H s' → Q () s') (hf : X.fn x = true ∨ X.env.scope.names.lookup x = some .local := by first | exact .inl rfl | exact .inr rfl | assumption) : wpAny M A (storeName X.env x u) Q E s :=
  store_ok2 I hN hi hx r (fun s' I' _ => h s' I') hf
theorem Inv.call' {s' : Shared} {ch : List Addr} (I : Inv X pins σ H s) (ho : s'.os = s.os) (u : Un (frs X.stack) ch H H' s.heap s'.heap) (hok : HOk X.prog X.w H' s'.heap) (hg : AllBare s'.gens)
    (hch : ∀ b ∈ ch, (b ∈ X.ex ∨ X.s₀.heap.objs.size ≤ b) ∧ b ≠ X.env.locals ∧ (∀ x c, X.env.cells.lookup x = some c → c ≠ b) ∧ ∀ p ∈ X.pn ++ pins, p.1 ≠ b) : Inv X pins σ H' s' := by
  obtain ⟨h', g', d', t', o'⟩ := s'
  have e : o' = s.os := ho
  subst e
  exact I.call (g' := g') (t' := t') (d' := d') u hok hg hch
end
abbrev XK := Value → Option Addr → Hp → Prop
abbrev St := List (Option V)
abbrev VK := V → Hp → Prop
abbrev TE := St → Hp → VK → Prop
abbrev TT := St → Hp → (Bool → Hp → Prop) → Prop
abbrev TA := St → Hp → (List V → Hp → Prop) → Prop
structure Ends where
  nx : St → Hp → Prop
  rt : VK
  bk : St → Hp → Prop := fun _ _ => False
  ct : St → Hp → Prop := fun _ _ => False
abbrev TS := Ends → St → Hp → Prop
def EP (X : Cx) (pins : List (Addr × Obj)) (σ : St) (Q : VK) (u : Value) (s' : Shared) : Prop := ∃ v H', Inv X pins σ H' s' ∧ RelV v u ∧ Q v H'
def TP (X : Cx) (pins : List (Addr × Obj)) (σ : St) (Q : Bool → Hp → Prop) (b : Bool) (s' : Shared) : Prop := ∃ H', Inv X pins σ H' s' ∧ Q b H'
def AP (X : Cx) (pins : List (Addr × Obj)) (σ : St) (Q : List V → Hp → Prop) (us : List Value) (s' : Shared) : Prop := ∃ vs H', Inv X pins σ H' s' ∧ Vals vs us ∧ Q vs H'
def SP (X : Cx) (pins : List (Addr × Obj)) (D : Ends) (f : Flow) (s' : Shared) : Prop :=
  match f with
  | .next => ∃ σ' H', Inv X pins σ' H' s' ∧ D.nx σ' H'
  | .brk => ∃ σ' H', Inv X pins σ' H' s' ∧ D.bk σ' H'
  | .cont => ∃ σ' H', Inv X pins σ' H' s' ∧ D.ct σ' H'
  | .ret u => ∃ v σ' H', Inv X pins σ' H' s' ∧ RelV v u ∧ D.rt v H'
def PE (X : Cx) (e : Expr) (t : TE) : Prop :=
  ∀ (pins : List (Addr × Obj)) (s : Shared) (σ : St) (H : Hp) (Q : VK), Inv X pins σ H s → t σ H Q → wpAny (model X.prog X.w) X.A (eval e X.env) (EP X pins σ Q) X.xe s
def PT (X : Cx) (e : Expr) (t : TT) : Prop :=
  ∀ (pins : List (Addr × Obj)) (s : Shared) (σ : St) (H : Hp) (Q : Bool → Hp → Prop), Inv X pins σ H s → t σ H Q → wpAny (model X.prog X.w) X.A (isTrue e X.env (eval e X.env)) (TP X pins σ Q) X.xe s
def PW (X : Cx) (e : Expr) (t : TT) : Prop :=
  ∀ (whole : Sem Value) (pins : List (Addr × Obj)) (s : Shared) (σ : St) (H : Hp) (Q : Bool → Hp → Prop), Inv X pins σ H s → t σ H Q → wpAny (model X.prog X.w) X.A (isTrue e X.env whole) (TP X pins σ Q) X.xe s
theorem PW.pt {X : Cx} {e : Expr} {t : TT} (h : PW X e t) : PT X e t := h _
def PA (X : Cx) (es : List Expr) (t : TA) : Prop :=
  ∀ (pos : Pos) (pins : List (Addr × Obj)) (s : Shared) (σ : St) (H : Hp) (Q : List V → Hp → Prop), Inv X pins σ H s → t σ H Q → wpAny (model X.prog X.w) X.A (spliced (backTo pos (starEach es X.env))) (AP X pins σ Q) X.xe s
def PS (X : Cx) (st : Stmt) (t : TS) : Prop :=
  ∀ (pins : List (Addr × Obj)) (s : Shared) (σ : St) (H : Hp) (D : Ends), Inv X pins σ H s → t D σ H → wpAny (model X.prog X.w) X.A (exec st X.env) (SP X pins D) X.xe s
def PSs (X : Cx) (st : List Stmt) (t : TS) : Prop :=
  ∀ (pins : List (Addr × Obj)) (s : Shared) (σ : St) (H : Hp) (D : Ends), Inv X pins σ H s → t D σ H → wpAny (model X.prog X.w) X.A (execs st X.env) (SP X pins D) X.xe s
theorem thn {α : Type} {t : Sem α} {Q Q' : α → Shared → Prop} {M : Model} {A : Around} {E : Value → Shared → Prop} {s : Shared} (h : wpAny M A t Q E s) (hQ : ∀ a s, Q a s → Q' a s) : wpAny M A t Q' E s := wpAny_mono h hQ fun _ _ x => x
end L2
namespace L2
open PySem PySem.Spec PyProof.Rows
section
variable {X : Cx}
theorem bin {a b : Expr} {ta tb : TE} (ha : PE X a ta) (hb : PE X b tb) {pins : List (Addr × Obj)} {s : Shared} {σ : St} {H : Hp} {R : V → V → Hp → Prop} (I : Inv X pins σ H s) (h : ta σ H fun x H1 => tb σ H1 fun y H2 => R x y H2)
    {α : Type} {Q : α → Shared → Prop} {f : Value → Value → Sem α}
    (hf : ∀ v u s2 x y H2, Inv X pins σ H2 s2 → RelV x v → RelV y u → R x y H2 → wpAny (model X.prog X.w) X.A (f v u) Q X.xe s2) :
    wpAny (model X.prog X.w) X.A (eval a X.env) (fun v s₁ => wpAny (model X.prog X.w) X.A (eval b X.env) (fun u s₂ => wpAny (model X.prog X.w) X.A (f v u) Q X.xe s₂) X.xe s₁) X.xe s := by
  refine thn (ha pins s σ H _ I h) fun v s1 ⟨x, H1, I1, r1, q1⟩ => ?_
  refine thn (hb pins s1 σ H1 _ I1 q1) fun u s2 ⟨y, H2, I2, r2, q2⟩ => ?_
  exact hf v u s2 x y H2 I2 r1 r2 q2
def tVar (i : Nat) : TE := fun σ H Q => ∃ v, σ[i]? = some (some v) ∧ Q v H
def tC (v : V) : TE := fun _ H Q => Q v H
theorem pe_var {i : Nat} {x : Str} {pos : Pos} (hN : X.N[i]? = some x) (hv : Vis X.env.scope x) (hd : (x == ("__debug__" : Str)) = false := by decide) (hcd : (x == ("__classdict__" : Str)) = false := by decide) : PE X (.Name x pos) (tVar i) := by
  intro pins s σ H Q I h
  obtain ⟨v, e, h⟩ := h
  obtain ⟨m, hn, hl⟩ := I.loc
  obtain ⟨u, r, l⟩ := hl i x v hN e hv
  have fin : EP X pins σ Q u s := ⟨v, H, I, r, h⟩
  rcases l with ⟨hk, hm⟩ | ⟨hk, c, hc, hcell⟩
  · exact wpAny_Name (wpAny_loadName_local I.ok.kind hk hn hm fin) hd
  · rcases hk with hk | hk
    · exact wpAny_Name (wpAny_loadName_cell I.ok.kind hk hc hcell fin) hd
    · exact wpAny_Name (wpAny_loadName_free I.ok.kind hk hc hcell fin hcd) hd
theorem pe_int {i j pos} : PE X (.Constant (.int i) j pos) (tC (.int i)) := fun _ _ _ H _ I h => wpAny_Constant_int ⟨.int i, H, I.tok _, ⟨_, rfl⟩, h⟩
theorem pe_bl {b j pos} : PE X (.Constant (.bool b) j pos) (tC (.bl b)) := fun _ _ _ H _ I h => Constant_bool ⟨.bl b, H, I, rfl, h⟩
theorem pe_str {x j pos} : PE X (.Constant (.str x) j pos) (tC (.str x)) := fun _ _ _ H _ I h => Calls.Constant_str ⟨.str x, H, I.tok _, ⟨_, rfl⟩, h⟩
def Gl (X : Cx) (x : Str) : Prop := X.env.kindOf x = some .globalImplicit
theorem ld_glob {E : Value → Shared → Prop} {pins : List (Addr × Obj)} {s : Shared} {σ : St} {H : Hp} {x : Str} {u : Value} {pos : Pos} {Q : Value → Shared → Prop} (I : Inv X pins σ H s) (hg : Gl X x) (hm : X.mg x = some u) (h : Q u s)
    (hd : (x == ("__debug__" : Str)) = false := by decide) : wpAny (model X.prog X.w) X.A (eval (.Name x pos) X.env) Q E s :=
  Calls.Name_function_global I.ok.kind hg (Calls.loadGlobal_global (by rw [I.ok.glob]; exact I.mod.glob.keeps I.bk) hm h) hd
theorem ld_blt {E : Value → Shared → Prop} {pins : List (Addr × Obj)} {s : Shared} {σ : St} {H : Hp} {x : Str} {u : Value} {pos : Pos} {Q : Value → Shared → Prop} (I : Inv X pins σ H s) (hg : Gl X x) (hm : X.mg x = none) (hv : bootBuiltins x = some u) (h : Q u s)
    (hn : x ≠ "__name__" := by decide) (hd : (x == ("__debug__" : Str)) = false := by decide) : wpAny (model X.prog X.w) X.A (eval (.Name x pos) X.env) Q E s := by
  obtain ⟨mb, h1, h2⟩ := I.mod.blt
  exact Calls.Name_function_global I.ok.kind hg (Calls.loadGlobal_builtin (by rw [I.ok.glob]; exact I.mod.glob.keeps I.bk) hm (by rw [I.ok.blt]; exact h1.keeps I.bk) ((h2 x hn).trans hv) h) hd
theorem pe_glob {x : Str} {v : V} {u : Value} {pos : Pos} (hg : Gl X x) (hm : X.mg x = some u) (r : RelV v u) (hd : (x == ("__debug__" : Str)) = false := by decide) : PE X (.Name x pos) (tC v) :=
  fun _ _ _ H _ I h => ld_glob I hg hm ⟨v, H, I, r, h⟩ hd
theorem pe_bltn {x : Str} {v : V} {u : Value} {pos : Pos} (hg : Gl X x) (hm : X.mg x = none) (hv : bootBuiltins x = some u) (r : RelV v u) (hn : x ≠ "__name__" := by decide) (hd : (x == ("__debug__" : Str)) = false := by decide) : PE X (.Name x pos) (tC v) :=
  fun _ _ _ H _ I h => ld_blt I hg hm hv ⟨v, H, I, r, h⟩ hn hd
variable {a b : Expr} {ta tb : TE} {pos : Pos}
theorem RelV.none_iff {x : V} {v : Value} (r : RelV x v) : (v == Value.none) = decide (x = .non) := by
  cases x with
  | non => cases r; rfl
  | bl _ => cases r; rfl
  | int _ => obtain ⟨t, rfl⟩ := r; rfl
  | str _ => obtain ⟨t, rfl⟩ := r; rfl
  | byt _ => obtain ⟨t, rfl⟩ := r; rfl
  | flt _ => obtain ⟨t, rfl⟩ := r; rfl
  | ref _ => cases r; rfl
  | ty _ => cases r; rfl
def tB (t : TE) : TT := fun σ H Q => t σ H fun x H1 => ∃ c, x = .bl c ∧ Q c H1
theorem pt_val {e : Expr} {t : TE} (h : PE X e t) (he : ∀ whole, isTrue e X.env whole = (do let v ← whole; standAt e.pos; holding [v] (truthy v)) := by intro _; rfl) : PT X e (tB t) := by
  intro pins s σ H Q I hw
  refine isTrue_plain (thn (h pins s σ H _ I hw) fun v s1 ⟨x, H1, I1, r1, q1⟩ => ?_) (he _)
  obtain ⟨d, rfl, q⟩ := q1
  cases r1
  exact wpAny_truthy_bool ⟨H1, I1, q⟩
variable {tA tB' : TT} {rest : List Expr}
def tAnd (t u : TT) : TT := fun σ H Q => t σ H fun c H1 => if c = true then u σ H1 Q else Q false H1
def tOr (t u : TT) : TT := fun σ H Q => t σ H fun c H1 => if c = true then Q true H1 else u σ H1 Q
def tNot (t : TT) : TT := fun σ H Q => t σ H fun c H1 => Q (!c) H1
theorem pw_and1 (ha : PT X a tA) : PW X (.BoolOp .And [a] pos) tA := by
  intro wh pins s σ H Q I h
  refine isTrue_and (thn (ha pins s σ H Q I h) fun c s1 e => ?_)
  cases c with
  | true => exact isTrue_and_nil e
  | false => exact e
theorem pw_or1 (ha : PT X a tA) : PW X (.BoolOp .Or [a] pos) tA := by
  intro wh pins s σ H Q I h
  refine isTrue_or (thn (ha pins s σ H Q I h) fun c s1 e => ?_)
  cases c with
  | false => exact isTrue_or_nil e
  | true => exact e
theorem pw_and (ha : PT X a tA) (hb : PW X (.BoolOp .And (b :: rest) pos) tB') : PW X (.BoolOp .And (a :: b :: rest) pos) (tAnd tA tB') := by
  intro wh pins s σ H Q I h
  refine isTrue_and (thn (ha pins s σ H _ I h) fun c s1 ⟨H1, I1, q1⟩ => ?_)
  cases c with
  | true => exact hb wh pins s1 σ H1 Q I1 q1
  | false => exact ⟨H1, I1, q1⟩
theorem pw_or (ha : PT X a tA) (hb : PW X (.BoolOp .Or (b :: rest) pos) tB') : PW X (.BoolOp .Or (a :: b :: rest) pos) (tOr tA tB') := by
  intro wh pins s σ H Q I h
  refine isTrue_or (thn (ha pins s σ H _ I h) fun c s1 ⟨H1, I1, q1⟩ => ?_)
  cases c with
  | true => exact ⟨H1, I1, q1⟩
  | false => exact hb wh pins s1 σ H1 Q I1 q1
theorem pt_not (ha : PT X a tA) : PT X (.UnaryOp .Not a pos) (tNot tA) := by
  intro pins s σ H Q I h
  exact isTrue_not (ha pins s σ H (fun c H1 => Q (!c) H1) I h)
def tAndV (ta tb : TE) : TE := fun σ H Q => ta σ H fun x H1 => ∃ c, x = .bl c ∧ if c = true then tb σ H1 Q else Q (.bl false) H1
def tNotV (ta : TE) : TE := fun σ H Q => ta σ H fun x H1 => ∃ c, x = .bl c ∧ Q (.bl (!c)) H1
theorem pe_one {op} {t : TE} (h : PE X a t) : PE X (.BoolOp op [a] pos) t := fun pins s σ H Q I hw => BoolOp_one (h pins s σ H Q I hw)
theorem pe_and (ha : PE X a ta) (hb : PE X (.BoolOp .And (b :: rest) pos) tb) : PE X (.BoolOp .And (a :: b :: rest) pos) (tAndV ta tb) := by
  intro pins s σ H Q I h
  refine BoolOp_and (thn (ha pins s σ H _ I h) fun v s1 ⟨x, H1, I1, r1, q1⟩ => ?_)
  obtain ⟨c, rfl, q1⟩ := q1
  cases r1
  refine wpAny_truthy_bool ?_
  cases c with
  | true => exact hb pins s1 σ H1 Q I1 q1
  | false => exact ⟨.bl false, H1, I1, rfl, q1⟩
theorem pe_not (ha : PE X a ta) : PE X (.UnaryOp .Not a pos) (tNotV ta) := by
  intro pins s σ H Q I h
  refine UnaryOp_ (thn (ha pins s σ H _ I h) fun v s1 ⟨x, H1, I1, r1, q1⟩ => ?_)
  obtain ⟨c, rfl, q1⟩ := q1
  cases r1
  exact not_of (wpAny_truthy_bool ⟨.bl (!c), H1, I1, rfl, q1⟩)
end
end L2
namespace L2
open PySem PySem.Spec PyProof.Rows
def SqL (K : PySem.W.Frag) (H : Hp) (a : Addr) (xs : List V) : Prop :=
  Rd H a (.lst xs) ∨
    ∃ (o : Obj) (its : Array Value) (n : Nat), K.lookup a = some o ∧ o.cls = .type "list" ∧ o.dict = none ∧ o.data = .seq its n ∧ its.size ≤ sizeLine ∧ Vals xs its.toList
def SqT (K : PySem.W.Frag) (H : Hp) (a : Addr) (xs : List V) : Prop :=
  Rd H a (.tup xs) ∨
    ∃ (o : Obj) (its : Array Value) (n : Nat), K.lookup a = some o ∧ o.cls = .type "tuple" ∧ o.data = .seq its n ∧ its.size ≤ sizeLine ∧ Vals xs its.toList
def absV : Value → Option V
  | .none => some .non
  | .bool b => some (.bl b)
  | .int i _ => some (.int i)
  | .str x _ => some (.str x)
  | .bytes b _ => some (.byt b)
  | .float b _ => some (.flt b)
  | .ref a => some (.ref a)
  | .type n => some (.ty n)
  | _ => none
theorem RelV.abs {x : V} {u : Value} (r : RelV x u) : absV u = some x := by
  cases x with
  | non => cases r; rfl
  | bl _ => cases r; rfl
  | int _ => obtain ⟨t, rfl⟩ := r; rfl
  | str _ => obtain ⟨t, rfl⟩ := r; rfl
  | byt _ => obtain ⟨t, rfl⟩ := r; rfl
  | flt _ => obtain ⟨t, rfl⟩ := r; rfl
  | ref _ => cases r; rfl
  | ty _ => cases r; rfl
theorem RelV.inj {x y : V} {u : Value} (r : RelV x u) (q : RelV y u) : x = y := Option.some.inj (r.abs.symm.trans q.abs)
theorem Vals.inj : ∀ {xs ys : List V} {us : List Value}, Vals xs us → Vals ys us → xs = ys
  | _, _, _, .nil, .nil => rfl
  | _, _, _, .cons r t, .cons r' t' => by rw [r.inj r', Vals.inj t t']
section
variable {X : Cx} {pins : List (Addr × Obj)} {σ : St} {H : Hp} {s : Shared} {a : Addr} {xs ys : List V}
theorem SqL.of {K : PySem.W.Frag} (h : H a = some (.lst xs)) : SqL K H a xs := .inl (.inl h)
theorem SqT.of {K : PySem.W.Frag} (h : H a = some (.tup xs)) : SqT K H a xs := .inl (.inl h)
theorem Inv.list (I : Inv X pins σ H s) (h : SqL X.K H a xs) : ∃ its : List Value, Vals xs its ∧ PlainL s.heap a its.toArray ∧ xs.length ≤ sizeLine := by
  rcases h with h | ⟨o, its, n, hk, hc, hd, hs, hz, r⟩
  · obtain ⟨z, its, n, r, e⟩ := h.ok I.hok
    exact ⟨its, r, ⟨_, n, e, rfl, rfl, rfl⟩, z⟩
  · refine ⟨its.toList, r, ⟨o, n, I.kIn a o hk, hc, hd, by simpa using hs⟩, ?_⟩
    have e := r.length
    simp only [Array.length_toList] at e
    omega
theorem Inv.tuple (I : Inv X pins σ H s) (h : SqT X.K H a xs) : ∃ its : List Value, Vals xs its ∧ IsTup s.heap a its.toArray ∧ xs.length ≤ sizeLine := by
  rcases h with h | ⟨o, its, n, hk, hc, hs, hz, r⟩
  · obtain ⟨z, its, r, p⟩ := h.ok I.hok
    exact ⟨its, r, p, z⟩
  · refine ⟨its.toList, r, ⟨o, I.kIn a o hk, hc, n, by simpa using hs⟩, ?_⟩
    have e := r.length
    simp only [Array.length_toList] at e
    omega
end
abbrev Cx.wish (X : Cx) (E : Value → Shared → Prop) : Cx := { X with xe := E }
abbrev Cx.nox (X : Cx) : Cx := X.wish fun _ _ => False
theorem Cx.Ok.wish {X : Cx} (ok : X.Ok) (E : Value → Shared → Prop) : (X.wish E).Ok :=
  ⟨ok.mod, ok.kind, ok.glob, ok.blt, ok.above, ok.inj, ok.has, ok.cab, ok.hd, ok.frames, ok.stk, ok.exf, ok.bs, ok.bsz, ok.noex, ok.exfs, ok.funs, ok.frf⟩
theorem Cx.Ok.unwish {X : Cx} {E : Value → Shared → Prop} (ok : (X.wish E).Ok) : X.Ok :=
  ⟨ok.mod, ok.kind, ok.glob, ok.blt, ok.above, ok.inj, ok.has, ok.cab, ok.hd, ok.frames, ok.stk, ok.exf, ok.bs, ok.bsz, ok.noex, ok.exfs, ok.funs, ok.frf⟩
section
variable {X : Cx} {pins : List (Addr × Obj)} {σ : St} {H : Hp} {s : Shared} {E : Value → Shared → Prop}
theorem Inv.wish (I : Inv X pins σ H s) (E : Value → Shared → Prop) : Inv (X.wish E) pins σ H s := ⟨I.ok.wish E, I.os, I.bare, I.base, I.loc, I.cell, I.free, I.freeC, I.pin, I.hok, I.len⟩
theorem Inv.unwish (I : Inv (X.wish E) pins σ H s) : Inv X pins σ H s := ⟨I.ok.unwish, I.os, I.bare, I.base, I.loc, I.cell, I.free, I.freeC, I.pin, I.hok, I.len⟩
theorem SP.unwish {D : Ends} {f : Flow} {s' : Shared} (h : SP (X.wish E) pins D f s') : SP X pins D f s' := by
  cases f with
  | next => obtain ⟨σ', H', I, q⟩ := h; exact ⟨σ', H', I.unwish, q⟩
  | brk => obtain ⟨σ', H', I, q⟩ := h; exact ⟨σ', H', I.unwish, q⟩
  | cont => obtain ⟨σ', H', I, q⟩ := h; exact ⟨σ', H', I.unwish, q⟩
  | ret u => obtain ⟨v, σ', H', I, r, q⟩ := h; exact ⟨v, σ', H', I.unwish, r, q⟩
theorem PE.nox {e : Expr} {t : TE} (h : PE X.nox e t) : PE X e t := fun pins s σ H Q I hw =>
  wpAny_mono (h pins s σ H Q (I.wish _) hw) (fun _ _ ⟨v, H', I', r, q⟩ => ⟨v, H', I'.unwish, r, q⟩) fun _ _ z => False.elim z
theorem PT.nox {e : Expr} {t : TT} (h : PT X.nox e t) : PT X e t := fun pins s σ H Q I hw =>
  wpAny_mono (h pins s σ H Q (I.wish _) hw) (fun _ _ ⟨H', I', q⟩ => ⟨H', I'.unwish, q⟩) fun _ _ z => False.elim z
theorem PSs.nox {st : List Stmt} {t : TS} (h : PSs X.nox st t) : PSs X st t := fun pins s σ H D I hw =>
  wpAny_mono (h pins s σ H D (I.wish _) hw) (fun _ _ q => q.unwish) fun _ _ z => False.elim z
end
section
variable {X : Cx} {st : Stmt} {rest : List Stmt} {t u : TS} {e : Expr} {te : TE} {pos : Pos}
def tNext : TS := fun D σ H => D.nx σ H
def tSeq (t u : TS) : TS := fun D σ H => t { D with nx := u D } σ H
theorem pss_nil : PSs X [] tNext := fun _ _ σ H _ I h => wpAny_execs_nil ⟨σ, H, I, h⟩
theorem pss_cons (h1 : PS X st t) (h2 : PSs X rest u) : PSs X (st :: rest) (tSeq t u) := by
  intro pins s σ H D I h
  refine wpAny_execs_cons (thn (h1 pins s σ H { D with nx := u D } I h) fun f s1 q => ?_)
  cases f with
  | next =>
    obtain ⟨σ', H', I', q⟩ := q
    exact h2 pins s1 σ' H' D I' q
  | ret v => exact q
  | brk => exact q
  | cont => exact q
theorem pss_one (h1 : PS X st t) : PSs X [st] t := by
  intro pins s σ H D I h
  refine wpAny_execs_cons (thn (h1 pins s σ H D I h) fun f s1 q => ?_)
  cases f with
  | next => exact wpAny_execs_nil q
  | ret v => exact q
  | brk => exact q
  | cont => exact q
theorem Inv.quiet {pins : List (Addr × Obj)} {σ : St} {H : Hp} {s : Shared} (I : Inv X pins σ H s) : interactive X.env = false := by simp [interactive, I.ok.kind]
def tRet (te : TE) : TS := fun D σ H => te σ H D.rt
theorem ps_ret (he : PE X e te) : PS X (.Return (some e) pos) (tRet te) := by
  intro pins s σ H D I h
  exact wpAny_Return_some (thn (he pins s σ H _ I h) fun v s1 ⟨x, H1, I1, r1, q1⟩ => ⟨x, σ, H1, I1, r1, q1⟩)
def tIfS (c : TT) (t u : TS) : TS := fun D σ H => c σ H fun b H1 => if b = true then t D σ H1 else u D σ H1
theorem ps_if {c : Expr} {a b : List Stmt} {tc : TT} (hc : PT X c tc) (ha : PSs X a t) (hb : PSs X b u) : PS X (.If c a b pos) (tIfS tc t u) := by
  intro pins s σ H D I h
  refine wpAny_If (thn (hc pins s σ H _ I h) fun d s1 ⟨H1, I1, q1⟩ => ?_)
  cases d with
  | true => exact ha pins s1 σ H1 D I1 q1
  | false => exact hb pins s1 σ H1 D I1 q1
def tNever : TS := fun _ _ _ => False
theorem ps_never : PS X st tNever := fun _ _ _ _ _ _ h => h.elim
end
abbrev TG := V → St → Hp → (St → Hp → Prop) → Prop
abbrev TGs := List V → St → Hp → (St → Hp → Prop) → Prop
def PG (X : Cx) (target : Expr) (t : TG) : Prop :=
  ∀ (pins : List (Addr × Obj)) (s : Shared) (σ : St) (H : Hp) (v : V) (u : Value) (Q : St → Hp → Prop), Inv X pins σ H s → RelV v u → t v σ H Q →
    wpAny (model X.prog X.w) X.A (assign target X.env u) (fun _ s' => ∃ σ' H', Inv X pins σ' H' s' ∧ Q σ' H') X.xe s
abbrev TSet := V → V → V → Hp → (Hp → Prop) → Prop
def PSet (X : Cx) (t : TSet) : Prop :=
  ∀ (pins : List (Addr × Obj)) (s : Shared) (σ : St) (H : Hp) (o i v : V) (ov iv u : Value) (Q : Hp → Prop), Inv X pins σ H s → RelV o ov → RelV i iv → RelV v u → t o i v H Q →
    wpAny (model X.prog X.w) X.A (setItem ov iv u) (fun _ s' => ∃ H', Inv X pins σ H' s' ∧ Q H') X.xe s
section
variable {X : Cx} {pos : Pos}
def gName (i : Nat) : TG := fun v σ H Q => Q (σ.set i (some v)) H
theorem pg_name {i : Nat} {x : Str} (hN : X.N.Nodup) (hi : X.N[i]? = some x) (hx : Loc X.env.scope x) (hf : X.fn x = true ∨ X.env.scope.names.lookup x = some .local := by first | exact .inl rfl | exact .inr rfl | assumption) : PG X (.Name x pos) (gName i) := by
  intro pins s σ H v u Q I r h
  exact wpAny_assign_Name (store_ok I hN hi hx r (fun s' I' => ⟨_, H, I', h⟩) hf)
def gSub (to ti : TE) (t : TSet) : TG := fun v σ H Q => to σ H fun o H1 => ti σ H1 fun i H2 => t o i v H2 fun H3 => Q σ H3
theorem pg_sub {o i : Expr} {to ti : TE} {t : TSet} (ho : PE X o to) (hi : PE X i ti) (hs : PSet X t)
    (ha : ∀ v, assign (.Subscript o i pos) X.env v = (do
      let ov ← holding [v] (eval o X.env)
      let iv ← holding [v, ov] (eval i X.env)
      standAt pos
      holding [v, ov, iv] (setItem ov iv v)
      release [v, ov, iv] []) := by intro _; rfl) : PG X (.Subscript o i pos) (gSub to ti t) := by
  intro pins s σ H v u Q I r h
  rw [ha]
  refine wpAny_bind (wpAny_holding (thn (ho pins s σ H _ I h) fun ov s1 ⟨x, H1, I1, r1, q1⟩ => ?_))
  refine wpAny_bind (wpAny_holding (thn (hi pins s1 σ H1 _ I1 q1) fun iv s2 ⟨y, H2, I2, r2, q2⟩ => ?_))
  refine wpAny_bind (wpAny_standAt (wpAny_bind (wpAny_holding (thn (hs pins s2 σ H2 x y v ov iv u _ I2 r1 r2 r q2) fun _ s3 ⟨H3, I3, q3⟩ => ?_))))
  exact wpAny_release ⟨σ, H3, I3, q3⟩
def tAsg (te : TE) (g : TG) : TS := fun D σ H => te σ H fun x H1 => g x σ H1 D.nx
theorem ps_asg {tg e : Expr} {te : TE} {g : TG} (he : PE X e te) (hg : PG X tg g) (hs : swapsWithSole [tg] e pos.line X.env = pure false := by rfl) (hw : swappedStores [tg] e X.env = pure none := by rfl)
    (h1 : (assignEach [tg] X.env).map (·.2) = [assign tg X.env] := by rfl) : PS X (.Assign [tg] e pos) (tAsg te g) := by
  intro pins s σ H D I h
  refine wpAny_Assign_stores (thn (he pins s σ H _ I h) fun v s1 ⟨x, H1, I1, r1, q1⟩ => ?_) hs hw
  rw [h1]
  exact thn (hg pins s1 σ H1 x v _ I1 r1 q1) fun _ s2 q => q
theorem ps_set {i : Nat} {x : Str} {e : Expr} {te : TE} {pos' : Pos} (hN : X.N.Nodup) (hi : X.N[i]? = some x) (hx : Loc X.env.scope x) (he : PE X e te) (hs : swapsWith e (some (.Name x pos')) pos.line X.env = pure false := by rfl) (hf : X.fn x = true ∨ X.env.scope.names.lookup x = some .local := by first | exact .inl rfl | exact .inr rfl | assumption) :
    PS X (.Assign [.Name x pos'] e pos) (tAsg te (gName i)) := by
  intro pins s σ H D I h
  refine wpAny_Assign_Name (thn (he pins s σ H _ I h) fun v s1 ⟨y, H1, I1, r1, q1⟩ => ?_) hs
  exact store_ok I1 hN hi hx r1 (fun s2 I2 => ⟨_, H1, I2, q1⟩) hf
def tPar (i j : Nat) (ta : TA) : TS := fun D σ H => ta σ H fun vs H1 => ∃ v w, vs = [v, w] ∧ D.nx ((σ.set i (some v)).set j (some w)) H1
theorem ps_par {i j : Nat} {x y : Str} {a b : Expr} {ta : TA} {px py pt : Pos} {kt k2 pt2} (hc : X.calm = true) (hN : X.N.Nodup) (hi : X.N[i]? = some x) (hj : X.N[j]? = some y) (hij : i ≠ j)
    (hx : X.env.scope.names.lookup x = some .local) (hy : X.env.scope.names.lookup y = some .local) (ha : PA X [a, b] ta)
    (hw : swappedStores [.Tuple [.Name x px, .Name y py] kt pt] (.Tuple [a, b] k2 pt2) X.env = pure (some [x, y]))
    (hs : swapsWithSole [.Tuple [.Name x px, .Name y py] kt pt] (.Tuple [a, b] k2 pt2) pos.line X.env = pure false := by rfl) :
    PS X (.Assign [.Tuple [.Name x px, .Name y py] kt pt] (.Tuple [a, b] k2 pt2) pos) (tPar i j ta) := by
  intro pins s σ H D I h
  rw [exec_Assign_arm]
  refine wpAny_bind (wpAny_standAt ?_)
  rw [hs]
  refine wpAny_bind (wpAny_pure ?_)
  rw [if_neg (by decide)]
  refine wpAny_bind (Tuple_ (thn (ha _ pins s σ H _ I h) fun us s1 ⟨vs, H1, I1, r1, q1⟩ => ?_))
  obtain ⟨v, w, e1, q1⟩ := q1
  subst e1
  obtain ⟨u1, u2, rfl, rv, rw'⟩ : ∃ u1 u2, us = [u1, u2] ∧ RelV v u1 ∧ RelV w u2 := by
    cases r1 with
    | cons p q =>
      cases q with
      | cons p' q' =>
        cases q'
        exact ⟨_, _, rfl, p, p'⟩
  refine wpAny_newObj_type ?_ (by show 2 ≤ sizeLine; decide)
  have I2 : Inv X pins σ H1 { s1 with heap := s1.heap.push { cls := .type "tuple", data := .seq [u1, u2].toArray } } := I1.kept (t' := s1.toks) fun b o e => Heap.get?_push_of_some _ e
  rw [hw]
  refine wpAny_bind (wpAny_pure ?_)
  show wpAny (model X.prog X.w) X.A (do rule "assign.swapped-stores"; let items ← unpackItems (.ref s1.heap.objs.size) 2 none; assignInOrder [fun v => bindName X.env y v, fun v => bindName X.env x v] items.reverse; pure Flow.next) _ _ _
  refine wpAny_bind (wpAny_rule (wpAny_bind (unpackItems_tuple (items := #[u1, u2]) (I.ok.hd hc) (IsTup.new s1.heap _) fun h' hx' => ?_)))
  have I3 := I2.kept (h' := h') (t' := s1.toks) fun b o e => hx' b o (Nat.ne_of_lt (Heap.lt_size e)) e
  show wpAny _ _ (assignInOrder [fun v => bindName X.env y v, fun v => bindName X.env x v] [u2, u1] >>= fun _ => pure Flow.next) _ _ _
  refine wpAny_bind (assignInOrder_cons (wpAny_bindName (store_ok I3 hN hj (.inl hy) rw' (fun s2 I4 => ?_) (.inr hy))))
  refine assignInOrder_cons (wpAny_bindName (store_ok I4 hN hi (.inl hx) rv (fun s3 I5 => assignInOrder_nil (wpAny_pure ?_)) (.inr hx)))
  rw [List.set_comm _ _ (Ne.symm hij)] at I5
  exact ⟨_, H1, I5, q1⟩
end
section
variable {X : Cx} {pos : Pos}
def tWhile (c : TT) (tb : TS) : TS := fun D σ H => ∃ W : Nat → St → Hp → Prop, (∃ m, W m σ H) ∧ ∀ m σ H, W m σ H →
  c σ H fun b H1 => if b = true then ∃ N : St → Hp → Prop, (∀ σ' H', N σ' H' → ∃ m', m' < m ∧ W m' σ' H') ∧ tb { D with nx := N, ct := N, bk := D.nx } σ H1 else D.nx σ H1
theorem ps_while {c : Expr} {body : List Stmt} {tc : TT} {tb : TS} (hp : PassesOwn (model X.prog X.w) X.A X.env X.xe) (hc : PT X c tc) (hb : PSs X body tb) : PS X (.While c body [] pos) (tWhile tc tb) := by
  intro pins s σ H D I h
  obtain ⟨W, ⟨m0, w0⟩, turn⟩ := h
  refine wpAny_While (codeAny_whileLoop (fun n s' => ∃ σ' H', Inv X pins σ' H' s' ∧ W n σ' H') ?_ m0 ⟨σ, H, I, w0⟩)
  rintro n s1 ⟨σ1, H1, I1, w1⟩
  refine wpAny_passesOwn hp (thn (hc pins s1 σ1 H1 _ I1 (turn n σ1 H1 w1)) fun b s2 ⟨H2, I2, q2⟩ => ?_)
  cases b with
  | true =>
    obtain ⟨N, hN, q2⟩ := q2
    rw [if_pos rfl]
    refine wpAny_passesOwn hp (thn (hb pins s2 σ1 H2 _ I2 q2) fun f s3 q3 => ?_)
    cases f with
    | next =>
      obtain ⟨σ3, H3, I3, n3⟩ := q3
      obtain ⟨m', hm, w3⟩ := hN σ3 H3 n3
      exact ⟨m', hm, σ3, H3, I3, w3⟩
    | cont =>
      obtain ⟨σ3, H3, I3, n3⟩ := q3
      obtain ⟨m', hm, w3⟩ := hN σ3 H3 n3
      exact ⟨m', hm, σ3, H3, I3, w3⟩
    | brk => exact q3
    | ret v => exact q3
  | false =>
    rw [if_neg Bool.false_ne_true]
    exact wpAny_execs_nil ⟨σ1, H2, I2, q2⟩
end
structure It where
  go : Nat → Hp → Prop
  yld : Nat → Hp → V → Hp → Prop
  stop : Nat → Hp → Prop
def FpOk (X : Cx) (pins : List (Addr × Obj)) (H : Hp) (b : Addr) : Prop :=
  H b = none ∧ b ≠ X.env.locals ∧ b ∉ X.fs ∧ (b ∈ X.ex ∨ X.s₀.heap.objs.size ≤ b) ∧ (∀ x c, X.env.cells.lookup x = some c → c ≠ b) ∧ ∀ p ∈ X.pn ++ pins, p.1 ≠ b
theorem Inv.fpOk {X : Cx} {pins : List (Addr × Obj)} {σ : St} {H H' : Hp} {s : Shared} {b : Addr} (I : Inv X pins σ H s) (hb : s.heap.objs.size ≤ b) (hn : H' b = none) : FpOk X pins H' b := by
  refine ⟨hn, Nat.ne_of_gt (Nat.lt_of_lt_of_le I.lt hb), I.nofs hb, .inr (Nat.le_trans I.sz hb), fun x c e z => ?_, fun p hp z => ?_⟩
  · obtain ⟨v, q⟩ := I.cell x c e
    exact absurd (Nat.lt_of_lt_of_le q.lt (by rw [z]; exact hb)) (Nat.lt_irrefl _)
  · exact absurd (Nat.lt_of_lt_of_le (Heap.lt_size (I.pin p hp).1) (by rw [z]; exact hb)) (Nat.lt_irrefl _)
structure Turn (P : Program) (w : World) (K : PySem.W.Frag) (tg : Expr) (J : It) (fp : List Addr) (it : Addr) (tn : Nat → Heap → Prop) : Prop where
  mem : it ∈ fp
  obj : ∀ i h, tn i h → ∀ b ∈ fp, ∃ o, h.get? b = some o ∧ ∀ v, o.data ≠ .cell v
  keep : ∀ i h h', tn i h → (∀ b ∈ fp, ∀ o, h.get? b = some o → h'.get? b = some o) → tn i h'
  item : ∀ (X : Cx), X.prog = P → X.w = w → X.K = K → X.calm = true → ∀ (i : Nat) (pins : List (Addr × Obj)) (s : Shared) (σ : St) (H : Hp) (E : Value → Shared → Prop), Inv X pins σ H s → (∀ b ∈ fp, FpOk X pins H b) → tn i s.heap → J.go i H →
    wpAny (model P w) X.A (pyNext (.ref it)) (fun r s1 => ∃ u, r = some u ∧
      wpAny (model P w) X.A (letOwnedTupleGo tg (.ref it) u) (fun _ s2 => ∃ x H', Inv X pins σ H' s2 ∧ RelV x u ∧ J.yld i H x H' ∧ tn (i + 1) s2.heap ∧ ∀ b ∈ fp, H' b = none) E s1) E s
  done : ∀ (X : Cx), X.prog = P → X.w = w → X.K = K → X.calm = true → ∀ (i : Nat) (pins : List (Addr × Obj)) (s : Shared) (σ : St) (H : Hp) (E : Value → Shared → Prop), Inv X pins σ H s → (∀ b ∈ fp, FpOk X pins H b) → tn i s.heap → J.stop i H →
    wpAny (model P w) X.A (pyNext (.ref it)) (fun r s1 => r = none ∧ Inv X pins σ H s1) E s
  self : ∀ (A : Around) (i : Nat) (s : Shared) (Q : Value → Shared → Prop) (E : Value → Shared → Prop), tn i s.heap → Q (.ref it) s → wpAny (model P w) A (pyIter (.ref it)) Q E s
abbrev TI := St → Hp → (It → Hp → Prop) → Prop
def PIE (X : Cx) (pins : List (Addr × Obj)) (σ : St) (tg : Expr) (R : It → Hp → Prop) (itv : Value) (s2 : Shared) : Prop :=
  ∃ (it : Addr) (fp : List Addr) (tn : Nat → Heap → Prop) (J : It) (H' : Hp), itv = .ref it ∧ Inv X pins σ H' s2 ∧ Turn X.prog X.w X.K tg J fp it tn ∧ tn 0 s2.heap ∧ (∀ b ∈ fp, FpOk X pins H' b) ∧ R J H'
def PI (X : Cx) (tg iter : Expr) (wi : TI) : Prop :=
  ∀ (pins : List (Addr × Obj)) (s : Shared) (σ : St) (H : Hp) (R : It → Hp → Prop), Inv X pins σ H s → wi σ H R →
    wpAny (model X.prog X.w) X.A (eval iter X.env) (fun v s1 => wpAny (model X.prog X.w) X.A (pyIter v) (PIE X pins σ tg R) X.xe s1) X.xe s
theorem go_of {M : Model} {A : Around} {E : Value → Shared → Prop} {s : Shared} {tg : Expr} {it : Addr} {u : Value} {o : Obj} {n : String} {vs : Array Value} {Q : Unit → Shared → Prop} (ho : s.heap.get? it = some o) (hc : o.cls = .type n) (hd : o.data = .fields vs)
    (hn : ["enumerate", "zip", "dict_itemiterator", "dict_reverseitemiterator", "odict_iterator", "itertools.zip_longest", "itertools.pairwise"].contains n = false) (hQ : Q () s) : wpAny M A (letOwnedTupleGo tg (.ref it) u) Q E s := by
  unfold letOwnedTupleGo
  cases tg <;> first
    | exact wpAny_pure hQ
    | (cases u <;> first
        | exact wpAny_pure hQ
        | (refine wpAny_bind (wpAny_load ho ?_)
           rw [hc, hd]
           show wpAny M A (if (["enumerate", "zip", "dict_itemiterator", "dict_reverseitemiterator", "odict_iterator", "itertools.zip_longest", "itertools.pairwise"].contains n && vs[0]? == some (rawInt _)) = true then _ else _) Q E s
           rw [if_neg (by intro h; rw [hn, Bool.false_and] at h; cases h)]
           exact wpAny_pure hQ))
def Itr (lo : Int) (n : Nat) : It := ⟨fun i _ => i < n, fun i H x H' => H' = H ∧ x = .int (lo + i), fun i _ => n ≤ i⟩
theorem turn_range {P : Program} {w : World} {K : PySem.W.Frag} {tg : Expr} (it : Addr) (lo : Int) (n : Nat) : Turn P w K tg (Itr lo n) [it] it (fun i h => IsRangeIter h it (lo + (i : Nat) * 1) ((n : Int) - (i : Nat)) 1) where
  mem := by simp
  obj := fun i h st b hb => by
    have e : b = it := by simpa using hb
    subst e
    exact ⟨_, st, fun v z => by
      have z' : Data.fields _ = Data.cell v := z
      cases z'⟩
  keep := fun i h h' st k => k it (by simp) _ st
  item := by
    intro X hP hw hK hc i pins s σ H E I hf st hg
    subst hP hw hK
    obtain ⟨f0, f1, f2, f3, f4, f5⟩ := hf it (by simp)
    have W := Walks.range (prog := X.prog) (w := X.w) (I.ok.hd hc) it lo 1 n
    refine W.item i s _ _ hg st fun v h' tk hv st' kk => ?_
    obtain ⟨t, rfl⟩ := hv
    have I1 : Inv X pins σ H { s with heap := h', toks := tk } := I.turned (fun b o hb e => kk b o (by simpa using hb) e) f0 f1 f3 f4 f5
    refine ⟨_, rfl, go_of (s := { s with heap := h', toks := tk }) (n := "range_iterator") st' rfl rfl (by decide) ⟨.int (lo + i), H, I1, ⟨t, ?_⟩, ⟨rfl, rfl⟩, st', fun b hb => (hf b hb).1⟩⟩
    rw [Int.mul_one]
  done := by
    intro X hP hw hK hc i pins s σ H E I hf st hg
    subst hP hw hK
    obtain ⟨f0, f1, f2, f3, f4, f5⟩ := hf it (by simp)
    exact wpAny_pyNext_range_end (I.ok.hd hc) st (by have : n ≤ i := hg; omega) fun h' eb => ⟨rfl, I.turned (t' := s.toks) (fun b o hb e => eb b o hb e) f0 f1 f3 f4 f5⟩
  self := fun _ _ _ _ _ st h => wpAny_pyIter_rangeiter st h
end L2
namespace L2
open PySem PySem.Spec PyProof.Rows
section
variable {X : Cx} {tg : Expr}
theorem range_it {pins : List (Addr × Obj)} {σ : St} {H : Hp} {s : Shared} {R : It → Hp → Prop} {E : Value → Shared → Prop} {lo hi : Int} {t u v : Tok} {tk : Nat} (I : Inv X pins σ H s) (h1 : -(2 ^ 62) ≤ lo) (h2 : lo < 2 ^ 62) (h3 : -(2 ^ 62) ≤ hi) (h4 : hi < 2 ^ 62)
    (q : R (Itr lo (hi - lo).toNat) H) : wpAny (model X.prog X.w) X.A (pyIter (.ref s.heap.objs.size)) (PIE X pins σ tg R) E { s with heap := s.heap.push { cls := .type "range", data := .fields #[.int lo t, .int hi u, .int 1 v] }, toks := tk } := by
  refine wpAny_pyIter_range (IsRange.new ..) (small_one h1 h2 h3 h4) ?_
  have I1 : Inv X pins σ H { s with heap := s.heap.push { cls := .type "range", data := .fields #[.int lo t, .int hi u, .int 1 v] }, toks := tk } := I.kept fun b o e => Heap.get?_push_of_some _ e
  refine ⟨(s.heap.push { cls := .type "range", data := .fields #[.int lo t, .int hi u, .int 1 v] }).objs.size, [(s.heap.push { cls := .type "range", data := .fields #[.int lo t, .int hi u, .int 1 v] }).objs.size], _, _, H, rfl,
    I1.kept (t' := tk) fun b o e => Heap.get?_push_of_some _ e, turn_range _ lo (hi - lo).toNat, ?_, fun b hb => ?_, q⟩
  · have e1 : lo + ((0 : Nat) : Int) * 1 = lo := by simp
    have e2 : (((hi - lo).toNat : Nat) : Int) - ((0 : Nat) : Int) = Builtin.Range.rangeSize lo hi 1 := by rw [rangeSize_one]; split <;> omega
    show IsRangeIter _ _ (lo + ((0 : Nat) : Int) * 1) ((((hi - lo).toNat : Nat) : Int) - ((0 : Nat) : Int)) 1
    rw [e1, e2]
    exact Heap.get?_push_size _ rfl
  · have e : b = (s.heap.push { cls := .type "range", data := .fields #[.int lo t, .int hi u, .int 1 v] }).objs.size := by simpa using hb
    subst e
    exact I1.fpOk (Nat.le_refl _) (I1.hok.fresh (Nat.le_refl _))
def iRng1 (ta : TA) : TI := fun σ H R => ta σ H fun vs H1 => ∃ j : Int, vs = [.int j] ∧ -(2 ^ 62) ≤ j ∧ j < 2 ^ 62 ∧ R (Itr 0 j.toNat) H1
theorem pi_range1 {a : Expr} {ta : TA} {p pos : Pos} (hg : Gl X "range") (hm : X.mg "range" = none) (ha : PA X [a] ta) (hs : starEach [a] X.env = [(false, eval a X.env)] := by rfl) : PI X tg (.Call (.Name "range" p) [a] [] pos) (iRng1 ta) := by
  intro pins s σ H R I h
  refine Call_ (ld_blt I hg hm boot_range (PyProof.Rows.callWith_type1 (thn (ha pos pins s σ H _ I h) fun us s1 ⟨vs, H1, I1, r1, q1⟩ => ?_) hs rfl))
  obtain ⟨j, e, q1, q2, q⟩ := q1
  subst e
  cases r1 with
  | cons r rr =>
    cases rr
    obtain ⟨t, rfl⟩ := r
    exact call_range_1 (range_it I1 (by omega) (by omega) q1 q2 (by simpa using q))
def tFor (wi : TI) (g : TG) (tb : TS) : TS := fun D σ H => wi σ H fun J H1 => ∃ W : Nat → Nat → St → Hp → Prop, (∃ m, W 0 m σ H1) ∧ ∀ i m σ H, W i m σ H →
  (J.stop i H ∧ D.nx σ H) ∨ (J.go i H ∧ ∃ N : St → Hp → Prop, (∀ σ' H', N σ' H' → ∃ m', m' < m ∧ W (i + 1) m' σ' H') ∧ ∀ x H', J.yld i H x H' → g x σ H' fun σ2 H2 => tb { D with nx := N, ct := N, bk := D.nx } σ2 H2)
def pinsAt (fp : List Addr) (h : Heap) : List (Addr × Obj) := fp.filterMap fun b => (h.get? b).map fun o => (b, o)
theorem mem_pinsAt {fp : List Addr} {h : Heap} {b : Addr} {o : Obj} (hb : b ∈ fp) (e : h.get? b = some o) : (b, o) ∈ pinsAt fp h := List.mem_filterMap.mpr ⟨b, hb, by rw [e]; rfl⟩
theorem of_pinsAt {fp : List Addr} {h : Heap} {p : Addr × Obj} (hp : p ∈ pinsAt fp h) : p.1 ∈ fp ∧ h.get? p.1 = some p.2 := by
  obtain ⟨b, hb, e⟩ := List.mem_filterMap.mp hp
  cases q : h.get? b with
  | none => rw [q] at e; cases e
  | some o =>
    rw [q] at e
    have e' : (b, o) = p := Option.some.inj e
    subst e'
    exact ⟨hb, q⟩
theorem Inv.pinned {pins : List (Addr × Obj)} {σ : St} {H : Hp} {s : Shared} {fp : List Addr} (I : Inv X pins σ H s) (hf : ∀ b ∈ fp, FpOk X pins H b) (ho : ∀ b ∈ fp, ∃ o, s.heap.get? b = some o ∧ ∀ v, o.data ≠ .cell v) : Inv X (pins ++ pinsAt fp s.heap) σ H s :=
  I.pins_of fun p hp => (List.mem_append.mp hp).elim (fun z => I.pin p (List.mem_append_right _ z)) fun z => by
    obtain ⟨hb, e⟩ := of_pinsAt z
    obtain ⟨f0, f1, f2, _⟩ := hf p.1 hb
    obtain ⟨o, e', d⟩ := ho p.1 hb
    rw [e] at e'; cases e'
    exact ⟨e, f0, f1, f2, d⟩
theorem Inv.unpinned {pins pl : List (Addr × Obj)} {σ : St} {H : Hp} {s : Shared} (I : Inv X (pins ++ pl) σ H s) : Inv X pins σ H s := I.pins_of fun p hp => I.pin p (List.mem_append_right _ (List.mem_append_left _ hp))
theorem ps_for {iter : Expr} {body : List Stmt} {wi : TI} {g : TG} {tb : TS} {pos : Pos} (hp : PassesOwn (model X.prog X.w) X.A X.env X.xe) (hc : X.calm = true) (hi : PI X tg iter wi) (hg : PG X tg g) (hb : PSs X body tb)
    (hs : ∀ x, foldedSetIterable iter X.env x = pure x := by intro _; rfl) : PS X (.For tg iter body [] pos) (tFor wi g tb) := by
  intro pins s σ H D I h
  refine wpAny_For (thn (hi pins s σ H _ I h) fun v s1 h1 => thn h1 fun itv s2 h2 => ?_) hs
  obtain ⟨it, fp, tn, J, H2, e, I2, T, st2, f2, W, ⟨m0, w0⟩, turn⟩ := h2
  subst e
  -- what stays true of the iterator's objects through the loop
  have stat : ∀ {H' : Hp}, (∀ b ∈ fp, H' b = none) → ∀ b ∈ fp, FpOk X pins H' b := fun hn b hb => ⟨hn b hb, (f2 b hb).2⟩
  refine codeAny_forLoop_any (fun n s' => ∃ i σ' H', Inv X pins σ' H' s' ∧ tn i s'.heap ∧ (∀ b ∈ fp, H' b = none) ∧ W i n σ' H') ?_ m0 ⟨0, σ, H2, I2, st2, fun b hb => (f2 b hb).1, w0⟩
  rintro n s3 ⟨i, σ3, H3, I3, st3, fr3, w3⟩
  rcases turn i n σ3 H3 w3 with ⟨stop, qn⟩ | ⟨go, N, hN, step⟩
  · refine wpAny_passesOwn hp (thn (T.done X rfl rfl rfl hc i pins s3 σ3 H3 X.xe I3 (stat fr3) st3 stop) fun r s4 ⟨hr, I4⟩ => ?_)
    subst hr
    exact wpAny_execs_nil ⟨σ3, H3, I4, qn⟩
  · refine wpAny_passesOwn hp (thn (T.item X rfl rfl rfl hc i pins s3 σ3 H3 X.xe I3 (stat fr3) st3 go) fun r s4 ⟨u, hr, h4⟩ => ?_)
    subst hr
    refine wpAny_passesOwn hp (thn h4 fun _ s5 ⟨x, H5, I5, r5, y5, st5, fr5⟩ => ?_)
    have I5' := I5.pinned (stat fr5) (T.obj _ _ st5)
    refine wpAny_passesOwn hp (thn (hg _ s5 σ3 H5 x u _ I5' r5 (step x H5 y5)) fun _ s6 ⟨σ6, H6, I6, q6⟩ => ?_)
    refine wpAny_passesOwn hp (thn (hb _ s6 σ6 H6 _ I6 q6) fun f s7 q7 => ?_)
    have again : ∀ {σ7 : St} {H7 : Hp}, Inv X (pins ++ pinsAt fp s5.heap) σ7 H7 s7 → N σ7 H7 → ∃ m, m < n ∧ ∃ i σ' H', Inv X pins σ' H' s7 ∧ tn i s7.heap ∧ (∀ b ∈ fp, H' b = none) ∧ W i m σ' H' := fun {σ7 H7} I7 n7 => by
      obtain ⟨m', hm, w7⟩ := hN σ7 H7 n7
      refine ⟨m', hm, i + 1, σ7, H7, I7.unpinned, T.keep _ _ _ st5 fun b hb o e => (I7.pin (b, o) (List.mem_append_right _ (List.mem_append_right _ (mem_pinsAt hb e)))).1, fun b hb => ?_, w7⟩
      obtain ⟨o, e, d⟩ := T.obj _ _ st5 b hb
      exact (I7.pin (b, o) (List.mem_append_right _ (List.mem_append_right _ (mem_pinsAt hb e)))).2.1
    cases f with
    | next => obtain ⟨σ7, H7, I7, n7⟩ := q7; exact again I7 n7
    | cont => obtain ⟨σ7, H7, I7, n7⟩ := q7; exact again I7 n7
    | brk => obtain ⟨σ7, H7, I7, q7⟩ := q7; exact ⟨σ7, H7, I7.unpinned, q7⟩
    | ret v => obtain ⟨x7, σ7, H7, I7, r7, q7⟩ := q7; exact ⟨x7, σ7, H7, I7.unpinned, r7, q7⟩
end
end L2
namespace L2
open PySem PySem.Spec PyProof.Rows
abbrev R2 := V → V → Hp → VK → Prop
def OpR (X : Cx) (f : Value → Value → Sem Value) (r : R2) : Prop :=
  ∀ (pins : List (Addr × Obj)) (s : Shared) (σ : St) (H : Hp) (x y : V) (v u : Value) (Q : VK), Inv X pins σ H s → RelV x v → RelV y u → r x y H Q →
    wpAny (model X.prog X.w) X.A (f v u) (EP X pins σ Q) X.xe s
def UnR (X : Cx) (f : Value → Sem Value) (r : V → Hp → VK → Prop) : Prop :=
  ∀ (pins : List (Addr × Obj)) (s : Shared) (σ : St) (H : Hp) (x : V) (v : Value) (Q : VK), Inv X pins σ H s → RelV x v → r x H Q →
    wpAny (model X.prog X.w) X.A (f v) (EP X pins σ Q) X.xe s
def CallR (X : Cx) (f : Value) (r : List V → Hp → VK → Prop) : Prop :=
  ∀ (pins : List (Addr × Obj)) (s : Shared) (σ : St) (H : Hp) (xs : List V) (us : List Value) (Q : VK), Inv X pins σ H s → Vals xs us → r xs H Q →
    wpAny (model X.prog X.w) X.A (call f us) (EP X pins σ Q) X.xe s
def tOp (r : R2) (ta tb : TE) : TE := fun σ H Q => ta σ H fun x H1 => tb σ H1 fun y H2 => r x y H2 Q
def tUn (r : V → Hp → VK → Prop) (ta : TE) : TE := fun σ H Q => ta σ H fun x H1 => r x H1 Q
def rI (C : Int → Int → Prop) (g : Int → Int → V) : R2 := fun x y H Q => ∃ i j, x = .int i ∧ y = .int j ∧ C i j ∧ Q (g i j) H
def rI0 (g : Int → Int → V) : R2 := fun x y H Q => ∃ i j, x = .int i ∧ y = .int j ∧ Q (g i j) H
def rU (g : Int → V) : V → Hp → VK → Prop := fun x H Q => ∃ i, x = .int i ∧ Q (g i) H
section
variable {X : Cx} {a b c : Expr} {ta tb tc : TE} {pos : Pos}
theorem binT (ha : PE X a ta) (hb : PE X b tb) {pins : List (Addr × Obj)} {s : Shared} {σ : St} {H : Hp} {R : V → V → Hp → Prop} (I : Inv X pins σ H s)
    (h : ta σ H fun x H1 => tb σ H1 fun y H2 => R x y H2) {Q : Value → Shared → Prop} {f : Value → Value → Sem Value}
    (hf : ∀ v u s2 x y H2, Inv X pins σ H2 s2 → RelV x v → RelV y u → R x y H2 → wpAny (model X.prog X.w) X.A (f v u) Q X.xe s2) :
    wpAny (model X.prog X.w) X.A (eval a X.env) (fun v s₁ => wpAny (model X.prog X.w) X.A (eval b X.env) (fun u s₂ => wpAny (model X.prog X.w) X.A (f v u) Q X.xe s₂) X.xe s₁) X.xe s := by
  refine thn (ha pins s σ H _ I h) fun v s1 ⟨x, H1, I1, r1, q1⟩ => ?_
  refine thn (hb pins s1 σ H1 _ I1 q1) fun u s2 ⟨y, H2, I2, r2, q2⟩ => ?_
  exact hf v u s2 x y H2 I2 r1 r2 q2
theorem pe_op {op : Operator} {r : R2} (ho : OpR X (binaryOp op) r) (ha : PE X a ta) (hb : PE X b tb) : PE X (.BinOp a op b pos) (tOp r ta tb) := by
  intro pins s σ H Q I h
  exact wpAny_BinOp (binT ha hb I h fun v u s2 x y H2 I2 rx ry q => ho pins s2 σ H2 x y v u Q I2 rx ry q)
theorem pe_un {op : UnaryOp} {r : V → Hp → VK → Prop} (ho : UnR X (unaryOp op) r) (ha : PE X a ta) : PE X (.UnaryOp op a pos) (tUn r ta) := by
  intro pins s σ H Q I h
  exact UnaryOp_ (thn (ha pins s σ H _ I h) fun v s1 ⟨x, H1, I1, r1, q1⟩ => ho pins s1 σ H1 x v Q I1 r1 q1)
theorem opI {f : Value → Value → Sem Value} {C : Int → Int → Prop} {g : Int → Int → Int}
    (rule : ∀ (i j : Int) (t u : Tok) (s : Shared) (Q : Value → Shared → Prop) (E : Value → Shared → Prop), C i j → Q (.int (g i j) s.toks) { s with toks := s.toks + 1 } → wpAny (model X.prog X.w) X.A (f (.int i t) (.int j u)) Q E s) :
    OpR X f (rI C fun i j => .int (g i j)) := by
  intro pins s σ H x y v u Q I rx ry h
  obtain ⟨i, j, rfl, rfl, hc, q⟩ := h
  obtain ⟨t, rfl⟩ := rx
  obtain ⟨t', rfl⟩ := ry
  exact rule i j t t' s _ _ hc ⟨.int (g i j), H, I.tok _, ⟨_, rfl⟩, q⟩
theorem opI0 {f : Value → Value → Sem Value} {g : Int → Int → Int}
    (rule : ∀ (i j : Int) (t u : Tok) (s : Shared) (Q : Value → Shared → Prop) (E : Value → Shared → Prop), Q (.int (g i j) s.toks) { s with toks := s.toks + 1 } → wpAny (model X.prog X.w) X.A (f (.int i t) (.int j u)) Q E s) :
    OpR X f (rI0 fun i j => .int (g i j)) := by
  intro pins s σ H x y v u Q I rx ry h
  obtain ⟨i, j, rfl, rfl, q⟩ := h
  obtain ⟨t, rfl⟩ := rx
  obtain ⟨t', rfl⟩ := ry
  exact rule i j t t' s _ _ ⟨.int (g i j), H, I.tok _, ⟨_, rfl⟩, q⟩
theorem opB0 {f : Value → Value → Sem Value} {g : Int → Int → Bool}
    (rule : ∀ (i j : Int) (t u : Tok) (s : Shared) (Q : Value → Shared → Prop) (E : Value → Shared → Prop), Q (.bool (g i j)) s → wpAny (model X.prog X.w) X.A (f (.int i t) (.int j u)) Q E s) :
    OpR X f (rI0 fun i j => .bl (g i j)) := by
  intro pins s σ H x y v u Q I rx ry h
  obtain ⟨i, j, rfl, rfl, q⟩ := h
  obtain ⟨t, rfl⟩ := rx
  obtain ⟨t', rfl⟩ := ry
  exact rule i j t t' s _ _ ⟨.bl (g i j), H, I, rfl, q⟩
def CPow (i j : Int) : Prop := 0 ≤ j ∧ j ≤ 1000000 ∧ i.natAbs < 2 ^ 64
def CMul (i j : Int) : Prop := (-(2 ^ 64) < i ∧ i < 2 ^ 64) ∨ (-(2 ^ 64) < j ∧ j < 2 ^ 64)
theorem CMul.ok {i j : Int} (h : CMul i j) : IntMulOk i j := by
  rcases h with ⟨h1, h2⟩ | ⟨h1, h2⟩
  · exact .of_left (intBits_le_64 h1 h2)
  · exact .of_right (intBits_le_64 h1 h2)
theorem op_add : OpR X (binaryOp .Add) (rI0 fun i j => .int (i + j)) := opI0 fun _ _ _ _ _ _ _ q => add_int q
theorem op_sub : OpR X (binaryOp .Sub) (rI0 fun i j => .int (i - j)) := opI0 fun _ _ _ _ _ _ _ q => sub_int q
theorem op_mod : OpR X (binaryOp .Mod) (rI (fun _ j => 0 < j) fun i j => .int (i % j)) := opI fun i j _ _ _ _ _ hc q => by
  have h1 : (0 : Int) < j := hc
  exact mod_int' (by omega) (by rw [Int.fmod_eq_emod_of_nonneg i (by omega)]; exact q)
theorem op_pow : OpR X (binaryOp .Pow) (rI CPow fun i j => .int (i ^ j.toNat)) := opI fun _ _ _ _ _ _ _ hc q => pow_int_small hc.1 hc.2.1 hc.2.2 q
theorem unI {f : Value → Sem Value} {g : Int → Int}
    (rule : ∀ (i : Int) (t : Tok) (s : Shared) (Q : Value → Shared → Prop) (E : Value → Shared → Prop), Q (.int (g i) s.toks) { s with toks := s.toks + 1 } → wpAny (model X.prog X.w) X.A (f (.int i t)) Q E s) :
    UnR X f (rU fun i => .int (g i)) := by
  intro pins s σ H x v Q I rx h
  obtain ⟨i, rfl, q⟩ := h
  obtain ⟨t, rfl⟩ := rx
  exact rule i t s _ _ ⟨.int (g i), H, I.tok _, ⟨_, rfl⟩, q⟩
theorem un_neg : UnR X (unaryOp .USub) (rU fun i => .int (-i)) := unI fun _ _ _ _ _ q => neg_int q
end
def scal : V → V → Bool
  | .non, .non => true | .non, .int _ => true | .int _, .non => true | .non, .bl _ => true | .bl _, .non => true | .non, .str _ => true | .str _, .non => true
  | .int _, .int _ => true | .bl _, .bl _ => true | .str _, .str _ => true | .byt _, .byt _ => true
  | .int _, .str _ => true | .str _, .int _ => true | .bl _, .str _ => true | .str _, .bl _ => true
  | _, _ => false
def rEq : R2 := fun x y H Q => scal x y = true ∧ Q (.bl (decide (x = y))) H
theorem dec_int {i j : Int} : decide (V.int i = V.int j) = (i == j) := by
  rw [Bool.eq_iff_iff]
  simp
theorem dec_bl {i j : Bool} : decide (V.bl i = V.bl j) = (i == j) := by
  rw [Bool.eq_iff_iff]
  simp
theorem dec_str {i j : Str} : decide (V.str i = V.str j) = (i == j) := by
  rw [Bool.eq_iff_iff]
  simp
theorem dec_byt {i j : Array UInt8} : decide (V.byt i = V.byt j) = (i.toList == j.toList) := by
  rw [Bool.eq_iff_iff]
  cases i
  cases j
  simp
section
variable {X : Cx} {a b c : Expr} {ta tb tc : TE} {pos : Pos}
theorem fin_bl {pins : List (Addr × Obj)} {σ : St} {H : Hp} {s : Shared} {Q : VK} {k k' : Bool} (I : Inv X pins σ H s) (q : Q (.bl k) H) (e : k = k') : EP X pins σ Q (.bool k') s := by
  subst e
  exact ⟨.bl k, H, I, rfl, q⟩
theorem op_eq : OpR X (compareOp .Eq) rEq := by
  intro pins s σ H x y v u Q I rx ry h
  obtain ⟨hs, q⟩ := h
  cases x with
  | non =>
    cases rx
    cases y with
    | non => cases ry; exact PySem.EqNone.eq_none_none (fin_bl I q (by simp))
    | bl j => cases ry; exact PySem.EqNone.eq_none_bool (fin_bl I q (by simp))
    | int j => obtain ⟨t', rfl⟩ := ry; exact PySem.EqNone.eq_none_int (fin_bl I q (by simp))
    | str j => obtain ⟨t', rfl⟩ := ry; exact PySem.EqNone.eq_none_str (fin_bl I q (by simp))
    | _ => exact absurd (show false = true from hs) Bool.false_ne_true
  | bl i =>
    cases rx
    cases y with
    | non => cases ry; exact PySem.EqNone.eq_bool_none (fin_bl I q (by simp))
    | bl j => cases ry; exact eq_bool (fin_bl I q dec_bl)
    | str j => obtain ⟨t', rfl⟩ := ry; exact PySem.EqMixed.eq_bool_str (fin_bl I q (by simp))
    | _ => exact absurd (show false = true from hs) Bool.false_ne_true
  | int i =>
    obtain ⟨t, rfl⟩ := rx
    cases y with
    | non => cases ry; exact PySem.EqNone.eq_int_none (fin_bl I q (by simp))
    | int j => obtain ⟨t', rfl⟩ := ry; exact eq_int (fin_bl I q dec_int)
    | str j => obtain ⟨t', rfl⟩ := ry; exact PySem.EqMixed.eq_int_str (fin_bl I q (by simp))
    | _ => exact absurd (show false = true from hs) Bool.false_ne_true
  | str i =>
    obtain ⟨t, rfl⟩ := rx
    cases y with
    | non => cases ry; exact PySem.EqNone.eq_str_none (fin_bl I q (by simp))
    | bl j => cases ry; exact PySem.EqMixed.eq_str_bool (fin_bl I q (by simp))
    | int j => obtain ⟨t', rfl⟩ := ry; exact PySem.EqMixed.eq_str_int (fin_bl I q (by simp))
    | str j => obtain ⟨t', rfl⟩ := ry; exact eq_str (fin_bl I q dec_str)
    | _ => exact absurd (show false = true from hs) Bool.false_ne_true
  | byt i =>
    obtain ⟨t, rfl⟩ := rx
    cases y with
    | byt j => obtain ⟨t', rfl⟩ := ry; exact PySem.W.eq_bytes (fin_bl I q dec_byt)
    | _ => exact absurd (show false = true from hs) Bool.false_ne_true
  | _ => cases y <;> exact absurd (show false = true from hs) Bool.false_ne_true
theorem op_lt : OpR X (compareOp .Lt) (rI0 fun i j => .bl (decide (i < j))) := opB0 fun _ _ _ _ _ _ _ q => lt_int q
theorem op_ge : OpR X (compareOp .GtE) (rI0 fun i j => .bl (decide (j ≤ i))) := opB0 fun _ _ _ _ _ _ _ q => ge_int q
theorem OpR.or {f : Value → Value → Sem Value} {r r' : R2} (h : OpR X f r) (h' : OpR X f r') : OpR X f (fun x y H Q => r x y H Q ∨ r' x y H Q) := by
  intro pins s σ H x y v u Q I rx ry q
  rcases q with q | q
  · exact h pins s σ H x y v u Q I rx ry q
  · exact h' pins s σ H x y v u Q I rx ry q
theorem nomark (b : Expr) {op : CmpOp} (h : op ≠ .In := by decide) (h2 : op ≠ .NotIn := by decide) : behindInMarks op b = false := by
  have e1 : (op == CmpOp.In) = false := by cases op <;> first | rfl | exact absurd rfl h
  have e2 : (op == CmpOp.NotIn) = false := by cases op <;> first | rfl | exact absurd rfl h2
  cases b <;> simp [behindInMarks, e1, e2]
theorem pe_cmpR {op : CmpOp} {r : R2} (ho : OpR X (compareOp op) r) (ha : PE X a ta) (hb : PE X b tb) (hm : behindInMarks op b = false) : PE X (.Compare a [op] [b] pos) (tOp r ta tb) := by
  intro pins s σ H Q I h
  exact wpAny_Compare1 (binT ha hb I h fun v u s2 x y H2 I2 rx ry q => ho pins s2 σ H2 x y v u Q I2 rx ry q) hm
def tTest (t : TE) : TT := fun σ H Q => t σ H fun x H' => ∃ k, x = .bl k ∧ Q k H'
theorem pt_cmpR {op : CmpOp} {r : R2} (ho : OpR X (compareOp op) r) (ha : PE X a ta) (hb : PE X b tb) (hm : behindInMarks op b = false) : PT X (.Compare a [op] [b] pos) (tTest (tOp r ta tb)) := by
  intro pins s σ H Q I h
  refine wpAny_isTrue_Compare1 (thn (ha pins s σ H _ I h) fun v s1 ⟨x, H1, I1, r1, q1⟩ => thn (hb pins s1 σ H1 _ I1 q1) fun u s2 ⟨y, H2, I2, r2, q2⟩ =>
    thn (ho pins s2 σ H2 x y v u _ I2 r1 r2 q2) fun c s3 ⟨z, H3, I3, r3, k, e, q3⟩ => ?_) hm
  subst e
  cases r3
  exact wpAny_truthy_bool ⟨H3, I3, q3⟩
theorem line63 : (sizeLine : Nat) < 2 ^ 63 := by rw [sizeLine_eq]; decide
theorem vals1 {x : V} {us : List Value} (r : Vals [x] us) : ∃ u, us = [u] ∧ RelV x u := by
  cases r with
  | cons r1 r2 => cases r2; exact ⟨_, rfl, r1⟩
theorem vals2 {x y : V} {us : List Value} (r : Vals [x, y] us) : ∃ u w', us = [u, w'] ∧ RelV x u ∧ RelV y w' := by
  cases r with
  | cons r1 r2 =>
    cases r2 with
    | cons r3 r4 => cases r4; exact ⟨_, _, rfl, r1, r3⟩
theorem call_abs : CallR X (.builtin "abs") (fun xs H Q => ∃ i, xs = [.int i] ∧ Q (.int (if i < 0 then -i else i)) H) := by
  intro pins s σ H xs us Q I r h
  obtain ⟨i, rfl, q⟩ := h
  obtain ⟨u, rfl, t, rfl⟩ := vals1 r
  exact call_abs_int fun u tk => ⟨.int (if i < 0 then -i else i), H, I.tok _, ⟨_, rfl⟩, q⟩
def LenV (K : PySem.W.Frag) (x : V) (H : Hp) (n : Nat) : Prop :=
  match x with
  | .str y => y.length ≤ sizeLine ∧ n = y.length
  | .byt y => y.size ≤ sizeLine ∧ n = y.size
  | .ref p => (∃ xs, SqL K H p xs ∧ n = xs.length) ∨ ∃ xs, SqT K H p xs ∧ n = xs.length
  | _ => False
theorem call_len : CallR X (.builtin "len") (fun xs H Q => ∃ x n, xs = [x] ∧ LenV X.K x H n ∧ Q (.int n) H) := by
  intro pins s σ H xs us Q I r h
  obtain ⟨x, n, rfl, e, q⟩ := h
  obtain ⟨u, rfl, rx⟩ := vals1 r
  have hl := line63
  have hs : sizeLine = 16777216 := sizeLine_eq
  cases x with
  | str y =>
    obtain ⟨t, rfl⟩ := rx
    obtain ⟨hy, e'⟩ : y.length ≤ sizeLine ∧ n = y.length := e
    subst e'
    exact len_str (by omega) ⟨.int _, H, I.tok _, ⟨_, rfl⟩, q⟩
  | byt y =>
    obtain ⟨t, rfl⟩ := rx
    obtain ⟨hy, e'⟩ : y.size ≤ sizeLine ∧ n = y.size := e
    subst e'
    exact PySem.W.len_bytes (by omega) ⟨.int _, H, I.tok _, ⟨_, rfl⟩, q⟩
  | ref p =>
    cases rx
    have e' : (∃ xs, SqL X.K H p xs ∧ n = xs.length) ∨ ∃ xs, SqT X.K H p xs ∧ n = xs.length := e
    rcases e' with ⟨xs, hx, e'⟩ | ⟨xs, hx, e'⟩
    · subst e'
      obtain ⟨its, r', pl, hz⟩ := I.list hx
      have hlen := r'.length
      exact Calls.call_len_list pl.isList (by simp only [List.size_toArray]; omega) ⟨.int xs.length, H, I.tok _, ⟨_, by simp only [List.size_toArray]; rw [hlen]⟩, q⟩
    · subst e'
      obtain ⟨its, r', pl, hz⟩ := I.tuple hx
      have hlen := r'.length
      exact len_tuple pl (by simp only [List.size_toArray]; omega) ⟨.int xs.length, H, I.tok _, ⟨_, by simp only [List.size_toArray]; rw [hlen]⟩, q⟩
  | _ => exact (show False from e).elim
end
end L2
namespace L2
open PySem PySem.Spec PyProof.Rows
structure ObjM (h : Heap) (x dx C : Addr) (mA : Str → Option Value) : Prop where
  obj : h.get? x = some (PySem.W.instObj C dx)
  ns : h.Ns1 dx mA
  ne : dx ≠ x
theorem lookIn_ns {h : Heap} {dx : Addr} {mA : Str → Option Value} (n : h.Ns1 dx mA) : ∃ od, h.get? dx = some od ∧ ∀ name, PySem.W.lookIn name od = some (mA name) := by
  obtain ⟨o, es, ep, ho, hd, hk, _, hm⟩ := n
  refine ⟨o, ho, fun name => ?_⟩
  have e := hm name
  unfold nsFind findBy at e
  rw [← Array.find?_toList] at e
  unfold PySem.W.lookIn
  rw [hd]
  dsimp only
  split
  · rename_i y q
    rw [q] at e
    exact congrArg some e
  · rename_i q
    rw [q] at e
    have a : es.toList.any (·.refKey) = false := by
      rw [List.any_eq_false]
      intro y hy
      obtain ⟨z, t, hkey⟩ := hk y (Array.mem_toList_iff.mp hy)
      simp [DictEntry.refKey, hkey]
    have a' : ¬ es.toList.any (·.refKey) = true := by rw [a]; exact Bool.false_ne_true
    rw [if_neg a']
    exact congrArg some e
theorem ObjM.look {h : Heap} {x dx C : Addr} {mA : Str → Option Value} (I : ObjM h x dx C mA) : ∃ od, PySem.W.InstAt h x (PySem.W.instObj C dx) C (some od) ∧ ∀ name, PySem.W.lookIn name od = some (mA name) :=
  let ⟨od, ho, hl⟩ := lookIn_ns I.ns
  ⟨od, ⟨I.obj, rfl, rfl, ho⟩, hl⟩
section
variable {prog : Program} {w : World} {A : Around} {E : Value → Shared → Prop} {s : Shared} {K : PySem.W.Frag} {x dx C f : Addr} {mA : Str → Option Value} {name : Str} {v : Value}
end
section
variable {P : Program} {w : World} {H H' : Hp} {h h' : Heap} {a C dx : Addr} {fs fs' : List (Str × V)}
theorem ins_get (hok : HOk P w H h) (e : H a = some (.ins C dx fs)) : ∃ mA, ObjM h a dx C mA ∧ (∀ f, RelO (fs.lookup f) (mA f)) ∧ PySem.Within mA (fs.map (·.1)) ∧ fs.length ≤ 1000 ∧ H dx = some (.own a) := by
  obtain ⟨d, z, ne, ob, mA, n, r, q⟩ := (show ObjOk P w H h a (.ins C dx fs) from hok a _ e)
  exact ⟨mA, ⟨ob, n, ne⟩, r, q, z, d⟩
end
structure Cls (K : PySem.W.Frag) (C : Addr) : Prop where
  pg : PySem.W.plainGet K C Str.empty = true
  hd : PySem.W.hasDictIn K C = true
  po : PySem.W.plainOver K C = true
  sa : PySem.W.findIn K (.ref C) "__setattr__" = some (some (.builtin "object.__setattr__"))
theorem Cls.get {K : PySem.W.Frag} {C : Addr} (c : Cls K C) (f : Str) : PySem.W.plainGet K C f = true := c.pg
structure Con (K : PySem.W.Frag) (C : Addr) (f : Str) (v : V) (u : Value) : Prop where
  at_ : PySem.W.findIn K (.ref C) f = some (some u)
  rel : RelV v u
  get : PySem.W.specialIn K u "__get__" = some none
  cp : PySem.W.copiedNames.contains f = false
structure Meth (K : PySem.W.Frag) (C : Addr) (m : Str) (f : Addr) : Prop where
  at_ : PySem.W.findIn K (.ref C) m = some (some (.ref f))
  fn : PySem.W.isFn K (.ref f) = true
  kp : PySem.W.keepIn K (.ref f) = true
section
variable {X : Cx} {pins : List (Addr × Obj)} {σ : St} {H : Hp} {s : Shared} {a C dx : Addr} {fs : List (Str × V)} {f : Str} {v : V} {A : Around} {E : Value → Shared → Prop}
theorem Inv.made (I : Inv X pins σ H s) : Inv X pins σ (upd (upd H s.heap.objs.size (.own (s.heap.objs.size + 1))) (s.heap.objs.size + 1) (.ins C s.heap.objs.size []))
    { s with heap := (s.heap.push PySem.W.emptyDict).push (PySem.W.instObj C s.heap.objs.size) } := by
  have e1 : (s.heap.push PySem.W.emptyDict).get? s.heap.objs.size = some PySem.W.emptyDict := Heap.get?_push_size s.heap rfl
  have e2 : ((s.heap.push PySem.W.emptyDict).push (PySem.W.instObj C s.heap.objs.size)).get? (s.heap.objs.size + 1) = some (PySem.W.instObj C s.heap.objs.size) := by
    have := Heap.get?_push_size (s.heap.push PySem.W.emptyDict) (o := PySem.W.instObj C s.heap.objs.size) rfl
    rwa [Heap.size_push] at this
  have e3 : (s.heap.push PySem.W.emptyDict).Ns s.heap.objs.size (fun _ => none) := ⟨PySem.W.emptyDict, #[], _, e1, rfl, (fun e he => absurd he (by simp)), fun _ => rfl⟩
  have I1 := I.laid (a := s.heap.objs.size) (o := .own (s.heap.objs.size + 1)) (h' := s.heap.push PySem.W.emptyDict) (t' := s.toks) (fun b u q => Heap.get?_push_of_some _ q) (Nat.le_refl _) ⟨_, e1⟩
  refine I1.laid (a := s.heap.objs.size + 1) (o := .ins C s.heap.objs.size []) (t' := s.toks) (fun b u q => Heap.get?_push_of_some _ q) (Nat.le_of_eq (Heap.size_push _ _)) ?_
  have ne : s.heap.objs.size ≠ s.heap.objs.size + 1 := Nat.ne_of_lt (Nat.lt_succ_self _)
  refine ⟨by rw [upd_ne ne, upd_same], Nat.zero_le _, ne, e2, fun _ => none, (Heap.Ns1.of_empty e3).at fun o q => Heap.get?_push_of_some _ q, fun _ => True.intro, fun y hy => absurd rfl hy⟩
end
section
variable {X : Cx} {o e value : Expr} {f : Str} {pos pos' tpos : Pos} {ta tv : TE}
end
section
variable {X : Cx} {pins : List (Addr × Obj)} {σ : St} {H : Hp} {s : Shared} {A : Around} {E : Value → Shared → Prop} {Q : Value → Shared → Prop} {c : Value} {b : Bool}
inductive TyOf (K : PySem.W.Frag) (H : Hp) : V → Value → Prop where
  | non : TyOf K H .non (.type "NoneType")
  | bl (x : Bool) : TyOf K H (.bl x) (.type "bool")
  | int (i : Int) : TyOf K H (.int i) (.type "int")
  | str (x : Str) : TyOf K H (.str x) (.type "str")
  | flt (x : UInt64) : TyOf K H (.flt x) (.type "float")
  | lst {a : Addr} {xs : List V} (e : H a = some (.lst xs)) : TyOf K H (.ref a) (.type "list")
  | frz {a : Addr} {o : Obj} {xs : List V} (e : H a = some (.frz o (.lst xs))) : TyOf K H (.ref a) (.type "list")
  | tup {a : Addr} {xs : List V} (e : H a = some (.tup xs)) : TyOf K H (.ref a) (.type "tuple")
  | dK {a : Addr} {kvs : List (Key × V)} (e : H a = some (.dK kvs)) : TyOf K H (.ref a) (.type "dict")
  | dT {a : Addr} {kvs : List (List Key × V)} (e : H a = some (.dT kvs)) : TyOf K H (.ref a) (.type "dict")
  | ins {a C dx : Addr} {fs : List (Str × V)} (e : H a = some (.ins C dx fs)) (cl : Cls K C) (ha : PySem.W.findIn K (.ref C) "__class__" = some (some (.builtin "object.__class__")))
      (hn : PySem.W.specialIn K (.builtin "object.__class__") "__get__" = some (some (.builtin "getset_descriptor.__get__"))) (htk : PySem.W.takesIn K (.builtin "object.__class__") = some true)
      (hm : PySem.W.mroIn K C (.type "object") = some true) : TyOf K H (.ref a) (.ref C)
theorem isinst_ok {x : V} {u t : Value} (I : Inv X pins σ H s) (rx : RelV x u) (ty : TyOf X.K H x t) (e : PySem.W.kitOne X.K t c = some b) (h : ∀ tk, Q (.bool b) { s with toks := tk }) :
    wpAny (model X.prog X.w) A (call (.builtin "isinstance") [u, c]) Q E s := by
  cases ty with
  | non => cases (show u = Value.none from rx); exact PySem.W.kia_one PySem.W.kitx_none I.kIn True.intro e (fun z => nomatch z) h
  | bl y => cases (show u = Value.bool y from rx); exact PySem.W.kia_one PySem.W.kitx_bool I.kIn True.intro e (fun z => nomatch z) h
  | int i => obtain ⟨t, q⟩ := (show ∃ t, u = Value.int i t from rx); cases q; exact PySem.W.kia_one PySem.W.kitx_int I.kIn True.intro e (fun z => nomatch z) h
  | str y => obtain ⟨t, q⟩ := (show ∃ t, u = Value.str y t from rx); cases q; exact PySem.W.kia_one PySem.W.kitx_str I.kIn True.intro e (fun z => nomatch z) h
  | flt y => obtain ⟨t, q⟩ := (show ∃ t, u = Value.float y t from rx); cases q; exact PySem.W.kia_one PySem.W.kitx_float I.kIn True.intro e (fun z => nomatch z) h
  | @lst a xs ea =>
    cases (show u = Value.ref a from rx)
    obtain ⟨_, _, n, _, h1⟩ := (show ObjOk X.prog X.w H s.heap a (.lst xs) from I.hok a _ ea)
    exact PySem.W.kia_one PySem.W.kitx_list I.kIn ⟨_, h1, rfl⟩ e (fun z => nomatch z) h
  | @frz a ob xs ea =>
    cases (show u = Value.ref a from rx)
    obtain ⟨_, _, _, n, _, h1⟩ := (show ObjOk X.prog X.w H s.heap a (.frz ob (.lst xs)) from I.hok a _ ea)
    exact PySem.W.kia_one PySem.W.kitx_list I.kIn ⟨_, h1, rfl⟩ e (fun z => nomatch z) h
  | @tup a xs ea =>
    cases (show u = Value.ref a from rx)
    obtain ⟨_, _, _, p⟩ := (show ObjOk X.prog X.w H s.heap a (.tup xs) from I.hok a _ ea)
    obtain ⟨o, h1, h2, _⟩ := p
    exact PySem.W.kia_one PySem.W.kitx_tuple I.kIn ⟨o, h1, h2⟩ e (fun z => nomatch z) h
  | @dK a kvs ea =>
    cases (show u = Value.ref a from rx)
    obtain ⟨_, _, vs, _, p⟩ := (show ObjOk X.prog X.w H s.heap a (.dK kvs) from I.hok a _ ea)
    obtain ⟨o, es, ep, h1, h2, _⟩ := p
    exact PySem.W.kia_one PySem.W.kitx_dict I.kIn ⟨o, h1, h2.1⟩ e (fun z => nomatch z) h
  | @dT a kvs ea =>
    cases (show u = Value.ref a from rx)
    obtain ⟨_, _, xs, _, o, es, ep, h1, h2, _⟩ := (show ObjOk X.prog X.w H s.heap a (.dT kvs) from I.hok a _ ea)
    exact PySem.W.kia_one PySem.W.kitx_dict I.kIn ⟨o, h1, h2.1⟩ e (fun z => nomatch z) h
  | @ins a C dx fs ea cl ha hn htk hm =>
    cases (show u = Value.ref a from rx)
    obtain ⟨mA, O, _⟩ := ins_get I.hok ea
    obtain ⟨od, J, _⟩ := O.look
    exact PySem.W.kia_one (PySem.W.kitx_own (cl.get _) cl.hd ha hn htk hm) I.kIn J e (fun z => nomatch z) h
end
end L2
namespace L2
open PySem PySem.Spec PyProof.Rows
structure Room (k : Nat) (A : Around) : Prop where
  hd : A.handled = none
  dp : A.depth + 3 * k + 5 < recursionLimit
  un : A.units + 16 * k + 200 < cLine
theorem Room.mono {j k : Nat} {A : Around} (r : Room k A) (h : j ≤ k) : Room j A := ⟨r.hd, by have := r.dp; omega, by have := r.un; omega⟩
theorem Room.deeper {k : Nat} {A : Around} (r : Room (k + 1) A) (env : Env) : Room k (A.deeper env) :=
  ⟨r.hd, by have := r.dp; show A.depth + 1 + 3 * k + 5 < _; omega, by have := r.un; show A.units + 3 + 16 * k + 200 < _; omega⟩
theorem Room.in1 {k : Nat} {A : Around} (r : Room (k + 1) A) : Room k A.in1 :=
  ⟨r.hd, by have := r.dp; show A.depth + 3 * k + 5 < _; omega, by have := r.un; show A.units + 1 + 16 * k + 200 < _; omega⟩
theorem Room.depth {k : Nat} {A : Around} (r : Room k A) : A.depth < recursionLimit := by have := r.dp; omega
theorem Room.units {k : Nat} {A : Around} (r : Room k A) : A.units + 64 < cLine := by have := r.un; omega
def tNil : TA := fun _ H Q => Q [] H
def tCons (ta : TE) (tr : TA) : TA := fun σ H Q => ta σ H fun x H1 => tr σ H1 fun xs H2 => Q (x :: xs) H2
section
variable {X : Cx} {e : Expr} {es : List Expr} {te : TE} {t : TA} {pos : Pos}
theorem pa_nil : PA X [] tNil := fun _ _ _ _ H Q I h => Calls.spliced_nil ⟨[], H, I, .nil, h⟩
theorem pa_cons (ha : PE X e te) (hr : PA X es t) (hs : starEach (e :: es) X.env = (false, eval e X.env) :: starEach es X.env := by rfl) : PA X (e :: es) (tCons te t) := by
  intro pos pins s σ H Q I h
  rw [hs]
  show wpAny _ _ (spliced ((false, eval e X.env) :: backTo pos (starEach es X.env))) _ _ s
  refine Calls.spliced_cons (thn (ha pins s σ H _ I h) fun u s1 ⟨x, H1, I1, r1, q1⟩ => ?_)
  exact thn (hr pos pins s1 σ H1 _ I1 q1) fun us s2 ⟨xs, H2, I2, r2, q2⟩ => ⟨x :: xs, H2, I2, .cons r1 r2, q2⟩
def tTup (t : TA) : TE := fun σ H Q => t σ H fun xs H1 => xs.length ≤ sizeLine ∧ ∀ p, H1 p = none → Q (.ref p) (upd H1 p (.tup xs))
def tLst (t : TA) : TE := fun σ H Q => t σ H fun xs H1 => xs.length ≤ sizeLine ∧ ∀ p, H1 p = none → Q (.ref p) (upd H1 p (.lst xs))
theorem pe_tup {x1} (h : PA X es t) : PE X (.Tuple es x1 pos) (tTup t) := by
  intro pins s σ H Q I hq
  refine wpAny_Tuple_spliced (thn (h pos pins s σ H _ I hq) fun us s1 ⟨xs, H1, I1, r, z, q⟩ => ⟨by rw [← r.length]; exact z, ?_⟩)
  have hf : H1 s1.heap.objs.size = none := I1.hok.fresh (Nat.le_refl _)
  refine ⟨.ref s1.heap.objs.size, upd H1 s1.heap.objs.size (.tup xs), I1.laid (t' := s1.toks) (fun b u e => Heap.get?_push_of_some _ e) (Nat.le_refl _) ?_, rfl, q _ hf⟩
  exact ⟨z, us, r, ⟨_, Heap.get?_push_size _ rfl, rfl, _, rfl⟩⟩
theorem pe_lst (h : PA X es t) : PE X (.List es pos) (tLst t) := by
  intro pins s σ H Q I hq
  refine wpAny_List_spliced (thn (h pos pins s σ H _ I hq) fun us s1 ⟨xs, H1, I1, r, z, q⟩ => ⟨by rw [← r.length]; exact z, ?_⟩)
  have hf : H1 s1.heap.objs.size = none := I1.hok.fresh (Nat.le_refl _)
  refine ⟨.ref s1.heap.objs.size, upd H1 s1.heap.objs.size (.lst xs), I1.laid (t' := s1.toks) (fun b u e => Heap.get?_push_of_some _ e) (Nat.le_refl _) ?_, rfl, q _ hf⟩
  exact ⟨z, us, 0, r, Heap.get?_push_size _ rfl⟩
end
abbrev Sp := List V → Hp → VK → XK → Prop
abbrev CXT := List Env → Hp → Shared → XK → Value → Shared → Prop
structure Env0 (P : Program) (w : World) (K : PySem.W.Frag) (mg : Str → Option Value) (base : Heap) (A : Around) (outer : List Env) (s : Shared) (H : Hp) : Prop where
  frames : A.frames = some outer
  mod : Mod K mg base
  bs : ∀ b o, base.get? b = some o → s.heap.get? b = some o ∧ H b = none
  bsz : base.objs.size ≤ s.heap.objs.size
  funs : s.heap.FunFrames base outer
  frf : ∀ b ∈ frs outer, H b = none
  hok : HOk P w H s.heap
  bare : AllBare s.gens
def CE (outer : List Env) (P : Program) (w : World) (H : Hp) (s : Shared) (Q : VK) (u : Value) (s' : Shared) : Prop :=
  ∃ v H', s'.os = s.os ∧ AllBare s'.gens ∧ Un (frs outer) [] H H' s.heap s'.heap ∧ HOk P w H' s'.heap ∧ RelV v u ∧ Q v H'
def CR (CX : CXT) (outer : List Env) (P : Program) (w : World) (H : Hp) (s : Shared) (Q : VK) (E : XK) (r : Result) (s' : Shared) : Prop :=
  match r with
  | .ok (.ret u) => CE outer P w H s Q u s'
  | .ok _ => False
  | .error e => CX outer H s E e s'
structure FnOk (P : Program) (w : World) (K : PySem.W.Frag) (mg : Str → Option Value) (base : Heap) (CX : CXT) (k : Nat) (f : Addr) (fd : FuncData) (ps : List Str) (sp : Sp) : Prop where
  len : ∀ vs H Q E, sp vs H Q E → vs.length = ps.length
  run : ∀ (A : Around) (outer : List Env) (s : Shared) (H : Hp) (args : Args) (us : List Value) (vs : List V) (Q : VK) (E : XK), Room k A → Env0 P w K mg base A outer s H → BindsTo s fd args (ps.zip us) → Vals vs us → sp vs H Q E →
    codeAny (model P w) A (.call (.ref f) args) (CR CX outer P w H s Q E) s
theorem FnOk.mono {P : Program} {w : World} {K : PySem.W.Frag} {mg : Str → Option Value} {base : Heap} {CX : CXT} {j k : Nat} {f : Addr} {fd : FuncData} {ps : List Str} {sp : Sp} (F : FnOk P w K mg base CX j f fd ps sp) (h : j ≤ k) :
    FnOk P w K mg base CX k f fd ps sp := ⟨F.len, fun A outer s H args us vs Q E hr => F.run A outer s H args us vs Q E (hr.mono h)⟩
theorem FnOk.imp {P : Program} {w : World} {K : PySem.W.Frag} {mg : Str → Option Value} {base : Heap} {CX : CXT} {k : Nat} {f : Addr} {fd : FuncData} {ps : List Str} {sp sp' : Sp} (F : FnOk P w K mg base CX k f fd ps sp)
    (h : ∀ vs H Q E, sp' vs H Q E → sp vs H Q E) : FnOk P w K mg base CX k f fd ps sp' :=
  ⟨fun vs H Q E q => F.len vs H Q E (h _ _ _ _ q), fun A outer s H args us vs Q E hr he hb hv hs => F.run A outer s H args us vs Q E hr he hb hv (h _ _ _ _ hs)⟩
theorem Env0.in1 {P : Program} {w : World} {K : PySem.W.Frag} {mg : Str → Option Value} {base : Heap} {A : Around} {outer : List Env} {s : Shared} {H : Hp} (e : Env0 P w K mg base A outer s H) :
    Env0 P w K mg base A.in1 outer s H := ⟨e.frames, e.mod, e.bs, e.bsz, e.funs, e.frf, e.hok, e.bare⟩
section
variable {X : Cx} {pins : List (Addr × Obj)} {σ : St} {H : Hp} {s s' : Shared}
theorem Inv.env0 (I : Inv X pins σ H s) : Env0 X.prog X.w X.K X.mg X.base X.A X.stack s H :=
  ⟨I.ok.frames, I.ok.mod, I.bs, Nat.le_trans I.ok.bsz I.sz, I.stack, I.stkFree, I.hok, I.bare⟩
theorem Inv.after {Q : VK} {u : Value} (I : Inv X pins σ H s) (h : CE X.stack X.prog X.w H s Q u s') : EP X pins σ Q u s' := by
  obtain ⟨v, H', os, bare, un, hok, r, q⟩ := h
  obtain ⟨hh, g, d, t, os'⟩ := s'
  obtain rfl : os' = s.os := os
  exact ⟨v, H', I.call (h' := hh) (g' := g) (d' := d) (t' := t) (ch := []) un hok bare (fun b z => absurd z (by simp)), r, q⟩
end
def tCall (sp : Sp) (dvs : List V) (E : XK) (t : TA) : TE := fun σ H Q => t σ H fun vs H1 => sp (vs ++ dvs) H1 Q E
def Binds (K : PySem.W.Frag) (fd : FuncData) (ps : List Str) (ds : List Value) : Prop :=
  ∀ (s : Shared) (us : List Value), K.In s.heap → (us ++ ds).length = ps.length → BindsTo s fd ⟨us, []⟩ (ps.zip (us ++ ds))
theorem Binds.all {K : PySem.W.Frag} {fd : FuncData} {ps : List Str} (h : ∀ us : List Value, us.length = ps.length → bindArgs fd ⟨us, []⟩ = pure (ps.zip us)) : Binds K fd ps [] := fun s us _ hl => by
  rw [List.append_nil] at hl ⊢
  exact .of_eq (h us hl)
def Passes (CX : CXT) (X : Cx) (E : XK) : Prop := ∀ (pins : List (Addr × Obj)) (σ : St) (H : Hp) (s : Shared) (e : Value) (s' : Shared), Inv X pins σ H s → CX X.stack H s E e s' → X.xe e s'
section
variable {X : Cx} {CX : CXT} {k : Nat} {f C : Addr} {fd : FuncData} {ps : List Str} {sp : Sp} {dvs : List V} {ds : List Value} {E : XK} {x m : Str} {p pos apos : Pos} {e o : Expr} {es : List Expr} {ta : TE} {t : TA}
theorem run_fn {pins : List (Addr × Obj)} {σ : St} {H : Hp} {s : Shared} {Q : VK} {us : List Value} {vs : List V} (F : FnOk X.prog X.w X.K X.mg X.base CX k f fd ps sp) (hr : Room k X.A) (hb : Binds X.K fd ps ds) (hd : Vals dvs ds) (hx : Passes CX X E)
    (I : Inv X pins σ H s) (r : Vals vs us) (h : sp (vs ++ dvs) H Q E) : wpAny (model X.prog X.w) X.A (call (.ref f) us) (EP X pins σ Q) X.xe s := by
  have r2 : Vals (vs ++ dvs) (us ++ ds) := r.append hd
  have hl : (us ++ ds).length = ps.length := by rw [← r2.length]; exact F.len _ _ _ _ h
  refine wpAny_call (codeAny_mono (F.run X.A X.stack s H ⟨us, []⟩ (us ++ ds) (vs ++ dvs) Q E hr I.env0 (hb s us I.kIn hl) r2 h) fun r s' hq => ?_)
  cases r with
  | error e => exact hx pins σ H s e s' I hq
  | ok fl =>
    cases fl with
    | ret u => exact I.after hq
    | next => exact False.elim hq
    | brk => exact False.elim hq
    | cont => exact False.elim hq
theorem pe_call (F : FnOk X.prog X.w X.K X.mg X.base CX k f fd ps sp) (hr : Room k X.A) (hg : Gl X x) (hm : X.mg x = some (.ref f)) (hk : PySem.W.keepIn X.K (.ref f) = true) (hb : Binds X.K fd ps ds) (hd : Vals dvs ds) (hx : Passes CX X E)
    (ha : PA X (e :: es) t) (hdb : (x == ("__debug__" : Str)) = false := by decide) (he : starEach (e :: es) X.env = (false, eval e X.env) :: starEach es X.env := by rfl) (hpl : (backTo pos (starEach es X.env)).any (·.1) = false := by rfl) :
    PE X (.Call (.Name x p) (e :: es) [] pos) (tCall sp dvs E t) := by
  intro pins s σ H Q I h
  refine wpAny_Call_Name_kw (ld_glob I hg hm ?_ hdb)
  refine PySem.W.callWith_K (h₀ := X.base) I.ok.mod.kin hk (thn (ha pos pins s σ H _ I h) fun us s1 ⟨vs, H1, I1, r, q⟩ => ⟨I1.kIn, ?_⟩) he hpl
  exact run_fn F hr hb hd hx I1 r q
structure Mk (K : PySem.W.Frag) (C f : Addr) : Prop where
  makes : PySem.W.makesIn K C = true
  init : PySem.W.findIn K (.ref C) "__init__" = some (some (.ref f))
  fn : PySem.W.isFn K (.ref f) = true
  kp : PySem.W.keepIn K (.ref C) = true
end
section
variable {X : Cx} {CX : CXT} {k : Nat} {f C : Addr} {fd : FuncData} {ps ks : List Str} {sp : Sp} {E : XK} {x m : Str} {p pos apos kpos : Pos} {e o : Expr} {es : List Expr} {kws : List Keyword} {te ta : TE} {t tk : TA} {nm : Option Str}
structure KBinds (K : PySem.W.Frag) (fd : FuncData) (ps ks : List Str) (g : List Value → List Value → List Value) (gV : List V → List V → List V) : Prop where
  to : ∀ (s : Shared) (us ws : List Value), K.In s.heap → (g us ws).length = ps.length → BindsTo s fd ⟨us, ks.zip ws⟩ (ps.zip (g us ws))
  rel : ∀ {vs : List V} {us : List Value} {zs : List V} {ws : List Value}, Vals vs us → Vals zs ws → Vals (gV vs zs) (g us ws)
variable {g : List Value → List Value → List Value} {gV : List V → List V → List V}
end
structure FnScope (N P : List Str) (sc : Scope) : Prop where
  kind : sc.kind = .function
  co : sc.isCoroutine = false
  gen : sc.isGenerator = false
  nd : N.Nodup
  pre : N.take P.length = P
  par : ∀ x ∈ P, sc.names.lookup x = some .local ∨ sc.names.lookup x = some .cell
  nofree : ∀ y ∈ sc.names, y.2 ≠ .free
theorem bindL_out {kindOf : Str → Option NameKind} {x : Str} : ∀ {binds : List (Str × Value)} {m : Str → Option Value}, (∀ v, (x, v) ∉ binds) → bindL kindOf binds m x = m x
  | [], _, _ => rfl
  | (n, v) :: r, m, h => by
    unfold bindL
    rw [bindL_out fun w hw => h w (List.mem_cons_of_mem _ hw)]
    split
    · have : x ≠ n := by rintro rfl; exact h v List.mem_cons_self
      simp [this]
    · rfl
theorem bindC_out {kindOf : Str → Option NameKind} {x : Str} : ∀ {binds : List (Str × Value)} {m : Str → Option Value}, (∀ v, (x, v) ∉ binds) → bindC kindOf binds m x = m x
  | [], _, _ => rfl
  | (n, v) :: r, m, h => by
    unfold bindC
    rw [bindC_out fun w hw => h w (List.mem_cons_of_mem _ hw)]
    split
    · rfl
    · have : x ≠ n := by rintro rfl; exact h v List.mem_cons_self
      simp [this]
theorem bindL_get {kindOf : Str → Option NameKind} {x : Str} {v : Value} : ∀ {P : List Str} {vs : List Value} {i : Nat} {m : Str → Option Value}, P.Nodup → P[i]? = some x → vs[i]? = some v → kindOf x = some .local →
    bindL kindOf (P.zip vs) m x = some v
  | [], _, _, _, _, h, _, _ => by simp at h
  | _ :: _, [], _, _, _, _, h, _ => by simp at h
  | p :: P, w :: vs, 0, m, nd, h1, h2, hk => by
    simp at h1 h2; subst h1; subst h2
    show bindL kindOf ((p, w) :: P.zip vs) m p = _
    unfold bindL
    rw [bindL_out fun v hv => (List.nodup_cons.mp nd).1 (List.of_mem_zip hv).1, if_pos hk]
    simp
  | p :: P, w :: vs, i + 1, m, nd, h1, h2, hk => by
    show bindL kindOf ((p, w) :: P.zip vs) m x = _
    unfold bindL
    exact bindL_get (i := i) (List.nodup_cons.mp nd).2 (by simpa using h1) (by simpa using h2) hk
theorem bindC_get {kindOf : Str → Option NameKind} {x : Str} {v : Value} : ∀ {P : List Str} {vs : List Value} {i : Nat} {m : Str → Option Value}, P.Nodup → P[i]? = some x → vs[i]? = some v → kindOf x ≠ some .local →
    bindC kindOf (P.zip vs) m x = some v
  | [], _, _, _, _, h, _, _ => by simp at h
  | _ :: _, [], _, _, _, _, h, _ => by simp at h
  | p :: P, w :: vs, 0, m, nd, h1, h2, hk => by
    simp at h1 h2; subst h1; subst h2
    show bindC kindOf ((p, w) :: P.zip vs) m p = _
    unfold bindC
    rw [bindC_out fun v hv => (List.nodup_cons.mp nd).1 (List.of_mem_zip hv).1, if_neg hk]
    simp
  | p :: P, w :: vs, i + 1, m, nd, h1, h2, hk => by
    show bindC kindOf ((p, w) :: P.zip vs) m x = _
    unfold bindC
    exact bindC_get (i := i) (List.nodup_cons.mp nd).2 (by simpa using h1) (by simpa using h2) hk
def start (N : List Str) (vs : List V) : St := vs.map some ++ List.replicate (N.length - vs.length) none
def cxOf (CX : CXT) (P : Program) (w : World) (K : PySem.W.Frag) (mg : Str → Option Value) (base : Heap) (N : List Str) (qual : Str) (scope : Scope) (f : Addr) (cd : Value) (A : Around) (outer : List Env) (s : Shared) (H : Hp) (E : XK) : Cx where
  prog := P
  w := w
  K := K
  mg := mg
  base := base
  A := A.deeper (envOfC qual scope s.heap.objs.size f cd)
  N := N
  s₀ := s
  H₀ := H
  env := envOfC qual scope s.heap.objs.size f cd
  outer := outer
  stack := envOfC qual scope s.heap.objs.size f cd :: outer
  ex := []
  calm := true
  fn := fun _ => true
  pn := []
  xe := fun e s' => wpAny (model P w) (A.deeper (envOfC qual scope s.heap.objs.size f cd)) (leaving (envOfC qual scope s.heap.objs.size f cd) e) (fun _ s'' => CX outer H s E e s'') (fun e' s'' => CX outer H s E e' s'') s'
theorem cell_has {sc : Scope} {n : Nat} {x : Str} (h : sc.names.lookup x = some .cell) : ∃ c, (cellsFrom n sc.names []).lookup x = some c := by
  have q := PySem.W.cellsFrom_some sc.names n [] (.inl h)
  exact Option.isSome_iff_exists.mp q
theorem inv_start {CX : CXT} {P : Program} {w : World} {K : PySem.W.Frag} {mg : Str → Option Value} {base : Heap} {N ps : List Str} {qual : Str} {scope : Scope} {f : Addr} {cd : Value} {A : Around} {outer : List Env} {s s1 : Shared} {H : Hp} {E : XK} {us : List Value} {vs : List V}
    (S : FnScope N ps scope) (hd : A.handled = none) (e0 : Env0 P w K mg base A outer s H) (hl : vs.length = ps.length) (r : Vals vs us)
    (x : InCallC s s.heap.objs.size (bindL (envOfC qual scope s.heap.objs.size f cd).kindOf (ps.zip us) fun _ => none) (cellsFrom (s.heap.objs.size + 1) scope.names []) (bindC (envOfC qual scope s.heap.objs.size f cd).kindOf (ps.zip us) fun _ => none) s1) :
    Inv (cxOf CX P w K mg base N qual scope f cd A outer s H E) [] (start N vs) H s1 := by
  have hpl : ps.length ≤ N.length := by have := congrArg List.length S.pre; rw [List.length_take] at this; omega
  obtain ⟨h1, tk, rfl, hk⟩ := x.done
  have noA : ∀ b : Addr, b ∉ (cxOf CX P w K mg base N qual scope f cd A outer s H E).ex := fun b z => absurd (show b ∈ ([] : List Addr) from z) (by simp)
  refine ⟨⟨e0.mod, S.kind, rfl, rfl, Nat.le_refl _, fun y z c h1 h2 => ?_, fun y hy => ?_, fun y c _ h => ?_, fun _ => hd, Around.frames_deeper e0.frames, .inr ⟨rfl, rfl⟩, fun b z => absurd z (noA b), e0.bs, e0.bsz, fun b _ _ => noA b, fun b z => absurd z (noA b), e0.funs, e0.frf⟩,
    rfl, e0.bare, Un.kept hk, ⟨_, x.toInCall.ns, fun i y v h1 h2 h3 => ?_⟩, fun y c h => ⟨_, x.cell y c h⟩, e0.hok.fresh (Nat.le_refl _), fun y c h => ?_, fun p hp => absurd (show p ∈ ([] : List (Addr × Obj)) from hp) (by simp), e0.hok.kept hk, ?_⟩
  · exact name_of_addr x.apart (PySem.mem_of_lookup h1) (PySem.mem_of_lookup h2)
  · have hy : scope.names.lookup y = some .cell ∨ scope.names.lookup y = some .free := hy
    rcases hy with hy | hy
    · exact cell_has hy
    · exact absurd rfl (S.nofree _ (PySem.mem_of_lookup hy))
  · exact Nat.le_of_lt (x.above y c (PySem.mem_of_lookup h))
  · have hi : i < vs.length := by
      unfold start at h2
      by_cases hi : i < vs.length
      · exact hi
      · rw [List.getElem?_append_right (by simpa using hi)] at h2
        rw [List.getElem?_replicate] at h2
        split at h2 <;> cases h2
    have ha : vs[i]? = some v := by
      unfold start at h2
      rw [List.getElem?_append_left (by simpa using hi), List.getElem?_map] at h2
      cases e : vs[i]? with
      | none => rw [e] at h2; cases h2
      | some a => rw [e] at h2; cases h2; rfl
    obtain ⟨u, hu, rv⟩ := r.get ha
    have hp : ps[i]? = some y := by
      rw [← S.pre, List.getElem?_take_of_lt (by omega)]; exact h1
    have ndP : ps.Nodup := by rw [← S.pre]; exact S.nd.sublist (List.take_sublist _ _)
    refine ⟨u, rv, ?_⟩
    rcases S.par y (List.mem_of_getElem? hp) with k | k
    · exact .inl ⟨k, bindL_get ndP hp hu k⟩
    · obtain ⟨c, e⟩ := cell_has (n := s.heap.objs.size + 1) k
      refine .inr ⟨.inl k, c, e, ?_⟩
      have q := x.cell y c e
      rw [bindC_get ndP hp hu (by show scope.names.lookup y ≠ _; rw [k]; decide)] at q
      exact q
  · exact e0.hok.fresh (Nat.le_of_lt (x.above y c (PySem.mem_of_lookup h)))
  · unfold start
    show _ = N.length
    rw [List.length_append, List.length_map, List.length_replicate]
    omega
theorem fn_of {CX : CXT} {P : Program} {w : World} {K : PySem.W.Frag} {mg : Str → Option Value} {base : Heap} {k : Nat} {f : Addr} {name qual : Str} {params : Arguments} {body : List Stmt} {scope : Scope} {dV kV doc pm cdv ct oc : Value} {an od : Option Addr}
    {osl : Array (Option Value)} {N ps : List Str} {sp : Sp} (lk : K.lookup f = some ⟨oc, od, .func (PySem.W.fnOf name qual params body scope dV kV doc pm an cdv ct), osl⟩) (hcd : PySem.W.codeIn K cdv qual = true) (S : FnScope N ps scope)
    (len : ∀ vs H Q E, sp vs H Q E → vs.length = ps.length)
    (hbody : ∀ (A : Around) (outer : List Env) (s : Shared) (H : Hp) (vs : List V) (Q : VK) (E : XK), Room k (A.deeper (envOfC qual scope s.heap.objs.size f cdv)) → sp vs H Q E →
      ∃ t, PSs (cxOf CX P w K mg base N qual scope f cdv A outer s H E) body t ∧ t { nx := fun _ H' => Q .non H', rt := Q } (start N vs) H) :
    FnOk P w K mg base CX (k + 1) f (PySem.W.fnOf name qual params body scope dV kV doc pm an cdv ct) ps sp := by
  refine ⟨len, fun A outer s H args us vs Q E hr e0 hb r hsp => ?_⟩
  have hl := len _ _ _ _ hsp
  have KX : K.In s.heap := e0.mod.kin.keeps fun b o e => (e0.bs b o e).1
  have lim : s.heap.NoLimit := e0.mod.nolimit.keeps fun b o e => (e0.bs b o e).1
  have hkind : ∀ y ∈ ps.zip us, scope.names.lookup y.1 = some .local ∨ (scope.names.lookup y.1 = some .cell ∧ ((cellsFrom (s.heap.objs.size + 1) scope.names []).lookup y.1).isSome = true) := fun ⟨n, v⟩ hy => by
    rcases S.par n (List.of_mem_zip hy).1 with q | q
    · exact .inl q
    · exact .inr ⟨q, PySem.W.cellsFrom_some _ _ _ (.inl q)⟩
  refine codeAny_call_function hr.depth (KX _ _ lk) rfl S.co S.gen rfl (PySem.W.codeRec_of KX hcd) (hb _ _ _ _ ?_)
  refine wpAny_newFunctionEnv_cells S.kind hkind fun env he s1 x => ?_
  subst he
  refine ⟨lim.keeps x.toInCall.keep, codeAny_func ?_⟩
  obtain ⟨t, ht, hq⟩ := hbody A outer s H vs Q E (hr.deeper _) hsp
  have I : Inv (cxOf CX P w K mg base N qual scope f cdv A outer s H E) [] (start N vs) H s1 := inv_start S hr.hd e0 hl r x
  refine wpAny_mono (ht [] s1 (start N vs) H _ I hq) (fun fl s' hs => ?_) fun e s' hs => hs
  have fin : ∀ {σ' : St} {H' : Hp} {v : V} {u : Value}, Inv (cxOf CX P w K mg base N qual scope f cdv A outer s H E) [] σ' H' s' → RelV v u → Q v H' → CE outer P w H s Q u s' :=
    fun {σ' H' v u} J rv q => ⟨v, H', J.os, J.bare, J.base, J.hok, rv, q⟩
  cases fl with
  | ret u =>
    obtain ⟨v, σ', H', J, rv, q⟩ := hs
    exact fin J rv q
  | next =>
    obtain ⟨σ', H', J, q⟩ := hs
    exact fin (v := V.non) (u := Value.none) J rfl q
  | brk =>
    obtain ⟨_, _, _, q⟩ := hs
    exact False.elim q
  | cont =>
    obtain ⟨_, _, _, q⟩ := hs
    exact False.elim q
end L2
namespace L2
open PySem PySem.Spec PyProof.Rows
section
variable {X : Cx} {x : Str} {p pos : Pos} {e : Expr} {es : List Expr} {t : TA} {id T : String} {r : List V → Hp → VK → Prop}
def tCB (r : List V → Hp → VK → Prop) (t : TA) : TE := fun σ H Q => t σ H fun vs H1 => r vs H1 Q
theorem pe_callB (hc : CallR X (.builtin id) r) (hg : Gl X x) (hm : X.mg x = none) (hv : bootBuiltins x = some (.builtin id)) (ha : PA X (e :: es) t) (hn : x ≠ "__name__" := by decide) (hdb : (x == ("__debug__" : Str)) = false := by decide)
    (he : starEach (e :: es) X.env = (false, eval e X.env) :: starEach es X.env := by rfl) (hpl : (backTo pos (starEach es X.env)).any (·.1) = false := by rfl) : PE X (.Call (.Name x p) (e :: es) [] pos) (tCB r t) := by
  intro pins s σ H Q I h
  refine wpAny_Call_Name_kw (ld_blt I hg hm hv ?_ hn hdb)
  exact PyProof.Rows.callWith_builtin1 (thn (ha pos pins s σ H _ I h) fun us s1 ⟨vs, H1, I1, r1, q1⟩ => hc pins s1 σ H1 vs us Q I1 r1 q1) he hpl
end
end L2
namespace HT
open PySem PyProof.Rows
section
open PySem.SeqAt
open PySem.AutoSeq1 (wpAny_loadPart')
open PySem.MeetsSeq PySem.MeetsSeq2 PySem.MeetsSeq3
end
section
variable {prog : Program} {w : World} {A : Around} {E : Value → Shared → Prop} {s : Shared}
end
end HT
namespace L2
open PySem PySem.Spec PyProof.Rows
abbrev TO := St → Hp → (Option Int → Hp → Prop) → Prop
section
variable {X : Cx} {e : Expr} {te : TE} {lo hi : Option Expr} {tl th : TO} {pos p2 : Pos}
def SlR (X : Cx) (r : V → Option Int → Option Int → Hp → VK → Prop) : Prop :=
  ∀ (pins : List (Addr × Obj)) (s : Shared) (σ : St) (H : Hp) (x : V) (v vl vu : Value) (lo hi : Option Int) (sl : Addr) (Q : VK), Inv X pins σ H s → RelV x v → s.heap.IsSliceOf sl vl vu .none → IsPart vl lo → IsPart vu hi → r x lo hi H Q →
    ∃ T id, typeLookup (.type T) "__getitem__" = pure (some (.builtin id)) ∧ s.TypeIs v T ∧ wpAny (model X.prog X.w) X.A (getItem v (.ref sl)) (EP X pins σ Q) X.xe s
theorem SlR.or {r r' : V → Option Int → Option Int → Hp → VK → Prop} (h : SlR X r) (h' : SlR X r') : SlR X (fun x lo hi H Q => r x lo hi H Q ∨ r' x lo hi H Q) := by
  intro pins s σ H x v vl vu lo hi sl Q I rx hs pl pu q
  rcases q with q | q
  · exact h pins s σ H x v vl vu lo hi sl Q I rx hs pl pu q
  · exact h' pins s σ H x v vl vu lo hi sl Q I rx hs pl pu q
end
end L2
namespace L2
open PySem PySem.Spec PyProof.Rows
def ixN (n : Nat) (i : Int) : Option Nat := if 0 ≤ i then (if i < n then some i.toNat else none) else if -(n : Int) ≤ i then some (i + n).toNat else none
def atI {α : Type} (xs : List α) (i : Int) : Option α := (ixN xs.length i).bind fun j => xs[j]?
theorem ixN_seq {n : Nat} {i : Int} {j : Nat} (h : ixN n i = some j) : seqIndex? i n = some j ∧ j < n ∧ -(n : Int) ≤ i ∧ i < n := by
  unfold ixN at h
  by_cases h0 : 0 ≤ i
  · rw [if_pos h0] at h
    by_cases h1 : i < n
    · rw [if_pos h1] at h
      have e : i.toNat = j := Option.some.inj h
      exact ⟨by rw [seqIndex_of h0 h1, e], by omega, by omega, h1⟩
    · rw [if_neg h1] at h; cases h
  · rw [if_neg h0] at h
    by_cases h1 : -(n : Int) ≤ i
    · rw [if_pos h1] at h
      have e : (i + n).toNat = j := Option.some.inj h
      exact ⟨by rw [seqIndex_neg (by omega) h1, e], by omega, h1, by omega⟩
    · rw [if_neg h1] at h; cases h
theorem atI_get {α : Type} {xs : List α} {i : Int} {v : α} (h : atI xs i = some v) : ∃ j, seqIndex? i xs.length = some j ∧ xs[j]? = some v ∧ j < xs.length ∧ -(xs.length : Int) ≤ i ∧ i < xs.length := by
  unfold atI at h
  cases e : ixN xs.length i with
  | none => rw [e] at h; cases h
  | some j =>
    rw [e] at h
    obtain ⟨h1, h2, h3, h4⟩ := ixN_seq e
    exact ⟨j, h1, h, h2, h3, h4⟩
def PlainIx (b : Expr) : Prop := ∀ o i, subscripted b false o i = operate [o, i] (getItem o i)
def IxR (X : Cx) (r : R2) : Prop :=
  ∀ (value slice : Expr) (pins : List (Addr × Obj)) (s : Shared) (σ : St) (H : Hp) (x y : V) (v u : Value) (Q : VK), Inv X pins σ H s → RelV x v → RelV y u → r x y H Q →
    subscripted slice false v u = operate [v, u] (getItem v u) → wpAny (model X.prog X.w) X.A (subscriptTail value slice v u) (EP X pins σ Q) X.xe s
def MtR (X : Cx) (id : String) (r : V → List V → Hp → VK → Prop) : Prop :=
  ∀ (pins : List (Addr × Obj)) (s : Shared) (σ : St) (H : Hp) (x : V) (xs : List V) (v : Value) (us : List Value) (Q : VK), Inv X pins σ H s → RelV x v → Vals xs us → r x xs H Q →
    wpAny (model X.prog X.w) X.A (call (.builtin id) (v :: us)) (EP X pins σ Q) X.xe s
section
variable {X : Cx} {a b : Expr} {ta tb : TE} {pos : Pos}
theorem IxR.or {r r' : R2} (h : IxR X r) (h' : IxR X r') : IxR X (fun x y H Q => r x y H Q ∨ r' x y H Q) := by
  intro value slice pins s σ H x y v u Q I rx ry q hs
  rcases q with q | q
  · exact h value slice pins s σ H x y v u Q I rx ry q hs
  · exact h' value slice pins s σ H x y v u Q I rx ry q hs
theorem MtR.or {id : String} {r r' : V → List V → Hp → VK → Prop} (h : MtR X id r) (h' : MtR X id r') : MtR X id (fun x xs H Q => r x xs H Q ∨ r' x xs H Q) := by
  intro pins s σ H x xs v us Q I rx rs q
  rcases q with q | q
  · exact h pins s σ H x xs v us Q I rx rs q
  · exact h' pins s σ H x xs v us Q I rx rs q
theorem pe_ix {r : R2} (hr : IxR X r) (ha : PE X a ta) (hb : PE X b tb) (hs : PlainIx b) : PE X (.Subscript a b pos) (tOp r ta tb) := by
  intro pins s σ H Q I h
  exact Subscript_ (binT ha hb I h fun v u s2 x y H2 I2 rx ry q => hr a b pins s2 σ H2 x y v u Q I2 rx ry q (hs _ _))
def rIxL (K : PySem.W.Frag) : R2 := fun x y H Q => ∃ p xs i v, x = .ref p ∧ y = .int i ∧ SqL K H p xs ∧ atI xs i = some v ∧ Q v H
def rIxT (K : PySem.W.Frag) : R2 := fun x y H Q => ∃ p xs i v, x = .ref p ∧ y = .int i ∧ SqT K H p xs ∧ atI xs i = some v ∧ Q v H
theorem ix_list : IxR X (rIxL X.K) := by
  intro value slice pins s σ H x y v u Q I rx ry h hs
  obtain ⟨p, xs, i, z, rfl, rfl, hq, he, q⟩ := h
  cases rx
  obtain ⟨t, rfl⟩ := ry
  obtain ⟨its, r, pl, hz⟩ := I.list hq
  obtain ⟨j, h1, h2, h3, h4, h5⟩ := atI_get he
  obtain ⟨w, ew, rw'⟩ := r.get h2
  have hl := r.length
  have hn := line63
  have fin : EP X pins σ Q w s := ⟨z, H, I, rw', q⟩
  by_cases h0 : 0 ≤ i
  · have hj : i.toNat = j := by
      rw [seqIndex_of h0 h5] at h1
      exact Option.some.inj h1
    exact item_listR pl.isList h0 (by omega) (by rw [hj]; simpa using ew) fin hs
  · have hj : (i + (its.toArray.size : Int)).toNat = j := by
      rw [seqIndex_neg (by omega) h4] at h1
      rw [List.size_toArray, ← hl]
      exact Option.some.inj h1
    exact subscriptTail_builtinR (x := w) pl.isList.typeIs slot_list_getitem.lookup
      (wpAny_getItem_list_neg (Q := fun r s' => r = w ∧ EP X pins σ Q r s') pl.isList (by omega) (by rw [List.size_toArray] <;> omega) (by omega) (by rw [hj]; simpa using ew) ⟨rfl, fin⟩) hs
theorem ix_tup : IxR X (rIxT X.K) := by
  intro value slice pins s σ H x y v u Q I rx ry h hs
  obtain ⟨p, xs, i, z, rfl, rfl, hq, he, q⟩ := h
  cases rx
  obtain ⟨t, rfl⟩ := ry
  obtain ⟨its, r, pl, hz⟩ := I.tuple hq
  obtain ⟨j, h1, h2, h3, h4, h5⟩ := atI_get he
  obtain ⟨w, ew, rw'⟩ := r.get h2
  have hl := r.length
  have hn := line63
  have fin : EP X pins σ Q w s := ⟨z, H, I, rw', q⟩
  exact subscriptTail_builtinR (x := w) pl.typeIs slot_tuple_getitem.lookup
    (getItem_tuple (j := j) (Q := fun r s' => r = w ∧ EP X pins σ Q r s') pl (by omega) (by omega) (by rw [List.size_toArray, ← hl]; exact h1) (by simpa using ew) ⟨rfl, fin⟩) hs
theorem mapSeq_set (its : List Value) (n j : Nat) (u : Value) : Obj.mapSeq (·.setIfInBounds j u) { cls := .type "list", data := .seq its.toArray n } = { cls := .type "list", data := .seq (its.set j u).toArray n } := by
  simp [Obj.mapSeq]
theorem Inv.lst {pins : List (Addr × Obj)} {σ : St} {H : Hp} {s : Shared} {p : Addr} {xs : List V} (I : Inv X pins σ H s) (h : H p = some (.lst xs)) :
    ∃ (its : List Value) (n : Nat), Vals xs its ∧ s.heap.get? p = some { cls := .type "list", data := .seq its.toArray n } ∧ xs.length ≤ sizeLine := by
  obtain ⟨z, its, n, r, e⟩ := I.hok p _ h
  exact ⟨its, n, r, e, z⟩
theorem Inv.lstUpd {pins : List (Addr × Obj)} {σ : St} {H : Hp} {s : Shared} {p : Addr} {xs ys : List V} {its its' : List Value} {n n' : Nat} {f : Obj → Obj} (I : Inv X pins σ H s) (h : H p = some (.lst xs))
    (ho : s.heap.get? p = some { cls := .type "list", data := .seq its.toArray n }) (hf : f { cls := .type "list", data := .seq its.toArray n } = { cls := .type "list", data := .seq its'.toArray n' }) (r : Vals ys its') (hz : ys.length ≤ sizeLine) (t : Nat) :
    Inv X pins σ (upd H p (.lst ys)) { s with heap := s.heap.update p f, toks := t } := by
  have e : (s.heap.update p f).get? p = some { cls := .type "list", data := .seq its'.toArray n' } := by
    rw [Heap.get?_update_self f ho (by rw [hf] <;> rfl), hf]
  refine I.write (x := p) (e := p) (by rw [h]; trivial) (.inl rfl) (fun b u hb q => (Heap.get?_update_other _ _ (Ne.symm hb)).trans q) ⟨_, e⟩ ?_
  exact ⟨hz, its', n', r, e⟩
def rSetL : V → V → V → Hp → (Hp → Prop) → Prop := fun o i v H Q => ∃ p xs k j, o = .ref p ∧ i = .int k ∧ H p = some (.lst xs) ∧ ixN xs.length k = some j ∧ Q (upd H p (.lst (xs.set j v)))
theorem set_list : PSet X rSetL := by
  intro pins s σ H o i v ov iv u Q I ro ri rv h
  obtain ⟨p, xs, k, j, rfl, rfl, hp, hj, q⟩ := h
  cases ro
  obtain ⟨t, rfl⟩ := ri
  obtain ⟨its, n, r, ho, hz⟩ := I.lst hp
  obtain ⟨h1, h2, h3, h4⟩ := ixN_seq hj
  have hl := r.length
  have hn := line63
  have I' : Inv X pins σ (upd H p (.lst (xs.set j v))) { s with heap := s.heap.update p (Obj.mapSeq (·.setIfInBounds j u)) } :=
    I.lstUpd hp ho (mapSeq_set its n j u) (r.set rv j) (by rw [List.length_set]; exact hz) s.toks
  by_cases h0 : 0 ≤ k
  · have hk : k.toNat = j := by
      rw [seqIndex_of h0 h4] at h1
      exact Option.some.inj h1
    exact PySem.W.ki_setAt ho h0 (by omega) (by rw [List.size_toArray, ← hl]; exact h4) (by rw [hk]; exact ⟨_, I', q⟩)
  · have hk : (k + (its.toArray.size : Int)).toNat = j := by
      rw [seqIndex_neg (by omega) h3] at h1
      rw [List.size_toArray, ← hl]
      exact Option.some.inj h1
    exact PySem.W.ki_setBack ho (by omega) (by rw [List.size_toArray, ← hl]; exact h3) (by omega) (by rw [hk]; exact ⟨_, I', q⟩)
theorem CallR.or {f : Value} {r r' : List V → Hp → VK → Prop} (h : CallR X f r) (h' : CallR X f r') : CallR X f (fun xs H Q => r xs H Q ∨ r' xs H Q) := by
  intro pins s σ H xs us Q I rs q
  rcases q with q | q
  · exact h pins s σ H xs us Q I rs q
  · exact h' pins s σ H xs us Q I rs q
variable {o e : Expr} {es : List Expr} {to : TE} {t : TA} {name : Str} {apos cpos : Pos} {T id : String} {r : V → List V → Hp → VK → Prop}
/- xs.append(e), list.index on a module's tuple .. are MtR facts of 06m -/
end
end L2
namespace L2
open PySem PySem.Spec PyProof.Rows
theorem Vals.one : ∀ {x : V} {us : List Value}, Vals [x] us → ∃ u, us = [u] ∧ RelV x u
  | _, _, .cons r .nil => ⟨_, rfl, r⟩
theorem Vals.two : ∀ {x y : V} {us : List Value}, Vals [x, y] us → ∃ u v, us = [u, v] ∧ RelV x u ∧ RelV y v
  | _, _, _, .cons r (.cons q .nil) => ⟨_, _, rfl, r, q⟩
theorem Vals.zero : ∀ {us : List Value}, Vals [] us → us = []
  | _, .nil => rfl
theorem Vals.reverse {xs : List V} {us : List Value} (h : Vals xs us) : Vals xs.reverse us.reverse := by
  induction h with
  | nil => exact .nil
  | cons r t ih => rw [List.reverse_cons, List.reverse_cons]; exact Vals.append ih (.cons r .nil)
section
variable {X : Cx} {pins : List (Addr × Obj)} {σ : St} {H : Hp} {s : Shared} {l b : Addr} {xs ys zs : List V}
theorem Inv.fresh (I : Inv X pins σ H s) : H s.heap.objs.size = none := I.hok.fresh (Nat.le_refl _)
end
section
variable {X : Cx}
end
section
variable {prog : Program} {w : World} {A : Around} {E : Value → Shared → Prop} {s : Shared}
end
section
variable {X : Cx}
end
end L2
namespace Att
open PySem PySem.W PySem.Calls PyProof.Rows
theorem ints_of_wellAll {P : Params} {h : Heap} : ∀ (ns : List Int) (vs : List Value), WellAll P h vs (ns.map WData.int) → IntsAre vs ns := by
  intro ns
  induction ns with
  | nil =>
    intro vs w
    rw [List.map_nil] at w
    cases w
    exact .nil
  | cons n ns ih =>
    intro vs w
    rw [List.map_cons] at w
    cases w with
    | cons a b =>
      cases a
      exact .cons _ _ (ih _ b)
theorem script_of {l : OpenLaw} {n : Nat} (hn : l.most = some n) {P : Params} {h : Heap} {args : List WData} {vals : List Value}
    (hpre : l.row.toRowW.claim.pre args = true) (hwl : WellAll P h vals args) :
    ∃ a vs ns, vals = [Value.ref a] ∧ args = [WData.list (ns.map WData.int)] ∧ h.get? a = some { cls := .type "list", data := .seq vs.toArray } ∧ IntsAre vs ns ∧ ns.length ≤ n := by
  have hsh : WShape.hasAll [] args [.list .int] = true := (pre_splitW hpre).1
  have hc : l.pre.holds [] { args := args } = true := (pre_splitW hpre).2
  obtain ⟨d, r, rfl, h1, h2⟩ := hasAllW_cons hsh
  obtain rfl := hasAllW_nil h2
  obtain ⟨xs, rfl, h3⟩ := hasW_list h1
  obtain ⟨ns, rfl⟩ := items_int h3
  have hlen : ns.length ≤ n := by
    unfold OpenLaw.pre at hc
    have h4 : (WTm.not (.lt (.lit (.int (n : Int))) (.len (.arg 0)))).holds [] { args := [.list (ns.map .int)] } = true := by
      have h4 := (holds_andW hc).1
      rw [hn] at h4
      exact h4
    have h5 := condW_of h4 (w_not (w_lt w_lit (w_len_list (w_arg rfl))))
    rw [List.length_map] at h5
    refine Nat.le_of_not_lt fun q => ?_
    have q' : (n : Int) < ((ns.length : Nat) : Int) := by omega
    first
      | (rw [decide_eq_true q'] at h5; exact absurd h5 (by decide))
      | (simp at h5; omega)
  cases hwl with
  | cons w1 w2 =>
    cases w2
    cases w1 with
    | list ho hall => exact ⟨_, _, ns, rfl, rfl, ho, ints_of_wellAll ns _ hall, hlen⟩
theorem post_true (l : OpenLaw) (args : List WData) : l.row.toRowW.claim.post args (.bool true) args = true :=
  postW_of (r := l.row.toRowW) (X := (true == true))
    (show WShape.has [] (.bool true) .bool = true by first | rfl | decide | simp [WShape.has, WShape.arms, WShape.armsAll])
    (show (WTm.eq .res (.lit (.bool true))).value [] { args := args, res := some (.bool true), after := args } = some (.bool (true == true)) from w_eq_bool (w_res rfl) w_lit) rfl
theorem attach_call {l : OpenLaw} {n : Nat} {q : Program} {loose : List Str} {XP : (Str → Option Value) → Heap → Prop} {YP : World → Heap → Prop} {d : DefRec}
    (hn : l.most = some n) (hdf : d.params.defaults = [])
    (call : ∀ (w : World) (s₀ s₁ : Shared) (mg mb : Str → Option Value) (fa : Addr) (o : Obj) (pm cd doc : Value) (a : Addr) (vs : List Value) (ns : List Int),
      Ground q loose [] XP w s₀ mg mb s₁.heap → YP w s₁.heap →
      s₁.heap.get? fa = some o → o.data = .func (docDef d.name d.params d.body d.scope pm cd doc) → s₁.heap.CodeRec cd d.name → mg d.name = some (.ref fa) →
      s₁.heap.get? a = some { cls := .type "list", data := .seq vs.toArray } → IntsAre vs ns → ns.length ≤ n → s₁.gens = #[] →
      codeAny (model l.prog w) callerA (.call (.ref fa) ⟨[.ref a], []⟩) (fun r s' => r = .ok (.ret (.bool true)) ∧ OldK s₁.heap s'.heap ∧ s'.os = s₁.os ∧ AllBare s'.gens) s₁) :
    WalkO q loose XP YP l.row.toRowW d [] (fun f vs => PySem.call f vs) := by
  intro w s₀ s₁ mg mb G Y fa o pm cd doc dV kV ho hd hcd hD hmg hg args vals as hpre hlay hrd hwl hlo
  obtain rfl : dV = .none := Dflts.none hD hdf
  obtain rfl : kV = .none := Dflts.noKw hD
  obtain ⟨a, vs, ns, rfl, rfl, hobj, hints, hlen⟩ := script_of hn hpre hwl
  refine enter_call (codeAny_mono (call w s₀ s₁ mg mb fa o pm cd doc a vs ns G Y ho (fd_plain hd) hcd hmg hobj hints hlen hg) fun r s' hq => ?_)
  obtain ⟨rfl, h2, h3, h4⟩ := hq
  exact ⟨.inl ⟨.bool true, .bool true, [], rfl, fun _ => rfl, .bool true, post_true l _, fun _ => ⟨List.Pairwise.nil, fun _ hm => (nomatch hm)⟩⟩, h2, h3, h4⟩
section
variable {prog : Program} {w : World} {A : Around} {E : Value → Shared → Prop} {s : Shared} {K : Frag}
def ledger (h : Heap) (L d : Addr) : List (Addr × Obj) := (List.range h.objs.size).filterMap fun a => if a = L ∨ a = d then none else (h.get? a).map fun o => (a, o)
end
end Att
namespace L2
open PySem PySem.Spec PyProof.Rows
theorem vals_ints : ∀ {vs : List Value} {ns : List Int}, IntsAre vs ns → Vals (ns.map V.int) vs
  | _, _, .nil => .nil
  | _, _, .cons n t h => .cons ⟨t, rfl⟩ (vals_ints h)
def Only (H : Hp) : Prop := ∀ b, H b = none ∨ ∃ o xs, H b = some (.frz o (.lst xs))
theorem law_call {P : Program} {w : World} {K : PySem.W.Frag} {mg mb : Str → Option Value} {CX : CXT} {k : Nat} {fa a : Addr} {fd : FuncData} {x : Str} {sp : Sp} {s₁ : Shared} {vs : List Value} {ns : List Int}
    (KX : K.In s₁.heap) (hns : s₁.heap.Ns mainGlobals mg) (hb : s₁.heap.Ns builtinsNs mb) (hbb : ∀ x : Str, x ≠ "__name__" → mb x = bootBuiltins x) (hlim : s₁.heap.NoLimit) (hg : s₁.gens = #[])
    (ha : s₁.heap.get? a = some { cls := .type "list", data := .seq vs.toArray }) (hi : IntsAre vs ns) (hl : ns.length ≤ sizeLine) (hr : Room k callerA)
    (F : ∀ base : Heap, K.In base → base.Ns mainGlobals mg → FnOk P w K mg base CX k fa fd [x] sp) (hbind : ∀ (s : Shared) (u : Value), BindsTo s fd ⟨[u], []⟩ [(x, u)])
    (hsp : ∀ H : Hp, Only H → SqL K H a (ns.map V.int) → sp [.ref a] H (fun v _ => v = .bl true) fun _ _ _ => False)
    (hCX : ∀ H e s', CX [] H s₁ (fun _ _ _ => False) e s' → False) :
    codeAny (model P w) callerA (.call (.ref fa) ⟨[.ref a], []⟩) (fun r s' => r = .ok (.ret (.bool true)) ∧ OldK s₁.heap s'.heap ∧ s'.os = s₁.os ∧ AllBare s'.gens) s₁ := by
  have rv := vals_ints hi
  have lenV := hi.length
  -- from an abstract heap in which nothing but the script may be tracked
  have core : ∀ H : Hp, Only H → SqL K H a (ns.map V.int) → HOk P w H s₁.heap → (∀ b, H b ≠ none → b = a) → (H a ≠ none → K.lookup a = none) →
      codeAny (model P w) callerA (.call (.ref fa) ⟨[.ref a], []⟩) (fun r s' => r = .ok (.ret (.bool true)) ∧ OldK s₁.heap s'.heap ∧ s'.os = s₁.os ∧ AllBare s'.gens) s₁ := by
    intro H hO hS hok hA hK
    have base_of : ∀ {b : Addr} {o : Obj}, s₁.heap.get? b = some o → H b = none → (hidT s₁.heap H).get? b = some o := fun e n => hidT_get e n
    have noA : ∀ {b : Addr} {o : Obj} {es : Array DictEntry} {ep : Nat}, s₁.heap.get? b = some o → o.data = .dict es ep → H b = none := fun {b o es ep} e d => by
      cases q : H b with
      | none => rfl
      | some u =>
        have e' : b = a := hA b (by rw [q]; simp)
        subst e'
        rw [ha] at e; cases e
        have d' : Data.seq vs.toArray _ = Data.dict es ep := d
        cases d'
    have nsK : ∀ {b : Addr} {m : Str → Option Value}, s₁.heap.Ns b m → (hidT s₁.heap H).Ns b m := fun {b m} ⟨o, es, ep, e, d, r⟩ => ⟨o, es, ep, base_of e (noA e d), d, r⟩
    have hKb : K.In (hidT s₁.heap H) := fun b o e => base_of (KX b o e) (by
      cases q : H b with
      | none => rfl
      | some u =>
        have e' : b = a := hA b (by rw [q]; simp)
        subst e'
        rw [hK (by rw [q]; simp)] at e; cases e)
    have hM : Mod K mg (hidT s₁.heap H) := ⟨hKb, nsK hns, ⟨mb, nsK hb, hbb⟩, let ⟨mc, h1, h2⟩ := hlim; ⟨mc, nsK h1, h2⟩⟩
    have e0 : Env0 P w K mg (hidT s₁.heap H) callerA [] s₁ H := ⟨rfl, hM, fun b o e => of_hidT e, Nat.le_of_eq (hidT_size _ _), trivial, fun b hb => absurd (show b ∈ ([] : List Addr) from hb) (by simp), hok, .of_eq hg⟩
    refine codeAny_mono ((F _ hKb (nsK hns)).run callerA [] s₁ H ⟨[.ref a], []⟩ [.ref a] [.ref a] _ _ hr e0 (hbind s₁ (.ref a)) (.cons rfl .nil) (hsp H hO hS)) fun r s' h => ?_
    cases r with
    | error e => exact (hCX H e s' h).elim
    | ok fl =>
      cases fl with
      | next => exact False.elim h
      | brk => exact False.elim h
      | cont => exact False.elim h
      | ret u =>
        obtain ⟨v, H', os, bare, un, hok', r', q⟩ := h
        have q' : v = .bl true := q
        subst q'
        obtain rfl : u = Value.bool true := r'
        refine ⟨rfl, OldK.of_keep fun b o e => ?_, os, bare⟩
        cases q : H b with
        | none => exact un.keep b o e q (by intro z; exact absurd (show b ∈ ([] : List Addr) from z) (by simp)) (by simp)
        | some u =>
          rcases hO b with z | ⟨ob, xs, z⟩
          · rw [q] at z; cases z
          · have z2 := un.frzs b ob _ z
            obtain ⟨e1, _⟩ := hok b _ z
            obtain ⟨e2, _⟩ := hok' b _ z2
            rw [e] at e1; cases e1
            exact e2
  cases hk : K.lookup a with
  | some o =>
    -- the script is one of the module's own objects
    have e := KX a o hk
    rw [ha] at e
    cases e
    refine core (fun _ => none) (fun _ => .inl rfl) (.inr ⟨_, vs.toArray, _, hk, rfl, rfl, rfl, by rw [List.size_toArray, lenV]; exact hl, by simpa using rv⟩) (fun b u z => by have z' : (none : Option HO) = some u := z; cases z') (fun b z => absurd rfl z) fun z => absurd rfl z
  | none =>
    refine core (fun b => if b = a then some (.frz { cls := .type "list", data := .seq vs.toArray } (.lst (ns.map V.int))) else none) (fun b => ?_) (.inl (.inr ⟨{ cls := .type "list", data := .seq vs.toArray }, if_pos rfl⟩)) (fun b u z => ?_) (fun b z => ?_) fun _ => hk
    · by_cases hb : b = a
      · exact .inr ⟨_, _, if_pos hb⟩
      · exact .inl (if_neg hb)
    · by_cases hb : b = a
      · have z' := (if_pos hb).symm.trans z
        cases z'
        subst hb
        exact ⟨ha, by rw [List.length_map]; exact hl, vs, _, rv, ha⟩
      · have z' := (if_neg hb).symm.trans z
        cases z'
    · by_cases hb : b = a
      · exact hb
      · exact absurd (if_neg hb) z
end L2
namespace L2
open PySem PySem.Spec PyProof.Rows
abbrev KOf {K : PySem.W.Frag} {h : Heap} (_ : K.In h) : PySem.W.Frag := K
theorem walk_of {l : PySem.W.OpenLaw} {n k : Nat} {q : Program} {loose : List Str} {XP : (Str → Option Value) → Heap → Prop} {YP : World → Heap → Prop} {d : DefRec} {K : Params → PySem.W.Frag} {CX : World → CXT} {sp : World → Sp} {x : Str}
    (hn : l.most = some n) (hn2 : n ≤ sizeLine) (hdf : d.params.defaults = []) (hr : Room k callerA)
    (hY : ∀ (w : World) (h : Heap), YP w h → (K w.params).In h)
    (F : ∀ (w : World) (mg : Str → Option Value) (fa : Addr) (h : Heap), (K w.params).In h → h.Ns mainGlobals mg → mg d.name = some (.ref fa) →
      ∃ fd : FuncData, (∀ (s : Shared) (u : Value), BindsTo s fd ⟨[u], []⟩ [(x, u)]) ∧
        ∀ base : Heap, (K w.params).In base → base.Ns mainGlobals mg → FnOk l.prog w (K w.params) mg base (CX w) k fa fd [x] (sp w))
    (hsp : ∀ (w : World) (H : Hp) (a : Addr) (ns : List Int), ns.length ≤ n → Only H → SqL (K w.params) H a (ns.map V.int) → sp w [.ref a] H (fun v _ => v = .bl true) fun _ _ _ => False)
    (hCX : ∀ (w : World) (H : Hp) (s : Shared) (e : Value) (s' : Shared), CX w [] H s (fun _ _ _ => False) e s' → False) :
    PySem.W.WalkO q loose XP YP l.row.toRowW d [] (fun f vs => PySem.call f vs) := by
  refine Att.attach_call hn hdf fun w s₀ s₁ mg mb fa o pm cd doc a vs ns G Y ho hd hcd hmg hobj hints hlen hg => ?_
  have KX := hY w _ Y
  obtain ⟨fd, hb, hF⟩ := F w mg fa _ KX G.T.g hmg
  exact law_call KX G.T.g G.T.b G.T.builtins G.T.nolimit hg hobj hints (Nat.le_trans hlen hn2) hr hF hb (fun H hO hS => hsp w H a ns hlen hO hS) fun H e s' => hCX w H s₁ e s'
end L2
/- THE LAST THEOREM (shape; LID, My.* are yours):
   My.Adr: a structure of the addresses that your layer names (classes, functions); My.Txt K t: a structure (Prop) of the equations over K;
   My.txt_mk : {K} {implicit addresses ..} (e1 : nsIn K mainGlobals "law" = some (some (.ref f))) (e2 : K.lookup f = some ⟨oc, od, .func (fnOf "law" "law" params body scope dV kV doc pm an cdv ct), sl⟩) (e3 : codeIn K cdv "law" = true) .. : ∃ t, My.Txt K t
set_option maxRecDepth 100000 in
set_option maxHeartbeats 0 in
theorem PySem.Challenge.cw_LID_holds : PySem.Challenge.rw_LID.Holds := by
  w_on; o_law; k_head; (case hw => w_witness2)
  k_fill
  refine L2.walk_of (l := PySem.Challenge.rw_LID) (n := 63) (k := 40) (x := "script") (CX := fun w => ..) (sp := fun _ => My.sp_law) rfl (by decide) rfl ⟨rfl, by decide, by decide⟩ (fun w h Y => PySem.W.kIn_of Y) ?F ?S ?C
  case F =>
    intro w mg fa h KX G hmg
    have T : ∃ t, My.Txt (L2.KOf KX) t := by
      dsimp only [L2.KOf]                          -- K must stand as «<heap const> w.params» for k_is
      refine' My.txt_mk ?e1 ?e2 ?e3 ..
      (case e1 => PySem.W.k_is)                    -- in the order: a name -> its address -> its object -> its parts
      (case e2 => PySem.W.k_is)
      ..
    obtain ⟨t, T⟩ := T
    have e0 := hmg.symm.trans (PySem.W.mg_of KX G T.law)
    cases e0                                       -- fa is the law's own address
    exact ⟨_, fun s u => .of_eq rfl, fun base kb nb => My.law_fn T kb nb⟩     -- if «.of_eq rfl» comes too early: refine' ⟨_, ?b, fun base kb nb => My.law_fn T kb nb⟩; exact fun s u => .of_eq rfl
  case S => exact fun w H a ns hl hO hS => ..
  case C => exact ..
(the tactic k_is has no namespace: write k_is) -/
namespace L2
open PySem PySem.Spec PyProof.Rows
def defArgs (s : Stmt) : Arguments := match s with
  | .FunctionDef _ a _ _ _ _ _ _ _ _ => a
  | _ => { posonlyargs := [], args := [], vararg := none, kwonlyargs := [], kw_defaults := [], kwarg := none, defaults := [] }
def defBody (s : Stmt) : List Stmt := match s with
  | .FunctionDef _ _ b _ _ _ _ _ _ _ => b
  | _ => []
def defScope (s : Stmt) : Scope := match s with
  | .FunctionDef _ _ _ _ _ _ sc _ _ _ => sc
  | _ => { kind := .function, names := [], isGenerator := false, isCoroutine := false }
abbrev CX0 : CXT := fun _ _ _ _ _ _ => False
abbrev E0 : XK := fun _ _ _ => False
theorem pass0 {X : Cx} : Passes CX0 X E0 := fun _ _ _ _ _ _ _ h => h.elim
structure Fun (K : PySem.W.Frag) (x qual : Str) (st : Stmt) (f : Addr) (fd : FuncData) : Prop where
  ex : ∃ (oc : Value) (od : Option Addr) (kV doc pm : Value) (an : Option Addr) (cdv ct : Value) (osl : Array (Option Value)),
    fd = PySem.W.fnOf x qual (defArgs st) (defBody st) (defScope st) .none kV doc pm an cdv ct ∧ K.lookup f = some ⟨oc, od, .func fd, osl⟩ ∧ PySem.W.codeIn K cdv qual = true
  kp : PySem.W.keepIn K (.ref f) = true
section
variable {P : Program} {w : World} {K : PySem.W.Frag} {mg : Str → Option Value} {base : Heap}
theorem Fun.ok {x qual : Str} {st : Stmt} {f : Addr} {fd : FuncData} {N ps : List Str} {k : Nat} {sp : Sp} (F : Fun K x qual st f fd) (S : FnScope N ps (defScope st)) (len : ∀ vs H Q E, sp vs H Q E → vs.length = ps.length)
    (hbody : ∀ (cdv : Value) (A : Around) (outer : List Env) (s : Shared) (H : Hp) (vs : List V) (Q : VK) (E : XK), Room k (A.deeper (envOfC qual (defScope st) s.heap.objs.size f cdv)) → sp vs H Q E →
      ∃ t, PSs (cxOf CX0 P w K mg base N qual (defScope st) f cdv A outer s H E).nox (defBody st) t ∧ t { nx := fun _ H' => Q .non H', rt := Q } (start N vs) H) : FnOk P w K mg base CX0 (k + 1) f fd ps sp := by
  obtain ⟨oc, od, kV, doc, pm, an, cdv, ct, osl, rfl, lk, hcd⟩ := F.ex
  refine fn_of lk hcd S len fun A outer s H vs Q E hr hsp => ?_
  obtain ⟨t, h, q⟩ := hbody cdv A outer s H vs Q E hr hsp
  exact ⟨t, h.nox, q⟩
theorem Fun.binds {x qual : Str} {st : Stmt} {f : Addr} {fd : FuncData} {ps : List Str} (F : Fun K x qual st f fd)
    (h : ∀ (kV doc pm : Value) (an : Option Addr) (cdv ct : Value) (us : List Value), us.length = ps.length → bindArgs (PySem.W.fnOf x qual (defArgs st) (defBody st) (defScope st) .none kV doc pm an cdv ct) ⟨us, []⟩ = pure (ps.zip us)) : Binds K fd ps [] := by
  obtain ⟨oc, od, kV, doc, pm, an, cdv, ct, osl, rfl, lk, hcd⟩ := F.ex
  exact .all (h kV doc pm an cdv ct)
theorem fun_mk {x qual : Str} {st : Stmt} {f : Addr} {oc : Value} {od an : Option Addr} {osl : Array (Option Value)} {kV doc pm cdv ct : Value} (l : K.lookup f = some ⟨oc, od, .func (PySem.W.fnOf x qual (defArgs st) (defBody st) (defScope st) .none kV doc pm an cdv ct), osl⟩)
    (c : PySem.W.codeIn K cdv qual = true) (k : PySem.W.keepIn K (.ref f) = true) : Fun K x qual st f (PySem.W.fnOf x qual (defArgs st) (defBody st) (defScope st) .none kV doc pm an cdv ct) := ⟨⟨oc, od, kV, doc, pm, an, cdv, ct, osl, rfl, l, c⟩, k⟩
end
section
variable {X : Cx}
theorem pv (i : Nat) {x : Str} {pos : Pos} (hN : X.N[i]? = some x := by rfl) (hv : Vis X.env.scope x := by first | exact Or.inl rfl | exact Or.inr (Or.inl rfl) | exact Or.inr (Or.inr rfl)) (hd : (x == ("__debug__" : Str)) = false := by decide)
    (hcd : (x == ("__classdict__" : Str)) = false := by decide) : PE X (.Name x pos) (tVar i) := pe_var hN hv hd hcd
end
theorem iteT {A B : Prop} (h : A) : if true = true then A else B := by
  rw [if_pos rfl]
  exact h
def Same (H H' : Hp) : Prop := ∀ b o, H b = some o → H' b = some o
theorem Same.refl (H : Hp) : Same H H := fun _ _ h => h
theorem Same.trans {H H1 H2 : Hp} (a : Same H H1) (b : Same H1 H2) : Same H H2 := fun c o h => b c o (a c o h)
theorem Same.free {H H' : Hp} (e : Same H H') {l : Addr} (h : H' l = Option.none) : H l = Option.none := by
  cases q : H l with
  | none => rfl
  | some o =>
    rw [e l o q] at h
    cases h
theorem Same.seq {K : PySem.W.Frag} {H H' : Hp} {a : Addr} {xs : List V} (e : Same H H') (h : SqL K H a xs) : SqL K H' a xs := by
  rcases h with (h | ⟨o, h⟩) | h
  · exact .inl (.inl (e _ _ h))
  · exact .inl (.inr ⟨o, e _ _ h⟩)
  · exact .inr h
end L2
end
section
set_option Elab.async false
set_option linter.all false
set_option maxRecDepth 100000
namespace L2
open PySem PySem.Spec PyProof.Rows
def Bd (n : Nat) (x : Int) : Prop := x.natAbs < 2 ^ n
theorem Bd.mono {m n : Nat} {x : Int} (h : Bd m x) (k : m ≤ n) : Bd n x := Nat.lt_of_lt_of_le h (Nat.pow_le_pow_right (by decide) k)
theorem Bd.add {n : Nat} {x y : Int} (h : Bd n x) (k : Bd n y) : Bd (n + 1) (x + y) := by
  unfold Bd at *
  have := Int.natAbs_add_le x y
  rw [Nat.pow_succ]
  omega
theorem Bd.neg {n : Nat} {x : Int} (h : Bd n x) : Bd n (-x) := by
  unfold Bd at *
  rw [Int.natAbs_neg]; exact h
theorem Bd.sub {n : Nat} {x y : Int} (h : Bd n x) (k : Bd n y) : Bd (n + 1) (x - y) := by
  rw [Int.sub_eq_add_neg]; exact h.add k.neg
theorem Bd.bits {n : Nat} {x : Int} (h : Bd n x) : Builtin.Int.intBits x ≤ n + 1 := by
  unfold Builtin.Int.intBits
  split
  · exact Nat.zero_le _
  · have : x.natAbs.log2 ≤ n := by
      rcases Nat.eq_zero_or_pos x.natAbs with h0 | hp
      · rw [h0]; simp
      · exact Nat.le_of_lt ((Nat.log2_lt (Nat.ne_of_gt hp)).mpr h)
    omega
theorem Bd.log {n : Nat} {x : Int} (h : Bd n x) : x.natAbs.log2 ≤ n := by
  rcases Nat.eq_zero_or_pos x.natAbs with h0 | hp
  · rw [h0]; simp
  · exact Nat.le_of_lt ((Nat.log2_lt (Nat.ne_of_gt hp)).mpr h)
theorem Bd.of {n : Nat} {x m : Int} (h1 : -m ≤ x) (h2 : x ≤ m) (hm : m.natAbs < 2 ^ n) : Bd n x := by
  unfold Bd
  omega
section
variable {X : Cx}
def CMulB (i j : Int) : Prop := CMul i j ∨ (Bd 8000 i ∧ Bd 8000 j)
theorem CMulB.ok {i j : Int} (h : CMulB i j) : IntMulOk i j := by
  rcases h with h | ⟨h, k⟩
  · exact h.ok
  · have a := h.bits
    have b := k.bits
    have e : (2 : Nat) ^ 20 = 1048576 := by decide
    exact IntMulOk.of_bits (by omega) (by omega)
theorem op_mulB : OpR X (binaryOp .Mult) (rI CMulB fun i j => .int (i * j)) := opI fun _ _ _ _ _ _ _ hc q => mul_int q hc.ok
def CDivB (i j : Int) : Prop := 0 < j ∧ Bd 8000 j
theorem op_fdivB : OpR X (binaryOp .FloorDiv) (rI CDivB fun i j => .int (i / j)) := opI fun i j _ _ _ _ _ hc q => by
  have := hc.2.log
  rw [← Int.fdiv_eq_ediv_of_nonneg _ (Int.le_of_lt hc.1)] at q
  exact floordiv_int (by have := hc.1; omega) q (.inl (PyProof.noPylong_of_log2 (by omega)))
def CDivM (i j : Int) : Prop := j ≠ 0 ∧ Bd 8000 j
theorem op_fdivM : OpR X (binaryOp .FloorDiv) (rI CDivM fun i j => .int (i.fdiv j)) := opI fun i j _ _ _ _ _ hc q => by
  have := hc.2.log
  exact floordiv_int hc.1 q (.inl (PyProof.noPylong_of_log2 (by omega)))
end
mutual
def Is (H : Hp) : PyData → V → Prop
  | .none, v => v = .non
  | .bool b, v => v = .bl b
  | .int i, v => v = .int i
  | .str x, v => v = .str x
  | .tuple ds, v => ∃ a vs, v = .ref a ∧ H a = some (.tup vs) ∧ IsL H ds vs
  | .list ds, v => ∃ a vs, v = .ref a ∧ H a = some (.lst vs) ∧ IsL H ds vs
  | .dict _, _ => False
def IsL (H : Hp) : List PyData → List V → Prop
  | [], vs => vs = []
  | d :: ds, vs => ∃ x xs, vs = x :: xs ∧ Is H d x ∧ IsL H ds xs
end
mutual
def fixD : PyData → Bool
  | .none => true
  | .bool _ => true
  | .int _ => true
  | .str _ => true
  | .tuple ds => fixDs ds
  | .list _ => false
  | .dict _ => false
def fixDs : List PyData → Bool
  | [] => true
  | d :: ds => fixD d && fixDs ds
end
def TSame (H H' : Hp) : Prop := ∀ b xs, H b = some (.tup xs) → H' b = some (.tup xs)
theorem TSame.refl (H : Hp) : TSame H H := fun _ _ h => h
theorem TSame.trans {H H1 H2 : Hp} (a : TSame H H1) (b : TSame H1 H2) : TSame H H2 := fun c o h => b c o (a c o h)
theorem Same.t {H H' : Hp} (h : Same H H') : TSame H H' := fun b xs e => h b _ e
mutual
theorem Is.mono {H H' : Hp} (s : Same H H') : ∀ {d : PyData} {v : V}, Is H d v → Is H' d v
  | .none, _, h => h
  | .bool _, _, h => h
  | .int _, _, h => h
  | .str _, _, h => h
  | .tuple _, _, ⟨a, vs, e, h, l⟩ => ⟨a, vs, e, s _ _ h, IsL.mono s l⟩
  | .list _, _, ⟨a, vs, e, h, l⟩ => ⟨a, vs, e, s _ _ h, IsL.mono s l⟩
  | .dict _, _, h => h
theorem IsL.mono {H H' : Hp} (s : Same H H') : ∀ {ds : List PyData} {vs : List V}, IsL H ds vs → IsL H' ds vs
  | [], _, h => h
  | _ :: _, _, ⟨x, xs, e, h, l⟩ => ⟨x, xs, e, Is.mono s h, IsL.mono s l⟩
end
mutual
theorem Is.monoT {H H' : Hp} (s : TSame H H') : ∀ {d : PyData} {v : V}, fixD d = true → Is H d v → Is H' d v
  | .none, _, _, h => h
  | .bool _, _, _, h => h
  | .int _, _, _, h => h
  | .str _, _, _, h => h
  | .tuple _, _, f, ⟨a, vs, e, h, l⟩ => ⟨a, vs, e, s _ _ h, IsL.monoT s f l⟩
  | .list _, _, f, _ => absurd f Bool.false_ne_true
  | .dict _, _, _, h => h
theorem IsL.monoT {H H' : Hp} (s : TSame H H') : ∀ {ds : List PyData} {vs : List V}, fixDs ds = true → IsL H ds vs → IsL H' ds vs
  | [], _, _, h => h
  | d :: ds, _, f, ⟨x, xs, e, h, l⟩ => ⟨x, xs, e, Is.monoT s (by rw [fixDs, Bool.and_eq_true] at f; exact f.1) h, IsL.monoT s (by rw [fixDs, Bool.and_eq_true] at f; exact f.2) l⟩
end
theorem IsL.length {H : Hp} : ∀ {ds : List PyData} {vs : List V}, IsL H ds vs → vs.length = ds.length
  | [], _, h => by rw [show _ = [] from h]; rfl
  | _ :: _, _, ⟨x, xs, e, _, l⟩ => by rw [e, List.length_cons, List.length_cons, IsL.length l]
section
variable {X : Cx} {pins : List (Addr × Obj)} {σ : St} {H : Hp} {s : Shared}
mutual
theorem Inv.reads (I : Inv X pins σ H s) : ∀ {d : PyData} {v : V} {u : Value}, Is H d v → RelV v u → ∃ as, Reads s.heap u d as
  | .none, _, _, h, r => by subst h; cases r; exact ⟨_, .none⟩
  | .bool _, _, _, h, r => by subst h; cases r; exact ⟨_, .bool _⟩
  | .int _, _, _, h, r => by subst h; obtain ⟨t, rfl⟩ := r; exact ⟨_, .int _ _⟩
  | .str _, _, _, h, r => by subst h; obtain ⟨t, rfl⟩ := r; exact ⟨_, .str _ _⟩
  | .tuple ds, _, _, ⟨a, vs, e, h, l⟩, r => by
    subst e; cases r
    obtain ⟨_, its, rr, o, e, c, n, q⟩ := I.hok a _ h
    obtain ⟨as, z⟩ := Inv.readsL I l rr
    exact ⟨_, .tuple e c q z⟩
  | .list ds, _, _, ⟨a, vs, e, h, l⟩, r => by
    subst e; cases r
    obtain ⟨_, its, n, rr, e⟩ := I.hok a _ h
    obtain ⟨as, z⟩ := Inv.readsL I l rr
    exact ⟨_, .list e rfl rfl z⟩
  | .dict _, _, _, h, _ => h.elim
theorem Inv.readsL (I : Inv X pins σ H s) : ∀ {ds : List PyData} {vs : List V} {us : List Value}, IsL H ds vs → Vals vs us → ∃ as, ReadsAll s.heap us ds as
  | [], _, _, h, r => by subst h; cases r; exact ⟨_, .nil⟩
  | d :: ds, _, _, ⟨x, xs, e, h, l⟩, r => by
    subst e
    cases r with
    | cons r1 r2 =>
      obtain ⟨as, z⟩ := Inv.reads I h r1
      obtain ⟨bs, y⟩ := Inv.readsL I l r2
      exact ⟨_, .cons z y⟩
end
end
def okD (d : PyData) : Bool := SeqAt.shaped d
section
variable {X : Cx}
theorem IsL.get {H : Hp} : ∀ {ds : List PyData} {vs : List V} {i : Nat} {d : PyData}, IsL H ds vs → ds[i]? = some d → ∃ v, vs[i]? = some v ∧ Is H d v
  | [], _, _, _, _, e => by simp at e
  | d :: ds, _, 0, _, ⟨x, xs, e, h, l⟩, q => by
    subst e
    simp at q
    subst q
    exact ⟨x, rfl, h⟩
  | d :: ds, _, i + 1, _, ⟨x, xs, e, h, l⟩, q => by
    subst e
    obtain ⟨v, a, b⟩ := IsL.get (i := i) l (by simpa using q)
    exact ⟨v, by simpa using a, b⟩
end
structure Cal (P : Program) (w : World) (K : PySem.W.Frag) (mg : Str → Option Value) (base : Heap) (k : Nat) (x : Str) (ps : List Str) (sp : Sp) : Prop where
  ex : ∃ f fd, FnOk P w K mg base CX0 k f fd ps sp ∧ Binds K fd ps [] ∧ PySem.W.keepIn K (.ref f) = true ∧ mg x = some (.ref f)
theorem Cal.mono {P : Program} {w : World} {K : PySem.W.Frag} {mg : Str → Option Value} {base : Heap} {j k : Nat} {x : Str} {ps : List Str} {sp : Sp} (C : Cal P w K mg base j x ps sp) (h : j ≤ k) : Cal P w K mg base k x ps sp := by
  obtain ⟨f, fd, F, b, kp, m⟩ := C.ex
  exact ⟨f, fd, F.mono h, b, kp, m⟩
theorem Cal.of {P : Program} {w : World} {K : PySem.W.Frag} {mg : Str → Option Value} {base : Heap} {k : Nat} {x : Str} {ps : List Str} {sp : Sp} {f : Addr} {fd : FuncData} {st : Stmt} (F : Fun K x x st f fd) (ok : FnOk P w K mg base CX0 k f fd ps sp) (b : Binds K fd ps []) (m : mg x = some (.ref f)) : Cal P w K mg base k x ps sp := ⟨f, fd, ok, b, F.kp, m⟩
section
variable {X : Cx} {k : Nat} {ps : List Str} {sp : Sp} {x : Str} {p pos : Pos} {e : Expr} {es : List Expr} {t : TA}
theorem pe_callC (C : Cal X.prog X.w X.K X.mg X.base k x ps sp) (hr : Room k X.A) (hg : Gl X x) (ha : PA X (e :: es) t) (hdb : (x == ("__debug__" : Str)) = false := by decide)
    (he : starEach (e :: es) X.env = (false, eval e X.env) :: starEach es X.env := by rfl) (hpl : (backTo pos (starEach es X.env)).any (·.1) = false := by rfl) :
    PE X (.Call (.Name x p) (e :: es) [] pos) (tCall sp [] E0 t) := by
  obtain ⟨f, fd, F, b, kp, m⟩ := C.ex
  exact pe_call F hr hg m kp b .nil pass0 ha hdb he hpl
end
theorem pe_ty {X : Cx} {x : Str} {T : String} {pos : Pos} (hg : Gl X x) (hm : X.mg x = none) (hv : bootBuiltins x = some (.type T)) (hn : x ≠ "__name__") (hd : (x == ("__debug__" : Str)) = false) : PE X (.Name x pos) (tC (.ty T)) := pe_bltn hg hm hv rfl hn hd
theorem same_new {H : Hp} {p : Addr} (h : H p = none) (o : HO) : Same H (upd H p o) := fun b u q => by rw [upd_ne (ne_of_none q h)]; exact q
def But (r : Addr) (H H' : Hp) : Prop := ∀ b o, b ≠ r → H b = some o → H' b = some o
theorem Same.but {H H' : Hp} (h : Same H H') (r : Addr) : But r H H' := fun b o _ e => h b o e
theorem But.trans {r : Addr} {H H1 H2 : Hp} (a : But r H H1) (b : But r H1 H2) : But r H H2 := fun c o n h => b c o n (a c o n h)
theorem But.upd {H : Hp} {r : Addr} {o : HO} : But r H (L2.upd H r o) := fun b u n e => by rw [upd_ne n]; exact e
theorem But.t {r : Addr} {H H' : Hp} (h : But r H H') {o : HO} (hr : H r = some o) (no : ∀ xs, o ≠ .tup xs) : TSame H H' := fun b xs e => h b _ (fun z => by subst z; rw [hr] at e; exact no xs (Option.some.inj e)) e
def Rest (H : Hp) (r : Addr) : Prop := ∃ v : Int, H r = some (.lst [.int v])
theorem Rest.t {r : Addr} {H H' : Hp} (R : Rest H r) (h : But r H H') : TSame H H' := by
  obtain ⟨v, e⟩ := R
  exact h.t e fun xs z => by cases z
theorem Rest.mono {r : Addr} {H H' : Hp} (R : Rest H r) (h : Same H H') : Rest H' r := by
  obtain ⟨v, e⟩ := R
  exact ⟨v, h _ _ e⟩
theorem kit_same {K : PySem.W.Frag} (T : String) : PySem.W.kitOne K (.type T) (.type T) = some true := by
  unfold PySem.W.kitOne
  rw [if_pos (beq_self_eq_true _)]
theorem kit_ty {K : PySem.W.Frag} {t T : String} {b : Bool} (h1 : (Value.type t == Value.type T) = false) (h2 : PySem.W.kitMeta T = true) (h3 : (PySem.fastBuiltinMro t).map (·.contains (Value.type T)) = some b) : PySem.W.kitOne K (.type t) (.type T) = some b := by
  unfold PySem.W.kitOne PySem.W.kitCls
  rw [h1, if_neg Bool.false_ne_true]
  simp only [h2, if_true]
  exact h3
end L2
end
section
set_option Elab.async false
set_option linter.all false
set_option maxRecDepth 100000
namespace L2
open PySem PySem.Spec PyProof.Rows
structure LcOk (X : Cx) (N' : List Str) (own : Nat) (fr : List Nat) (scope : Scope) : Prop where
  kind : scope.kind = .function
  len : N'.length = own + fr.length
  cell : ∀ y ∈ scope.names, y.2 ≠ .cell
  names : ∀ y ∈ scope.names, y.2 = .local → scope.names.lookup y.1 = some .local
  free : ∀ x, (x, NameKind.free) ∈ scope.names → X.env.scope.names.lookup x = some .cell ∨ X.env.scope.names.lookup x = some .free
  slot : ∀ k j, fr[k]? = some j → ∃ x, N'[own + k]? = some x ∧ X.N[j]? = some x ∧ scope.names.lookup x = some .free
section
variable {X : Cx} {N' : List Str} {own : Nat} {fr : List Nat} {scope : Scope}
end
end L2
end
section
set_option Elab.async false
set_option linter.all false
set_option maxRecDepth 100000
namespace L2
open PySem PySem.Spec PyProof.Rows
structure Own (X : Cx) (pins : List (Addr × Obj)) (C : Addr) (H : Hp) (s : Shared) : Prop where
  ns : ∃ m, s.heap.Ns C m
  hn : H C = none
  ne : C ≠ X.env.locals
  ab : X.s₀.heap.objs.size ≤ C
  nc : ∀ x c, X.env.cells.lookup x = some c → c ≠ C
  np : ∀ p ∈ X.pn ++ pins, p.1 ≠ C
section
variable {X : Cx} {N' : List Str} {own : Nat} {fr : List Nat} {scope : Scope} {elt tg iter : Expr} {ifs : List Expr} {pos : Pos}
theorem Own.go {pins : List (Addr × Obj)} {σ : St} {H : Hp} {s : Shared} {C : Addr} {h' : Heap} (O : Own X pins C H s) (I : Inv X pins σ H s) (sb : Heap.SameBut C s.heap h') : Inv X pins σ H { s with heap := h' } :=
  I.turned (t' := s.toks) (fun b o hb e => sb.extBut b o hb e) O.hn O.ne (.inr O.ab) O.nc O.np
end
end L2
end
section
set_option Elab.async false
set_option linter.all false
set_option maxRecDepth 100000
namespace DL
open PySem L2 PyProof.Rows
def hT (ks : List Int) : Int := reduceHash (Builtin.Tuple.tupleHashOf (ks.map hashInt))
def phiD (a : Addr) (ts : List (List Int × Addr × V)) : Heap → Prop := fun h => (a == sysModules) = false ∧ ts.length ≤ sizeLine ∧ (ts.map (·.1)).Nodup ∧
  ∃ xs : List (List Int × Addr × Value), Paired (fun (t : List Int × Addr × V) (x : List Int × Addr × Value) => t.1 = x.1 ∧ t.2.1 = x.2.1 ∧ RelV t.2.2 x.2.2) ts xs ∧
    ∃ (o : Obj) (es : Array DictEntry) (ep : Nat), h.get? a = some o ∧ o.ExactDict ∧ o.data = .dict es ep ∧ es.toList = xs.map fun x => ⟨hT x.1, .ref x.2.1, x.2.2⟩
mutual
def Is (K : PySem.W.Frag) (H : Hp) : PyData → V → Prop
  | .none, v => v = .non
  | .bool b, v => v = .bl b
  | .int i, v => v = .int i
  | .str x, v => v = .str x
  | .tuple ds, v => ∃ a vs, v = .ref a ∧ SqT K H a vs ∧ IsL K H ds vs
  | .list ds, v => ∃ a vs, v = .ref a ∧ H a = some (.lst vs) ∧ IsL K H ds vs
  | .dict kvs, v => ∃ a ts, v = .ref a ∧ H a = some (.ext (phiD a ts)) ∧ IsKV K H kvs ts
def IsL (K : PySem.W.Frag) (H : Hp) : List PyData → List V → Prop
  | [], vs => vs = []
  | d :: ds, vs => ∃ x xs, vs = x :: xs ∧ Is K H d x ∧ IsL K H ds xs
def IsKV (K : PySem.W.Frag) (H : Hp) : List (PyData × PyData) → List (List Int × Addr × V) → Prop
  | [], ts => ts = []
  | (k, d) :: r, ts => ∃ t tr, ts = t :: tr ∧ k = .tuple (t.1.map PyData.int) ∧ SqT K H t.2.1 (t.1.map V.int) ∧ Is K H d t.2.2 ∧ IsKV K H r tr
end
theorem Same.tup {K : PySem.W.Frag} {H H' : Hp} {a : Addr} {xs : List V} (e : Same H H') (h : SqT K H a xs) : SqT K H' a xs := by
  rcases h with (h | ⟨o, h⟩) | h
  · exact .inl (.inl (e _ _ h))
  · exact .inl (.inr ⟨o, e _ _ h⟩)
  · exact .inr h
def TSm (H H' : Hp) : Prop := ∀ b o, H b = some o → (∀ xs, o ≠ .lst xs) → (∀ φ, o ≠ .ext φ) → H' b = some o
theorem TSm.tup {K : PySem.W.Frag} {H H' : Hp} {a : Addr} {xs : List V} (e : TSm H H') (h : SqT K H a xs) : SqT K H' a xs := by
  rcases h with (h | ⟨o, h⟩) | h
  · exact .inl (.inl (e _ _ h (fun _ z => by cases z) fun _ z => by cases z))
  · exact .inl (.inr ⟨o, e _ _ h (fun _ z => by cases z) fun _ z => by cases z⟩)
  · exact .inr h
section
variable {K : PySem.W.Frag}
mutual
theorem Is.mono {H H' : Hp} (s : Same H H') : ∀ {d : PyData} {v : V}, Is K H d v → Is K H' d v
  | .none, _, h => h
  | .bool _, _, h => h
  | .int _, _, h => h
  | .str _, _, h => h
  | .tuple _, _, ⟨a, vs, e, h, l⟩ => ⟨a, vs, e, Same.tup s h, IsL.mono s l⟩
  | .list _, _, ⟨a, vs, e, h, l⟩ => ⟨a, vs, e, s _ _ h, IsL.mono s l⟩
  | .dict _, _, ⟨a, ts, e, h, l⟩ => ⟨a, ts, e, s _ _ h, IsKV.mono s l⟩
theorem IsL.mono {H H' : Hp} (s : Same H H') : ∀ {ds : List PyData} {vs : List V}, IsL K H ds vs → IsL K H' ds vs
  | [], _, h => h
  | _ :: _, _, ⟨x, xs, e, h, l⟩ => ⟨x, xs, e, Is.mono s h, IsL.mono s l⟩
theorem IsKV.mono {H H' : Hp} (s : Same H H') : ∀ {kvs : List (PyData × PyData)} {ts : List (List Int × Addr × V)}, IsKV K H kvs ts → IsKV K H' kvs ts
  | [], _, h => h
  | (_, _) :: _, _, ⟨t, tr, e, ek, hk, h, l⟩ => ⟨t, tr, e, ek, Same.tup s hk, Is.mono s h, IsKV.mono s l⟩
end
mutual
theorem Is.monoT {H H' : Hp} (s : TSm H H') : ∀ {d : PyData} {v : V}, fixD d = true → Is K H d v → Is K H' d v
  | .none, _, _, h => h
  | .bool _, _, _, h => h
  | .int _, _, _, h => h
  | .str _, _, _, h => h
  | .tuple _, _, f, ⟨a, vs, e, h, l⟩ => ⟨a, vs, e, s.tup h, IsL.monoT s f l⟩
  | .list _, _, f, _ => absurd f Bool.false_ne_true
  | .dict _, _, f, _ => absurd f Bool.false_ne_true
theorem IsL.monoT {H H' : Hp} (s : TSm H H') : ∀ {ds : List PyData} {vs : List V}, fixDs ds = true → IsL K H ds vs → IsL K H' ds vs
  | [], _, _, h => h
  | d :: ds, _, f, ⟨x, xs, e, h, l⟩ => ⟨x, xs, e, Is.monoT s (by rw [fixDs, Bool.and_eq_true] at f; exact f.1) h, IsL.monoT s (by rw [fixDs, Bool.and_eq_true] at f; exact f.2) l⟩
end
theorem IsL.length {H : Hp} : ∀ {ds : List PyData} {vs : List V}, IsL K H ds vs → vs.length = ds.length
  | [], _, h => by rw [show _ = [] from h]; rfl
  | _ :: _, _, ⟨x, xs, e, _, l⟩ => by rw [e, List.length_cons, List.length_cons, IsL.length l]
theorem IsL.get {H : Hp} : ∀ {ds : List PyData} {vs : List V} {i : Nat} {d : PyData}, IsL K H ds vs → ds[i]? = some d → ∃ v, vs[i]? = some v ∧ Is K H d v
  | [], _, _, _, _, e => by simp at e
  | d :: ds, _, 0, _, ⟨x, xs, e, h, l⟩, q => by
    subst e
    simp at q
    subst q
    exact ⟨x, rfl, h⟩
  | d :: ds, _, i + 1, _, ⟨x, xs, e, h, l⟩, q => by
    subst e
    obtain ⟨v, a, b⟩ := IsL.get (i := i) l (by simpa using q)
    exact ⟨v, by simpa using a, b⟩
end
section
variable {X : Cx} {pins : List (Addr × Obj)} {σ : L2.St} {H : Hp} {s : Shared}
mutual
theorem reads (I : Inv X pins σ H s) : ∀ {d : PyData} {v : V} {u : Value}, Is X.K H d v → RelV v u → ∃ as, Reads s.heap u d as
  | .none, _, _, h, r => by subst h; cases r; exact ⟨_, .none⟩
  | .bool _, _, _, h, r => by subst h; cases r; exact ⟨_, .bool _⟩
  | .int _, _, _, h, r => by subst h; obtain ⟨t, rfl⟩ := r; exact ⟨_, .int _ _⟩
  | .str _, _, _, h, r => by subst h; obtain ⟨t, rfl⟩ := r; exact ⟨_, .str _ _⟩
  | .tuple ds, _, _, ⟨a, vs, e, h, l⟩, r => by
    subst e; cases r
    obtain ⟨its, rr, ⟨o, e, c, n, q⟩, _⟩ := I.tuple h
    obtain ⟨as, z⟩ := readsL I l rr
    exact ⟨_, .tuple e c q z⟩
  | .list ds, _, _, ⟨a, vs, e, h, l⟩, r => by
    subst e; cases r
    obtain ⟨_, its, n, rr, e⟩ := I.hok a _ h
    obtain ⟨as, z⟩ := readsL I l rr
    exact ⟨_, .list e rfl rfl z⟩
  | .dict kvs, _, _, ⟨a, ts, e, h, l⟩, r => by
    subst e; cases r
    obtain ⟨⟨_, _, _, xs, pr, o, es, ep, ho, he, hd, hes⟩, _, _⟩ := (show ObjOk X.prog X.w H s.heap a (.ext (phiD a ts)) from I.hok a _ h)
    obtain ⟨as, bs, z1, z2⟩ := readsK I l pr
    refine ⟨_, .dict ho he.1 hd (as := as) (bs := bs) ?_ ?_⟩
    · rw [hes, List.map_map]; exact z1
    · rw [hes, List.map_map]; exact z2
theorem readsL (I : Inv X pins σ H s) : ∀ {ds : List PyData} {vs : List V} {us : List Value}, IsL X.K H ds vs → Vals vs us → ∃ as, ReadsAll s.heap us ds as
  | [], _, _, h, r => by subst h; cases r; exact ⟨_, .nil⟩
  | d :: ds, _, _, ⟨x, xs, e, h, l⟩, r => by
    subst e
    cases r with
    | cons r1 r2 =>
      obtain ⟨as, z⟩ := reads I h r1
      obtain ⟨bs, y⟩ := readsL I l r2
      exact ⟨_, .cons z y⟩
theorem readsK (I : Inv X pins σ H s) : ∀ {kvs : List (PyData × PyData)} {ts : List (List Int × Addr × V)} {xs : List (List Int × Addr × Value)}, IsKV X.K H kvs ts → Paired (fun (t : List Int × Addr × V) (x : List Int × Addr × Value) => t.1 = x.1 ∧ t.2.1 = x.2.1 ∧ RelV t.2.2 x.2.2) ts xs →
    ∃ as bs, ReadsAll s.heap (xs.map fun x => Value.ref x.2.1) (kvs.map (·.1)) as ∧ ReadsAll s.heap (xs.map fun x => x.2.2) (kvs.map (·.2)) bs
  | [], _, _, h, r => by subst h; cases r; exact ⟨_, _, .nil, .nil⟩
  | (k, d) :: kvs, _, _, ⟨t, tr, e, ek, hk, h, l⟩, r => by
    subst e
    cases r with
    | cons r1 r2 =>
      obtain ⟨q1, q2, q3⟩ := r1
      obtain ⟨as, bs, z1, z2⟩ := readsK I l r2
      obtain ⟨cs, z3⟩ := reads I h q3
      obtain ⟨its, rr, ⟨o, e, c, n, q⟩, _⟩ := I.tuple hk
      subst ek
      have hz : ∃ ds, ReadsAll s.heap its.toArray.toList (t.1.map PyData.int) ds := by
        clear hk e q
        generalize t.1 = ks at rr
        induction ks generalizing its with
        | nil => cases rr; exact ⟨_, .nil⟩
        | cons k ks ih =>
          cases rr with
          | cons a b =>
            obtain ⟨ds, y⟩ := ih _ b
            obtain ⟨tk, rfl⟩ := a
            exact ⟨_, .cons (.int _ _) y⟩
      obtain ⟨ds, y⟩ := hz
      rw [q2] at e
      exact ⟨_, _, .cons (.tuple e c q y) z1, .cons z3 z2⟩
end
def rEqK (K : PySem.W.Frag) : R2 := fun x y H Q => ∃ d e, Is K H d x ∧ Is K H e y ∧ okD d = true ∧ okD e = true ∧ Q (.bl (PyData.eqv d e)) H
def rNeK (K : PySem.W.Frag) : R2 := fun x y H Q => ∃ d e, Is K H d x ∧ Is K H e y ∧ okD d = true ∧ okD e = true ∧ Q (.bl (!PyData.eqv d e)) H
theorem op_eqK (hu : X.A.units + 64 < cLine) : OpR X (compareOp .Eq) (rEqK X.K) := by
  intro pins s σ H x y v u Q I rx ry h
  obtain ⟨d, e, hd, he, od, oe, q⟩ := h
  obtain ⟨as, ra⟩ := reads I hd rx
  obtain ⟨bs, rb⟩ := reads I he ry
  exact eq_dataH ra rb od oe hu ⟨.bl _, H, I, rfl, q⟩
theorem op_neK (hu : X.A.units + 64 < cLine) : OpR X (compareOp .NotEq) (rNeK X.K) := by
  intro pins s σ H x y v u Q I rx ry h
  obtain ⟨d, e, hd, he, od, oe, q⟩ := h
  obtain ⟨as, ra⟩ := reads I hd rx
  obtain ⟨bs, rb⟩ := reads I he ry
  exact ne_dataH ra rb od oe hu ⟨.bl _, H, I, rfl, q⟩
end
end DL
end
section
set_option Elab.async false
set_option linter.all false
set_option maxRecDepth 100000
namespace DL
open PySem L2
inductive L where
  | d (x : PyData)
  | m (xs : List PyData)
  | c (xs : List PyData)
  | k (kvs : List (List Int × PyData))
abbrev DS := List (Option L)
inductive Ow where
  | l (xs : List PyData)
  | t (kvs : List (List Int × PyData))
def Ow.L : Ow → L
  | .l xs => .m xs
  | .t kvs => .k kvs
def dctP (kvs : List (List Int × PyData)) : List (PyData × PyData) := kvs.map fun p => (.tuple (p.1.map PyData.int), p.2)
def Ow.D : Ow → PyData
  | .l xs => .list xs
  | .t kvs => .dict (dctP kvs)
def Ow.fl : Ow → Bool
  | .l _ => true
  | .t _ => false
theorem Ow.not_d {o : Ow} {x : PyData} : o.L ≠ .d x := by cases o <;> exact fun z => nomatch z
theorem Ow.not_c {o : Ow} {x : List PyData} : o.L ≠ .c x := by cases o <;> exact fun z => nomatch z
theorem Ow.inj {o p : Ow} (h : o.L = p.L) : o = p := by
  cases o <;> cases p <;> cases h <;> rfl
def IsO (K : PySem.W.Frag) (H : Hp) : Ow → Addr → HO → Prop
  | .l xs, _, h => ∃ vs, h = .lst vs ∧ IsL K H xs vs
  | .t kvs, a, h => ∃ ts, h = .ext (phiD a ts) ∧ IsKV K H (dctP kvs) ts
theorem IsO.mono {K : PySem.W.Frag} {H H' : Hp} (s : Same H H') : ∀ {o : Ow} {a : Addr} {h : HO}, IsO K H o a h → IsO K H' o a h
  | .l _, _, _, ⟨vs, e, l⟩ => ⟨vs, e, l.mono s⟩
  | .t _, _, _, ⟨ts, e, l⟩ => ⟨ts, e, l.mono s⟩
theorem IsO.is {K : PySem.W.Frag} {H : Hp} : ∀ {o : Ow} {a : Addr} {h : HO}, IsO K H o a h → H a = some h → Is K H o.D (.ref a)
  | .l _, a, _, ⟨vs, e, l⟩, z => ⟨a, vs, rfl, e ▸ z, l⟩
  | .t _, a, _, ⟨ts, e, l⟩, z => ⟨a, ts, rfl, e ▸ z, l⟩
open Classical in
noncomputable def hid (S : Addr → Prop) (H : Hp) : Hp := fun a => if S a then none else H a
theorem hid_iff {S : Addr → Prop} {H : Hp} {b : Addr} {o : HO} : hid S H b = some o ↔ ¬ S b ∧ H b = some o := by
  unfold hid
  by_cases h : S b
  · rw [if_pos h]; exact ⟨fun z => (nomatch z), fun z => absurd h z.1⟩
  · rw [if_neg h]; exact ⟨fun z => ⟨h, z⟩, fun z => z.2⟩
def Keep (S : Addr → Prop) (H : Hp) (S' : Addr → Prop) (H' : Hp) : Prop := ∀ b o, ¬ S b → H b = some o → ¬ S' b ∧ H' b = some o
def Chg (M : Addr → Prop) (H H' : Hp) : Prop := ∀ b o, ¬ M b → H b = some o → H' b = some o
theorem Keep.same {S S' : Addr → Prop} {H H' : Hp} (k : Keep S H S' H') : Same (hid S H) (hid S' H') := fun b o e => hid_iff.mpr (k b o (hid_iff.mp e).1 (hid_iff.mp e).2)
theorem Keep.refl {S : Addr → Prop} {H : Hp} : Keep S H S H := fun _ _ h e => ⟨h, e⟩
theorem Keep.trans {S S1 S2 : Addr → Prop} {H H1 H2 : Hp} (a : Keep S H S1 H1) (b : Keep S1 H1 S2 H2) : Keep S H S2 H2 := fun c o h e => b c o (a c o h e).1 (a c o h e).2
theorem Chg.refl {M : Addr → Prop} {H : Hp} : Chg M H H := fun _ _ _ e => e
theorem Chg.trans {M : Addr → Prop} {H H1 H2 : Hp} (a : Chg M H H1) (b : Chg M H1 H2) : Chg M H H2 := fun c o h e => b c o h (a c o h e)
theorem Chg.of {M : Addr → Prop} {H H' : Hp} (s : Same H H') : Chg M H H' := fun b o _ e => s b o e
theorem Chg.keep {S M : Addr → Prop} {H H' : Hp} (c : Chg M H H') (sub : ∀ a, M a → S a) : Keep S H S H' := fun b o h e => ⟨h, c b o (fun z => h (sub b z)) e⟩
theorem Same.keep {S : Addr → Prop} {H H' : Hp} (s : Same H H') : Keep S H S H' := fun b o h e => ⟨h, s b o e⟩
theorem same_hid {S : Addr → Prop} {H : Hp} : Same (hid S H) H := fun b o e => (hid_iff.mp e).2
theorem hid_less {S S' : Addr → Prop} {H : Hp} (h : ∀ a, S' a → S a) : Same (hid S H) (hid S' H) := Keep.same fun b o n e => ⟨fun z => n (h b z), e⟩
structure R (K : PySem.W.Frag) (S M : Addr → Prop) (τ : DS) (σ : St) (H : Hp) : Prop where
  len : σ.length = τ.length
  dat : ∀ (i : Nat) (x : PyData), τ[i]? = some (some (.d x)) → ∃ v, σ[i]? = some (some v) ∧ Is K (hid S H) x v
  mt : ∀ (i : Nat) (o : Ow), τ[i]? = some (some o.L) → ∃ (a : Addr) (h : HO), σ[i]? = some (some (.ref a)) ∧ M a ∧ H a = some h ∧ IsO K (hid S H) o a h
  cst : ∀ (i : Nat) (xs : List PyData), τ[i]? = some (some (.c xs)) → ∃ (a : Addr) (vs : List V), σ[i]? = some (some (.ref a)) ∧ SqL K (hid S H) a vs ∧ IsL K (hid S H) xs vs
  inj : ∀ (i j : Nat) (o p : Ow) (a : Addr), τ[i]? = some (some o.L) → τ[j]? = some (some p.L) → σ[i]? = some (some (.ref a)) → σ[j]? = some (some (.ref a)) → i = j
  sub : ∀ a, M a → S a
  ex : ∀ a, S a → ∃ o, H a = some o
def Res (K : PySem.W.Frag) (fr : Bool) (S : Addr → Prop) (H H' : Hp) (d : PyData) (v : V) : Prop := match fr with
  | false => Is K (hid S H') d v
  | true => ∃ (o : Ow) (a : Addr) (h : HO), d = o.D ∧ v = .ref a ∧ H a = none ∧ H' a = some h ∧ IsO K (hid (fun b => S b ∨ b = a) H') o a h
section
variable {K : PySem.W.Frag} {S M : Addr → Prop} {τ : DS} {σ : St} {H H' : Hp}
theorem R.fresh (r : R K S M τ σ H) {a : Addr} (h : H a = none) : ¬ S a := fun z => by
  obtain ⟨o, e⟩ := r.ex a z
  rw [h] at e; cases e
theorem R.ml (r : R K S M τ σ H) (i : Nat) (xs : List PyData) (e : τ[i]? = some (some (.m xs))) : ∃ (a : Addr) (vs : List V), σ[i]? = some (some (.ref a)) ∧ M a ∧ H a = some (.lst vs) ∧ IsL K (hid S H) xs vs := by
  obtain ⟨a, h, h1, h2, h3, vs, rfl, l⟩ := r.mt i (.l xs) e
  exact ⟨a, vs, h1, h2, h3, l⟩
theorem R.same (r : R K S M τ σ H) (s : Same H H') : R K S M τ σ H' where
  len := r.len
  dat := fun i x e => let ⟨v, a, b⟩ := r.dat i x e; ⟨v, a, b.mono (Same.keep s).same⟩
  mt := fun i o e => let ⟨a, h, h1, h2, h3, h4⟩ := r.mt i o e; ⟨a, h, h1, h2, s _ _ h3, h4.mono (Same.keep s).same⟩
  cst := fun i xs e => let ⟨a, vs, h1, h2, h3⟩ := r.cst i xs e; ⟨a, vs, h1, (Same.keep s).same.seq h2, h3.mono (Same.keep s).same⟩
  inj := r.inj
  sub := r.sub
  ex := fun a h => let ⟨o, e⟩ := r.ex a h; ⟨o, s _ _ e⟩
theorem Res.is {fr : Bool} {d : PyData} {v : V} (h : Res K fr S H H' d v) (f : ∀ a, H a = none → ¬ S a) : Is K (hid S H') d v := by
  cases fr with
  | false => exact h
  | true =>
    obtain ⟨o, a, ho, rfl, rfl, h1, h2, h3⟩ := h
    exact IsO.is (h3.mono (hid_less fun b z => .inl z)) (hid_iff.mpr ⟨f a h1, h2⟩)
theorem Res.imp {fr : Bool} {d : PyData} {v : V} (h : Res K fr S H H' d v) (f : ∀ a, H a = none → ¬ S a) (fr' : Bool) (hf : fr' = true → fr = true) : Res K fr' S H H' d v := by
  cases fr' with
  | false => exact h.is f
  | true => rw [hf rfl] at h; exact h
end
abbrev DX := DS → Option (PyData × DS)
abbrev DT := DS → Option (Bool × DS)
inductive Ar where
  | d (x : PyData)
  | s (i : Nat)
abbrev DA := DS → Option (List Ar × DS)
inductive Out where
  | nx (τ : DS)
  | bk (τ : DS)
  | ct (τ : DS)
  | rt (d : PyData) (τ : DS)
abbrev DB := DS → Option Out
def Like (τ τ' : DS) : Prop := τ'.length = τ.length ∧ ∀ j : Nat, ((∀ x, τ'[j]? = some (some (.d x)) ↔ τ[j]? = some (some (.d x))) ∧ ∀ x, τ'[j]? = some (some (.c x)) ↔ τ[j]? = some (some (.c x))) ∧ ∀ b : Bool, (∃ o : Ow, o.fl = b ∧ τ'[j]? = some (some o.L)) ↔ ∃ o : Ow, o.fl = b ∧ τ[j]? = some (some o.L)
theorem Like.refl {τ : DS} : Like τ τ := ⟨rfl, fun j => ⟨⟨fun x => Iff.rfl, fun x => Iff.rfl⟩, fun b => Iff.rfl⟩⟩
theorem Like.trans {τ τ1 τ2 : DS} (a : Like τ τ1) (b : Like τ1 τ2) : Like τ τ2 := ⟨b.1.trans a.1, fun j => ⟨⟨fun x => ((b.2 j).1.1 x).trans ((a.2 j).1.1 x), fun x => ((b.2 j).1.2 x).trans ((a.2 j).1.2 x)⟩, fun c => ((b.2 j).2 c).trans ((a.2 j).2 c)⟩⟩
theorem Like.own {τ τ' : DS} (a : Like τ τ') (j : Nat) : (∃ o : Ow, τ'[j]? = some (some o.L)) ↔ ∃ o : Ow, τ[j]? = some (some o.L) :=
  ⟨fun ⟨o, h⟩ => let ⟨p, _, q⟩ := ((a.2 j).2 o.fl).mp ⟨o, rfl, h⟩; ⟨p, q⟩, fun ⟨o, h⟩ => let ⟨p, _, q⟩ := ((a.2 j).2 o.fl).mpr ⟨o, rfl, h⟩; ⟨p, q⟩⟩
theorem Like.ml {τ τ' : DS} (a : Like τ τ') {j : Nat} {xs : List PyData} (h : τ'[j]? = some (some (.m xs))) : ∃ ys, τ[j]? = some (some (.m ys)) := by
  obtain ⟨o, e, h⟩ := ((a.2 j).2 true).mp ⟨.l xs, rfl, h⟩
  cases o with
  | l ys => exact ⟨ys, h⟩
  | t ys => cases e
structure E K (t : TE) (fr : Bool) (f : DX) : Prop where
  like : ∀ τ d τ', f τ = some (d, τ') → Like τ τ'
  run : ∀ S M τ σ H (Q : VK) d τ', R K S M τ σ H → f τ = some (d, τ') → (∀ v H', R K S M τ' σ H' → Chg M H H' → Res K fr S H H' d v → Q v H') → t σ H Q
structure T K (t : TT) (f : DT) : Prop where
  like : ∀ τ b τ', f τ = some (b, τ') → Like τ τ'
  run : ∀ S M τ σ H (Q : Bool → Hp → Prop) b τ', R K S M τ σ H → f τ = some (b, τ') → (∀ H', R K S M τ' σ H' → Chg M H H' → Q b H') → t σ H Q
def ArIs (K : PySem.W.Frag) (S : Addr → Prop) (σ : St) (H : Hp) : List Ar → List V → Prop
  | [], vs => vs = []
  | .d x :: rs, vs => ∃ v us, vs = v :: us ∧ Is K (hid S H) x v ∧ ArIs K S σ H rs us
  | .s i :: rs, vs => ∃ v us, vs = v :: us ∧ σ[i]? = some (some v) ∧ ArIs K S σ H rs us
theorem ArIs.mono {K : PySem.W.Frag} {S S' : Addr → Prop} {σ : St} {H H' : Hp} (k : Same (hid S H) (hid S' H')) : ∀ {rs : List Ar} {vs : List V}, ArIs K S σ H rs vs → ArIs K S' σ H' rs vs
  | [], _, h => h
  | .d x :: rs, _, ⟨v, us, e, h, l⟩ => ⟨v, us, e, h.mono k, ArIs.mono k l⟩
  | .s i :: rs, _, ⟨v, us, e, h, l⟩ => ⟨v, us, e, h, ArIs.mono k l⟩
structure A K (t : TA) (f : DA) : Prop where
  like : ∀ τ rs τ', f τ = some (rs, τ') → Like τ τ'
  run : ∀ S M τ σ H (Q : List V → Hp → Prop) rs τ', R K S M τ σ H → f τ = some (rs, τ') → (∀ vs H', R K S M τ' σ H' → Chg M H H' → ArIs K S σ H' rs vs → Q vs H') → t σ H Q
structure Frm where
  S : Addr → Prop
  M : Addr → Prop
  H : Hp
  ar : List (Option V)
structure RF (K : PySem.W.Frag) (F : Frm) (S M : Addr → Prop) (τ : DS) (σ : St) (H : Hp) : Prop where
  r : R K S M τ σ H
  sS : ∀ a, F.S a → S a
  old : ∀ b o, F.H b = some o → ¬ F.M b → H b = some o
  new : ∀ a, M a → F.M a ∨ F.H a = none
  fm : ∀ a, F.M a → M a
  fs : ∀ a, F.S a → ∃ o, F.H a = some o
  fsub : ∀ a, F.M a → F.S a
  snew : ∀ a, S a → F.S a ∨ F.H a = none
  par : ∀ (i : Nat) (v : V), F.ar[i]? = some (some v) → σ[i]? = some (some v)
  pm : ∀ (i : Nat) (v : V), F.ar[i]? = some (some v) → ∃ o : Ow, τ[i]? = some (some o.L)
  fma : ∀ a, F.M a → ∃ i : Nat, F.ar[i]? = some (some (.ref a))
def Gl (K : PySem.W.Frag) (F : Frm) (fr : Bool) (S : Addr → Prop) (H : Hp) (D : Ends) : Out → Prop
  | .nx τ' => ∀ S' M' σ' H', RF K F S' M' τ' σ' H' → Keep S H S' H' → D.nx σ' H'
  | .bk τ' => ∀ S' M' σ' H', RF K F S' M' τ' σ' H' → Keep S H S' H' → D.bk σ' H'
  | .ct τ' => ∀ S' M' σ' H', RF K F S' M' τ' σ' H' → Keep S H S' H' → D.ct σ' H'
  | .rt d τ' => ∀ S' M' σ' H' v, RF K F S' M' τ' σ' H' → Res K fr F.S F.H H' d v → D.rt v H'
def B (K : PySem.W.Frag) (np : Nat) (t : TS) (fr : Bool) (f : DB) : Prop := ∀ (F : Frm) S M τ σ H (D : Ends) out, F.ar.length ≤ np → RF K F S M τ σ H → f τ = some out → Gl K F fr S H D out → t D σ H
end DL
end
section
set_option Elab.async false
set_option linter.all false
set_option maxRecDepth 100000
namespace DL
open PySem L2
variable {K : PySem.W.Frag}
section
variable {S M : Addr → Prop} {τ τ' : DS} {σ : St} {H H' H2 : Hp}
theorem R.none (r : R K S M τ σ H') (c : Chg M H H') {a : Addr} (h : H' a = Option.none) : H a = Option.none := by
  cases e : H a with
  | none => rfl
  | some o =>
    exfalso
    by_cases hm : M a
    · obtain ⟨o', e'⟩ := r.ex a (r.sub a hm)
      rw [h] at e'; cases e'
    · have := c a o hm e
      rw [h] at this; cases this
theorem Res.back {fr : Bool} {d : PyData} {v : V} (h : Res K fr S H' H2 d v) (r : R K S M τ σ H') (c : Chg M H H') : Res K fr S H H2 d v := by
  cases fr with
  | false => exact h
  | true =>
    obtain ⟨xs, a, vs, e1, e2, h1, h2, h3⟩ := h
    exact ⟨xs, a, vs, e1, e2, r.none c h1, h2, h3⟩
theorem R.isr (r : R K S M τ σ H) {fr : Bool} {d : PyData} {v : V} (h : Res K fr S H H' d v) : Is K (hid S H') d v := h.is fun _ z => r.fresh z
end
theorem E.weak {t : TE} {fr : Bool} {f : DX} (h : E K t fr f) : E K t false f := ⟨h.like, fun S M τ σ H Q d τ' r e q => h.run S M τ σ H Q d τ' r e fun v H' r' c res => q v H' r' c (r.isr res)⟩
def dVar (i : Nat) (τ : DS) : Option (PyData × DS) := match τ[i]? with
  | some (some (.d x)) => some (x, τ)
  | _ => none
theorem e_var {i : Nat} : E K (tVar i) false (dVar i) := by
  refine ⟨fun τ d τ' e => ?_, ?_⟩
  · unfold dVar at e; split at e
    · cases e; exact .refl
    · cases e
  intro S M τ σ H Q d τ' r e q
  unfold dVar at e
  split at e
  · rename_i x hx
    cases e
    obtain ⟨v, h1, h2⟩ := r.dat i _ hx
    exact ⟨v, h1, q v H r .refl h2⟩
  · cases e
def dC (d : PyData) (τ : DS) : Option (PyData × DS) := some (d, τ)
theorem e_c {d : PyData} {v : V} (h : ∀ H, Is K H d v) : E K (tC v) false (dC d) := by
  refine ⟨fun τ d τ' e => ?_, ?_⟩
  · cases e; exact .refl
  intro S M τ σ H Q d' τ' r e q
  cases e
  exact q v H r .refl (h _)
theorem e_int {i : Int} : E K (tC (.int i)) false (dC (.int i)) := e_c fun _ => rfl
theorem e_bl {b : Bool} : E K (tC (.bl b)) false (dC (.bool b)) := e_c fun _ => rfl
def OR (K : PySem.W.Frag) (fr : Bool) (r : R2) (F : PyData → PyData → Option PyData) : Prop := ∀ (S : Addr → Prop) H x y dx dy d (Q : VK), (∀ a, H a = none → ¬ S a) → Is K (hid S H) dx x → Is K (hid S H) dy y → F dx dy = some d → (∀ v H', Same H H' → Res K fr S H H' d v → Q v H') → r x y H Q
def dOp (F : PyData → PyData → Option PyData) (a b : DX) (τ : DS) : Option (PyData × DS) := (a τ).bind fun p => (b p.2).bind fun q => (F p.1 q.1).map fun d => (d, q.2)
theorem e_op {fr fa fb : Bool} {r : R2} {F : PyData → PyData → Option PyData} {ta tb : TE} {a b : DX} (h : OR K fr r F) (ha : E K ta fa a) (hb : E K tb fb b) : E K (tOp r ta tb) fr (dOp F a b) := by
  refine ⟨fun τ d τ' e => ?_, ?_⟩
  · unfold dOp at e; obtain ⟨⟨x, τ1⟩, e1, e⟩ := Option.bind_eq_some_iff.mp e; obtain ⟨⟨y, τ2⟩, e2, e⟩ := Option.bind_eq_some_iff.mp e; obtain ⟨z, e3, e⟩ := Option.map_eq_some_iff.mp e; cases e; exact (ha.like _ _ _ e1).trans (hb.like _ _ _ e2)
  intro S M τ σ H Q d τ' rr e q
  unfold dOp at e
  obtain ⟨⟨x, τ1⟩, e1, e⟩ := Option.bind_eq_some_iff.mp e
  obtain ⟨⟨y, τ2⟩, e2, e⟩ := Option.bind_eq_some_iff.mp e
  obtain ⟨z, e3, e⟩ := Option.map_eq_some_iff.mp e
  cases e
  refine ha.run S M τ σ H _ x τ1 rr e1 fun v1 H1 r1 c1 i1 => ?_
  refine hb.run S M τ1 σ H1 _ y τ2 r1 e2 fun v2 H2 r2 c2 i2 => ?_
  refine h S H2 v1 v2 x y d _ (fun _ => r2.fresh) ((rr.isr i1).mono (c2.keep r1.sub).same) (r1.isr i2) e3 fun v H' s res => ?_
  exact q v H' (r2.same s) ((c1.trans c2).trans (.of s)) (res.back r2 (c1.trans c2))
def UR (K : PySem.W.Frag) (fr : Bool) (r : V → Hp → VK → Prop) (F : PyData → Option PyData) : Prop := ∀ (S : Addr → Prop) H x dx d (Q : VK), (∀ a, H a = none → ¬ S a) → Is K (hid S H) dx x → F dx = some d → (∀ v H', Same H H' → Res K fr S H H' d v → Q v H') → r x H Q
def dUn (F : PyData → Option PyData) (a : DX) (τ : DS) : Option (PyData × DS) := (a τ).bind fun p => (F p.1).map fun d => (d, p.2)
theorem e_un {fr fa : Bool} {r : V → Hp → VK → Prop} {F : PyData → Option PyData} {ta : TE} {a : DX} (h : UR K fr r F) (ha : E K ta fa a) : E K (tUn r ta) fr (dUn F a) := by
  refine ⟨fun τ d τ' e => ?_, ?_⟩
  · unfold dUn at e; obtain ⟨⟨x, τ1⟩, e1, e⟩ := Option.bind_eq_some_iff.mp e; obtain ⟨z, e3, e⟩ := Option.map_eq_some_iff.mp e; cases e; exact ha.like _ _ _ e1
  intro S M τ σ H Q d τ' rr e q
  unfold dUn at e
  obtain ⟨⟨x, τ1⟩, e1, e⟩ := Option.bind_eq_some_iff.mp e
  obtain ⟨z, e3, e⟩ := Option.map_eq_some_iff.mp e
  cases e
  refine ha.run S M τ σ H _ x _ rr e1 fun v1 H1 r1 c1 i1 => ?_
  refine h S H1 v1 x d _ (fun _ => r1.fresh) (rr.isr i1) e3 fun v H' s res => ?_
  exact q v H' (r1.same s) (c1.trans (.of s)) (res.back r1 c1)
def fI (g : Int → Int → PyData) : PyData → PyData → Option PyData
  | .int i, .int j => some (g i j)
  | _, _ => none
def fC (C : Int → Int → Prop) [∀ i j, Decidable (C i j)] (g : Int → Int → PyData) : PyData → PyData → Option PyData
  | .int i, .int j => if C i j then some (g i j) else none
  | _, _ => none
theorem fI_some {g : Int → Int → PyData} {x y d : PyData} (h : fI g x y = some d) : ∃ i j, x = .int i ∧ y = .int j ∧ d = g i j := by
  unfold fI at h
  split at h
  · exact ⟨_, _, rfl, rfl, (Option.some.inj h).symm⟩
  · cases h
theorem fC_some {C : Int → Int → Prop} [∀ i j, Decidable (C i j)] {g : Int → Int → PyData} {x y d : PyData} (h : fC C g x y = some d) : ∃ i j, x = .int i ∧ y = .int j ∧ C i j ∧ d = g i j := by
  unfold fC at h
  split at h
  · split at h
    · rename_i hc; exact ⟨_, _, rfl, rfl, hc, (Option.some.inj h).symm⟩
    · cases h
  · cases h
theorem or_I {g : Int → Int → V} {g' : Int → Int → PyData} (h : ∀ i j H, Is K H (g' i j) (g i j)) : OR K false (rI0 g) (fI g') := by
  intro S H x y dx dy d Q _ ix iy e q
  obtain ⟨i, j, rfl, rfl, rfl⟩ := fI_some e
  exact ⟨i, j, ix, iy, q _ H (fun _ _ e => e) (h _ _ _)⟩
theorem or_C {C : Int → Int → Prop} [∀ i j, Decidable (C i j)] {g : Int → Int → V} {g' : Int → Int → PyData} (h : ∀ i j H, Is K H (g' i j) (g i j)) : OR K false (rI C g) (fC C g') := by
  intro S H x y dx dy d Q _ ix iy e q
  obtain ⟨i, j, rfl, rfl, c, rfl⟩ := fC_some e
  exact ⟨i, j, ix, iy, c, q _ H (fun _ _ e => e) (h _ _ _)⟩
instance {i j : Int} : Decidable (CMulB i j) := by unfold CMulB CMul Bd; infer_instance
instance {i j : Int} : Decidable (CDivB i j) := by unfold CDivB Bd; infer_instance
instance {i j : Int} : Decidable (CPow i j) := by unfold CPow; infer_instance
def fAdd := fI fun i j => .int (i + j)
def fSub := fI fun i j => .int (i - j)
def fMul := fC CMulB fun i j => .int (i * j)
def fDiv := fC CDivB fun i j => .int (i / j)
def fMod := fC (fun _ j => 0 < j) fun i j => .int (i % j)
def fPow := fC CPow fun i j => .int (i ^ j.toNat)
def fLt := fI fun i j => .bool (decide (i < j))
def fLe := fI fun i j => .bool (decide (i ≤ j))
def fGt := fI fun i j => .bool (decide (j < i))
def fGe := fI fun i j => .bool (decide (j ≤ i))
theorem o_add : OR K false (rI0 fun i j => .int (i + j)) fAdd := or_I fun _ _ _ => rfl
theorem o_sub : OR K false (rI0 fun i j => .int (i - j)) fSub := or_I fun _ _ _ => rfl
theorem o_mul : OR K false (rI CMulB fun i j => .int (i * j)) fMul := or_C fun _ _ _ => rfl
theorem o_div : OR K false (rI CDivB fun i j => .int (i / j)) fDiv := or_C fun _ _ _ => rfl
theorem o_mod : OR K false (rI (fun _ j => 0 < j) fun i j => .int (i % j)) fMod := or_C fun _ _ _ => rfl
theorem o_pow : OR K false (rI CPow fun i j => .int (i ^ j.toNat)) fPow := or_C fun _ _ _ => rfl
theorem o_lt : OR K false (rI0 fun i j => .bl (decide (i < j))) fLt := or_I fun _ _ _ => rfl
theorem o_ge : OR K false (rI0 fun i j => .bl (decide (j ≤ i))) fGe := or_I fun _ _ _ => rfl
def fNeg : PyData → Option PyData
  | .int i => some (.int (-i))
  | _ => none
theorem u_neg : UR K false (rU fun i => .int (-i)) fNeg := by
  intro S H x dx d Q _ ix e q
  unfold fNeg at e
  split at e
  · cases e; exact ⟨_, ix, q _ H (fun _ _ e => e) rfl⟩
  · cases e
def fEq (x y : PyData) : Option PyData := if okD x && okD y then some (.bool (PyData.eqv x y)) else none
def fNe (x y : PyData) : Option PyData := if okD x && okD y then some (.bool (!PyData.eqv x y)) else none
theorem o_eq : OR K false (rEqK K) fEq := by
  intro S H x y dx dy d Q _ ix iy e q
  unfold fEq at e
  split at e
  · rename_i h
    rw [Bool.and_eq_true] at h
    cases e
    exact ⟨dx, dy, ix.mono same_hid, iy.mono same_hid, h.1, h.2, q _ H (fun _ _ e => e) rfl⟩
  · cases e
theorem o_ne : OR K false (rNeK K) fNe := by
  intro S H x y dx dy d Q _ ix iy e q
  unfold fNe at e
  split at e
  · rename_i h
    rw [Bool.and_eq_true] at h
    cases e
    exact ⟨dx, dy, ix.mono same_hid, iy.mono same_hid, h.1, h.2, q _ H (fun _ _ e => e) rfl⟩
  · cases e
def isNo : PyData → Bool
  | .none => true
  | _ => false
def fIsN (x y : PyData) : Option PyData := match y with
  | .none => some (.bool (isNo x))
  | _ => none
def fNotN (x y : PyData) : Option PyData := match y with
  | .none => some (.bool (!isNo x))
  | _ => none
def fIxL : PyData → PyData → Option PyData
  | .list xs, .int i => atI xs i
  | _, _ => none
def fIxT : PyData → PyData → Option PyData
  | .tuple xs, .int i => atI xs i
  | _, _ => none
theorem isl_at {H : Hp} {ds : List PyData} {vs : List V} {i : Int} {d : PyData} (h : IsL K H ds vs) (e : atI ds i = some d) : ∃ v, atI vs i = some v ∧ Is K H d v := by
  unfold atI at e ⊢
  rw [h.length]
  cases q : ixN ds.length i with
  | none => rw [q] at e; cases e
  | some j =>
    rw [q] at e
    exact h.get (show ds[j]? = some d from e)
theorem o_ixL : OR K false (rIxL K) fIxL := by
  intro S H x y dx dy d Q _ ix iy e q
  unfold fIxL at e
  split at e
  · obtain ⟨a, vs, rfl, h, l⟩ := ix
    obtain ⟨v, h1, h2⟩ := isl_at l e
    exact ⟨a, vs, _, v, rfl, iy, SqL.of (hid_iff.mp h).2, h1, q _ H (fun _ _ e => e) h2⟩
  · cases e
theorem o_ixT : OR K false (rIxT K) fIxT := by
  intro S H x y dx dy d Q _ ix iy e q
  unfold fIxT at e
  split at e
  · obtain ⟨a, vs, rfl, h, l⟩ := ix
    obtain ⟨v, h1, h2⟩ := isl_at l e
    exact ⟨a, vs, _, v, rfl, iy, Same.tup same_hid h, h1, q _ H (fun _ _ e => e) h2⟩
  · cases e
theorem res_new {S : Addr → Prop} {H : Hp} {xs : List PyData} {vs : List V} {p : Addr} (hp : H p = none) (l : IsL K (hid S H) xs vs) : Res K true S H (upd H p (.lst vs)) (.list xs) (.ref p) := by
  refine ⟨.l xs, p, _, rfl, rfl, hp, upd_same, vs, rfl, l.mono (Keep.same fun b o hn e => ?_)⟩
  have : b ≠ p := ne_of_none e hp
  exact ⟨fun z => z.elim hn this, by rw [upd_ne this]; exact e⟩
def dTest (a : DX) (τ : DS) : Option (Bool × DS) := (a τ).bind fun p => match p.1 with
  | .bool b => some (b, p.2)
  | _ => none
theorem t_test {fr : Bool} {t : TE} {a : DX} (h : E K t fr a) : T K (tTest t) (dTest a) := by
  refine ⟨fun τ d τ' e => ?_, ?_⟩
  · unfold dTest at e; obtain ⟨⟨x, τ1⟩, e1, e⟩ := Option.bind_eq_some_iff.mp e; dsimp only at e; split at e
    · cases e; exact h.like _ _ _ e1
    · cases e
  intro S M τ σ H Q b τ' r e q
  unfold dTest at e
  obtain ⟨⟨x, τ1⟩, e1, e⟩ := Option.bind_eq_some_iff.mp e
  dsimp only at e
  split at e
  · cases e
    refine h.run S M τ σ H _ _ _ r e1 fun v H' r' c i => ?_
    exact ⟨b, (show v = .bl b from r.isr i), q H' r' c⟩
  · cases e
theorem t_val {fr : Bool} {t : TE} {a : DX} (h : E K t fr a) : T K (tB t) (dTest a) := t_test h
def dTAnd (a b : DT) (τ : DS) : Option (Bool × DS) := (a τ).bind fun p => if p.1 = true then b p.2 else some (false, p.2)
def dTOr (a b : DT) (τ : DS) : Option (Bool × DS) := (a τ).bind fun p => if p.1 = true then some (true, p.2) else b p.2
def dTNot (a : DT) (τ : DS) : Option (Bool × DS) := (a τ).map fun p => (!p.1, p.2)
theorem t_and {ta tb : TT} {a b : DT} (ha : T K ta a) (hb : T K tb b) : T K (tAnd ta tb) (dTAnd a b) := by
  refine ⟨fun τ d τ' e => ?_, ?_⟩
  · unfold dTAnd at e; obtain ⟨⟨c, τ1⟩, e1, e⟩ := Option.bind_eq_some_iff.mp e; cases c with
    | true => exact (ha.like _ _ _ e1).trans (hb.like _ _ _ e)
    | false => cases e; exact ha.like _ _ _ e1
  intro S M τ σ H Q k τ' r e q
  unfold dTAnd at e
  obtain ⟨⟨c, τ1⟩, e1, e⟩ := Option.bind_eq_some_iff.mp e
  refine ha.run S M τ σ H _ c τ1 r e1 fun H1 r1 c1 => ?_
  cases c with
  | true => exact hb.run S M τ1 σ H1 _ k τ' r1 e fun H2 r2 c2 => q H2 r2 (c1.trans c2)
  | false => cases e; exact q H1 r1 c1
theorem t_or {ta tb : TT} {a b : DT} (ha : T K ta a) (hb : T K tb b) : T K (tOr ta tb) (dTOr a b) := by
  refine ⟨fun τ d τ' e => ?_, ?_⟩
  · unfold dTOr at e; obtain ⟨⟨c, τ1⟩, e1, e⟩ := Option.bind_eq_some_iff.mp e; cases c with
    | false => exact (ha.like _ _ _ e1).trans (hb.like _ _ _ e)
    | true => cases e; exact ha.like _ _ _ e1
  intro S M τ σ H Q k τ' r e q
  unfold dTOr at e
  obtain ⟨⟨c, τ1⟩, e1, e⟩ := Option.bind_eq_some_iff.mp e
  refine ha.run S M τ σ H _ c τ1 r e1 fun H1 r1 c1 => ?_
  cases c with
  | false => exact hb.run S M τ1 σ H1 _ k τ' r1 e fun H2 r2 c2 => q H2 r2 (c1.trans c2)
  | true => cases e; exact q H1 r1 c1
theorem t_not {ta : TT} {a : DT} (ha : T K ta a) : T K (tNot ta) (dTNot a) := by
  refine ⟨fun τ d τ' e => ?_, ?_⟩
  · unfold dTNot at e; obtain ⟨⟨c, τ1⟩, e1, e⟩ := Option.map_eq_some_iff.mp e; cases e; exact ha.like _ _ _ e1
  intro S M τ σ H Q k τ' r e q
  unfold dTNot at e
  obtain ⟨⟨c, τ1⟩, e1, e⟩ := Option.map_eq_some_iff.mp e
  cases e
  exact ha.run S M τ σ H _ c _ r e1 fun H1 r1 c1 => q H1 r1 c1
def dIf (c : DT) (a b : DX) (τ : DS) : Option (PyData × DS) := (c τ).bind fun p => if p.1 = true then a p.2 else b p.2
def dAnd (a b : DX) (τ : DS) : Option (PyData × DS) := (dTest a τ).bind fun p => if p.1 = true then b p.2 else some (.bool false, p.2)
def dOr (a b : DX) (τ : DS) : Option (PyData × DS) := (dTest a τ).bind fun p => if p.1 = true then some (.bool true, p.2) else b p.2
def dNot (a : DX) (τ : DS) : Option (PyData × DS) := (dTest a τ).map fun p => (.bool (!p.1), p.2)
theorem e_and {fa fb : Bool} {ta tb : TE} {a b : DX} (ha : E K ta fa a) (hb : E K tb fb b) : E K (tAndV ta tb) false (dAnd a b) := by
  refine ⟨fun τ d τ' e => ?_, ?_⟩
  · unfold dAnd at e; obtain ⟨⟨c, τ1⟩, e1, e⟩ := Option.bind_eq_some_iff.mp e; cases c with
    | true => exact ((t_test ha).like _ _ _ e1).trans (hb.like _ _ _ e)
    | false => cases e; exact (t_test ha).like _ _ _ e1
  intro S M τ σ H Q d τ' r e q
  unfold dAnd at e
  obtain ⟨⟨k, τ1⟩, e1, e⟩ := Option.bind_eq_some_iff.mp e
  refine (t_test ha).run S M τ σ H (fun c H1 => if c = true then tb σ H1 Q else Q (.bl false) H1) k τ1 r e1 fun H1 r1 c1 => ?_
  cases k with
  | true => exact hb.weak.run S M τ1 σ H1 _ d τ' r1 e fun v H2 r2 c2 i => q v H2 r2 (c1.trans c2) i
  | false => cases e; exact q _ H1 r1 c1 rfl
theorem e_not {fa : Bool} {ta : TE} {a : DX} (ha : E K ta fa a) : E K (tNotV ta) false (dNot a) := by
  refine ⟨fun τ d τ' e => ?_, ?_⟩
  · unfold dNot at e; obtain ⟨⟨c, τ1⟩, e1, e⟩ := Option.map_eq_some_iff.mp e; cases e; exact (t_test ha).like _ _ _ e1
  intro S M τ σ H Q d τ' r e q
  unfold dNot at e
  obtain ⟨⟨k, τ1⟩, e1, e⟩ := Option.map_eq_some_iff.mp e
  cases e
  exact (t_test ha).run S M τ σ H (fun c H1 => Q (.bl (!c)) H1) k _ r e1 fun H1 r1 c1 => q _ H1 r1 c1 rfl
def dChain (F G : PyData → PyData → Option PyData) (a b c : DX) (τ : DS) : Option (PyData × DS) := (a τ).bind fun p => (b p.2).bind fun q => (F p.1 q.1).bind fun z => match z with
  | .bool true => (c q.2).bind fun s => (G q.1 s.1).map fun d => (d, s.2)
  | .bool false => some (.bool false, q.2)
  | _ => none
end DL
end
section
set_option Elab.async false
set_option linter.all false
set_option maxRecDepth 100000
namespace DL
open PySem L2
variable {K : PySem.W.Frag}
def dANil (τ : DS) : Option (List Ar × DS) := some ([], τ)
def dACons (a : DX) (r : DA) (τ : DS) : Option (List Ar × DS) := (a τ).bind fun p => (r p.2).map fun q => (.d p.1 :: q.1, q.2)
theorem a_nil : A K tNil dANil := by
  refine ⟨fun τ d τ' e => ?_, ?_⟩
  · cases e; exact .refl
  intro S M τ σ H Q rs τ' r e q
  cases e
  exact q [] H r .refl rfl
theorem a_cons {fr : Bool} {te : TE} {t : TA} {a : DX} {f : DA} (ha : E K te fr a) (hr : A K t f) : A K (tCons te t) (dACons a f) := by
  refine ⟨fun τ d τ' e => ?_, ?_⟩
  · unfold dACons at e
    obtain ⟨⟨x, τ1⟩, e1, e⟩ := Option.bind_eq_some_iff.mp e
    obtain ⟨⟨y, τ2⟩, e2, e⟩ := Option.map_eq_some_iff.mp e
    cases e
    exact (ha.like _ _ _ e1).trans (hr.like _ _ _ e2)
  intro S M τ σ H Q rs τ' r e q
  unfold dACons at e
  obtain ⟨⟨x, τ1⟩, e1, e⟩ := Option.bind_eq_some_iff.mp e
  obtain ⟨⟨y, τ2⟩, e2, e⟩ := Option.map_eq_some_iff.mp e
  cases e
  refine ha.run S M τ σ H _ x τ1 r e1 fun v H1 r1 c1 i1 => ?_
  refine hr.run S M τ1 σ H1 _ y _ r1 e2 fun vs H2 r2 c2 i2 => ?_
  exact q (v :: vs) H2 r2 (c1.trans c2) ⟨v, vs, rfl, (r.isr i1).mono (c2.keep r1.sub).same, i2⟩
def allD : List Ar → Option (List PyData)
  | [] => some []
  | .d x :: r => (allD r).map (x :: ·)
  | .s _ :: _ => none
theorem allD_is {S : Addr → Prop} {σ : St} {H : Hp} : ∀ {rs : List Ar} {vs : List V} {ds : List PyData}, ArIs K S σ H rs vs → allD rs = some ds → IsL K (hid S H) ds vs
  | [], _, _, h, e => by cases e; exact h
  | .d x :: r, _, _, ⟨v, us, e1, h, l⟩, e => by
    obtain ⟨ds, e2, e⟩ := Option.map_eq_some_iff.mp e
    cases e
    exact ⟨v, us, e1, h, allD_is l e2⟩
  | .s _ :: _, _, _, _, e => by cases e
def dTup (a : DA) (τ : DS) : Option (PyData × DS) := (a τ).bind fun p => (allD p.1).bind fun ds => if ds.length ≤ sizeLine then some (.tuple ds, p.2) else none
def dLst (a : DA) (τ : DS) : Option (PyData × DS) := (a τ).bind fun p => (allD p.1).bind fun ds => if ds.length ≤ sizeLine then some (.list ds, p.2) else none
theorem e_tup {t : TA} {a : DA} (ha : A K t a) : E K (tTup t) false (dTup a) := by
  refine ⟨fun τ d τ' e => ?_, ?_⟩
  · unfold dTup at e
    obtain ⟨⟨x, τ1⟩, e1, e⟩ := Option.bind_eq_some_iff.mp e
    obtain ⟨ds, e2, e⟩ := Option.bind_eq_some_iff.mp e
    split at e
    · cases e; exact ha.like _ _ _ e1
    · cases e
  intro S M τ σ H Q d τ' r e q
  unfold dTup at e
  obtain ⟨⟨x, τ1⟩, e1, e⟩ := Option.bind_eq_some_iff.mp e
  obtain ⟨ds, e2, e⟩ := Option.bind_eq_some_iff.mp e
  split at e
  · rename_i hz
    cases e
    refine ha.run S M τ σ H _ x _ r e1 fun vs H1 r1 c1 i1 => ?_
    have l := allD_is i1 e2
    refine ⟨by rw [l.length]; exact hz, fun p hp => ?_⟩
    have s := same_new hp (HO.tup vs)
    exact q _ _ (r1.same s) (c1.trans (.of s)) ⟨p, vs, rfl, SqT.of (hid_iff.mpr ⟨r1.fresh hp, upd_same⟩), l.mono (Same.keep s).same⟩
  · cases e
theorem e_lst {t : TA} {a : DA} (ha : A K t a) : E K (tLst t) true (dLst a) := by
  refine ⟨fun τ d τ' e => ?_, ?_⟩
  · unfold dLst at e
    obtain ⟨⟨x, τ1⟩, e1, e⟩ := Option.bind_eq_some_iff.mp e
    obtain ⟨ds, e2, e⟩ := Option.bind_eq_some_iff.mp e
    split at e
    · cases e; exact ha.like _ _ _ e1
    · cases e
  intro S M τ σ H Q d τ' r e q
  unfold dLst at e
  obtain ⟨⟨x, τ1⟩, e1, e⟩ := Option.bind_eq_some_iff.mp e
  obtain ⟨ds, e2, e⟩ := Option.bind_eq_some_iff.mp e
  split at e
  · rename_i hz
    cases e
    refine ha.run S M τ σ H _ x _ r e1 fun vs H1 r1 c1 i1 => ?_
    have l := allD_is i1 e2
    refine ⟨by rw [l.length]; exact hz, fun p hp => ?_⟩
    have s := same_new hp (HO.lst vs)
    exact q _ _ (r1.same s) (c1.trans (.of s)) ((res_new hp l).back r1 c1)
  · cases e
def BR (K : PySem.W.Frag) (fr : Bool) (r : List V → Hp → VK → Prop) (F : List PyData → Option PyData) : Prop := ∀ (S : Addr → Prop) H vs ds d (Q : VK), (∀ a, H a = none → ¬ S a) → IsL K (hid S H) ds vs → F ds = some d → (∀ v H', Same H H' → Res K fr S H H' d v → Q v H') → r vs H Q
def dApp (F : List PyData → Option PyData) (a : DA) (τ : DS) : Option (PyData × DS) := (a τ).bind fun p => (allD p.1).bind fun ds => (F ds).map fun d => (d, p.2)
theorem e_app {fr : Bool} {r : List V → Hp → VK → Prop} {F : List PyData → Option PyData} {t : TA} {a : DA} (h : BR K fr r F) (ha : A K t a) : E K (tCB r t) fr (dApp F a) := by
  refine ⟨fun τ d τ' e => ?_, ?_⟩
  · unfold dApp at e
    obtain ⟨⟨x, τ1⟩, e1, e⟩ := Option.bind_eq_some_iff.mp e
    obtain ⟨ds, e2, e⟩ := Option.bind_eq_some_iff.mp e
    obtain ⟨z, e3, e⟩ := Option.map_eq_some_iff.mp e
    cases e; exact ha.like _ _ _ e1
  intro S M τ σ H Q d τ' rr e q
  unfold dApp at e
  obtain ⟨⟨x, τ1⟩, e1, e⟩ := Option.bind_eq_some_iff.mp e
  obtain ⟨ds, e2, e⟩ := Option.bind_eq_some_iff.mp e
  obtain ⟨z, e3, e⟩ := Option.map_eq_some_iff.mp e
  cases e
  refine ha.run S M τ σ H _ x _ rr e1 fun vs H1 r1 c1 i1 => ?_
  refine h S H1 vs ds d _ (fun _ => r1.fresh) (allD_is i1 e2) e3 fun v H' s res => ?_
  exact q v H' (r1.same s) (c1.trans (.of s)) (res.back r1 c1)
def spD (K : PySem.W.Frag) (G : List L → Option (PyData × List L)) (fr : Bool) : Sp := fun vs H Q _ => ∃ (S M : Addr → Prop) (ls : List L) (r : PyData) (ls' : List L), R K S M (ls.map some) (vs.map some) H ∧ G ls = some (r, ls') ∧
  ∀ v H', R K S M (ls'.map some) (vs.map some) H' → Chg M H H' → Res K fr S H H' r v → Q v H'
theorem r_args {S M : Addr → Prop} {τ : DS} {σ : St} {H : Hp} (r : R K S M τ σ H) {ds : List PyData} {vs : List V} (l : IsL K (hid S H) ds vs) : R K S (fun _ => False) ((ds.map L.d).map some) (vs.map some) H where
  len := by rw [List.length_map, List.length_map, List.length_map, l.length]
  dat := fun i x e => by
    rw [List.getElem?_map, List.getElem?_map] at e
    cases q : ds[i]? with
    | none => rw [q] at e; cases e
    | some d =>
      rw [q] at e
      cases e
      obtain ⟨v, h1, h2⟩ := l.get q
      exact ⟨v, by rw [List.getElem?_map, h1]; rfl, h2⟩
  mt := fun i o e => by
    rw [List.getElem?_map, List.getElem?_map] at e
    cases q : ds[i]? with
    | none => rw [q] at e; cases e
    | some d => rw [q] at e; cases o <;> cases e
  cst := fun i xs e => by
    rw [List.getElem?_map, List.getElem?_map] at e
    cases q : ds[i]? with
    | none => rw [q] at e; cases e
    | some d => rw [q] at e; cases e
  inj := fun i j o p a e => by
    rw [List.getElem?_map, List.getElem?_map] at e
    cases q : ds[i]? with
    | none => rw [q] at e; cases e
    | some d => rw [q] at e; cases o <;> cases e
  sub := fun a h => h.elim
  ex := r.ex
def dCall (G : List L → Option (PyData × List L)) (a : DA) (τ : DS) : Option (PyData × DS) := (a τ).bind fun p => (allD p.1).bind fun ds => (G (ds.map L.d)).map fun q => (q.1, p.2)
theorem e_call {fr : Bool} {G : List L → Option (PyData × List L)} {t : TA} {a : DA} {X : XK} (ha : A K t a) : E K (tCall (spD K G fr) [] X t) fr (dCall G a) := by
  refine ⟨fun τ d τ' e => ?_, ?_⟩
  · unfold dCall at e
    obtain ⟨⟨x, τ1⟩, e1, e⟩ := Option.bind_eq_some_iff.mp e
    obtain ⟨ds, e2, e⟩ := Option.bind_eq_some_iff.mp e
    obtain ⟨z, e3, e⟩ := Option.map_eq_some_iff.mp e
    cases e; exact ha.like _ _ _ e1
  intro S M τ σ H Q d τ' rr e q
  unfold dCall at e
  obtain ⟨⟨x, τ1⟩, e1, e⟩ := Option.bind_eq_some_iff.mp e
  obtain ⟨ds, e2, e⟩ := Option.bind_eq_some_iff.mp e
  obtain ⟨⟨z, ls'⟩, e3, e⟩ := Option.map_eq_some_iff.mp e
  cases e
  refine ha.run S M τ σ H _ x _ rr e1 fun vs H1 r1 c1 i1 => ?_
  have l := allD_is i1 e2
  show spD K G fr (vs ++ []) H1 Q X
  rw [List.append_nil]
  refine ⟨S, fun _ => False, ds.map L.d, _, ls', r_args r1 l, e3, fun v H' _ c res => ?_⟩
  have s : Same H1 H' := fun b o e => c b o (fun z => z) e
  exact q v H' (r1.same s) (c1.trans (.of s)) (res.back r1 c1)
theorem owL_inj {a b : Ow} (h : some (some a.L) = some (some b.L)) : a = b := Ow.inj (Option.some.inj (Option.some.inj h))
theorem R.setO {S M : Addr → Prop} {τ : DS} {σ : St} {H H' : Hp} (r : R K S M τ σ H) {i : Nat} {a : Addr} {w w' : Ow} {h : HO} (hi : τ[i]? = some (some w.L)) (ha : σ[i]? = some (some (.ref a)))
    (c : Chg (fun b => b = a) H H') (h' : H' a = some h) (l : IsO K (hid S H') w' a h) : R K S M (τ.set i (some w'.L)) σ H' := by
  have hlt : i < τ.length := (List.getElem?_eq_some_iff.mp hi).1
  have Sa : S a := by
    obtain ⟨b, us, h1, h2, _⟩ := r.mt i w hi
    rw [ha] at h1; cases h1
    exact r.sub _ h2
  have k : Keep S H S H' := c.keep fun b e => by subst e; exact Sa
  have ne : ∀ j, j ≠ i → (τ.set i (some w'.L))[j]? = τ[j]? := fun j hj => List.getElem?_set_ne (Ne.symm hj)
  have se : (τ.set i (some w'.L))[i]? = some (some w'.L) := List.getElem?_set_self hlt
  refine ⟨by rw [List.length_set]; exact r.len, fun j x e => ?_, fun j ys e => ?_, fun j x e => ?_, fun j1 j2 ys zs b e1 e2 f1 f2 => ?_, r.sub, fun b hb => ?_⟩
  · by_cases hj : j = i
    · subst hj; rw [se] at e; exact absurd (Option.some.inj (Option.some.inj e)) Ow.not_d
    · rw [ne j hj] at e
      obtain ⟨v, h1, h2⟩ := r.dat j x e
      exact ⟨v, h1, h2.mono k.same⟩
  · by_cases hj : j = i
    · subst hj
      rw [se] at e
      obtain rfl := Ow.inj (Option.some.inj (Option.some.inj e))
      obtain ⟨b, us, h1, h2, _⟩ := r.mt j w hi
      rw [ha] at h1; cases h1
      exact ⟨a, h, ha, h2, h', l⟩
    · rw [ne j hj] at e
      obtain ⟨b, us, h1, h2, h3, h4⟩ := r.mt j ys e
      refine ⟨b, us, h1, h2, c b _ (fun z => ?_) h3, h4.mono k.same⟩
      subst z
      exact hj (r.inj j i ys w b e hi h1 ha)
  · by_cases hj : j = i
    · subst hj; rw [se] at e; exact absurd (Option.some.inj (Option.some.inj e)) Ow.not_c
    · rw [ne j hj] at e
      obtain ⟨b, us, h1, h2, h3⟩ := r.cst j x e
      exact ⟨b, us, h1, k.same.seq h2, h3.mono k.same⟩
  · have g : ∀ (j : Nat) (ys : Ow), (τ.set i (some w'.L))[j]? = some (some ys.L) → ∃ zs : Ow, τ[j]? = some (some zs.L) := fun j ys e => by
      by_cases hj : j = i
      · subst hj; exact ⟨_, hi⟩
      · rw [ne j hj] at e; exact ⟨_, e⟩
    obtain ⟨_, g1⟩ := g j1 ys e1
    obtain ⟨_, g2⟩ := g j2 zs e2
    exact r.inj _ _ _ _ b g1 g2 f1 f2
  · by_cases e : b = a
    · subst e; exact ⟨_, h'⟩
    · obtain ⟨o, q⟩ := r.ex b hb
      exact ⟨o, c b o e q⟩
theorem R.setM {S M : Addr → Prop} {τ : DS} {σ : St} {H H' : Hp} (r : R K S M τ σ H) {i : Nat} {a : Addr} {xs xs' : List PyData} {vs : List V} (hi : τ[i]? = some (some (.m xs))) (ha : σ[i]? = some (some (.ref a)))
    (c : Chg (fun b => b = a) H H') (h' : H' a = some (.lst vs)) (l : IsL K (hid S H') xs' vs) : R K S M (τ.set i (some (.m xs'))) σ H' := r.setO (w := .l xs) (w' := .l xs') hi ha c h' ⟨vs, rfl, l⟩
theorem like_setO {τ : DS} {i : Nat} {w w' : Ow} (hi : τ[i]? = some (some w.L)) (hf : w.fl = w'.fl) : Like τ (τ.set i (some w'.L)) := by
  have hlt : i < τ.length := (List.getElem?_eq_some_iff.mp hi).1
  refine ⟨by rw [List.length_set], fun j => ?_⟩
  by_cases hj : j = i
  · subst hj
    rw [List.getElem?_set_self hlt, hi]
    exact ⟨⟨fun x => ⟨fun z => absurd (Option.some.inj (Option.some.inj z)) Ow.not_d, fun z => absurd (Option.some.inj (Option.some.inj z)) Ow.not_d⟩, fun x => ⟨fun z => absurd (Option.some.inj (Option.some.inj z)) Ow.not_c, fun z => absurd (Option.some.inj (Option.some.inj z)) Ow.not_c⟩⟩, fun b => ⟨fun ⟨o, h1, h2⟩ => ⟨w, by rw [hf, owL_inj h2]; exact h1, rfl⟩, fun ⟨o, h1, h2⟩ => ⟨w', by rw [← hf, owL_inj h2]; exact h1, rfl⟩⟩⟩
  · rw [List.getElem?_set_ne (Ne.symm hj)]
    exact ⟨⟨fun x => Iff.rfl, fun x => Iff.rfl⟩, fun b => Iff.rfl⟩
theorem like_setM {τ : DS} {i : Nat} {xs xs' : List PyData} (hi : τ[i]? = some (some (.m xs))) : Like τ (τ.set i (some (.m xs'))) := like_setO (w := .l xs) (w' := .l xs') hi rfl
def dCallM (i : Nat) (G : List L → Option (PyData × List L)) (a : DA) (τ : DS) : Option (PyData × DS) := (a τ).bind fun p => (allD p.1).bind fun ds => match p.2[i]? with
  | some (some (.m xs)) => (G (.m xs :: ds.map L.d)).bind fun q => match q.2 with
    | .m xs' :: _ => some (q.1, p.2.set i (some (.m xs')))
    | _ => none
  | some (some (.k xs)) => (G (.k xs :: ds.map L.d)).bind fun q => match q.2 with
    | .k xs' :: _ => some (q.1, p.2.set i (some (.k xs')))
    | _ => none
  | _ => none
theorem dCallM_some {i : Nat} {G : List L → Option (PyData × List L)} {a : DA} {τ : DS} {d : PyData} {τ' : DS} (e : dCallM i G a τ = some (d, τ')) :
    ∃ rs τ1 ds w w' r, a τ = some (rs, τ1) ∧ allD rs = some ds ∧ τ1[i]? = some (some (Ow.L w)) ∧ G (w.L :: ds.map L.d) = some (d, Ow.L w' :: r) ∧ τ' = τ1.set i (some w'.L) ∧ w.fl = w'.fl := by
  unfold dCallM at e
  obtain ⟨⟨x, τ1⟩, e1, e⟩ := Option.bind_eq_some_iff.mp e
  obtain ⟨ds, e2, e⟩ := Option.bind_eq_some_iff.mp e
  dsimp only at e
  split at e
  · rename_i xs hx
    obtain ⟨⟨z, ls'⟩, e3, e⟩ := Option.bind_eq_some_iff.mp e
    dsimp only at e
    split at e
    · rename_i xs' rest
      cases e
      exact ⟨x, τ1, ds, .l xs, .l xs', rest, e1, e2, hx, e3, rfl, rfl⟩
    · cases e
  · rename_i xs hx
    obtain ⟨⟨z, ls'⟩, e3, e⟩ := Option.bind_eq_some_iff.mp e
    dsimp only at e
    split at e
    · rename_i xs' rest
      cases e
      exact ⟨x, τ1, ds, .t xs, .t xs', rest, e1, e2, hx, e3, rfl, rfl⟩
    · cases e
  · cases e
theorem e_callM {i : Nat} {fr : Bool} {G : List L → Option (PyData × List L)} {t : TA} {a : DA} {X : XK} (ha : A K t a) : E K (tCall (spD K G fr) [] X (tCons (tVar i) t)) fr (dCallM i G a) := by
  refine ⟨fun τ d τ' e => ?_, ?_⟩
  · obtain ⟨rs, τ1, ds, xs, xs', r, e1, e2, e3, e4, rfl, e5⟩ := dCallM_some e
    exact (ha.like _ _ _ e1).trans (like_setO e3 e5)
  intro S M τ σ H Q d τ' rr e q
  obtain ⟨rs, τ1, ds, xs, xs', r, e1, e2, e3, e4, rfl, _⟩ := dCallM_some e
  have lk := ha.like _ _ _ e1
  obtain ⟨zs, hz⟩ := (lk.own i).mp ⟨_, e3⟩
  obtain ⟨p, us, hp, hM, _, _⟩ := rr.mt i zs hz
  refine ⟨.ref p, hp, ?_⟩
  refine ha.run S M τ σ H _ rs _ rr e1 fun vs H1 r1 c1 i1 => ?_
  have l := allD_is i1 e2
  obtain ⟨p', us', hp', hM', hl, ll⟩ := r1.mt i xs e3
  rw [hp] at hp'; cases hp'
  show spD K G fr ((.ref p :: vs) ++ []) H1 Q X
  rw [List.append_nil]
  have ra := r_args r1 l
  refine ⟨S, fun b => b = p, xs.L :: ds.map L.d, _, xs'.L :: r, ⟨?_, ?_, ?_, ?_, ?_, ?_, r1.ex⟩, e4, fun v H' r' c res => ?_⟩
  · have := ra.len
    simp only [List.length_map, List.map_cons, List.length_cons] at this ⊢
    omega
  · intro j x e
    cases j with
    | zero => exact absurd (Option.some.inj (Option.some.inj e)) Ow.not_d
    | succ j => exact ra.dat j x (by simpa using e)
  · intro j ys e
    cases j with
    | zero => obtain rfl := owL_inj e; exact ⟨p, us', rfl, rfl, hl, ll⟩
    | succ j => obtain ⟨_, _, _, h, _⟩ := ra.mt j ys (by simpa using e); exact h.elim
  · intro j ys e
    cases j with
    | zero => exact absurd (Option.some.inj (Option.some.inj e)) Ow.not_c
    | succ j => exact ra.cst j ys (by simpa using e)
  · intro j k ys ws b e1 e2 _ _
    cases j with
    | zero => cases k with
      | zero => rfl
      | succ k => obtain ⟨_, _, _, h, _⟩ := ra.mt k ws (by simpa using e2); exact h.elim
    | succ j => obtain ⟨_, _, _, h, _⟩ := ra.mt j ys (by simpa using e1); exact h.elim
  · rintro b rfl
    exact r1.sub _ hM'
  · obtain ⟨p2, us2, h1, h2, h3, h4⟩ := r'.mt 0 xs' rfl
    cases h1
    exact q v H' (r1.setO e3 hp c h3 h4) (c1.trans fun b o hn e => c b o (fun z => hn (by subst z; exact hM')) e) (res.back r1 c1)
def okM : Option L → Bool
  | some (.m xs) => fixDs xs
  | some (.k kvs) => fixDs (kvs.map (·.2))
  | _ => true
theorem IsKV.monoT {H H' : Hp} (s : TSm H H') : ∀ {kvs : List (List Int × PyData)} {ts : List (List Int × Addr × V)}, fixDs (kvs.map (·.2)) = true → IsKV K H (dctP kvs) ts → IsKV K H' (dctP kvs) ts
  | [], _, _, h => h
  | (k, d) :: kvs, _, f, ⟨t, tr, e, ek, hk, h, l⟩ => by
    rw [List.map_cons, fixDs, Bool.and_eq_true] at f
    exact ⟨t, tr, e, ek, s.tup hk, Is.monoT s f.1 h, IsKV.monoT s (kvs := kvs) f.2 l⟩
theorem IsO.monoT {H H' : Hp} (s : TSm H H') : ∀ {o : Ow} {a : Addr} {h : HO}, okM (some o.L) = true → IsO K H o a h → IsO K H' o a h
  | .l _, _, _, f, ⟨vs, e, l⟩ => ⟨vs, e, l.monoT s f⟩
  | .t _, _, _, f, ⟨ts, e, l⟩ => ⟨ts, e, IsKV.monoT s f l⟩
def OwH (h : HO) : Prop := (∃ vs, h = .lst vs) ∨ ∃ φ, h = .ext φ
theorem IsO.ho {H : Hp} : ∀ {o : Ow} {a : Addr} {h : HO}, IsO K H o a h → OwH h
  | .l _, _, _, ⟨vs, e, _⟩ => .inl ⟨vs, e⟩
  | .t _, _, _, ⟨ts, e, _⟩ => .inr ⟨_, e⟩
def dBor (i : Nat) (f : DX) (τ : DS) : Option (PyData × DS) := match τ[i]? with
  | some (some (.m xs)) => (f (τ.set i (some (.d (.list xs))))).bind fun q => if fixD q.1 && q.2.all okM then some (q.1, q.2.set i (some (.m xs))) else none
  | some (some (.k xs)) => (f (τ.set i (some (.d (.dict (dctP xs)))))).bind fun q => if fixD q.1 && q.2.all okM then some (q.1, q.2.set i (some (.k xs))) else none
  | _ => none
theorem dBor_some {i : Nat} {f : DX} {τ : DS} {d : PyData} {τ' : DS} (e : dBor i f τ = some (d, τ')) : ∃ w τ1, τ[i]? = some (some (Ow.L w)) ∧ f (τ.set i (some (.d w.D))) = some (d, τ1) ∧ fixD d = true ∧ τ1.all okM = true ∧ τ' = τ1.set i (some w.L) := by
  unfold dBor at e
  split at e
  · rename_i xs hx
    obtain ⟨⟨z, τ1⟩, e1, e⟩ := Option.bind_eq_some_iff.mp e
    dsimp only at e
    split at e
    · rename_i h
      rw [Bool.and_eq_true] at h
      cases e
      exact ⟨.l xs, τ1, hx, e1, h.1, h.2, rfl⟩
    · cases e
  · rename_i xs hx
    obtain ⟨⟨z, τ1⟩, e1, e⟩ := Option.bind_eq_some_iff.mp e
    dsimp only at e
    split at e
    · rename_i h
      rw [Bool.and_eq_true] at h
      cases e
      exact ⟨.t xs, τ1, hx, e1, h.1, h.2, rfl⟩
    · cases e
  · cases e
theorem tsame_hid {S S' : Addr → Prop} {H : Hp} (h : ∀ a, S' a → S a ∨ ∃ o, H a = some o ∧ OwH o) : TSm (hid S H) (hid S' H) := fun b o e nl ne => by
  obtain ⟨e1, e2⟩ := hid_iff.mp e
  refine hid_iff.mpr ⟨fun z => ?_, e2⟩
  rcases h b z with z | ⟨o', z, ⟨vs, rfl⟩ | ⟨φ, rfl⟩⟩
  · exact e1 z
  · rw [e2] at z; cases z; exact nl _ rfl
  · rw [e2] at z; cases z; exact ne _ rfl
theorem frz {S M : Addr → Prop} {τ : DS} {σ : St} {H : Hp} (r : R K S M τ σ H) {i : Nat} {w : Ow} {p : Addr} (hi : τ[i]? = some (some w.L)) (hp : σ[i]? = some (some (.ref p))) :
    R K (fun b => S b ∧ b ≠ p) (fun b => M b ∧ b ≠ p) (τ.set i (some (.d w.D))) σ H := by
  have hlt : i < τ.length := (List.getElem?_eq_some_iff.mp hi).1
  have ne : ∀ j, j ≠ i → (τ.set i (some (.d w.D)))[j]? = τ[j]? := fun j hj => List.getElem?_set_ne (Ne.symm hj)
  have se : (τ.set i (some (.d w.D)))[i]? = some (some (.d w.D)) := List.getElem?_set_self hlt
  have k : Same (hid S H) (hid (fun b => S b ∧ b ≠ p) H) := hid_less fun a z => z.1
  have mn : ∀ (j : Nat) (ys : Ow), (τ.set i (some (.d w.D)))[j]? = some (some ys.L) → j ≠ i ∧ τ[j]? = some (some ys.L) := fun j ys e => by
    by_cases hj : j = i
    · subst hj; rw [se] at e; exact absurd (Option.some.inj (Option.some.inj e)).symm Ow.not_d
    · rw [ne j hj] at e; exact ⟨hj, e⟩
  have cs : ∀ (j : Nat) (ys : List PyData), (τ.set i (some (.d w.D)))[j]? = some (some (.c ys)) → τ[j]? = some (some (.c ys)) := fun j ys e => by
    by_cases hj : j = i
    · subst hj; rw [se] at e; cases e
    · rw [ne j hj] at e; exact e
  refine ⟨by rw [List.length_set]; exact r.len, fun j x e => ?_, fun j ys e => ?_, fun j ys e => let ⟨a, vs, h1, h2, h3⟩ := r.cst j ys (cs j ys e); ⟨a, vs, h1, k.seq h2, h3.mono k⟩, fun j1 j2 ys zs b e1 e2 f1 f2 => ?_, fun a h => ⟨r.sub a h.1, h.2⟩, fun a h => r.ex a h.1⟩
  · by_cases hj : j = i
    · subst hj
      rw [se] at e
      cases e
      obtain ⟨b, us, h1, h2, h3, h4⟩ := r.mt j w hi
      rw [hp] at h1; cases h1
      exact ⟨_, hp, IsO.is (h4.mono k) (hid_iff.mpr ⟨fun z => z.2 rfl, h3⟩)⟩
    · rw [ne j hj] at e
      obtain ⟨v, h1, h2⟩ := r.dat j x e
      exact ⟨v, h1, h2.mono k⟩
  · obtain ⟨hj, e⟩ := mn j ys e
    obtain ⟨b, us, h1, h2, h3, h4⟩ := r.mt j ys e
    refine ⟨b, us, h1, ⟨h2, fun z => ?_⟩, h3, h4.mono k⟩
    subst z
    exact hj (r.inj j i ys w b e hi h1 hp)
  · exact r.inj j1 j2 ys zs b (mn _ _ e1).2 (mn _ _ e2).2 f1 f2
theorem unfrz {S M : Addr → Prop} {τ τ1 : DS} {σ : St} {H H' : Hp} (r : R K S M τ σ H) {i : Nat} {w : Ow} {p : Addr} (hi : τ[i]? = some (some w.L)) (hp : σ[i]? = some (some (.ref p)))
    (r1 : R K (fun b => S b ∧ b ≠ p) (fun b => M b ∧ b ≠ p) τ1 σ H') (lk : Like (τ.set i (some (.d w.D))) τ1) (c : Chg (fun b => M b ∧ b ≠ p) H H') (ok : τ1.all okM = true) : R K S M (τ1.set i (some w.L)) σ H' := by
  have hlt : i < τ.length := (List.getElem?_eq_some_iff.mp hi).1
  have hl1 : τ1.length = τ.length := by have := lk.1; rw [List.length_set] at this; exact this
  have hlt1 : i < τ1.length := by omega
  have ne : ∀ j, j ≠ i → (τ1.set i (some w.L))[j]? = τ1[j]? := fun j hj => List.getElem?_set_ne (Ne.symm hj)
  have se : (τ1.set i (some w.L))[i]? = some (some w.L) := List.getElem?_set_self hlt1
  have ne0 : ∀ j, j ≠ i → (τ.set i (some (.d w.D)))[j]? = τ[j]? := fun j hj => List.getElem?_set_ne (Ne.symm hj)
  obtain ⟨b0, us, hb0, h2, h3, h4⟩ := r.mt i w hi
  rw [hp] at hb0; cases hb0
  have h3' : H' p = some us := c p _ (fun z => z.2 rfl) h3
  have c' : Chg M H H' := fun b o hn e => c b o (fun z => hn z.1) e
  have k : Keep S H S H' := c'.keep r.sub
  have ts : TSm (hid (fun b => S b ∧ b ≠ p) H') (hid S H') := tsame_hid fun a z => by
    by_cases e : a = p
    · subst e; exact .inr ⟨_, h3', h4.ho⟩
    · exact .inl ⟨z, e⟩
  have mm : ∀ (j : Nat) (ys : Ow), j ≠ i → τ1[j]? = some (some ys.L) → ∃ zs : Ow, τ[j]? = some (some zs.L) := fun j ys hj e => by
    obtain ⟨zs, q⟩ := (lk.own j).mp ⟨_, e⟩
    rw [ne0 j hj] at q
    exact ⟨zs, q⟩
  have cs : ∀ (j : Nat) (ys : List PyData), (τ1.set i (some w.L))[j]? = some (some (.c ys)) → τ[j]? = some (some (.c ys)) := fun j ys e => by
    by_cases hj : j = i
    · subst hj; rw [se] at e; exact absurd (Option.some.inj (Option.some.inj e)) Ow.not_c
    · rw [ne j hj] at e
      have := ((lk.2 j).1.2 ys).mp e
      rw [ne0 j hj] at this
      exact this
  refine ⟨by rw [List.length_set]; exact r1.len, fun j x e => ?_, fun j ys e => ?_, fun j ys e => let ⟨a, vs, h1, h2, h3⟩ := r.cst j ys (cs j ys e); ⟨a, vs, h1, k.same.seq h2, h3.mono k.same⟩, fun j1 j2 ys zs b e1 e2 f1 f2 => ?_, r.sub, fun a h => ?_⟩
  · by_cases hj : j = i
    · subst hj; rw [se] at e; exact absurd (Option.some.inj (Option.some.inj e)) Ow.not_d
    · rw [ne j hj] at e
      have := ((lk.2 j).1.1 x).mp e
      rw [ne0 j hj] at this
      obtain ⟨v, h5, h6⟩ := r.dat j x this
      exact ⟨v, h5, h6.mono k.same⟩
  · by_cases hj : j = i
    · subst hj
      rw [se] at e
      obtain rfl := owL_inj e
      exact ⟨p, us, hp, h2, h3', h4.mono k.same⟩
    · rw [ne j hj] at e
      obtain ⟨b, ws, h5, h6, h7, h8⟩ := r1.mt j ys e
      have fx : okM (some ys.L) = true := List.all_eq_true.mp ok (some ys.L) (List.mem_of_getElem? e)
      exact ⟨b, ws, h5, h6.1, h7, h8.monoT ts fx⟩
  · have g : ∀ (j : Nat) (ys : Ow), (τ1.set i (some w.L))[j]? = some (some ys.L) → ∃ zs : Ow, τ[j]? = some (some zs.L) := fun j ys e => by
      by_cases hj : j = i
      · subst hj; exact ⟨_, hi⟩
      · rw [ne j hj] at e; exact mm j ys hj e
    obtain ⟨_, g1⟩ := g j1 ys e1
    obtain ⟨_, g2⟩ := g j2 zs e2
    exact r.inj _ _ _ _ b g1 g2 f1 f2
  · by_cases e : a = p
    · subst e; exact ⟨_, h3'⟩
    · exact r1.ex a ⟨h, e⟩
theorem like_bor {τ τ1 : DS} {i : Nat} {w : Ow} (hi : τ[i]? = some (some w.L)) (lk : Like (τ.set i (some (.d w.D))) τ1) : Like τ (τ1.set i (some w.L)) := by
  have hlt : i < τ.length := (List.getElem?_eq_some_iff.mp hi).1
  have hl1 : τ1.length = τ.length := by have := lk.1; rw [List.length_set] at this; exact this
  refine ⟨by rw [List.length_set]; exact hl1, fun j => ?_⟩
  by_cases hj : j = i
  · subst hj
    rw [List.getElem?_set_self (by omega), hi]
    exact ⟨⟨fun x => Iff.rfl, fun x => Iff.rfl⟩, fun b => Iff.rfl⟩
  · have := lk.2 j
    rw [List.getElem?_set_ne (Ne.symm hj)] at this ⊢
    exact this
theorem e_bor {i : Nat} {fr : Bool} {t : TE} {f : DX} (h : E K t fr f) : E K t false (dBor i f) := by
  refine ⟨fun τ d τ' e => ?_, ?_⟩
  · obtain ⟨xs, τ1, e1, e2, _, _, rfl⟩ := dBor_some e
    exact like_bor e1 (h.like _ _ _ e2)
  intro S M τ σ H Q d τ' r e q
  obtain ⟨xs, τ1, e1, e2, fx, ok, rfl⟩ := dBor_some e
  obtain ⟨p, us, hp, hM, hl, ll⟩ := r.mt i xs e1
  refine h.weak.run _ _ _ σ H _ d τ1 (frz r e1 hp) e2 fun v H' r' c res => ?_
  have r2 := unfrz r e1 hp r' (h.like _ _ _ e2) c ok
  refine q v H' r2 (fun b o hn e => c b o (fun z => hn z.1) e) ?_
  have h3' : H' p = some us := c p _ (fun z => z.2 rfl) hl
  exact Is.monoT (tsame_hid fun a z => by
    by_cases e : a = p
    · subst e; exact .inr ⟨_, h3', ll.ho⟩
    · exact .inl ⟨z, e⟩) fx (show Is K (hid (fun b => S b ∧ b ≠ p) H') d v from res)
def dBorF (i : Nat) (f : DX) (τ : DS) : Option (PyData × DS) := match τ[i]? with
  | some (some (.m xs)) => (f (τ.set i (some (.d (.list xs))))).bind fun q => match q.1 with
    | .list ys => if fixDs ys && q.2.all okM then some (q.1, q.2.set i (some (.m xs))) else none
    | _ => none
  | some (some (.k xs)) => (f (τ.set i (some (.d (.dict (dctP xs)))))).bind fun q => match q.1 with
    | .list ys => if fixDs ys && q.2.all okM then some (q.1, q.2.set i (some (.k xs))) else none
    | _ => none
  | _ => none
theorem Ow.D_list {o : Ow} {ys : List PyData} (h : PyData.list ys = o.D) : o = .l ys := by
  cases o with
  | l xs => cases h; rfl
  | t kvs => cases h
end DL
end
section
set_option Elab.async false
set_option linter.all false
set_option maxRecDepth 100000
namespace DL
open PySem L2
variable {K : PySem.W.Frag}
def ItIs (K : PySem.W.Frag) (S : Addr → Prop) (J : It) (H : Hp) (ds : List PyData) : Prop := ∀ (S2 : Addr → Prop) (H2 : Hp), Keep S H S2 H2 → (∀ (i : Nat) (d : PyData), ds[i]? = some d → J.go i H2 ∧ ∀ x H3, J.yld i H2 x H3 → H3 = H2 ∧ Is K (hid S2 H2) d x) ∧ ∀ i, ds.length ≤ i → J.stop i H2
abbrev DI := DS → Option (List PyData × DS)
structure IT (K : PySem.W.Frag) (wi : TI) (f : DI) : Prop where
  like : ∀ τ ds τ', f τ = some (ds, τ') → Like τ τ'
  run : ∀ S M τ σ H (Q : It → Hp → Prop) ds τ', R K S M τ σ H → f τ = some (ds, τ') → (∀ J H', R K S M τ' σ H' → Chg M H H' → ItIs K S J H' ds → Q J H') → wi σ H Q
def dIL (f : DX) (τ : DS) : Option (List PyData × DS) := (f τ).bind fun p => match p.1 with
  | .list ds => some (ds, p.2)
  | _ => none
def dIT (f : DX) (τ : DS) : Option (List PyData × DS) := (f τ).bind fun p => match p.1 with
  | .tuple ds => some (ds, p.2)
  | _ => none
def rangeD (lo : Int) (n : Nat) : List PyData := (List.range n).map fun (k : Nat) => PyData.int (lo + (k : Int))
theorem range_is {S : Addr → Prop} {H : Hp} {lo : Int} {n : Nat} : ItIs K S (Itr lo n) H (rangeD lo n) := by
  intro S2 H2 k
  refine ⟨fun i d e => ?_, fun i hi => ?_⟩
  · unfold rangeD at e
    rw [List.getElem?_map] at e
    by_cases hi : i < n
    · rw [List.getElem?_range hi] at e
      cases e
      exact ⟨hi, fun x H3 y => ⟨y.1, y.2⟩⟩
    · rw [List.getElem?_eq_none (by simpa using hi)] at e
      cases e
  · unfold rangeD at hi
    rw [List.length_map, List.length_range] at hi
    exact hi
def dR1 (a : DA) (τ : DS) : Option (List PyData × DS) := (a τ).bind fun p => (allD p.1).bind fun ds => match ds with
  | [.int j] => if -(2 ^ 62) ≤ j ∧ j < 2 ^ 62 then some (rangeD 0 j.toNat, p.2) else none
  | _ => none
def dR2 (a : DA) (τ : DS) : Option (List PyData × DS) := (a τ).bind fun p => (allD p.1).bind fun ds => match ds with
  | [.int i, .int j] => if -(2 ^ 62) ≤ i ∧ i < 2 ^ 62 ∧ -(2 ^ 62) ≤ j ∧ j < 2 ^ 62 then some (rangeD i (j - i).toNat, p.2) else none
  | _ => none
theorem it_range1 {t : TA} {a : DA} (ha : A K t a) : IT K (iRng1 t) (dR1 a) := by
  refine ⟨fun τ d τ' e => ?_, ?_⟩
  · unfold dR1 at e
    obtain ⟨⟨x, τ1⟩, e1, e⟩ := Option.bind_eq_some_iff.mp e
    obtain ⟨ds, e2, e⟩ := Option.bind_eq_some_iff.mp e
    split at e
    · split at e
      · cases e; exact ha.like _ _ _ e1
      · cases e
    · cases e
  intro S M τ σ H Q ds τ' r e q
  unfold dR1 at e
  obtain ⟨⟨x, τ1⟩, e1, e⟩ := Option.bind_eq_some_iff.mp e
  obtain ⟨ds', e2, e⟩ := Option.bind_eq_some_iff.mp e
  split at e
  · split at e
    · rename_i j hj
      cases e
      refine ha.run S M τ σ H _ x _ r e1 fun vs H1 r1 c1 i1 => ?_
      obtain ⟨v, us, rfl, iv, iu⟩ := allD_is i1 e2
      cases (show us = [] from iu)
      exact ⟨j, by rw [show v = .int j from iv], hj.1, hj.2, q _ H1 r1 c1 range_is⟩
    · cases e
  · cases e
abbrev DG := PyData → DS → Option DS
def MSame (τ τ' : DS) : Prop := τ'.length = τ.length ∧ ∀ (j : Nat) (o : Ow), τ'[j]? = some (some o.L) ↔ τ[j]? = some (some o.L)
theorem MSame.refl {τ : DS} : MSame τ τ := ⟨rfl, fun _ _ => Iff.rfl⟩
theorem MSame.trans {τ τ1 τ2 : DS} (a : MSame τ τ1) (b : MSame τ1 τ2) : MSame τ τ2 := ⟨b.1.trans a.1, fun j xs => (b.2 j xs).trans (a.2 j xs)⟩
structure TG1 K (g : TG) (f : DG) : Prop where
  ms : ∀ d τ τ', f d τ = some τ' → MSame τ τ'
  run : ∀ S M τ σ H v d τ' (Q : St → Hp → Prop), R K S M τ σ H → Is K (hid S H) d v → f d τ = some τ' → (∀ σ', R K S M τ' σ' H → (∀ (j : Nat) (o : Ow), τ[j]? = some (some o.L) → σ'[j]? = σ[j]?) → Q σ' H) → g v σ H Q
structure TG2 K (g : TGs) (f : List PyData → DS → Option DS) : Prop where
  ms : ∀ d τ τ', f d τ = some τ' → MSame τ τ'
  run : ∀ S M τ σ H vs ds τ' (Q : St → Hp → Prop), R K S M τ σ H → IsL K (hid S H) ds vs → f ds τ = some τ' → (∀ σ', R K S M τ' σ' H → (∀ (j : Nat) (o : Ow), τ[j]? = some (some o.L) → σ'[j]? = σ[j]?) → Q σ' H) → g vs σ H Q
def dN (i : Nat) (d : PyData) (τ : DS) : Option DS := match τ[i]? with
  | some (some (.m _)) => none
  | some (some (.k _)) => none
  | some _ => some (τ.set i (some (.d d)))
  | none => none
theorem dN_some {i : Nat} {d : PyData} {τ τ' : DS} (e : dN i d τ = some τ') : i < τ.length ∧ (∀ o : Ow, τ[i]? ≠ some (some o.L)) ∧ τ' = τ.set i (some (.d d)) := by
  unfold dN at e
  split at e
  · cases e
  · cases e
  · rename_i o hn hk ho
    cases e
    refine ⟨(List.getElem?_eq_some_iff.mp ho).1, fun xs z => ?_, rfl⟩
    rw [ho] at z
    cases xs with
    | l xs => exact hn xs (Option.some.inj z)
    | t xs => exact hk xs (Option.some.inj z)
  · cases e
theorem R.setD {S M : Addr → Prop} {τ : DS} {σ : St} {H : Hp} (r : R K S M τ σ H) {i : Nat} {d : PyData} {v : V} (hi : i < τ.length) (hm : ∀ o : Ow, τ[i]? ≠ some (some o.L)) (iv : Is K (hid S H) d v) : R K S M (τ.set i (some (.d d))) (σ.set i (some v)) H := by
  have hs : i < σ.length := by rw [r.len]; exact hi
  have ne : ∀ j, j ≠ i → (τ.set i (some (.d d)))[j]? = τ[j]? := fun j hj => List.getElem?_set_ne (Ne.symm hj)
  have ne' : ∀ j, j ≠ i → (σ.set i (some v))[j]? = σ[j]? := fun j hj => List.getElem?_set_ne (Ne.symm hj)
  have mn : ∀ (j : Nat) (ys : Ow), (τ.set i (some (.d d)))[j]? = some (some ys.L) → j ≠ i ∧ τ[j]? = some (some ys.L) := fun j ys e => by
    by_cases hj : j = i
    · subst hj; rw [List.getElem?_set_self hi] at e; exact absurd (Option.some.inj (Option.some.inj e)).symm Ow.not_d
    · rw [ne j hj] at e; exact ⟨hj, e⟩
  refine ⟨by rw [List.length_set, List.length_set]; exact r.len, fun j x e => ?_, fun j xs e => ?_, fun j xs e => ?_, fun j1 j2 ys zs b e1 e2 f1 f2 => ?_, r.sub, r.ex⟩
  · by_cases hj : j = i
    · subst hj
      rw [List.getElem?_set_self hi] at e
      cases e
      exact ⟨v, List.getElem?_set_self hs, iv⟩
    · rw [ne j hj] at e
      rw [ne' j hj]
      exact r.dat j x e
  · obtain ⟨hj, e⟩ := mn j xs e
    rw [ne' j hj]
    exact r.mt j xs e
  · by_cases hj : j = i
    · subst hj; rw [List.getElem?_set_self hi] at e; cases e
    · rw [ne j hj] at e
      rw [ne' j hj]
      exact r.cst j xs e
  · obtain ⟨h1, e1⟩ := mn j1 ys e1
    obtain ⟨h2, e2⟩ := mn j2 zs e2
    rw [ne' _ h1] at f1
    rw [ne' _ h2] at f2
    exact r.inj _ _ _ _ b e1 e2 f1 f2
theorem ms_setD {τ : DS} {i : Nat} {d : PyData} (hi : i < τ.length) (hm : ∀ o : Ow, τ[i]? ≠ some (some o.L)) : MSame τ (τ.set i (some (.d d))) := by
  refine ⟨by rw [List.length_set], fun j xs => ?_⟩
  by_cases hj : j = i
  · subst hj
    rw [List.getElem?_set_self hi]
    exact ⟨fun z => absurd (Option.some.inj (Option.some.inj z)).symm Ow.not_d, fun z => absurd z (hm xs)⟩
  · rw [List.getElem?_set_ne (Ne.symm hj)]
theorem g_name {i : Nat} : TG1 K (gName i) (dN i) := by
  refine ⟨fun d τ τ' e => ?_, ?_⟩
  · obtain ⟨h1, h2, rfl⟩ := dN_some e
    exact ms_setD h1 h2
  intro S M τ σ H v d τ' Q r iv e q
  obtain ⟨h1, h2, rfl⟩ := dN_some e
  refine q _ (r.setD h1 h2 iv) fun j xs ej => ?_
  have : j ≠ i := fun z => h2 xs (by rw [← z]; exact ej)
  exact List.getElem?_set_ne (Ne.symm this)
def dGNil : List PyData → DS → Option DS
  | [], τ => some τ
  | _ :: _, _ => none
def dGCons (f : DG) (g : List PyData → DS → Option DS) : List PyData → DS → Option DS
  | d :: ds, τ => (f d τ).bind fun τ1 => g ds τ1
  | [], _ => none
def dGT (g : List PyData → DS → Option DS) (d : PyData) (τ : DS) : Option DS := match d with
  | .tuple ds => g ds τ
  | _ => none
def isM (τ : DS) (j : Nat) : Bool := match τ[j]? with
  | some (some (.m _)) => true
  | some (some (.k _)) => true
  | _ => false
end DL
end
section
set_option Elab.async false
set_option linter.all false
set_option maxRecDepth 100000
namespace DL
open PySem L2
variable {K : PySem.W.Frag}
end DL
end
section
set_option Elab.async false
set_option linter.all false
set_option maxRecDepth 100000
namespace DL
open PySem L2
variable {K : PySem.W.Frag}
def dIxC (i : Nat) (f : DX) (τ : DS) : Option (PyData × DS) := (f τ).bind fun p => match p.2[i]?, p.1 with
  | some (some (.c xs)), .int k => (atI xs k).map fun d => (d, p.2)
  | _, _ => none
theorem e_ixC {i : Nat} {fr : Bool} {tb : TE} {f : DX} (h : E K tb fr f) : E K (tOp (rIxL K) (tVar i) tb) false (dIxC i f) := by
  refine ⟨fun τ d τ' e => ?_, ?_⟩
  · unfold dIxC at e
    obtain ⟨⟨x, τ1⟩, e1, e⟩ := Option.bind_eq_some_iff.mp e
    dsimp only at e
    split at e
    · obtain ⟨z, e3, e⟩ := Option.map_eq_some_iff.mp e
      cases e; exact h.like _ _ _ e1
    · cases e
  intro S M τ σ H Q d τ' r e q
  unfold dIxC at e
  obtain ⟨⟨x, τ1⟩, e1, e⟩ := Option.bind_eq_some_iff.mp e
  dsimp only at e
  split at e
  · rename_i xs k hx
    obtain ⟨z, e3, e⟩ := Option.map_eq_some_iff.mp e
    cases e
    obtain ⟨a, vs, ha, _⟩ := r.cst i xs ((((h.like _ _ _ e1).2 i).1.2 xs).mp hx)
    refine ⟨.ref a, ha, h.weak.run S M τ σ H _ _ _ r e1 fun v H1 r1 c1 i1 => ?_⟩
    obtain ⟨a', vs', ha', h2, h3⟩ := r1.cst i xs hx
    rw [ha] at ha'; cases ha'
    obtain ⟨u, h4, h5⟩ := isl_at h3 e3
    exact ⟨a, vs', k, u, rfl, i1, same_hid.seq h2, h4, q u H1 r1 c1 h5⟩
  · cases e
def dLenC (i : Nat) (τ : DS) : Option (PyData × DS) := match τ[i]? with
  | some (some (.c xs)) => some (.int xs.length, τ)
  | _ => none
theorem e_lenC {i : Nat} : E K (tCB (fun xs H Q => ∃ x n, xs = [x] ∧ LenV K x H n ∧ Q (.int n) H) (tCons (tVar i) tNil)) false (dLenC i) := by
  refine ⟨fun τ d τ' e => ?_, ?_⟩
  · unfold dLenC at e
    split at e
    · cases e; exact .refl
    · cases e
  intro S M τ σ H Q d τ' r e q
  unfold dLenC at e
  split at e
  · rename_i xs hx
    cases e
    obtain ⟨a, vs, ha, h2, h3⟩ := r.cst i xs hx
    refine ⟨.ref a, ha, .ref a, vs.length, rfl, .inl ⟨vs, same_hid.seq h2, rfl⟩, ?_⟩
    exact q _ H r .refl (by rw [h3.length]; rfl)
  · cases e
def dCallC (i : Nat) (G : List L → Option (PyData × List L)) (a : DA) (τ : DS) : Option (PyData × DS) := (a τ).bind fun p => (allD p.1).bind fun ds => match p.2[i]? with
  | some (some (.c xs)) => (G (.c xs :: ds.map L.d)).map fun q => (q.1, p.2)
  | _ => none
theorem e_callC {i : Nat} {fr : Bool} {G : List L → Option (PyData × List L)} {t : TA} {a : DA} {X : XK} (ha : A K t a) : E K (tCall (spD K G fr) [] X (tCons (tVar i) t)) fr (dCallC i G a) := by
  refine ⟨fun τ d τ' e => ?_, ?_⟩
  · unfold dCallC at e
    obtain ⟨⟨x, τ1⟩, e1, e⟩ := Option.bind_eq_some_iff.mp e
    obtain ⟨ds, e2, e⟩ := Option.bind_eq_some_iff.mp e
    dsimp only at e
    split at e
    · obtain ⟨z, e3, e⟩ := Option.map_eq_some_iff.mp e
      cases e; exact ha.like _ _ _ e1
    · cases e
  intro S M τ σ H Q d τ' rr e q
  unfold dCallC at e
  obtain ⟨⟨x, τ1⟩, e1, e⟩ := Option.bind_eq_some_iff.mp e
  obtain ⟨ds, e2, e⟩ := Option.bind_eq_some_iff.mp e
  dsimp only at e
  split at e
  · rename_i xs hx
    obtain ⟨⟨z, ls'⟩, e3, e⟩ := Option.map_eq_some_iff.mp e
    cases e
    obtain ⟨p, us, hp, _⟩ := rr.cst i xs ((((ha.like _ _ _ e1).2 i).1.2 xs).mp hx)
    refine ⟨.ref p, hp, ha.run S M τ σ H _ x _ rr e1 fun vs H1 r1 c1 i1 => ?_⟩
    have l := allD_is i1 e2
    obtain ⟨p', us', hp', h2, h3⟩ := r1.cst i xs hx
    rw [hp] at hp'; cases hp'
    show spD K G fr ((.ref p :: vs) ++ []) H1 Q X
    rw [List.append_nil]
    have ra := r_args r1 l
    refine ⟨S, fun _ => False, .c xs :: ds.map L.d, _, ls', ⟨?_, ?_, ?_, ?_, ?_, fun _ h => h.elim, r1.ex⟩, e3, fun v H' _ c res => ?_⟩
    · have := ra.len
      simp only [List.length_map, List.map_cons, List.length_cons] at this ⊢
      omega
    · intro j x e
      cases j with
      | zero => cases e
      | succ j => exact ra.dat j x (by simpa using e)
    · intro j ys e
      cases j with
      | zero => exact absurd (Option.some.inj (Option.some.inj e)).symm Ow.not_c
      | succ j => obtain ⟨_, _, _, h, _⟩ := ra.mt j ys (by simpa using e); exact h.elim
    · intro j ys e
      cases j with
      | zero => cases e; exact ⟨p, us', rfl, h2, h3⟩
      | succ j => exact ra.cst j ys (by simpa using e)
    · intro j k ys ws b e1 e2 _ _
      cases j with
      | zero => exact absurd (Option.some.inj (Option.some.inj e1)).symm Ow.not_c
      | succ j => obtain ⟨_, _, _, h, _⟩ := ra.mt j ys (by simpa using e1); exact h.elim
    · have s : Same H1 H' := fun b o e => c b o (fun z => z) e
      exact q v H' (r1.same s) (c1.trans (.of s)) (res.back r1 c1)
  · cases e
section
variable {F : Frm} {S M : Addr → Prop} {τ τ' : DS} {σ : St} {H H' : Hp}
theorem RF.step (f : RF K F S M τ σ H) (r' : R K S M τ' σ H') (c : Chg M H H') (lk : Like τ τ') : RF K F S M τ' σ H' where
  r := r'
  sS := f.sS
  old := fun b o e n => c b o (fun z => (f.new b z).elim n fun q => by rw [q] at e; cases e) (f.old b o e n)
  new := f.new
  fm := f.fm
  fs := f.fs
  fsub := f.fsub
  snew := f.snew
  par := f.par
  pm := fun i v e => let ⟨xs, h⟩ := f.pm i v e; (lk.own i).mpr ⟨xs, h⟩
  fma := f.fma
theorem RF.stay (f : RF K F S M τ σ H) {σ' : St} (r' : R K S M τ' σ' H) (ms : MSame τ τ') (k : ∀ (j : Nat) (o : Ow), τ[j]? = some (some o.L) → σ'[j]? = σ[j]?) : RF K F S M τ' σ' H where
  r := r'
  sS := f.sS
  old := f.old
  new := f.new
  fm := f.fm
  fs := f.fs
  fsub := f.fsub
  snew := f.snew
  par := fun i v e => by
    obtain ⟨xs, h⟩ := f.pm i v e
    rw [k i xs h]
    exact f.par i v e
  pm := fun i v e => let ⟨xs, h⟩ := f.pm i v e; ⟨xs, (ms.2 i xs).mpr h⟩
  fma := f.fma
theorem RF.hnone (f : RF K F S M τ σ H) {a : Addr} (h : H a = none) : F.H a = none := by
  cases e : F.H a with
  | none => rfl
  | some o =>
    exfalso
    by_cases hm : F.M a
    · obtain ⟨o', e'⟩ := f.r.ex a (f.sS a (f.fsub a hm))
      rw [h] at e'; cases e'
    · have := f.old a o e hm
      rw [h] at this; cases this
theorem RF.res (f : RF K F S M τ σ H) {fr : Bool} {d : PyData} {v : V} (h : Res K fr S H H' d v) : Res K fr F.S F.H H' d v := by
  cases fr with
  | false => exact Is.mono (hid_less f.sS) h
  | true =>
    obtain ⟨xs, a, vs, e1, e2, h1, h2, h3⟩ := h
    exact ⟨xs, a, vs, e1, e2, f.hnone h1, h2, h3.mono (hid_less fun b z => z.elim (fun z => .inl (f.sS b z)) .inr)⟩
end
variable {np : Nat}
def dAsg (e : DX) (g : DG) (τ : DS) : Option Out := (e τ).bind fun p => (g p.1 p.2).map .nx
theorem b_asg {fr fe : Bool} {te : TE} {tg : TG} {e : DX} {g : DG} (he : E K te fe e) (hg : TG1 K tg g) : B K np (tAsg te tg) fr (dAsg e g) := by
  intro F S M τ σ H D out hnp f ee q
  unfold dAsg at ee
  obtain ⟨⟨x, τ1⟩, e1, ee⟩ := Option.bind_eq_some_iff.mp ee
  obtain ⟨τ2, e2, ee⟩ := Option.map_eq_some_iff.mp ee
  cases ee
  refine he.weak.run S M τ σ H _ x τ1 f.r e1 fun v H1 r1 c1 i1 => ?_
  refine hg.run S M τ1 σ H1 v x τ2 _ r1 i1 e2 fun σ' r2 k => ?_
  exact q S M σ' H1 ((f.step r1 c1 (he.like _ _ _ e1)).stay r2 (hg.ms _ _ _ e2) k) (c1.keep f.r.sub)
def dNew (np i : Nat) (τ : DS) : Option Out := if np ≤ i ∧ i < τ.length then some (.nx (τ.set i (some (.m [])))) else none
def tkP : List (PyData × PyData) → Option (List (List Int × PyData))
  | [] => some []
  | (.tuple ks, d) :: r => (tkI ks).bind fun k => (tkP r).map ((k, d) :: ·)
  | _ => none
where tkI : List PyData → Option (List Int)
  | [] => some []
  | .int i :: r => (tkI r).map (i :: ·)
  | _ => none
theorem tkI_map : ∀ (k : List Int), tkP.tkI (k.map PyData.int) = some k
  | [] => rfl
  | i :: k => by rw [List.map_cons, tkP.tkI, tkI_map k]; rfl
theorem tkP_dct : ∀ (m : List (List Int × PyData)), tkP (dctP m) = some m
  | [] => rfl
  | (k, d) :: m => by
    have := tkP_dct m
    show (tkP.tkI (k.map PyData.int)).bind _ = _
    rw [tkI_map]
    show ((tkP (dctP m)).map _) = _
    rw [this]; rfl
theorem D_dict {o : Ow} {kvs : List (PyData × PyData)} {m : List (List Int × PyData)} (h : PyData.dict kvs = o.D) (e : tkP kvs = some m) : o = .t m := by
  cases o with
  | l xs => cases h
  | t m' => cases h; rw [tkP_dct] at e; cases e; rfl
def dSetM (np i : Nat) (e : DX) (τ : DS) : Option Out := (e τ).bind fun p => match p.1 with
  | .list xs => if np ≤ i ∧ i < p.2.length ∧ p.2.all okM = true then some (.nx (p.2.set i (some (.m xs)))) else none
  | .dict kvs => (tkP kvs).bind fun m => if np ≤ i ∧ i < p.2.length ∧ p.2.all okM = true then some (.nx (p.2.set i (some (.k m)))) else none
  | _ => none
theorem RF.newM {F : Frm} {S M : Addr → Prop} {τ : DS} {σ : St} {H : Hp} (f : RF K F S M τ σ H) {a : Addr} {i : Nat} {xs : Ow} {vs : HO} (hi : i < τ.length) (hnp : F.ar.length ≤ i) (hS : S a) (hM : ¬ M a) (hF : F.H a = none) (h' : H a = some vs)
    (l : IsO K (hid S H) xs a vs) : RF K F S (fun b => M b ∨ b = a) (τ.set i (some xs.L)) (σ.set i (some (.ref a))) H := by
  have hs : i < σ.length := by rw [f.r.len]; exact hi
  have ne : ∀ j, j ≠ i → (τ.set i (some xs.L))[j]? = τ[j]? := fun j hj => List.getElem?_set_ne (Ne.symm hj)
  have ne' : ∀ j, j ≠ i → (σ.set i (some (V.ref a)))[j]? = σ[j]? := fun j hj => List.getElem?_set_ne (Ne.symm hj)
  have se : (τ.set i (some xs.L))[i]? = some (some xs.L) := List.getElem?_set_self hi
  have se' : (σ.set i (some (V.ref a)))[i]? = some (some (.ref a)) := List.getElem?_set_self hs
  have Ma : ∀ (j : Nat) (ys : Ow) (b : Addr), j ≠ i → τ[j]? = some (some ys.L) → σ[j]? = some (some (.ref b)) → b ≠ a := fun j ys b hj e e' z => by
    obtain ⟨b', us, h1, h2, _⟩ := f.r.mt j ys e
    rw [e'] at h1; cases h1
    subst z
    exact hM h2
  refine ⟨⟨by rw [List.length_set, List.length_set]; exact f.r.len, fun j x e => ?_, fun j ys e => ?_, fun j ys e => ?_, fun j1 j2 ys zs b e1 e2 f1 f2 => ?_, fun b h => h.elim (f.r.sub b) fun z => by rw [z]; exact hS, f.r.ex⟩, f.sS, f.old, fun b h => h.elim (f.new b) fun z => .inr (by rw [z]; exact hF), fun b h => .inl (f.fm b h), f.fs, f.fsub, f.snew, fun j v e => ?_, fun j v e => ?_, f.fma⟩
  · by_cases hj : j = i
    · subst hj; rw [se] at e; exact absurd (Option.some.inj (Option.some.inj e)) Ow.not_d
    · rw [ne j hj] at e
      rw [ne' j hj]
      exact f.r.dat j x e
  · by_cases hj : j = i
    · subst hj
      rw [se] at e
      obtain rfl := owL_inj e
      exact ⟨a, vs, se', .inr rfl, h', l⟩
    · rw [ne j hj] at e
      rw [ne' j hj]
      obtain ⟨b, us, h1, h2, h3, h4⟩ := f.r.mt j ys e
      exact ⟨b, us, h1, .inl h2, h3, h4⟩
  · by_cases hj : j = i
    · subst hj; rw [se] at e; exact absurd (Option.some.inj (Option.some.inj e)) Ow.not_c
    · rw [ne j hj] at e
      rw [ne' j hj]
      exact f.r.cst j ys e
  · by_cases h1 : j1 = i
    · by_cases h2 : j2 = i
      · rw [h1, h2]
      · exfalso
        subst h1
        rw [se'] at f1; cases f1
        rw [ne j2 h2] at e2
        rw [ne' j2 h2] at f2
        exact Ma j2 zs _ h2 e2 f2 rfl
    · by_cases h2 : j2 = i
      · exfalso
        subst h2
        rw [se'] at f2; cases f2
        rw [ne j1 h1] at e1
        rw [ne' j1 h1] at f1
        exact Ma j1 ys _ h1 e1 f1 rfl
      · rw [ne j1 h1] at e1
        rw [ne' j1 h1] at f1
        rw [ne j2 h2] at e2
        rw [ne' j2 h2] at f2
        exact f.r.inj _ _ _ _ b e1 e2 f1 f2
  · have : j ≠ i := fun z => by
      subst z
      have := (List.getElem?_eq_some_iff.mp e).1
      omega
    rw [ne' j this]
    exact f.par j v e
  · have : j ≠ i := fun z => by
      subst z
      have := (List.getElem?_eq_some_iff.mp e).1
      omega
    rw [ne j this]
    exact f.pm j v e
theorem RF.hideE {F : Frm} {S M : Addr → Prop} {τ τ1 : DS} {σ : St} {H H' : Hp} (f : RF K F S M τ σ H) {a : Addr} (r1 : R K S M τ1 σ H') (c : Chg M H H') (lk : Like τ τ1) (ok : τ1.all okM = true) (ha : H a = none) (h' : ∃ o, H' a = some o ∧ OwH o) : RF K F (fun b => S b ∨ b = a) M τ1 σ H' := by
  have f1 := f.step r1 c lk
  have k : Keep S H (fun b => S b ∨ b = a) H' := fun b o hn e => ⟨fun z => z.elim hn (ne_of_none e ha), c b o (fun z => hn (f.r.sub b z)) e⟩
  have ts : TSm (hid S H') (hid (fun b => S b ∨ b = a) H') := tsame_hid fun b z => z.elim .inl fun z => by subst z; exact .inr h'
  refine ⟨⟨r1.len, fun j x e => ?_, fun j x e => ?_, fun j x e => ?_, r1.inj, fun b h => .inl (f.r.sub b h), fun b h => ?_⟩, fun b h => .inl (f.sS b h), f1.old, f.new, f.fm, f.fs, f.fsub, fun b h => h.elim (f.snew b) fun z => .inr (by rw [z]; exact f.hnone ha), f.par, f1.pm, f.fma⟩
  · obtain ⟨v, h1, h2⟩ := f.r.dat j x (((lk.2 j).1.1 x).mp e)
    exact ⟨v, h1, h2.mono k.same⟩
  · obtain ⟨b, vs, h1, h2, h3, h4⟩ := r1.mt j x e
    exact ⟨b, vs, h1, h2, h3, h4.monoT ts (List.all_eq_true.mp ok (some x.L) (List.mem_of_getElem? e))⟩
  · obtain ⟨b, vs, h1, h2, h3⟩ := f.r.cst j x (((lk.2 j).1.2 x).mp e)
    exact ⟨b, vs, h1, k.same.seq h2, h3.mono k.same⟩
  · rcases h with h | h
    · exact r1.ex b h
    · obtain ⟨vs, e, _⟩ := h'
      rw [h]; exact ⟨_, e⟩
theorem b_setM {fr : Bool} {i : Nat} {te : TE} {e : DX} (he : E K te true e) : B K np (tAsg te (gName i)) fr (dSetM np i e) := by
  intro F S M τ σ H D out hnp f ee q
  unfold dSetM at ee
  obtain ⟨⟨x, τ1⟩, e1, ee⟩ := Option.bind_eq_some_iff.mp ee
  dsimp only at ee
  split at ee
  · split at ee
    · rename_i xs hi
      cases ee
      refine he.run S M τ σ H _ _ τ1 f.r e1 fun v H1 r1 c1 i1 => ?_
      obtain ⟨ys, a, vs, e2, rfl, h1, h2, h3⟩ := i1
      obtain rfl := Ow.D_list e2
      have f1 := f.hideE r1 c1 (he.like _ _ _ e1) hi.2.2 h1 ⟨_, h2, h3.ho⟩
      have hM : ¬ M a := fun z => f.r.fresh h1 (f.r.sub a z)
      exact q _ _ _ _ (f1.newM (xs := .l _) hi.2.1 (Nat.le_trans hnp hi.1) (.inr rfl) hM (f.hnone h1) h2 h3) fun b o hn e => ⟨fun z => z.elim hn (ne_of_none e h1), c1 b o (fun z => hn (f.r.sub b z)) e⟩
    · cases ee
  · obtain ⟨m, em, ee⟩ := Option.bind_eq_some_iff.mp ee
    split at ee
    · rename_i hi
      cases ee
      refine he.run S M τ σ H _ _ τ1 f.r e1 fun v H1 r1 c1 i1 => ?_
      obtain ⟨ys, a, vs, e2, rfl, h1, h2, h3⟩ := i1
      obtain rfl := D_dict e2 em
      have f1 := f.hideE r1 c1 (he.like _ _ _ e1) hi.2.2 h1 ⟨_, h2, h3.ho⟩
      have hM : ¬ M a := fun z => f.r.fresh h1 (f.r.sub a z)
      exact q _ _ _ _ (f1.newM (xs := .t _) hi.2.1 (Nat.le_trans hnp hi.1) (.inr rfl) hM (f.hnone h1) h2 h3) fun b o hn e => ⟨fun z => z.elim hn (ne_of_none e h1), c1 b o (fun z => hn (f.r.sub b z)) e⟩
    · cases ee
  · cases ee
def dRet (e : DX) (τ : DS) : Option Out := (e τ).map fun p => .rt p.1 p.2
theorem b_ret {fr fe : Bool} {te : TE} {e : DX} (he : E K te fe e) (hf : fr = true → fe = true) : B K np (tRet te) fr (dRet e) := by
  intro F S M τ σ H D out hnp f ee q
  unfold dRet at ee
  obtain ⟨⟨x, τ1⟩, e1, ee⟩ := Option.map_eq_some_iff.mp ee
  cases ee
  refine he.run S M τ σ H _ x τ1 f.r e1 fun v H1 r1 c1 i1 => ?_
  exact q S M σ H1 v (f.step r1 c1 (he.like _ _ _ e1)) (f.res (i1.imp (fun _ => f.r.fresh) fr hf))
def dRetM (np i : Nat) (τ : DS) : Option Out := match τ[i]? with
  | some (some (.m xs)) => if np ≤ i then some (.rt (.list xs) τ) else none
  | some (some (.k xs)) => if np ≤ i then some (.rt (.dict (dctP xs)) τ) else none
  | _ => none
def dRetN (τ : DS) : Option Out := some (.rt .none τ)
def dExpr (e : DX) (τ : DS) : Option Out := (e τ).map fun p => .nx p.2
def dMt (i : Nat) (G : List PyData → List PyData → Option (PyData × List PyData)) (a : DA) (τ : DS) : Option (PyData × DS) := (a τ).bind fun p => (allD p.1).bind fun ds => match p.2[i]? with
  | some (some (.m xs)) => (G xs ds).map fun q => (q.1, p.2.set i (some (.m q.2)))
  | _ => none
theorem hid_upd {S : Addr → Prop} {H : Hp} {a : Addr} {o : HO} (h : S a) : hid S (upd H a o) = hid S H := by
  funext b
  unfold hid
  by_cases z : S b
  · rw [if_pos z, if_pos z]
  · rw [if_neg z, if_neg z, upd_ne (fun e => z (by rw [e]; exact h))]
def gAppend : List PyData → List PyData → Option (PyData × List PyData)
  | xs, [d] => if xs.length < sizeLine then some (.none, xs ++ [d]) else none
  | _, _ => none
def gExtend : List PyData → List PyData → Option (PyData × List PyData)
  | xs, [.list ys] => if xs.length + ys.length ≤ sizeLine then some (.none, xs ++ ys) else none
  | _, _ => none
def gClear : List PyData → List PyData → Option (PyData × List PyData)
  | _, [] => some (.none, [])
  | _, _ => none
theorem isl_set {H : Hp} : ∀ {xs : List PyData} {vs : List V} {j : Nat} {d : PyData} {v : V}, IsL K H xs vs → Is K H d v → IsL K H (xs.set j d) (vs.set j v)
  | [], _, _, _, _, h, _ => by rw [show _ = [] from h]; rfl
  | x :: xs, _, 0, d, v, ⟨u, us, e, h, l⟩, i => by subst e; exact ⟨v, us, rfl, i, l⟩
  | x :: xs, _, j + 1, d, v, ⟨u, us, e, h, l⟩, i => by subst e; exact ⟨u, us.set j v, rfl, h, isl_set l i⟩
def dSetI (i : Nat) (e k : DX) (τ : DS) : Option Out := (e τ).bind fun p => (k p.2).bind fun q => match q.2[i]?, q.1 with
  | some (some (.m xs)), .int n => (ixN xs.length n).map fun j => .nx (q.2.set i (some (.m (xs.set j p.1))))
  | _, _ => none
theorem b_setI {fr f1 f2 : Bool} {i : Nat} {te tk : TE} {e k : DX} (he : E K te f1 e) (hk : E K tk f2 k) : B K np (tAsg te (gSub (tVar i) tk rSetL)) fr (dSetI i e k) := by
  intro F S M τ σ H D out hnp f ee q
  unfold dSetI at ee
  obtain ⟨⟨x, τ1⟩, e1, ee⟩ := Option.bind_eq_some_iff.mp ee
  obtain ⟨⟨y, τ2⟩, e2, ee⟩ := Option.bind_eq_some_iff.mp ee
  dsimp only at ee
  split at ee
  · rename_i xs n hx
    obtain ⟨j, e3, ee⟩ := Option.map_eq_some_iff.mp ee
    cases ee
    have lk1 := he.like _ _ _ e1
    have lk2 := hk.like _ _ _ e2
    refine he.weak.run S M τ σ H _ x τ1 f.r e1 fun v H1 r1 c1 i1 => ?_
    obtain ⟨zs, hz⟩ := lk2.ml hx
    obtain ⟨p, us, hp, hM, _, _⟩ := r1.ml i zs hz
    refine ⟨.ref p, hp, hk.weak.run S M τ1 σ H1 _ _ τ2 r1 e2 fun w H2 r2 c2 i2 => ?_⟩
    obtain ⟨p', us', hp', hM', hl, ll⟩ := r2.ml i xs hx
    rw [hp] at hp'; cases hp'
    have Sp := r2.sub p hM'
    refine ⟨p, us', n, j, rfl, i2, hl, by rw [ll.length]; exact e3, ?_⟩
    have c : Chg (fun b => b = p) H2 (upd H2 p (.lst (us'.set j v))) := fun b o hn e => by rw [upd_ne hn]; exact e
    have iv : Is K (hid S H2) x v := Is.mono (c2.keep r1.sub).same i1
    have f2 := f.step r2 (c1.trans c2) (lk1.trans lk2)
    have r3 := r2.setM hx hp c upd_same (by rw [hid_upd Sp]; exact isl_set (j := j) ll iv)
    have c3 : Chg M H2 (upd H2 p (.lst (us'.set j v))) := fun b o hn e => c b o (fun z => hn (by subst z; exact hM')) e
    exact q S M σ _ (f2.step r3 c3 (like_setM hx)) (((c1.trans c2).trans c3).keep f.r.sub)
  · cases ee
theorem Gl.trans {F : Frm} {fr : Bool} {S S1 : Addr → Prop} {H H1 : Hp} {D : Ends} {o : Out} (k : Keep S H S1 H1) (h : Gl K F fr S H D o) : Gl K F fr S1 H1 D o := by
  cases o with
  | nx τ => exact fun S' M' σ' H' r k' => h S' M' σ' H' r (k.trans k')
  | bk τ => exact fun S' M' σ' H' r k' => h S' M' σ' H' r (k.trans k')
  | ct τ => exact fun S' M' σ' H' r k' => h S' M' σ' H' r (k.trans k')
  | rt d τ => exact fun S' M' σ' H' v r k' => h S' M' σ' H' v r k'
def dNil (τ : DS) : Option Out := some (.nx τ)
theorem b_nil {fr : Bool} : B K np tNext fr dNil := by
  intro F S M τ σ H D out hnp f ee q
  cases ee
  exact q S M σ H f .refl
def dSeq (a b : DB) (τ : DS) : Option Out := (a τ).bind fun o => match o with
  | .nx τ' => b τ'
  | o => some o
theorem b_seq {fr : Bool} {t u : TS} {a b : DB} (ha : B K np t fr a) (hb : B K np u fr b) : B K np (tSeq t u) fr (dSeq a b) := by
  intro F S M τ σ H D out hnp f ee q
  unfold dSeq at ee
  obtain ⟨o, e1, ee⟩ := Option.bind_eq_some_iff.mp ee
  refine ha F S M τ σ H _ o hnp f e1 ?_
  cases o with
  | nx τ1 => exact fun S' M' σ' H' r k => hb F S' M' τ1 σ' H' D out hnp r ee (q.trans k)
  | bk τ1 => cases ee; exact q
  | ct τ1 => cases ee; exact q
  | rt d τ1 => cases ee; exact q
def dIfS (c : DT) (a b : DB) (τ : DS) : Option Out := (c τ).bind fun p => if p.1 = true then a p.2 else b p.2
theorem b_if {fr : Bool} {tc : TT} {t u : TS} {c : DT} {a b : DB} (hc : T K tc c) (ha : B K np t fr a) (hb : B K np u fr b) : B K np (tIfS tc t u) fr (dIfS c a b) := by
  intro F S M τ σ H D out hnp f ee q
  unfold dIfS at ee
  obtain ⟨⟨k, τ1⟩, e1, ee⟩ := Option.bind_eq_some_iff.mp ee
  refine hc.run S M τ σ H _ k τ1 f.r e1 fun H1 r1 c1 => ?_
  have f1 := f.step r1 c1 (hc.like _ _ _ e1)
  cases k with
  | true => exact ha F S M τ1 σ H1 D out hnp f1 ee (q.trans (c1.keep f.r.sub))
  | false => exact hb F S M τ1 σ H1 D out hnp f1 ee (q.trans (c1.keep f.r.sub))
def dBrk (τ : DS) : Option Out := some (.bk τ)
def dCnt (τ : DS) : Option Out := some (.ct τ)
def dNever : DB := fun _ => none
theorem b_never {fr : Bool} : B K np tNever fr dNever := by
  intro F S M τ σ H D out hnp f ee q
  cases ee
def dLoop (g : DG) (b : DB) : List PyData → DS → Option Out
  | [], τ => some (.nx τ)
  | d :: ds, τ => (g d τ).bind fun τ1 => (b τ1).bind fun o => match o with
    | .nx τ2 => dLoop g b ds τ2
    | .ct τ2 => dLoop g b ds τ2
    | .bk τ2 => some (.nx τ2)
    | .rt d τ2 => some (.rt d τ2)
def dFor (it : DI) (g : DG) (b : DB) (τ : DS) : Option Out := (it τ).bind fun p => dLoop g b p.1 p.2
theorem b_for {fr : Bool} {wi : TI} {tg : TG} {tb : TS} {it : DI} {g : DG} {b : DB} (hi : IT K wi it) (hg : TG1 K tg g) (hb : B K np tb fr b) : B K np (tFor wi tg tb) fr (dFor it g b) := by
  intro F S M τ σ H D out hnp f ee q
  unfold dFor at ee
  obtain ⟨⟨ds, τ1⟩, e1, ee⟩ := Option.bind_eq_some_iff.mp ee
  refine hi.run S M τ σ H _ ds τ1 f.r e1 fun J H1 r1 c1 iJ => ?_
  have f1 := f.step r1 c1 (hi.like _ _ _ e1)
  have q1 := q.trans (c1.keep f.r.sub)
  refine ⟨fun i m σ' H' => m = ds.length - i ∧ i ≤ ds.length ∧ ∃ S' M' τ', RF K F S' M' τ' σ' H' ∧ Keep S H1 S' H' ∧ dLoop g b (ds.drop i) τ' = some out, ⟨ds.length, by simp, Nat.zero_le _, S, M, τ1, f1, .refl, by simpa using ee⟩, ?_⟩
  rintro i m σ' H' ⟨rfl, hil, S', M', τ', f', k', hl⟩
  obtain ⟨I1, I2⟩ := iJ _ _ k'
  by_cases hlt : i < ds.length
  · right
    have ed : ds[i]? = some ds[i] := List.getElem?_eq_getElem hlt
    obtain ⟨go, yl⟩ := I1 i _ ed
    refine ⟨go, fun σ2 H2 => ∃ S2 M2 τ2, RF K F S2 M2 τ2 σ2 H2 ∧ Keep S H1 S2 H2 ∧ dLoop g b (ds.drop (i + 1)) τ2 = some out, fun σ2 H2 h => ⟨ds.length - (i + 1), by omega, rfl, hlt, h⟩, fun x H2 y => ?_⟩
    obtain ⟨rfl, ix⟩ := yl x H2 y
    rw [List.drop_eq_getElem_cons hlt, dLoop] at hl
    obtain ⟨τ2, e2, hl⟩ := Option.bind_eq_some_iff.mp hl
    obtain ⟨o, e3, hl⟩ := Option.bind_eq_some_iff.mp hl
    refine hg.run S' M' τ' σ' H2 x _ τ2 _ f'.r ix e2 fun σ3 r3 k3 => ?_
    have f3 := f'.stay r3 (hg.ms _ _ _ e2) k3
    refine hb F S' M' τ2 σ3 H2 _ o hnp f3 e3 ?_
    cases o with
    | nx τ4 => exact fun S4 M4 σ4 H4 f4 k4 => ⟨S4, M4, τ4, f4, k'.trans k4, hl⟩
    | ct τ4 => exact fun S4 M4 σ4 H4 f4 k4 => ⟨S4, M4, τ4, f4, k'.trans k4, hl⟩
    | bk τ4 => cases hl; exact fun S4 M4 σ4 H4 f4 k4 => q1 S4 M4 σ4 H4 f4 (k'.trans k4)
    | rt d τ4 => cases hl; exact fun S4 M4 σ4 H4 v f4 k4 => q1 S4 M4 σ4 H4 v f4 k4
  · left
    have e : i = ds.length := by omega
    subst e
    rw [List.drop_length, dLoop] at hl
    cases hl
    exact ⟨I2 _ (Nat.le_refl _), q1 S' M' σ' H' f' k'⟩
def dWh (c : DT) (b : DB) : Nat → DS → Option Out
  | 0, _ => none
  | n + 1, τ => (c τ).bind fun p => if p.1 = true then (b p.2).bind fun o => (match o with
      | .nx τ2 => dWh c b n τ2
      | .ct τ2 => dWh c b n τ2
      | .bk τ2 => some (.nx τ2)
      | .rt d τ2 => some (.rt d τ2)) else some (.nx p.2)
def dWhile (n : DS → Nat) (c : DT) (b : DB) (τ : DS) : Option Out := dWh c b (n τ) τ
theorem b_while {fr : Bool} {n : DS → Nat} {tc : TT} {tb : TS} {c : DT} {b : DB} (hc : T K tc c) (hb : B K np tb fr b) : B K np (tWhile tc tb) fr (dWhile n c b) := by
  intro F S M τ σ H D out hnp f ee q
  unfold dWhile at ee
  refine ⟨fun m σ' H' => ∃ S' M' τ', RF K F S' M' τ' σ' H' ∧ Keep S H S' H' ∧ dWh c b m τ' = some out, ⟨n τ, S, M, τ, f, .refl, ee⟩, ?_⟩
  rintro m σ' H' ⟨S', M', τ', f', k', hl⟩
  cases m with
  | zero => cases hl
  | succ m =>
    rw [dWh] at hl
    obtain ⟨⟨k, τ1⟩, e1, hl⟩ := Option.bind_eq_some_iff.mp hl
    refine hc.run S' M' τ' σ' H' _ k τ1 f'.r e1 fun H1 r1 c1 => ?_
    have f1 := f'.step r1 c1 (hc.like _ _ _ e1)
    have k1 := k'.trans (c1.keep f'.r.sub)
    cases k with
    | false =>
      rw [if_neg Bool.false_ne_true] at hl ⊢
      cases hl
      exact q S' M' σ' H1 f1 k1
    | true =>
      rw [if_pos rfl] at hl ⊢
      obtain ⟨o, e3, hl⟩ := Option.bind_eq_some_iff.mp hl
      refine ⟨fun σ2 H2 => ∃ S2 M2 τ2, RF K F S2 M2 τ2 σ2 H2 ∧ Keep S H S2 H2 ∧ dWh c b m τ2 = some out, fun σ2 H2 h => ⟨m, Nat.lt_succ_self _, h⟩, ?_⟩
      refine hb F S' M' τ1 σ' H1 _ o hnp f1 e3 ?_
      cases o with
      | nx τ4 => exact fun S4 M4 σ4 H4 f4 k4 => ⟨S4, M4, τ4, f4, k1.trans k4, hl⟩
      | ct τ4 => exact fun S4 M4 σ4 H4 f4 k4 => ⟨S4, M4, τ4, f4, k1.trans k4, hl⟩
      | bk τ4 => cases hl; exact fun S4 M4 σ4 H4 f4 k4 => q S4 M4 σ4 H4 f4 (k1.trans k4)
      | rt d τ4 => cases hl; exact fun S4 M4 σ4 H4 v f4 k4 => q S4 M4 σ4 H4 v f4 k4
def fin : List L → DS → Option (List L)
  | [], _ => some []
  | .d x :: ls, _ :: τ => (fin ls τ).map (.d x :: ·)
  | .c x :: ls, _ :: τ => (fin ls τ).map (.c x :: ·)
  | .m _ :: ls, some (.m xs) :: τ => (fin ls τ).map (.m xs :: ·)
  | .k _ :: ls, some (.k xs) :: τ => (fin ls τ).map (.k xs :: ·)
  | _, _ => none
def dFun (fr : Bool) (np nl : Nat) (b : DB) (ls : List L) : Option (PyData × List L) := if ls.length = np then (b (ls.map some ++ List.replicate nl none)).bind fun o => match o with
    | .nx τ => if fr = true then none else (fin ls τ).map fun ls' => (.none, ls')
    | .rt d τ => (fin ls τ).map fun ls' => (d, ls')
    | _ => none
  else none
theorem fin_get : ∀ {ls : List L} {τ : DS} {ls' : List L} {i : Nat} {l : L}, fin ls τ = some ls' → ls'[i]? = some l → match l with
    | .d x => ls[i]? = some (.d x)
    | .c x => ls[i]? = some (.c x)
    | .m xs => (∃ ys, ls[i]? = some (.m ys)) ∧ τ[i]? = some (some (.m xs))
    | .k xs => (∃ ys, ls[i]? = some (.k ys)) ∧ τ[i]? = some (some (.k xs))
  | [], _, _, _, _, h, e => by cases h; simp at e
  | .d x :: ls, o :: τ, _, i, l, h, e => by
    obtain ⟨zs, h1, h⟩ := Option.map_eq_some_iff.mp h
    subst h
    cases i with
    | zero => cases e; rfl
    | succ i =>
      have := fin_get (i := i) (l := l) h1 (by simpa using e)
      cases l <;> simpa using this
  | .c x :: ls, o :: τ, _, i, l, h, e => by
    obtain ⟨zs, h1, h⟩ := Option.map_eq_some_iff.mp h
    subst h
    cases i with
    | zero => cases e; rfl
    | succ i =>
      have := fin_get (i := i) (l := l) h1 (by simpa using e)
      cases l <;> simpa using this
  | .m x :: ls, some (.m xs) :: τ, _, i, l, h, e => by
    obtain ⟨zs, h1, h⟩ := Option.map_eq_some_iff.mp h
    subst h
    cases i with
    | zero => cases e; exact ⟨⟨_, rfl⟩, rfl⟩
    | succ i =>
      have := fin_get (i := i) (l := l) h1 (by simpa using e)
      cases l <;> simpa using this
  | .k x :: ls, some (.k xs) :: τ, _, i, l, h, e => by
    obtain ⟨zs, h1, h⟩ := Option.map_eq_some_iff.mp h
    subst h
    cases i with
    | zero => cases e; exact ⟨⟨_, rfl⟩, rfl⟩
    | succ i =>
      have := fin_get (i := i) (l := l) h1 (by simpa using e)
      cases l <;> simpa using this
theorem fin_len : ∀ {ls : List L} {τ : DS} {ls' : List L}, fin ls τ = some ls' → ls'.length = ls.length
  | [], _, _, h => by cases h; rfl
  | .d x :: ls, o :: τ, _, h => by
    obtain ⟨zs, h1, h⟩ := Option.map_eq_some_iff.mp h
    subst h
    rw [List.length_cons, List.length_cons, fin_len h1]
  | .c x :: ls, o :: τ, _, h => by
    obtain ⟨zs, h1, h⟩ := Option.map_eq_some_iff.mp h
    subst h
    rw [List.length_cons, List.length_cons, fin_len h1]
  | .m x :: ls, some (.m xs) :: τ, _, h => by
    obtain ⟨zs, h1, h⟩ := Option.map_eq_some_iff.mp h
    subst h
    rw [List.length_cons, List.length_cons, fin_len h1]
  | .k x :: ls, some (.k xs) :: τ, _, h => by
    obtain ⟨zs, h1, h⟩ := Option.map_eq_some_iff.mp h
    subst h
    rw [List.length_cons, List.length_cons, fin_len h1]
theorem fin_own {ls : List L} {τ : DS} {ls' : List L} {i : Nat} {x : Ow} (h : fin ls τ = some ls') (e : ls'[i]? = some x.L) : (∃ ys : Ow, ls[i]? = some ys.L) ∧ τ[i]? = some (some x.L) := by
  cases x with
  | l xs => obtain ⟨⟨ys, h1⟩, h2⟩ := fin_get h e; exact ⟨⟨.l ys, h1⟩, h2⟩
  | t xs => obtain ⟨⟨ys, h1⟩, h2⟩ := fin_get h e; exact ⟨⟨.t ys, h1⟩, h2⟩
theorem at_map {α β : Type} {f : α → β} {xs : List α} {i : Nat} {y : β} (h : (xs.map f)[i]? = some y) : ∃ x, xs[i]? = some x ∧ f x = y := by
  rw [List.getElem?_map] at h
  cases e : xs[i]? with
  | none => rw [e] at h; cases h
  | some x => rw [e] at h; exact ⟨x, rfl, Option.some.inj h⟩
theorem fn_len {G : List L → Option (PyData × List L)} {fr : Bool} {vs : List V} {H : Hp} {Q : VK} {X : XK} {np : Nat} (hG : ∀ ls r, G ls = some r → ls.length = np) (h : spD K G fr vs H Q X) : vs.length = np := by
  obtain ⟨S, M, ls, r, ls', hR, e, _⟩ := h
  have := hR.len
  rw [List.length_map, List.length_map] at this
  rw [this, hG _ _ e]
theorem dFun_len {fr : Bool} {np nl : Nat} {b : DB} : ∀ ls r, dFun fr np nl b ls = some r → ls.length = np := fun ls r h => by
  unfold dFun at h
  split at h
  · assumption
  · cases h
theorem fn_run {np nl : Nat} {t : TS} {fr : Bool} {b : DB} {N : List Str} {vs : List V} {H : Hp} {Q : VK} {X : XK} (hb : B K np t fr b) (hN : N.length = np + nl) (h : spD K (dFun fr np nl b) fr vs H Q X) : t { nx := fun _ H' => Q .non H', rt := Q } (L2.start N vs) H := by
  obtain ⟨S, M, ls, r, ls', hR, e, q⟩ := h
  have hlen := dFun_len _ _ e
  have hvl : vs.length = ls.length := by have := hR.len; rw [List.length_map, List.length_map] at this; exact this
  unfold dFun at e
  rw [if_pos hlen] at e
  obtain ⟨o, e1, e⟩ := Option.bind_eq_some_iff.mp e
  have est : L2.start N vs = vs.map some ++ List.replicate nl none := by
    unfold L2.start
    rw [hN, hvl, hlen, Nat.add_sub_cancel_left]
  rw [est]
  -- the entry
  have lsm : ∀ (i : Nat) (l : L), (ls.map some ++ List.replicate nl none : DS)[i]? = some (some l) → ls[i]? = some l := fun i l h => by
    by_cases hi : i < ls.length
    · rw [List.getElem?_append_left (by rw [List.length_map]; exact hi)] at h
      obtain ⟨x, h1, h2⟩ := at_map h
      cases h2; exact h1
    · rw [List.getElem?_append_right (by rw [List.length_map]; omega), List.getElem?_replicate] at h
      split at h <;> cases h
  have vsm : ∀ (i : Nat) (v : V), (vs.map some)[i]? = some (some v) → (vs.map some ++ List.replicate nl none : St)[i]? = some (some v) := fun i v h => by
    rw [List.getElem?_append_left (List.getElem?_eq_some_iff.mp h).1]; exact h
  have vsb : ∀ (i : Nat) (v : V), (vs.map some ++ List.replicate nl none : St)[i]? = some (some v) → (vs.map some)[i]? = some (some v) := fun i v h => by
    by_cases hi : i < (vs.map some).length
    · rw [List.getElem?_append_left hi] at h; exact h
    · rw [List.getElem?_append_right (by omega), List.getElem?_replicate] at h
      split at h <;> cases h
  have lm : ∀ (i : Nat) (l : L), ls[i]? = some l → (ls.map some)[i]? = some (some l) := fun i l h => by rw [List.getElem?_map, h]; rfl
  let Mx : Addr → Prop := fun a => ∃ (i : Nat) (xs : Ow), ls[i]? = some xs.L ∧ vs[i]? = some (.ref a)
  let ar : List (Option V) := (ls.zip vs).map fun p => match p.1 with
    | .m _ => some p.2
    | .k _ => some p.2
    | _ => none
  have arg : ∀ (i : Nat) (v : V), ar[i]? = some (some v) → ∃ xs : Ow, ls[i]? = some xs.L ∧ vs[i]? = some v := fun i v h => by
    obtain ⟨⟨l, u⟩, h1, h2⟩ := at_map h
    rw [List.getElem?_zip_eq_some] at h1
    cases l with
    | d x => cases h2
    | c x => cases h2
    | m xs => cases h2; exact ⟨.l xs, h1.1, h1.2⟩
    | k xs => cases h2; exact ⟨.t xs, h1.1, h1.2⟩
  have gar : ∀ (i : Nat) (xs : Ow) (v : V), ls[i]? = some xs.L → vs[i]? = some v → ar[i]? = some (some v) := fun i xs v h1 h2 => by
    show ((ls.zip vs).map _)[i]? = _
    rw [List.getElem?_map, (List.getElem?_zip_eq_some (z := (xs.L, v))).mpr ⟨h1, h2⟩]
    cases xs <;> rfl
  have Msub : ∀ a, Mx a → M a := fun a ⟨i, xs, h1, h2⟩ => by
    obtain ⟨b', us, h3, h4, _⟩ := hR.mt i xs (lm i _ h1)
    rw [List.getElem?_map, h2] at h3
    cases h3; exact h4
  have f0 : RF K ⟨S, Mx, H, ar⟩ S Mx (ls.map some ++ List.replicate nl none) (vs.map some ++ List.replicate nl none) H := by
    refine ⟨⟨by simp [hvl], fun i x h => ?_, fun i x h => ?_, fun i x h => ?_, fun i j xs ys a h1 h2 h3 h4 => hR.inj i j xs ys a (lm _ _ (lsm _ _ h1)) (lm _ _ (lsm _ _ h2)) (vsb _ _ h3) (vsb _ _ h4), fun a h => hR.sub a (Msub a h), hR.ex⟩,
      fun a h => h, fun b o h _ => h, fun a h => .inl h, fun a h => h, hR.ex, fun a h => hR.sub a (Msub a h), fun a h => .inl h, fun i v h => ?_, fun i v h => ?_, fun a ⟨i, xs, h1, h2⟩ => ⟨i, gar i xs _ h1 h2⟩⟩
    · obtain ⟨v, h1, h2⟩ := hR.dat i x (lm _ _ (lsm _ _ h))
      exact ⟨v, vsm _ _ h1, h2⟩
    · obtain ⟨a, us, h1, h2, h3, h4⟩ := hR.mt i x (lm _ _ (lsm _ _ h))
      refine ⟨a, us, vsm _ _ h1, ⟨i, x, lsm _ _ h, ?_⟩, h3, h4⟩
      obtain ⟨v, h5, h6⟩ := at_map h1
      cases h6; exact h5
    · obtain ⟨a, us, h1, h2⟩ := hR.cst i x (lm _ _ (lsm _ _ h))
      exact ⟨a, us, vsm _ _ h1, h2⟩
    · obtain ⟨xs, h1, h2⟩ := arg i v h
      exact vsm _ _ (by rw [List.getElem?_map, h2]; rfl)
    · obtain ⟨xs, h1, h2⟩ := arg i v h
      refine ⟨xs, ?_⟩
      rw [List.getElem?_append_left (by rw [List.length_map]; exact (List.getElem?_eq_some_iff.mp h1).1)]
      exact lm _ _ h1
  have hnp : ar.length ≤ np := by
    show ((ls.zip vs).map _).length ≤ np
    rw [List.length_map, List.length_zip]
    omega
  -- the end
  have done : ∀ {S' M' τ' σ' H' d v} {ls1 : List L}, RF K ⟨S, Mx, H, ar⟩ S' M' τ' σ' H' → fin ls τ' = some ls1 → (r, ls') = (d, ls1) → Res K fr S H H' d v → Q v H' := fun {S' M' τ' σ' H' d v ls1} f hf er res => by
    cases er
    have k : Keep S H S H' := fun b o hn e => ⟨hn, f.old b o e fun z => hn (hR.sub b (Msub b z))⟩
    refine q v H' ⟨?_, fun i x h => ?_, fun i x h => ?_, fun i x h => ?_, fun i j xs ys a h1 h2 h3 h4 => ?_, hR.sub, fun a h => f.r.ex a (f.sS a h)⟩ (fun b o hn e => f.old b o e fun z => hn (Msub b z)) res
    · rw [List.length_map, List.length_map, fin_len hf, hvl]
    · obtain ⟨l, h1, h2⟩ := at_map h
      cases h2
      have := fin_get hf h1
      obtain ⟨v, h3, h4⟩ := hR.dat i x (lm _ _ this)
      exact ⟨v, h3, h4.mono k.same⟩
    · obtain ⟨l, h1, h2⟩ := at_map h
      cases h2
      obtain ⟨⟨ys, h3⟩, h4⟩ := fin_own hf h1
      obtain ⟨a, us, h5, h6, h7, h8⟩ := f.r.mt i x h4
      obtain ⟨b, ws, g1, g2, _⟩ := hR.mt i ys (lm _ _ h3)
      obtain ⟨u, g3, g4⟩ := at_map g1
      cases g4
      have := f.par i _ (gar i ys _ h3 g3)
      rw [h5] at this; cases this
      exact ⟨a, us, g1, g2, h7, h8.mono (hid_less f.sS)⟩
    · obtain ⟨l, h1, h2⟩ := at_map h
      cases h2
      have := fin_get hf h1
      obtain ⟨a, us, h3, h4, h5⟩ := hR.cst i x (lm _ _ this)
      exact ⟨a, us, h3, k.same.seq h4, h5.mono k.same⟩
    · obtain ⟨l1, g1, g2⟩ := at_map h1
      obtain ⟨l2, g3, g4⟩ := at_map h2
      cases g2; cases g4
      obtain ⟨⟨zs, h5⟩, _⟩ := fin_own hf g1
      obtain ⟨⟨ws, h6⟩, _⟩ := fin_own hf g3
      exact hR.inj i j zs ws a (lm _ _ h5) (lm _ _ h6) h3 h4
  refine hb ⟨S, Mx, H, ar⟩ S Mx _ _ H _ o hnp f0 e1 ?_
  cases o with
  | nx τ' =>
    cases fr with
    | false =>
      obtain ⟨ls1, e2, e⟩ := Option.map_eq_some_iff.mp e
      intro S' M' σ' H' f k
      exact done f e2 e.symm rfl
    | true => cases e
  | bk τ' => cases e
  | ct τ' => cases e
  | rt d τ' =>
    obtain ⟨ls1, e2, e⟩ := Option.map_eq_some_iff.mp e
    intro S' M' σ' H' v f res
    exact done f e2 e.symm res
end DL
end
section
set_option Elab.async false
set_option linter.all false
set_option maxRecDepth 100000
namespace DL
open PySem L2 PyProof.Rows
variable {K : PySem.W.Frag}
def fLen : List PyData → Option PyData
  | [.list xs] => some (.int xs.length)
  | [.tuple xs] => some (.int xs.length)
  | [.str x] => if x.length ≤ sizeLine then some (.int x.length) else none
  | _ => none
theorem c_len : BR K false (fun xs H Q => ∃ x n, xs = [x] ∧ LenV K x H n ∧ Q (.int n) H) fLen := by
  intro S H vs ds d Q _ l e q
  unfold fLen at e
  split at e
  · cases e
    obtain ⟨v, us, rfl, ⟨a, ws, rfl, h, lw⟩, iu⟩ := l
    cases (show us = [] from iu)
    exact ⟨_, ws.length, rfl, .inl ⟨ws, SqL.of (hid_iff.mp h).2, rfl⟩, q _ H (fun _ _ e => e) (by rw [lw.length]; rfl)⟩
  · cases e
    obtain ⟨v, us, rfl, ⟨a, ws, rfl, h, lw⟩, iu⟩ := l
    cases (show us = [] from iu)
    exact ⟨_, ws.length, rfl, .inr ⟨ws, Same.tup same_hid h, rfl⟩, q _ H (fun _ _ e => e) (by rw [lw.length]; rfl)⟩
  · split at e
    · rename_i hz
      cases e
      obtain ⟨v, us, rfl, iv, iu⟩ := l
      cases (show us = [] from iu)
      cases (show v = .str _ from iv)
      exact ⟨_, _, rfl, ⟨hz, rfl⟩, q _ H (fun _ _ e => e) rfl⟩
    · cases e
  · cases e
def f1 (g : Int → Int) : List PyData → Option PyData
  | [.int i] => some (.int (g i))
  | _ => none
def f2 (g : Int → Int → Int) : List PyData → Option PyData
  | [.int i, .int j] => some (.int (g i j))
  | _ => none
theorem c_1 {g : Int → Int} : BR K false (fun xs H Q => ∃ i, xs = [.int i] ∧ Q (.int (g i)) H) (f1 g) := by
  intro S H vs ds d Q _ l e q
  unfold f1 at e
  split at e
  · cases e
    obtain ⟨v, us, rfl, iv, iu⟩ := l
    cases (show us = [] from iu)
    cases (show v = .int _ from iv)
    exact ⟨_, rfl, q _ H (fun _ _ e => e) rfl⟩
  · cases e
def fAbs := f1 fun i => if i < 0 then -i else i
def fMax2 := f2 fun i j => if j > i then j else i
def fMin2 := f2 fun i j => if j < i then j else i
theorem c_abs : BR K false (fun xs H Q => ∃ i, xs = [.int i] ∧ Q (.int (if i < 0 then -i else i)) H) fAbs := c_1
def fInt1 : List PyData → Option PyData
  | [.int i] => some (.int i)
  | [.bool b] => some (.int (if b then 1 else 0))
  | _ => none
def fListOf : List PyData → Option PyData
  | [.list xs] => some (.list xs)
  | [.tuple xs] => some (.list xs)
  | _ => none
def tyN : PyData → String
  | .none => "NoneType"
  | .bool _ => "bool"
  | .int _ => "int"
  | .str _ => "str"
  | .list _ => "list"
  | .tuple _ => "tuple"
  | .dict _ => "dict"
def rIsi (K : PySem.W.Frag) : List V → Hp → VK → Prop := fun xs H Q => ∃ x T d b, xs = [x, .ty T] ∧ Is K H d x ∧ PySem.W.kitOne K (.type (tyN d)) (.type T) = some b ∧ Q (.bl b) H
theorem call_isiK {X : Cx} : CallR X (.builtin "isinstance") (rIsi X.K) := by
  intro pins s σ H xs us Q I r h
  obtain ⟨x, T, d, b, rfl, ix, k, q⟩ := h
  obtain ⟨u, w', rfl, rx, rT⟩ := vals2 r
  cases (show w' = Value.type T from rT)
  have fin : ∀ tk, EP X pins σ Q (.bool b) { s with toks := tk } := fun tk => ⟨.bl b, H, I.tok _, rfl, q⟩
  cases d with
  | none => cases (show x = .non from ix); exact isinst_ok I rx .non k fin
  | bool y => cases (show x = .bl y from ix); exact isinst_ok I rx (.bl y) k fin
  | int y => cases (show x = .int y from ix); exact isinst_ok I rx (.int y) k fin
  | str y => cases (show x = .str y from ix); exact isinst_ok I rx (.str y) k fin
  | list y => obtain ⟨a, vs, rfl, h, _⟩ := ix; exact isinst_ok I rx (.lst h) k fin
  | tuple y =>
    obtain ⟨a, vs, rfl, h, _⟩ := ix
    cases (show u = Value.ref a from rx)
    obtain ⟨its, _, ⟨o, h1, h2, _⟩, _⟩ := I.tuple h
    exact PySem.W.kia_one PySem.W.kitx_tuple I.kIn ⟨o, h1, h2⟩ k (fun z => nomatch z) fin
  | dict y =>
    obtain ⟨a, ts, rfl, h, _⟩ := ix
    cases (show u = Value.ref a from rx)
    obtain ⟨⟨_, _, _, xs, pr, o, es, ep, ho, he, hd, hes⟩, _, _⟩ := (show ObjOk X.prog X.w H s.heap a (.ext (phiD a ts)) from I.hok a _ h)
    exact PySem.W.kia_one PySem.W.kitx_dict I.kIn ⟨o, ho, he.1⟩ k (fun z => nomatch z) fin
def isiT (T t : String) : Bool := t == T || (T == "int" && t == "bool")
def isiD (T : String) (d : PyData) : Bool := isiT T (tyN d)
def tyOk (T : String) : Bool := ["int", "bool", "str", "list", "tuple"].contains T
theorem kit_names {T t : String} (hT : T ∈ ["int", "bool", "str", "list", "tuple"]) (ht : t ∈ ["NoneType", "bool", "int", "str", "list", "tuple", "dict"]) : PySem.W.kitOne K (.type t) (.type T) = some (isiT T t) := by
  simp only [List.mem_cons, List.not_mem_nil, or_false] at hT ht
  rcases hT with rfl | rfl | rfl | rfl | rfl <;> rcases ht with rfl | rfl | rfl | rfl | rfl | rfl | rfl <;> first
    | exact kit_same _
    | exact kit_ty (by decide +kernel) (by decide +kernel) (by decide +kernel)
theorem kit_all {T : String} {d : PyData} (h : tyOk T = true) : PySem.W.kitOne K (.type (tyN d)) (.type T) = some (isiD T d) :=
  kit_names (by simpa [tyOk] using h) (by cases d <;> simp [tyN])
def dIsi (T : String) (a : DX) (τ : DS) : Option (PyData × DS) := (a τ).bind fun p => if tyOk T then some (.bool (isiD T p.1), p.2) else none
theorem e_isi {T : String} {fr : Bool} {t : TE} {a : DX} (ha : E K t fr a) : E K (tCB (rIsi K) (tCons t (tCons (tC (.ty T)) tNil))) false (dIsi T a) := by
  refine ⟨fun τ d τ' e => ?_, ?_⟩
  · unfold dIsi at e
    obtain ⟨⟨x, τ1⟩, e1, e⟩ := Option.bind_eq_some_iff.mp e
    split at e
    · cases e; exact ha.like _ _ _ e1
    · cases e
  intro S M τ σ H Q d τ' r e q
  unfold dIsi at e
  obtain ⟨⟨x, τ1⟩, e1, e⟩ := Option.bind_eq_some_iff.mp e
  split at e
  · rename_i hT
    cases e
    refine ha.weak.run S M τ σ H _ x _ r e1 fun v H1 r1 c1 i1 => ?_
    exact ⟨v, T, x, _, rfl, Is.mono same_hid i1, kit_all hT, q _ H1 r1 c1 rfl⟩
  · cases e
def dPar (i j : Nat) (a : DA) (τ : DS) : Option Out := (a τ).bind fun p => (allD p.1).bind fun ds => match ds with
  | [x, y] => (dN i x p.2).bind fun τ1 => (dN j y τ1).map .nx
  | _ => none
theorem b_par {np : Nat} {fr : Bool} {i j : Nat} {ta : TA} {a : DA} (ha : A K ta a) : B K np (tPar i j ta) fr (dPar i j a) := by
  intro F S M τ σ H D out hnp f ee q
  unfold dPar at ee
  obtain ⟨⟨x, τ1⟩, e1, ee⟩ := Option.bind_eq_some_iff.mp ee
  obtain ⟨ds, e2, ee⟩ := Option.bind_eq_some_iff.mp ee
  split at ee
  · rename_i x y
    obtain ⟨τ2, e3, ee⟩ := Option.bind_eq_some_iff.mp ee
    obtain ⟨τ3, e4, ee⟩ := Option.map_eq_some_iff.mp ee
    cases ee
    refine ha.run S M τ σ H _ _ τ1 f.r e1 fun vs H1 r1 c1 i1 => ?_
    obtain ⟨v, us, rfl, iv, w, us', rfl, iw, iu⟩ := allD_is i1 e2
    cases (show us' = [] from iu)
    refine ⟨v, w, rfl, ?_⟩
    have f1 := f.step r1 c1 (ha.like _ _ _ e1)
    refine (g_name (K := K) (i := i)).run S M τ1 σ H1 v x τ2 (fun σ' H' => D.nx (σ'.set j (some w)) H') r1 iv e3 fun σ2 r2 k2 => ?_
    have f2 := f1.stay r2 ((g_name (K := K) (i := i)).ms _ _ _ e3) k2
    refine (g_name (K := K) (i := j)).run S M τ2 σ2 H1 w y τ3 (fun σ' H' => D.nx σ' H') r2 iw e4 fun σ3 r3 k3 => ?_
    exact q S M σ3 H1 (f2.stay r3 ((g_name (K := K) (i := j)).ms _ _ _ e4) k3) (c1.keep f.r.sub)
  · cases ee
end DL
end
section
set_option Elab.async false
set_option linter.all false
set_option maxRecDepth 100000
namespace DL
open PySem L2
variable {K : PySem.W.Frag}
def dTBor (i : Nat) (f : DT) (τ : DS) : Option (Bool × DS) := match τ[i]? with
  | some (some (.m xs)) => (f (τ.set i (some (.d (.list xs))))).bind fun q => if q.2.all okM then some (q.1, q.2.set i (some (.m xs))) else none
  | some (some (.k xs)) => (f (τ.set i (some (.d (.dict (dctP xs)))))).bind fun q => if q.2.all okM then some (q.1, q.2.set i (some (.k xs))) else none
  | _ => none
def dYes (τ : DS) : Option (Bool × DS) := some (true, τ)
end DL
end
section
set_option Elab.async false
set_option linter.all false
set_option maxRecDepth 100000
namespace DL
open PySem L2
theorem fin_nil {τ : DS} : fin [] τ = some [] := by cases τ <;> rfl
theorem fin_d {x : PyData} {ls : List L} {o : Option L} {τ : DS} : fin (.d x :: ls) (o :: τ) = (fin ls τ).map (.d x :: ·) := rfl
theorem fin_c {x : List PyData} {ls : List L} {o : Option L} {τ : DS} : fin (.c x :: ls) (o :: τ) = (fin ls τ).map (.c x :: ·) := rfl
theorem fin_m {x xs : List PyData} {ls : List L} {τ : DS} : fin (.m x :: ls) (some (.m xs) :: τ) = (fin ls τ).map (.m xs :: ·) := rfl
theorem fun_rt {fr : Bool} {np nl : Nat} {b : DB} {ls ls' : List L} {d : PyData} {τ : DS} (h : b (ls.map some ++ List.replicate nl none) = some (.rt d τ)) (hl : ls.length = np) (hf : fin ls τ = some ls') : dFun fr np nl b ls = some (d, ls') := by
  unfold dFun
  rw [if_pos hl, h]
  show (fin ls τ).map _ = _
  rw [hf]
  rfl
theorem seq_nx {a b : DB} {τ τ1 : DS} (h : a τ = some (.nx τ1)) : dSeq a b τ = b τ1 := by
  unfold dSeq
  rw [h]
  rfl
theorem seq_rt {a b : DB} {τ τ1 : DS} {d : PyData} (h : a τ = some (.rt d τ1)) : dSeq a b τ = some (.rt d τ1) := by
  unfold dSeq
  rw [h]
  rfl
theorem asg_nx {e : DX} {g : DG} {τ τ1 τ2 : DS} {d : PyData} (h : e τ = some (d, τ1)) (k : g d τ1 = some τ2) : dAsg e g τ = some (.nx τ2) := by
  unfold dAsg
  rw [h]
  show (g d τ1).map _ = _
  rw [k]
  rfl
theorem ret_rt {e : DX} {τ τ1 : DS} {d : PyData} (h : e τ = some (d, τ1)) : dRet e τ = some (.rt d τ1) := by
  unfold dRet
  rw [h]
  rfl
theorem ifs_t {c : DT} {a b : DB} {τ τ1 : DS} (h : c τ = some (true, τ1)) : dIfS c a b τ = a τ1 := by
  unfold dIfS
  rw [h]
  rfl
theorem ifs_f {c : DT} {a b : DB} {τ τ1 : DS} (h : c τ = some (false, τ1)) : dIfS c a b τ = b τ1 := by
  unfold dIfS
  rw [h]
  rfl
theorem call_eq {G : List L → Option (PyData × List L)} {a : DA} {τ τ1 : DS} {rs : List Ar} {ds : List PyData} {r : PyData} {ls : List L} (h : a τ = some (rs, τ1)) (k : allD rs = some ds) (g : G (ds.map L.d) = some (r, ls)) : dCall G a τ = some (r, τ1) := by
  unfold dCall
  rw [h]
  show (allD rs).bind _ = _
  rw [k]
  show (G (ds.map L.d)).map _ = _
  rw [g]
  rfl
theorem callM_eq {i : Nat} {G : List L → Option (PyData × List L)} {a : DA} {τ τ1 : DS} {rs : List Ar} {ds : List PyData} {r : PyData} {ls : List L} {xs xs' : List PyData} (h : a τ = some (rs, τ1)) (k : allD rs = some ds) (m : τ1[i]? = some (some (.m xs))) (g : G (.m xs :: ds.map L.d) = some (r, .m xs' :: ls)) : dCallM i G a τ = some (r, τ1.set i (some (.m xs'))) := by
  unfold dCallM
  rw [h]
  show (allD rs).bind _ = _
  rw [k]
  dsimp only [Option.bind]
  rw [m]
  dsimp only
  rw [g]
theorem callC_eq {i : Nat} {G : List L → Option (PyData × List L)} {a : DA} {τ τ1 : DS} {rs : List Ar} {ds : List PyData} {r : PyData} {ls : List L} {xs : List PyData} (h : a τ = some (rs, τ1)) (k : allD rs = some ds) (m : τ1[i]? = some (some (.c xs))) (g : G (.c xs :: ds.map L.d) = some (r, ls)) : dCallC i G a τ = some (r, τ1) := by
  unfold dCallC
  rw [h]
  show (allD rs).bind _ = _
  rw [k]
  show (match τ1[i]? with | some (some (.c xs)) => _ | _ => _) = _
  rw [m]
  show (G (.c xs :: ds.map L.d)).map _ = _
  rw [g]
  rfl
theorem for_eq {it : DI} {g : DG} {b : DB} {τ τ1 : DS} {ds : List PyData} (h : it τ = some (ds, τ1)) : dFor it g b τ = dLoop g b ds τ1 := by
  unfold dFor
  rw [h]
  rfl
theorem loop_list {α : Type} {enc : α → PyData} {g : DG} {b : DB} (J : List α → DS → Prop) : ∀ {xs pre : List α} {τ : DS}, J pre τ → (∀ x pre τ, x ∈ xs → J pre τ → ∃ τ1 τ2, g (enc x) τ = some τ1 ∧ b τ1 = some (.nx τ2) ∧ J (pre ++ [x]) τ2) → ∃ τ', dLoop g b (xs.map enc) τ = some (.nx τ') ∧ J (pre ++ xs) τ'
  | [], pre, τ, h0, _ => ⟨τ, rfl, by rw [List.append_nil]; exact h0⟩
  | x :: xs, pre, τ, h0, h => by
    obtain ⟨τ1, τ2, e1, e2, h1⟩ := h x pre τ List.mem_cons_self h0
    obtain ⟨τ', e3, h3⟩ := loop_list J (xs := xs) (pre := pre ++ [x]) (τ := τ2) h1 (fun y p t hy hj => h y p t (List.mem_cons_of_mem _ hy) hj)
    refine ⟨τ', ?_, by rw [List.append_assoc] at h3; exact h3⟩
    rw [List.map_cons, dLoop, e1]
    show (b τ1).bind _ = _
    rw [e2]
    exact e3
theorem sz {n : Nat} (h : n ≤ 1000) : n ≤ sizeLine := Nat.le_trans h (by decide)
theorem sz' {n : Nat} (h : n ≤ 1000) : (n ≤ sizeLine) = True := eq_true (sz h)
theorem bd_small {m : Int} (h0 : 0 < m) (h1 : m < 10 ^ 70) : Bd 8000 m := by
  have : Bd 240 m := Bd.of (m := 10 ^ 70) (by omega) (by omega) (by decide)
  exact this.mono (by decide)
theorem cst_same {K : PySem.W.Frag} {H : Hp} {a : Addr} {xs : List V} (h : SqL K H a xs) : SqL K (hid (fun _ => False) H) a xs := Same.seq (fun b o e => hid_iff.mpr ⟨fun z => z, e⟩) h
theorem isl_ints {K : PySem.W.Frag} {H : Hp} : ∀ ns : List Int, IsL K H (ns.map PyData.int) (ns.map V.int)
  | [] => rfl
  | _ :: ns => ⟨_, _, rfl, rfl, isl_ints ns⟩
structure Enc {α : Type} [DecidableEq α] (enc : α → PyData) : Prop where
  eqv : ∀ a b, PyData.eqv (enc a) (enc b) = decide (a = b)
  can : ∀ a, (enc a).canLay0 = true
  dep : ∀ a, (enc a).depth ≤ 20
  fix : ∀ a, fixD (enc a) = true
section
variable {α : Type} [DecidableEq α] {enc : α → PyData}
theorem Enc.ok (h : Enc enc) (a : α) : okD (enc a) = true := by
  unfold okD SeqAt.shaped
  rw [Bool.and_eq_true]
  exact ⟨h.can a, decide_eq_true (Nat.le_trans (h.dep a) (by decide))⟩
theorem Enc.any (h : Enc enc) (x : α) : ∀ xs : List α, ((xs.map enc).any fun y => PyData.eqv y (enc x)) = decide (x ∈ xs)
  | [] => by simp
  | y :: ys => by
    rw [List.map_cons, List.any_cons, h.eqv, Enc.any h x ys]
    by_cases e : y = x
    · subst e; simp
    · have : ¬ x = y := fun z => e z.symm
      simp [e, this]
theorem Enc.fEq (h : Enc enc) (a b : α) : DL.fEq (enc a) (enc b) = some (.bool (decide (a = b))) := by
  unfold DL.fEq; rw [h.ok, h.ok, h.eqv]; rfl
theorem Enc.fNe (h : Enc enc) (a b : α) : DL.fNe (enc a) (enc b) = some (.bool (!decide (a = b))) := by
  unfold DL.fNe; rw [h.ok, h.ok, h.eqv]; rfl
end
theorem encI : Enc (α := Int) PyData.int := ⟨fun a b => by rw [PyData.eqv]; by_cases h : a = b <;> simp [h], fun _ => rfl, fun _ => by rw [PyData.depth]; decide, fun _ => rfl⟩
structure Bx where
  x : Int
  y : Int
  w : Int
  h : Int
  deriving DecidableEq
def eb (b : Bx) : PyData := .tuple [.int b.x, .int b.y, .int b.w, .int b.h]
end DL
end
section
set_option Elab.async false
set_option linter.all false
namespace DL
open PySem L2
def rng (lo : Int) (n : Nat) : List Int := (List.range n).map fun (k : Nat) => lo + (k : Int)
theorem rangeD_eq (lo : Int) (n : Nat) : rangeD lo n = (rng lo n).map PyData.int := by
  unfold rangeD rng
  rw [List.map_map]
  rfl
theorem mem_rng {lo v n : Int} : v ∈ rng lo n.toNat ↔ lo ≤ v ∧ v < lo + n := by
  unfold rng
  rw [List.mem_map]
  constructor
  · rintro ⟨k, hk, rfl⟩
    rw [List.mem_range] at hk
    omega
  · rintro ⟨h1, h2⟩
    exact ⟨(v - lo).toNat, by rw [List.mem_range]; omega, by omega⟩
abbrev Cl := Int × Int
def rowC (x v : Int) (w : Nat) : List Cl := (rng x w).map fun u => (u, v)
def cells (b : Bx) : List Cl := (rng b.y b.h.toNat).flatMap fun v => rowC b.x v b.w.toNat
def inB (b : Bx) (p : Cl) : Prop := b.x ≤ p.1 ∧ p.1 < b.x + b.w ∧ b.y ≤ p.2 ∧ p.2 < b.y + b.h
instance {b : Bx} {p : Cl} : Decidable (inB b p) := by unfold inB; infer_instance
def nM (o : Option L) : Prop := (∀ xs, o ≠ some (.m xs)) ∧ ∀ xs, o ≠ some (.k xs)
theorem nM_none : nM none := ⟨fun xs z => (nomatch z), fun xs z => (nomatch z)⟩
theorem nM_d {x : PyData} : nM (some (.d x)) := ⟨fun xs z => (nomatch z), fun xs z => (nomatch z)⟩
theorem dN_eq {i : Nat} {d : PyData} {τ : DS} {o : Option L} (h : τ[i]? = some o) (hn : nM o) : dN i d τ = some (τ.set i (some (.d d))) := by
  unfold dN
  rw [h]
  cases o with
  | none => rfl
  | some l => cases l with
    | m xs => exact absurd rfl (hn.1 xs)
    | k xs => exact absurd rfl (hn.2 xs)
    | d x => rfl
    | c x => rfl
end DL
end
section
set_option Elab.async false
set_option linter.all false
set_option maxRecDepth 100000
namespace DL
open PySem L2
variable {K : PySem.W.Frag}
def isC (τ : DS) (j : Nat) : Bool := match τ[j]? with
  | some (some (.c _)) => true
  | _ => false
def dAS (i : Nat) (r : DA) (τ : DS) : Option (List Ar × DS) := if (isM τ i || isC τ i) = true then (r τ).map fun q => (.s i :: q.1, q.2) else none
def mkL (τ : DS) : List Ar → Option (List L)
  | [] => some []
  | .d x :: r => (mkL τ r).map (.d x :: ·)
  | .s i :: r => match τ[i]? with
    | some (some (.m xs)) => (mkL τ r).map (.m xs :: ·)
    | some (some (.c xs)) => (mkL τ r).map (.c xs :: ·)
    | _ => none
def nMb : L → Bool
  | .m _ => false
  | .k _ => false
  | _ => true
def dCallP (k i : Nat) (G : List L → Option (PyData × List L)) (a : DA) (τ : DS) : Option (PyData × DS) := (a τ).bind fun p => (mkL p.2 p.1).bind fun ls => match p.1[k]?, ls[k]? with
  | some (.s j), some (.m _) => if j = i ∧ (ls.set k (.d .none)).all nMb = true then (G ls).bind fun q => match q.2[k]? with
      | some (.m xs) => some (q.1, p.2.set i (some (.m xs)))
      | _ => none
    else none
  | _, _ => none
theorem tyOk_int : tyOk "int" = true := rfl
theorem isi_int_none : isiD "int" .none = false := rfl
theorem isi_int_bool {b : Bool} : isiD "int" (.bool b) = true := rfl
theorem isi_int_int {b : Int} : isiD "int" (.int b) = true := rfl
theorem isi_int_str {b : Str} : isiD "int" (.str b) = false := rfl
theorem isi_int_list {b : List PyData} : isiD "int" (.list b) = false := rfl
theorem isi_int_tuple {b : List PyData} : isiD "int" (.tuple b) = false := rfl
theorem tyOk_bool : tyOk "bool" = true := rfl
theorem isi_bool_none : isiD "bool" .none = false := rfl
theorem isi_bool_bool {b : Bool} : isiD "bool" (.bool b) = true := rfl
theorem isi_bool_int {b : Int} : isiD "bool" (.int b) = false := rfl
theorem isi_bool_str {b : Str} : isiD "bool" (.str b) = false := rfl
theorem isi_bool_list {b : List PyData} : isiD "bool" (.list b) = false := rfl
theorem isi_bool_tuple {b : List PyData} : isiD "bool" (.tuple b) = false := rfl
theorem tyOk_str : tyOk "str" = true := rfl
theorem isi_str_none : isiD "str" .none = false := rfl
theorem isi_str_bool {b : Bool} : isiD "str" (.bool b) = false := rfl
theorem isi_str_int {b : Int} : isiD "str" (.int b) = false := rfl
theorem isi_str_str {b : Str} : isiD "str" (.str b) = true := rfl
theorem isi_str_list {b : List PyData} : isiD "str" (.list b) = false := rfl
theorem isi_str_tuple {b : List PyData} : isiD "str" (.tuple b) = false := rfl
theorem tyOk_list : tyOk "list" = true := rfl
theorem isi_list_none : isiD "list" .none = false := rfl
theorem isi_list_bool {b : Bool} : isiD "list" (.bool b) = false := rfl
theorem isi_list_int {b : Int} : isiD "list" (.int b) = false := rfl
theorem isi_list_str {b : Str} : isiD "list" (.str b) = false := rfl
theorem isi_list_list {b : List PyData} : isiD "list" (.list b) = true := rfl
theorem isi_list_tuple {b : List PyData} : isiD "list" (.tuple b) = false := rfl
theorem tyOk_tuple : tyOk "tuple" = true := rfl
theorem isi_tuple_none : isiD "tuple" .none = false := rfl
theorem isi_tuple_bool {b : Bool} : isiD "tuple" (.bool b) = false := rfl
theorem isi_tuple_int {b : Int} : isiD "tuple" (.int b) = false := rfl
theorem isi_tuple_str {b : Str} : isiD "tuple" (.str b) = false := rfl
theorem isi_tuple_list {b : List PyData} : isiD "tuple" (.list b) = false := rfl
theorem isi_tuple_tuple {b : List PyData} : isiD "tuple" (.tuple b) = true := rfl
theorem loop_pre_go {α : Type} {enc : α → PyData} {g : DG} {b : DB} {all : List α} (J : List α → DS → Prop) (h : ∀ pre x post τ, all = pre ++ x :: post → J pre τ → ∃ τ1 τ2, g (enc x) τ = some τ1 ∧ b τ1 = some (.nx τ2) ∧ J (pre ++ [x]) τ2) :
    ∀ {xs pre : List α} {τ : DS}, all = pre ++ xs → J pre τ → ∃ τ', dLoop g b (xs.map enc) τ = some (.nx τ') ∧ J all τ'
  | [], pre, τ, e, h0 => ⟨τ, rfl, by rw [e, List.append_nil]; exact h0⟩
  | x :: xs, pre, τ, e, h0 => by
    obtain ⟨τ1, τ2, e1, e2, h1⟩ := h pre x xs τ e h0
    obtain ⟨τ', e3, h3⟩ := loop_pre_go J h (xs := xs) (pre := pre ++ [x]) (τ := τ2) (by rw [e, List.append_assoc]; rfl) h1
    refine ⟨τ', ?_, h3⟩
    rw [List.map_cons, dLoop, e1]
    show (b τ1).bind _ = _
    rw [e2]
    exact e3
theorem loop_pre {α : Type} {enc : α → PyData} {g : DG} {b : DB} {xs : List α} {τ : DS} (J : List α → DS → Prop) (h0 : J [] τ) (h : ∀ pre x post τ, xs = pre ++ x :: post → J pre τ → ∃ τ1 τ2, g (enc x) τ = some τ1 ∧ b τ1 = some (.nx τ2) ∧ J (pre ++ [x]) τ2) :
    ∃ τ', dLoop g b (xs.map enc) τ = some (.nx τ') ∧ J xs τ' := loop_pre_go J h (pre := []) rfl h0
end DL
end
section
set_option Elab.async false
set_option linter.all false
set_option maxRecDepth 100000
namespace DL
open PySem PySem.Spec L2 PyProof.Rows
section
variable {prog : Program} {w : World} {A : Around} {s : Shared} {R : Result → Shared → Prop}
variable {I : Addr} {fp wr : List Addr} {G : Array GenState → Array GenState → Prop} {n : Nat} {P : Nat → Value → Prop} {St : Nat → Shared → Prop}
end
section
variable {prog : Program} {w : World} {A : Around} {E : Value → Shared → Prop} {s : Shared}
variable {I : Addr} {fp wr : List Addr} {G : Array GenState → Array GenState → Prop} {n : Nat} {P : Nat → Value → Prop} {St : Nat → Shared → Prop}
end
variable {K : PySem.W.Frag}
def dRev (f : DX) (τ : DS) : Option (PyData × DS) := (f τ).bind fun p => match p.1 with
  | .list xs => some (.list xs.reverse, p.2)
  | _ => none
theorem okM_none : okM none = true := rfl
theorem okM_d {x : PyData} : okM (some (.d x)) = true := rfl
theorem okM_c {x : List PyData} : okM (some (.c x)) = true := rfl
theorem okM_m {x : List PyData} : okM (some (.m x)) = fixDs x := rfl
end DL
end
section
set_option Elab.async false
set_option linter.all false
set_option maxRecDepth 100000
namespace Srt
open PySem PySem.W PyProof.Rows
def Gd (n : Nat) (r : Nat → Nat → Bool) {α : Type} : KasT α → (α → Prop) → Prop
  | .ret a, Q => Q a
  | .ask i j k, Q => i < n ∧ j < n ∧ Gd n r (k (r i j)) Q
variable {n : Nat} {r : Nat → Nat → Bool}
theorem gd_mono {α : Type} {Q Q' : α → Prop} (h : ∀ a, Q a → Q' a) : ∀ {t : KasT α}, Gd n r t Q → Gd n r t Q'
  | .ret a, g => h a g
  | .ask i j k, ⟨a, b, g⟩ => ⟨a, b, gd_mono h g⟩
theorem gd_bind {α β : Type} {f : α → KasT β} {Q : β → Prop} : ∀ {t : KasT α}, Gd n r t (fun a => Gd n r (f a) Q) → Gd n r (t.bind f) Q
  | .ret a, g => g
  | .ask i j k, ⟨a, b, g⟩ => ⟨a, b, gd_bind g⟩
structure Ord (n : Nat) (r : Nat → Nat → Bool) : Prop where
  irr : ∀ i, i < n → r i i = false
  tr : ∀ i j k, i < n → j < n → k < n → r i j = true → r j k = true → r i k = true
  tot : ∀ i j, i < n → j < n → i ≠ j → r i j = false → r j i = true
structure Arr (n : Nat) (p : Array Nat) : Prop where
  sz : p.size = n
  lt : ∀ a, a < n → p.getD a 0 < n
  inj : ∀ a b, a < n → b < n → p.getD a 0 = p.getD b 0 → a = b
  pm : p.Perm (List.toArray (List.range n))
def Up (r : Nat → Nat → Bool) (p : Array Nat) (k : Nat) : Prop := ∀ a b, a < b → b < k → r (p.getD a 0) (p.getD b 0) = true
def Dn (r : Nat → Nat → Bool) (p : Array Nat) (k : Nat) : Prop := ∀ a b, a < b → b < k → r (p.getD b 0) (p.getD a 0) = true
theorem up_succ (O : Ord n r) {p : Array Nat} (A : Arr n p) {k : Nat} (hk : 1 ≤ k) (hn : k < n) (u : Up r p k) (h : r (p.getD k 0) (p.getD (k - 1) 0) = false) : Up r p (k + 1) := by
  have h1 : r (p.getD (k - 1) 0) (p.getD k 0) = true := O.tot _ _ (A.lt _ hn) (A.lt _ (by omega)) (fun z => by have := A.inj _ _ hn (by omega) z; omega) h
  intro a b hab hb
  by_cases e : b = k
  · subst e
    by_cases e2 : a = b - 1
    · subst e2; exact h1
    · exact O.tr _ _ _ (A.lt _ (by omega)) (A.lt _ (by omega)) (A.lt _ hn) (u a (b - 1) (by omega) (by omega)) h1
  · exact u a b hab (by omega)
theorem dn_succ (O : Ord n r) {p : Array Nat} (A : Arr n p) {k : Nat} (hk : 1 ≤ k) (hn : k < n) (u : Dn r p k) (h1 : r (p.getD k 0) (p.getD (k - 1) 0) = true) : Dn r p (k + 1) := by
  intro a b hab hb
  by_cases e : b = k
  · subst e
    by_cases e2 : a = b - 1
    · subst e2; exact h1
    · exact O.tr _ _ _ (A.lt _ hn) (A.lt _ (by omega)) (A.lt _ (by omega)) h1 (u a (b - 1) (by omega) (by omega))
  · exact u a b hab (by omega)
theorem asc (O : Ord n r) {p : Array Nat} (A : Arr n p) : ∀ (f k : Nat), 1 ≤ k → k + f ≤ n → Up r p k → Gd n r (kas_asc p f k) fun m => k ≤ m ∧ m ≤ k + f ∧ Up r p m ∧ (m < k + f → r (p.getD m 0) (p.getD (m - 1) 0) = true)
  | 0, k, h1, h2, u => ⟨Nat.le_refl _, by omega, u, by omega⟩
  | f + 1, k, h1, h2, u => by
    refine ⟨A.lt _ (by omega), A.lt _ (by omega), ?_⟩
    cases c : r (p.getD k 0) (p.getD (k - 1) 0) with
    | true => exact ⟨Nat.le_refl _, by omega, u, fun _ => c⟩
    | false =>
      show Gd n r (kas_asc p f (k + 1)) _
      refine gd_mono ?_ (asc O A f (k + 1) (by omega) (by omega) (up_succ O A h1 (by omega) u c))
      rintro m ⟨h3, h4, h5, h6⟩
      exact ⟨by omega, by omega, h5, fun z => h6 (by omega)⟩
theorem desc (O : Ord n r) {p : Array Nat} (A : Arr n p) : ∀ (f k : Nat), 1 ≤ k → k + f ≤ n → Dn r p k → Gd n r (kas_desc f p k 0) fun x => x.1 = p ∧ x.2.2 = 0 ∧ k ≤ x.2.1 ∧ x.2.1 ≤ k + f ∧ Dn r p x.2.1
  | 0, k, h1, h2, u => ⟨rfl, rfl, Nat.le_refl _, by show k ≤ k + 0; omega, u⟩
  | f + 1, k, h1, h2, u => by
    refine ⟨A.lt _ (by omega), A.lt _ (by omega), ?_⟩
    cases c : r (p.getD k 0) (p.getD (k - 1) 0) with
    | true =>
      show Gd n r (kas_desc f p (k + 1) 0) _
      refine gd_mono ?_ (desc O A f (k + 1) (by omega) (by omega) (dn_succ O A h1 (by omega) u c))
      rintro m ⟨h3, h4, h5, h6, h7⟩
      exact ⟨h3, h4, by omega, by omega, h7⟩
    | false =>
      refine ⟨A.lt _ (by omega), A.lt _ (by omega), ?_⟩
      have h3 : r (p.getD (k - 1) 0) (p.getD k 0) = true := O.tot _ _ (A.lt _ (by omega)) (A.lt _ (by omega)) (fun z => by have := A.inj _ _ (by omega) (by omega) z; omega) c
      rw [h3]
      exact ⟨rfl, rfl, Nat.le_refl _, by show k ≤ k + (f + 1); omega, u⟩
theorem getD_of {p q : Array Nat} {a b : Nat} (h : q[a]? = p[b]?) : q.getD a 0 = p.getD b 0 := by
  rw [Array.getD_eq_getD_getElem?, Array.getD_eq_getD_getElem?, h]
theorem rev_get {p : Array Nat} {k : Nat} (hk : k ≤ p.size) (a : Nat) : (kas_rev p 0 k).getD a 0 = p.getD (if a < k then k - 1 - a else a) 0 := by
  have e := getElem?_mirror_all (i := 0) hk a
  unfold kas_rev
  refine getD_of (e.trans ?_)
  by_cases h : a < k
  · rw [if_pos ⟨Nat.zero_le _, h⟩, if_pos h]; congr 1; omega
  · rw [if_neg (fun z => h z.2), if_neg h]
theorem arr_rev {p : Array Nat} (A : Arr n p) {k : Nat} (hk : k ≤ n) : Arr n (kas_rev p 0 k) := by
  have hz := A.sz
  refine ⟨by unfold kas_rev; rw [mirror_size, hz], fun a ha => ?_, fun a b ha hb e => ?_, ?_⟩
  · rw [rev_get (by omega)]
    refine A.lt _ ?_
    split <;> omega
  · rw [rev_get (by omega), rev_get (by omega)] at e
    have := A.inj _ _ (by split <;> omega) (by split <;> omega) e
    split at this <;> split at this <;> omega
  · exact (mirror_perm _ _ _ _).trans A.pm
theorem up_rev {p : Array Nat} (A : Arr n p) {k : Nat} (hk : k ≤ n) (d : Dn r p k) : Up r (kas_rev p 0 k) k := by
  have hz := A.sz
  intro a b hab hb
  rw [rev_get (by omega), rev_get (by omega), if_pos (by omega), if_pos hb]
  exact d _ _ (by omega) (by omega)
def Res (n : Nat) (r : Nat → Nat → Bool) (x : Nat × Array Nat) : Prop := Arr n x.2 ∧ 1 ≤ x.1 ∧ x.1 ≤ n ∧ Up r x.2 x.1
theorem tail3 (O : Ord n r) {p : Array Nat} (A : Arr n p) {k : Nat} (h1 : 1 ≤ k) (hk : k ≤ n) (d : Dn r p k) : Gd n r (kas_tail3 k n p) (Res n r) := by
  unfold kas_tail3
  refine gd_bind (gd_mono ?_ (asc O (arr_rev A hk) (n - k) k h1 (by omega) (up_rev A hk d)))
  rintro m ⟨h3, h4, h5, _⟩
  exact ⟨arr_rev A hk, by show 1 ≤ m; omega, by show m ≤ n; omega, h5⟩
theorem count (O : Ord n r) {p : Array Nat} (A : Arr n p) (h1 : 1 ≤ n) : Gd n r (kas_count n p) (Res n r) := by
  unfold kas_count
  refine gd_bind (gd_mono ?_ (asc O A (n - 1) 1 (Nat.le_refl _) (by omega) (fun a b h h' => by omega)))
  rintro m ⟨h3, h4, h5, h6⟩
  by_cases e : m = n
  · rw [if_pos (by simpa using e)]
    exact ⟨A, by show 1 ≤ m; omega, by show m ≤ n; omega, h5⟩
  · rw [if_neg (by simpa using e)]
    by_cases hm : m > 1
    · rw [if_pos hm]
      refine ⟨A.lt _ (by omega), A.lt _ (by omega), ?_⟩
      rw [h5 0 (m - 1) (by omega) (by omega)]
      exact ⟨A, by show 1 ≤ m; omega, by show m ≤ n; omega, h5⟩
    · rw [if_neg hm]
      have hm1 : m = 1 := by omega
      subst hm1
      have c := h6 (by omega)
      unfold kas_descPart
      refine gd_bind (gd_mono ?_ (desc O A (n - 2) 2 (by omega) (by omega) (dn_succ O A (k := 1) (by omega) (by omega) (fun a b h h' => by omega) c)))
      rintro ⟨q, k, z⟩ ⟨rfl, rfl, h7, h8, h9⟩
      dsimp only at *
      rw [if_neg (by omega)]
      exact tail3 O A (by omega) (by omega) h9
theorem place (O : Ord n r) {p : Array Nat} (A : Arr n p) {k : Nat} (hk : k < n) (u : Up r p k) : ∀ (f a b : Nat), b - a ≤ f → a ≤ b → b ≤ k → (∀ c, c < a → r (p.getD c 0) (p.getD k 0) = true) → (∀ c, b ≤ c → c < k → r (p.getD k 0) (p.getD c 0) = true) →
    Gd n r (kas_place p k f a b) fun l => l ≤ k ∧ (∀ c, c < l → r (p.getD c 0) (p.getD k 0) = true) ∧ (∀ c, l ≤ c → c < k → r (p.getD k 0) (p.getD c 0) = true)
  | 0, a, b, hf, hab, hb, h1, h2 => ⟨by omega, h1, fun c hc hk => h2 c (by omega) hk⟩
  | f + 1, a, b, hf, hab, hb, h1, h2 => by
    unfold kas_place
    by_cases e : a ≥ b
    · rw [if_pos e]
      exact ⟨by omega, h1, fun c hc hk => h2 c (by omega) hk⟩
    · rw [if_neg e]
      refine ⟨A.lt _ hk, A.lt _ (by omega), ?_⟩
      have hm : (a + b) / 2 < b := by omega
      have hm2 : a ≤ (a + b) / 2 := by omega
      generalize (a + b) / 2 = m at *
      cases c : r (p.getD k 0) (p.getD m 0) with
      | true =>
        refine place O A hk u f a m (by omega) (by omega) (by omega) h1 fun d hd hdk => ?_
        by_cases e2 : d = m
        · subst e2; exact c
        · exact O.tr _ _ _ (A.lt _ hk) (A.lt _ (by omega)) (A.lt _ (by omega)) c (u m d (by omega) hdk)
      | false =>
        have c' : r (p.getD m 0) (p.getD k 0) = true := O.tot _ _ (A.lt _ hk) (A.lt _ (by omega)) (fun z => by have := A.inj _ _ hk (by omega) z; omega) c
        refine place O A hk u f (m + 1) b (by omega) (by omega) hb (fun d hd => ?_) h2
        by_cases e2 : d = m
        · subst e2; exact c'
        · exact O.tr _ _ _ (A.lt _ (by omega)) (A.lt _ (by omega)) (A.lt _ hk) (u d m (by omega) (by omega)) c'
theorem bub_get {p : Array Nat} {k l : Nat} (hk : k < p.size) (hl : l ≤ k) (a : Nat) : (bubble p k (k - l)).getD a 0 = p.getD (if a = l then k else if l < a ∧ a ≤ k then a - 1 else a) 0 := by
  have e := getElem?_bubble hk (k - l) (by omega) a
  refine getD_of (e.trans ?_)
  rw [show k - (k - l) = l by omega]
  split
  · rfl
  · split <;> rfl
theorem bin (O : Ord n r) : ∀ (f : Nat) {p : Array Nat} {k : Nat}, Arr n p → k + f = n → Up r p k → Gd n r (kas_bin f p k) fun q => Arr n q ∧ Up r q n
  | 0, p, k, A, h, u => ⟨A, by rw [← h]; exact u⟩
  | f + 1, p, k, A, h, u => by
    unfold kas_bin
    refine gd_bind (gd_mono ?_ (place O A (by omega) u k 0 k (by omega) (by omega) (Nat.le_refl _) (fun c h => by omega) (fun c h h' => by omega)))
    rintro l ⟨h1, h2, h3⟩
    have hz := A.sz
    have g := fun a => bub_get (p := p) (k := k) (l := l) (by omega) h1 a
    have A' : Arr n (bubble p k (k - l)) := by
      refine ⟨by rw [bubble_size, hz], fun a ha => ?_, fun a b ha hb e => ?_, (bubble_perm _ _ _).trans A.pm⟩
      · rw [g]
        refine A.lt _ ?_
        split
        · omega
        · split <;> omega
      · rw [g, g] at e
        have := A.inj _ _ (by split <;> first | omega | (split <;> omega)) (by split <;> first | omega | (split <;> omega)) e
        split at this <;> split at this <;> (try split at this) <;> (try split at this) <;> omega
    refine bin O f A' (by omega) fun a b hab hb => ?_
    rw [g, g]
    by_cases ea : a = l
    · rw [if_pos ea, if_neg (by omega), if_pos (by omega)]
      exact h3 _ (by omega) (by omega)
    · rw [if_neg ea]
      by_cases eb : b = l
      · rw [if_pos eb, if_neg (by omega)]
        exact h2 _ (by omega)
      · rw [if_neg eb]
        by_cases ca : l < a ∧ a ≤ k
        · rw [if_pos ca, if_pos (by omega)]
          exact u _ _ (by omega) (by omega)
        · rw [if_neg ca]
          by_cases cb : l < b ∧ b ≤ k
          · rw [if_pos cb]
            exact u _ _ (by omega) (by omega)
          · rw [if_neg cb]
            exact u _ _ (by omega) (by omega)
theorem arr_range : Arr n (List.toArray (List.range n)) := by
  have g : ∀ a, a < n → (List.toArray (List.range n)).getD a 0 = a := fun a ha => by
    rw [Array.getD_eq_getD_getElem?]
    simp [ha]
  refine ⟨by simp, fun a ha => by rw [g a ha]; exact ha, fun a b ha hb e => by rw [g a ha, g b hb] at e; exact e, .refl _⟩
theorem sort (O : Ord n r) (h1 : 1 ≤ n) : Gd n r (kas_sort n) fun q => Arr n q ∧ Up r q n := by
  unfold kas_sort
  refine gd_bind (gd_mono ?_ (count O arr_range h1))
  rintro ⟨m, p⟩ ⟨A, h2, h3, u⟩
  dsimp only at *
  by_cases e : m < n
  · rw [if_pos e]
    exact bin O _ A (by omega) (by rw [show max m 1 = m by omega]; exact u)
  · rw [if_neg e]
    exact ⟨A, by rw [show n = m by omega]; exact u⟩
end Srt
end
section
set_option Elab.async false
set_option linter.all false
set_option maxRecDepth 100000
namespace Srt
open PySem PySem.W PyProof.Rows HT
def Tp (h : Heap) (d : Nat) : List Value → List (List Int) → Prop
  | [], [] => True
  | v :: vs, k :: ks => (∃ a its, v = .ref a ∧ IsTup h a its ∧ IntsAre its.toList k ∧ k.length = d + 1) ∧ Tp h d vs ks
  | _, _ => False
theorem Tp.len {h : Heap} {d : Nat} : ∀ {vs : List Value} {ks : List (List Int)}, Tp h d vs ks → ks.length = vs.length
  | [], [], _ => rfl
  | _ :: _, _ :: _, t => by rw [List.length_cons, List.length_cons, Tp.len t.2]
  | [], _ :: _, t => t.elim
  | _ :: _, [], t => t.elim
theorem Tp.get {h : Heap} {d : Nat} : ∀ {vs : List Value} {ks : List (List Int)} {i : Nat}, Tp h d vs ks → i < vs.length → ∃ a its, vs.getD i Value.none = .ref a ∧ IsTup h a its ∧ IntsAre its.toList (ks.getD i []) ∧ (ks.getD i []).length = d + 1
  | [], _, _, _, hi => absurd hi (Nat.not_lt_zero _)
  | _ :: _, [], _, t, _ => t.elim
  | v :: vs, k :: ks, 0, t, _ => t.1
  | v :: vs, k :: ks, i + 1, t, hi => by
    rw [List.getD_cons_succ, List.getD_cons_succ]
    exact Tp.get t.2 (by simpa using hi)
theorem Tp.mono {h h' : Heap} {d : Nat} (k : ∀ b o, h.get? b = some o → h'.get? b = some o) : ∀ {vs : List Value} {ks : List (List Int)}, Tp h d vs ks → Tp h' d vs ks
  | [], [], _ => trivial
  | _ :: _, _ :: _, ⟨⟨a, its, e, ⟨o, ho, hc, n, hd⟩, hi, hl⟩, t⟩ => ⟨⟨a, its, e, ⟨o, k _ _ ho, hc, n, hd⟩, hi, hl⟩, t.mono k⟩
  | [], _ :: _, t => t.elim
  | _ :: _, [], t => t.elim
section
variable {prog : Program} {w : World} {A : Around} {E : Value → Shared → Prop} {s : Shared}
end
end Srt
end
section
set_option Elab.async false
set_option linter.all false
set_option maxRecDepth 100000
namespace TS
open PySem PyProof.Rows
section
variable {prog : Program} {w : World} {A : Around} {E : Value → Shared → Prop} {s : Shared} {κ : SortKind} {rk : Keyed → Nat} {a₀ : Array Keyed}
def R (rk : Keyed → Nat) (a : Array Keyed) (i : Nat) : Nat := match a[i]? with
  | some p => rk p
  | none => 0
structure Bs (κ : SortKind) (a₀ : Array Keyed) (st : SortSt) : Prop where
  perm : (arrOf st).Perm a₀
  kind : kindOf st = κ
  failed : failedOf st = none
theorem Bs.size {st : SortSt} (h : Bs κ a₀ st) : (arrOf st).size = a₀.size := h.perm.size_eq
theorem R_at {a : Array Keyed} {i : Nat} {x : Keyed} (h : a[i]? = some x) : R rk a i = rk x := by unfold R; rw [h]
theorem R_congr {a b : Array Keyed} {i j : Nat} (h : a[i]? = b[j]?) : R rk a i = R rk b j := by unfold R; rw [h]
theorem Bs.at {st : SortSt} (h : Bs κ a₀ st) {i : Nat} (hi : i < a₀.size) : ∃ x, (arrOf st)[i]? = some x ∧ x ∈ a₀.toList := by
  have hi' : i < (arrOf st).size := by rw [h.size]; exact hi
  exact ⟨(arrOf st)[i], getElem?_pos _ i hi', (Array.perm_iff_toList_perm.mp h.perm).mem_iff.mp (by simp)⟩
theorem Bs.inj {st : SortSt} (h : Bs κ a₀ st) (hn : (a₀.toList.map rk).Nodup) {i j : Nat} (hi : i < a₀.size) (hj : j < a₀.size) (ne : i ≠ j) : R rk (arrOf st) i ≠ R rk (arrOf st) j := by
  have hn' : ((arrOf st).toList.map rk).Nodup := ((Array.perm_iff_toList_perm.mp h.perm).map rk).nodup_iff.mpr hn
  have hi' : i < (arrOf st).size := by rw [h.size]; exact hi
  have hj' : j < (arrOf st).size := by rw [h.size]; exact hj
  rw [R_at (getElem?_pos (arrOf st) i hi'), R_at (getElem?_pos (arrOf st) j hj')]
  intro e
  have P := List.pairwise_iff_getElem.mp hn'
  have li : i < ((arrOf st).toList.map rk).length := by rw [List.length_map]; exact hi'
  have lj : j < ((arrOf st).toList.map rk).length := by rw [List.length_map]; exact hj'
  have gi : ((arrOf st).toList.map rk)[i] = rk (arrOf st)[i] := by simp
  have gj : ((arrOf st).toList.map rk)[j] = rk (arrOf st)[j] := by simp
  rcases Nat.lt_or_gt_of_ne ne with q | q
  · exact P i j li lj q (by rw [gi, gj]; exact e)
  · exact P j i lj li q (by rw [gi, gj]; exact e.symm)
def So (rk : Keyed → Nat) (a : Array Keyed) (i j : Nat) : Prop := ∀ x y, i ≤ x → x < y → y < j → R rk a x < R rk a y
def Dn (rk : Keyed → Nat) (a : Array Keyed) (i j : Nat) : Prop := ∀ x y, i ≤ x → x < y → y < j → R rk a y < R rk a x
theorem So.one (a : Array Keyed) (i : Nat) : So rk a i (i + 1) := fun x y h1 h2 h3 => by omega
theorem Dn.one (a : Array Keyed) (i : Nat) : Dn rk a i (i + 1) := fun x y h1 h2 h3 => by omega
theorem R_mirror {a : Array Keyed} {i j : Nat} (hj : j ≤ a.size) (k : Nat) : R rk (mirror a i j ((j - i) / 2)) k = if i ≤ k ∧ k < j then R rk a (i + j - 1 - k) else R rk a k := by
  have e := getElem?_mirror_all (i := i) hj k
  by_cases h1 : i ≤ k ∧ k < j
  · rw [if_pos h1] at e ⊢; exact R_congr e
  · rw [if_neg h1] at e ⊢; exact R_congr e
theorem Dn.turned {a : Array Keyed} {i j : Nat} (h : Dn rk a i j) (hj : j ≤ a.size) : So rk (mirror a i j ((j - i) / 2)) i j := by
  intro x y h1 h2 h3
  rw [R_mirror hj, R_mirror hj, if_pos ⟨h1, by omega⟩, if_pos ⟨by omega, h3⟩]
  exact h _ _ (by omega) (by omega) (by omega)
def Out (a b : Array Keyed) (i j : Nat) : Prop := ∀ k, (k < i ∨ j ≤ k) → b[k]? = a[k]?
end
end TS
end
section
set_option Elab.async false
set_option linter.all false
set_option maxRecDepth 100000
namespace TS
open PySem PyProof.Rows
section
variable {prog : Program} {w : World} {A : Around} {E : Value → Shared → Prop} {s : Shared} {κ : SortKind} {rk : Keyed → Nat} {a₀ : Array Keyed}
theorem Bs.ne {st : SortSt} (h : Bs κ a₀ st) (hn : (a₀.toList.map rk).Nodup) {i j : Nat} (hi : i < a₀.size) (hj : j < a₀.size) (e : i ≠ j) (hc : ¬ R rk (arrOf st) i < R rk (arrOf st) j) : R rk (arrOf st) j < R rk (arrOf st) i := by
  have := h.inj hn hi hj e
  omega
end
end TS
end
section
set_option Elab.async false
set_option linter.all false
set_option maxRecDepth 100000
namespace TS
open PySem PyProof.Rows
section
variable {prog : Program} {w : World} {A : Around} {E : Value → Shared → Prop} {s : Shared} {κ : SortKind} {rk : Keyed → Nat} {a₀ : Array Keyed}
def Pp (rk : Keyed → Nat) (left : Bool) (key : Keyed) (arr : Array Keyed) (base i : Nat) : Prop := if left = true then R rk arr (base + i) < rk key else R rk arr (base + i) ≤ rk key
instance {left : Bool} {key : Keyed} {arr : Array Keyed} {base i : Nat} : Decidable (Pp rk left key arr base i) := by unfold Pp; exact inferInstance
end
end TS
end
section
set_option Elab.async false
set_option linter.all false
set_option maxRecDepth 100000
namespace TS
open PySem PyProof.Rows
section
variable {rk : Keyed → Nat}
def SL (rk : Keyed → Nat) (l : List Keyed) : Prop := l.Pairwise fun x y => rk x < rk y
structure Mg (rk : Keyed → Nat) (ra rb out T : List Keyed) : Prop where
  perm : (out ++ (ra ++ rb)).Perm T
  so : SL rk out
  sa : SL rk ra
  sb : SL rk rb
  lt : ∀ x ∈ out, ∀ y ∈ ra ++ rb, rk x < rk y
theorem SL.R {a : Array Keyed} (h : SL rk a.toList) {i j : Nat} (hij : i < j) (hj : j < a.size) : R rk a i < R rk a j := by
  have := List.pairwise_iff_getElem.mp h i j (by rw [Array.length_toList]; omega) (by rw [Array.length_toList]; omega) hij
  rw [R_at (getElem?_pos a i (by omega)), R_at (getElem?_pos a j hj)]
  simpa using this
theorem SL.le {a : Array Keyed} (h : SL rk a.toList) {i j : Nat} (hij : i ≤ j) (hj : j < a.size) : TS.R rk a i ≤ TS.R rk a j := by
  rcases Nat.lt_or_eq_of_le hij with e | e
  · exact Nat.le_of_lt (h.R e hj)
  · rw [e]; exact Nat.le_refl _
end
end TS
end
section
set_option Elab.async false
set_option linter.all false
set_option maxRecDepth 100000
namespace TS
open PySem PyProof.Rows
section
variable {prog : Program} {w : World} {A : Around} {E : Value → Shared → Prop} {s : Shared} {κ : SortKind} {rk : Keyed → Nat} {a₀ : Array Keyed}
structure Sm (κ : SortKind) (st st' : SortSt) : Prop where
  kind : kindOf st' = κ
  arr : arrOf st' = arrOf st
  pend : pendingOf st' = pendingOf st
  failed : failedOf st' = failedOf st
theorem Sm.refl {st : SortSt} (h : kindOf st = κ) : Sm κ st st := ⟨h, rfl, rfl, rfl⟩
theorem nb {x y : Nat} (h : ¬ (x == y) = true) : x ≠ y := fun z => h (beq_of_eq z)
structure Lo (rk : Keyed → Nat) (a b out : Array Keyed) (ia ib : Nat) : Prop where
  mg : Mg rk (a.toList.drop ia) (b.toList.drop ib) out.toList (a.toList ++ b.toList)
  ia : ia + 1 < a.size
  ib : ib < b.size
end
end TS
end
section
set_option Elab.async false
set_option linter.all false
set_option maxRecDepth 100000
namespace TS
open PySem PyProof.Rows
structure Mh (rk : Keyed → Nat) (ra rb o T : List Keyed) : Prop where
  perm : ((ra ++ rb) ++ o).Perm T
  so : SL rk o
  sa : SL rk ra
  sb : SL rk rb
  lt : ∀ x ∈ ra ++ rb, ∀ y ∈ o, rk x < rk y
section
variable {rk : Keyed → Nat}
end
section
variable {prog : Program} {w : World} {A : Around} {E : Value → Shared → Prop} {s : Shared} {κ : SortKind} {rk : Keyed → Nat} {a₀ : Array Keyed}
structure Hi (rk : Keyed → Nat) (a b out : Array Keyed) (na nb : Nat) : Prop where
  mg : Mh rk (a.toList.take na) (b.toList.take nb) out.toList.reverse (a.toList ++ b.toList)
  n1 : 1 ≤ na
  n2 : 2 ≤ nb
  n3 : na ≤ a.size
  n4 : nb ≤ b.size
end
end TS
end
section
set_option Elab.async false
set_option linter.all false
set_option maxRecDepth 100000
namespace TS
open PySem PyProof.Rows
section
variable {rk : Keyed → Nat}
theorem So.ext {a : Array Keyed} {i j : Nat} (h : So rk a i j) (hj : j ≤ a.size) : SL rk (a.extract i j).toList := by
  refine List.pairwise_iff_getElem.mpr fun p q hp hq hpq => ?_
  rw [Array.length_toList, Array.size_extract] at hp hq
  have e := h (i + p) (i + q) (by omega) (by omega) (by omega)
  rw [R_at (getElem?_pos a (i + p) (by omega)), R_at (getElem?_pos a (i + q) (by omega))] at e
  simpa using e
end
section
variable {prog : Program} {w : World} {A : Around} {E : Value → Shared → Prop} {s : Shared} {κ : SortKind} {rk : Keyed → Nat} {a₀ : Array Keyed}
end
end TS
end
section
set_option Elab.async false
set_option linter.all false
set_option maxRecDepth 100000
namespace TS
open PySem PyProof.Rows
section
variable {rk : Keyed → Nat}
def Rn (rk : Keyed → Nat) (a : Array Keyed) : List (Nat × Nat × Nat) → Nat → Nat → Prop
  | [], x, y => x = y
  | e :: r, x, y => e.1 = x ∧ 1 ≤ e.2.1 ∧ So rk a x (x + e.2.1) ∧ Rn rk a r (x + e.2.1) y
theorem Rn.len {a : Array Keyed} : ∀ {l : List (Nat × Nat × Nat)} {x y : Nat}, Rn rk a l x y → x + l.length ≤ y
  | [], x, y, h => by rw [show x = y from h]; exact Nat.le_refl _
  | e :: l, x, y, ⟨_, h2, _, h4⟩ => by
    have := Rn.len h4
    rw [List.length_cons]
    omega
theorem So.congr {a b : Array Keyed} {x y : Nat} (h : So rk a x y) (hc : ∀ k, x ≤ k → k < y → R rk b k = R rk a k) : So rk b x y := fun p q h1 h2 h3 => by
  rw [hc p h1 (by omega), hc q (by omega) h3]
  exact h p q h1 h2 h3
theorem Rn.congr {a b : Array Keyed} : ∀ {l : List (Nat × Nat × Nat)} {x y : Nat}, Rn rk a l x y → (∀ k, x ≤ k → k < y → R rk b k = R rk a k) → Rn rk b l x y
  | [], x, y, h, _ => h
  | e :: l, x, y, ⟨h1, h2, h3, h4⟩, hc => by
    have := h4.len
    exact ⟨h1, h2, h3.congr fun k k1 k2 => hc k k1 (by omega), h4.congr fun k k1 k2 => hc k (by omega) k2⟩
end
section
variable {prog : Program} {w : World} {A : Around} {E : Value → Shared → Prop} {s : Shared} {κ : SortKind} {rk : Keyed → Nat} {a₀ : Array Keyed}
end
end TS
end
section
set_option Elab.async false
set_option linter.all false
set_option maxRecDepth 100000
namespace TS
open PySem PySem.W PyProof.Rows HT Srt
section
variable {prog : Program} {w : World} {A : Around} {E : Value → Shared → Prop} {s : Shared} {vs : List Value} {ks : List (List Int)} {d : Nat}
open Classical in
end
end TS
end
section
set_option Elab.async false
set_option linter.all false
set_option maxRecDepth 100000
namespace Srt
open PySem PySem.W PyProof.Rows HT
section
variable {prog : Program} {w : World} {A : Around} {E : Value → Shared → Prop} {s : Shared}
end
end Srt
end
section
set_option Elab.async false
set_option linter.all false
set_option maxRecDepth 100000
namespace DL
open PySem L2 PyProof.Rows
variable {K : PySem.W.Frag}
end DL
end
section
set_option Elab.async false
set_option linter.all false
set_option maxRecDepth 100000
namespace DL
open PySem L2
variable {K : PySem.W.Frag}
abbrev DO := DS → Option (Option Int × DS)
structure OO (K : PySem.W.Frag) (t : TO) (f : DO) : Prop where
  like : ∀ τ b τ', f τ = some (b, τ') → Like τ τ'
  run : ∀ S M τ σ H (Q : Option Int → Hp → Prop) b τ', R K S M τ σ H → f τ = some (b, τ') → (∀ H', R K S M τ' σ H' → Chg M H H' → Q b H') → t σ H Q
end DL
end
section
set_option Elab.async false
set_option linter.all false
set_option maxRecDepth 100000
namespace L2
open PySem PySem.Spec PyProof.Rows
section
variable {X : Cx} {pins : List (Addr × Obj)} {σ : L2.St} {H : Hp} {s : Shared}
theorem Inv.turned2 {t' : Nat} {i1 i2 : Addr} {h' : Heap} (I : Inv X pins σ H s) (k : ∀ b o, b ≠ i1 → b ≠ i2 → s.heap.get? b = some o → h'.get? b = some o) (f1 : FpOk X pins H i1) (f2 : FpOk X pins H i2) : Inv X pins σ H { s with heap := h', toks := t' } := by
  obtain ⟨a0, a1, a2, a3, a4, a5⟩ := f1
  obtain ⟨b0, b1, b2, b3, b4, b5⟩ := f2
  have n1 : ∀ b u, H b = some u → b ≠ i1 := fun b u e z => by rw [z, a0] at e; cases e
  have n2 : ∀ b u, H b = some u → b ≠ i2 := fun b u e z => by rw [z, b0] at e; cases e
  refine I.step (g' := s.gens) (d' := s.drawn) (ch := [i1, i2]) (fun b hb => ?_) (fun b o _ _ hc e _ => k b o (fun z => hc (by simp [z])) (fun z => hc (by simp [z])) e) (fun b o _ _ hc e _ => ⟨o.slots, k b o (fun z => hc (by simp [z])) (fun z => hc (by simp [z])) e⟩) (fun _ _ _ _ n => n)
    (fun b o hc e => ⟨o, k b o (fun z => hc (by simp [z])) (fun z => hc (by simp [z])) e⟩) (fun _ _ e => e) (fun _ _ _ e => e) (fun b ps e => ⟨#[], by rw [e]; simp⟩) (fun m hm => ?_) (fun b u e => ?_) I.bare
  · have e : b = i1 ∨ b = i2 := by simpa using hb
    rcases e with e | e
    · subst e; exact ⟨a3, a1, a4, a5⟩
    · subst e; exact ⟨b3, b1, b4, b5⟩
  · obtain ⟨o, es, ep, ho, r⟩ := hm
    exact ⟨o, es, ep, k _ o (Ne.symm a1) (Ne.symm b1) ho, r⟩
  · refine (I.hok b u e).stay (fun c v hc q => k c v ?_ ?_ q) (fun _ q => q) fun _ _ q => q
    · rcases hc with z | z
      · rw [z]; exact n1 b u e
      · exact n1 c _ z
    · rcases hc with z | z
      · rw [z]; exact n2 b u e
      · exact n2 c _ z
end
section
variable {X : Cx} {elts : List Expr} {tp : Pos}
end
end L2
end
section
set_option Elab.async false
set_option linter.all false
set_option maxRecDepth 100000
namespace DL
open PySem L2
variable {K : PySem.W.Frag}
def ItIs2 (K : PySem.W.Frag) (S : Addr → Prop) (J : It) (H : Hp) (ds : List PyData) : Prop := ∀ (S2 : Addr → Prop) (H2 : Hp), Keep S H S2 H2 → (∀ a, H2 a = none → ¬ S2 a) → (∀ (i : Nat) (d : PyData), ds[i]? = some d → J.go i H2 ∧ ∀ x H3, J.yld i H2 x H3 → Same H2 H3 ∧ Is K (hid S2 H3) d x) ∧ ∀ i, ds.length ≤ i → J.stop i H2
structure IT2 (K : PySem.W.Frag) (wi : TI) (f : DI) : Prop where
  like : ∀ τ ds τ', f τ = some (ds, τ') → Like τ τ'
  run : ∀ S M τ σ H (Q : It → Hp → Prop) ds τ', R K S M τ σ H → f τ = some (ds, τ') → (∀ J H', R K S M τ' σ H' → Chg M H H' → ItIs2 K S J H' ds → Q J H') → wi σ H Q
end DL
end
section
set_option Elab.async false
set_option linter.all false
set_option maxRecDepth 100000
namespace DL
open PySem L2 PyProof.Rows
variable {K : PySem.W.Frag}
end DL
end
section
set_option Elab.async false
set_option linter.all false
set_option maxRecDepth 100000
namespace DL
open PySem L2
variable {K : PySem.W.Frag}
end DL
end
section
set_option Elab.async false
set_option linter.all false
namespace Stb
open PySem
def F : Nat → Nat → Nat
  | 0, x => x
  | n + 1, x => F n (5 * x + 1)
theorem F_add : ∀ (a b x : Nat), F (a + b) x = F b (F a x)
  | 0, b, x => by rw [Nat.zero_add]; rfl
  | a + 1, b, x => by rw [show a + 1 + b = (a + b) + 1 by omega]; exact F_add a b _
theorem F4 : ∀ (n x : Nat), 4 * F n x + 1 = 5 ^ n * (4 * x + 1)
  | 0, x => by simp [F]
  | n + 1, x => by
    rw [F, F4 n, Nat.pow_succ, Nat.mul_assoc]
    congr 1
    omega
theorem five : ∀ k : Nat, ∃ q, 5 ^ (2 ^ k) = 1 + 2 ^ k * (4 * (2 * q + 1))
  | 0 => ⟨0, by decide⟩
  | k + 1 => by
    obtain ⟨q, e⟩ := five k
    refine ⟨q + 2 ^ k * ((2 * q + 1) * (2 * q + 1)), ?_⟩
    rw [Nat.pow_succ 2 k, Nat.pow_mul, e]
    generalize 2 ^ k = P
    grind
theorem F2k (k z : Nat) : ∃ r, F (2 ^ k) z = z + 2 ^ k * (2 * r + 1) := by
  obtain ⟨q, e⟩ := five k
  have h := F4 (2 ^ k) z
  rw [e] at h
  refine ⟨4 * q * z + q + 2 * z, ?_⟩
  generalize 2 ^ k = P at *
  generalize F P z = f at *
  grind
theorem hit : ∀ (k x y : Nat), ∃ n, n < 2 ^ k ∧ F n x % 2 ^ k = y % 2 ^ k
  | 0, x, y => ⟨0, by decide, by simp [Nat.mod_one]⟩
  | k + 1, x, y => by
    obtain ⟨n, hn, e⟩ := hit k x y
    have hp : 2 ^ (k + 1) = 2 ^ k + 2 ^ k := by rw [Nat.pow_succ]; omega
    by_cases c : F n x % 2 ^ (k + 1) = y % 2 ^ (k + 1)
    · exact ⟨n, by omega, c⟩
    · refine ⟨n + 2 ^ k, by omega, ?_⟩
      rw [F_add]
      obtain ⟨r, er⟩ := F2k k (F n x)
      rw [er]
      have h1 : F n x % 2 ^ (k + 1) % 2 ^ k = y % 2 ^ (k + 1) % 2 ^ k := by
        rw [Nat.mod_mod_of_dvd _ ⟨2, by rw [Nat.pow_succ]⟩, Nat.mod_mod_of_dvd _ ⟨2, by rw [Nat.pow_succ]⟩]; exact e
      have e2 : F n x + 2 ^ k * (2 * r + 1) = F n x + 2 ^ k + 2 ^ (k + 1) * r := by
        rw [hp]; generalize 2 ^ k = P; grind
      rw [e2, Nat.add_mul_mod_self_left, Nat.add_mod]
      have hP : 0 < 2 ^ k := Nat.pow_pos (by decide)
      rw [hp] at *
      generalize 2 ^ k = P at *
      have l1 := Nat.mod_lt (F n x) (show P + P > 0 by omega)
      have l2 := Nat.mod_lt y (show P + P > 0 by omega)
      generalize F n x % (P + P) = a at *
      generalize y % (P + P) = b at *
      rw [Nat.mod_eq_of_lt (show P < P + P by omega)]
      have m1 := Nat.div_add_mod a P
      have m2 := Nat.div_add_mod b P
      rw [h1] at m1
      have d1 : a / P < 2 := Nat.div_lt_of_lt_mul (show a < P * 2 by rw [Nat.mul_two]; exact l1)
      have d2 : b / P < 2 := Nat.div_lt_of_lt_mul (show b < P * 2 by rw [Nat.mul_two]; exact l2)
      generalize a / P = u at *
      generalize b / P = v at *
      generalize b % P = w at *
      have c1 : u = 0 ∨ u = 1 := by omega
      have c2 : v = 0 ∨ v = 1 := by omega
      rcases c1 with c1 | c1 <;> rcases c2 with c2 | c2 <;> rw [c1] at m1 <;> rw [c2] at m2 <;> simp only [Nat.mul_zero, Nat.mul_one, Nat.zero_add] at m1 m2
      · exact absurd (m1.symm.trans m2) c
      · rw [Nat.mod_eq_of_lt (by omega)]; omega
      · rw [show a + P = b + (P + P) by omega, Nat.add_mod_right, Nat.mod_eq_of_lt (by omega)]
      · exact absurd (m1.symm.trans m2) c
end Stb
end
section
set_option Elab.async false
set_option linter.all false
namespace Stb
open PySem SetTable
def st (m : Nat) (h : Int) : Probe := { j := bits h % (m + 1), more := runEnd m (bits h % (m + 1)) - bits h % (m + 1), i := bits h % (m + 1), perturb := bits h, dummy := none }
def ad (m : Nat) (p : Probe) : Probe :=
  if p.more > 0 then { p with j := p.j + 1, more := p.more - 1 } else
  { p with j := (leap m p.i p.perturb).1, more := runEnd m (leap m p.i p.perturb).1 - (leap m p.i p.perturb).1, i := (leap m p.i p.perturb).1, perturb := (leap m p.i p.perturb).2 }
def it (m : Nat) (h : Int) : Nat → Probe
  | 0 => st m h
  | n + 1 => ad m (it m h n)
def pt (m : Nat) (h : Int) (n : Nat) : Nat := (it m h n).j
theorem runEnd_le {m i : Nat} (h : i ≤ m) : runEnd m i ≤ m := by unfold runEnd; split <;> omega
theorem le_runEnd {m i : Nat} : i ≤ runEnd m i := by unfold runEnd; split <;> omega
theorem runEnd_9 {m i : Nat} : runEnd m i ≤ i + 9 := by unfold runEnd; split <;> omega
theorem leap_le (m i p : Nat) : (leap m i p).1 ≤ m := Nat.le_of_lt_succ (Nat.mod_lt _ (Nat.succ_pos m))
structure Okp (m : Nat) (p : Probe) : Prop where
  i : p.i ≤ m
  j : p.j + p.more = runEnd m p.i
  d : p.dummy = none
theorem okp_st (m : Nat) (h : Int) : Okp m (st m h) := by
  have e : bits h % (m + 1) ≤ m := Nat.le_of_lt_succ (Nat.mod_lt _ (Nat.succ_pos m))
  refine ⟨e, ?_, rfl⟩
  have := @le_runEnd m (bits h % (m + 1))
  show bits h % (m + 1) + (runEnd m (bits h % (m + 1)) - bits h % (m + 1)) = _
  show _ = runEnd m (bits h % (m + 1))
  omega
theorem okp_ad {m : Nat} {p : Probe} (o : Okp m p) : Okp m (ad m p) := by
  unfold ad
  by_cases c : p.more > 0
  · rw [if_pos c]
    refine ⟨o.i, ?_, o.d⟩
    have := o.j
    show p.j + 1 + (p.more - 1) = runEnd m p.i
    omega
  · rw [if_neg c]
    refine ⟨leap_le _ _ _, ?_, o.d⟩
    have := @le_runEnd m (leap m p.i p.perturb).1
    show (leap m p.i p.perturb).1 + (runEnd m (leap m p.i p.perturb).1 - (leap m p.i p.perturb).1) = runEnd m (leap m p.i p.perturb).1
    omega
theorem okp_it (m : Nat) (h : Int) : ∀ n, Okp m (it m h n)
  | 0 => okp_st m h
  | n + 1 => okp_ad (okp_it m h n)
theorem pt_le (m : Nat) (h : Int) (n : Nat) : pt m h n ≤ m := by
  have o := okp_it m h n
  have := runEnd_le o.i
  have := o.j
  unfold pt; omega
def R (m : Nat) (h : Int) : Nat → Nat × Nat
  | 0 => (bits h % (m + 1), bits h)
  | r + 1 => leap m (R m h r).1 (R m h r).2
def rd (m : Nat) (x : Nat × Nat) (k : Nat) : Probe := { j := x.1 + k, more := runEnd m x.1 - x.1 - k, i := x.1, perturb := x.2, dummy := none }
def N (m : Nat) (h : Int) : Nat → Nat
  | 0 => 0
  | r + 1 => N m h r + (runEnd m (R m h r).1 - (R m h r).1) + 1
theorem R_le (m : Nat) (h : Int) : ∀ r, (R m h r).1 ≤ m
  | 0 => Nat.le_of_lt_succ (Nat.mod_lt _ (Nat.succ_pos m))
  | r + 1 => leap_le _ _ _
theorem in_round {m : Nat} {h : Int} {n : Nat} {x : Nat × Nat} (e : it m h n = rd m x 0) : ∀ k, k ≤ runEnd m x.1 - x.1 → it m h (n + k) = rd m x k
  | 0, _ => e
  | k + 1, hk => by
    show ad m (it m h (n + k)) = _
    rw [in_round e k (by omega)]
    unfold ad rd
    rw [if_pos (by show runEnd m x.1 - x.1 - k > 0; omega)]
    show Probe.mk (x.1 + k + 1) (runEnd m x.1 - x.1 - k - 1) x.1 x.2 none = Probe.mk (x.1 + (k + 1)) (runEnd m x.1 - x.1 - (k + 1)) x.1 x.2 none
    rw [Nat.sub_sub, Nat.add_assoc]
theorem it_N (m : Nat) (h : Int) : ∀ r, it m h (N m h r) = rd m (R m h r) 0
  | 0 => rfl
  | r + 1 => by
    show ad m (it m h (N m h r + (runEnd m (R m h r).1 - (R m h r).1))) = _
    rw [in_round (it_N m h r) _ (Nat.le_refl _)]
    unfold ad rd
    rw [if_neg (by show ¬ (runEnd m (R m h r).1 - (R m h r).1 - (runEnd m (R m h r).1 - (R m h r).1) > 0); omega)]
    rfl
theorem pt_N (m : Nat) (h : Int) (r : Nat) : pt m h (N m h r) = (R m h r).1 := by unfold pt; rw [it_N]; rfl
theorem pt_round {m : Nat} {h : Int} {r k : Nat} (hk : k ≤ runEnd m (R m h r).1 - (R m h r).1) : pt m h (N m h r + k) = (R m h r).1 + k := by
  unfold pt; rw [in_round (it_N m h r) k hk]; rfl
theorem N_le (m : Nat) (h : Int) : ∀ r, N m h r ≤ 10 * r
  | 0 => Nat.le_refl _
  | r + 1 => by
    have a := N_le m h r
    have b := @runEnd_9 m (R m h r).1
    have c := @le_runEnd m (R m h r).1
    show N m h r + (runEnd m (R m h r).1 - (R m h r).1) + 1 ≤ _
    omega
theorem R_two (m : Nat) (h : Int) : ∀ r, (R m h r).2 = bits h / 32 ^ r
  | 0 => by show bits h = _; simp
  | r + 1 => by
    show (R m h r).2 / 32 = _
    rw [R_two m h r, Nat.div_div_eq_div_mul, Nat.pow_succ]
theorem bits_lt (h : Int) : bits h < 2 ^ 64 := by
  unfold bits
  have a := Int.emod_nonneg h (show (2 ^ 64 : Int) ≠ 0 by decide)
  have b := Int.emod_lt_of_pos h (show (0 : Int) < 2 ^ 64 by decide)
  have : (2 : Int) ^ 64 = 18446744073709551616 := by decide
  have : (2 : Nat) ^ 64 = 18446744073709551616 := by decide
  omega
theorem R_zero (m : Nat) (h : Int) (n : Nat) : (R m h (13 + n)).2 = 0 := by
  rw [R_two]
  refine Nat.div_eq_of_lt (Nat.lt_of_lt_of_le (bits_lt h) ?_)
  rw [Nat.pow_add]
  exact Nat.le_trans (by decide) (Nat.le_mul_of_pos_right _ (Nat.pow_pos (by decide)))
theorem F_succ (n x : Nat) : F (n + 1) x = 5 * F n x + 1 := by rw [F_add n 1]; rfl
theorem R_tail (m : Nat) (h : Int) : ∀ n, (R m h (12 + n)).1 = F n (R m h 12).1 % (m + 1)
  | 0 => by
    show (R m h 12).1 = (R m h 12).1 % (m + 1)
    rw [Nat.mod_eq_of_lt (Nat.lt_succ_of_le (R_le m h 12))]
  | n + 1 => by
    have z := R_zero m h n
    rw [show 13 + n = (12 + n) + 1 by omega] at z
    have z : (R m h (12 + n)).2 / 32 = 0 := z
    show ((R m h (12 + n)).1 * 5 + 1 + (R m h (12 + n)).2 / 32) % (m + 1) = _
    rw [z, R_tail m h n, F_succ, Nat.add_zero, Nat.mul_comm 5, Nat.add_mod, Nat.mul_mod, Nat.mod_mod, ← Nat.mul_mod, ← Nat.add_mod]
theorem round_hit {m k : Nat} (hm : m + 1 = 2 ^ k) (h : Int) {y : Nat} (hy : y ≤ m) : ∃ r, r ≤ 12 + m ∧ (R m h r).1 = y := by
  obtain ⟨n, hn, e⟩ := hit k (R m h 12).1 y
  refine ⟨12 + n, by omega, ?_⟩
  rw [R_tail, hm, e]
  exact Nat.mod_eq_of_lt (by omega)
theorem pt_hit {m k : Nat} (hm : m + 1 = 2 ^ k) (h : Int) {y : Nat} (hy : y ≤ m) : ∃ n, n ≤ 10 * (m + 12) ∧ pt m h n = y := by
  obtain ⟨r, hr, e⟩ := round_hit hm h hy
  refine ⟨N m h r, ?_, (pt_N m h r).trans e⟩
  have := N_le m h r
  omega
end Stb
end
section
set_option Elab.async false
set_option linter.all false
namespace Stb
open PySem SetTable
def Rising (xs : Array Nat) : Prop := xs.toList.Pairwise (· < ·)
theorem Rising.lt {xs : Array Nat} (r : Rising xs) {a b : Nat} (hab : a < b) (hb : b < xs.size) : xs.getD a 0 < xs.getD b 0 := by
  have P := List.pairwise_iff_getElem.mp r a b (by simpa using Nat.lt_trans hab hb) (by simpa using hb) hab
  have ha := Nat.lt_trans hab hb
  simpa [Array.getD, ha, hb] using P
theorem below_go {xs : Array Nat} (r : Rising xs) (j : Nat) : ∀ (f lo hi : Nat), lo ≤ hi → hi ≤ xs.size → hi - lo ≤ f → (∀ a, a < lo → xs.getD a 0 < j) → (∀ a, hi ≤ a → a < xs.size → j ≤ xs.getD a 0) →
    below.go xs j f lo hi ≤ xs.size ∧ (∀ a, a < below.go xs j f lo hi → xs.getD a 0 < j) ∧ (∀ a, below.go xs j f lo hi ≤ a → a < xs.size → j ≤ xs.getD a 0)
  | 0, lo, hi, h1, h2, h3, h4, h5 => by
    have : lo = hi := by omega
    subst this
    exact ⟨h2, h4, h5⟩
  | f + 1, lo, hi, h1, h2, h3, h4, h5 => by
    unfold below.go
    by_cases c : lo < hi
    · rw [if_pos c]
      show (if xs.getD ((lo + hi) / 2) j < j then below.go xs j f ((lo + hi) / 2 + 1) hi else below.go xs j f lo ((lo + hi) / 2)) ≤ _ ∧ (∀ a, a < (if xs.getD ((lo + hi) / 2) j < j then below.go xs j f ((lo + hi) / 2 + 1) hi else below.go xs j f lo ((lo + hi) / 2)) → _) ∧ (∀ a, (if xs.getD ((lo + hi) / 2) j < j then below.go xs j f ((lo + hi) / 2 + 1) hi else below.go xs j f lo ((lo + hi) / 2)) ≤ a → _)
      have hm : (lo + hi) / 2 < xs.size := by omega
      have e : xs.getD ((lo + hi) / 2) j = xs.getD ((lo + hi) / 2) 0 := by simp [Array.getD, hm]
      rw [e]
      by_cases d : xs.getD ((lo + hi) / 2) 0 < j
      · rw [if_pos d]
        refine below_go r j f _ hi (by omega) h2 (by omega) (fun a ha => ?_) h5
        rcases Nat.lt_or_ge a ((lo + hi) / 2) with q | q
        · exact Nat.lt_trans (r.lt q hm) d
        · rw [show a = (lo + hi) / 2 by omega]; exact d
      · rw [if_neg d]
        refine below_go r j f lo _ (by omega) (by omega) (by omega) h4 (fun a ha hs => ?_)
        rcases Nat.lt_or_ge ((lo + hi) / 2) a with q | q
        · have := r.lt q hs; omega
        · rw [show a = (lo + hi) / 2 by omega]; omega
    · rw [if_neg c]
      have : lo = hi := by omega
      subst this
      exact ⟨h2, h4, h5⟩
theorem below_spec {xs : Array Nat} (r : Rising xs) (j : Nat) : below xs j ≤ xs.size ∧ (∀ a, a < below xs j → xs.getD a 0 < j) ∧ (∀ a, below xs j ≤ a → a < xs.size → j ≤ xs.getD a 0) :=
  below_go r j xs.size 0 xs.size (Nat.zero_le _) (Nat.le_refl _) (by omega) (fun a h => absurd h (Nat.not_lt_zero a)) (fun a h h' => absurd h (by omega))
theorem getD_get {xs : Array Nat} {a : Nat} (h : a < xs.size) : xs[a]? = some (xs.getD a 0) := by simp [Array.getD, h]
theorem below_mem {xs : Array Nat} (r : Rising xs) {j : Nat} (h : j ∈ xs.toList) : xs[below xs j]? = some j := by
  obtain ⟨a, ha, e⟩ := List.getElem_of_mem h
  have ha' : a < xs.size := by simpa using ha
  have ea : xs.getD a 0 = j := by simpa [Array.getD, ha'] using e
  obtain ⟨b1, b2, b3⟩ := below_spec r j
  have h1 : ¬ a < below xs j := fun c => by have := b2 a c; omega
  have h2 : ¬ below xs j < a := fun c => by
    have := b3 _ (Nat.le_refl _) (Nat.lt_trans c ha')
    have := r.lt c ha'
    omega
  have : below xs j = a := by omega
  rw [this, getD_get ha', ea]
theorem not_mem_below {xs : Array Nat} {j : Nat} (h : j ∉ xs.toList) : xs[below xs j]? ≠ some j := by
  intro e
  exact h (by rw [Array.mem_toList_iff]; exact Array.mem_of_getElem? e)
theorem slot_mem {t : SetTable} (r : Rising t.place) {j : Nat} (h : j ∈ t.place.toList) : t.slot j = .live (below t.place j) := by
  unfold SetTable.slot
  have := below_mem r h
  simp [this]
theorem slot_not {t : SetTable} (hd : t.dummies = #[]) {j : Nat} (h : j ∉ t.place.toList) : t.slot j = .empty := by
  unfold SetTable.slot
  have := not_mem_below h
  simp [this, hd, SetTable.has]
theorem insertAt_list {α : Type} (xs : Array α) (p : Nat) (x : α) : (insertAt xs p x).toList = xs.toList.take p ++ x :: xs.toList.drop p := by
  unfold insertAt
  simp [Array.toList_extract, List.extract]
  exact List.take_of_length_le (by simp)
theorem mem_insertAt {α : Type} (xs : Array α) (p : Nat) (x y : α) : y ∈ (insertAt xs p x).toList ↔ y = x ∨ y ∈ xs.toList := by
  rw [insertAt_list]
  have : xs.toList = xs.toList.take p ++ xs.toList.drop p := (List.take_append_drop p _).symm
  constructor
  · intro h
    rcases List.mem_append.mp h with h | h
    · exact .inr (List.mem_of_mem_take h)
    · rcases List.mem_cons.mp h with h | h
      · exact .inl h
      · exact .inr (List.mem_of_mem_drop h)
  · rintro (h | h)
    · subst h; exact List.mem_append_right _ List.mem_cons_self
    · rw [this] at h
      rcases List.mem_append.mp h with h | h
      · exact List.mem_append_left _ h
      · exact List.mem_append_right _ (List.mem_cons_of_mem _ h)
theorem size_insertAt {α : Type} (xs : Array α) (p : Nat) (x : α) : (insertAt xs p x).size = xs.size + 1 := by
  have : (insertAt xs p x).toList.length = xs.toList.length + 1 := by
    rw [insertAt_list, List.length_append, List.length_cons]
    have := congrArg List.length (List.take_append_drop p xs.toList)
    rw [List.length_append] at this
    omega
  simpa using this
theorem perm_insertAt {α : Type} (xs : Array α) (p : Nat) (x : α) : (insertAt xs p x).toList.Perm (x :: xs.toList) := by
  rw [insertAt_list]
  refine List.perm_middle.trans ?_
  rw [List.take_append_drop]
theorem rising_insert {xs : Array Nat} (r : Rising xs) {j : Nat} (h : j ∉ xs.toList) : Rising (insertAt xs (below xs j) j) := by
  unfold Rising
  rw [insertAt_list]
  obtain ⟨b1, b2, b3⟩ := below_spec r j
  have r' : (xs.toList.take (below xs j) ++ xs.toList.drop (below xs j)).Pairwise (· < ·) := by rw [List.take_append_drop]; exact r
  obtain ⟨p1, p2, p3⟩ := List.pairwise_append.mp r'
  have lo : ∀ a ∈ xs.toList.take (below xs j), a < j := by
    intro a ha
    obtain ⟨i, hi, e⟩ := List.getElem_of_mem ha
    rw [List.length_take] at hi
    have hi' : i < xs.size := by have : i < xs.toList.length := by omega
                                 simpa using this
    have := b2 i (by omega)
    rw [List.getElem_take] at e
    have e' : xs.getD i 0 = a := by simpa [Array.getD, hi'] using e
    omega
  have hi : ∀ a ∈ xs.toList.drop (below xs j), j < a := by
    intro a ha
    obtain ⟨i, hi, e⟩ := List.getElem_of_mem ha
    rw [List.length_drop] at hi
    rw [List.getElem_drop] at e
    have hl : xs.toList.length = xs.size := by simp
    have hi' : below xs j + i < xs.size := by omega
    have := b3 (below xs j + i) (by omega) hi'
    have e' : xs.getD (below xs j + i) 0 = a := by simpa [Array.getD, hi'] using e
    have : a ≠ j := fun z => h (by rw [← z]; exact List.mem_of_mem_drop ha)
    omega
  refine List.pairwise_append.mpr ⟨p1, List.pairwise_cons.mpr ⟨hi, p2⟩, fun a ha b hb => ?_⟩
  rcases List.mem_cons.mp hb with rfl | hb
  · exact lo a ha
  · exact p3 a ha b hb
theorem len_of_subset : ∀ {xs ys : List Nat}, xs.Nodup → (∀ x ∈ xs, x ∈ ys) → xs.length ≤ ys.length
  | [], ys, _, _ => Nat.zero_le _
  | x :: xs, ys, n, s => by
    have hx := s x List.mem_cons_self
    obtain ⟨n1, n2⟩ := List.nodup_cons.mp n
    have := len_of_subset (ys := ys.erase x) n2 (fun y hy => by
      have : y ≠ x := fun e => n1 (e ▸ hy)
      exact (List.mem_erase_of_ne this).mpr (s y (List.mem_cons_of_mem _ hy)))
    rw [List.length_erase_of_mem hx] at this
    have : 0 < ys.length := List.length_pos_of_mem hx
    simp only [List.length_cons]
    omega
theorem spare {m : Nat} {ps : List Nat} (h : ps.length ≤ m) : ∃ y, y ≤ m ∧ y ∉ ps := by
  by_cases c : ∃ y, y ≤ m ∧ y ∉ ps
  · exact c
  · have : (List.range (m + 1)).length ≤ ps.length := len_of_subset List.nodup_range (fun x hx => by
      by_cases d : x ∈ ps
      · exact d
      · exact absurd ⟨x, Nat.le_of_lt_succ (List.mem_range.mp hx), d⟩ c)
    rw [List.length_range] at this
    omega
def Fst (m : Nat) (ps : List Nat) (h : Int) (n : Nat) : Prop := pt m h n ∉ ps ∧ ∀ k, k < n → pt m h k ∈ ps
theorem least {P : Nat → Prop} (h : ∃ n, P n) : ∃ n, P n ∧ ∀ k, k < n → ¬ P k := by
  obtain ⟨n, hn⟩ := h
  induction n using Nat.strongRecOn with
  | _ n ih =>
    by_cases c : ∃ k, k < n ∧ P k
    · obtain ⟨k, h1, h2⟩ := c; exact ih k h1 h2
    · exact ⟨n, hn, fun k hk hp => c ⟨k, hk, hp⟩⟩
theorem fst_ex {m k : Nat} (hm : m + 1 = 2 ^ k) {ps : List Nat} (hl : ps.length ≤ m) (h : Int) : ∃ n, n ≤ 10 * (m + 12) ∧ Fst m ps h n := by
  obtain ⟨y, hy, hn⟩ := spare hl
  obtain ⟨n, h1, h2⟩ := pt_hit hm h hy
  obtain ⟨n', h3, h4⟩ := least (P := fun n => pt m h n ∉ ps) ⟨n, by rw [h2]; exact hn⟩
  refine ⟨n', ?_, h3, fun k hk => Classical.byContradiction (h4 k hk)⟩
  rcases Nat.lt_or_ge n n' with q | q
  · exact absurd (by rw [h2]; exact hn) (h4 n q)
  · omega
end Stb
end
section
set_option Elab.async false
set_option linter.all false
namespace Stb
open PySem SetTable
def Way (m : Nat) (ps : List Nat) (h : Int) (j : Nat) : Prop := ∃ n, pt m h n = j ∧ ∀ k, k < n → pt m h k ∈ ps
theorem Way.mono {m : Nat} {ps qs : List Nat} {h : Int} {j : Nat} (w : Way m ps h j) (s : ∀ x ∈ ps, x ∈ qs) : Way m qs h j := by
  obtain ⟨n, e, a⟩ := w
  exact ⟨n, e, fun k hk => s _ (a k hk)⟩
def Msk (m : Nat) : Prop := m = 7 ∨ m = 31 ∨ m = 127 ∨ m = 511 ∨ m = 2047 ∨ m = 8191
theorem Msk.pow {m : Nat} (h : Msk m) : ∃ k, m + 1 = 2 ^ k := by
  rcases h with h | h | h | h | h | h <;> subst h
  · exact ⟨3, by decide⟩
  · exact ⟨5, by decide⟩
  · exact ⟨7, by decide⟩
  · exact ⟨9, by decide⟩
  · exact ⟨11, by decide⟩
  · exact ⟨13, by decide⟩
theorem Msk.le {m : Nat} (h : Msk m) : m ≤ 8191 := by
  rcases h with h | h | h | h | h | h <;> subst h <;> decide
theorem Msk.odd {m : Nat} (h : Msk m) : m % 2 = 1 := by
  rcases h with h | h | h | h | h | h <;> subst h <;> decide
structure Inv0 (t : SetTable) (es : Array (Int × Value)) : Prop where
  msk : Msk t.mask
  dum : t.dummies = #[]
  rise : Rising t.place
  le : ∀ j ∈ t.place.toList, j ≤ t.mask
  size : t.place.size = es.size
  room : t.place.size ≤ t.mask
  way : ∀ q ∈ t.place.toList.zip es.toList, Way t.mask t.place.toList q.2.1 q.1
structure Inv (t : SetTable) (es : Array (Int × Value)) : Prop extends Inv0 t es where
  full : t.place.size * 5 < t.mask * 3
theorem Inv0.fill {t : SetTable} {es : Array (Int × Value)} (I : Inv0 t es) : t.fill = es.size := by
  unfold SetTable.fill; rw [I.dum, I.size]; rfl
theorem probe_go {t : SetTable} (rs : Rising t.place) (hd : t.dummies = #[]) (hash : Nat → Int) {h : Int} {e : Nat} (hF : Fst t.mask t.place.toList h e) :
    ∀ (f n : Nat), n ≤ e → e - n < f →
      (probe.go t hash h f (it t.mask h n) = some (.empty (pt t.mask h e) none) ∧ ∀ k, n ≤ k → k < e → hash (below t.place (pt t.mask h k)) ≠ h) ∨
      ∃ k, n ≤ k ∧ k < e ∧ hash (below t.place (pt t.mask h k)) = h ∧ probe.go t hash h f (it t.mask h n) = some (.candidate (pt t.mask h k) (below t.place (pt t.mask h k)) (it t.mask h (k + 1))) ∧ ∀ k', n ≤ k' → k' < k → hash (below t.place (pt t.mask h k')) ≠ h
  | 0, n, h1, h2 => absurd h2 (Nat.not_lt_zero _)
  | f + 1, n, h1, h2 => by
    unfold probe.go
    have hdn : (it t.mask h n).dummy = none := (okp_it t.mask h n).d
    rcases Nat.lt_or_ge n e with q | q
    · have hm := hF.2 n q
      have es : t.slot (it t.mask h n).j = .live (below t.place (pt t.mask h n)) := slot_mem rs hm
      rw [es]
      by_cases c : hash (below t.place (pt t.mask h n)) = h
      · refine .inr ⟨n, Nat.le_refl _, q, c, ?_, fun k' a b => absurd a (by omega)⟩
        show (if (hash (below t.place (pt t.mask h n)) == h) = true then _ else _) = _
        rw [if_pos (by rw [c]; exact beq_self_eq_true _)]
        rfl
      · have e2 : (if (hash (below t.place (pt t.mask h n)) == h) = true then some (Met.candidate (it t.mask h n).j (below t.place (pt t.mask h n)) (t.advance (it t.mask h n))) else probe.go t hash h f (t.advance (it t.mask h n))) = probe.go t hash h f (it t.mask h (n + 1)) := by
          rw [if_neg (by simpa using c)]; rfl
        rcases probe_go rs hd hash hF f (n + 1) q (by omega) with ⟨a, b⟩ | ⟨k, a, b, c', d, e'⟩
        · refine .inl ⟨e2.trans a, fun k hk hk' => ?_⟩
          rcases Nat.lt_or_ge n k with z | z
          · exact b k z hk'
          · rw [show k = n by omega]; exact c
        · refine .inr ⟨k, by omega, b, c', e2.trans d, fun k' hk hk' => ?_⟩
          rcases Nat.lt_or_ge n k' with z | z
          · exact e' k' z hk'
          · rw [show k' = n by omega]; exact c
    · have : n = e := by omega
      subst this
      have es : t.slot (it t.mask h n).j = .empty := slot_not hd hF.1
      rw [es]
      refine .inl ⟨?_, fun k a b => absurd a (by omega)⟩
      show some (Met.empty (it t.mask h n).j (it t.mask h n).dummy) = _
      rw [hdn]; rfl
theorem zip_insert {α β : Type} (xs : Array α) (ys : Array β) (e : xs.size = ys.size) (p : Nat) (x : α) (y : β) (q : α × β) (h : q ∈ (insertAt xs p x).toList.zip (insertAt ys p y).toList) : q = (x, y) ∨ q ∈ xs.toList.zip ys.toList := by
  rw [insertAt_list, insertAt_list] at h
  have el : (xs.toList.take p).length = (ys.toList.take p).length := by
    rw [List.length_take, List.length_take]; simp [e]
  rw [List.zip_append el, List.zip_cons_cons] at h
  have w : xs.toList.zip ys.toList = (xs.toList.take p).zip (ys.toList.take p) ++ (xs.toList.drop p).zip (ys.toList.drop p) := by
    rw [← List.zip_append el, List.take_append_drop, List.take_append_drop]
  rw [w]
  rcases List.mem_append.mp h with h | h
  · exact .inr (List.mem_append_left _ h)
  · rcases List.mem_cons.mp h with h | h
    · exact .inl h
    · exact .inr (List.mem_append_right _ h)
theorem put_eq {t : SetTable} (hd : t.dummies = #[]) (j : Nat) : t.put j = ({ t with place := insertAt t.place (below t.place j) j }, below t.place j) := by
  unfold SetTable.put
  have : has t.dummies j = false := by rw [hd]; simp [SetTable.has]
  simp [this]
theorem inv_put {t : SetTable} {es : Array (Int × Value)} (I : Inv t es) {h : Int} {x : Value} {n : Nat} (hF : Fst t.mask t.place.toList h n) :
    Inv0 { t with place := insertAt t.place (below t.place (pt t.mask h n)) (pt t.mask h n) } (insertAt es (below t.place (pt t.mask h n)) (h, x)) := by
  have f := I.full
  refine ⟨I.msk, I.dum, rising_insert I.rise hF.1, fun j hj => ?_, ?_, ?_, fun q hq => ?_⟩
  · rcases (mem_insertAt _ _ _ _).mp hj with e | e
    · rw [e]; exact pt_le _ _ _
    · exact I.le j e
  · rw [size_insertAt, size_insertAt, I.size]
  · show (insertAt t.place _ _).size ≤ t.mask
    rw [size_insertAt]; omega
  · have sub : ∀ z ∈ t.place.toList, z ∈ (insertAt t.place (below t.place (pt t.mask h n)) (pt t.mask h n)).toList := fun z hz => (mem_insertAt _ _ _ _).mpr (.inr hz)
    rcases zip_insert _ _ I.size _ _ _ q hq with e | e
    · subst e
      exact ⟨n, rfl, fun k hk => sub _ (hF.2 k hk)⟩
    · exact (I.way q e).mono sub
theorem met_all {t : SetTable} {es : Array (Int × Value)} (I : Inv0 t es) {h : Int} {e : Nat} (hF : Fst t.mask t.place.toList h e) {i : Nat} {x : Value} (hi : es[i]? = some (h, x)) : ∃ k, k < e ∧ below t.place (pt t.mask h k) = i := by
  have hs : i < es.size := (Array.getElem?_eq_some_iff.mp hi).1
  have hp : i < t.place.size := by rw [I.size]; exact hs
  have hm : (t.place[i], (h, x)) ∈ t.place.toList.zip es.toList := by
    refine List.mem_iff_getElem?.mpr ⟨i, ?_⟩
    rw [List.getElem?_zip_eq_some]
    refine ⟨by simp [hp], by rw [Array.getElem?_toList]; exact hi⟩
  obtain ⟨n, e1, e2⟩ := I.way _ hm
  have e1 : pt t.mask h n = t.place[i] := e1
  have hj : pt t.mask h n ∈ t.place.toList := by rw [e1]; simp
  have hne : n < e := by
    rcases Nat.lt_or_ge n e with q | q
    · exact q
    · rcases Nat.lt_or_ge e n with q' | q'
      · exact absurd (e2 e q') hF.1
      · rw [show n = e by omega] at hj; exact absurd hj hF.1
  refine ⟨n, hne, ?_⟩
  have b := below_mem I.rise hj
  rw [e1] at b ⊢
  have b1 := (Array.getElem?_eq_some_iff.mp b)
  obtain ⟨b2, b3⟩ := b1
  rcases Nat.lt_trichotomy (below t.place t.place[i]) i with q | q | q
  · have := I.rise.lt q hp
    simp [Array.getD, hp, b2] at this
    omega
  · exact q
  · have := I.rise.lt q b2
    simp [Array.getD, hp, b2] at this
    omega
end Stb
end
section
set_option Elab.async false
set_option linter.all false
namespace Stb
open PySem SetTable
structure Own (m : Nat) (ps : List Nat) (ow : Array (Option Nat)) : Prop where
  sz : ow.size = m + 1
  nd : ps.Nodup
  le : ∀ j ∈ ps, j ≤ m
  yes : ∀ (i j : Nat), ps[i]? = some j → ow[j]? = some (some i)
  no : ∀ (j : Nat), j ≤ m → j ∉ ps → ow[j]? = some none
theorem Own.none_iff {m : Nat} {ps : List Nat} {ow : Array (Option Nat)} (O : Own m ps ow) {j : Nat} (h : j ≤ m) : (ow.getD j (some 0)).isNone = true ↔ j ∉ ps := by
  by_cases c : j ∈ ps
  · obtain ⟨i, hi⟩ := List.mem_iff_getElem?.mp c
    have := O.yes i j hi
    rw [Array.getD_eq_getD_getElem?, this]
    simp [c]
  · have := O.no j h c
    rw [Array.getD_eq_getD_getElem?, this]
    simp [c]
theorem free_spec {m : Nat} {ps : List Nat} {ow : Array (Option Nat)} (O : Own m ps ow) (h : Int) : ∀ (f r : Nat), (∀ k, k < N m h r → pt m h k ∈ ps) → (∃ r', r ≤ r' ∧ r' < r + f ∧ (R m h r').1 ∉ ps) →
    ∃ n, layClean.free m ow f (R m h r).1 (R m h r).2 = some (pt m h n) ∧ Fst m ps h n
  | 0, r, _, ⟨r', a, b, _⟩ => absurd b (by omega)
  | f + 1, r, hb, ⟨r', a, b, c⟩ => by
    unfold layClean.free
    have hR := R_le m h r
    have hl := @le_runEnd m (R m h r).1
    have hu := runEnd_le hR
    cases e : (List.range (runEnd m (R m h r).1 + 1 - (R m h r).1)).find? fun k => (ow.getD ((R m h r).1 + k) (some 0)).isNone with
    | some k =>
      obtain ⟨e1, e2, e3⟩ := List.find?_range_eq_some.mp e
      have e2 := List.mem_range.mp e2
      have hk : k ≤ runEnd m (R m h r).1 - (R m h r).1 := by omega
      refine ⟨N m h r + k, ?_, ?_, fun k' hk' => ?_⟩
      · show some ((R m h r).1 + k) = _
        rw [pt_round hk]
      · rw [pt_round hk]; exact (O.none_iff (by omega)).mp e1
      · rcases Nat.lt_or_ge k' (N m h r) with q | q
        · exact hb k' q
        · have e4 := e3 (k' - N m h r) (by omega)
          have hk2 : k' - N m h r ≤ runEnd m (R m h r).1 - (R m h r).1 := by omega
          have e5 := pt_round (h := h) (r := r) hk2
          rw [show N m h r + (k' - N m h r) = k' by omega] at e5
          rw [e5]
          refine Classical.byContradiction fun z => ?_
          have := (O.none_iff (j := (R m h r).1 + (k' - N m h r)) (by omega)).mpr z
          rw [this] at e4; cases e4
    | none =>
      have e3 := List.find?_eq_none.mp e
      have all : ∀ k, k ≤ runEnd m (R m h r).1 - (R m h r).1 → (R m h r).1 + k ∈ ps := fun k hk => by
        refine Classical.byContradiction fun z => ?_
        exact e3 k (List.mem_range.mpr (by omega)) ((O.none_iff (j := (R m h r).1 + k) (by omega)).mpr z)
      have hb' : ∀ k, k < N m h (r + 1) → pt m h k ∈ ps := fun k hk => by
        rcases Nat.lt_or_ge k (N m h r) with q | q
        · exact hb k q
        · have hk : k < N m h r + (runEnd m (R m h r).1 - (R m h r).1) + 1 := hk
          have e5 := pt_round (m := m) (h := h) (r := r) (k := k - N m h r) (by omega)
          rw [show N m h r + (k - N m h r) = k by omega] at e5
          rw [e5]
          exact all _ (by omega)
      have hr' : r ≠ r' := fun z => by subst z; exact c (by simpa using all 0 (Nat.zero_le _))
      exact free_spec O h f (r + 1) hb' ⟨r', by omega, by omega, c⟩
theorem own_set {m : Nat} {ps : List Nat} {ow : Array (Option Nat)} (O : Own m ps ow) {j : Nat} (hj : j ≤ m) (hn : j ∉ ps) : Own m (ps ++ [j]) (ow.setIfInBounds j (some ps.length)) := by
  refine ⟨by simp [O.sz], ?_, ?_, ?_, ?_⟩
  · refine List.nodup_append.mpr ⟨O.nd, by simp, fun a ha b hb => ?_⟩
    simp at hb
    rw [hb]; exact fun z => hn (z ▸ ha)
  · intro x hx
    rcases List.mem_append.mp hx with hx | hx
    · exact O.le x hx
    · simp at hx; rw [hx]; exact hj
  · intro i x hx
    rcases Nat.lt_trichotomy i ps.length with q | q | q
    · rw [List.getElem?_append_left q] at hx
      have : x ≠ j := fun z => hn (z ▸ List.mem_of_getElem? hx)
      rw [Array.getElem?_setIfInBounds_ne (fun z => this z.symm)]
      exact O.yes i x hx
    · subst q
      rw [List.getElem?_append_right (Nat.le_refl _)] at hx
      simp at hx
      rw [← hx, Array.getElem?_setIfInBounds_self_of_lt (by rw [O.sz]; omega)]
    · rw [List.getElem?_append_right (by omega)] at hx
      have : [j][i - ps.length]? = none := List.getElem?_eq_none (by simp; omega)
      rw [this] at hx; cases hx
  · intro x hx hxn
    have h1 : x ∉ ps := fun z => hxn (List.mem_append_left _ z)
    have h2 : x ≠ j := fun z => hxn (List.mem_append_right _ (by simp [z]))
    rw [Array.getElem?_setIfInBounds_ne (fun z => h2 z.symm)]
    exact O.no x hx h1
theorem own_nil (m : Nat) : Own m [] (Array.replicate (m + 1) none) :=
  ⟨by simp, List.nodup_nil, fun j h => (List.not_mem_nil h).elim, fun i j h => (by cases h), fun j h _ => by rw [Array.getElem?_replicate, if_pos (by omega)]⟩
abbrev layStep (m : Nat) (acc : Option (Array (Option Nat) × Nat)) (h : Int) : Option (Array (Option Nat) × Nat) := do
    let (owner, k) ← acc
    let j ← layClean.free m owner (turns m) (bits h % (m + 1)) (bits h)
    pure (owner.setIfInBounds j (some k), k + 1)
theorem lay_fold {m kk : Nat} (hm : m + 1 = 2 ^ kk) : ∀ (hs done : List Int) (ps : List Nat) (ow : Array (Option Nat)), Own m ps ow → ps.length = done.length → done.length + hs.length ≤ m →
    (∀ (i : Nat) h (j : Nat), done[i]? = some h → ps[i]? = some j → Way m ps h j) →
    ∃ ps' ow', hs.foldl (layStep m) (some (ow, ps.length)) = some (ow', ps'.length) ∧ Own m ps' ow' ∧ ps'.length = done.length + hs.length ∧ (∀ (i : Nat) h (j : Nat), (done ++ hs)[i]? = some h → ps'[i]? = some j → Way m ps' h j)
  | [], done, ps, ow, O, hl, hb, hw => ⟨ps, ow, rfl, O, hl, by rw [List.append_nil]; exact hw⟩
  | h :: hs, done, ps, ow, O, hl, hb, hw => by
    simp only [List.length_cons] at hb
    obtain ⟨y, hy, hyn⟩ := spare (m := m) (ps := ps) (by omega)
    obtain ⟨r, hr, e⟩ := round_hit hm h hy
    obtain ⟨n, ef, hF⟩ := free_spec O h (turns m) 0 (fun k hk => absurd hk (Nat.not_lt_zero k)) ⟨r, Nat.zero_le _, by unfold turns; omega, by rw [e]; exact hyn⟩
    have ef : layClean.free m ow (turns m) (bits h % (m + 1)) (bits h) = some (pt m h n) := ef
    have es : layStep m (some (ow, ps.length)) h = some (ow.setIfInBounds (pt m h n) (some ps.length), (ps ++ [pt m h n]).length) := by
      show (layClean.free m ow (turns m) (bits h % (m + 1)) (bits h)).bind _ = _
      rw [ef]; simp
    have O' := own_set O (pt_le m h n) hF.1
    obtain ⟨ps', ow', a, b, c, d⟩ := lay_fold hm hs (done ++ [h]) (ps ++ [pt m h n]) _ O' (by simp [hl]) (by simp; omega) (fun i h' j h1 h2 => by
      have sub : ∀ z ∈ ps, z ∈ ps ++ [pt m h n] := fun z hz => List.mem_append_left _ hz
      rcases Nat.lt_trichotomy i done.length with q | q | q
      · rw [List.getElem?_append_left q] at h1
        rw [List.getElem?_append_left (by omega)] at h2
        exact (hw i h' j h1 h2).mono sub
      · subst q
        rw [List.getElem?_append_right (Nat.le_refl _)] at h1
        rw [List.getElem?_append_right (by omega), hl] at h2
        simp at h1 h2
        subst h1; subst h2
        exact ⟨n, rfl, fun k hk => sub _ (hF.2 k hk)⟩
      · rw [List.getElem?_append_right (by omega)] at h1
        have : [h][i - done.length]? = none := List.getElem?_eq_none (by simp; omega)
        rw [this] at h1; cases h1)
    refine ⟨ps', ow', ?_, b, by rw [c]; simp; omega, by rw [List.append_assoc] at d; exact d⟩
    rw [List.foldl_cons, es]; exact a
theorem layClean_eq (m : Nat) (hs : Array Int) : layClean m hs = (hs.toList.foldl (layStep m) (some (Array.replicate (m + 1) none, 0))).map (·.1) := by
  unfold layClean
  rw [Array.foldl_toList]
theorem range_get {α : Type} (xs : List α) : (List.range xs.length).filterMap (fun i => xs[i]?) = xs := by
  induction xs with
  | nil => rfl
  | cons x xs ih =>
    rw [List.length_cons, List.range_succ_eq_map, List.filterMap_cons]
    simp only [List.getElem?_cons_zero]
    rw [List.filterMap_map]
    exact congrArg (x :: ·) ih
theorem laid_spec {m kk : Nat} (hm : m + 1 = 2 ^ kk) (hk : Msk m) (fi mo : Nat) (led plain : Bool) (es : Array (Int × Value)) (hl : es.size ≤ m) :
    ∃ t' order, laid m fi mo led plain (es.map (·.1)) = some (t', order) ∧ t'.led = led ∧ t'.mask = m ∧ t'.plain = plain ∧ Inv0 t' (order.filterMap (es[·]?)) ∧ (order.filterMap (es[·]?)).toList.Perm es.toList := by
  obtain ⟨ps, ow, a, O, c, d⟩ := lay_fold hm (es.map (·.1)).toList [] [] _ (own_nil m) rfl (by simpa using hl) (fun i h j h1 => by cases h1)
  have hc : layClean m (es.map (·.1)) = some ow := by
    rw [layClean_eq]
    have a : List.foldl (layStep m) (some (Array.replicate (m + 1) none, 0)) (es.map (·.1)).toList = some (ow, ps.length) := a
    rw [a]; rfl
  have hpl : ps.length = es.size := by rw [c]; simp
  let live := (List.range (m + 1)).filterMap fun j => (ow.getD j none).map (j, ·)
  have hlive : ∀ j i, (j, i) ∈ live ↔ ps[i]? = some j := by
    intro j i
    constructor
    · intro h
      obtain ⟨j', h1, h2⟩ := List.mem_filterMap.mp h
      have h1 := List.mem_range.mp h1
      obtain ⟨i', h3, h4⟩ := Option.map_eq_some_iff.mp h2
      obtain ⟨rfl, rfl⟩ := Prod.mk.inj h4
      by_cases q : j' ∈ ps
      · obtain ⟨i2, q2⟩ := List.mem_iff_getElem?.mp q
        have := O.yes i2 j' q2
        rw [Array.getD_eq_getD_getElem?, this] at h3
        simp at h3
        rw [← h3]; exact q2
      · have := O.no j' (by omega) q
        rw [Array.getD_eq_getD_getElem?, this] at h3
        simp at h3
    · intro h
      refine List.mem_filterMap.mpr ⟨j, List.mem_range.mpr (Nat.lt_succ_of_le (O.le j (List.mem_of_getElem? h))), ?_⟩
      rw [Array.getD_eq_getD_getElem?, O.yes i j h]; rfl
  have hr1 : (live.map (·.1)).Pairwise (· < ·) := by
    rw [List.pairwise_map]
    refine List.pairwise_filterMap.mpr ((List.pairwise_lt_range).imp ?_)
    intro a b hab x hx y hy
    obtain ⟨_, _, rfl⟩ := Option.map_eq_some_iff.mp hx
    obtain ⟨_, _, rfl⟩ := Option.map_eq_some_iff.mp hy
    exact hab
  have hnd : (live.map (·.2)).Nodup := by
    show (live.map (·.2)).Pairwise (· ≠ ·)
    rw [List.pairwise_map]
    have : live.Pairwise (fun x y => x.1 < y.1) := List.pairwise_map.mp hr1
    refine (List.Pairwise.and_mem.mp this).imp ?_
    rintro ⟨x1, x2⟩ ⟨y1, y2⟩ ⟨hx, hy, hlt⟩ e
    have e : x2 = y2 := e
    have hx := (hlive _ _).mp hx
    have hy := (hlive _ _).mp hy
    rw [e, hy] at hx
    have : y1 = x1 := Option.some.inj hx
    have hlt : x1 < y1 := hlt
    omega
  have hperm : (live.map (·.2)).Perm (List.range es.size) := by
    refine (List.perm_ext_iff_of_nodup hnd List.nodup_range).mpr fun i => ?_
    constructor
    · intro h
      obtain ⟨⟨j, i'⟩, h1, rfl⟩ := List.mem_map.mp h
      have := (hlive _ _).mp h1
      rw [← hpl]
      exact List.mem_range.mpr (List.getElem?_eq_some_iff.mp this).1
    · intro h
      have h := List.mem_range.mp h
      rw [← hpl] at h
      exact List.mem_map.mpr ⟨(ps[i], i), (hlive _ _).mpr (List.getElem?_eq_getElem h), rfl⟩
  have hes : (((live.map (·.2)).toArray).filterMap (es[·]?)).toList = (live.map (·.2)).filterMap (fun i => es.toList[i]?) := by
    simp
  have hp2 : (((live.map (·.2)).toArray).filterMap (es[·]?)).toList.Perm es.toList := by
    rw [hes]
    refine (hperm.filterMap _).trans ?_
    have := range_get es.toList
    rw [show es.toList.length = es.size by simp] at this
    rw [this]
  have hzip : ∀ (l : List (Nat × Nat)), (∀ x ∈ l, x.2 < es.size) → ∀ q ∈ (l.map (·.1)).zip ((l.map (·.2)).filterMap (fun i => es.toList[i]?)), ∃ i, (q.1, i) ∈ l ∧ es.toList[i]? = some q.2 := by
    intro l
    induction l with
    | nil => intro _ q hq; simp at hq
    | cons x l ih =>
      intro hx q hq
      have h1 := hx x List.mem_cons_self
      have e : es.toList[x.2]? = some es.toList[x.2] := List.getElem?_eq_getElem (by simpa using h1)
      rw [List.map_cons, List.map_cons, List.filterMap_cons, e] at hq
      rcases List.mem_cons.mp hq with rfl | hq
      · exact ⟨x.2, List.mem_cons_self, e⟩
      · obtain ⟨i, a1, a2⟩ := ih (fun y hy => hx y (List.mem_cons_of_mem _ hy)) q hq
        exact ⟨i, List.mem_cons_of_mem _ a1, a2⟩
  have hmem : ∀ j, j ∈ live.map (·.1) ↔ j ∈ ps := fun j => by
    constructor
    · intro h
      obtain ⟨⟨j', i⟩, h1, rfl⟩ := List.mem_map.mp h
      exact List.mem_of_getElem? ((hlive _ _).mp h1)
    · intro h
      obtain ⟨i, hi⟩ := List.mem_iff_getElem?.mp h
      exact List.mem_map.mpr ⟨(j, i), (hlive _ _).mpr hi, rfl⟩
  have hlen : live.length = es.size := by
    have := hperm.length_eq
    simpa using this
  refine ⟨{ mask := m, place := (live.map (·.1)).toArray, dummies := #[], finger := fi, led, moves := mo, plain }, (live.map (·.2)).toArray, ?_, rfl, rfl, rfl, ⟨hk, rfl, hr1, ?_, ?_, ?_, ?_⟩, hp2⟩
  · unfold laid; rw [hc]; rfl
  · intro j hj; exact O.le j ((hmem j).mp hj)
  · have := hp2.length_eq
    simp only [Array.length_toList] at this
    rw [this]
    show (live.map (·.1)).toArray.size = _
    simp [hlen]
  · show (live.map (·.1)).toArray.size ≤ m
    simp [hlen, hl]
  · intro q hq
    rw [hes] at hq
    obtain ⟨i, a1, a2⟩ := hzip live (fun x hx => by
      have := (List.getElem?_eq_some_iff.mp ((hlive x.1 x.2).mp hx)).1
      omega) q hq
    have h1 := (hlive _ _).mp a1
    have w := d i q.2.1 q.1 (by simp at a2 ⊢; rw [a2]; exact ⟨_, rfl⟩) h1
    exact w.mono fun z hz => (hmem z).mpr hz
theorem relaid_spec {t : SetTable} {es : Array (Int × Value)} (I : Inv0 t es) (hb : es.size ≤ 4914) (hf : t.tooFull = true) (hpre : (es.size - 1) * 5 < t.mask * 3) :
    sizeAbove (grown es.size) ≤ 8192 ∧ ∃ t' order, t.relaid (es.map (·.1)) (grown es.size) = some (t', order) ∧ t'.led = t.led ∧ t'.plain = t.plain ∧ Inv t' (order.filterMap (es[·]?)) ∧ (order.filterMap (es[·]?)).toList.Perm es.toList := by
  have hfull : es.size * 5 ≥ t.mask * 3 := by
    unfold SetTable.tooFull at hf
    rw [I.fill] at hf
    exact of_decide_eq_true hf
  have key : ∃ m', sizeAbove (grown es.size) - 1 = m' ∧ Msk m' ∧ es.size * 5 < m' * 3 ∧ sizeAbove (grown es.size) ≤ 8192 := by
    rcases I.msk with q | q | q | q | q | q <;> rw [q] at hfull hpre
    · rw [show es.size = 5 by omega]; exact ⟨31, by decide, .inr (.inl rfl), by decide, by decide⟩
    · rw [show es.size = 19 by omega]; exact ⟨127, by decide, .inr (.inr (.inl rfl)), by decide, by decide⟩
    · rw [show es.size = 77 by omega]; exact ⟨511, by decide, .inr (.inr (.inr (.inl rfl))), by decide, by decide⟩
    · rw [show es.size = 307 by omega]; exact ⟨2047, by decide, .inr (.inr (.inr (.inr (.inl rfl)))), by decide, by decide⟩
    · rw [show es.size = 1229 by omega]; exact ⟨8191, by decide, .inr (.inr (.inr (.inr (.inr rfl)))), by decide, by decide⟩
    · omega
  obtain ⟨m', e, hk, hr, hs⟩ := key
  refine ⟨hs, ?_⟩
  obtain ⟨kk, hm⟩ := hk.pow
  unfold SetTable.relaid
  rw [e]
  obtain ⟨t', order, a1, a2, a3, a4, a5, a6⟩ := laid_spec hm hk t.finger (t.movedTo m') t.led t.plain es (by omega)
  refine ⟨t', order, a1, a2, a4, ⟨a5, ?_⟩, a6⟩
  have h1 := a5.size
  have h2 := a6.length_eq
  simp only [Array.length_toList] at h2
  rw [a3]; omega
end Stb
end
section
set_option Elab.async false
set_option linter.all false
set_option maxRecDepth 100000
namespace Stb
open PySem PyProof.Rows SetTable
section
variable {prog : Program} {w : World} {A : Around} {E : Value → Shared → Prop} {s : Shared}
abbrev TK (prog : Program) (w : World) (h : Heap) (ks : List Int) (b : Addr) : Prop := IsTupleKey (intKind prog w) h ks b
abbrev hsh (prog : Program) (w : World) (ks : List Int) : Int := tupleKeyHash (intKind prog w) ks
theorem items_int {ks : List Int} {vs : List Value} (h : ItemsAre (intKind prog w) ks vs) : ∀ v ∈ vs, ∃ n t, v = .int n t := by
  induction h with
  | nil => intro v hv; simp at hv
  | @cons k v' ks vs h1 _ ih =>
    intro v hv
    rcases List.mem_cons.mp hv with rfl | hv
    · cases v with
      | int n t => exact ⟨n, t, rfl⟩
      | _ => exact absurd h1 (by simp [intKind, Value.isInt])
    · exact ih v hv
theorem ofClass_int (d : Nat) (n : Int) (t : Tok) : ofAClassStatement d (.int n t) = pure false := by
  unfold ofAClassStatement; rfl
theorem ofClass_tuple {ks : List Int} {a : Addr} {Q : Bool → Shared → Prop} (hk : TK prog w s.heap ks a) (h : Q false s) : wpAny (model prog w) A (ofAClassStatement 8 (.ref a)) Q E s := by
  have hT := hk.typeIs
  obtain ⟨o, items, n, ho, hc, hd, hi⟩ := hk
  unfold ofAClassStatement
  refine wpAny_bind (wpAny_typeOf hT ?_)
  dsimp only
  have e : ("tuple" == "tuple") = true := by decide
  rw [if_pos e]
  refine wpAny_bind (wpAny_pure ?_)
  simp only [Bool.not_true, Bool.false_eq_true, if_false]
  refine wpAny_bind (wpAny_seqItems ho hd ?_)
  dsimp only
  refine wpAny_bind ?_
  rw [← Array.forIn_toList]
  refine wpAny_forIn_list _ (fun rest r s' => r.1 = none ∧ s' = s ∧ ∀ v ∈ rest, ∃ n t, v = Value.int n t) _ ?_ ?_ _ _ ⟨rfl, rfl, items_int hi⟩
  · rintro v rest r s' ⟨hr, rfl, hall⟩
    obtain ⟨n, t, rfl⟩ := hall v List.mem_cons_self
    rw [ofClass_int]
    refine wpAny_bind (wpAny_pure ?_)
    simp only [Bool.false_eq_true, if_false]
    exact wpAny_pure ⟨rfl, rfl, fun u hu' => hall u (List.mem_cons_of_mem _ hu')⟩
  · rintro ⟨r1, r2⟩ s' ⟨hr, rfl, _⟩
    simp only at hr
    subst hr
    exact wpAny_pure h
theorem seen_tuple {ks : List Int} {a : Addr} {ys : List Value} {Q : Bool → Shared → Prop} (hk : TK prog w s.heap ks a) (hy : ∀ y ∈ ys, ∃ b ks', y = .ref b ∧ TK prog w s.heap ks' b) (h : Q false s) : wpAny (model prog w) A (searchCouldBeSeen (.ref a) ys) Q E s := by
  unfold searchCouldBeSeen
  refine wpAny_bind ?_
  refine wpAny_forIn_list _ (fun rest r s' => r.1 = none ∧ s' = s ∧ ∀ y ∈ rest, ∃ b ks', y = .ref b ∧ TK prog w s.heap ks' b) _ ?_ ?_ _ _ ⟨rfl, rfl, hy⟩
  · rintro v rest r s' ⟨hr, rfl, hall⟩
    obtain ⟨b, ks', rfl, hb⟩ := hall v List.mem_cons_self
    dsimp only
    split
    · exact wpAny_pure ⟨rfl, rfl, fun u hu' => hall u (List.mem_cons_of_mem _ hu')⟩
    · refine wpAny_bind (wpAny_eqIsQuiet_tuple hk ?_)
      simp only [Bool.not_true, Bool.false_eq_true, if_false]
      refine wpAny_bind (wpAny_eqIsQuiet_tuple hb ?_)
      simp only [Bool.not_true, Bool.false_eq_true, if_false]
      refine wpAny_bind (ofClass_tuple hk ?_)
      simp only [Bool.false_eq_true, if_false]
      refine wpAny_bind (ofClass_tuple hb ?_)
      simp only [Bool.false_eq_true, if_false]
      exact wpAny_pure ⟨rfl, rfl, fun u hu' => hall u (List.mem_cons_of_mem _ hu')⟩
  · rintro ⟨r1, r2⟩ s' ⟨hr, rfl, _⟩
    simp only at hr
    subst hr
    exact wpAny_pure h
theorem byValue_tuple {ks : List Int} {a : Addr} {Q : Bool → Shared → Prop} (hk : TK prog w s.heap ks a) (h : Q true s) : wpAny (model prog w) A (hashByValue 8 (.ref a)) Q E s := by
  have hT := hk.typeIs
  obtain ⟨o, items, n, ho, hc, hd, hi⟩ := hk
  unfold hashByValue
  refine wpAny_bind (wpAny_specialOf hT F.slot_tuple_hash.lookup ?_)
  dsimp only
  refine wpAny_bind (wpAny_seqItems ho hd ?_)
  show wpAny _ _ (forIn items _ _ >>= _) _ _ s
  refine wpAny_bind ?_
  rw [← Array.forIn_toList]
  refine wpAny_forIn_list _ (fun rest r s' => r.1 = none ∧ s' = s ∧ ∀ v ∈ rest, ∃ n t, v = Value.int n t) _ ?_ ?_ _ _ ⟨rfl, rfl, items_int hi⟩
  · rintro v rest r s' ⟨hr, rfl, hall⟩
    obtain ⟨n, t, rfl⟩ := hall v List.mem_cons_self
    have e : hashByValue 7 (.int n t) = pure true := by unfold hashByValue; rfl
    rw [e]
    refine wpAny_bind (wpAny_pure ?_)
    simp only [Bool.not_true, Bool.false_eq_true, if_false]
    exact wpAny_pure ⟨rfl, rfl, fun u hu' => hall u (List.mem_cons_of_mem _ hu')⟩
  · rintro ⟨r1, r2⟩ s' ⟨hr, rfl, _⟩
    simp only at hr
    subst hr
    exact wpAny_pure h
end
end Stb
end
section
set_option Elab.async false
set_option linter.all false
set_option maxRecDepth 100000
namespace Stb
open PySem PyProof.Rows SetTable
def iv : Value → Int
  | .int n _ => n
  | _ => 0
def tk (h : Heap) : Value → List Int
  | .ref b => match h.get? b with
    | some o => match o.data with
      | .seq items _ => items.toList.map iv
      | _ => []
    | none => []
  | _ => []
section
variable {prog : Program} {w : World} {A : Around} {E : Value → Shared → Prop} {s : Shared}
theorem items_iv {ks : List Int} {vs : List Value} (h : ItemsAre (intKind prog w) ks vs) : vs.map iv = ks := by
  induction h with
  | nil => rfl
  | @cons k v' ks vs h1 h2 ih =>
    rw [List.map_cons, ih]
    obtain ⟨n, t, rfl⟩ := items_int (.cons h1 h2) v' List.mem_cons_self
    have : n = k := by simpa [intKind, Value.isInt] using h1
    rw [this.symm]; rfl
theorem tk_eq {h : Heap} {ks : List Int} {b : Addr} (k : TK prog w h ks b) : tk h (.ref b) = ks := by
  obtain ⟨o, items, n, ho, hc, hd, hi⟩ := k
  show (match h.get? b with
    | some o => match o.data with
      | .seq items _ => items.toList.map iv
      | _ => []
    | none => []) = ks
  rw [ho]
  dsimp only
  rw [hd]
  exact items_iv hi
structure TSet (prog : Program) (w : World) (B : Addr → Prop) (h : Heap) (t : SetTable) (es : Array (Int × Value)) (S : List (List Int)) : Prop where
  inv : Inv t es
  ent : ∀ e ∈ es.toList, ∃ b ks, e = (hsh prog w ks, Value.ref b) ∧ TK prog w h ks b ∧ B b
  nd : S.Nodup
  perm : (es.toList.map fun e => tk h e.2).Perm S
theorem Inv.fits {t : SetTable} {es : Array (Int × Value)} (I : Inv0 t es) : t.fits es.size = true := by
  unfold SetTable.fits
  rw [I.fill, I.size]
  have := I.room
  have := I.size
  simp
  omega
theorem Inv0.even {t : SetTable} {es : Array (Int × Value)} (I : Inv0 t es) : t.gaveWay = false := by
  unfold SetTable.gaveWay
  rw [I.msk.odd]; rfl
theorem getHash {es : Array (Int × Value)} {i : Nat} {e : Int × Value} (h : es[i]? = some e) : ((es[i]?.map (·.1)).getD 0) = e.1 := by rw [h]; rfl
theorem same_moves (t : SetTable) : t.sameMemory t.moves t.mask = some true := by unfold SetTable.sameMemory; simp
theorem search {B : Addr → Prop} {a b : Addr} {o : Obj} {es : Array (Int × Value)} {ep : Nat} {t : SetTable} {ks : List Int} {S : List (List Int)} {Q : SetFound → Shared → Prop}
    (ho : s.heap.get? a = some o) (hd : o.data = .set es ep t) (T : TSet prog w B s.heap t es S) (hk : TK prog w s.heap ks b) (hu : A.units < cLine) {e : Nat}
    (hF : Fst t.mask t.place.toList (hsh prog w ks) e) (he : e ≤ 10 * (t.mask + 12)) (q1 : ks ∈ S → Q (.there none) s) (q2 : ks ∉ S → Q (.free (pt t.mask (hsh prog w ks) e) false) s) :
    ∀ (f n : Nat) (stand : Option Probe), n ≤ e → e - n < f → stand.getD (t.probeStart (hsh prog w ks)) = it t.mask (hsh prog w ks) n →
      (∀ k, k < n → ∀ x, es[below t.place (pt t.mask (hsh prog w ks) k)]? = some x → x.1 = hsh prog w ks → tk s.heap x.2 ≠ ks) →
      wpAny (model prog w) A (setSearchFrom a (.ref b) (hsh prog w ks) true f stand) Q E s
  | 0, n, stand, h1, h2, _, _ => absurd h2 (Nat.not_lt_zero _)
  | f + 1, n, stand, h1, h2, h3, h4 => by
    have I := T.inv.toInv0
    have hf := Inv.fits I
    unfold setSearchFrom
    refine wpAny_bind (wpAny_setState_of ho hd hf ?_)
    dsimp only
    rw [I.even, h3]
    simp only [Bool.false_eq_true, if_false]
    have slotEnt : ∀ k, k < e → ∃ x, es[below t.place (pt t.mask (hsh prog w ks) k)]? = some x := fun k hk => by
      have hm := below_mem I.rise (hF.2 k hk)
      have := (Array.getElem?_eq_some_iff.mp hm).1
      rw [I.size] at this
      exact ⟨_, Array.getElem?_eq_getElem this⟩
    rcases probe_go I.rise I.dum (fun i => ((es[i]?.map (·.1)).getD 0)) hF (10 * turns t.mask) n h1 (by unfold turns; omega) with ⟨e1, e2⟩ | ⟨k, k1, k2, k3, k4, k5⟩
    · have e1 : t.probe (fun i => ((es[i]?.map (·.1)).getD 0)) (hsh prog w ks) (it t.mask (hsh prog w ks) n) = _ := e1
      show wpAny _ _ (match t.probe (fun i => ((es[i]?.map (·.1)).getD 0)) (hsh prog w ks) (it t.mask (hsh prog w ks) n) with | some met => _ | _ => _) _ _ _
      rw [e1]
      refine wpAny_pure (q2 fun hS => ?_)
      have hm := T.perm.mem_iff.mpr hS
      obtain ⟨x, hx, ex⟩ := List.mem_map.mp hm
      obtain ⟨b', ks', rfl, hb', _⟩ := T.ent x hx
      have ek : ks' = ks := by rw [← ex]; exact (tk_eq hb').symm
      subst ek
      obtain ⟨i, hi⟩ := List.mem_iff_getElem?.mp hx
      rw [Array.getElem?_toList] at hi
      obtain ⟨k, hke, ei⟩ := met_all I hF hi
      rcases Nat.lt_or_ge k n with q | q
      · exact h4 k q _ (by rw [ei]; exact hi) rfl (tk_eq hb')
      · exact e2 k q hke (by rw [ei]; exact getHash hi)
    · have k4 : t.probe (fun i => ((es[i]?.map (·.1)).getD 0)) (hsh prog w ks) (it t.mask (hsh prog w ks) n) = _ := k4
      show wpAny _ _ (match t.probe (fun i => ((es[i]?.map (·.1)).getD 0)) (hsh prog w ks) (it t.mask (hsh prog w ks) n) with | some met => _ | _ => _) _ _ _
      rw [k4]
      dsimp only
      obtain ⟨x, hx⟩ := slotEnt k k2
      have hxm : x ∈ es.toList := by rw [Array.mem_toList_iff]; exact Array.mem_of_getElem? hx
      obtain ⟨b', ks', rfl, hb', _⟩ := T.ent x hxm
      have hh : hsh prog w ks' = hsh prog w ks := by have := getHash hx; rw [← k3]; exact this.symm
      cases hl : t.led with
      | true =>
        simp only [Bool.not_true, Bool.false_eq_true, if_false]
        rw [hx]
        dsimp only
        refine wpAny_bind (wpAny_holding (wpAny_eqBool_tuple hu hb' hk ?_))
        refine wpAny_bind (wpAny_setState_of ho hd hf ?_)
        dsimp only
        by_cases c : ks' = ks
        · subst c
          rw [decide_eq_true rfl]
          simp only [Bool.and_self, if_true]
          refine wpAny_pure (q1 ?_)
          exact T.perm.mem_iff.mp (List.mem_map.mpr ⟨_, hxm, tk_eq hb'⟩)
        · rw [decide_eq_false c]
          simp only [Bool.and_false, Bool.false_eq_true, if_false]
          rw [same_moves]
          dsimp only
          simp only [if_true]
          rw [slot_mem I.rise (hF.2 k k2)]
          dsimp only
          rw [hx]
          dsimp only
          refine wpAny_bind (wpAny_isSame_ref_self ?_)
          refine wpAny_bind (wpAny_pure ?_)
          simp only [if_true]
          refine search ho hd T hk hu hF he q1 q2 f (k + 1) _ k2 (by omega) rfl fun k' hk' y hy1 hy2 => ?_
          rcases Nat.lt_or_ge k' n with q | q
          · exact h4 k' q y hy1 hy2
          · rcases Nat.lt_or_ge k' k with q' | q'
            · exact absurd ((getHash hy1).trans hy2) (k5 k' q q')
            · have : k' = k := by omega
              subst this
              rw [hx] at hy1
              obtain rfl := Option.some.inj hy1
              rw [show tk s.heap (hsh prog w ks', Value.ref b').2 = ks' from tk_eq hb']
              exact c
      | false =>
        simp only [Bool.not_false, if_true]
        refine wpAny_bind (seen_tuple hk ?_ ?_)
        · intro y hy
          obtain ⟨z, hz, rfl⟩ := List.mem_map.mp hy
          have hz' : z ∈ es.toList := by
            have := (Array.mem_toList_iff).mp hz
            rw [Array.mem_toList_iff]
            exact (Array.mem_filter.mp this).1
          obtain ⟨b2, ks2, rfl, h2, _⟩ := T.ent z hz'
          exact ⟨b2, ks2, rfl, h2⟩
        · simp only [Bool.false_eq_true, if_false]
          rw [hx]
          dsimp only
          refine wpAny_bind (wpAny_holding (wpAny_eqBool_tuple hu hb' hk ?_))
          refine wpAny_bind (wpAny_setState_of ho hd hf ?_)
          dsimp only
          by_cases c : ks' = ks
          · subst c
            rw [decide_eq_true rfl]
            simp only [Bool.and_self, if_true]
            refine wpAny_pure (q1 ?_)
            exact T.perm.mem_iff.mp (List.mem_map.mpr ⟨_, hxm, tk_eq hb'⟩)
          · rw [decide_eq_false c]
            simp only [Bool.and_false, Bool.false_eq_true, if_false]
            rw [same_moves]
            dsimp only
            simp only [if_true]
            rw [slot_mem I.rise (hF.2 k k2)]
            dsimp only
            rw [hx]
            dsimp only
            refine wpAny_bind (wpAny_isSame_ref_self ?_)
            refine wpAny_bind (wpAny_pure ?_)
            simp only [if_true]
            refine search ho hd T hk hu hF he q1 q2 f (k + 1) _ k2 (by omega) rfl fun k' hk' y hy1 hy2 => ?_
            rcases Nat.lt_or_ge k' n with q | q
            · exact h4 k' q y hy1 hy2
            · rcases Nat.lt_or_ge k' k with q' | q'
              · exact absurd ((getHash hy1).trans hy2) (k5 k' q q')
              · have : k' = k := by omega
                subst this
                rw [hx] at hy1
                obtain rfl := Option.some.inj hy1
                rw [show tk s.heap (hsh prog w ks', Value.ref b').2 = ks' from tk_eq hb']
                exact c
end
end Stb
end
section
set_option Elab.async false
set_option linter.all false
set_option maxRecDepth 100000
namespace Stb
open PySem PyProof.Rows SetTable
section
variable {prog : Program} {w : World} {A : Around} {E : Value → Shared → Prop} {s : Shared}
def ins (S : List (List Int)) (k : List Int) : List (List Int) := if k ∈ S then S else S ++ [k]
theorem TSet.keep {B : Addr → Prop} {h h' : Heap} {t : SetTable} {es : Array (Int × Value)} {S : List (List Int)} (T : TSet prog w B h t es S) (k : ∀ b ks, TK prog w h ks b → TK prog w h' ks b) : TSet prog w B h' t es S := by
  refine ⟨T.inv, fun e he => ?_, T.nd, ?_⟩
  · obtain ⟨b, ks, e1, e2, e3⟩ := T.ent e he
    exact ⟨b, ks, e1, k b ks e2, e3⟩
  · have : es.toList.map (fun e => tk h' e.2) = es.toList.map (fun e => tk h e.2) := List.map_congr_left fun e he => by
      obtain ⟨b, ks, rfl, e2, _⟩ := T.ent e he
      rw [tk_eq e2, tk_eq (k b ks e2)]
    rw [this]; exact T.perm
theorem size_8192 : (8192 : Nat) ≤ sizeLine := by rw [sizeLine_eq]; decide
theorem add {B : Addr → Prop} {a b : Addr} {o : Obj} {es : Array (Int × Value)} {ep : Nat} {t : SetTable} {ks : List Int} {S : List (List Int)} {Q : Bool → Shared → Prop}
    {h0 : Heap} (ext : ∀ b ks, TK prog w h0 ks b → TK prog w s.heap ks b) (ho : s.heap.get? a = some o) (hd : o.data = .set es ep t) (T : TSet prog w B h0 t es S) (hk : TK prog w h0 ks b) (hB : B b) (hu : A.units < cLine) (hb : S.length < 4914)
    (h : ∀ r h' es' ep' t', Heap.SameBut a s.heap h' → h'.get? a = some { o with data := .set es' ep' t' } → TSet prog w B h0 t' es' (ins S ks) → t'.led = t.led → t'.plain = t.plain → Q r { s with heap := h' }) :
    wpAny (model prog w) A (setAddHashed a (.ref b) (hsh prog w ks)) Q E s := by
  have I := T.inv.toInv0
  have hf := Inv.fits I
  have hsz : es.size = S.length := by have := T.perm.length_eq; simpa using this
  unfold setAddHashed setAddHashedIn
  refine wpAny_holding (wpAny_bind (wpAny_setState_of ho hd hf ?_))
  dsimp only
  have hsc : byScan (.ref b) es = false := by unfold byScan; simp [Value.scannable]
  rw [hsc]
  simp only [Bool.false_eq_true, if_false]
  obtain ⟨kk, hm⟩ := I.msk.pow
  obtain ⟨e, he, hF⟩ := fst_ex hm (ps := t.place.toList) (by simpa using I.room) (hsh prog w ks)
  have hle := I.msk.le
  refine wpAny_bind (m := setSearch a (.ref b) (hsh prog w ks) true) (search ho hd (T.keep ext) (ext _ _ hk) hu hF he (fun hS => ?_) (fun hS => ?_) 100000 0 none (Nat.zero_le _) (by omega) rfl (fun k hk => absurd hk (Nat.not_lt_zero k)))
  · dsimp only
    refine wpAny_pure ?_
    have := h false s.heap es ep t (Heap.SameBut.refl a s.heap) (by rw [ho, ← hd]) (by unfold ins; rw [if_pos hS]; exact T) rfl rfl
    exact this
  · dsimp only
    refine wpAny_bind (wpAny_setState_of ho hd hf ?_)
    dsimp only
    rw [put_eq I.dum]
    dsimp only
    have I1 := inv_put T.inv (x := Value.ref b) hF
    generalize hp : below t.place (pt t.mask (hsh prog w ks) e) = p at I1 ⊢
    have hs1 : (insertAt es p (hsh prog w ks, Value.ref b)).size = es.size + 1 := size_insertAt _ _ _
    have step : ∀ t1, ({ t with place := insertAt t.place p (pt t.mask (hsh prog w ks) e) } : SetTable) = t1 → wpAny (model prog w) A (do
        storeSet a (insertAt es p (hsh prog w ks, Value.ref b)) t1
        if (!false && t1.tooFull) = true then do
            setRelay a (grown (es.size + 1))
            pure true
          else pure true) Q E s := by
      intro t1 ht
      have I1 := ht ▸ I1
      have hled : t1.led = t.led := by rw [← ht]
      have hpl : t1.plain = t.plain := by rw [← ht]
      have hmk : t1.mask = t.mask := by rw [← ht]
      have hperm1 : ((insertAt es p (hsh prog w ks, Value.ref b)).toList.map fun e => tk h0 e.2).Perm (ins S ks) := by
        refine ((perm_insertAt es p (hsh prog w ks, Value.ref b)).map _).trans ?_
        rw [List.map_cons, show tk h0 (hsh prog w ks, Value.ref b).2 = ks from tk_eq hk]
        unfold ins; rw [if_neg hS]
        exact (T.perm.cons ks).trans (List.perm_append_singleton ks S).symm
      have hent1 : ∀ x ∈ (insertAt es p (hsh prog w ks, Value.ref b)).toList, ∃ b' ks', x = (hsh prog w ks', Value.ref b') ∧ TK prog w h0 ks' b' ∧ B b' := fun x hx => by
        rcases (mem_insertAt _ _ _ _).mp hx with rfl | hx
        · exact ⟨b, ks, rfl, hk, hB⟩
        · exact T.ent x hx
      have hnd1 : (ins S ks).Nodup := by
        unfold ins; rw [if_neg hS]
        exact (List.perm_append_singleton ks S).nodup_iff.mpr (List.nodup_cons.mpr ⟨hS, T.nd⟩)
      refine wpAny_bind (wpAny_storeSet_of ho hd ?_ (by rw [hs1]; have := size_8192; omega))
      have hg : (s.heap.update a (Obj.putSet (insertAt es p (hsh prog w ks, Value.ref b)) t1)).get? a = some { o with data := .set (insertAt es p (hsh prog w ks, Value.ref b)) (ep + 1) t1 } := by
        have := Heap.get?_update_self (Obj.putSet (insertAt es p (hsh prog w ks, Value.ref b)) t1) ho (by rw [putSet_of _ t1 hd]; rfl)
        rw [putSet_of _ t1 hd] at this; exact this
      have hsb := Heap.SameBut.update s.heap a (Obj.putSet (insertAt es p (hsh prog w ks, Value.ref b)) t1)
      cases hfull : t1.tooFull with
      | false =>
        simp only [Bool.not_false, Bool.and_false, Bool.false_eq_true, if_false]
        refine wpAny_pure (h true _ _ (ep + 1) t1 hsb hg ?_ hled hpl)
        have T1 : TSet prog w B h0 t1 (insertAt es p (hsh prog w ks, Value.ref b)) (ins S ks) := by
          refine ⟨⟨I1, ?_⟩, hent1, hnd1, hperm1⟩
          have hfl := I1.fill
          unfold SetTable.tooFull at hfull
          rw [hfl] at hfull
          have := of_decide_eq_false hfull
          rw [I1.size]; omega
        exact T1
      | true =>
        simp only [Bool.not_false, Bool.and_self, if_true]
        have hpre : ((insertAt es p (hsh prog w ks, Value.ref b)).size - 1) * 5 < t1.mask * 3 := by
          rw [hs1, hmk]; have := T.inv.full; rw [I.size] at this; simpa using this
        obtain ⟨r0, t2, order, r1, r2, r3, r4, r5⟩ := relaid_spec I1 (by rw [hs1]; omega) hfull hpre
        unfold setRelay
        refine wpAny_bind (wpAny_bind (wpAny_setState_of hg rfl (Inv.fits I1) ?_))
        dsimp only
        rw [← hs1]
        rw [if_neg (by have := size_8192; omega)]
        rw [r1]
        have hz2 := r5.length_eq
        simp only [Array.length_toList] at hz2
        refine wpAny_bind ?_
        show wpAny _ _ (if ((order.filterMap ((insertAt es p (hsh prog w ks, Value.ref b))[·]?)).size != (insertAt es p (hsh prog w ks, Value.ref b)).size) = true then _ else _) _ _ _
        rw [if_neg (by rw [hz2]; simp)]
        refine wpAny_pure ?_
        dsimp only
        refine wpAny_storeSet_of hg rfl ?_ (by rw [hz2, hs1]; have := size_8192; omega)
        refine wpAny_pure ?_
        have hg2 : ((s.heap.update a (Obj.putSet (insertAt es p (hsh prog w ks, Value.ref b)) t1)).update a (Obj.putSet (order.filterMap ((insertAt es p (hsh prog w ks, Value.ref b))[·]?)) t2)).get? a = some { o with data := .set (order.filterMap ((insertAt es p (hsh prog w ks, Value.ref b))[·]?)) (ep + 1 + 1) t2 } := by
          have := Heap.get?_update_self (Obj.putSet (order.filterMap ((insertAt es p (hsh prog w ks, Value.ref b))[·]?)) t2) hg (by rw [putSet_of _ t2 rfl]; rfl)
          rw [putSet_of _ t2 rfl] at this; exact this
        have hsb2 := hsb.trans (Heap.SameBut.update (s.heap.update a (Obj.putSet (insertAt es p (hsh prog w ks, Value.ref b)) t1)) a (Obj.putSet (order.filterMap ((insertAt es p (hsh prog w ks, Value.ref b))[·]?)) t2))
        refine h true _ _ (ep + 1 + 1) t2 hsb2 hg2 ?_ (r2.trans hled) (r3.trans hpl)
        have T2 : TSet prog w B h0 t2 (order.filterMap ((insertAt es p (hsh prog w ks, Value.ref b))[·]?)) (ins S ks) :=
          ⟨r4, fun x hx => hent1 x (r5.mem_iff.mp hx), hnd1, (r5.map _).trans hperm1⟩
        exact T2
    cases hpv : t.plain with
    | true =>
      simp only [if_true]
      refine wpAny_bind (byValue_tuple (ext _ _ hk) ?_)
      simp only [if_true]
      exact step _ (by rw [hpv])
    | false =>
      simp only [Bool.false_eq_true, if_false]
      refine wpAny_bind (wpAny_pure ?_)
      simp only [if_true]
      exact step _ (by rw [hpv])
end
end Stb
end
section
set_option Elab.async false
set_option linter.all false
set_option maxRecDepth 100000
namespace Stb
open PySem PyProof.Rows SetTable
def dd (val : Nat → List Int) : Nat → List (List Int)
  | 0 => []
  | i + 1 => ins (dd val i) (val i)
section
variable {prog : Program} {w : World} {A : Around} {R : Result → Shared → Prop} {I : Addr} {fp wr : List Addr} {G : Array GenState → Array GenState → Prop} {n : Nat} {P : Nat → Value → Prop} {St : Nat → Shared → Prop}
theorem TK.at {h0 h : Heap} (k : ∀ b o, h0.get? b = some o → h.get? b = some o) {ks : List Int} {b : Addr} (x : TK prog w h0 ks b) : TK prog w h ks b := by
  obtain ⟨o', items, n, ho', hc, hd', hi⟩ := x
  exact ⟨o', items, n, k _ _ ho', hc, hd', hi⟩
end
end Stb
end
section
set_option Elab.async false
set_option linter.all false
set_option maxRecDepth 100000
namespace Stb
open PySem PyProof.Rows SetTable
section
variable {prog : Program} {w : World} {A : Around} {E : Value → Shared → Prop} {s : Shared}
abbrev setO (led : Bool) : Obj := { cls := .type "set", dict := none, data := .set #[] 0 (.fresh 0 0 led) }
end
end Stb
end
section
set_option Elab.async false
set_option linter.all false
set_option maxRecDepth 100000
namespace Stb
open PySem PyProof.Rows SetTable
section
variable {prog : Program} {w : World} {A : Around} {E : Value → Shared → Prop} {s : Shared}
end
end Stb
end
section
set_option Elab.async false
set_option linter.all false
set_option maxRecDepth 100000
namespace Stb
open PySem PyProof.Rows SetTable
section
variable {prog : Program} {w : World} {A : Around} {E : Value → Shared → Prop} {s : Shared}
end
end Stb
end
section
set_option Elab.async false
set_option linter.all false
set_option maxRecDepth 100000
namespace Stb
open PySem PyProof.Rows SetTable
section
variable {prog : Program} {w : World} {A : Around} {E : Value → Shared → Prop} {s : Shared}
end
end Stb
end
section
set_option Elab.async false
set_option linter.all false
set_option maxRecDepth 100000
namespace Stb
open PySem PyProof.Rows SetTable
section
variable {prog : Program} {w : World} {A : Around} {E : Value → Shared → Prop} {s : Shared}
end
end Stb
end
section
set_option Elab.async false
set_option linter.all false
set_option maxRecDepth 100000
namespace DL
open PySem L2 PyProof.Rows
variable {K : PySem.W.Frag}
end DL
end
section
set_option Elab.async false
set_option linter.all false
set_option maxRecDepth 100000
namespace DL
open PySem L2 PyProof.Rows
variable {K : PySem.W.Frag}
end DL
end
section
set_option Elab.async false
set_option linter.all false
namespace DL
open PySem L2
def fuelI (i : Nat) (τ : DS) : Nat := match τ[i]? with
  | some (some (.d (.int s))) => s.toNat + 1
  | _ => 0
end DL
end
section
set_option Elab.async false
set_option linter.all false
set_option maxRecDepth 100000
namespace Dwk
open PySem
variable {prog : Program} {w : World} {A : Around} {E : Value → Shared → Prop} {s : Shared}
def At (h : Heap) (d : Addr) (ks : List Value) (ep : Nat) : Prop := ∃ (o : Obj) (es : Array DictEntry), h.get? d = some o ∧ o.ExactDict ∧ o.data = .dict es ep ∧ es.toList.map (·.key) = ks
theorem At.type {d : Addr} {ks : List Value} {ep : Nat} (x : At s.heap d ks ep) : s.TypeIs (.ref d) "dict" := let ⟨o, _, h, c, _⟩ := x; ⟨o, h, c.1⟩
theorem At.lt {h : Heap} {d : Addr} {ks : List Value} {ep : Nat} (x : At h d ks ep) : d < h.objs.size := let ⟨_, _, e, _⟩ := x; Heap.lt_size e
theorem At.to {h h' : Heap} {d : Addr} {ks : List Value} {ep : Nat} (x : At h d ks ep) (k : ∀ o, h.get? d = some o → h'.get? d = some o) : At h' d ks ep := let ⟨o, es, e, r⟩ := x; ⟨o, es, k o e, r⟩
theorem sizeOf {es : Array DictEntry} {ks : List Value} (h : es.toList.map (·.key) = ks) : es.size = ks.length := by
  rw [← h, List.length_map, Array.length_toList]
theorem start {d : Addr} {ks : List Value} {ep : Nat} {Q : Value → Shared → Prop} (hd : (d == sysModules) = false) (x : At s.heap d ks ep)
    (q : Q (.ref s.heap.objs.size) { s with heap := s.heap.push { cls := .type "dict_keyiterator", data := .fields #[.ref d, .int 0 0, .int ks.length 0, .int ep 0] } }) : wpAny (model prog w) A (pyIter (.ref d)) Q E s := by
  have hT := x.type
  obtain ⟨o, es, ho, _, hdat, hk⟩ := x
  have hsz := sizeOf hk
  refine wpAny_pyIter_slot hT F.slot_dict_iter (wpAny_call_entry F.slot_dict_iter hT F.entry_dict_iter ?_ (F.args_dict_iter_1 _))
  unfold Builtin.«dict.__iter__» Builtin.Dict.dictSlotNone
  refine wpAny_bind (wpAny_bind (wpAny_notOrdered_dict hT ?_))
  refine (wpAny_pure ?_ : wpAny _ _ (pure (Value.ref d)) _ _ s)
  show wpAny _ _ (Builtin.Dict.showsAll d >>= _) _ _ s
  unfold Builtin.Dict.showsAll
  rw [if_neg (by rw [hd]; exact Bool.false_ne_true)]
  refine wpAny_bind (wpAny_pure (wpAny_bind (wpAny_dictEntries ho hdat (wpAny_bind (wpAny_dictEpoch ho hdat ?_)))))
  refine wpAny_bind (wpAny_newObj_type (wpAny_pure ⟨_, rfl, "dict_keyiterator", _, ⟨_, Heap.get?_push_size _ rfl, rfl⟩, F.slot_dict_keyiterator_next.lookup, ?_⟩))
  simpa [rawInt, hsz] using q
theorem step {J d : Addr} {i ep : Nat} {ks : List Value} {k : Value} {Q : Option Value → Shared → Prop} (hit : s.heap.IsKeyIter J d i ks.length ep) (x : At s.heap d ks ep) (hx : ks[i]? = some k)
    (q : ∀ h', h'.IsKeyIter J d (i + 1) ks.length ep → Heap.SameBut J s.heap h' → Q (some k) { s with heap := h' }) : wpAny (model prog w) A (pyNext (.ref J)) Q E s := by
  obtain ⟨o, ho, hc, hd⟩ := id hit
  obtain ⟨od, es, hod, _, hdd, hk⟩ := x
  have hsz := sizeOf hk
  have hlt : i < es.size := by rw [hsz]; exact (List.getElem?_eq_some_iff.mp hx).1
  have hkey : es[i].key = k := by
    have : (es.toList.map (·.key))[i]? = some k := by rw [hk]; exact hx
    simpa [hlt] using this
  unfold pyNext
  refine wpAny_bind (wpAny_attempt (wpAny_callSpecial?_slot (name := Str.ofString "__next__") hit.typeIs F.slot_dict_keyiterator_next
    (wpAny_call_entry F.slot_dict_keyiterator_next hit.typeIs F.entry_dict_keyiterator_next ?_ (F.args_dict_keyiterator_next_1 _))))
  refine wpAny_bind (wpAny_pure (wpAny_bind (wpAny_bind ?_)))
  first | refine wpAny_bind (wpAny_typeNameOfWhole_keyiter hit.typeIs (wpAny_pure ?_)) | refine wpAny_bind (wpAny_typeNameOf_keyiter hit.typeIs (wpAny_pure ?_))
  refine wpAny_bind (wpAny_fieldsOf ho hd ?_)
  simp only [show Builtin.Dict_items.ownsTuple "dict_keyiterator" = false by decide, Bool.false_eq_true, if_false]
  show wpAny _ _ (if (Value.ref d == Value.none) = true then _ else _) _ _ s
  rw [if_neg (show ¬ ((Value.ref d == Value.none) = true) from Bool.false_ne_true)]
  refine wpAny_bind (wpAny_pure (wpAny_bind (wpAny_dictEntries hod hdd ?_)))
  rw [if_neg (by rw [hsz]; simp)]
  refine wpAny_bind (wpAny_pure (wpAny_bind (wpAny_dictEpoch hod hdd ?_)))
  rw [if_neg (by simp)]
  refine wpAny_pure ?_
  simp only [show ¬ ((i : Int) < 0) from by omega, if_false, Int.toNat_natCast, Array.getElem?_eq_getElem hlt]
  refine wpAny_bind ?_
  first | refine wpAny_bind (wpAny_typeNameOfWhole_keyiter hit.typeIs (wpAny_pure ?_)) | refine wpAny_bind (wpAny_typeNameOf_keyiter hit.typeIs (wpAny_pure ?_))
  refine wpAny_bind (wpAny_isOneOf_keyiter hit.typeIs ?_)
  show wpAny _ _ (setField (.ref J) 1 (rawInt ((i : Int) + 1)) >>= _) _ _ s
  refine wpAny_bind (wpAny_setField ho hd (by simp) ?_)
  have hit' : (s.heap.update J (Obj.mapFields (·.setIfInBounds 1 (rawInt ((i : Int) + 1))))).IsKeyIter J d (i + 1) ks.length ep :=
    ⟨_, Heap.get?_update_self _ ho (Obj.isFreed_of_fields (Obj.data_mapFields hd _)), (Obj.cls_mapFields ..).trans hc, by rw [Obj.data_mapFields hd]; simp [rawInt]⟩
  refine wpAny_bind (wpAny_holding (wpAny_bind (wpAny_isOneOf_keyiter (s := { s with heap := s.heap.update J (Obj.mapFields (·.setIfInBounds 1 (rawInt ((i : Int) + 1)))) }) hit'.typeIs ?_)))
  show wpAny _ _ (pure es[i].key) _ _ _
  rw [hkey]
  exact wpAny_pure (wpAny_pure ⟨_, rfl, wpAny_pure (q _ hit' (Heap.SameBut.update ..))⟩)
theorem last {J d : Addr} {ep : Nat} {ks : List Value} {Q : Option Value → Shared → Prop} (hh : A.handled = none) (hit : s.heap.IsKeyIter J d ks.length ks.length ep) (x : At s.heap d ks ep)
    (q : ∀ h', Heap.ExtBut J s.heap h' → Q none { s with heap := h' }) : wpAny (model prog w) A (pyNext (.ref J)) Q E s := by
  obtain ⟨o, ho, hc, hd⟩ := id hit
  obtain ⟨od, es, hod, _, hdd, hk⟩ := x
  have hsz := sizeOf hk
  unfold pyNext
  refine wpAny_bind (wpAny_attempt (wpAny_callSpecial?_slot (name := Str.ofString "__next__") hit.typeIs F.slot_dict_keyiterator_next
    (wpAny_call_entry F.slot_dict_keyiterator_next hit.typeIs F.entry_dict_keyiterator_next ?_ (F.args_dict_keyiterator_next_1 _))))
  refine wpAny_bind (wpAny_pure (wpAny_bind (wpAny_bind ?_)))
  first | refine wpAny_bind (wpAny_typeNameOfWhole_keyiter hit.typeIs (wpAny_pure ?_)) | refine wpAny_bind (wpAny_typeNameOf_keyiter hit.typeIs (wpAny_pure ?_))
  refine wpAny_bind (wpAny_fieldsOf ho hd ?_)
  simp only [show Builtin.Dict_items.ownsTuple "dict_keyiterator" = false by decide, Bool.false_eq_true, if_false]
  show wpAny _ _ (if (Value.ref d == Value.none) = true then _ else _) _ _ s
  rw [if_neg (show ¬ ((Value.ref d == Value.none) = true) from Bool.false_ne_true)]
  refine wpAny_bind (wpAny_pure (wpAny_bind (wpAny_dictEntries hod hdd ?_)))
  rw [if_neg (by rw [hsz]; simp)]
  refine wpAny_bind (wpAny_pure (wpAny_bind (wpAny_dictEpoch hod hdd ?_)))
  rw [if_neg (by simp)]
  refine wpAny_pure ?_
  simp only [show ¬ ((ks.length : Int) < 0) from by omega, if_false, Int.toNat_natCast, Array.getElem?_eq_none (Nat.le_of_eq hsz)]
  refine wpAny_bind ?_
  first | refine wpAny_bind (wpAny_typeNameOfWhole_keyiter hit.typeIs (wpAny_pure ?_)) | refine wpAny_bind (wpAny_typeNameOf_keyiter hit.typeIs (wpAny_pure ?_))
  show wpAny _ _ (setField (.ref J) 0 .none >>= _) _ _ s
  refine wpAny_bind (wpAny_setField ho hd (by simp) ?_)
  show wpAny _ _ (newExc (.type "StopIteration") [] >>= _) _ _ _
  refine wpAny_bind ?_
  simp only [newExc, newTuple]
  refine wpAny_bind (wpAny_newObj_type ?_ (by size_fits))
  refine wpAny_bind (m := firstArgMember _ _) (wpAny_of_eq (a := Value.none) (by first | rfl | (simp only [firstArgMember]; rfl)) ?_)
  refine wpAny_newObj_type ?_ (by size_fits)
  simp only [raiseNew]
  refine wpAny_bind (wpAny_handled ?_)
  rw [show A.in1.handled = none from hh]
  refine wpAny_bind (wpAny_pure (wpAny_throw ?_))
  refine wpAny_bind (wpAny_isInstance (T := "StopIteration") (b := true) ⟨_, Heap.get?_push_size _ rfl, rfl⟩ isSubtype_stop ?_)
  exact wpAny_pure (q _ (((Heap.SameBut.update ..).extBut.push _).push _))
theorem walks (hh : A.handled = none) (J d : Addr) (hne : d ≠ J) (ks : List Value) (ep : Nat) :
    Walks prog w A J [J, d] [J] ks.length (fun i v => ks[i]? = some v) (fun i h => h.IsKeyIter J d i ks.length ep ∧ At h d ks ep) where
  sub := fun b hb => by simp at hb; simp [hb]
  frame := fun _ _ _ st hk => ⟨st.1.at fun o e => hk J (by simp) o e, st.2.to fun o e => hk d (by simp) o e⟩
  item := fun i s Q E hi st hQ => by
    obtain ⟨k, hx⟩ : ∃ p, ks[i]? = some p := ⟨ks[i], by simp [hi]⟩
    refine step st.1 st.2 hx fun h' hit' hs' => ?_
    exact hQ k h' s.toks hx ⟨hit', st.2.to fun o e => hs'.extBut d o hne e⟩ fun b o hb e => hs'.extBut b o (fun h => hb (by simp [h])) e
  done := fun s Q E st hQ => last hh st.1 st.2 fun h' he' => hQ h' s.toks fun b o hb e => he' b o (fun h => hb (by simp [h])) e
  self := fun _ _ _ _ st hQ => wpAny_pyIter_keyiter st.1 hQ
end Dwk
end
section
set_option Elab.async false
set_option linter.all false
set_option maxRecDepth 100000
namespace DL
open PySem L2 PyProof.Rows
variable {K : PySem.W.Frag}
section
variable {X : Cx} {pins : List (Addr × Obj)} {σ : L2.St} {H : Hp} {s : Shared}
end
end DL
end
section
set_option Elab.async false
set_option linter.all false
set_option maxRecDepth 100000
namespace DL
open PySem L2 PyProof.Rows
variable {K : PySem.W.Frag}
end DL
end
section
set_option Elab.async false
set_option linter.all false
set_option maxRecDepth 100000
namespace DL
open PySem L2
variable {K : PySem.W.Frag} {np : Nat}
end DL
end
section
set_option Elab.async false
set_option linter.all false
set_option maxRecDepth 100000
namespace DL
open PySem L2
variable {K : PySem.W.Frag}
end DL
end
section
set_option Elab.async false
set_option linter.all false
set_option maxRecDepth 100000
namespace L2
open PySem
end L2
namespace DL
open PySem L2
variable {K : PySem.W.Frag}
end DL
end
section
set_option Elab.async false
set_option linter.all false
set_option maxRecDepth 100000
namespace EnG
open PySem PyProof.Rows
section
variable {prog : Program} {w : World} {A : Around} {E : Value → Shared → Prop} {s : Shared}
end
end EnG
namespace EnG
open PySem PyProof.Rows
open Sem (wp)
open AutoSeq1 (wpAny_loadPart')
section
variable {prog : Program} {w : World} {A : Around} {E : Value → Shared → Prop} {s : Shared}
end
end EnG
namespace L2
open PySem PySem.Spec PyProof.Rows EnG
theorem Inv.pair {X : Cx} {pins : List (Addr × Obj)} {σ : L2.St} {H : Hp} {s : Shared} {e it : Addr} {i : Nat} {x : V} {u : Value} {t t' : Nat} {h1 h2 : Heap} (I : Inv X pins σ H s) (hlt1 : e < s.heap.objs.size) (hlt2 : it < s.heap.objs.size) (ru : RelV x u)
    (hf : ∀ b ∈ [e, it], FpOk X pins H b) (ht : h1.get? s.heap.objs.size = some { cls := .type "tuple", data := .seq #[.int i t, u] }) (k1 : ∀ b o, b ≠ e → b ≠ it → s.heap.get? b = some o → h1.get? b = some o) (sb : ∀ b, b ≠ e → h2.get? b = h1.get? b) :
    Inv X pins σ (upd H s.heap.objs.size (.tup [.int i, x])) { s with heap := h2, toks := t' } ∧ ∀ b ∈ [e, it], FpOk X pins (upd H s.heap.objs.size (.tup [.int i, x])) b := by
  have fr : H s.heap.objs.size = none := I.hok.fresh (Nat.le_refl _)
  have I1 := I.laid (t' := t') (a := s.heap.objs.size) (o := .tup [.int i, x]) (h' := s.heap.push { cls := .type "tuple", data := .seq #[.int i t, u] }) (fun b o q => Heap.get?_push_of_some _ q) (Nat.le_refl _)
    ⟨by show 2 ≤ sizeLine; decide, [.int i t, u], .cons ⟨_, rfl⟩ (.cons ru .nil), _, Heap.get?_push_size _ rfl, rfl, _, rfl⟩
  have fp : ∀ b ∈ [e, it], FpOk X pins (upd H s.heap.objs.size (.tup [.int i, x])) b := fun b hb => by
    obtain ⟨q0, q⟩ := hf b hb
    refine ⟨?_, q⟩
    rw [upd_ne (fun z => ?_)]
    · exact q0
    · have q : b = e ∨ b = it := by simpa using hb
      rcases q with rfl | rfl
      · exact absurd hlt1 (by rw [z]; exact Nat.lt_irrefl _)
      · exact absurd hlt2 (by rw [z]; exact Nat.lt_irrefl _)
  refine ⟨?_, fp⟩
  exact I1.turned2 (t' := t') (h' := h2) (i1 := e) (i2 := it) (fun b o ne ni q => by
    rw [sb b ne]
    by_cases hb : b = s.heap.objs.size
    · subst hb
      have q' : some ({ cls := .type "tuple", data := .seq #[.int i t, u] } : Obj) = some o := (Heap.get?_push_size s.heap (o := { cls := .type "tuple", data := .seq #[.int i t, u] }) rfl).symm.trans q
      rw [ht]; exact q'
    · have q' : (s.heap.push { cls := .type "tuple", data := .seq #[.int i t, u] }).get? b = some o := q
      rw [Heap.get?_push_ne _ _ _ hb] at q'
      exact k1 b o ne ni q') (fp e (by simp)) (fp it (by simp))
section
variable {X : Cx} {elts : List Expr} {tp : Pos}
end
end L2
end
section
set_option Elab.async false
set_option linter.all false
set_option maxRecDepth 100000
namespace DL
open PySem L2 PyProof.Rows
variable {K : PySem.W.Frag}
end DL
end
section
set_option Elab.async false
set_option linter.all false
set_option maxRecDepth 100000
namespace L2
open PySem PySem.Spec PyProof.Rows
section
variable {X : Cx} {pos : Pos}
end
end L2
namespace DL
open PySem L2
variable {K : PySem.W.Frag}
end DL
end
section
set_option Elab.async false
set_option linter.all false
set_option maxRecDepth 100000
namespace DL
open PySem L2
variable {K : PySem.W.Frag}
theorem RF.frz {F : Frm} {S M : Addr → Prop} {τ : DS} {σ : St} {H : Hp} (f : RF K F S M τ σ H) {i : Nat} {w : Ow} {p : Addr} (hi : τ[i]? = some (some w.L)) (hp : σ[i]? = some (some (.ref p))) (hnp : F.ar.length ≤ i) :
    RF K F (fun b => S b ∧ b ≠ p) (fun b => M b ∧ b ≠ p) (τ.set i (some (.d w.D))) σ H := by
  have np : ¬ F.M p := fun z => by
    obtain ⟨j, hj⟩ := f.fma p z
    obtain ⟨o, ho⟩ := f.pm j _ hj
    have := f.r.inj j i o w p ho hi (f.par j _ hj) hp
    subst this
    have := (List.getElem?_eq_some_iff.mp hj).1
    omega
  have ns : ¬ F.S p := fun z => by
    obtain ⟨o, ho⟩ := f.fs p z
    obtain ⟨a, h, h1, h2, _⟩ := f.r.mt i w hi
    rw [hp] at h1; cases h1
    rcases f.new p h2 with q | q
    · exact np q
    · rw [q] at ho; cases ho
  exact {
    r := DL.frz f.r hi hp
    sS := fun a z => ⟨f.sS a z, fun e => ns (e ▸ z)⟩
    old := f.old
    new := fun a z => f.new a z.1
    fm := fun a z => ⟨f.fm a z, fun e => np (e ▸ z)⟩
    fs := f.fs
    fsub := f.fsub
    snew := fun a z => f.snew a z.1
    par := f.par
    pm := fun j v e => by
      obtain ⟨o, ho⟩ := f.pm j v e
      have hj : j ≠ i := fun z => by
        subst z
        have := (List.getElem?_eq_some_iff.mp e).1
        omega
      exact ⟨o, by rw [List.getElem?_set_ne (Ne.symm hj)]; exact ho⟩
    fma := f.fma }
end DL
end
section
set_option Elab.async false
set_option linter.all false
set_option maxRecDepth 100000
namespace L2
open PySem PySem.Spec PyProof.Rows
section
variable {X : Cx}
end
end L2
namespace DL
open PySem L2 PyProof.Rows
variable {K : PySem.W.Frag}
end DL
end
section
set_option Elab.async false
set_option linter.all false
set_option maxRecDepth 100000
namespace L2
open PySem PySem.Spec PyProof.Rows
structure Pt (N : Addr → Prop) (fs : List Addr) (h h' : Heap) : Prop where
  same : ∀ b o, h.get? b = some o → ¬ N b → b ∉ fs → h'.get? b = some o
  slot : ∀ b o, h.get? b = some o → ¬ N b → ∃ sl, h'.get? b = some { o with slots := sl }
  size : h.objs.size ≤ h'.objs.size
theorem Pt.trans {N : Addr → Prop} {fs : List Addr} {h h1 h2 : Heap} (a : Pt N fs h h1) (b : Pt N fs h1 h2) : Pt N fs h h2 :=
  ⟨fun c o e n f => b.same c o (a.same c o e n f) n f, fun c o e n => let ⟨_, e1⟩ := a.slot c o e n; let ⟨sl, e2⟩ := b.slot c _ e1 n; ⟨sl, e2⟩, Nat.le_trans a.size b.size⟩
theorem Pt.keeps {N : Addr → Prop} {fs : List Addr} {h h' : Heap} (k : ∀ b o, h.get? b = some o → h'.get? b = some o) (z : h.objs.size ≤ h'.objs.size) : Pt N fs h h' :=
  ⟨fun b o e _ _ => k b o e, fun b o e _ => ⟨o.slots, k b o e⟩, z⟩
theorem funs_pt {N : Addr → Prop} {fs : List Addr} {h h' base : Heap} (p : Pt N fs h h') : ∀ {l : List Env}, (∀ b ∈ frs l, ¬ N b) → h.FunFrames base l → h'.FunFrames base l
  | [], _, _ => trivial
  | env :: r, hn, ⟨hk, ⟨L, o, hf, hb, ho, hd⟩, hr⟩ => by
    have hL : L ∈ frs (env :: r) := by unfold frs; rw [List.filterMap_cons, hf]; exact List.mem_cons_self
    obtain ⟨sl, e⟩ := p.slot L o ho (hn L hL)
    exact ⟨hk, ⟨L, _, hf, hb, e, hd⟩, funs_pt p (fun b hb => hn b (by unfold frs; rw [List.filterMap_cons, hf]; exact List.mem_cons_of_mem _ hb)) hr⟩
def XAt (N : Addr → Prop) (h : Heap) (e : Addr) (C : Addr) (fl : Value) : Prop :=
  ∃ oe vs T oT ts, h.get? e = some oe ∧ (oe.cls = .ref C ∧ oe.dict = none) ∧ oe.data = .fields vs ∧ vs[1]? = some (.ref T) ∧ N T ∧ T ≠ e ∧ h.get? T = some oT ∧ oT.data = .fields ts ∧ ts[3]? = some fl
theorem mf_cls (o : Obj) (f : Array Value → Array Value) : (o.mapFields f).cls = o.cls ∧ (o.mapFields f).dict = o.dict := by
  obtain ⟨c, d, dt, sl⟩ := o
  cases dt <;> exact ⟨rfl, rfl⟩
section
variable {M : Model} {A : Around} {E : Value → Shared → Prop} {s : Shared} {N : Addr → Prop} {base : Heap} {env : Env} {outer : List Env} {L e C : Addr} {Q : Unit → Shared → Prop}
theorem xe_entry {oe : Obj} {vs : Array Value} {head : Value} {hadNext : Bool} (hfr : A.frames = some (env :: outer)) (hl : s.heap.FunFrames base (env :: outer)) (hf : env.frame = some L)
    (hNf : ∀ b ∈ frs (env :: outer), ¬ N b) (hNn : ∀ b, s.heap.objs.size ≤ b → N b) (hNe : N e) (he : s.heap.get? e = some oe) (hc : oe.cls = .ref C ∧ oe.dict = none) (hd : oe.data = .fields vs) (hsz : 1 < vs.size)
    (h : ∀ h', Pt N (frs (env :: outer)) s.heap h' → XAt N h' e C (rawInt L) → Q () { s with heap := h' }) :
    wpAny M A (do let a ← frameOf env; let pl ← entryPlaceOf L hadNext; let b ← EntryCells.newEntry head a .none (rawInt L) .none pl; setField (.ref e) 1 b) Q E s := by
  have hef : e ∉ frs (env :: outer) := fun z => hNf e z hNe
  refine wpAny_bind (wpAny_frameOf_fun hfr hl hf fun h1 hs1 => ?_)
  refine wpAny_bind (wpAny_entryPlaceOf fun pl hpl => ?_)
  unfold EntryCells.newEntry newFields
  refine wpAny_bind (wpAny_newObj_type ?_ (hpl.sizeOk5 _ _ _ _ _))
  have he1 : h1.get? e = some oe := (hs1.2.1 e hef).trans he
  have hz1 : h1.objs.size = s.heap.objs.size := hs1.1
  generalize hot : ({ cls := .type "traceback", dict := none, data := .fields ([head, .ref L, .none, rawInt L, .none] ++ (if pl.isEmpty then List.replicate 6 Value.none else pl)).toArray } : Obj) = ot
  have hotd : ot.data = .fields ([head, .ref L, .none, rawInt L, .none] ++ (if pl.isEmpty then List.replicate 6 Value.none else pl)).toArray := by rw [← hot]
  have he2 := Heap.get?_push_of_some (h := h1) ot he1
  refine wpAny_setField he2 hd hsz (h _ ?_ ?_)
  · have hTe : h1.objs.size ≠ e := Nat.ne_of_gt (Heap.lt_size he1)
    refine ⟨fun b o eb nb fb => ?_, fun b o eb nb => ?_, ?_⟩
    · have hb : b ≠ e := fun z => nb (z ▸ hNe)
      rw [Heap.get?_update_other _ _ (Ne.symm hb)]
      exact Heap.get?_push_of_some _ ((hs1.2.1 b fb).trans eb)
    · have hb : b ≠ e := fun z => nb (z ▸ hNe)
      obtain ⟨sl, q⟩ := hs1.2.2 b o eb
      exact ⟨sl, by rw [Heap.get?_update_other _ _ (Ne.symm hb)]; exact Heap.get?_push_of_some _ q⟩
    · rw [Heap.size_after_update, Heap.size_push, hz1]; exact Nat.le_succ _
  · have hTe : h1.objs.size ≠ e := Nat.ne_of_gt (Heap.lt_size he1)
    have hd3 := Obj.data_mapFields hd (·.setIfInBounds 1 (Value.ref h1.objs.size))
    have he3 := Heap.get?_update_self (Obj.mapFields (·.setIfInBounds 1 (Value.ref h1.objs.size))) he2 (Obj.isFreed_of_fields hd3)
    have hT3 := (Heap.get?_update_other (h1.push ot) (Obj.mapFields (·.setIfInBounds 1 (Value.ref h1.objs.size))) (Ne.symm hTe)).trans (Heap.get?_push_size h1 (Obj.isFreed_of_fields hotd))
    refine ⟨_, _, h1.objs.size, _, _, he3, ⟨(mf_cls _ _).1.trans hc.1, (mf_cls _ _).2.trans hc.2⟩, hd3, by simp [hsz], hNn _ (by rw [hz1]; exact Nat.le_refl _), hTe, hT3, hotd, ?_⟩
    first | (simp; done) | (rcases hpl with rfl | ⟨_, _, _, _, _, _, _, rfl⟩ <;> simp)
theorem xe_first {oe : Obj} {vs : Array Value} (hfr : A.frames = some (env :: outer)) (hl : s.heap.FunFrames base (env :: outer)) (hf : env.frame = some L)
    (hNf : ∀ b ∈ frs (env :: outer), ¬ N b) (hNn : ∀ b, s.heap.objs.size ≤ b → N b) (hNe : N e) (he : s.heap.get? e = some oe) (hc : oe.cls = .ref C ∧ oe.dict = none) (hd : oe.data = .fields vs) (h1 : vs[1]? = some .none)
    (h : ∀ h', Pt N (frs (env :: outer)) s.heap h' → XAt N h' e C (rawInt L) → Q () { s with heap := h' }) : wpAny M A (noteFrame (.ref e) env) Q E s := by
  unfold noteFrame
  simp only [hf]
  refine wpAny_bind (wpAny_field he hd h1 ?_)
  rw [if_neg (by decide)]
  exact xe_entry hfr hl hf hNf hNn hNe he hc hd (Array.getElem?_eq_some_iff.mp h1).1 h
theorem xe_next (hfr : A.frames = some (env :: outer)) (hl : s.heap.FunFrames base (env :: outer)) (hf : env.frame = some L)
    (hNf : ∀ b ∈ frs (env :: outer), ¬ N b) (hNn : ∀ b, s.heap.objs.size ≤ b → N b) (hNe : N e) (x : XAt N s.heap e C .none)
    (h : ∀ h', Pt N (frs (env :: outer)) s.heap h' → XAt N h' e C (rawInt L) → Q () { s with heap := h' }) : wpAny M A (noteFrame (.ref e) env) Q E s := by
  obtain ⟨oe, vs, T, oT, ts, he, hc, hd, h1, hNT, hTe, hT, hdT, h3⟩ := x
  unfold noteFrame
  simp only [hf]
  refine wpAny_bind (wpAny_field he hd h1 ?_)
  rw [if_pos (show (Value.ref T != Value.none) = true from by simp)]
  refine wpAny_bind (wpAny_field hT hdT h3 ?_)
  rw [if_neg (show ¬ ((Value.none == rawInt L) = true) from by simp [rawInt])]
  refine wpAny_bind (wpAny_setField hT hdT (Array.getElem?_eq_some_iff.mp h3).1 ?_)
  have other : ∀ b, b ≠ T → (s.heap.update T (Obj.mapFields (·.setIfInBounds 3 Value.none))).get? b = s.heap.get? b := fun b hb => Heap.get?_update_other _ _ (Ne.symm hb)
  have hsz : (s.heap.update T (Obj.mapFields (·.setIfInBounds 3 Value.none))).objs.size = s.heap.objs.size := Heap.size_after_update ..
  have p1 : Pt N (frs (env :: outer)) s.heap (s.heap.update T (Obj.mapFields (·.setIfInBounds 3 Value.none))) :=
    ⟨fun b o eb nb _ => (other b fun z => nb (z ▸ hNT)).trans eb, fun b o eb nb => ⟨o.slots, (other b fun z => nb (z ▸ hNT)).trans eb⟩, Nat.le_of_eq hsz.symm⟩
  refine xe_entry (s := { s with heap := s.heap.update T (Obj.mapFields (·.setIfInBounds 3 Value.none)) }) (base := base) hfr (funs_pt p1 hNf hl) hf hNf (fun b hb => hNn b (by rw [← hsz]; exact hb)) hNe ((other e (Ne.symm hTe)).trans he) hc hd (Array.getElem?_eq_some_iff.mp h1).1 fun h' p2 x2 => ?_
  exact h h' (p1.trans p2) x2
theorem xe_land {fl : Value} {fs : List Addr} (x : XAt N s.heap e C fl) (hNe : N e) (h : ∀ h', Pt N fs s.heap h' → XAt N h' e C .none → Q () { s with heap := h' }) : wpAny M A (setFlight (.ref e) none) Q E s := by
  obtain ⟨oe, vs, T, oT, ts, he, hc, hd, h1, hNT, hTe, hT, hdT, h3⟩ := x
  have hsz3 : 3 < ts.size := (Array.getElem?_eq_some_iff.mp h3).1
  have other : ∀ b, b ≠ T → (s.heap.update T (Obj.mapFields (·.setIfInBounds 3 ((none : Option Addr).elim Value.none fun f => rawInt f)))).get? b = s.heap.get? b :=
    fun b hb => Heap.get?_update_other _ _ (Ne.symm hb)
  unfold setFlight
  refine wpAny_bind (wpAny_field he hd h1 ?_)
  rw [if_pos (show (Value.ref T != Value.none) = true from by simp)]
  refine wpAny_setField hT hdT hsz3 (h _ ⟨fun b o eb nb _ => (other b fun z => nb (z ▸ hNT)).trans eb, fun b o eb nb => ⟨o.slots, (other b fun z => nb (z ▸ hNT)).trans eb⟩, Nat.le_of_eq (Heap.size_after_update ..).symm⟩ ?_)
  exact ⟨oe, vs, T, _, _, (other e (Ne.symm hTe)).trans he, hc, hd, h1, hNT, hTe, Heap.get?_update_self _ hT (Obj.isFreed_of_fields (Obj.data_mapFields hdT _)), Obj.data_mapFields hdT _, by simp [hsz3]⟩
end
end L2
end
section
set_option Elab.async false
set_option linter.all false
set_option maxRecDepth 100000
namespace L2
open PySem PySem.Spec PyProof.Rows
theorem ObjOk.some {P : Program} {w : World} {H : Hp} {h : Heap} {a : Addr} {o : HO} (x : ObjOk P w H h a o) : ∃ u, h.get? a = Option.some u := by
  cases o with
  | lst xs => obtain ⟨_, _, _, _, e⟩ := x; exact ⟨_, e⟩
  | tup xs => obtain ⟨_, _, _, o, e, _⟩ := x; exact ⟨_, e⟩
  | dK kvs => obtain ⟨_, _, _, _, o, _, _, e, _⟩ := x; exact ⟨_, e⟩
  | dT kvs => obtain ⟨_, _, _, _, o, _, _, e, _⟩ := x; exact ⟨_, e⟩
  | set S n => obtain ⟨o, _, _, _, e, _⟩ := x; exact ⟨_, e⟩
  | ins C dx fs => obtain ⟨_, _, _, e, _⟩ := x; exact ⟨_, e⟩
  | own y => obtain ⟨_, e⟩ := x; exact ⟨_, e⟩
  | xd fs => obtain ⟨_, ⟨_, _, _, e, _⟩, _⟩ := x; exact ⟨_, e⟩
  | rng lo hi => obtain ⟨_, _, _, e⟩ := x; exact ⟨_, e⟩
  | frz ob u => obtain ⟨e, _⟩ := x; exact ⟨_, e⟩
  | tbl ps => exact ⟨_, (show h.get? a = Option.some _ from x)⟩
  | met f y => exact ⟨_, (show h.get? a = Option.some _ from x)⟩
  | ext φ => obtain ⟨_, ⟨_, e⟩, _⟩ := x; exact ⟨_, e⟩
def Nw (h : Heap) (H : Hp) : Addr → Prop := fun b => h.get? b = none ∧ H b = none
theorem XAt.mono {N N' : Addr → Prop} {h : Heap} {e C : Addr} {fl : Value} (x : XAt N h e C fl) (k : ∀ b, N b → N' b) : XAt N' h e C fl := by
  obtain ⟨oe, vs, T, oT, ts, he, hc, hd, h1, hNT, r⟩ := x
  exact ⟨oe, vs, T, oT, ts, he, hc, hd, h1, k T hNT, r⟩
theorem Nw.fresh {P : Program} {w : World} {h h' : Heap} {H : Hp} (hok : HOk P w H h') (k : ∀ b o, h.get? b = some o → ∃ o', h'.get? b = some o') {b : Addr} (hb : h'.objs.size ≤ b) : Nw h H b := by
  refine ⟨?_, hok.fresh hb⟩
  cases q : h.get? b with
  | none => rfl
  | some o =>
    obtain ⟨o', e⟩ := k b o q
    exact absurd (Nat.lt_of_lt_of_le (Heap.lt_size e) hb) (Nat.lt_irrefl _)
def CXr (P : Program) (w : World) : CXT := fun outer H s E e s' => ∃ (ea C : Addr) (H' : Hp), e = .ref ea ∧ s'.os = s.os ∧ AllBare s'.gens ∧ Un (frs outer) [] H H' s.heap s'.heap ∧ HOk P w H' s'.heap ∧ Nw s.heap H' ea ∧ XAt (Nw s.heap H') s'.heap ea C .none ∧ E (.ref C) none H'
def RaisesOk (X : Cx) (C : Addr) (E : XK) : Prop := ∀ (pins : List (Addr × Obj)) (σ : St) (H : Hp) (s : Shared) (h' : Heap) (e : Addr) (vs : List Value), Inv X pins σ H s → Heap.MadeExcOf s.heap h' e (.ref C) vs → E (.ref C) none H → X.xe (.ref e) { s with heap := h' }
theorem un_pt {N : Addr → Prop} {fs gs : List Addr} {H H1 : Hp} {h h1 h2 : Heap} (u : Un fs [] H H1 h h1) (p : Pt N gs h1 h2) (hN : ∀ b o, h.get? b = some o → ¬ N b) (hg : ∀ b o, h.get? b = some o → b ∈ gs → b ∈ fs) : Un fs [] H H1 h h2 where
  keep := fun b o q n hb hx => p.same b o (u.keep b o q n hb hx) (hN b o q) fun z => hb (hg b o q z)
  slot := fun b o q n hb hx => by
    obtain ⟨sl, e⟩ := u.slot b o q n hb hx
    obtain ⟨sl', e'⟩ := p.slot b _ e (hN b o q)
    exact ⟨sl', e'⟩
  free := u.free
  there := fun b o q hx => by
    obtain ⟨o', e⟩ := u.there b o q hx
    obtain ⟨sl', e'⟩ := p.slot b _ e (hN b o q)
    exact ⟨_, e'⟩
  tups := u.tups
  frzs := u.frzs
  tbls := u.tbls
theorem hok_pt {P : Program} {w : World} {N : Addr → Prop} {gs : List Addr} {H : Hp} {h h' : Heap} (hok : HOk P w H h) (p : Pt N gs h h') (hN : ∀ b, N b → H b = none) (hg : ∀ b ∈ gs, H b = none) : HOk P w H h' := fun a o e => by
  have tr : ∀ b x u, H b = some x → h.get? b = some u → h'.get? b = some u := fun b x u q e1 => p.same b u e1 (fun z => by rw [hN b z] at q; cases q) fun z => by rw [hg b z] at q; cases q
  refine (hok a o e).stay (fun b u hb q => ?_) (fun _ q => q) fun _ _ q => q
  rcases hb with rfl | hb
  · exact tr b o u e q
  · exact tr b _ u hb q
theorem raises_cxOf {P : Program} {w : World} {K : PySem.W.Frag} {mg : Str → Option Value} {base : Heap} {N : List Str} {qual : Str} {scope : Scope} {f : Addr} {cd : Value} {A : Around} {outer : List Env} {s : Shared} {H : Hp} {E : XK} {C : Addr} :
    RaisesOk (cxOf (CXr P w) P w K mg base N qual scope f cd A outer s H E) C E := by
  intro pins σ H1 s1 h' e vs I hx hE
  have hst := I.stack
  have hfree := I.stkFree
  have hfr := I.ok.frames
  have hun : Un (frs outer) [] H H1 s.heap s1.heap := I.base
  have hok : HOk P w H1 s1.heap := I.hok
  have hlt : s.heap.objs.size ≤ s1.heap.objs.size := I.sz
  change s1.heap.FunFrames base (envOfC qual scope s.heap.objs.size f cd :: outer) at hst
  change ∀ b ∈ frs (envOfC qual scope s.heap.objs.size f cd :: outer), H1 b = none at hfree
  change (A.deeper (envOfC qual scope s.heap.objs.size f cd)).frames = some (envOfC qual scope s.heap.objs.size f cd :: outer) at hfr
  generalize henv : envOfC qual scope s.heap.objs.size f cd = env at hst hfree hfr
  show wpAny (model P w) (A.deeper (envOfC qual scope s.heap.objs.size f cd)) (leaving (envOfC qual scope s.heap.objs.size f cd) (.ref e)) (fun _ s'' => CXr P w outer H s E (.ref e) s'') (fun e' s'' => CXr P w outer H s E e' s'') { s1 with heap := h' }
  have hf : env.frame = some s.heap.objs.size := by rw [← henv]; rfl
  rw [henv]
  obtain ⟨t, he, _, _⟩ := hx.there
  have hNf : ∀ b ∈ frs (env :: outer), ¬ Nw s1.heap H1 b := fun b hb z => by
    obtain ⟨_, o, ho, _⟩ := hst.mem hb
    rw [z.1] at ho; cases ho
  have hok' : HOk P w H1 h' := hok.kept hx.keeps
  have hNn : ∀ b, h'.objs.size ≤ b → Nw s1.heap H1 b := fun b hb => Nw.fresh hok' (fun c o q => ⟨o, hx.keeps c o q⟩) hb
  have hNe : Nw s1.heap H1 e := by
    refine ⟨hx.new, ?_⟩
    cases q : H1 e with
    | none => rfl
    | some u =>
      obtain ⟨v, r⟩ := ObjOk.some (hok e u q)
      rw [hx.new] at r; cases r
  have hun' : Un (frs outer) [] H H1 s.heap h' := hun.trans (Un.kept hx.keeps)
  have hold : ∀ b o, s.heap.get? b = some o → ¬ Nw s1.heap H1 b := fun b o q z => by
    obtain ⟨o', r⟩ := hun.there b o q (by simp)
    rw [z.1] at r; cases r
  have hmono : ∀ b, Nw s1.heap H1 b → Nw s.heap H1 b := fun b z => ⟨by
    cases q : s.heap.get? b with
    | none => rfl
    | some o => exact absurd z (hold b o q), z.2⟩
  have hl' : h'.FunFrames base (env :: outer) := hst.of_keeps fun b o q _ => ⟨o, hx.keeps b o q, rfl⟩
  unfold leaving
  refine wpAny_bind (xe_first (s := { s1 with heap := h' }) (base := base) (N := Nw s1.heap H1) (C := C) hfr hl' hf hNf hNn hNe he ⟨rfl, rfl⟩ rfl rfl fun h2 p1 x1 => ?_)
  refine xe_land (fs := frs (env :: outer)) x1 hNe fun h3 p2 x2 => ?_
  have p := p1.trans p2
  refine ⟨e, C, H1, rfl, I.os, I.bare, un_pt hun' p hold (fun b o q z => ?_), hok_pt hok' p (fun b z => z.2) hfree, hmono e hNe, x2.mono hmono, hE⟩
  unfold frs at z
  rw [List.filterMap_cons, hf] at z
  rcases List.mem_cons.mp z with z | z
  · exact absurd (Heap.lt_size q) (by rw [z]; exact Nat.lt_irrefl _)
  · exact z
theorem exc_of_in {K : PySem.W.Frag} {h : Heap} {C : Addr} {bmB : List Value} {newId : String} (X : K.In h) (q : PySem.W.excIn K C bmB newId = true) :
    ∃ bm N nm q bs hdct sn sub ab col dd k0 k1 k2 k3 k5 mN, h.get? C = some (excClassObj nm q C N bs bm hdct sn sub ab col dd k0 k1 k2 k3 k5 newId) ∧ h.Ns N mN ∧ mN "__init__" = none ∧ OwnTail h bmB bm := by
  unfold PySem.W.excIn at q
  split at q
  · rename_i dd cd sl ho
    split at q
    · rename_i C' bm k0 k1 k2 k3 n k5 hm hs
      simp only [Bool.and_eq_true, beq_iff_eq, Bool.not_eq_true'] at q
      obtain ⟨⟨⟨⟨⟨rfl, rfl⟩, hdel⟩, ht⟩, hok⟩, hni⟩ := q
      obtain ⟨nm, bs, mro, ns, qn, hd, sn, sub, ab, col, del⟩ := cd
      dsimp only at hm hdel hok hni
      subst hm hdel
      have hsl : sl = #[k0, k1, k2, k3, some (.builtin n), k5] := by
        obtain ⟨l⟩ := sl
        simp only at hs
        rw [hs]
      subst hsl
      exact ⟨bm, ns, nm, qn, bs, hd, sn, sub, ab, col, dd, k0, k1, k2, k3, k5, _, X _ _ ho, .of_isNs (PySem.W.isNs_of_in X hok), PySem.W.nsMap_none_of_in X hok hni, PySem.W.tail_of_in X ht⟩
    · cases q
  · cases q
def tRaise (C : Addr) (E : XK) (ta : TA) : TS := fun _ σ H => ta σ H fun vs H1 => vs.length ≤ sizeLine ∧ E (.ref C) none H1
theorem ps_raise {X : Cx} {C : Addr} {E : XK} {x : Str} {np cpos pos : Pos} {e₀ : Expr} {rest : List Expr} {ta : TA} {B newId initId : String} {bm : List Value} (ha : PA X (e₀ :: rest) ta) (hR : RaisesOk X C E)
    (hg : Gl X x) (hm : X.mg x = some (.ref C)) (hq : PySem.W.excIn X.K C bm newId = true) (FB : ExcBaseFacts B newId initId bm) (hh : X.A.handled = none)
    (hplain : (backTo cpos (starEach rest X.env)).any (·.1) = false := by rfl) (hd : (x == ("__debug__" : Str)) = false := by decide)
    (he : starEach (e₀ :: rest) X.env = (false, eval e₀ X.env) :: starEach rest X.env := by rfl) : PS X (.Raise (some (.Call (.Name x np) (e₀ :: rest) [] cpos)) none pos) (tRaise C E ta) := by
  intro pins s σ H D I h
  obtain ⟨tl, N, nm, q, bs, hdct, sn, sub, ab, col, dd, k0, k1, k2, k3, k5, mN, hC, hN, hni, T⟩ := exc_of_in I.ok.mod.kin hq
  refine wpAny_Raise_call_subT (C := C) (nm := nm) (q := q) (N := N) (bs := bs) (bm := tl) (hdct := hdct) (sn := sn) (sub := sub) (ab := ab) (col := col) (dd := dd) (k0 := k0) (k1 := k1) (k2 := k2) (k3 := k3) (k5 := k5)
    FB (mN := mN) (T.hasType FB.hasBase) hh (by rw [he]; show (false || (backTo cpos (starEach rest X.env)).any (·.1)) = false; rw [hplain]; rfl) hni (ld_glob I hg hm ⟨rfl, ?_⟩ hd)
  have hz := ha cpos pins s σ H _ I h
  rw [he] at hz ⊢
  refine Calls.evalArgs_plain (wpAny_mono hz (fun us s2 ⟨vs, H2, I2, r, z, hE⟩ => ⟨rfl, by rw [← r.length]; exact z, I2.bk _ _ hC, hN.keeps I2.bk, T.keeps I2.bk, fun h' e hx => hR pins σ H2 s2 h' e us I2 hx hE⟩) fun _ _ y => y)
theorem exc_match {M : Model} {A : Around} {E : Value → Shared → Prop} {s : Shared} {K : PySem.W.Frag} {e C D : Addr} {oe : Obj} {Q : Bool → Shared → Prop} (X : K.In s.heap) (he : s.heap.get? e = some oe) (hc : oe.cls = .ref C)
    (h1 : PySem.W.typeIn K (.ref D) = some (.type "type")) (h2 : (PySem.W.clsIn K D).isSome = true) (h3 : PySem.W.subIn K (.ref C) (.ref D) = some true) (h4 : PySem.W.subIn K (.ref D) (.type "BaseException") = some true)
    (h : Q true s) : wpAny M A (excMatches (.ref e) (.ref D)) Q E s := by
  have L1 := PySem.W.looks_typeIn (M := M) X h1
  have L2 : PySem.W.Looks M s.heap (isSubtype (.type "type") (.type "tuple")) false := PySem.W.Looks.of_pure PySem.tc_notTuple
  have L3 := PySem.W.looks_subIn (M := M) X h3
  have L4 := PySem.W.looks_subIn (M := M) X h4
  have L5 : PySem.W.Looks M s.heap (isType (.ref D)) true := by
    unfold PySem.W.clsIn at h2
    split at h2
    · rename_i c' d' cd' sl' ho
      intro A' Q' E' s' k q
      unfold isType loadHead
      exact wpAny_bind (wpAny_loadPart (k _ _ (X _ _ ho)) (wpAny_pure q))
    · cases h2
  have L6 : PySem.W.Looks M s.heap (typeOf (.ref e)) (.ref C) := hc ▸ (PySem.W.Looks.ld he).andThen .now
  unfold excMatches isInstance isExcClass
  refine wpAny_bind (wpAny_bind (L1.at (L2.at ?_)))
  simp only [Bool.false_eq_true, if_false]
  refine wpAny_bind (wpAny_pure ?_)
  simp only [List.forIn_cons, List.forIn_nil]
  refine wpAny_bind (wpAny_bind (wpAny_bind (wpAny_bind (L5.at ?_))))
  simp only [if_true]
  refine L4.at ?_
  simp only [Bool.not_true, Bool.false_eq_true, if_false]
  refine wpAny_pure (wpAny_pure ?_)
  refine wpAny_bind (L6.at (wpAny_bind (wpAny_bind (wpAny_bind (L3.at ?_)))))
  simp only [if_true]
  exact wpAny_pure (wpAny_pure (wpAny_pure h))
end L2
end
section
set_option Elab.async false
set_option linter.all false
set_option maxRecDepth 100000
namespace L2
open PySem PySem.Spec PyProof.Rows
abbrev Cx.within (X : Cx) (ea : Addr) (oe : Obj) : Cx := { X with A := X.A.mark (some (.ref ea)), calm := false, pn := X.pn ++ [(ea, oe)], xe := fun _ _ => False }
theorem Inv.within {X : Cx} {pins : List (Addr × Obj)} {σ : St} {H : Hp} {s : Shared} {ea : Addr} {oe : Obj} (I : Inv X pins σ H s) (h : s.heap.get? ea = some oe ∧ H ea = none ∧ ea ≠ X.env.locals ∧ ea ∉ X.fs ∧ ∀ v, oe.data ≠ .cell v) :
    Inv (X.within ea oe) pins σ H s := by
  have ok := I.ok
  refine ⟨⟨ok.mod, ok.kind, ok.glob, ok.blt, ok.above, ok.inj, ok.has, ok.cab, (fun z => nomatch z), ok.frames, ok.stk, ok.exf, ok.bs, ok.bsz, ok.noex, ok.exfs, ok.funs, ok.frf⟩, I.os, I.bare, I.base, I.loc, I.cell, I.free, I.freeC, fun p hp => ?_, I.hok, I.len⟩
  rcases List.mem_append.mp hp with hp | hp
  · rcases List.mem_append.mp hp with hp | hp
    · exact I.pin p (List.mem_append_left _ hp)
    · obtain rfl := List.mem_singleton.mp hp
      exact h
  · exact I.pin p (List.mem_append_right _ hp)
theorem Inv.without {X : Cx} {pins : List (Addr × Obj)} {σ : St} {H : Hp} {s : Shared} {ea : Addr} {oe : Obj} (ok : X.Ok) (I : Inv (X.within ea oe) pins σ H s) : Inv X pins σ H s :=
  ⟨ok, I.os, I.bare, I.base, I.loc, I.cell, I.free, I.freeC, fun p hp => (List.mem_append.mp hp).elim (fun z => I.pin p (List.mem_append_left _ (List.mem_append_left _ z))) (fun z => I.pin p (List.mem_append_right _ z)), I.hok, I.len⟩
theorem SP.without {X : Cx} {pins : List (Addr × Obj)} {ea : Addr} {oe : Obj} {D : Ends} {f : Flow} {s' : Shared} (ok : X.Ok) (h : SP (X.within ea oe) pins D f s') : SP X pins D f s' := by
  cases f with
  | next => obtain ⟨σ', H', I, q⟩ := h; exact ⟨σ', H', I.without ok, q⟩
  | brk => obtain ⟨σ', H', I, q⟩ := h; exact ⟨σ', H', I.without ok, q⟩
  | cont => obtain ⟨σ', H', I, q⟩ := h; exact ⟨σ', H', I.without ok, q⟩
  | ret u => obtain ⟨v, σ', H', I, r, q⟩ := h; exact ⟨v, σ', H', I.without ok, r, q⟩
structure Got1 (X : Cx) (pins : List (Addr × Obj)) (σ : St) (H H' : Hp) (s : Shared) (ea C : Addr) (fl : Value) (s3 : Shared) : Prop where
  os : s3.os = s.os
  bare : AllBare s3.gens
  un : Un (frs X.stack) [] H H' s.heap s3.heap
  hok : HOk X.prog X.w H' s3.heap
  new : Nw s.heap H' ea
  xat : XAt (Nw s.heap H') s3.heap ea C fl
section
variable {X : Cx} {pins : List (Addr × Obj)} {σ : St} {H H' : Hp} {s s3 : Shared} {ea C : Addr} {fl : Value}
theorem Got1.inv (g : Got1 X pins σ H H' s ea C fl s3) (I : Inv X pins σ H s) : Inv X pins σ H' s3 := I.call' g.os g.un g.hok g.bare fun _ z => nomatch z
theorem Got1.old {b : Addr} {o : Obj} (e : s.heap.get? b = some o) : ¬ Nw s.heap H' b := fun z => by rw [z.1] at e; cases e
theorem Got1.fresh (g : Got1 X pins σ H H' s ea C fl s3) : ∀ b, s3.heap.objs.size ≤ b → Nw s.heap H' b := fun b hb => Nw.fresh g.hok (fun c o q => g.un.there c o q (by simp)) hb
theorem Got1.step {fl' : Value} {h4 : Heap} (g : Got1 X pins σ H H' s ea C fl s3) (I : Inv X pins σ H s) (p : Pt (Nw s.heap H') (frs X.stack) s3.heap h4) (x : XAt (Nw s.heap H') h4 ea C fl') : Got1 X pins σ H H' s ea C fl' { s3 with heap := h4 } :=
  ⟨g.os, g.bare, un_pt g.un p (fun b o e => Got1.old e) fun _ _ _ z => z, hok_pt g.hok p (fun b z => z.2) (g.inv I).stkFree, g.new, x⟩
theorem Got1.pin (g : Got1 X pins σ H H' s ea C fl s3) (I : Inv X pins σ H s) : ∃ oe, (s3.heap.get? ea = some oe ∧ H' ea = none ∧ ea ≠ X.env.locals ∧ ea ∉ X.fs ∧ ∀ v, oe.data ≠ .cell v) ∧ oe.cls = .ref C ∧ oe.dict = none ∧ PySem.W.notCls oe = true := by
  obtain ⟨oe, vs, T, oT, ts, he, hc, hd, _⟩ := g.xat
  refine ⟨oe, ⟨he, g.new.2, fun z => ?_, fun z => ?_, fun v => by rw [hd]; intro q; cases q⟩, hc.1, hc.2, ?_⟩
  · obtain ⟨m, ⟨o, _, _, ho, _⟩, _⟩ := I.loc
    have := g.new.1
    rw [z, ho] at this; cases this
  · obtain ⟨_, o, ho, _⟩ := I.funs.mem z
    have := g.new.1
    rw [ho] at this; cases this
  · obtain ⟨c, d, dt, sl⟩ := oe
    cases hd
    rfl
theorem Got1.lands {M : Model} {A : Around} {E0 : Value → Shared → Prop} {R : Shared → Prop} (g : Got1 X pins σ H H' s ea C .none s3) (I : Inv X pins σ H s) (hst : X.stack = X.env :: X.outer ∧ X.env.frame = some X.env.locals) (hA : A.frames = some X.stack)
    (h : ∀ s4, Got1 X pins σ H H' s ea C .none s4 → R s4) :
    wpAny M A (noteFrame (.ref ea) X.env) (fun _ s₂ => wpAny M A (setFlight (.ref ea) none) (fun _ s₃ => R s₃) E0 s₂) E0 s3 := by
  have J := g.inv I
  have hl := J.stack
  have hNf : ∀ b ∈ frs X.stack, ¬ Nw s.heap H' b := fun b hb => by
    obtain ⟨_, o, ho, _⟩ := I.stack.mem hb
    exact Got1.old ho
  rw [hst.1] at hA hl
  refine xe_next (base := X.base) (N := Nw s.heap H') (C := C) hA hl hst.2 (by rw [← hst.1]; exact hNf) g.fresh g.new g.xat fun h4 p x => ?_
  rw [← hst.1] at p
  have g4 := g.step I p x
  refine xe_land (fs := frs X.stack) x g.new fun h5 p5 x5 => ?_
  exact h _ (g4.step I p5 x5)
theorem Got1.again {M : Model} {A : Around} {E0 : Value → Shared → Prop} {R : Shared → Prop} (g : Got1 X pins σ H H' s ea C .none s3) (I : Inv X pins σ H s)
    (h : ∀ s4, Got1 X pins σ H H' s ea C .none s4 → R s4) : wpAny M A (setFlight (.ref ea) none) (fun _ s₃ => R s₃) E0 s3 :=
  xe_land (fs := frs X.stack) g.xat g.new fun h5 p5 x5 => h _ (g.step I p5 x5)
end
structure Catches (K : PySem.W.Frag) (C D : Addr) : Prop where
  ty : PySem.W.typeIn K (.ref D) = some (.type "type")
  cl : (PySem.W.clsIn K D).isSome = true
  sub : PySem.W.subIn K (.ref C) (.ref D) = some true
  exc : PySem.W.subIn K (.ref D) (.type "BaseException") = some true
def tTry (sp : Sp) (ta : TA) (C : Addr) (ts : Addr → TS) : TS := fun D σ H => ta σ H fun vs H1 => sp vs H1 (fun _ _ => False) (fun c _ H2 => c = .ref C ∧ ∀ ea, H2 ea = none → ts ea D σ H2)
section
variable {X : Cx} {k : Nat} {f C D' : Addr} {fd : FuncData} {ps : List Str} {sp : Sp} {x cn : Str} {p pos p1 np hp p2 : Pos} {e : Expr} {es : List Expr} {t : TA} {b₀ : Stmt} {suite : List Stmt} {ts : Addr → TS}
theorem try_call {pins : List (Addr × Obj)} {s : Shared} {σ : St} {H : Hp} {Q : Flow → Shared → Prop} {E0 : Value → Shared → Prop} {E : XK} (F : FnOk X.prog X.w X.K X.mg X.base (CXr X.prog X.w) k f fd ps sp) (hr : Room k X.A) (hg : Gl X x) (hm : X.mg x = some (.ref f)) (hk : PySem.W.keepIn X.K (.ref f) = true)
    (hb : Binds X.K fd ps []) (ha : PA X.nox (e :: es) t) (I : Inv X pins σ H s) (h : t σ H fun vs H1 => sp vs H1 (fun _ _ => False) E)
    (hE : ∀ s1 H1 H2 s3 ea C, Inv X pins σ H1 s1 → Got1 X pins σ H1 H2 s1 ea C .none s3 → E (.ref C) none H2 → E0 (.ref ea) s3)
    (hdb : (x == ("__debug__" : Str)) = false := by decide) (he : starEach (e :: es) X.env = (false, eval e X.env) :: starEach es X.env := by rfl) (hpl : (backTo pos (starEach es X.env)).any (·.1) = false := by rfl)
    (hs : swapsWith (.Call (.Name x p) (e :: es) [] pos) none p1.line X.env = pure false := by rfl) :
    wpAny (model X.prog X.w) X.A (execs [.Expr (.Call (.Name x p) (e :: es) [] pos) p1] X.env) Q E0 s := by
  refine wpAny_execs_cons (wpAny_Expr_any ?_ I.quiet hs)
  refine wpAny_Call_Name_kw (ld_glob I hg hm ?_ hdb)
  refine PySem.W.callWith_K (h₀ := X.base) I.ok.mod.kin hk (wpAny_mono (ha pos pins s σ H _ (I.wish _) h) (fun us s1 ⟨vs, H1, I1, r, q⟩ => ⟨I1.kIn, ?_⟩) fun _ _ z => False.elim z) he hpl
  have J : Inv X pins σ H1 s1 := I1.unwish
  have hl : us.length = ps.length := by rw [← r.length]; exact F.len _ _ _ _ q
  refine wpAny_call (codeAny_mono (F.run X.A X.stack s1 H1 ⟨us, []⟩ us vs _ E hr J.env0 (by have := hb s1 us J.kIn (by simpa using hl); simpa using this) r q) fun rr s' hq => ?_)
  cases rr with
  | error ee =>
    obtain ⟨ea, C, H2, rfl, h1, h2, h3, h4, h5, h6, h7⟩ := hq
    exact hE s1 H1 H2 s' ea C J ⟨h1, h2, h3, h4, h5, h6⟩ h7
  | ok fl =>
    cases fl with
    | ret u => obtain ⟨_, _, _, _, _, _, _, z⟩ := hq; exact z.elim
    | next => exact False.elim hq
    | brk => exact False.elim hq
    | cont => exact False.elim hq
theorem ps_try (F : FnOk X.prog X.w X.K X.mg X.base (CXr X.prog X.w) k f fd ps sp) (hr : Room k X.A) (hg : Gl X x) (hm : X.mg x = some (.ref f)) (hk : PySem.W.keepIn X.K (.ref f) = true)
    (hb : Binds X.K fd ps []) (ha : PA X.nox (e :: es) t) (hst : X.stack = X.env :: X.outer ∧ X.env.frame = some X.env.locals) (hgD : Gl X cn) (hmD : X.mg cn = some (.ref D')) (hC : Catches X.K C D')
    (hsu : ∀ ea oe, oe.cls = .ref C → oe.dict = none → PySem.W.notCls oe = true → PSs (X.within ea oe) (b₀ :: suite) (ts ea))
    (hdb : (x == ("__debug__" : Str)) = false := by decide) (hdc : (cn == ("__debug__" : Str)) = false := by decide) (he : starEach (e :: es) X.env = (false, eval e X.env) :: starEach es X.env := by rfl) (hpl : (backTo pos (starEach es X.env)).any (·.1) = false := by rfl)
    (hs : swapsWith (.Call (.Name x p) (e :: es) [] pos) none p1.line X.env = pure false := by rfl) :
    PS X (.Try [.Expr (.Call (.Name x p) (e :: es) [] pos) p1] [.ExceptHandler (some (.Name cn np)) none (b₀ :: suite) hp] [] [] p2) (tTry sp t C ts) := by
  intro pins s σ H D I h
  refine wpAny_Try_except (try_call F hr hg hm hk hb ha I h (fun s1 H1 H2 s3 ea C' J g hE => ?_) hdb he hpl hs)
  obtain ⟨hc, hts⟩ := hE
  cases hc
  refine g.lands J hst J.ok.frames fun s4 g4 => ?_
  obtain ⟨oe, hpin, hcls, hdict, hnc⟩ := g4.pin J
  have W4 := (g4.inv J).within hpin
  refine wpAny_handleBy_cons (codeAny_handlers_test ?_) (by intro q; cases q)
  refine ld_glob (X := X.within ea oe) W4 hgD hmD ?_ hdc
  refine exc_match W4.kIn hpin.1 hcls hC.ty hC.cl hC.sub hC.exc ?_
  simp only [if_true]
  refine codeAny_handlers_suite (g4.again J fun s5 g5 => ?_)
  obtain ⟨oe5, hpin5, hcls5, hdict5, hnc5⟩ := g5.pin J
  refine wpAny_mono (hsu ea oe5 hcls5 hdict5 hnc5 pins s5 σ H2 D ((g5.inv J).within hpin5) (hts ea hpin5.2.1)) (fun fl s6 q => ?_) fun _ _ z => False.elim z
  exact q.without J.ok
end
end L2
end
section
set_option Elab.async false
set_option linter.all false
set_option maxRecDepth 100000
namespace L2
open PySem PySem.Spec PyProof.Rows PySem.W
section
variable {prog : Program} {w : World} {A : Around} {E : Value → Shared → Prop} {s : Shared} {K : Frag} {x C : Addr} {ox : Obj}
structure XCls (K : Frag) (C : Addr) : Prop where
  ga : findIn K (.ref C) "__getattribute__" = some (some (.builtin "BaseException.__getattribute__"))
  gt : findIn K (.ref C) "__getattr__" = some none
  cl : (clsIn K C).isSome = true
  ha : findIn K (.ref C) "__class__" = some (some (.builtin "object.__class__"))
  hn : specialIn K (.builtin "object.__class__") "__get__" = some (some (.builtin "getset_descriptor.__get__"))
  ht : takesIn K (.builtin "object.__class__") = some true
  ob : mroIn K C (.type "object") = some true
  be : mroIn K C (.type "BaseException") = some true
theorem XCls.cf (c : XCls K C) : findObj K C none "__class__" = some (.bind (.builtin "getset_descriptor.__get__") (.builtin "object.__class__")) := by
  obtain ⟨cd, hc⟩ := Option.isSome_iff_exists.mp c.cl
  unfold findObj
  rw [hc, Option.bind_some, c.ha, Option.bind_some]
  simp [c.hn, c.ht]
theorem xc_entry {tk : Tok} {Q : Fin → Shared → Prop} (c : XCls K C) (X : K.In s.heap) (I : InstAt s.heap x ox C none) (h : Q (.done (.ret (.ref C))) s) :
    wpAny (model prog w) A (Builtin.«object.__getattribute__» ⟨[.ref x, .str "__class__" tk], []⟩) Q E s := by
  obtain ⟨hh, g, d, t, os⟩ := s
  have L0 := I.type (M := model prog w)
  have L1 := looks_find (M := model prog w) X I c.cf
  unfold Builtin.«object.__getattribute__»
  refine wpAny_bind (wpAny_pure ?_)
  refine wpAny_bind (wpAny_pure ?_)
  refine wpAny_bind (L0.at (wpAny_bind (L1.at ?_)))
  show wpAny _ _ (Builtin.ObjectAttr.bindTo (.builtin "getset_descriptor.__get__") (.builtin "object.__class__") (.ref x) (.ref C)) _ _ _
  unfold Builtin.ObjectAttr.bindTo
  refine wpAny_bind (wpAny_holding (wpAny_call (class_get X I c.ob ?_)))
  exact wpAny_pure h
theorem xc_check {M : Model} {nv : Value} {Q : Unit → Shared → Prop} (c : XCls K C) (X : K.In s.heap) (I : InstAt s.heap x ox C none) (h : Q () s) :
    wpAny M A (checkBuiltinCall "BaseException.__getattribute__" ⟨[.ref x, nv], []⟩) Q E s := by
  obtain ⟨hh, g, d, t, os⟩ := s
  have L0 := I.type (M := M)
  have L1 := looks_mroIn (M := M) X c.be
  have hk : builtinKind "BaseException.__getattribute__" = some .slot := by decide +kernel
  have hsplit : splitId "BaseException.__getattribute__" = some ("BaseException", "__getattribute__") := by decide +kernel
  have ha := F.args_bexc_ga (.ref x) nv
  simp only [checkBuiltinCall, hk, hsplit]
  refine wpAny_bind ?_
  unfold isInstance
  refine wpAny_bind (L0.at (L1.at ?_))
  repeat (first | assumption | wp_step)
theorem xc_class {Q : Option Value → Shared → Prop} (c : XCls K C) (X : K.In s.heap) (I : InstAt s.heap x ox C none) (h : Q (some (.ref C)) { s with toks := s.toks + 1 }) :
    wpAny (model prog w) A (getAttr? (.ref x) "__class__") Q E s := by
  obtain ⟨hh, g, d, t, os⟩ := s
  have L0 := I.type (M := model prog w)
  have L1 := looks_findIn (M := model prog w) X c.ga
  have L2 := looks_findIn (M := model prog w) X c.gt
  have fb := F.excAttr_ValueError.ga.bind (.ref x)
  unfold getAttr? getAttrBy? getAttrBy
  refine wpAny_bind (wpAny_mkText (wpAny_bind (wpAny_attempt (wpAny_holding (wpAny_bind (L0.at (wpAny_bind (L1.at ?_))))))))
  have hx2 : (onTheHeap (Value.ref C) && Value.builtin "BaseException.__getattribute__" == Value.builtin "object.__getattribute__") = false := by
    rw [show (Value.builtin "BaseException.__getattribute__" == Value.builtin "object.__getattribute__") = false by decide +kernel, Bool.and_false]
  simp only [hx2, Bool.false_eq_true, if_false]
  unfold getAttrByItsOwn hookBefore callGetattribute boundAndCalled
  rw [if_pos (show onTheHeap (Value.ref C) = true from rfl)]
  refine wpAny_bind (L2.at ?_)
  refine wpAny_bind (wpAny_attempt (wpAny_holding ?_))
  simp only [Bool.false_and, Bool.false_eq_true, if_false]
  rw [fb]
  refine wpAny_bind (wpAny_pure (wpAny_call (codeAny_call_builtin F.excAttr_ValueError.ga.plain F.entry_bexc_ga (xc_check c X I (xc_entry c X I ?_)))))
  exact handed_on rfl (wpAny_pure h)
theorem kitx_exc (c : XCls K C) : KitX K (.ref x) (.ref C) (fun h => InstAt h x ox C none) where
  ty := fun _ _ _ I => I.type
  it := fun _ _ X _ => by
    have hcl := c.cl
    unfold clsIn at hcl
    split at hcl
    · rename_i c' d' cd' sl' ho
      intro A' Q' E' s' k q
      unfold isType loadHead
      exact wpAny_bind (wpAny_loadPart (k _ _ (X _ _ ho)) (wpAny_pure q))
    · cases hcl
  ne := fun h tp dd its n sl X htp => by
    refine Bool.eq_false_iff.mpr fun q => ?_
    have e : C = tp := Value.ref.inj (beq_iff_eq.mp q)
    subst e
    have hcl := c.cl
    unfold clsIn at hcl
    split at hcl
    · rename_i c' d' cd' sl' ho
      have z := (X _ _ ho).symm.trans htp
      cases z
    · cases hcl
  ca := fun X I k => xc_class c X I k
end
theorem refs_val : ∀ {cs : List Addr} {its : List Value}, Vals (cs.map V.ref) its → its = cs.map Value.ref
  | [], _, .nil => rfl
  | a :: r, _, .cons z zs => by rw [refs_val zs, show _ = Value.ref a from z]; rfl
section
variable {X : Cx} {ea C : Addr} {oe : Obj}
theorem call_isiX {T : String} {b : Bool} (hp : (ea, oe) ∈ X.pn) (hc : oe.cls = .ref C) (hd : oe.dict = none) (hn : notCls oe = true) (c : XCls X.K C) (hk : kitOne X.K (.ref C) (.type T) = some b) :
    CallR X (.builtin "isinstance") (fun xs H Q => xs = [.ref ea, .ty T] ∧ Q (.bl b) H) := by
  intro pins s σ H Q us vs I rv h
  obtain ⟨rfl, q⟩ := h
  cases rv with
  | cons r1 rv =>
    cases rv with
    | cons r2 rv =>
      cases rv
      cases (show _ = Value.ref ea from r1)
      cases (show _ = Value.type T from r2)
      have hpin := I.pin (ea, oe) (List.mem_append_left _ hp)
      refine kia_one (kitx_exc c) I.kIn ⟨hpin.1, hc, hn, by rw [hd]; trivial⟩ hk (fun z => nomatch z) fun tk => ⟨.bl b, H, I.tok _, rfl, q⟩
theorem call_isiXT {b : Bool} {cs : List Addr} (hp : (ea, oe) ∈ X.pn) (hc : oe.cls = .ref C) (hd : oe.dict = none) (hn : notCls oe = true) (c : XCls X.K C) (hk : kitAny X.K (.ref C) (cs.map .ref) = some b) :
    CallR X (.builtin "isinstance") (fun xs H Q => ∃ tp, xs = [.ref ea, .ref tp] ∧ H tp = some (.tup (cs.map .ref)) ∧ Q (.bl b) H) := by
  intro pins s σ H Q us vs I rv h
  obtain ⟨tp, rfl, ht, q⟩ := h
  cases rv with
  | cons r1 rv =>
    cases rv with
    | cons r2 rv =>
      cases rv
      cases (show _ = Value.ref ea from r1)
      cases (show _ = Value.ref tp from r2)
      have hpin := I.pin (ea, oe) (List.mem_append_left _ hp)
      obtain ⟨_, its, rits, o, h1, h2, n, h3⟩ := (show ObjOk X.prog X.w H s.heap tp (.tup (cs.map .ref)) from I.hok tp _ ht)
      have hits : its = cs.map Value.ref := refs_val rits
      subst hits
      obtain ⟨oc, od, odt, osl⟩ := o
      cases h2
      cases h3
      exact kia_tup (kitx_exc c) I.kIn ⟨hpin.1, hc, hn, by rw [hd]; trivial⟩ h1 hk (fun z => nomatch z) fun tk => ⟨.bl b, H, I.tok _, rfl, q⟩
end
end L2
end
section
set_option Elab.async false
set_option linter.all false
set_option maxRecDepth 100000
namespace L2
open PySem PySem.Spec PyProof.Rows
theorem Inv.gone {X : Cx} {pins : List (Addr × Obj)} {σ : St} {H : Hp} {s : Shared} {h' : Heap} {m' : Str → Option Value} {t' : Nat} (I : Inv X pins σ H s) (hn : h'.Ns X.env.locals m') (hs : Heap.SameBut X.env.locals s.heap h') :
    Inv X pins (σ.map fun _ => none) H { s with heap := h', toks := t' } := by
  refine ⟨I.ok, I.os, I.bare, ⟨fun b o e n hb hx => ?_, fun b o e n hb hx => ?_, I.base.free, fun b o e hx => ?_, I.base.tups, I.base.frzs, I.base.tbls⟩, ⟨_, hn, fun j y v' e1 e2 e3 => ?_⟩, fun y c e => ?_, I.free, I.freeC, fun p hp => ?_, fun b ob e => ?_, by simpa using I.len⟩
  · exact (hs.2 b (Nat.ne_of_lt (Nat.lt_of_lt_of_le (Heap.lt_size e) I.ok.above))).trans (I.base.keep b o e n hb hx)
  · obtain ⟨sl, e1⟩ := I.base.slot b o e n hb hx
    exact ⟨sl, (hs.2 b (Nat.ne_of_lt (Nat.lt_of_lt_of_le (Heap.lt_size e) I.ok.above))).trans e1⟩
  · obtain ⟨o', e1⟩ := I.base.there b o e hx
    exact ⟨o', (hs.2 b (Nat.ne_of_lt (Nat.lt_of_lt_of_le (Heap.lt_size e) I.ok.above))).trans e1⟩
  · rw [List.getElem?_map] at e2
    cases q : σ[j]? with
    | none => rw [q] at e2; cases e2
    | some z => rw [q] at e2; cases e2
  · obtain ⟨w', z⟩ := I.cell y c e
    exact ⟨w', z.sameBut hs (I.cne y c e)⟩
  · obtain ⟨e, n, ne, nf, d⟩ := I.pin p hp
    exact ⟨(hs.2 p.1 ne).trans e, n, ne, nf, d⟩
  · refine (I.hok b ob e).stay (fun c w' hc q => (hs.2 c ?_).trans q) (fun _ q => q) fun _ _ q => q
    rintro rfl
    rcases hc with rfl | hc
    · rw [I.free] at e; cases e
    · rw [I.free] at hc; cases hc
def tTryAs (sp : Sp) (ta : TA) (C : Addr) (i : Nat) (ts : Addr → TS) : TS := fun D σ H => ta σ H fun vs H1 => sp vs H1 (fun _ _ => False) (fun c _ H2 => c = .ref C ∧ ∀ ea, H2 ea = none → ts ea { nx := fun _ _ => False, rt := D.rt } (σ.set i (some (.ref ea))) H2)
section
variable {X : Cx} {k i : Nat} {f C D' : Addr} {fd : FuncData} {ps : List Str} {sp : Sp} {x cn n : Str} {p pos p1 np hp p2 : Pos} {e : Expr} {es : List Expr} {t : TA} {b₀ : Stmt} {suite : List Stmt} {ts : Addr → TS}
theorem ps_tryAs (F : FnOk X.prog X.w X.K X.mg X.base (CXr X.prog X.w) k f fd ps sp) (hr : Room k X.A) (hg : Gl X x) (hm : X.mg x = some (.ref f)) (hk : PySem.W.keepIn X.K (.ref f) = true)
    (hb : Binds X.K fd ps []) (ha : PA X.nox (e :: es) t) (hst : X.stack = X.env :: X.outer ∧ X.env.frame = some X.env.locals) (hgD : Gl X cn) (hmD : X.mg cn = some (.ref D')) (hC : Catches X.K C D')
    (hN : X.N.Nodup) (hi : X.N[i]? = some n) (hl : X.env.scope.names.lookup n = some .local)
    (hsu : ∀ ea oe, oe.cls = .ref C → oe.dict = none → PySem.W.notCls oe = true → PSs (X.within ea oe) (b₀ :: suite) (ts ea))
    (hdb : (x == ("__debug__" : Str)) = false := by decide) (hdc : (cn == ("__debug__" : Str)) = false := by decide) (he : starEach (e :: es) X.env = (false, eval e X.env) :: starEach es X.env := by rfl) (hpl : (backTo pos (starEach es X.env)).any (·.1) = false := by rfl)
    (hs : swapsWith (.Call (.Name x p) (e :: es) [] pos) none p1.line X.env = pure false := by rfl) :
    PS X (.Try [.Expr (.Call (.Name x p) (e :: es) [] pos) p1] [.ExceptHandler (some (.Name cn np)) (some n) (b₀ :: suite) hp] [] [] p2) (tTryAs sp t C i ts) := by
  intro pins s σ H D I h
  refine wpAny_Try_except (try_call F hr hg hm hk hb ha I h (fun s1 H1 H2 s3 ea C' J g hE => ?_) hdb he hpl hs)
  obtain ⟨hc, hts⟩ := hE
  cases hc
  refine g.lands J hst J.ok.frames fun s4 g4 => ?_
  obtain ⟨oe, hpin, hcls, hdict, hnc⟩ := g4.pin J
  have W4 := (g4.inv J).within hpin
  refine wpAny_handleBy_cons (codeAny_handlers_test ?_) (by intro q; cases q)
  refine ld_glob (X := X.within ea oe) W4 hgD hmD ?_ hdc
  refine exc_match W4.kIn hpin.1 hcls hC.ty hC.cl hC.sub hC.exc ?_
  simp only [if_true]
  refine codeAny_handlers_suite_as (g4.again J fun s5 g5 => ?_)
  obtain ⟨oe5, hpin5, hcls5, hdict5, hnc5⟩ := g5.pin J
  refine store_ok (X := X.within ea oe5) (v := .ref ea) ((g5.inv J).within hpin5) hN hi (.inl hl) rfl (fun s6 I6 => ?_) (.inr hl)
  refine wpAny_mono (hsu ea oe5 hcls5 hdict5 hnc5 pins s6 (σ.set i (some (.ref ea))) H2 _ I6 (hts ea hpin5.2.1)) (fun fl s7 q => ?_) fun _ _ z => False.elim z
  cases fl with
  | next => obtain ⟨_, _, _, z⟩ := q; exact z.elim
  | brk => obtain ⟨_, _, _, z⟩ := q; exact z.elim
  | cont => obtain ⟨_, _, _, z⟩ := q; exact z.elim
  | ret u =>
    obtain ⟨v, σ', H', I7, rv, z⟩ := q
    have J7 := I7.without J.ok
    obtain ⟨m, hm7, _⟩ := id J7.loc
    refine wpAny_nameGoes hl hm7 (by rw [J.ok.kind]; rfl) fun h' m' hn' hs' => ?_
    exact ⟨v, _, H', J7.gone hn' hs', rv, z⟩
end
end L2
end
section
set_option Elab.async false
set_option linter.all false
set_option maxRecDepth 100000
namespace L2
open PySem PySem.Spec PyProof.Rows
def spX (p : List V → Prop) (C : Addr) : Sp := fun vs H _ E => p vs ∧ E (.ref C) none H
theorem pss_false {X : Cx} {ss : List Stmt} : PSs X ss (fun _ _ _ => False) := fun _ _ _ _ _ _ h => h.elim
theorem Fun.okX {P : Program} {w : World} {K : PySem.W.Frag} {mg : Str → Option Value} {base : Heap} {x qual : Str} {st : Stmt} {f : Addr} {fd : FuncData} {N ps : List Str} {k : Nat} {sp : Sp} (F : Fun K x qual st f fd) (S : FnScope N ps (defScope st)) (len : ∀ vs H Q E, sp vs H Q E → vs.length = ps.length)
    (hbody : ∀ (cdv : Value) (A : Around) (outer : List Env) (s : Shared) (H : Hp) (vs : List V) (Q : VK) (E : XK), Room k (A.deeper (envOfC qual (defScope st) s.heap.objs.size f cdv)) → sp vs H Q E →
      ∃ t, PSs (cxOf (CXr P w) P w K mg base N qual (defScope st) f cdv A outer s H E) (defBody st) t ∧ t { nx := fun _ H' => Q .non H', rt := Q } (start N vs) H) : FnOk P w K mg base (CXr P w) (k + 1) f fd ps sp := by
  obtain ⟨oc, od, kV, doc, pm, an, cdv, ct, osl, rfl, lk, hcd⟩ := F.ex
  exact fn_of lk hcd S len fun A outer s H vs Q E hr hsp => hbody cdv A outer s H vs Q E hr hsp
end L2
namespace DL
open PySem L2
instance {i j : Int} : Decidable (CDivM i j) := by unfold CDivM Bd; infer_instance
def fDivM := fC CDivM fun i j => .int (i.fdiv j)
theorem o_divM {K : PySem.W.Frag} : OR K false (rI CDivM fun i j => .int (i.fdiv j)) fDivM := or_C fun _ _ _ => rfl
end DL
end
set_option Elab.async false
set_option linter.all false
set_option maxRecDepth 100000
set_option maxHeartbeats 2000000
namespace My
open PySem L2 DL
local macro_rules | `(tactic| walk_at "zz") => `(tactic| first | rfl | (intro _; rfl) | exact .inl rfl | exact .inr rfl | with_unfolding_all rfl | decide | assumption)
local macro_rules | `(tactic| walk_at "dk") => `(tactic| decide +kernel)
def top (i : Nat) : Stmt := PySem.Challenge.pw_scenemend_k01_fractions_made.main.body.getD i (.Pass ⟨0, 0, 0, 0⟩)
theorem dbg__law_at : (("_law_at" : Str) == ("__debug__" : Str)) = false := by decide +kernel
theorem cls__law_at : (("_law_at" : Str) == ("__classdict__" : Str)) = false := by decide +kernel
theorem dbg__law_big : (("_law_big" : Str) == ("__debug__" : Str)) = false := by decide +kernel
theorem dbg__law_big_here : (("_law_big_here" : Str) == ("__debug__" : Str)) = false := by decide +kernel
theorem cls__law_big_here : (("_law_big_here" : Str) == ("__classdict__" : Str)) = false := by decide +kernel
theorem dbg__law_bottom : (("_law_bottom" : Str) == ("__debug__" : Str)) = false := by decide +kernel
theorem cls__law_bottom : (("_law_bottom" : Str) == ("__classdict__" : Str)) = false := by decide +kernel
theorem dbg__law_by : (("_law_by" : Str) == ("__debug__" : Str)) = false := by decide +kernel
theorem cls__law_by : (("_law_by" : Str) == ("__classdict__" : Str)) = false := by decide +kernel
theorem dbg__law_cell : (("_law_cell" : Str) == ("__debug__" : Str)) = false := by decide +kernel
theorem cls__law_cell : (("_law_cell" : Str) == ("__classdict__" : Str)) = false := by decide +kernel
theorem dbg__law_cell_at : (("_law_cell_at" : Str) == ("__debug__" : Str)) = false := by decide +kernel
theorem dbg__law_digit : (("_law_digit" : Str) == ("__debug__" : Str)) = false := by decide +kernel
theorem dbg__law_digit_here : (("_law_digit_here" : Str) == ("__debug__" : Str)) = false := by decide +kernel
theorem cls__law_digit_here : (("_law_digit_here" : Str) == ("__classdict__" : Str)) = false := by decide +kernel
theorem dbg__law_divides : (("_law_divides" : Str) == ("__debug__" : Str)) = false := by decide +kernel
theorem dbg__law_found : (("_law_found" : Str) == ("__debug__" : Str)) = false := by decide +kernel
theorem cls__law_found : (("_law_found" : Str) == ("__classdict__" : Str)) = false := by decide +kernel
theorem dbg__law_k : (("_law_k" : Str) == ("__debug__" : Str)) = false := by decide +kernel
theorem cls__law_k : (("_law_k" : Str) == ("__classdict__" : Str)) = false := by decide +kernel
theorem dbg__law_kind : (("_law_kind" : Str) == ("__debug__" : Str)) = false := by decide +kernel
theorem cls__law_kind : (("_law_kind" : Str) == ("__classdict__" : Str)) = false := by decide +kernel
theorem dbg__law_many : (("_law_many" : Str) == ("__debug__" : Str)) = false := by decide +kernel
theorem cls__law_many : (("_law_many" : Str) == ("__classdict__" : Str)) = false := by decide +kernel
theorem dbg__law_number : (("_law_number" : Str) == ("__debug__" : Str)) = false := by decide +kernel
theorem dbg__law_one : (("_law_one" : Str) == ("__debug__" : Str)) = false := by decide +kernel
theorem cls__law_one : (("_law_one" : Str) == ("__classdict__" : Str)) = false := by decide +kernel
theorem dbg__law_other : (("_law_other" : Str) == ("__debug__" : Str)) = false := by decide +kernel
theorem cls__law_other : (("_law_other" : Str) == ("__classdict__" : Str)) = false := by decide +kernel
theorem dbg__law_part : (("_law_part" : Str) == ("__debug__" : Str)) = false := by decide +kernel
theorem cls__law_part : (("_law_part" : Str) == ("__classdict__" : Str)) = false := by decide +kernel
theorem dbg__law_prime : (("_law_prime" : Str) == ("__debug__" : Str)) = false := by decide +kernel
theorem cls__law_prime : (("_law_prime" : Str) == ("__classdict__" : Str)) = false := by decide +kernel
theorem dbg__law_refused : (("_law_refused" : Str) == ("__debug__" : Str)) = false := by decide +kernel
theorem dbg__law_rest : (("_law_rest" : Str) == ("__debug__" : Str)) = false := by decide +kernel
theorem cls__law_rest : (("_law_rest" : Str) == ("__classdict__" : Str)) = false := by decide +kernel
theorem dbg__law_right : (("_law_right" : Str) == ("__debug__" : Str)) = false := by decide +kernel
theorem dbg__law_script : (("_law_script" : Str) == ("__debug__" : Str)) = false := by decide +kernel
theorem cls__law_script : (("_law_script" : Str) == ("__classdict__" : Str)) = false := by decide +kernel
theorem dbg__law_sign : (("_law_sign" : Str) == ("__debug__" : Str)) = false := by decide +kernel
theorem cls__law_sign : (("_law_sign" : Str) == ("__classdict__" : Str)) = false := by decide +kernel
theorem dbg__law_told : (("_law_told" : Str) == ("__debug__" : Str)) = false := by decide +kernel
theorem cls__law_told : (("_law_told" : Str) == ("__classdict__" : Str)) = false := by decide +kernel
theorem dbg__law_top : (("_law_top" : Str) == ("__debug__" : Str)) = false := by decide +kernel
theorem cls__law_top : (("_law_top" : Str) == ("__classdict__" : Str)) = false := by decide +kernel
theorem dbg__law_whole : (("_law_whole" : Str) == ("__debug__" : Str)) = false := by decide +kernel
theorem dbg_abs : (("abs" : Str) == ("__debug__" : Str)) = false := by decide +kernel
theorem nam_abs : ("abs" : Str) ≠ "__name__" := by decide +kernel
theorem dbg_big : (("big" : Str) == ("__debug__" : Str)) = false := by decide +kernel
theorem cls_big : (("big" : Str) == ("__classdict__" : Str)) = false := by decide +kernel
theorem dbg_bool : (("bool" : Str) == ("__debug__" : Str)) = false := by decide +kernel
theorem nam_bool : ("bool" : Str) ≠ "__name__" := by decide +kernel
theorem dbg_bottom : (("bottom" : Str) == ("__debug__" : Str)) = false := by decide +kernel
theorem cls_bottom : (("bottom" : Str) == ("__classdict__" : Str)) = false := by decide +kernel
theorem dbg_common_divisor : (("common_divisor" : Str) == ("__debug__" : Str)) = false := by decide +kernel
theorem dbg_divisor : (("divisor" : Str) == ("__debug__" : Str)) = false := by decide +kernel
theorem cls_divisor : (("divisor" : Str) == ("__classdict__" : Str)) = false := by decide +kernel
theorem dbg_fraction : (("fraction" : Str) == ("__debug__" : Str)) = false := by decide +kernel
theorem dbg_int : (("int" : Str) == ("__debug__" : Str)) = false := by decide +kernel
theorem nam_int : ("int" : Str) ≠ "__name__" := by decide +kernel
theorem dbg_isinstance : (("isinstance" : Str) == ("__debug__" : Str)) = false := by decide +kernel
theorem nam_isinstance : ("isinstance" : Str) ≠ "__name__" := by decide +kernel
theorem dbg_len : (("len" : Str) == ("__debug__" : Str)) = false := by decide +kernel
theorem nam_len : ("len" : Str) ≠ "__name__" := by decide +kernel
theorem dbg_one : (("one" : Str) == ("__debug__" : Str)) = false := by decide +kernel
theorem cls_one : (("one" : Str) == ("__classdict__" : Str)) = false := by decide +kernel
theorem dbg_other : (("other" : Str) == ("__debug__" : Str)) = false := by decide +kernel
theorem cls_other : (("other" : Str) == ("__classdict__" : Str)) = false := by decide +kernel
theorem dbg_rest : (("rest" : Str) == ("__debug__" : Str)) = false := by decide +kernel
theorem cls_rest : (("rest" : Str) == ("__classdict__" : Str)) = false := by decide +kernel
theorem dbg_small : (("small" : Str) == ("__debug__" : Str)) = false := by decide +kernel
theorem cls_small : (("small" : Str) == ("__classdict__" : Str)) = false := by decide +kernel
theorem dbg_top : (("top" : Str) == ("__debug__" : Str)) = false := by decide +kernel
theorem cls_top : (("top" : Str) == ("__classdict__" : Str)) = false := by decide +kernel
theorem dbg_tuple : (("tuple" : Str) == ("__debug__" : Str)) = false := by decide +kernel
theorem nam_tuple : ("tuple" : Str) ≠ "__name__" := by decide +kernel
abbrev s_L_cell_at : Stmt := top 11
theorem sc_L_cell_at : FnScope ["_law_script", "_law_k"] ["_law_script", "_law_k"] (defScope s_L_cell_at) := ⟨rfl, rfl, rfl, by decide +kernel, rfl, by decide +kernel, by decide +kernel⟩
theorem n_L_cell_at_0 : L2.Loc (defScope s_L_cell_at) "_law_script" := by unfold L2.Loc; decide +kernel
theorem v_L_cell_at_0 : Vis (defScope s_L_cell_at) "_law_script" := n_L_cell_at_0.elim Or.inl fun h => Or.inr (Or.inl h)
theorem n_L_cell_at_1 : L2.Loc (defScope s_L_cell_at) "_law_k" := by unfold L2.Loc; decide +kernel
theorem v_L_cell_at_1 : Vis (defScope s_L_cell_at) "_law_k" := n_L_cell_at_1.elim Or.inl fun h => Or.inr (Or.inl h)
theorem g_L_cell_at_len : (defScope s_L_cell_at).names.lookup ("len" : Str) = some NameKind.globalImplicit := by decide +kernel
abbrev s_L_big : Stmt := top 12
theorem sc_L_big : FnScope ["_law_script", "_law_at", "_law_by", "_law_prime", "_law_cell", "_law_big_here", "_law_k", "_law_one"] ["_law_script", "_law_at"] (defScope s_L_big) := ⟨rfl, rfl, rfl, by decide +kernel, rfl, by decide +kernel, by decide +kernel⟩
theorem n_L_big_0 : L2.Loc (defScope s_L_big) "_law_script" := by unfold L2.Loc; decide +kernel
theorem v_L_big_0 : Vis (defScope s_L_big) "_law_script" := n_L_big_0.elim Or.inl fun h => Or.inr (Or.inl h)
theorem n_L_big_1 : L2.Loc (defScope s_L_big) "_law_at" := by unfold L2.Loc; decide +kernel
theorem v_L_big_1 : Vis (defScope s_L_big) "_law_at" := n_L_big_1.elim Or.inl fun h => Or.inr (Or.inl h)
theorem n_L_big_2 : L2.Loc (defScope s_L_big) "_law_by" := by unfold L2.Loc; decide +kernel
theorem v_L_big_2 : Vis (defScope s_L_big) "_law_by" := n_L_big_2.elim Or.inl fun h => Or.inr (Or.inl h)
theorem n_L_big_3 : L2.Loc (defScope s_L_big) "_law_prime" := by unfold L2.Loc; decide +kernel
theorem v_L_big_3 : Vis (defScope s_L_big) "_law_prime" := n_L_big_3.elim Or.inl fun h => Or.inr (Or.inl h)
theorem n_L_big_4 : L2.Loc (defScope s_L_big) "_law_cell" := by unfold L2.Loc; decide +kernel
theorem v_L_big_4 : Vis (defScope s_L_big) "_law_cell" := n_L_big_4.elim Or.inl fun h => Or.inr (Or.inl h)
theorem n_L_big_5 : L2.Loc (defScope s_L_big) "_law_big_here" := by unfold L2.Loc; decide +kernel
theorem v_L_big_5 : Vis (defScope s_L_big) "_law_big_here" := n_L_big_5.elim Or.inl fun h => Or.inr (Or.inl h)
theorem n_L_big_6 : L2.Loc (defScope s_L_big) "_law_k" := by unfold L2.Loc; decide +kernel
theorem v_L_big_6 : Vis (defScope s_L_big) "_law_k" := n_L_big_6.elim Or.inl fun h => Or.inr (Or.inl h)
theorem n_L_big_7 : L2.Loc (defScope s_L_big) "_law_one" := by unfold L2.Loc; decide +kernel
theorem v_L_big_7 : Vis (defScope s_L_big) "_law_one" := n_L_big_7.elim Or.inl fun h => Or.inr (Or.inl h)
theorem g_L_big__law_cell_at : (defScope s_L_big).names.lookup ("_law_cell_at" : Str) = some NameKind.globalImplicit := by decide +kernel
theorem g_L_big_range : (defScope s_L_big).names.lookup ("range" : Str) = some NameKind.globalImplicit := by decide +kernel
abbrev s_L_digit : Stmt := top 14
theorem sc_L_digit : FnScope ["_law_rest", "_law_many", "_law_digit_here"] ["_law_rest", "_law_many"] (defScope s_L_digit) := ⟨rfl, rfl, rfl, by decide +kernel, rfl, by decide +kernel, by decide +kernel⟩
theorem n_L_digit_0 : L2.Loc (defScope s_L_digit) "_law_rest" := by unfold L2.Loc; decide +kernel
theorem v_L_digit_0 : Vis (defScope s_L_digit) "_law_rest" := n_L_digit_0.elim Or.inl fun h => Or.inr (Or.inl h)
theorem n_L_digit_1 : L2.Loc (defScope s_L_digit) "_law_many" := by unfold L2.Loc; decide +kernel
theorem v_L_digit_1 : Vis (defScope s_L_digit) "_law_many" := n_L_digit_1.elim Or.inl fun h => Or.inr (Or.inl h)
theorem n_L_digit_2 : L2.Loc (defScope s_L_digit) "_law_digit_here" := by unfold L2.Loc; decide +kernel
theorem v_L_digit_2 : Vis (defScope s_L_digit) "_law_digit_here" := n_L_digit_2.elim Or.inl fun h => Or.inr (Or.inl h)
abbrev s_L_number : Stmt := top 15
theorem sc_L_number : FnScope ["_law_rest", "_law_kind", "_law_sign"] ["_law_rest"] (defScope s_L_number) := ⟨rfl, rfl, rfl, by decide +kernel, rfl, by decide +kernel, by decide +kernel⟩
theorem n_L_number_0 : L2.Loc (defScope s_L_number) "_law_rest" := by unfold L2.Loc; decide +kernel
theorem v_L_number_0 : Vis (defScope s_L_number) "_law_rest" := n_L_number_0.elim Or.inl fun h => Or.inr (Or.inl h)
theorem n_L_number_1 : L2.Loc (defScope s_L_number) "_law_kind" := by unfold L2.Loc; decide +kernel
theorem v_L_number_1 : Vis (defScope s_L_number) "_law_kind" := n_L_number_1.elim Or.inl fun h => Or.inr (Or.inl h)
theorem n_L_number_2 : L2.Loc (defScope s_L_number) "_law_sign" := by unfold L2.Loc; decide +kernel
theorem v_L_number_2 : Vis (defScope s_L_number) "_law_sign" := n_L_number_2.elim Or.inl fun h => Or.inr (Or.inl h)
theorem g_L_number__law_digit : (defScope s_L_number).names.lookup ("_law_digit" : Str) = some NameKind.globalImplicit := by decide +kernel
abbrev s_common_divisor : Stmt := top 8
theorem sc_common_divisor : FnScope ["one", "other", "big", "small", "rest"] ["one", "other"] (defScope s_common_divisor) := ⟨rfl, rfl, rfl, by decide +kernel, rfl, by decide +kernel, by decide +kernel⟩
theorem n_common_divisor_0 : L2.Loc (defScope s_common_divisor) "one" := by unfold L2.Loc; decide +kernel
theorem v_common_divisor_0 : Vis (defScope s_common_divisor) "one" := n_common_divisor_0.elim Or.inl fun h => Or.inr (Or.inl h)
theorem n_common_divisor_1 : L2.Loc (defScope s_common_divisor) "other" := by unfold L2.Loc; decide +kernel
theorem v_common_divisor_1 : Vis (defScope s_common_divisor) "other" := n_common_divisor_1.elim Or.inl fun h => Or.inr (Or.inl h)
theorem n_common_divisor_2 : L2.Loc (defScope s_common_divisor) "big" := by unfold L2.Loc; decide +kernel
theorem v_common_divisor_2 : Vis (defScope s_common_divisor) "big" := n_common_divisor_2.elim Or.inl fun h => Or.inr (Or.inl h)
theorem n_common_divisor_3 : L2.Loc (defScope s_common_divisor) "small" := by unfold L2.Loc; decide +kernel
theorem v_common_divisor_3 : Vis (defScope s_common_divisor) "small" := n_common_divisor_3.elim Or.inl fun h => Or.inr (Or.inl h)
theorem n_common_divisor_4 : L2.Loc (defScope s_common_divisor) "rest" := by unfold L2.Loc; decide +kernel
theorem v_common_divisor_4 : Vis (defScope s_common_divisor) "rest" := n_common_divisor_4.elim Or.inl fun h => Or.inr (Or.inl h)
theorem g_common_divisor_abs : (defScope s_common_divisor).names.lookup ("abs" : Str) = some NameKind.globalImplicit := by decide +kernel
abbrev s_fraction : Stmt := top 9
theorem sc_fraction : FnScope ["top", "bottom", "divisor"] ["top", "bottom"] (defScope s_fraction) := ⟨rfl, rfl, rfl, by decide +kernel, rfl, by decide +kernel, by decide +kernel⟩
theorem n_fraction_0 : L2.Loc (defScope s_fraction) "top" := by unfold L2.Loc; decide +kernel
theorem v_fraction_0 : Vis (defScope s_fraction) "top" := n_fraction_0.elim Or.inl fun h => Or.inr (Or.inl h)
theorem n_fraction_1 : L2.Loc (defScope s_fraction) "bottom" := by unfold L2.Loc; decide +kernel
theorem v_fraction_1 : Vis (defScope s_fraction) "bottom" := n_fraction_1.elim Or.inl fun h => Or.inr (Or.inl h)
theorem n_fraction_2 : L2.Loc (defScope s_fraction) "divisor" := by unfold L2.Loc; decide +kernel
theorem v_fraction_2 : Vis (defScope s_fraction) "divisor" := n_fraction_2.elim Or.inl fun h => Or.inr (Or.inl h)
theorem g_fraction_common_divisor : (defScope s_fraction).names.lookup ("common_divisor" : Str) = some NameKind.globalImplicit := by decide +kernel
abbrev s_L_refused : Stmt := top 18
abbrev s_L_whole : Stmt := top 13
theorem sc_L_whole : FnScope ["_law_found"] ["_law_found"] (defScope s_L_whole) := ⟨rfl, rfl, rfl, by decide +kernel, rfl, by decide +kernel, by decide +kernel⟩
theorem n_L_whole_0 : L2.Loc (defScope s_L_whole) "_law_found" := by unfold L2.Loc; decide +kernel
theorem v_L_whole_0 : Vis (defScope s_L_whole) "_law_found" := n_L_whole_0.elim Or.inl fun h => Or.inr (Or.inl h)
theorem g_L_whole_bool : (defScope s_L_whole).names.lookup ("bool" : Str) = some NameKind.globalImplicit := by decide +kernel
theorem g_L_whole_isinstance : (defScope s_L_whole).names.lookup ("isinstance" : Str) = some NameKind.globalImplicit := by decide +kernel
theorem g_L_whole_int : (defScope s_L_whole).names.lookup ("int" : Str) = some NameKind.globalImplicit := by decide +kernel
abbrev s_L_divides : Stmt := top 16
theorem sc_L_divides : FnScope ["_law_one", "_law_other"] ["_law_one", "_law_other"] (defScope s_L_divides) := ⟨rfl, rfl, rfl, by decide +kernel, rfl, by decide +kernel, by decide +kernel⟩
theorem n_L_divides_0 : L2.Loc (defScope s_L_divides) "_law_one" := by unfold L2.Loc; decide +kernel
theorem v_L_divides_0 : Vis (defScope s_L_divides) "_law_one" := n_L_divides_0.elim Or.inl fun h => Or.inr (Or.inl h)
theorem l_L_divides_0 : (defScope s_L_divides).names.lookup ("_law_one" : Str) = some NameKind.local := by decide +kernel
theorem n_L_divides_1 : L2.Loc (defScope s_L_divides) "_law_other" := by unfold L2.Loc; decide +kernel
theorem v_L_divides_1 : Vis (defScope s_L_divides) "_law_other" := n_L_divides_1.elim Or.inl fun h => Or.inr (Or.inl h)
theorem l_L_divides_1 : (defScope s_L_divides).names.lookup ("_law_other" : Str) = some NameKind.local := by decide +kernel
abbrev s_L_right : Stmt := top 17
theorem sc_L_right : FnScope ["_law_top", "_law_bottom", "_law_told"] ["_law_top", "_law_bottom"] (defScope s_L_right) := ⟨rfl, rfl, rfl, by decide +kernel, rfl, by decide +kernel, by decide +kernel⟩
theorem n_L_right_0 : L2.Loc (defScope s_L_right) "_law_top" := by unfold L2.Loc; decide +kernel
theorem v_L_right_0 : Vis (defScope s_L_right) "_law_top" := n_L_right_0.elim Or.inl fun h => Or.inr (Or.inl h)
theorem n_L_right_1 : L2.Loc (defScope s_L_right) "_law_bottom" := by unfold L2.Loc; decide +kernel
theorem v_L_right_1 : Vis (defScope s_L_right) "_law_bottom" := n_L_right_1.elim Or.inl fun h => Or.inr (Or.inl h)
theorem n_L_right_2 : L2.Loc (defScope s_L_right) "_law_told" := by unfold L2.Loc; decide +kernel
theorem v_L_right_2 : Vis (defScope s_L_right) "_law_told" := n_L_right_2.elim Or.inl fun h => Or.inr (Or.inl h)
theorem g_L_right_fraction : (defScope s_L_right).names.lookup ("fraction" : Str) = some NameKind.globalImplicit := by decide +kernel
theorem g_L_right__law_whole : (defScope s_L_right).names.lookup ("_law_whole" : Str) = some NameKind.globalImplicit := by decide +kernel
theorem g_L_right_len : (defScope s_L_right).names.lookup ("len" : Str) = some NameKind.globalImplicit := by decide +kernel
theorem g_L_right_tuple : (defScope s_L_right).names.lookup ("tuple" : Str) = some NameKind.globalImplicit := by decide +kernel
theorem g_L_right_isinstance : (defScope s_L_right).names.lookup ("isinstance" : Str) = some NameKind.globalImplicit := by decide +kernel
theorem g_L_right_abs : (defScope s_L_right).names.lookup ("abs" : Str) = some NameKind.globalImplicit := by decide +kernel
theorem g_L_right__law_divides : (defScope s_L_right).names.lookup ("_law_divides" : Str) = some NameKind.globalImplicit := by decide +kernel
abbrev s_law : Stmt := top 19
theorem sc_law : FnScope ["_law_script", "_law_rest", "_law_k", "_law_top", "_law_bottom", "_law_part"] ["_law_script"] (defScope s_law) := ⟨rfl, rfl, rfl, by decide +kernel, rfl, by decide +kernel, by decide +kernel⟩
theorem n_law_0 : L2.Loc (defScope s_law) "_law_script" := by unfold L2.Loc; decide +kernel
theorem v_law_0 : Vis (defScope s_law) "_law_script" := n_law_0.elim Or.inl fun h => Or.inr (Or.inl h)
theorem n_law_1 : L2.Loc (defScope s_law) "_law_rest" := by unfold L2.Loc; decide +kernel
theorem v_law_1 : Vis (defScope s_law) "_law_rest" := n_law_1.elim Or.inl fun h => Or.inr (Or.inl h)
theorem n_law_2 : L2.Loc (defScope s_law) "_law_k" := by unfold L2.Loc; decide +kernel
theorem n_law_3 : L2.Loc (defScope s_law) "_law_top" := by unfold L2.Loc; decide +kernel
theorem v_law_3 : Vis (defScope s_law) "_law_top" := n_law_3.elim Or.inl fun h => Or.inr (Or.inl h)
theorem n_law_4 : L2.Loc (defScope s_law) "_law_bottom" := by unfold L2.Loc; decide +kernel
theorem v_law_4 : Vis (defScope s_law) "_law_bottom" := n_law_4.elim Or.inl fun h => Or.inr (Or.inl h)
theorem n_law_5 : L2.Loc (defScope s_law) "_law_part" := by unfold L2.Loc; decide +kernel
theorem v_law_5 : Vis (defScope s_law) "_law_part" := n_law_5.elim Or.inl fun h => Or.inr (Or.inl h)
theorem g_law__law_big : (defScope s_law).names.lookup ("_law_big" : Str) = some NameKind.globalImplicit := by decide +kernel
theorem g_law_range : (defScope s_law).names.lookup ("range" : Str) = some NameKind.globalImplicit := by decide +kernel
theorem g_law__law_number : (defScope s_law).names.lookup ("_law_number" : Str) = some NameKind.globalImplicit := by decide +kernel
theorem g_law__law_digit : (defScope s_law).names.lookup ("_law_digit" : Str) = some NameKind.globalImplicit := by decide +kernel
theorem g_law__law_right : (defScope s_law).names.lookup ("_law_right" : Str) = some NameKind.globalImplicit := by decide +kernel
theorem g_law__law_refused : (defScope s_law).names.lookup ("_law_refused" : Str) = some NameKind.globalImplicit := by decide +kernel
def m_L_cell_at : List L → Option (PyData × List L) := dFun false 2 0 (dSeq (dIfS (dTest (dOp fLt (dVar 1) (dLenC 0))) (dRet (dIxC 0 (dVar 1))) dNil) (dRet (dC (.int 0))))
def m_L_big : List L → Option (PyData × List L) := dFun false 2 6 (dSeq (dAsg (dTup (dACons (dC (.int 48271)) (dACons (dC (.int 69621)) (dACons (dC (.int 16807)) (dACons (dC (.int 39373)) (dACons (dC (.int 21401)) (dACons (dC (.int 60493)) (dACons (dC (.int 87721)) (dACons (dC (.int 31337)) dANil))))))))) (dN 2)) (dSeq (dAsg (dTup (dACons (dC (.int 99991)) (dACons (dC (.int 99989)) (dACons (dC (.int 99971)) (dACons (dC (.int 99961)) (dACons (dC (.int 99929)) (dACons (dC (.int 99923)) (dACons (dC (.int 99907)) (dACons (dC (.int 99901)) dANil))))))))) (dN 3)) (dSeq (dAsg (dCallC 0 m_L_cell_at (dACons (dVar 1) dANil)) (dN 4)) (dSeq (dIfS (dTest (dOp fGe (dVar 4) (dOp fPow (dC (.int 10)) (dC (.int 18))))) (dRet (dVar 4)) dNil) (dSeq (dAsg (dC (.int 0)) (dN 5)) (dSeq (dFor (dR1 (dACons (dC (.int 60)) dANil)) (dN 6) (dSeq (dAsg (dOp fAdd (dOp fAdd (dOp fMod (dCallC 0 m_L_cell_at (dACons (dOp fAdd (dVar 1) (dOp fMod (dVar 6) (dC (.int 9)))) dANil)) (dOp fPow (dC (.int 10)) (dC (.int 18)))) (dC (.int 1))) (dOp fMul (dVar 6) (dVar 6))) (dN 7)) (dAsg (dOp fAdd (dOp fMul (dVar 5) (dC (.int 7919))) (dOp fMod (dOp fMod (dOp fMul (dVar 7) (dOp fIxT (dVar 2) (dOp fMod (dVar 6) (dC (.int 8))))) (dOp fIxT (dVar 3) (dOp fMod (dVar 6) (dC (.int 8))))) (dC (.int 7919)))) (dN 5)))) (dRet (dVar 5))))))))
def m_L_digit : List L → Option (PyData × List L) := dFun false 2 1 (dSeq (dAsg (dBor 0 (dOp fMod (dOp fIxL (dVar 0) (dC (.int 0))) (dVar 1))) (dN 2)) (dSeq (dSetI 0 (dBor 0 (dOp fDiv (dOp fIxL (dVar 0) (dC (.int 0))) (dVar 1))) (dC (.int 0))) (dRet (dVar 2))))
def m_L_number : List L → Option (PyData × List L) := dFun false 1 2 (dSeq (dAsg (dCallM 0 m_L_digit (dACons (dC (.int 4)) dANil)) (dN 1)) (dSeq (dAsg (dOp fSub (dC (.int 1)) (dOp fMul (dC (.int 2)) (dCallM 0 m_L_digit (dACons (dC (.int 2)) dANil)))) (dN 2)) (dSeq (dIfS (dTest (dOp fEq (dVar 1) (dC (.int 0)))) (dRet (dOp fMul (dVar 2) (dCallM 0 m_L_digit (dACons (dOp fPow (dC (.int 10)) (dC (.int 60))) dANil)))) dNil) (dSeq (dIfS (dTest (dOp fEq (dVar 1) (dC (.int 1)))) (dRet (dC (.int 0))) dNil) (dRet (dOp fMul (dVar 2) (dCallM 0 m_L_digit (dACons (dC (.int 60)) dANil))))))))
def m_common_divisor : List L → Option (PyData × List L) := dFun false 2 3 (dSeq (dAsg (dApp fAbs (dACons (dVar 0) dANil)) (dN 2)) (dSeq (dAsg (dApp fAbs (dACons (dVar 1) dANil)) (dN 3)) (dSeq (dWhile (fuelI 3) (dTest (dOp fNe (dVar 3) (dC (.int 0)))) (dSeq (dAsg (dOp fMod (dVar 2) (dVar 3)) (dN 4)) (dSeq (dAsg (dVar 3) (dN 2)) (dAsg (dVar 4) (dN 3))))) (dRet (dVar 2)))))
def m_fraction : List L → Option (PyData × List L) := dFun false 2 1 (dSeq (dIfS (dTest (dOp fEq (dVar 1) (dC (.int 0)))) dNever dNil) (dSeq (dAsg (dCall m_common_divisor (dACons (dVar 0) (dACons (dVar 1) dANil))) (dN 2)) (dSeq (dIfS (dTest (dOp fLt (dVar 1) (dC (.int 0)))) (dAsg (dUn fNeg (dVar 2)) (dN 2)) dNil) (dRet (dTup (dACons (dOp fDivM (dVar 0) (dVar 2)) (dACons (dOp fDivM (dVar 1) (dVar 2)) dANil)))))))
def m_L_refused : List L → Option (PyData × List L)
  | [.d (.int n)] => some (.bool true, [.d (.int n)])
  | _ => none
def m_L_whole : List L → Option (PyData × List L) := dFun false 1 0 (dRet (dAnd (dIsi "int" (dVar 0)) (dNot (dIsi "bool" (dVar 0)))))
def m_L_divides : List L → Option (PyData × List L) := dFun false 2 0 (dSeq (dWhile (fuelI 1) (dTest (dOp fNe (dVar 1) (dC (.int 0)))) (dPar 0 1 (dACons (dVar 1) (dACons (dOp fMod (dVar 0) (dVar 1)) dANil)))) (dRet (dVar 0)))
def m_L_right : List L → Option (PyData × List L) := dFun false 2 1 (dSeq (dAsg (dCall m_fraction (dACons (dVar 0) (dACons (dVar 1) dANil))) (dN 2)) (dSeq (dIfS (dTOr (dTNot (dTest (dIsi "tuple" (dVar 2)))) (dTOr (dTest (dOp fNe (dApp fLen (dACons (dVar 2) dANil)) (dC (.int 2)))) (dTOr (dTNot (dTest (dCall m_L_whole (dACons (dOp fIxT (dVar 2) (dC (.int 0))) dANil)))) (dTNot (dTest (dCall m_L_whole (dACons (dOp fIxT (dVar 2) (dC (.int 1))) dANil))))))) (dRet (dC (.bool false))) dNil) (dSeq (dIfS (dTOr (dTest (dOp fLt (dOp fIxT (dVar 2) (dC (.int 1))) (dC (.int 1)))) (dTest (dOp fNe (dCall m_L_divides (dACons (dApp fAbs (dACons (dOp fIxT (dVar 2) (dC (.int 0))) dANil)) (dACons (dOp fIxT (dVar 2) (dC (.int 1))) dANil))) (dC (.int 1))))) (dRet (dC (.bool false))) dNil) (dRet (dOp fEq (dOp fMul (dOp fIxT (dVar 2) (dC (.int 0))) (dVar 1)) (dOp fMul (dOp fIxT (dVar 2) (dC (.int 1))) (dVar 0)))))))
def m_law : List L → Option (PyData × List L) := dFun false 1 5 (dSeq (dSetM 1 1 (dLst (dACons (dCallC 0 m_L_big (dACons (dC (.int 0)) dANil)) dANil))) (dSeq (dFor (dR1 (dACons (dC (.int 6)) dANil)) (dN 2) (dSeq (dAsg (dCallM 1 m_L_number dANil) (dN 3)) (dSeq (dAsg (dCallM 1 m_L_number dANil) (dN 4)) (dSeq (dAsg (dOp fAdd (dC (.int 1)) (dCallM 1 m_L_digit (dACons (dC (.int 40)) dANil))) (dN 5)) (dSeq (dIfS (dTOr (dTNot (dTest (dCall m_L_refused (dACons (dVar 3) dANil)))) (dTAnd (dTest (dOp fNe (dVar 4) (dC (.int 0)))) (dTNot (dTest (dCall m_L_right (dACons (dOp fMul (dVar 3) (dVar 5)) (dACons (dOp fMul (dVar 4) (dVar 5)) dANil))))))) (dRet (dC (.bool false))) dNil) (dIfS (dTAnd (dTest (dOp fNe (dVar 3) (dC (.int 0)))) (dTNot (dTest (dCall m_L_right (dACons (dVar 4) (dACons (dVar 3) dANil)))))) (dRet (dC (.bool false))) dNil)))))) (dRet (dC (.bool true)))))
theorem hu64 {k : Nat} {A : Around} (hr : Room k A) : A.units + 64 < cLine := hr.units
section
variable {P : Program} {w : World} {K : PySem.W.Frag} {mg : Str → Option Value} {base : Heap} {f : Addr} {fd : FuncData}
theorem ok_L_cell_at (F : Fun K "_law_cell_at" "_law_cell_at" s_L_cell_at f fd) (z_len : mg "len" = none) : FnOk P w K mg base CX0 1 f fd ["_law_script", "_law_k"] (spD K m_L_cell_at false) := by
  have nd := sc_L_cell_at.nd
  refine F.ok sc_L_cell_at (fun vs H Q E h => fn_len dFun_len h) (fun cdv A outer s H vs Q E hr h => ?_)
  exact ⟨_, (@pss_cons _ _ _ _ _ (@ps_if _ _ _ _ _ _ _ _ (@pt_cmpR _ _ _ _ _ _ _ _ (@op_lt _) (@pv _ 1 _ _ rfl v_L_cell_at_1 dbg__law_k cls__law_k) (@pe_callB _ _ _ _ _ _ _ _ _ (@call_len _) g_L_cell_at_len z_len PySem.boot_len (@pa_cons _ _ _ _ _ (@pv _ 0 _ _ rfl v_L_cell_at_0 dbg__law_script cls__law_script) (@pa_nil _) (by walk_at "zz")) nam_len dbg_len (by walk_at "zz") (by walk_at "zz")) (nomark _)) (@pss_one _ _ _ (@ps_ret _ _ _ _ (@pe_ix _ _ _ _ _ _ _ (@ix_list _) (@pv _ 0 _ _ rfl v_L_cell_at_0 dbg__law_script cls__law_script) (@pv _ 1 _ _ rfl v_L_cell_at_1 dbg__law_k cls__law_k) (fun _ _ => rfl)))) (@pss_nil _)) (@pss_one _ _ _ (@ps_ret _ _ _ _ (@pe_int _ _ _ _)))), fn_run (N := ["_law_script", "_law_k"]) (np := 2) (nl := 0) (b_seq (b_if (t_test (e_op o_lt e_var (e_lenC (i := 0)))) (b_ret (e_ixC (i := 0) e_var) (by decide)) b_nil) (b_ret e_int (by decide))) rfl h⟩
theorem ok_L_big (F : Fun K "_law_big" "_law_big" s_L_big f fd) (C_L_cell_at : Cal P w K mg base 1 "_law_cell_at" ["_law_script", "_law_k"] (spD K m_L_cell_at false)) (z_range : mg "range" = none) : FnOk P w K mg base CX0 2 f fd ["_law_script", "_law_at"] (spD K m_L_big false) := by
  have nd := sc_L_big.nd
  refine F.ok sc_L_big (fun vs H Q E h => fn_len dFun_len h) (fun cdv A outer s H vs Q E hr h => ?_)
  exact ⟨_, (@pss_cons _ _ _ _ _ (@ps_set _ _ 2 _ _ _ _ nd rfl n_L_big_2 (@pe_tup _ _ _ _ _ (@pa_cons _ _ _ _ _ (@pe_int _ _ _ _) (@pa_cons _ _ _ _ _ (@pe_int _ _ _ _) (@pa_cons _ _ _ _ _ (@pe_int _ _ _ _) (@pa_cons _ _ _ _ _ (@pe_int _ _ _ _) (@pa_cons _ _ _ _ _ (@pe_int _ _ _ _) (@pa_cons _ _ _ _ _ (@pe_int _ _ _ _) (@pa_cons _ _ _ _ _ (@pe_int _ _ _ _) (@pa_cons _ _ _ _ _ (@pe_int _ _ _ _) (@pa_nil _) (by walk_at "zz")) (by walk_at "zz")) (by walk_at "zz")) (by walk_at "zz")) (by walk_at "zz")) (by walk_at "zz")) (by walk_at "zz")) (by walk_at "zz"))) (by walk_at "zz") (by walk_at "zz")) (@pss_cons _ _ _ _ _ (@ps_set _ _ 3 _ _ _ _ nd rfl n_L_big_3 (@pe_tup _ _ _ _ _ (@pa_cons _ _ _ _ _ (@pe_int _ _ _ _) (@pa_cons _ _ _ _ _ (@pe_int _ _ _ _) (@pa_cons _ _ _ _ _ (@pe_int _ _ _ _) (@pa_cons _ _ _ _ _ (@pe_int _ _ _ _) (@pa_cons _ _ _ _ _ (@pe_int _ _ _ _) (@pa_cons _ _ _ _ _ (@pe_int _ _ _ _) (@pa_cons _ _ _ _ _ (@pe_int _ _ _ _) (@pa_cons _ _ _ _ _ (@pe_int _ _ _ _) (@pa_nil _) (by walk_at "zz")) (by walk_at "zz")) (by walk_at "zz")) (by walk_at "zz")) (by walk_at "zz")) (by walk_at "zz")) (by walk_at "zz")) (by walk_at "zz"))) (by walk_at "zz") (by walk_at "zz")) (@pss_cons _ _ _ _ _ (@ps_set _ _ 4 _ _ _ _ nd rfl n_L_big_4 (@pe_callC _ _ _ _ _ _ _ _ _ _ C_L_cell_at hr g_L_big__law_cell_at (@pa_cons _ _ _ _ _ (@pv _ 0 _ _ rfl v_L_big_0 dbg__law_script cls__law_script) (@pa_cons _ _ _ _ _ (@pv _ 1 _ _ rfl v_L_big_1 dbg__law_at cls__law_at) (@pa_nil _) (by walk_at "zz")) (by walk_at "zz")) dbg__law_cell_at (by walk_at "zz") (by walk_at "zz")) (by walk_at "zz") (by walk_at "zz")) (@pss_cons _ _ _ _ _ (@ps_if _ _ _ _ _ _ _ _ (@pt_cmpR _ _ _ _ _ _ _ _ (@op_ge _) (@pv _ 4 _ _ rfl v_L_big_4 dbg__law_cell cls__law_cell) (@pe_op _ _ _ _ _ _ _ _ (@op_pow _) (@pe_int _ _ _ _) (@pe_int _ _ _ _)) (nomark _)) (@pss_one _ _ _ (@ps_ret _ _ _ _ (@pv _ 4 _ _ rfl v_L_big_4 dbg__law_cell cls__law_cell))) (@pss_nil _)) (@pss_cons _ _ _ _ _ (@ps_set _ _ 5 _ _ _ _ nd rfl n_L_big_5 (@pe_int _ _ _ _) (by walk_at "zz") (by walk_at "zz")) (@pss_cons _ _ _ _ _ (@ps_for _ _ _ _ _ _ _ _ PassesOwn.never rfl (@pi_range1 _ _ _ _ _ _ g_L_big_range z_range (@pa_cons _ _ _ _ _ (@pe_int _ _ _ _) (@pa_nil _) (by walk_at "zz")) (by walk_at "zz")) (@pg_name _ _ 6 _ nd rfl n_L_big_6 (by walk_at "zz")) (@pss_cons _ _ _ _ _ (@ps_set _ _ 7 _ _ _ _ nd rfl n_L_big_7 (@pe_op _ _ _ _ _ _ _ _ (@op_add _) (@pe_op _ _ _ _ _ _ _ _ (@op_add _) (@pe_op _ _ _ _ _ _ _ _ (@op_mod _) (@pe_callC _ _ _ _ _ _ _ _ _ _ C_L_cell_at hr g_L_big__law_cell_at (@pa_cons _ _ _ _ _ (@pv _ 0 _ _ rfl v_L_big_0 dbg__law_script cls__law_script) (@pa_cons _ _ _ _ _ (@pe_op _ _ _ _ _ _ _ _ (@op_add _) (@pv _ 1 _ _ rfl v_L_big_1 dbg__law_at cls__law_at) (@pe_op _ _ _ _ _ _ _ _ (@op_mod _) (@pv _ 6 _ _ rfl v_L_big_6 dbg__law_k cls__law_k) (@pe_int _ _ _ _))) (@pa_nil _) (by walk_at "zz")) (by walk_at "zz")) dbg__law_cell_at (by walk_at "zz") (by walk_at "zz")) (@pe_op _ _ _ _ _ _ _ _ (@op_pow _) (@pe_int _ _ _ _) (@pe_int _ _ _ _))) (@pe_int _ _ _ _)) (@pe_op _ _ _ _ _ _ _ _ (@op_mulB _) (@pv _ 6 _ _ rfl v_L_big_6 dbg__law_k cls__law_k) (@pv _ 6 _ _ rfl v_L_big_6 dbg__law_k cls__law_k))) (by walk_at "zz") (by walk_at "zz")) (@pss_one _ _ _ (@ps_set _ _ 5 _ _ _ _ nd rfl n_L_big_5 (@pe_op _ _ _ _ _ _ _ _ (@op_add _) (@pe_op _ _ _ _ _ _ _ _ (@op_mulB _) (@pv _ 5 _ _ rfl v_L_big_5 dbg__law_big_here cls__law_big_here) (@pe_int _ _ _ _)) (@pe_op _ _ _ _ _ _ _ _ (@op_mod _) (@pe_op _ _ _ _ _ _ _ _ (@op_mod _) (@pe_op _ _ _ _ _ _ _ _ (@op_mulB _) (@pv _ 7 _ _ rfl v_L_big_7 dbg__law_one cls__law_one) (@pe_ix _ _ _ _ _ _ _ (@ix_tup _) (@pv _ 2 _ _ rfl v_L_big_2 dbg__law_by cls__law_by) (@pe_op _ _ _ _ _ _ _ _ (@op_mod _) (@pv _ 6 _ _ rfl v_L_big_6 dbg__law_k cls__law_k) (@pe_int _ _ _ _)) (fun _ _ => rfl))) (@pe_ix _ _ _ _ _ _ _ (@ix_tup _) (@pv _ 3 _ _ rfl v_L_big_3 dbg__law_prime cls__law_prime) (@pe_op _ _ _ _ _ _ _ _ (@op_mod _) (@pv _ 6 _ _ rfl v_L_big_6 dbg__law_k cls__law_k) (@pe_int _ _ _ _)) (fun _ _ => rfl))) (@pe_int _ _ _ _))) (by walk_at "zz") (by walk_at "zz")))) (by walk_at "zz")) (@pss_one _ _ _ (@ps_ret _ _ _ _ (@pv _ 5 _ _ rfl v_L_big_5 dbg__law_big_here cls__law_big_here))))))))), fn_run (N := ["_law_script", "_law_at", "_law_by", "_law_prime", "_law_cell", "_law_big_here", "_law_k", "_law_one"]) (np := 2) (nl := 6) (b_seq (b_asg (e_tup (a_cons e_int (a_cons e_int (a_cons e_int (a_cons e_int (a_cons e_int (a_cons e_int (a_cons e_int (a_cons e_int a_nil))))))))) g_name) (b_seq (b_asg (e_tup (a_cons e_int (a_cons e_int (a_cons e_int (a_cons e_int (a_cons e_int (a_cons e_int (a_cons e_int (a_cons e_int a_nil))))))))) g_name) (b_seq (b_asg (e_callC (i := 0) (a_cons e_var a_nil)) g_name) (b_seq (b_if (t_test (e_op o_ge e_var (e_op o_pow e_int e_int))) (b_ret e_var (by decide)) b_nil) (b_seq (b_asg e_int g_name) (b_seq (b_for (it_range1 (a_cons e_int a_nil)) g_name (b_seq (b_asg (e_op o_add (e_op o_add (e_op o_mod (e_callC (i := 0) (a_cons (e_op o_add e_var (e_op o_mod e_var e_int)) a_nil)) (e_op o_pow e_int e_int)) e_int) (e_op o_mul e_var e_var)) g_name) (b_asg (e_op o_add (e_op o_mul e_var e_int) (e_op o_mod (e_op o_mod (e_op o_mul e_var (e_op o_ixT e_var (e_op o_mod e_var e_int))) (e_op o_ixT e_var (e_op o_mod e_var e_int))) e_int)) g_name))) (b_ret e_var (by decide)))))))) rfl h⟩
theorem ok_L_digit (F : Fun K "_law_digit" "_law_digit" s_L_digit f fd) : FnOk P w K mg base CX0 1 f fd ["_law_rest", "_law_many"] (spD K m_L_digit false) := by
  have nd := sc_L_digit.nd
  refine F.ok sc_L_digit (fun vs H Q E h => fn_len dFun_len h) (fun cdv A outer s H vs Q E hr h => ?_)
  exact ⟨_, (@pss_cons _ _ _ _ _ (@ps_set _ _ 2 _ _ _ _ nd rfl n_L_digit_2 (@pe_op _ _ _ _ _ _ _ _ (@op_mod _) (@pe_ix _ _ _ _ _ _ _ (@ix_list _) (@pv _ 0 _ _ rfl v_L_digit_0 dbg__law_rest cls__law_rest) (@pe_int _ _ _ _) (fun _ _ => rfl)) (@pv _ 1 _ _ rfl v_L_digit_1 dbg__law_many cls__law_many)) (by walk_at "zz") (by walk_at "zz")) (@pss_cons _ _ _ _ _ (@ps_asg _ _ _ _ _ _ (@pe_op _ _ _ _ _ _ _ _ (@op_fdivB _) (@pe_ix _ _ _ _ _ _ _ (@ix_list _) (@pv _ 0 _ _ rfl v_L_digit_0 dbg__law_rest cls__law_rest) (@pe_int _ _ _ _) (fun _ _ => rfl)) (@pv _ 1 _ _ rfl v_L_digit_1 dbg__law_many cls__law_many)) (@pg_sub _ _ _ _ _ _ _ (@pv _ 0 _ _ rfl v_L_digit_0 dbg__law_rest cls__law_rest) (@pe_int _ _ _ _) (@set_list _) (by walk_at "zz")) (by walk_at "zz") (by walk_at "zz") (by walk_at "zz")) (@pss_one _ _ _ (@ps_ret _ _ _ _ (@pv _ 2 _ _ rfl v_L_digit_2 dbg__law_digit_here cls__law_digit_here))))), fn_run (N := ["_law_rest", "_law_many", "_law_digit_here"]) (np := 2) (nl := 1) (b_seq (b_asg (e_bor (i := 0) (e_op o_mod (e_op o_ixL e_var e_int) e_var)) g_name) (b_seq (b_setI (i := 0) (e_bor (i := 0) (e_op o_div (e_op o_ixL e_var e_int) e_var)) e_int) (b_ret e_var (by decide)))) rfl h⟩
theorem ok_L_number (F : Fun K "_law_number" "_law_number" s_L_number f fd) (C_L_digit : Cal P w K mg base 1 "_law_digit" ["_law_rest", "_law_many"] (spD K m_L_digit false)) : FnOk P w K mg base CX0 2 f fd ["_law_rest"] (spD K m_L_number false) := by
  have nd := sc_L_number.nd
  refine F.ok sc_L_number (fun vs H Q E h => fn_len dFun_len h) (fun cdv A outer s H vs Q E hr h => ?_)
  exact ⟨_, (@pss_cons _ _ _ _ _ (@ps_set _ _ 1 _ _ _ _ nd rfl n_L_number_1 (@pe_callC _ _ _ _ _ _ _ _ _ _ C_L_digit hr g_L_number__law_digit (@pa_cons _ _ _ _ _ (@pv _ 0 _ _ rfl v_L_number_0 dbg__law_rest cls__law_rest) (@pa_cons _ _ _ _ _ (@pe_int _ _ _ _) (@pa_nil _) (by walk_at "zz")) (by walk_at "zz")) dbg__law_digit (by walk_at "zz") (by walk_at "zz")) (by walk_at "zz") (by walk_at "zz")) (@pss_cons _ _ _ _ _ (@ps_set _ _ 2 _ _ _ _ nd rfl n_L_number_2 (@pe_op _ _ _ _ _ _ _ _ (@op_sub _) (@pe_int _ _ _ _) (@pe_op _ _ _ _ _ _ _ _ (@op_mulB _) (@pe_int _ _ _ _) (@pe_callC _ _ _ _ _ _ _ _ _ _ C_L_digit hr g_L_number__law_digit (@pa_cons _ _ _ _ _ (@pv _ 0 _ _ rfl v_L_number_0 dbg__law_rest cls__law_rest) (@pa_cons _ _ _ _ _ (@pe_int _ _ _ _) (@pa_nil _) (by walk_at "zz")) (by walk_at "zz")) dbg__law_digit (by walk_at "zz") (by walk_at "zz")))) (by walk_at "zz") (by walk_at "zz")) (@pss_cons _ _ _ _ _ (@ps_if _ _ _ _ _ _ _ _ (@pt_cmpR _ _ _ _ _ _ _ _ (@op_eqK _ (hu64 hr)) (@pv _ 1 _ _ rfl v_L_number_1 dbg__law_kind cls__law_kind) (@pe_int _ _ _ _) (nomark _)) (@pss_one _ _ _ (@ps_ret _ _ _ _ (@pe_op _ _ _ _ _ _ _ _ (@op_mulB _) (@pv _ 2 _ _ rfl v_L_number_2 dbg__law_sign cls__law_sign) (@pe_callC _ _ _ _ _ _ _ _ _ _ C_L_digit hr g_L_number__law_digit (@pa_cons _ _ _ _ _ (@pv _ 0 _ _ rfl v_L_number_0 dbg__law_rest cls__law_rest) (@pa_cons _ _ _ _ _ (@pe_op _ _ _ _ _ _ _ _ (@op_pow _) (@pe_int _ _ _ _) (@pe_int _ _ _ _)) (@pa_nil _) (by walk_at "zz")) (by walk_at "zz")) dbg__law_digit (by walk_at "zz") (by walk_at "zz"))))) (@pss_nil _)) (@pss_cons _ _ _ _ _ (@ps_if _ _ _ _ _ _ _ _ (@pt_cmpR _ _ _ _ _ _ _ _ (@op_eqK _ (hu64 hr)) (@pv _ 1 _ _ rfl v_L_number_1 dbg__law_kind cls__law_kind) (@pe_int _ _ _ _) (nomark _)) (@pss_one _ _ _ (@ps_ret _ _ _ _ (@pe_int _ _ _ _))) (@pss_nil _)) (@pss_one _ _ _ (@ps_ret _ _ _ _ (@pe_op _ _ _ _ _ _ _ _ (@op_mulB _) (@pv _ 2 _ _ rfl v_L_number_2 dbg__law_sign cls__law_sign) (@pe_callC _ _ _ _ _ _ _ _ _ _ C_L_digit hr g_L_number__law_digit (@pa_cons _ _ _ _ _ (@pv _ 0 _ _ rfl v_L_number_0 dbg__law_rest cls__law_rest) (@pa_cons _ _ _ _ _ (@pe_int _ _ _ _) (@pa_nil _) (by walk_at "zz")) (by walk_at "zz")) dbg__law_digit (by walk_at "zz") (by walk_at "zz"))))))))), fn_run (N := ["_law_rest", "_law_kind", "_law_sign"]) (np := 1) (nl := 2) (b_seq (b_asg (e_callM (i := 0) (a_cons e_int a_nil)) g_name) (b_seq (b_asg (e_op o_sub e_int (e_op o_mul e_int (e_callM (i := 0) (a_cons e_int a_nil)))) g_name) (b_seq (b_if (t_test (e_op o_eq e_var e_int)) (b_ret (e_op o_mul e_var (e_callM (i := 0) (a_cons (e_op o_pow e_int e_int) a_nil))) (by decide)) b_nil) (b_seq (b_if (t_test (e_op o_eq e_var e_int)) (b_ret e_int (by decide)) b_nil) (b_ret (e_op o_mul e_var (e_callM (i := 0) (a_cons e_int a_nil))) (by decide)))))) rfl h⟩
theorem ok_common_divisor (F : Fun K "common_divisor" "common_divisor" s_common_divisor f fd) (z_abs : mg "abs" = none) : FnOk P w K mg base CX0 1 f fd ["one", "other"] (spD K m_common_divisor false) := by
  have nd := sc_common_divisor.nd
  refine F.ok sc_common_divisor (fun vs H Q E h => fn_len dFun_len h) (fun cdv A outer s H vs Q E hr h => ?_)
  exact ⟨_, (@pss_cons _ _ _ _ _ (@ps_set _ _ 2 _ _ _ _ nd rfl n_common_divisor_2 (@pe_callB _ _ _ _ _ _ _ _ _ (@call_abs _) g_common_divisor_abs z_abs PyProof.Rows.boot_abs (@pa_cons _ _ _ _ _ (@pv _ 0 _ _ rfl v_common_divisor_0 dbg_one cls_one) (@pa_nil _) (by walk_at "zz")) nam_abs dbg_abs (by walk_at "zz") (by walk_at "zz")) (by walk_at "zz") (by walk_at "zz")) (@pss_cons _ _ _ _ _ (@ps_set _ _ 3 _ _ _ _ nd rfl n_common_divisor_3 (@pe_callB _ _ _ _ _ _ _ _ _ (@call_abs _) g_common_divisor_abs z_abs PyProof.Rows.boot_abs (@pa_cons _ _ _ _ _ (@pv _ 1 _ _ rfl v_common_divisor_1 dbg_other cls_other) (@pa_nil _) (by walk_at "zz")) nam_abs dbg_abs (by walk_at "zz") (by walk_at "zz")) (by walk_at "zz") (by walk_at "zz")) (@pss_cons _ _ _ _ _ (@ps_while _ _ _ _ _ _ PassesOwn.never (@pt_cmpR _ _ _ _ _ _ _ _ (@op_neK _ (hu64 hr)) (@pv _ 3 _ _ rfl v_common_divisor_3 dbg_small cls_small) (@pe_int _ _ _ _) (nomark _)) (@pss_cons _ _ _ _ _ (@ps_set _ _ 4 _ _ _ _ nd rfl n_common_divisor_4 (@pe_op _ _ _ _ _ _ _ _ (@op_mod _) (@pv _ 2 _ _ rfl v_common_divisor_2 dbg_big cls_big) (@pv _ 3 _ _ rfl v_common_divisor_3 dbg_small cls_small)) (by walk_at "zz") (by walk_at "zz")) (@pss_cons _ _ _ _ _ (@ps_set _ _ 2 _ _ _ _ nd rfl n_common_divisor_2 (@pv _ 3 _ _ rfl v_common_divisor_3 dbg_small cls_small) (by walk_at "zz") (by walk_at "zz")) (@pss_one _ _ _ (@ps_set _ _ 3 _ _ _ _ nd rfl n_common_divisor_3 (@pv _ 4 _ _ rfl v_common_divisor_4 dbg_rest cls_rest) (by walk_at "zz") (by walk_at "zz")))))) (@pss_one _ _ _ (@ps_ret _ _ _ _ (@pv _ 2 _ _ rfl v_common_divisor_2 dbg_big cls_big)))))), fn_run (N := ["one", "other", "big", "small", "rest"]) (np := 2) (nl := 3) (b_seq (b_asg (e_app c_abs (a_cons e_var a_nil)) g_name) (b_seq (b_asg (e_app c_abs (a_cons e_var a_nil)) g_name) (b_seq (b_while (t_test (e_op o_ne e_var e_int)) (b_seq (b_asg (e_op o_mod e_var e_var) g_name) (b_seq (b_asg e_var g_name) (b_asg e_var g_name)))) (b_ret e_var (by decide))))) rfl h⟩
theorem ok_fraction (F : Fun K "fraction" "fraction" s_fraction f fd) (C_common_divisor : Cal P w K mg base 1 "common_divisor" ["one", "other"] (spD K m_common_divisor false)) : FnOk P w K mg base CX0 2 f fd ["top", "bottom"] (spD K m_fraction false) := by
  have nd := sc_fraction.nd
  refine F.ok sc_fraction (fun vs H Q E h => fn_len dFun_len h) (fun cdv A outer s H vs Q E hr h => ?_)
  exact ⟨_, (@pss_cons _ _ _ _ _ (@ps_if _ _ _ _ _ _ _ _ (@pt_cmpR _ _ _ _ _ _ _ _ (@op_eqK _ (hu64 hr)) (@pv _ 1 _ _ rfl v_fraction_1 dbg_bottom cls_bottom) (@pe_int _ _ _ _) (nomark _)) (@pss_one _ _ _ (@ps_never _ _)) (@pss_nil _)) (@pss_cons _ _ _ _ _ (@ps_set _ _ 2 _ _ _ _ nd rfl n_fraction_2 (@pe_callC _ _ _ _ _ _ _ _ _ _ C_common_divisor hr g_fraction_common_divisor (@pa_cons _ _ _ _ _ (@pv _ 0 _ _ rfl v_fraction_0 dbg_top cls_top) (@pa_cons _ _ _ _ _ (@pv _ 1 _ _ rfl v_fraction_1 dbg_bottom cls_bottom) (@pa_nil _) (by walk_at "zz")) (by walk_at "zz")) dbg_common_divisor (by walk_at "zz") (by walk_at "zz")) (by walk_at "zz") (by walk_at "zz")) (@pss_cons _ _ _ _ _ (@ps_if _ _ _ _ _ _ _ _ (@pt_cmpR _ _ _ _ _ _ _ _ (@op_lt _) (@pv _ 1 _ _ rfl v_fraction_1 dbg_bottom cls_bottom) (@pe_int _ _ _ _) (nomark _)) (@pss_one _ _ _ (@ps_set _ _ 2 _ _ _ _ nd rfl n_fraction_2 (@pe_un _ _ _ _ _ _ (@un_neg _) (@pv _ 2 _ _ rfl v_fraction_2 dbg_divisor cls_divisor)) (by walk_at "zz") (by walk_at "zz"))) (@pss_nil _)) (@pss_one _ _ _ (@ps_ret _ _ _ _ (@pe_tup _ _ _ _ _ (@pa_cons _ _ _ _ _ (@pe_op _ _ _ _ _ _ _ _ (@op_fdivM _) (@pv _ 0 _ _ rfl v_fraction_0 dbg_top cls_top) (@pv _ 2 _ _ rfl v_fraction_2 dbg_divisor cls_divisor)) (@pa_cons _ _ _ _ _ (@pe_op _ _ _ _ _ _ _ _ (@op_fdivM _) (@pv _ 1 _ _ rfl v_fraction_1 dbg_bottom cls_bottom) (@pv _ 2 _ _ rfl v_fraction_2 dbg_divisor cls_divisor)) (@pa_nil _) (by walk_at "zz")) (by walk_at "zz")))))))), fn_run (N := ["top", "bottom", "divisor"]) (np := 2) (nl := 1) (b_seq (b_if (t_test (e_op o_eq e_var e_int)) b_never b_nil) (b_seq (b_asg (e_call (a_cons e_var (a_cons e_var a_nil))) g_name) (b_seq (b_if (t_test (e_op o_lt e_var e_int)) (b_asg (e_un u_neg e_var) g_name) b_nil) (b_ret (e_tup (a_cons (e_op o_divM e_var e_var) (a_cons (e_op o_divM e_var e_var) a_nil))) (by decide))))) rfl h⟩
theorem gx_fraction : (defScope s_fraction).names.lookup ("NoShare" : Str) = some NameKind.globalImplicit := by decide +kernel
theorem dbg_NoShare : (("NoShare" : Str) == ("__debug__" : Str)) = false := by decide +kernel
theorem ok_fractionX {C : Addr} (F : Fun K "fraction" "fraction" s_fraction f fd) (hm : mg "NoShare" = some (.ref C)) (hq : PySem.W.excIn K C [.type "ValueError", .type "Exception", .type "BaseException", .type "object"] "ValueError.__new__" = true) :
    FnOk P w K mg base (CXr P w) 2 f fd ["top", "bottom"] (spX (fun vs => ∃ n : Int, vs = [.int n, .int 0]) C) := by
  refine F.okX sc_fraction (fun vs H Q E h => by obtain ⟨⟨n, rfl⟩, _⟩ := h; rfl) (fun cdv A outer s H vs Q E hr h => ?_)
  obtain ⟨⟨n, rfl⟩, hE⟩ := h
  refine ⟨_, (@pss_cons _ _ _ _ _ (@ps_if _ _ _ _ _ _ _ _ (@pt_cmpR _ _ _ _ _ _ _ _ (@op_eq _) (@pv _ 1 _ _ rfl v_fraction_1 dbg_bottom cls_bottom) (@pe_int _ _ _ _) (nomark _)) (@pss_one _ _ _ (ps_raise (C := C) (E := E) (@pa_cons _ _ _ _ _ (@pe_str _ _ _ _) (@pa_nil _) (by walk_at "zz")) raises_cxOf gx_fraction hm hq PySem.F.excBase_ValueError hr.hd (by walk_at "zz") dbg_NoShare (by walk_at "zz"))) (@pss_nil _)) pss_false), ?_⟩
  refine ⟨.int 0, rfl, rfl, decide (V.int 0 = V.int 0), rfl, ?_⟩
  rw [decide_eq_true rfl]
  exact iteT ⟨by decide, hE⟩
theorem sc_L_refused : FnScope ["_law_top", "_law_own", "e"] ["_law_top"] (defScope s_L_refused) := ⟨rfl, rfl, rfl, by decide +kernel, rfl, by decide +kernel, by decide +kernel⟩
theorem gr_fraction : (defScope s_L_refused).names.lookup ("fraction" : Str) = some NameKind.globalImplicit := by decide +kernel
theorem gr_NoShare : (defScope s_L_refused).names.lookup ("NoShare" : Str) = some NameKind.globalImplicit := by decide +kernel
theorem gr_SceneError : (defScope s_L_refused).names.lookup ("SceneError" : Str) = some NameKind.globalImplicit := by decide +kernel
theorem gr_isinstance : (defScope s_L_refused).names.lookup ("isinstance" : Str) = some NameKind.globalImplicit := by decide +kernel
theorem gr_ValueError : (defScope s_L_refused).names.lookup ("ValueError" : Str) = some NameKind.globalImplicit := by decide +kernel
theorem gr_NoName : (defScope s_L_refused).names.lookup ("NoName" : Str) = some NameKind.globalImplicit := by decide +kernel
theorem gr_NoPart : (defScope s_L_refused).names.lookup ("NoPart" : Str) = some NameKind.globalImplicit := by decide +kernel
theorem gr_NoRow : (defScope s_L_refused).names.lookup ("NoRow" : Str) = some NameKind.globalImplicit := by decide +kernel
theorem gr_NoText : (defScope s_L_refused).names.lookup ("NoText" : Str) = some NameKind.globalImplicit := by decide +kernel
theorem dbx_fraction : (("fraction" : Str) == ("__debug__" : Str)) = false := by decide +kernel
theorem dbx_NoShare : (("NoShare" : Str) == ("__debug__" : Str)) = false := by decide +kernel
theorem dbx_SceneError : (("SceneError" : Str) == ("__debug__" : Str)) = false := by decide +kernel
theorem dbx_isinstance : (("isinstance" : Str) == ("__debug__" : Str)) = false := by decide +kernel
theorem dbx_ValueError : (("ValueError" : Str) == ("__debug__" : Str)) = false := by decide +kernel
theorem dbx_NoName : (("NoName" : Str) == ("__debug__" : Str)) = false := by decide +kernel
theorem dbx_NoPart : (("NoPart" : Str) == ("__debug__" : Str)) = false := by decide +kernel
theorem dbx_NoRow : (("NoRow" : Str) == ("__debug__" : Str)) = false := by decide +kernel
theorem dbx_NoText : (("NoText" : Str) == ("__debug__" : Str)) = false := by decide +kernel
theorem dbx__law_own : (("_law_own" : Str) == ("__debug__" : Str)) = false := by decide +kernel
theorem dbx_e : (("e" : Str) == ("__debug__" : Str)) = false := by decide +kernel
theorem clx__law_own : (("_law_own" : Str) == ("__classdict__" : Str)) = false := by decide +kernel
theorem clx_e : (("e" : Str) == ("__classdict__" : Str)) = false := by decide +kernel
theorem vr_0 : Vis (defScope s_L_refused) "_law_top" := by unfold Vis; decide +kernel
theorem vr_1 : Vis (defScope s_L_refused) "_law_own" := by unfold Vis; decide +kernel
theorem vr_2 : Vis (defScope s_L_refused) "e" := by unfold Vis; decide +kernel
theorem nr_1 : L2.Loc (defScope s_L_refused) "_law_own" := by unfold L2.Loc; decide +kernel
theorem lr_2 : (defScope s_L_refused).names.lookup ("e" : Str) = some NameKind.local := by decide +kernel
theorem bi_isi : bootBuiltins "isinstance" = some (.builtin "isinstance") := by first | rfl | decide +kernel
theorem bi_VE : bootBuiltins "ValueError" = some (.type "ValueError") := by first | rfl | decide +kernel
theorem nm_isi : ("isinstance" : Str) ≠ "__name__" := by decide +kernel
theorem nm_VE : ("ValueError" : Str) ≠ "__name__" := by decide +kernel
theorem m_refused_of {ls ls' : List L} {r : PyData} (h : m_L_refused ls = some (r, ls')) : ∃ n : Int, ls = [.d (.int n)] ∧ r = .bool true ∧ ls' = ls := by
  unfold m_L_refused at h
  split at h
  · cases h; exact ⟨_, rfl, rfl, rfl⟩
  · cases h
theorem ok_L_refused {C D c1 c2 c3 c4 ff : Addr} {ffd : FuncData} (F : Fun K "_law_refused" "_law_refused" s_L_refused f fd) (CF : FnOk P w K mg base (CXr P w) 2 ff ffd ["top", "bottom"] (spX (fun vs => ∃ n : Int, vs = [.int n, .int 0]) C))
    (mf : mg "fraction" = some (.ref ff)) (kf : PySem.W.keepIn K (.ref ff) = true) (bf : Binds K ffd ["top", "bottom"] []) (mC : mg "NoShare" = some (.ref C)) (mD : mg "SceneError" = some (.ref D))
    (m1 : mg "NoName" = some (.ref c1)) (m2 : mg "NoPart" = some (.ref c2)) (m3 : mg "NoRow" = some (.ref c3)) (m4 : mg "NoText" = some (.ref c4)) (t1 : Catches K C C) (t2 : Catches K C D) (xc : XCls K C)
    (k1 : PySem.W.kitOne K (.ref C) (.type "ValueError") = some true) (k2 : PySem.W.kitAny K (.ref C) [.ref c1, .ref c2, .ref c3, .ref c4] = some false) (zi : mg "isinstance" = none) (zv : mg "ValueError" = none) :
    FnOk P w K mg base CX0 3 f fd ["_law_top"] (spD K m_L_refused false) := by
  have nd := sc_L_refused.nd
  refine F.ok sc_L_refused (fun vs H Q E h => ?_) (fun cdv A outer s H vs Q E hr h => ?_)
  · obtain ⟨S, M, ls, r, ls', hR, hG, _⟩ := h
    obtain ⟨n, rfl, _⟩ := m_refused_of hG
    have := hR.len
    simpa using this
  obtain ⟨S, M, ls, r, ls', hR, hG, hq⟩ := h
  obtain ⟨n, rfl, rfl, rfl⟩ := m_refused_of hG
  obtain ⟨v, hv, hi⟩ := hR.dat 0 (.int n) rfl
  cases (show v = .int n from hi)
  have hvs : vs = [.int n] := by
    match vs, hv, hR.len with
    | [x], hv, _ => cases hv; rfl
    | [], hv, _ => cases hv
    | _ :: _ :: _, _, hl => simp at hl
  subst hvs
  have one : ∀ {X : Cx} {x : Stmt} {u : TS}, PS X x u → PSs X [x] u := fun h => pss_one h
  refine ⟨_, @pss_cons _ _ _ _ _ (@ps_set _ _ 1 _ _ _ _ nd rfl nr_1 (@pe_bl _ _ _ _) (by walk_at "zz") (by walk_at "zz"))
    (@pss_cons _ _ _ _ _ (ps_try (C := C) CF hr gr_fraction mf kf bf (@pa_cons _ _ _ _ _ (@pv _ 0 _ _ rfl vr_0 dbg__law_top cls__law_top) (@pa_cons _ _ _ _ _ (@pe_int _ _ _ _) (@pa_nil _) (by walk_at "zz")) (by walk_at "zz")) ⟨rfl, rfl⟩ gr_NoShare mC t1
        (fun ea oe _ _ _ => one (@ps_set _ _ 1 _ _ _ _ nd rfl nr_1 (@pe_bl _ _ _ _) (by walk_at "zz") (by walk_at "zz"))) dbx_fraction dbx_NoShare (by walk_at "zz") (by walk_at "zz") (by walk_at "zz"))
    (@pss_cons _ _ _ _ _ (ps_tryAs (C := C) (i := 2) CF hr gr_fraction mf kf bf (@pa_cons _ _ _ _ _ (@pv _ 0 _ _ rfl vr_0 dbg__law_top cls__law_top) (@pa_cons _ _ _ _ _ (@pe_int _ _ _ _) (@pa_nil _) (by walk_at "zz")) (by walk_at "zz")) ⟨rfl, rfl⟩ gr_SceneError mD t2 nd rfl lr_2
        (fun ea oe hc hd hn => one (ps_ret (pe_and (@pv _ 1 _ _ rfl vr_1 dbx__law_own clx__law_own) (pe_and
          (pe_callB (call_isiX (ea := ea) (oe := oe) (C := C) (T := "ValueError") (List.mem_append_right _ (List.mem_singleton.mpr rfl)) hc hd hn xc k1) gr_isinstance zi bi_isi (@pa_cons _ _ _ _ _ (@pv _ 2 _ _ rfl vr_2 dbx_e clx_e) (@pa_cons _ _ _ _ _ (pe_bltn (v := .ty "ValueError") gr_ValueError zv bi_VE rfl nm_VE dbx_ValueError) (@pa_nil _) (by walk_at "zz")) (by walk_at "zz")) nm_isi dbx_isinstance)
          (pe_one (pe_not (pe_callB (call_isiXT (ea := ea) (oe := oe) (C := C) (cs := [c1, c2, c3, c4]) (List.mem_append_right _ (List.mem_singleton.mpr rfl)) hc hd hn xc k2) gr_isinstance zi bi_isi (@pa_cons _ _ _ _ _ (@pv _ 2 _ _ rfl vr_2 dbx_e clx_e) (@pa_cons _ _ _ _ _
            (pe_tup (@pa_cons _ _ _ _ _ (pe_glob (v := .ref c1) gr_NoName m1 rfl dbx_NoName) (@pa_cons _ _ _ _ _ (pe_glob (v := .ref c2) gr_NoPart m2 rfl dbx_NoPart) (@pa_cons _ _ _ _ _ (pe_glob (v := .ref c3) gr_NoRow m3 rfl dbx_NoRow) (@pa_cons _ _ _ _ _ (pe_glob (v := .ref c4) gr_NoText m4 rfl dbx_NoText) (@pa_nil _) (by walk_at "zz")) (by walk_at "zz")) (by walk_at "zz")) (by walk_at "zz")))
            (@pa_nil _) (by walk_at "zz")) (by walk_at "zz")) nm_isi dbx_isinstance))))))) dbx_fraction dbx_SceneError (by walk_at "zz") (by walk_at "zz") (by walk_at "zz"))
    (@pss_one _ _ _ (@ps_ret _ _ _ _ (@pe_bl _ _ _ _))))), ?_⟩
  refine ⟨.int n, rfl, ⟨n, rfl⟩, rfl, fun ea _ => ?_⟩
  refine ⟨.int n, rfl, ⟨n, rfl⟩, rfl, fun ea2 _ => ?_⟩
  refine ⟨.bl true, rfl, true, rfl, iteT ?_⟩
  refine ⟨.ref ea2, rfl, rfl, true, rfl, iteT ?_⟩
  refine ⟨.ref ea2, rfl, (by decide : 4 ≤ sizeLine), fun p hp => ⟨p, rfl, upd_same, false, rfl, ?_⟩⟩
  have sm := same_new hp (HO.tup [V.ref c1, V.ref c2, V.ref c3, V.ref c4])
  exact hq _ _ (hR.same sm) (.of sm) rfl
theorem ok_L_whole (F : Fun K "_law_whole" "_law_whole" s_L_whole f fd) (z_bool : mg "bool" = none) (z_isinstance : mg "isinstance" = none) (z_int : mg "int" = none) : FnOk P w K mg base CX0 1 f fd ["_law_found"] (spD K m_L_whole false) := by
  have nd := sc_L_whole.nd
  refine F.ok sc_L_whole (fun vs H Q E h => fn_len dFun_len h) (fun cdv A outer s H vs Q E hr h => ?_)
  exact ⟨_, (@pss_one _ _ _ (@ps_ret _ _ _ _ (@pe_and _ _ _ _ _ _ _ (@pe_callB _ _ _ _ _ _ _ _ _ (@call_isiK _) g_L_whole_isinstance z_isinstance PyProof.Rows.boot_isinstance (@pa_cons _ _ _ _ _ (@pv _ 0 _ _ rfl v_L_whole_0 dbg__law_found cls__law_found) (@pa_cons _ _ _ _ _ (pe_ty g_L_whole_int z_int PySem.Pv.boot_int nam_int dbg_int) (@pa_nil _) (by walk_at "zz")) (by walk_at "zz")) nam_isinstance dbg_isinstance (by walk_at "zz") (by walk_at "zz")) (@pe_one _ _ _ _ _ (@pe_not _ _ _ _ (@pe_callB _ _ _ _ _ _ _ _ _ (@call_isiK _) g_L_whole_isinstance z_isinstance PyProof.Rows.boot_isinstance (@pa_cons _ _ _ _ _ (@pv _ 0 _ _ rfl v_L_whole_0 dbg__law_found cls__law_found) (@pa_cons _ _ _ _ _ (pe_ty g_L_whole_bool z_bool PySem.Pv.boot_bool nam_bool dbg_bool) (@pa_nil _) (by walk_at "zz")) (by walk_at "zz")) nam_isinstance dbg_isinstance (by walk_at "zz") (by walk_at "zz"))))))), fn_run (N := ["_law_found"]) (np := 1) (nl := 0) (b_ret (e_and (e_isi (T := "int") e_var) (e_not (e_isi (T := "bool") e_var))) (by decide)) rfl h⟩
theorem ok_L_divides (F : Fun K "_law_divides" "_law_divides" s_L_divides f fd) : FnOk P w K mg base CX0 1 f fd ["_law_one", "_law_other"] (spD K m_L_divides false) := by
  have nd := sc_L_divides.nd
  refine F.ok sc_L_divides (fun vs H Q E h => fn_len dFun_len h) (fun cdv A outer s H vs Q E hr h => ?_)
  exact ⟨_, (@pss_cons _ _ _ _ _ (@ps_while _ _ _ _ _ _ PassesOwn.never (@pt_cmpR _ _ _ _ _ _ _ _ (@op_neK _ (hu64 hr)) (@pv _ 1 _ _ rfl v_L_divides_1 dbg__law_other cls__law_other) (@pe_int _ _ _ _) (nomark _)) (@pss_one _ _ _ (@ps_par _ _ 0 1 _ _ _ _ _ _ _ _ _ _ _ rfl nd rfl rfl (by decide) l_L_divides_0 l_L_divides_1 (@pa_cons _ _ _ _ _ (@pv _ 1 _ _ rfl v_L_divides_1 dbg__law_other cls__law_other) (@pa_cons _ _ _ _ _ (@pe_op _ _ _ _ _ _ _ _ (@op_mod _) (@pv _ 0 _ _ rfl v_L_divides_0 dbg__law_one cls__law_one) (@pv _ 1 _ _ rfl v_L_divides_1 dbg__law_other cls__law_other)) (@pa_nil _) (by walk_at "zz")) (by walk_at "zz")) (by kernel_rfl) (by walk_at "zz")))) (@pss_one _ _ _ (@ps_ret _ _ _ _ (@pv _ 0 _ _ rfl v_L_divides_0 dbg__law_one cls__law_one)))), fn_run (N := ["_law_one", "_law_other"]) (np := 2) (nl := 0) (b_seq (b_while (t_test (e_op o_ne e_var e_int)) (b_par (i := 0) (j := 1) (a_cons e_var (a_cons (e_op o_mod e_var e_var) a_nil)))) (b_ret e_var (by decide))) rfl h⟩
theorem ok_L_right (F : Fun K "_law_right" "_law_right" s_L_right f fd) (C_fraction : Cal P w K mg base 2 "fraction" ["top", "bottom"] (spD K m_fraction false)) (C_L_whole : Cal P w K mg base 2 "_law_whole" ["_law_found"] (spD K m_L_whole false)) (C_L_divides : Cal P w K mg base 2 "_law_divides" ["_law_one", "_law_other"] (spD K m_L_divides false)) (z_len : mg "len" = none) (z_tuple : mg "tuple" = none) (z_isinstance : mg "isinstance" = none) (z_abs : mg "abs" = none) : FnOk P w K mg base CX0 3 f fd ["_law_top", "_law_bottom"] (spD K m_L_right false) := by
  have nd := sc_L_right.nd
  refine F.ok sc_L_right (fun vs H Q E h => fn_len dFun_len h) (fun cdv A outer s H vs Q E hr h => ?_)
  exact ⟨_, (@pss_cons _ _ _ _ _ (@ps_set _ _ 2 _ _ _ _ nd rfl n_L_right_2 (@pe_callC _ _ _ _ _ _ _ _ _ _ C_fraction hr g_L_right_fraction (@pa_cons _ _ _ _ _ (@pv _ 0 _ _ rfl v_L_right_0 dbg__law_top cls__law_top) (@pa_cons _ _ _ _ _ (@pv _ 1 _ _ rfl v_L_right_1 dbg__law_bottom cls__law_bottom) (@pa_nil _) (by walk_at "zz")) (by walk_at "zz")) dbg_fraction (by walk_at "zz") (by walk_at "zz")) (by walk_at "zz") (by walk_at "zz")) (@pss_cons _ _ _ _ _ (@ps_if _ _ _ _ _ _ _ _ (@PW.pt _ _ _ (@pw_or _ _ _ _ _ _ _ (@pt_not _ _ _ _ (@pt_val _ _ _ (@pe_callB _ _ _ _ _ _ _ _ _ (@call_isiK _) g_L_right_isinstance z_isinstance PyProof.Rows.boot_isinstance (@pa_cons _ _ _ _ _ (@pv _ 2 _ _ rfl v_L_right_2 dbg__law_told cls__law_told) (@pa_cons _ _ _ _ _ (pe_ty g_L_right_tuple z_tuple PySem.Pv.boot_tuple nam_tuple dbg_tuple) (@pa_nil _) (by walk_at "zz")) (by walk_at "zz")) nam_isinstance dbg_isinstance (by walk_at "zz") (by walk_at "zz")) (by walk_at "zz"))) (@pw_or _ _ _ _ _ _ _ (@pt_cmpR _ _ _ _ _ _ _ _ (@op_neK _ (hu64 hr)) (@pe_callB _ _ _ _ _ _ _ _ _ (@call_len _) g_L_right_len z_len PySem.boot_len (@pa_cons _ _ _ _ _ (@pv _ 2 _ _ rfl v_L_right_2 dbg__law_told cls__law_told) (@pa_nil _) (by walk_at "zz")) nam_len dbg_len (by walk_at "zz") (by walk_at "zz")) (@pe_int _ _ _ _) (nomark _)) (@pw_or _ _ _ _ _ _ _ (@pt_not _ _ _ _ (@pt_val _ _ _ (@pe_callC _ _ _ _ _ _ _ _ _ _ C_L_whole hr g_L_right__law_whole (@pa_cons _ _ _ _ _ (@pe_ix _ _ _ _ _ _ _ (@ix_tup _) (@pv _ 2 _ _ rfl v_L_right_2 dbg__law_told cls__law_told) (@pe_int _ _ _ _) (fun _ _ => rfl)) (@pa_nil _) (by walk_at "zz")) dbg__law_whole (by walk_at "zz") (by walk_at "zz")) (by walk_at "zz"))) (@pw_or1 _ _ _ _ (@pt_not _ _ _ _ (@pt_val _ _ _ (@pe_callC _ _ _ _ _ _ _ _ _ _ C_L_whole hr g_L_right__law_whole (@pa_cons _ _ _ _ _ (@pe_ix _ _ _ _ _ _ _ (@ix_tup _) (@pv _ 2 _ _ rfl v_L_right_2 dbg__law_told cls__law_told) (@pe_int _ _ _ _) (fun _ _ => rfl)) (@pa_nil _) (by walk_at "zz")) dbg__law_whole (by walk_at "zz") (by walk_at "zz")) (by walk_at "zz")))))))) (@pss_one _ _ _ (@ps_ret _ _ _ _ (@pe_bl _ _ _ _))) (@pss_nil _)) (@pss_cons _ _ _ _ _ (@ps_if _ _ _ _ _ _ _ _ (@PW.pt _ _ _ (@pw_or _ _ _ _ _ _ _ (@pt_cmpR _ _ _ _ _ _ _ _ (@op_lt _) (@pe_ix _ _ _ _ _ _ _ (@ix_tup _) (@pv _ 2 _ _ rfl v_L_right_2 dbg__law_told cls__law_told) (@pe_int _ _ _ _) (fun _ _ => rfl)) (@pe_int _ _ _ _) (nomark _)) (@pw_or1 _ _ _ _ (@pt_cmpR _ _ _ _ _ _ _ _ (@op_neK _ (hu64 hr)) (@pe_callC _ _ _ _ _ _ _ _ _ _ C_L_divides hr g_L_right__law_divides (@pa_cons _ _ _ _ _ (@pe_callB _ _ _ _ _ _ _ _ _ (@call_abs _) g_L_right_abs z_abs PyProof.Rows.boot_abs (@pa_cons _ _ _ _ _ (@pe_ix _ _ _ _ _ _ _ (@ix_tup _) (@pv _ 2 _ _ rfl v_L_right_2 dbg__law_told cls__law_told) (@pe_int _ _ _ _) (fun _ _ => rfl)) (@pa_nil _) (by walk_at "zz")) nam_abs dbg_abs (by walk_at "zz") (by walk_at "zz")) (@pa_cons _ _ _ _ _ (@pe_ix _ _ _ _ _ _ _ (@ix_tup _) (@pv _ 2 _ _ rfl v_L_right_2 dbg__law_told cls__law_told) (@pe_int _ _ _ _) (fun _ _ => rfl)) (@pa_nil _) (by walk_at "zz")) (by walk_at "zz")) dbg__law_divides (by walk_at "zz") (by walk_at "zz")) (@pe_int _ _ _ _) (nomark _))))) (@pss_one _ _ _ (@ps_ret _ _ _ _ (@pe_bl _ _ _ _))) (@pss_nil _)) (@pss_one _ _ _ (@ps_ret _ _ _ _ (@pe_cmpR _ _ _ _ _ _ _ _ (@op_eqK _ (hu64 hr)) (@pe_op _ _ _ _ _ _ _ _ (@op_mulB _) (@pe_ix _ _ _ _ _ _ _ (@ix_tup _) (@pv _ 2 _ _ rfl v_L_right_2 dbg__law_told cls__law_told) (@pe_int _ _ _ _) (fun _ _ => rfl)) (@pv _ 1 _ _ rfl v_L_right_1 dbg__law_bottom cls__law_bottom)) (@pe_op _ _ _ _ _ _ _ _ (@op_mulB _) (@pe_ix _ _ _ _ _ _ _ (@ix_tup _) (@pv _ 2 _ _ rfl v_L_right_2 dbg__law_told cls__law_told) (@pe_int _ _ _ _) (fun _ _ => rfl)) (@pv _ 0 _ _ rfl v_L_right_0 dbg__law_top cls__law_top)) (nomark _))))))), fn_run (N := ["_law_top", "_law_bottom", "_law_told"]) (np := 2) (nl := 1) (b_seq (b_asg (e_call (a_cons e_var (a_cons e_var a_nil))) g_name) (b_seq (b_if (t_or (t_not (t_val (e_isi (T := "tuple") e_var))) (t_or (t_test (e_op o_ne (e_app c_len (a_cons e_var a_nil)) e_int)) (t_or (t_not (t_val (e_call (a_cons (e_op o_ixT e_var e_int) a_nil)))) (t_not (t_val (e_call (a_cons (e_op o_ixT e_var e_int) a_nil))))))) (b_ret e_bl (by decide)) b_nil) (b_seq (b_if (t_or (t_test (e_op o_lt (e_op o_ixT e_var e_int) e_int)) (t_test (e_op o_ne (e_call (a_cons (e_app c_abs (a_cons (e_op o_ixT e_var e_int) a_nil)) (a_cons (e_op o_ixT e_var e_int) a_nil))) e_int))) (b_ret e_bl (by decide)) b_nil) (b_ret (e_op o_eq (e_op o_mul (e_op o_ixT e_var e_int) e_var) (e_op o_mul (e_op o_ixT e_var e_int) e_var)) (by decide))))) rfl h⟩
theorem ok_law (F : Fun K "law" "law" s_law f fd) (C_L_big : Cal P w K mg base 3 "_law_big" ["_law_script", "_law_at"] (spD K m_L_big false)) (C_L_number : Cal P w K mg base 3 "_law_number" ["_law_rest"] (spD K m_L_number false)) (C_L_digit : Cal P w K mg base 3 "_law_digit" ["_law_rest", "_law_many"] (spD K m_L_digit false)) (C_L_right : Cal P w K mg base 3 "_law_right" ["_law_top", "_law_bottom"] (spD K m_L_right false)) (C_L_refused : Cal P w K mg base 3 "_law_refused" ["_law_top"] (spD K m_L_refused false)) (z_range : mg "range" = none) : FnOk P w K mg base CX0 4 f fd ["_law_script"] (spD K m_law false) := by
  have nd := sc_law.nd
  refine F.ok sc_law (fun vs H Q E h => fn_len dFun_len h) (fun cdv A outer s H vs Q E hr h => ?_)
  exact ⟨_, (@pss_cons _ _ _ _ _ (@ps_set _ _ 1 _ _ _ _ nd rfl n_law_1 (@pe_lst _ _ _ _ (@pa_cons _ _ _ _ _ (@pe_callC _ _ _ _ _ _ _ _ _ _ C_L_big hr g_law__law_big (@pa_cons _ _ _ _ _ (@pv _ 0 _ _ rfl v_law_0 dbg__law_script cls__law_script) (@pa_cons _ _ _ _ _ (@pe_int _ _ _ _) (@pa_nil _) (by walk_at "zz")) (by walk_at "zz")) dbg__law_big (by walk_at "zz") (by walk_at "zz")) (@pa_nil _) (by walk_at "zz"))) (by walk_at "zz") (by walk_at "zz")) (@pss_cons _ _ _ _ _ (@ps_for _ _ _ _ _ _ _ _ PassesOwn.never rfl (@pi_range1 _ _ _ _ _ _ g_law_range z_range (@pa_cons _ _ _ _ _ (@pe_int _ _ _ _) (@pa_nil _) (by walk_at "zz")) (by walk_at "zz")) (@pg_name _ _ 2 _ nd rfl n_law_2 (by walk_at "zz")) (@pss_cons _ _ _ _ _ (@ps_set _ _ 3 _ _ _ _ nd rfl n_law_3 (@pe_callC _ _ _ _ _ _ _ _ _ _ C_L_number hr g_law__law_number (@pa_cons _ _ _ _ _ (@pv _ 1 _ _ rfl v_law_1 dbg__law_rest cls__law_rest) (@pa_nil _) (by walk_at "zz")) dbg__law_number (by walk_at "zz") (by walk_at "zz")) (by walk_at "zz") (by walk_at "zz")) (@pss_cons _ _ _ _ _ (@ps_set _ _ 4 _ _ _ _ nd rfl n_law_4 (@pe_callC _ _ _ _ _ _ _ _ _ _ C_L_number hr g_law__law_number (@pa_cons _ _ _ _ _ (@pv _ 1 _ _ rfl v_law_1 dbg__law_rest cls__law_rest) (@pa_nil _) (by walk_at "zz")) dbg__law_number (by walk_at "zz") (by walk_at "zz")) (by walk_at "zz") (by walk_at "zz")) (@pss_cons _ _ _ _ _ (@ps_set _ _ 5 _ _ _ _ nd rfl n_law_5 (@pe_op _ _ _ _ _ _ _ _ (@op_add _) (@pe_int _ _ _ _) (@pe_callC _ _ _ _ _ _ _ _ _ _ C_L_digit hr g_law__law_digit (@pa_cons _ _ _ _ _ (@pv _ 1 _ _ rfl v_law_1 dbg__law_rest cls__law_rest) (@pa_cons _ _ _ _ _ (@pe_int _ _ _ _) (@pa_nil _) (by walk_at "zz")) (by walk_at "zz")) dbg__law_digit (by walk_at "zz") (by walk_at "zz"))) (by walk_at "zz") (by walk_at "zz")) (@pss_cons _ _ _ _ _ (@ps_if _ _ _ _ _ _ _ _ (@PW.pt _ _ _ (@pw_or _ _ _ _ _ _ _ (@pt_not _ _ _ _ (@pt_val _ _ _ (@pe_callC _ _ _ _ _ _ _ _ _ _ C_L_refused hr g_law__law_refused (@pa_cons _ _ _ _ _ (@pv _ 3 _ _ rfl v_law_3 dbg__law_top cls__law_top) (@pa_nil _) (by walk_at "zz")) dbg__law_refused (by walk_at "zz") (by walk_at "zz")) (by walk_at "zz"))) (@pw_or1 _ _ _ _ (@PW.pt _ _ _ (@pw_and _ _ _ _ _ _ _ (@pt_cmpR _ _ _ _ _ _ _ _ (@op_neK _ (hu64 hr)) (@pv _ 4 _ _ rfl v_law_4 dbg__law_bottom cls__law_bottom) (@pe_int _ _ _ _) (nomark _)) (@pw_and1 _ _ _ _ (@pt_not _ _ _ _ (@pt_val _ _ _ (@pe_callC _ _ _ _ _ _ _ _ _ _ C_L_right hr g_law__law_right (@pa_cons _ _ _ _ _ (@pe_op _ _ _ _ _ _ _ _ (@op_mulB _) (@pv _ 3 _ _ rfl v_law_3 dbg__law_top cls__law_top) (@pv _ 5 _ _ rfl v_law_5 dbg__law_part cls__law_part)) (@pa_cons _ _ _ _ _ (@pe_op _ _ _ _ _ _ _ _ (@op_mulB _) (@pv _ 4 _ _ rfl v_law_4 dbg__law_bottom cls__law_bottom) (@pv _ 5 _ _ rfl v_law_5 dbg__law_part cls__law_part)) (@pa_nil _) (by walk_at "zz")) (by walk_at "zz")) dbg__law_right (by walk_at "zz") (by walk_at "zz")) (by walk_at "zz"))))))))) (@pss_one _ _ _ (@ps_ret _ _ _ _ (@pe_bl _ _ _ _))) (@pss_nil _)) (@pss_one _ _ _ (@ps_if _ _ _ _ _ _ _ _ (@PW.pt _ _ _ (@pw_and _ _ _ _ _ _ _ (@pt_cmpR _ _ _ _ _ _ _ _ (@op_neK _ (hu64 hr)) (@pv _ 3 _ _ rfl v_law_3 dbg__law_top cls__law_top) (@pe_int _ _ _ _) (nomark _)) (@pw_and1 _ _ _ _ (@pt_not _ _ _ _ (@pt_val _ _ _ (@pe_callC _ _ _ _ _ _ _ _ _ _ C_L_right hr g_law__law_right (@pa_cons _ _ _ _ _ (@pv _ 4 _ _ rfl v_law_4 dbg__law_bottom cls__law_bottom) (@pa_cons _ _ _ _ _ (@pv _ 3 _ _ rfl v_law_3 dbg__law_top cls__law_top) (@pa_nil _) (by walk_at "zz")) (by walk_at "zz")) dbg__law_right (by walk_at "zz") (by walk_at "zz")) (by walk_at "zz")))))) (@pss_one _ _ _ (@ps_ret _ _ _ _ (@pe_bl _ _ _ _))) (@pss_nil _))))))) (by walk_at "zz")) (@pss_one _ _ _ (@ps_ret _ _ _ _ (@pe_bl _ _ _ _))))), fn_run (N := ["_law_script", "_law_rest", "_law_k", "_law_top", "_law_bottom", "_law_part"]) (np := 1) (nl := 5) (b_seq (b_setM (e_lst (a_cons (e_callC (i := 0) (a_cons e_int a_nil)) a_nil))) (b_seq (b_for (it_range1 (a_cons e_int a_nil)) g_name (b_seq (b_asg (e_callM (i := 1) a_nil) g_name) (b_seq (b_asg (e_callM (i := 1) a_nil) g_name) (b_seq (b_asg (e_op o_add e_int (e_callM (i := 1) (a_cons e_int a_nil))) g_name) (b_seq (b_if (t_or (t_not (t_val (e_call (a_cons e_var a_nil)))) (t_and (t_test (e_op o_ne e_var e_int)) (t_not (t_val (e_call (a_cons (e_op o_mul e_var e_var) (a_cons (e_op o_mul e_var e_var) a_nil))))))) (b_ret e_bl (by decide)) b_nil) (b_if (t_and (t_test (e_op o_ne e_var e_int)) (t_not (t_val (e_call (a_cons e_var (a_cons e_var a_nil)))))) (b_ret e_bl (by decide)) b_nil)))))) (b_ret e_bl (by decide)))) rfl h⟩
end
theorem modI {i j : Int} (h : 0 < j) : fMod (.int i) (.int j) = some (.int (i % j)) := if_pos h
theorem divI {i j : Int} (h : 0 < j) (h1 : j < 10 ^ 70) : fDiv (.int i) (.int j) = some (.int (i / j)) := if_pos ⟨h, bd_small h h1⟩
theorem mulI {i j : Int} (h : CMulB i j) : fMul (.int i) (.int j) = some (.int (i * j)) := if_pos h
theorem pow18 : fPow (.int 10) (.int 18) = some (.int 1000000000000000000) := rfl
theorem L_digit {v m : Int} (h0 : 0 < m) (h1 : m < 10 ^ 70) : m_L_digit [.m [.int v], .d (.int m)] = some (.int (v % m), [.m [.int (v / m)], .d (.int m)]) := by
  simp only [m_L_digit, modI h0, divI h0 h1, dFun, dSeq, dAsg, dN, dNew, dSetM, dRet, dRetM, dRetN, dExpr, dMt, gAppend, gExtend, gClear, dSetI, dNil, dIfS, dBrk, dCnt, dNever, dFor, dPar, dVar, dC, dOp, dUn, fI, fAdd, fSub, fLt, fLe, fGt, fGe, fNeg, isNo, fIsN, fNotN, fIxL, fIxT, dTest, dTAnd, dTOr, dTNot, dIf, dAnd, dOr, dNot, dChain, dANil, dACons, allD, dTup, dLst, dApp, dCall, dCallM, dCallC, dCallP, dAS, mkL, nMb, isM, isC, dBor, dBorF, dTBor, dYes, dIL, dIT, dR1, dR2, dGNil, dGCons, dGT, fin_nil, fin_d, fin_c, fin_m, fLen, f1, f2, fAbs, fMax2, fMin2, fInt1, fListOf, dRev, dIsi, dIxC, dLenC, atI, ixN, okM_none, okM_d, okM_c, okM_m, fixD, fixDs, sz', Option.bind_some, Option.bind_none, Option.map_some, Option.map_none, List.map_cons, List.map_nil, List.cons_append, List.nil_append, List.length_cons, List.length_nil, List.getElem?_cons_zero, List.getElem?_cons_succ, List.set_cons_zero, List.set_cons_succ, List.replicate_succ, List.replicate_zero, List.all_cons, List.all_nil, Bool.and_self, Bool.and_true, Bool.true_and, Bool.false_and, Bool.and_false, Bool.or_true, Bool.true_or, Bool.false_or, Bool.or_false, Bool.not_true, Bool.not_false, if_true, if_false, reduceIte, Bool.false_eq_true, Nat.reduceAdd, Nat.reduceLT, Nat.reduceSub, Nat.reduceMul, Int.reduceEq, Int.reduceSub, Int.reduceMul, Int.reducePow, Int.reduceDiv, Int.reduceMod, Nat.reduceLeDiff, Nat.reduceEqDiff, and_self, and_true, true_and, Int.natCast_add, Int.reduceAdd, Int.reduceLT, Int.reduceLE, Int.reduceToNat, Int.reduceNeg, Int.toNat_zero, Int.toNat_one, Int.zero_lt_one, Int.le_refl, Int.reduceNegSucc, Int.cast_ofNat_Int, Nat.zero_add, Nat.add_zero]
theorem L_dig {v m : Int} (h0 : 0 < m) (h1 : m < 1000000000) : m_L_digit [.m [.int v], .d (.int m)] = some (.int (v % m), [.m [.int (v / m)], .d (.int m)]) := L_digit h0 (by omega)
theorem L_cell_at {ns : List Int} {k : Int} (h0 : 0 ≤ k) : ∃ v : Int, m_L_cell_at [.c (ns.map .int), .d (.int k)] = some (.int v, [.c (ns.map .int), .d (.int k)]) := by
  by_cases h : k < (ns.length : Int)
  · have hk : k.toNat < ns.length := by omega
    have e : (ns.map PyData.int)[k.toNat]? = some (.int ns[k.toNat]) := by simp [hk]
    exact ⟨ns[k.toNat], by simp only [m_L_cell_at, List.length_map, h0, h, decide_true, e, dFun, dSeq, dAsg, dN, dNew, dSetM, dRet, dRetM, dRetN, dExpr, dMt, gAppend, gExtend, gClear, dSetI, dNil, dIfS, dBrk, dCnt, dNever, dFor, dPar, dVar, dC, dOp, dUn, fI, fAdd, fSub, fLt, fLe, fGt, fGe, fNeg, isNo, fIsN, fNotN, fIxL, fIxT, dTest, dTAnd, dTOr, dTNot, dIf, dAnd, dOr, dNot, dChain, dANil, dACons, allD, dTup, dLst, dApp, dCall, dCallM, dCallC, dCallP, dAS, mkL, nMb, isM, isC, dBor, dBorF, dTBor, dYes, dIL, dIT, dR1, dR2, dGNil, dGCons, dGT, fin_nil, fin_d, fin_c, fin_m, fLen, f1, f2, fAbs, fMax2, fMin2, fInt1, fListOf, dRev, dIsi, dIxC, dLenC, atI, ixN, okM_none, okM_d, okM_c, okM_m, fixD, fixDs, sz', Option.bind_some, Option.bind_none, Option.map_some, Option.map_none, List.map_cons, List.map_nil, List.cons_append, List.nil_append, List.length_cons, List.length_nil, List.getElem?_cons_zero, List.getElem?_cons_succ, List.set_cons_zero, List.set_cons_succ, List.replicate_succ, List.replicate_zero, List.all_cons, List.all_nil, Bool.and_self, Bool.and_true, Bool.true_and, Bool.false_and, Bool.and_false, Bool.or_true, Bool.true_or, Bool.false_or, Bool.or_false, Bool.not_true, Bool.not_false, if_true, if_false, reduceIte, Bool.false_eq_true, Nat.reduceAdd, Nat.reduceLT, Nat.reduceSub, Nat.reduceMul, Int.reduceEq, Int.reduceSub, Int.reduceMul, Int.reducePow, Int.reduceDiv, Int.reduceMod, Nat.reduceLeDiff, Nat.reduceEqDiff, and_self, and_true, true_and, Int.natCast_add, Int.reduceAdd, Int.reduceLT, Int.reduceLE, Int.reduceToNat, Int.reduceNeg, Int.toNat_zero, Int.toNat_one, Int.zero_lt_one, Int.le_refl, Int.reduceNegSucc, Int.cast_ofNat_Int, Nat.zero_add, Nat.add_zero]⟩
  · exact ⟨0, by simp only [m_L_cell_at, List.length_map, h0, h, decide_false, dFun, dSeq, dAsg, dN, dNew, dSetM, dRet, dRetM, dRetN, dExpr, dMt, gAppend, gExtend, gClear, dSetI, dNil, dIfS, dBrk, dCnt, dNever, dFor, dPar, dVar, dC, dOp, dUn, fI, fAdd, fSub, fLt, fLe, fGt, fGe, fNeg, isNo, fIsN, fNotN, fIxL, fIxT, dTest, dTAnd, dTOr, dTNot, dIf, dAnd, dOr, dNot, dChain, dANil, dACons, allD, dTup, dLst, dApp, dCall, dCallM, dCallC, dCallP, dAS, mkL, nMb, isM, isC, dBor, dBorF, dTBor, dYes, dIL, dIT, dR1, dR2, dGNil, dGCons, dGT, fin_nil, fin_d, fin_c, fin_m, fLen, f1, f2, fAbs, fMax2, fMin2, fInt1, fListOf, dRev, dIsi, dIxC, dLenC, atI, ixN, okM_none, okM_d, okM_c, okM_m, fixD, fixDs, sz', Option.bind_some, Option.bind_none, Option.map_some, Option.map_none, List.map_cons, List.map_nil, List.cons_append, List.nil_append, List.length_cons, List.length_nil, List.getElem?_cons_zero, List.getElem?_cons_succ, List.set_cons_zero, List.set_cons_succ, List.replicate_succ, List.replicate_zero, List.all_cons, List.all_nil, Bool.and_self, Bool.and_true, Bool.true_and, Bool.false_and, Bool.and_false, Bool.or_true, Bool.true_or, Bool.false_or, Bool.or_false, Bool.not_true, Bool.not_false, if_true, if_false, reduceIte, Bool.false_eq_true, Nat.reduceAdd, Nat.reduceLT, Nat.reduceSub, Nat.reduceMul, Int.reduceEq, Int.reduceSub, Int.reduceMul, Int.reducePow, Int.reduceDiv, Int.reduceMod, Nat.reduceLeDiff, Nat.reduceEqDiff, and_self, and_true, true_and, Int.natCast_add, Int.reduceAdd, Int.reduceLT, Int.reduceLE, Int.reduceToNat, Int.reduceNeg, Int.toNat_zero, Int.toNat_one, Int.zero_lt_one, Int.le_refl, Int.reduceNegSucc, Int.cast_ofNat_Int, Nat.zero_add, Nat.add_zero]⟩
theorem tabT {xs : List Int} {k : Int} (h0 : 0 ≤ k) (h : k < (xs.length : Int)) : ∃ v : Int, atI (xs.map PyData.int) k = some (.int v) ∧ v ∈ xs := by
  have hk : k.toNat < xs.length := by omega
  refine ⟨xs[k.toNat], ?_, List.getElem_mem hk⟩
  unfold atI ixN
  rw [List.length_map, if_pos h0, if_pos h]
  simp [hk]
def by8 : PyData := .tuple ([48271, 69621, 16807, 39373, 21401, 60493, 87721, 31337].map .int)
def pr8 : PyData := .tuple ([99991, 99989, 99971, 99961, 99929, 99923, 99907, 99901].map .int)
theorem L_big {ns : List Int} {k : Int} (h0 : 0 ≤ k) : ∃ (v : Int) (ls : List L), m_L_big [.c (ns.map .int), .d (.int k)] = some (.int v, ls) := by
  obtain ⟨cell, hc⟩ := L_cell_at (ns := ns) h0
  by_cases hb : (1000000000000000000 : Int) ≤ cell
  · exact ⟨cell, _, by simp only [m_L_big, hc, pow18, hb, decide_true, dFun, dSeq, dAsg, dN, dNew, dSetM, dRet, dRetM, dRetN, dExpr, dMt, gAppend, gExtend, gClear, dSetI, dNil, dIfS, dBrk, dCnt, dNever, dFor, dPar, dVar, dC, dOp, dUn, fI, fAdd, fSub, fLt, fLe, fGt, fGe, fNeg, isNo, fIsN, fNotN, fIxL, fIxT, dTest, dTAnd, dTOr, dTNot, dIf, dAnd, dOr, dNot, dChain, dANil, dACons, allD, dTup, dLst, dApp, dCall, dCallM, dCallC, dCallP, dAS, mkL, nMb, isM, isC, dBor, dBorF, dTBor, dYes, dIL, dIT, dR1, dR2, dGNil, dGCons, dGT, fin_nil, fin_d, fin_c, fin_m, fLen, f1, f2, fAbs, fMax2, fMin2, fInt1, fListOf, dRev, dIsi, dIxC, dLenC, atI, ixN, okM_none, okM_d, okM_c, okM_m, fixD, fixDs, sz', Option.bind_some, Option.bind_none, Option.map_some, Option.map_none, List.map_cons, List.map_nil, List.cons_append, List.nil_append, List.length_cons, List.length_nil, List.getElem?_cons_zero, List.getElem?_cons_succ, List.set_cons_zero, List.set_cons_succ, List.replicate_succ, List.replicate_zero, List.all_cons, List.all_nil, Bool.and_self, Bool.and_true, Bool.true_and, Bool.false_and, Bool.and_false, Bool.or_true, Bool.true_or, Bool.false_or, Bool.or_false, Bool.not_true, Bool.not_false, if_true, if_false, reduceIte, Bool.false_eq_true, Nat.reduceAdd, Nat.reduceLT, Nat.reduceSub, Nat.reduceMul, Int.reduceEq, Int.reduceSub, Int.reduceMul, Int.reducePow, Int.reduceDiv, Int.reduceMod, Nat.reduceLeDiff, Nat.reduceEqDiff, and_self, and_true, true_and, Int.natCast_add, Int.reduceAdd, Int.reduceLT, Int.reduceLE, Int.reduceToNat, Int.reduceNeg, Int.toNat_zero, Int.toNat_one, Int.zero_lt_one, Int.le_refl, Int.reduceNegSucc, Int.cast_ofNat_Int, Nat.zero_add, Nat.add_zero]; rfl⟩
  · have lp : ∃ τ', dLoop (dN 6) (dSeq (dAsg (dOp fAdd (dOp fAdd (dOp fMod (dCallC 0 m_L_cell_at (dACons (dOp fAdd (dVar 1) (dOp fMod (dVar 6) (dC (.int 9)))) dANil)) (dOp fPow (dC (.int 10)) (dC (.int 18)))) (dC (.int 1))) (dOp fMul (dVar 6) (dVar 6))) (dN 7)) (dAsg (dOp fAdd (dOp fMul (dVar 5) (dC (.int 7919))) (dOp fMod (dOp fMod (dOp fMul (dVar 7) (dOp fIxT (dVar 2) (dOp fMod (dVar 6) (dC (.int 8))))) (dOp fIxT (dVar 3) (dOp fMod (dVar 6) (dC (.int 8))))) (dC (.int 7919)))) (dN 5)))
        ((rng 0 60).map PyData.int) [some (.c (ns.map .int)), some (.d (.int k)), some (.d by8), some (.d pr8), some (.d (.int cell)), some (.d (.int 0)), none, none] = some (.nx τ') ∧
        ∃ (b : Int) (o1 o2 : Option L), nM o1 ∧ nM o2 ∧ τ' = [some (.c (ns.map .int)), some (.d (.int k)), some (.d by8), some (.d pr8), some (.d (.int cell)), some (.d (.int b)), o1, o2] := by
      refine loop_list (enc := PyData.int) (pre := []) (fun _ τ => ∃ (b : Int) (o1 o2 : Option L), nM o1 ∧ nM o2 ∧ τ = [some (.c (ns.map .int)), some (.d (.int k)), some (.d by8), some (.d pr8), some (.d (.int cell)), some (.d (.int b)), o1, o2]) ⟨0, none, none, nM_none, nM_none, rfl⟩ ?_
      rintro j _ τ hj ⟨b, o1, o2, n1, n2, rfl⟩
      have hj' := (mem_rng (n := 60)).mp hj
      have h9 : 0 ≤ j % 9 := Int.emod_nonneg _ (by decide)
      obtain ⟨c, hc⟩ := L_cell_at (ns := ns) (k := k + j % 9) (by omega)
      obtain ⟨u1, hu1, m1⟩ := tabT (xs := [48271, 69621, 16807, 39373, 21401, 60493, 87721, 31337]) (k := j % 8) (Int.emod_nonneg _ (by decide)) (Int.emod_lt_of_pos _ (by decide))
      obtain ⟨u2, hu2, m2⟩ := tabT (xs := [99991, 99989, 99971, 99961, 99929, 99923, 99907, 99901]) (k := j % 8) (Int.emod_nonneg _ (by decide)) (Int.emod_lt_of_pos _ (by decide))
      have hu1' : fIxT by8 (.int (j % 8)) = some (.int u1) := hu1
      have hu2' : fIxT pr8 (.int (j % 8)) = some (.int u2) := hu2
      have m1' : -(2 ^ 64) < u1 ∧ u1 < 2 ^ 64 := by
        simp only [List.mem_cons, List.not_mem_nil, or_false] at m1
        omega
      have m2' : 0 < u2 := by
        simp only [List.mem_cons, List.not_mem_nil, or_false] at m2
        omega
      have x1 : fMul (.int j) (.int j) = some (.int (j * j)) := mulI (.inl (.inl ⟨by omega, by omega⟩))
      have x2 : fMul (.int b) (.int 7919) = some (.int (b * 7919)) := mulI (.inl (.inr ⟨by decide, by decide⟩))
      have x3 : ∀ z : Int, fMul (.int z) (.int u1) = some (.int (z * u1)) := fun z => mulI (.inl (.inr m1'))
      have x4 : ∀ z : Int, fMod (.int z) (.int u2) = some (.int (z % u2)) := fun z => modI m2'
      have x5 : ∀ z : Int, fMod (.int z) (.int 7919) = some (.int (z % 7919)) := fun z => modI (by decide)
      have x6 : ∀ z : Int, fMod (.int z) (.int 9) = some (.int (z % 9)) := fun z => modI (by decide)
      have x7 : ∀ z : Int, fMod (.int z) (.int 8) = some (.int (z % 8)) := fun z => modI (by decide)
      have x8 : ∀ z : Int, fMod (.int z) (.int 1000000000000000000) = some (.int (z % 1000000000000000000)) := fun z => modI (by decide)
      refine ⟨_, [some (.c (ns.map .int)), some (.d (.int k)), some (.d by8), some (.d pr8), some (.d (.int cell)), some (.d (.int (b * 7919 + (c % 1000000000000000000 + 1 + j * j) * u1 % u2 % 7919))), some (.d (.int j)), some (.d (.int (c % 1000000000000000000 + 1 + j * j)))], dN_eq rfl n1, ?_, _, _, _, nM_d, nM_d, rfl⟩
      refine (seq_nx (τ1 := [some (.c (ns.map .int)), some (.d (.int k)), some (.d by8), some (.d pr8), some (.d (.int cell)), some (.d (.int b)), some (.d (.int j)), some (.d (.int (c % 1000000000000000000 + 1 + j * j)))]) (asg_nx (d := .int (c % 1000000000000000000 + 1 + j * j)) (τ1 := [some (.c (ns.map .int)), some (.d (.int k)), some (.d by8), some (.d pr8), some (.d (.int cell)), some (.d (.int b)), some (.d (.int j)), o2]) ?_ (dN_eq rfl n2))).trans ?_
      · simp only [dOp, dVar, dC, dCallC, dACons, dANil, allD, fAdd, fI, pow18, hc, x1, x6, x8, List.getElem?_cons_zero, List.getElem?_cons_succ, List.set_cons_zero, List.set_cons_succ, Option.bind_some, Option.map_some, List.map_cons, List.map_nil]
      · simp only [dAsg, dN, dOp, dVar, dC, fAdd, fI, hu1', hu2', x2, x3, x4, x5, x7, List.getElem?_cons_zero, List.getElem?_cons_succ, List.set_cons_zero, List.set_cons_succ, Option.bind_some, Option.map_some]
    obtain ⟨τ', e, b, o1, o2, n1, n2, rfl⟩ := lp
    refine ⟨b, [.c (ns.map .int), .d (.int k)], ?_⟩
    have hr : dR1 (dACons (dC (.int 60)) dANil) [some (.c (ns.map .int)), some (.d (.int k)), some (.d by8), some (.d pr8), some (.d (.int cell)), some (.d (.int 0)), none, none] = some ((rng 0 60).map PyData.int, [some (.c (ns.map .int)), some (.d (.int k)), some (.d by8), some (.d pr8), some (.d (.int cell)), some (.d (.int 0)), none, none]) := by
      rw [← rangeD_eq]; rfl
    refine fun_rt (τ := [some (.c (ns.map .int)), some (.d (.int k)), some (.d by8), some (.d pr8), some (.d (.int cell)), some (.d (.int b)), o1, o2]) ?_ rfl rfl
    refine (seq_nx rfl).trans ((seq_nx rfl).trans ((seq_nx (τ1 := [some (.c (ns.map .int)), some (.d (.int k)), some (.d by8), some (.d pr8), some (.d (.int cell)), none, none, none]) (asg_nx (callC_eq (xs := ns.map .int) rfl rfl rfl hc) rfl)).trans ?_))
    refine (seq_nx (τ1 := [some (.c (ns.map .int)), some (.d (.int k)), some (.d by8), some (.d pr8), some (.d (.int cell)), none, none, none]) ?_).trans ((seq_nx (τ1 := [some (.c (ns.map .int)), some (.d (.int k)), some (.d by8), some (.d pr8), some (.d (.int cell)), some (.d (.int 0)), none, none]) rfl).trans ((seq_nx ((for_eq hr).trans e)).trans rfl))
    simp only [pow18, hb, decide_false, dFun, dSeq, dAsg, dN, dNew, dSetM, dRet, dRetM, dRetN, dExpr, dMt, gAppend, gExtend, gClear, dSetI, dNil, dIfS, dBrk, dCnt, dNever, dFor, dPar, dVar, dC, dOp, dUn, fI, fAdd, fSub, fLt, fLe, fGt, fGe, fNeg, isNo, fIsN, fNotN, fIxL, fIxT, dTest, dTAnd, dTOr, dTNot, dIf, dAnd, dOr, dNot, dChain, dANil, dACons, allD, dTup, dLst, dApp, dCall, dCallM, dCallC, dCallP, dAS, mkL, nMb, isM, isC, dBor, dBorF, dTBor, dYes, dIL, dIT, dR1, dR2, dGNil, dGCons, dGT, fin_nil, fin_d, fin_c, fin_m, fLen, f1, f2, fAbs, fMax2, fMin2, fInt1, fListOf, dRev, dIsi, dIxC, dLenC, atI, ixN, okM_none, okM_d, okM_c, okM_m, fixD, fixDs, sz', Option.bind_some, Option.bind_none, Option.map_some, Option.map_none, List.map_cons, List.map_nil, List.cons_append, List.nil_append, List.length_cons, List.length_nil, List.getElem?_cons_zero, List.getElem?_cons_succ, List.set_cons_zero, List.set_cons_succ, List.replicate_succ, List.replicate_zero, List.all_cons, List.all_nil, Bool.and_self, Bool.and_true, Bool.true_and, Bool.false_and, Bool.and_false, Bool.or_true, Bool.true_or, Bool.false_or, Bool.or_false, Bool.not_true, Bool.not_false, if_true, if_false, reduceIte, Bool.false_eq_true, Nat.reduceAdd, Nat.reduceLT, Nat.reduceSub, Nat.reduceMul, Int.reduceEq, Int.reduceSub, Int.reduceMul, Int.reducePow, Int.reduceDiv, Int.reduceMod, Nat.reduceLeDiff, Nat.reduceEqDiff, and_self, and_true, true_and, Int.natCast_add, Int.reduceAdd, Int.reduceLT, Int.reduceLE, Int.reduceToNat, Int.reduceNeg, Int.toNat_zero, Int.toNat_one, Int.zero_lt_one, Int.le_refl, Int.reduceNegSucc, Int.cast_ofNat_Int, Nat.zero_add, Nat.add_zero]
theorem acc {f : DX} {a : DA} {τ τ1 τ2 : DS} {d : PyData} {rs : List Ar} (h : f τ = some (d, τ1)) (k : a τ1 = some (rs, τ2)) : dACons f a τ = some (.d d :: rs, τ2) := by
  unfold dACons
  rw [h]
  show ((a τ1).map _) = _
  rw [k]; rfl
theorem tst {f : DX} {τ τ1 : DS} {b : Bool} (h : f τ = some (.bool b, τ1)) : dTest f τ = some (b, τ1) := by
  unfold dTest
  rw [h]; rfl
theorem tnot {t : DT} {τ τ1 : DS} {b : Bool} (h : t τ = some (b, τ1)) : dTNot t τ = some (!b, τ1) := by
  unfold dTNot
  rw [h]; rfl
theorem op2 {F : PyData → PyData → Option PyData} {f g : DX} {τ τ1 τ2 : DS} {x y r : PyData} (h : f τ = some (x, τ1)) (k : g τ1 = some (y, τ2)) (e : F x y = some r) : dOp F f g τ = some (r, τ2) := by
  unfold dOp
  rw [h]
  show ((g τ1).bind _) = _
  rw [k]
  show ((F x y).map _) = _
  rw [e]; rfl
theorem orFF {x y : DT} {τ τ1 τ2 : DS} (h1 : x τ = some (false, τ1)) (h2 : y τ1 = some (false, τ2)) : dTOr x y τ = some (false, τ2) := by
  unfold dTOr
  rw [h1]; exact h2
def gI (a b : Int) : Int := (Int.gcd a b : Nat)
theorem gI_mod {a b : Int} (ha : 0 ≤ a) (hb : 0 < b) : gI b (a % b) = gI a b := by
  unfold gI
  rw [Int.gcd_eq_natAbs_gcd_natAbs, Int.gcd_eq_natAbs_gcd_natAbs]
  have e : (a % b).natAbs = a.natAbs % b.natAbs := by
    rw [Int.natAbs_emod_of_nonneg ha]
  rw [e, Nat.gcd_comm, ← Nat.gcd_rec, Nat.gcd_comm]
theorem gI_zero {a : Int} (ha : 0 ≤ a) : gI a 0 = a := by
  unfold gI
  rw [Int.gcd_zero_right]
  omega
theorem gI_le {a b : Int} (hb : 0 < b) : gI a b ≤ b := by
  exact Int.gcd_le_right a hb
def absI (i : Int) : Int := if i < 0 then -i else i
theorem absI_nn (i : Int) : 0 ≤ absI i := by unfold absI; split <;> omega
theorem gI_abs (a b : Int) : gI (absI a) b = gI a b := by
  unfold gI absI
  split
  · rw [Int.neg_gcd]
  · rfl
theorem gcd_loop {d1 d2 : PyData} : ∀ (n : Nat) (a b : Int) (o : Option L), nM o → 0 ≤ a → 0 ≤ b → b.toNat < n → ∃ o', nM o' ∧
    dWh (dTest (dOp fNe (dVar 3) (dC (.int 0)))) (dSeq (dAsg (dOp fMod (dVar 2) (dVar 3)) (dN 4)) (dSeq (dAsg (dVar 3) (dN 2)) (dAsg (dVar 4) (dN 3)))) n [some (.d d1), some (.d d2), some (.d (.int a)), some (.d (.int b)), o] = some (.nx [some (.d d1), some (.d d2), some (.d (.int (gI a b))), some (.d (.int 0)), o'])
  | 0, a, b, o, _, _, _, h => absurd h (Nat.not_lt_zero _)
  | n + 1, a, b, o, ho, ha, hb, h => by
    let st : Int → Int → Option L → DS := fun x y z => [some (.d d1), some (.d d2), some (.d (.int x)), some (.d (.int y)), z]
    have t : dTest (dOp fNe (dVar 3) (dC (.int 0))) (st a b o) = some (!decide (b = 0), st a b o) := by
      show (((fNe (.int b) (.int 0)).map fun d => (d, st a b o)).bind _) = _
      rw [encI.fNe]; rfl
    unfold dWh
    rw [show dTest (dOp fNe (dVar 3) (dC (.int 0))) [some (.d d1), some (.d d2), some (.d (.int a)), some (.d (.int b)), o] = some (!decide (b = 0), st a b o) from t]
    by_cases hz : b = 0
    · subst hz
      exact ⟨o, ho, by rw [gI_zero ha]; rfl⟩
    · have hp : 0 < b := by omega
      have md := Int.emod_lt_of_pos a hp
      have mn := Int.emod_nonneg a (show b ≠ 0 by omega)
      obtain ⟨o', ho', e⟩ := gcd_loop (d1 := d1) (d2 := d2) n b (a % b) (some (.d (.int (a % b)))) nM_d hb mn (by omega)
      refine ⟨o', ho', ?_⟩
      rw [decide_eq_false hz]
      have bd : dSeq (dAsg (dOp fMod (dVar 2) (dVar 3)) (dN 4)) (dSeq (dAsg (dVar 3) (dN 2)) (dAsg (dVar 4) (dN 3))) (st a b o) = some (.nx (st b (a % b) (some (.d (.int (a % b)))))) := by
        refine (seq_nx (τ1 := st a b (some (.d (.int (a % b))))) (asg_nx (d := .int (a % b)) (τ1 := st a b o) ?_ (dN_eq rfl ho))).trans rfl
        show ((fMod (.int a) (.int b)).map fun d => (d, st a b o)) = _
        rw [modI hp]; rfl
      show ((dSeq _ _ (st a b o)).bind _) = _
      rw [bd]
      show dWh _ _ n (st b (a % b) _) = _
      rw [← gI_mod ha hp]
      exact e
theorem bdA {j : Int} (h1 : -(10 ^ 70) < j) (h2 : j < 10 ^ 70) : Bd 8000 j := by
  have : Bd 240 j := Bd.of (m := 10 ^ 70) (by omega) (by omega) (by decide)
  exact this.mono (by decide)
theorem divM {i j : Int} (h : j ≠ 0) (h1 : -(10 ^ 70) < j) (h2 : j < 10 ^ 70) : fDivM (.int i) (.int j) = some (.int (i.fdiv j)) := if_pos ⟨h, bdA h1 h2⟩
theorem mulA {i j : Int} (h1 : -(10 ^ 70) < i) (h2 : i < 10 ^ 70) (h3 : -(10 ^ 70) < j) (h4 : j < 10 ^ 70) : fMul (.int i) (.int j) = some (.int (i * j)) := mulI (.inr ⟨bdA h1 h2, bdA h3 h4⟩)
theorem pow60 : fPow (.int 10) (.int 60) = some (.int 1000000000000000000000000000000000000000000000000000000000000) := rfl
theorem gI_posA {a b : Int} (hb : b ≠ 0) : 0 < gI a b := by
  unfold gI
  have : 0 < Int.gcd a b := Int.gcd_pos_of_ne_zero_right _ hb
  omega
theorem gI_absR (a b : Int) : gI a (absI b) = gI a b := by
  unfold gI absI
  split
  · rw [Int.gcd_neg]
  · rfl
theorem divisor_eq {t b : Int} : m_common_divisor [.d (.int t), .d (.int b)] = some (.int (gI t b), [.d (.int t), .d (.int b)]) := by
  obtain ⟨o, ho, e⟩ := gcd_loop (d1 := .int t) (d2 := .int b) ((absI b).toNat + 1) (absI t) (absI b) none nM_none (absI_nn t) (absI_nn b) (Nat.lt_succ_self _)
  rw [gI_abs, gI_absR] at e
  unfold m_common_divisor
  refine fun_rt (τ := [some (.d (.int t)), some (.d (.int b)), some (.d (.int (gI t b))), some (.d (.int 0)), o]) ?_ rfl rfl
  refine (seq_nx (τ1 := [some (.d (.int t)), some (.d (.int b)), some (.d (.int (absI t))), none, none]) rfl).trans ?_
  refine (seq_nx (τ1 := [some (.d (.int t)), some (.d (.int b)), some (.d (.int (absI t))), some (.d (.int (absI b))), none]) rfl).trans ?_
  exact (seq_nx e).trans rfl
def dvs (t b : Int) : Int := if b < 0 then -gI t b else gI t b
theorem fraction_eq {t b : Int} (hb : b ≠ 0) (h1 : -(10 ^ 70) < b) (h2 : b < 10 ^ 70) : m_fraction [.d (.int t), .d (.int b)] = some (.tuple [.int (t.fdiv (dvs t b)), .int (b.fdiv (dvs t b))], [.d (.int t), .d (.int b)]) := by
  have gp := gI_posA (a := t) hb
  have gl : gI t b ≤ absI b := by rw [← gI_absR]; exact gI_le (by unfold absI; split <;> omega)
  have ab : absI b < 10 ^ 70 := by unfold absI; split <;> omega
  have dn : dvs t b ≠ 0 := by unfold dvs; split <;> omega
  have dl : -(10 ^ 70) < dvs t b := by unfold dvs; split <;> omega
  have du : dvs t b < 10 ^ 70 := by unfold dvs; split <;> omega
  let st : Option L → DS := fun o => [some (.d (.int t)), some (.d (.int b)), o]
  unfold m_fraction
  refine fun_rt (τ := st (some (.d (.int (dvs t b))))) ?_ rfl rfl
  refine (seq_nx (τ1 := st none) ((ifs_f (τ1 := st none) ?_).trans rfl)).trans ?_
  · show (((fEq (.int b) (.int 0)).map fun d => (d, st none)).bind _) = _
    rw [encI.fEq, decide_eq_false hb]; rfl
  refine (seq_nx (τ1 := st (some (.d (.int (gI t b))))) (asg_nx (call_eq (τ1 := st none) (rs := [.d (.int t), .d (.int b)]) (ds := [.int t, .int b]) rfl rfl divisor_eq) rfl)).trans ?_
  refine (seq_nx (τ1 := st (some (.d (.int (dvs t b))))) ?_).trans ?_
  · by_cases hn : b < 0
    · refine (ifs_t (τ1 := st (some (.d (.int (gI t b))))) ?_).trans ?_
      · show some (decide (b < 0), _) = _
        rw [decide_eq_true hn]
      · unfold dvs
        rw [if_pos hn]; rfl
    · refine (ifs_f (τ1 := st (some (.d (.int (gI t b))))) ?_).trans ?_
      · show some (decide (b < 0), _) = _
        rw [decide_eq_false hn]
      · unfold dvs
        rw [if_neg hn]; rfl
  · refine ret_rt (τ1 := st (some (.d (.int (dvs t b))))) ?_
    have d1 := divM (i := t) dn dl du
    have d2 := divM (i := b) dn dl du
    simp only [st, d1, d2, dFun, dSeq, dAsg, dN, dRet, dNil, dIfS, dPar, dVar, dC, dOp, fI, fAdd, fSub, fLt, fLe, fGt, fGe, fIxT, dTest, dANil, dACons, allD, dTup, dApp, dCall, dCallC, fin_nil, fin_d, fin_c, fin_m, dIxC, dLenC, atI, ixN, sz', Option.bind_some, Option.map_some, List.map_cons, List.map_nil, List.cons_append, List.nil_append, List.length_cons, List.length_nil, List.getElem?_cons_zero, List.getElem?_cons_succ, List.set_cons_zero, List.set_cons_succ, List.replicate_succ, List.replicate_zero, if_true, if_false, reduceIte, Bool.false_eq_true, Nat.reduceAdd, Nat.reduceLT, Int.reduceAdd, Int.reduceLT, Int.reduceLE, Int.reduceToNat, Nat.reduceLeDiff, and_self, Int.toNat_zero, Int.le_refl, Int.natCast_add, Int.cast_ofNat_Int, Nat.zero_add]
theorem frac_facts {t b : Int} (hb : b ≠ 0) : ∃ x y : Int, t.fdiv (dvs t b) = x ∧ b.fdiv (dvs t b) = y ∧ 1 ≤ y ∧ gI x y = 1 ∧ x * b = y * t ∧ absI x ≤ absI t ∧ y ≤ absI b := by
  have gp := gI_posA (a := t) hb
  obtain ⟨u, hu⟩ : gI t b ∣ t := by unfold gI; exact Int.gcd_dvd_left ..
  obtain ⟨v, hv⟩ : gI t b ∣ b := by unfold gI; exact Int.gcd_dvd_right ..
  have cop : Int.gcd u v = 1 := by
    have e : Int.gcd (gI t b * u) (gI t b * v) = Int.gcd t b := by rw [← hu, ← hv]
    rw [Int.gcd_mul_left] at e
    have n : (gI t b).natAbs = Int.gcd t b := by unfold gI; omega
    rw [n] at e
    have p : 0 < Int.gcd t b := Int.gcd_pos_of_ne_zero_right _ hb
    exact Nat.eq_of_mul_eq_mul_left p (by rw [e, Nat.mul_one])
  generalize hg : gI t b = g at *
  by_cases hn : b < 0
  · have hv0 : v < 0 := by
      rcases Int.lt_or_le v 0 with z | z
      · exact z
      · have := Int.mul_nonneg (Int.le_of_lt gp) z
        omega
    have d : dvs t b = -g := by unfold dvs; rw [if_pos hn, hg]
    refine ⟨-u, -v, ?_, ?_, by omega, ?_, ?_, ?_, ?_⟩
    · rw [d, hu, show g * u = -g * -u by rw [Int.neg_mul_neg]]
      exact Int.mul_fdiv_cancel_left _ (by omega)
    · rw [d, hv, show g * v = -g * -v by rw [Int.neg_mul_neg]]
      exact Int.mul_fdiv_cancel_left _ (by omega)
    · unfold gI
      rw [Int.neg_gcd, Int.gcd_neg, cop]; rfl
    · rw [hu, hv, Int.neg_mul, Int.neg_mul]
      simp [Int.mul_comm, Int.mul_left_comm, Int.mul_assoc]
    · rw [hu]
      have : absI (g * u) = g * absI u := by
        unfold absI
        by_cases z : u < 0
        · rw [if_pos z, if_pos (Int.mul_neg_of_pos_of_neg gp z), Int.mul_neg]
        · rw [if_neg z, if_neg (by have := Int.mul_nonneg (Int.le_of_lt gp) (show 0 ≤ u by omega); omega)]
      rw [this]
      have e : absI (-u) = absI u := by unfold absI; split <;> split <;> omega
      rw [e]
      have := Int.mul_le_mul_of_nonneg_right (show 1 ≤ g by omega) (absI_nn u)
      omega
    · rw [show absI b = -b by unfold absI; rw [if_pos hn]]
      have := Int.mul_le_mul_of_nonneg_right (show 1 ≤ g by omega) (show 0 ≤ -v by omega)
      have e : g * -v = -b := by rw [Int.mul_neg, ← hv]
      rw [e] at this
      omega
  · have hv0 : 0 < v := by
      rcases Int.lt_or_le 0 v with z | z
      · exact z
      · have := Int.mul_nonpos_of_nonneg_of_nonpos (Int.le_of_lt gp) z
        omega
    have d : dvs t b = g := by unfold dvs; rw [if_neg hn, hg]
    refine ⟨u, v, ?_, ?_, by omega, ?_, ?_, ?_, ?_⟩
    · rw [d, hu]
      exact Int.mul_fdiv_cancel_left _ (by omega)
    · rw [d, hv]
      exact Int.mul_fdiv_cancel_left _ (by omega)
    · unfold gI
      rw [cop]; rfl
    · rw [hu, hv]
      simp [Int.mul_comm, Int.mul_left_comm, Int.mul_assoc]
    · rw [hu]
      have : absI (g * u) = g * absI u := by
        unfold absI
        by_cases z : u < 0
        · rw [if_pos z, if_pos (Int.mul_neg_of_pos_of_neg gp z), Int.mul_neg]
        · rw [if_neg z, if_neg (by have := Int.mul_nonneg (Int.le_of_lt gp) (show 0 ≤ u by omega); omega)]
      rw [this]
      have := Int.mul_le_mul_of_nonneg_right (show 1 ≤ g by omega) (absI_nn u)
      omega
    · rw [show absI b = b by unfold absI; rw [if_neg hn]]
      have := Int.mul_le_mul_of_nonneg_right (show 1 ≤ g by omega) (show 0 ≤ v by omega)
      rw [← hv] at this
      omega
theorem L_number (v : Int) : ∃ (n w : Int), m_L_number [.m [.int v]] = some (.int n, [.m [.int w]]) ∧ -(10 ^ 60) < n ∧ n < 10 ^ 60 := by
  let st : Option L → Option L → Int → DS := fun k s x => [some (.m [.int x]), k, s]
  have d4 := L_dig (v := v) (m := 4) (by decide) (by decide)
  have d2 := L_dig (v := v / 4) (m := 2) (by decide) (by decide)
  have d6 := L_dig (v := v / 4 / 2) (m := 60) (by decide) (by decide)
  have dB := L_digit (v := v / 4 / 2) (m := 1000000000000000000000000000000000000000000000000000000000000) (by decide) (by decide)
  generalize hs : (1 - 2 * (v / 4 % 2)) = s
  have s1 : s = 1 ∨ s = -1 := by omega
  have hr6 : ∀ r : Int, fMul (.int s) (.int r) = some (.int (s * r)) := fun r => mulI (.inl (.inl ⟨by omega, by omega⟩))
  have m2 : ∀ r : Int, fMul (.int 2) (.int r) = some (.int (2 * r)) := fun r => mulI (.inl (.inl ⟨by decide, by decide⟩))
  have e1 : dAsg (dCallM 0 m_L_digit (dACons (dC (.int 4)) dANil)) (dN 1) (st none none v) = some (.nx (st (some (.d (.int (v % 4)))) none (v / 4))) :=
    asg_nx (τ1 := st none none (v / 4)) (callM_eq (τ1 := st none none v) (rs := [.d (.int 4)]) (ds := [.int 4]) (xs := [.int v]) (xs' := [.int (v / 4)]) (ls := [.d (.int 4)]) rfl rfl rfl d4) rfl
  have e2 : dAsg (dOp fSub (dC (.int 1)) (dOp fMul (dC (.int 2)) (dCallM 0 m_L_digit (dACons (dC (.int 2)) dANil)))) (dN 2) (st (some (.d (.int (v % 4)))) none (v / 4)) = some (.nx (st (some (.d (.int (v % 4)))) (some (.d (.int s))) (v / 4 / 2))) := by
    refine asg_nx (d := .int s) (τ1 := st (some (.d (.int (v % 4)))) none (v / 4 / 2)) (op2 (x := .int 1) (τ1 := st (some (.d (.int (v % 4)))) none (v / 4)) (y := .int (2 * (v / 4 % 2))) rfl (op2 (x := .int 2) (y := .int (v / 4 % 2)) (τ1 := st (some (.d (.int (v % 4)))) none (v / 4)) rfl
      (callM_eq (τ1 := st (some (.d (.int (v % 4)))) none (v / 4)) (rs := [.d (.int 2)]) (ds := [.int 2]) (xs := [.int (v / 4)]) (xs' := [.int (v / 4 / 2)]) (ls := [.d (.int 2)]) rfl rfl rfl d2) (m2 _)) ?_) rfl
    rw [← hs]; rfl
  have tq : ∀ c : Int, dTest (dOp fEq (dVar 1) (dC (.int c))) (st (some (.d (.int (v % 4)))) (some (.d (.int s))) (v / 4 / 2)) = some (decide (v % 4 = c), st (some (.d (.int (v % 4)))) (some (.d (.int s))) (v / 4 / 2)) := fun c =>
    tst (op2 (x := .int (v % 4)) (y := .int c) (τ1 := st (some (.d (.int (v % 4)))) (some (.d (.int s))) (v / 4 / 2)) rfl rfl (encI.fEq _ _))
  unfold m_L_number
  by_cases k0 : v % 4 = 0
  · refine ⟨s * (v / 4 / 2 % 1000000000000000000000000000000000000000000000000000000000000), v / 4 / 2 / 1000000000000000000000000000000000000000000000000000000000000, ?_, ?_⟩
    · refine fun_rt (τ := st (some (.d (.int (v % 4)))) (some (.d (.int s))) (v / 4 / 2 / 1000000000000000000000000000000000000000000000000000000000000)) ?_ rfl rfl
      refine (seq_nx e1).trans ((seq_nx e2).trans (seq_rt ((ifs_t ((tq 0).trans (by rw [decide_eq_true k0]))).trans (ret_rt ?_))))
      refine op2 (x := .int s) (τ1 := st (some (.d (.int (v % 4)))) (some (.d (.int s))) (v / 4 / 2)) rfl (callM_eq (τ1 := st (some (.d (.int (v % 4)))) (some (.d (.int s))) (v / 4 / 2)) (rs := [.d (.int 1000000000000000000000000000000000000000000000000000000000000)]) (ds := [.int 1000000000000000000000000000000000000000000000000000000000000]) (xs := [.int (v / 4 / 2)]) (xs' := [.int (v / 4 / 2 / 1000000000000000000000000000000000000000000000000000000000000)]) (ls := [.d (.int 1000000000000000000000000000000000000000000000000000000000000)]) ?_ rfl rfl dB) (hr6 _)
      exact acc (op2 (x := .int 10) (y := .int 60) (τ1 := st (some (.d (.int (v % 4)))) (some (.d (.int s))) (v / 4 / 2)) rfl rfl pow60) rfl
    · rcases s1 with rfl | rfl <;> omega
  · by_cases k1 : v % 4 = 1
    · refine ⟨0, v / 4 / 2, ?_, by decide, by decide⟩
      refine fun_rt (τ := st (some (.d (.int (v % 4)))) (some (.d (.int s))) (v / 4 / 2)) ?_ rfl rfl
      refine (seq_nx e1).trans ((seq_nx e2).trans ((seq_nx ((ifs_f ((tq 0).trans (by rw [decide_eq_false k0]))).trans rfl)).trans (seq_rt ((ifs_t ((tq 1).trans (by rw [decide_eq_true k1]))).trans rfl))))
    · refine ⟨s * (v / 4 / 2 % 60), v / 4 / 2 / 60, ?_, ?_⟩
      · refine fun_rt (τ := st (some (.d (.int (v % 4)))) (some (.d (.int s))) (v / 4 / 2 / 60)) ?_ rfl rfl
        refine (seq_nx e1).trans ((seq_nx e2).trans ((seq_nx ((ifs_f ((tq 0).trans (by rw [decide_eq_false k0]))).trans rfl)).trans ((seq_nx ((ifs_f ((tq 1).trans (by rw [decide_eq_false k1]))).trans rfl)).trans (ret_rt ?_))))
        exact op2 (x := .int s) (τ1 := st (some (.d (.int (v % 4)))) (some (.d (.int s))) (v / 4 / 2)) rfl (callM_eq (τ1 := st (some (.d (.int (v % 4)))) (some (.d (.int s))) (v / 4 / 2)) (rs := [.d (.int 60)]) (ds := [.int 60]) (xs := [.int (v / 4 / 2)]) (xs' := [.int (v / 4 / 2 / 60)]) (ls := [.d (.int 60)]) rfl rfl rfl d6) (hr6 _)
      · rcases s1 with rfl | rfl <;> omega
theorem divides_loop : ∀ (n : Nat) (a b : Int), 0 ≤ a → 0 ≤ b → b.toNat < n →
    dWh (dTest (dOp fNe (dVar 1) (dC (.int 0)))) (dPar 0 1 (dACons (dVar 1) (dACons (dOp fMod (dVar 0) (dVar 1)) dANil))) n [some (.d (.int a)), some (.d (.int b))] = some (.nx [some (.d (.int (gI a b))), some (.d (.int 0))])
  | 0, a, b, _, _, h => absurd h (Nat.not_lt_zero _)
  | n + 1, a, b, ha, hb, h => by
    let st : Int → Int → DS := fun x y => [some (.d (.int x)), some (.d (.int y))]
    have t : dTest (dOp fNe (dVar 1) (dC (.int 0))) (st a b) = some (!decide (b = 0), st a b) :=
      tst (op2 (x := .int b) (y := .int 0) (τ1 := st a b) rfl rfl (encI.fNe _ _))
    unfold dWh
    rw [show dTest (dOp fNe (dVar 1) (dC (.int 0))) [some (.d (.int a)), some (.d (.int b))] = some (!decide (b = 0), st a b) from t]
    by_cases hz : b = 0
    · subst hz
      rw [gI_zero ha]; rfl
    · have hp : 0 < b := by omega
      have md := Int.emod_lt_of_pos a hp
      have mn := Int.emod_nonneg a (show b ≠ 0 by omega)
      have e := divides_loop n b (a % b) hb mn (by omega)
      rw [decide_eq_false hz]
      have bd : dPar 0 1 (dACons (dVar 1) (dACons (dOp fMod (dVar 0) (dVar 1)) dANil)) (st a b) = some (.nx (st b (a % b))) := by
        have : dACons (dVar 1) (dACons (dOp fMod (dVar 0) (dVar 1)) dANil) (st a b) = some ([.d (.int b), .d (.int (a % b))], st a b) :=
          acc (τ1 := st a b) rfl (acc (τ1 := st a b) (op2 (x := .int a) (y := .int b) (τ1 := st a b) rfl rfl (modI hp)) rfl)
        unfold dPar
        rw [this]; rfl
      show ((dPar 0 1 _ (st a b)).bind _) = _
      rw [bd]
      show dWh _ _ n (st b (a % b)) = _
      rw [← gI_mod ha hp]
      exact e
theorem divides_eq {a b : Int} (ha : 0 ≤ a) (hb : 0 ≤ b) : ∃ ls, m_L_divides [.d (.int a), .d (.int b)] = some (.int (gI a b), ls) := by
  have e := divides_loop (b.toNat + 1) a b ha hb (Nat.lt_succ_self _)
  refine ⟨[.d (.int a), .d (.int b)], ?_⟩
  unfold m_L_divides
  refine fun_rt (τ := [some (.d (.int (gI a b))), some (.d (.int 0))]) ?_ rfl rfl
  exact (seq_nx e).trans rfl
theorem whole_eq (n : Int) : m_L_whole [.d (.int n)] = some (.bool true, [.d (.int n)]) := by
  simp only [m_L_whole, dFun, dSeq, dAsg, dN, dNew, dSetM, dRet, dRetM, dRetN, dExpr, dMt, gAppend, gExtend, gClear, dSetI, dNil, dIfS, dBrk, dCnt, dNever, dFor, dPar, dVar, dC, dOp, dUn, fI, fAdd, fSub, fLt, fLe, fGt, fGe, fNeg, isNo, fIsN, fNotN, fIxL, fIxT, dTest, dTAnd, dTOr, dTNot, dIf, dAnd, dOr, dNot, dChain, dANil, dACons, allD, dTup, dLst, dApp, dCall, dCallM, dCallC, dCallP, dAS, mkL, nMb, isM, isC, dBor, dBorF, dTBor, dYes, dIL, dIT, dR1, dR2, dGNil, dGCons, dGT, fin_nil, fin_d, fin_c, fin_m, fLen, f1, f2, fAbs, fMax2, fMin2, fInt1, fListOf, dRev, dIsi, tyOk_int, isi_int_none, isi_int_bool, isi_int_int, isi_int_str, isi_int_list, isi_int_tuple, tyOk_bool, isi_bool_none, isi_bool_bool, isi_bool_int, isi_bool_str, isi_bool_list, isi_bool_tuple, tyOk_str, isi_str_none, isi_str_bool, isi_str_int, isi_str_str, isi_str_list, isi_str_tuple, tyOk_list, isi_list_none, isi_list_bool, isi_list_int, isi_list_str, isi_list_list, isi_list_tuple, tyOk_tuple, isi_tuple_none, isi_tuple_bool, isi_tuple_int, isi_tuple_str, isi_tuple_list, isi_tuple_tuple, dIxC, dLenC, atI, ixN, okM_none, okM_d, okM_c, okM_m, fixD, fixDs, sz', Option.bind_some, Option.bind_none, Option.map_some, Option.map_none, List.map_cons, List.map_nil, List.cons_append, List.nil_append, List.length_cons, List.length_nil, List.getElem?_cons_zero, List.getElem?_cons_succ, List.set_cons_zero, List.set_cons_succ, List.replicate_succ, List.replicate_zero, List.all_cons, List.all_nil, Bool.and_self, Bool.and_true, Bool.true_and, Bool.false_and, Bool.and_false, Bool.or_true, Bool.true_or, Bool.false_or, Bool.or_false, Bool.not_true, Bool.not_false, if_true, if_false, reduceIte, Bool.false_eq_true, Nat.reduceAdd, Nat.reduceLT, Nat.reduceSub, Nat.reduceMul, Int.reduceEq, Int.reduceSub, Int.reduceMul, Int.reducePow, Int.reduceDiv, Int.reduceMod, Nat.reduceLeDiff, Nat.reduceEqDiff, and_self, and_true, true_and, Int.natCast_add, Int.reduceAdd, Int.reduceLT, Int.reduceLE, Int.reduceToNat, Int.reduceNeg, Int.toNat_zero, Int.toNat_one, Int.zero_lt_one, Int.le_refl, Int.reduceNegSucc, Int.cast_ofNat_Int, Nat.zero_add, Nat.add_zero]
theorem right_eq {t b : Int} (hb : b ≠ 0) (t1 : -(10 ^ 65) < t) (t2 : t < 10 ^ 65) (b1 : -(10 ^ 65) < b) (b2 : b < 10 ^ 65) : ∃ ls, m_L_right [.d (.int t), .d (.int b)] = some (.bool true, ls) := by
  obtain ⟨x, y, ex, ey, y1, cop, pr, xl, yl⟩ := frac_facts (t := t) hb
  have f := fraction_eq (t := t) hb (by omega) (by omega)
  rw [ex, ey] at f
  have xa : absI x < 10 ^ 65 := by have : absI t < 10 ^ 65 := by { unfold absI; split <;> omega }; omega
  have xb : -(10 ^ 65) < x ∧ x < 10 ^ 65 := by unfold absI at xa; split at xa <;> omega
  have yb : y < 10 ^ 65 := by have : absI b < 10 ^ 65 := by { unfold absI; split <;> omega }; omega
  obtain ⟨ld, dv⟩ := divides_eq (a := absI x) (b := y) (absI_nn x) (by omega)
  rw [gI_abs, cop] at dv
  let told : PyData := .tuple [.int x, .int y]
  let st : Option L → DS := fun o => [some (.d (.int t)), some (.d (.int b)), o]
  let s1 : DS := st (some (.d told))
  have i0 : dOp fIxT (dVar 2) (dC (.int 0)) s1 = some (.int x, s1) := rfl
  have i1 : dOp fIxT (dVar 2) (dC (.int 1)) s1 = some (.int y, s1) := rfl
  refine ⟨[.d (.int t), .d (.int b)], ?_⟩
  unfold m_L_right
  refine fun_rt (τ := s1) ?_ rfl rfl
  refine (seq_nx (τ1 := s1) (asg_nx (call_eq (τ1 := st none) (rs := [.d (.int t), .d (.int b)]) (ds := [.int t, .int b]) rfl rfl f) rfl)).trans ?_
  refine (seq_nx (τ1 := s1) ((ifs_f (τ1 := s1) (orFF (τ1 := s1) (tnot (b := true) (tst ?_)) (orFF (τ1 := s1) (tst (op2 (x := .int 2) (y := .int 2) (τ1 := s1) rfl rfl (encI.fNe _ _))) (orFF (τ1 := s1)
    (tnot (b := true) (tst (call_eq (τ1 := s1) (rs := [.d (.int x)]) (ds := [.int x]) (acc i0 rfl) rfl (whole_eq x)))) (tnot (b := true) (tst (call_eq (τ1 := s1) (rs := [.d (.int y)]) (ds := [.int y]) (acc i1 rfl) rfl (whole_eq y)))))))).trans rfl)).trans ?_
  · simp only [s1, st, told, dFun, dSeq, dAsg, dN, dNew, dSetM, dRet, dRetM, dRetN, dExpr, dMt, gAppend, gExtend, gClear, dSetI, dNil, dIfS, dBrk, dCnt, dNever, dFor, dPar, dVar, dC, dOp, dUn, fI, fAdd, fSub, fLt, fLe, fGt, fGe, fNeg, isNo, fIsN, fNotN, fIxL, fIxT, dTest, dTAnd, dTOr, dTNot, dIf, dAnd, dOr, dNot, dChain, dANil, dACons, allD, dTup, dLst, dApp, dCall, dCallM, dCallC, dCallP, dAS, mkL, nMb, isM, isC, dBor, dBorF, dTBor, dYes, dIL, dIT, dR1, dR2, dGNil, dGCons, dGT, fin_nil, fin_d, fin_c, fin_m, fLen, f1, f2, fAbs, fMax2, fMin2, fInt1, fListOf, dRev, dIsi, tyOk_int, isi_int_none, isi_int_bool, isi_int_int, isi_int_str, isi_int_list, isi_int_tuple, tyOk_bool, isi_bool_none, isi_bool_bool, isi_bool_int, isi_bool_str, isi_bool_list, isi_bool_tuple, tyOk_str, isi_str_none, isi_str_bool, isi_str_int, isi_str_str, isi_str_list, isi_str_tuple, tyOk_list, isi_list_none, isi_list_bool, isi_list_int, isi_list_str, isi_list_list, isi_list_tuple, tyOk_tuple, isi_tuple_none, isi_tuple_bool, isi_tuple_int, isi_tuple_str, isi_tuple_list, isi_tuple_tuple, dIxC, dLenC, atI, ixN, okM_none, okM_d, okM_c, okM_m, fixD, fixDs, sz', Option.bind_some, Option.bind_none, Option.map_some, Option.map_none, List.map_cons, List.map_nil, List.cons_append, List.nil_append, List.length_cons, List.length_nil, List.getElem?_cons_zero, List.getElem?_cons_succ, List.set_cons_zero, List.set_cons_succ, List.replicate_succ, List.replicate_zero, List.all_cons, List.all_nil, Bool.and_self, Bool.and_true, Bool.true_and, Bool.false_and, Bool.and_false, Bool.or_true, Bool.true_or, Bool.false_or, Bool.or_false, Bool.not_true, Bool.not_false, if_true, if_false, reduceIte, Bool.false_eq_true, Nat.reduceAdd, Nat.reduceLT, Nat.reduceSub, Nat.reduceMul, Int.reduceEq, Int.reduceSub, Int.reduceMul, Int.reducePow, Int.reduceDiv, Int.reduceMod, Nat.reduceLeDiff, Nat.reduceEqDiff, and_self, and_true, true_and, Int.natCast_add, Int.reduceAdd, Int.reduceLT, Int.reduceLE, Int.reduceToNat, Int.reduceNeg, Int.toNat_zero, Int.toNat_one, Int.zero_lt_one, Int.le_refl, Int.reduceNegSucc, Int.cast_ofNat_Int, Nat.zero_add, Nat.add_zero]
  refine (seq_nx (τ1 := s1) ((ifs_f (τ1 := s1) (orFF (τ1 := s1) (tst (op2 (x := .int y) (y := .int 1) (r := .bool false) (τ1 := s1) i1 rfl ?_)) (tst (op2 (x := .int 1) (y := .int 1) (τ1 := s1)
    (call_eq (τ1 := s1) (rs := [.d (.int (absI x)), .d (.int y)]) (ds := [.int (absI x), .int y]) (acc (τ1 := s1) rfl (acc i1 rfl)) rfl dv) rfl (encI.fNe _ _))))).trans rfl)).trans ?_
  · show some (PyData.bool (decide (y < 1))) = _
    rw [decide_eq_false (by omega)]
  refine ret_rt ?_
  refine op2 (x := .int (x * b)) (y := .int (y * t)) (τ1 := s1) (op2 (x := .int x) (y := .int b) (τ1 := s1) i0 rfl (mulA (by omega) (by omega) (by omega) (by omega))) (op2 (x := .int y) (y := .int t) (τ1 := s1) i1 rfl (mulA (by omega) (by omega) (by omega) (by omega))) ?_
  rw [encI.fEq, decide_eq_true pr]
theorem tandF {a b : DT} {τ τ1 : DS} (h : a τ = some (false, τ1)) : dTAnd a b τ = some (false, τ1) := by
  unfold dTAnd
  rw [h]; rfl
theorem tandT {a b : DT} {τ τ1 : DS} (h : a τ = some (true, τ1)) : dTAnd a b τ = b τ1 := by
  unfold dTAnd
  rw [h]; rfl
def lawBody : DB := dSeq (dAsg (dCallM 1 m_L_number dANil) (dN 3)) (dSeq (dAsg (dCallM 1 m_L_number dANil) (dN 4)) (dSeq (dAsg (dOp fAdd (dC (.int 1)) (dCallM 1 m_L_digit (dACons (dC (.int 40)) dANil))) (dN 5)) (dSeq (dIfS (dTOr (dTNot (dTest (dCall m_L_refused (dACons (dVar 3) dANil)))) (dTAnd (dTest (dOp fNe (dVar 4) (dC (.int 0)))) (dTNot (dTest (dCall m_L_right (dACons (dOp fMul (dVar 3) (dVar 5)) (dACons (dOp fMul (dVar 4) (dVar 5)) dANil))))))) (dRet (dC (.bool false))) dNil) (dIfS (dTAnd (dTest (dOp fNe (dVar 3) (dC (.int 0)))) (dTNot (dTest (dCall m_L_right (dACons (dVar 4) (dACons (dVar 3) dANil)))))) (dRet (dC (.bool false))) dNil))))
theorem body_eq {c : List PyData} {v : Int} {k o3 o4 o5 : Option L} (h3 : nM o3) (h4 : nM o4) (h5 : nM o5) : ∃ (v' : Int) (p3 p4 p5 : Option L), nM p3 ∧ nM p4 ∧ nM p5 ∧
    lawBody [some (.c c), some (.m [.int v]), k, o3, o4, o5] = some (.nx [some (.c c), some (.m [.int v']), k, p3, p4, p5]) := by
  obtain ⟨t, v1, e1, t1, t2⟩ := L_number v
  obtain ⟨b, v2, e2, b1, b2⟩ := L_number v1
  have e3 := L_dig (v := v2) (m := 40) (by decide) (by decide)
  generalize hp : 1 + v2 % 40 = p
  have p1 : 1 ≤ p := by omega
  have p2 : p ≤ 40 := by omega
  let st : Int → Option L → Option L → Option L → DS := fun x a b d => [some (.c c), some (.m [.int x]), k, a, b, d]
  let T : Option L := some (.d (.int t))
  let B : Option L := some (.d (.int b))
  let P : Option L := some (.d (.int p))
  let s3 : DS := st (v2 / 40) T B P
  refine ⟨v2 / 40, T, B, P, nM_d, nM_d, nM_d, ?_⟩
  unfold lawBody
  refine (seq_nx (τ1 := st v1 T o4 o5) (asg_nx (τ1 := st v1 o3 o4 o5) (callM_eq (τ1 := st v o3 o4 o5) (rs := []) (ds := []) (xs := [.int v]) (xs' := [.int v1]) (ls := []) rfl rfl rfl e1) (dN_eq rfl h3))).trans ?_
  refine (seq_nx (τ1 := st v2 T B o5) (asg_nx (τ1 := st v2 T o4 o5) (callM_eq (τ1 := st v1 T o4 o5) (rs := []) (ds := []) (xs := [.int v1]) (xs' := [.int v2]) (ls := []) rfl rfl rfl e2) (dN_eq rfl h4))).trans ?_
  refine (seq_nx (τ1 := s3) (asg_nx (d := .int p) (τ1 := st (v2 / 40) T B o5) (op2 (x := .int 1) (y := .int (v2 % 40)) (τ1 := st v2 T B o5) rfl (callM_eq (τ1 := st v2 T B o5) (rs := [.d (.int 40)]) (ds := [.int 40]) (xs := [.int v2]) (xs' := [.int (v2 / 40)]) (ls := [.d (.int 40)]) rfl rfl rfl e3) (by rw [← hp]; rfl)) (dN_eq rfl h5))).trans ?_
  have m1 : fMul (.int t) (.int p) = some (.int (t * p)) := mulI (.inl (.inr ⟨by omega, by omega⟩))
  have m2 : fMul (.int b) (.int p) = some (.int (b * p)) := mulI (.inl (.inr ⟨by omega, by omega⟩))
  have bd : ∀ x : Int, -(10 ^ 60) < x → x < 10 ^ 60 → -(10 ^ 65) < x * p ∧ x * p < 10 ^ 65 := fun x x1 x2 => by
    have a1 : x * p ≤ 10 ^ 60 * 40 := by
      rcases Int.lt_or_le x 0 with z | z
      · have := Int.mul_nonpos_of_nonpos_of_nonneg (Int.le_of_lt z) (show 0 ≤ p by omega)
        omega
      · exact Int.mul_le_mul (by omega) p2 (by omega) (by decide)
    have a2 : -x * p ≤ 10 ^ 60 * 40 := by
      rcases Int.lt_or_le (-x) 0 with z | z
      · have := Int.mul_nonpos_of_nonpos_of_nonneg (Int.le_of_lt z) (show 0 ≤ p by omega)
        omega
      · exact Int.mul_le_mul (by omega) p2 (by omega) (by decide)
    rw [Int.neg_mul] at a2
    omega
  refine (seq_nx (τ1 := s3) ((ifs_f (τ1 := s3) (orFF (τ1 := s3) (tnot (b := true) (tst (call_eq (τ1 := s3) (rs := [.d (.int t)]) (ds := [.int t]) rfl rfl rfl))) ?_)).trans rfl)).trans ?_
  · by_cases hb : b = 0
    · exact tandF (tst (op2 (x := .int b) (y := .int 0) (τ1 := s3) rfl rfl (by rw [encI.fNe, decide_eq_true hb]; rfl)))
    · refine (tandT (τ1 := s3) (tst (op2 (x := .int b) (y := .int 0) (τ1 := s3) rfl rfl (by rw [encI.fNe, decide_eq_false hb]; rfl)))).trans ?_
      obtain ⟨ls, r⟩ := right_eq (t := t * p) (b := b * p) (Int.mul_ne_zero hb (by omega)) (bd t t1 t2).1 (bd t t1 t2).2 (bd b b1 b2).1 (bd b b1 b2).2
      exact tnot (b := true) (tst (call_eq (τ1 := s3) (rs := [.d (.int (t * p)), .d (.int (b * p))]) (ds := [.int (t * p), .int (b * p)]) (acc (τ1 := s3) (op2 (x := .int t) (y := .int p) (τ1 := s3) rfl rfl m1) (acc (τ1 := s3) (op2 (x := .int b) (y := .int p) (τ1 := s3) rfl rfl m2) rfl)) rfl r))
  · refine (ifs_f (τ1 := s3) ?_).trans rfl
    by_cases ht : t = 0
    · exact tandF (tst (op2 (x := .int t) (y := .int 0) (τ1 := s3) rfl rfl (by rw [encI.fNe, decide_eq_true ht]; rfl)))
    · refine (tandT (τ1 := s3) (tst (op2 (x := .int t) (y := .int 0) (τ1 := s3) rfl rfl (by rw [encI.fNe, decide_eq_false ht]; rfl)))).trans ?_
      obtain ⟨ls, r⟩ := right_eq (t := b) (b := t) ht (by omega) (by omega) (by omega) (by omega)
      exact tnot (b := true) (tst (call_eq (τ1 := s3) (rs := [.d (.int b), .d (.int t)]) (ds := [.int b, .int t]) rfl rfl r))
theorem m_law_holds (ns : List Int) (_ : ns.length ≤ 63) : ∃ ls, m_law [.c (ns.map .int)] = some (.bool true, ls) := by
  obtain ⟨v, lv, ev⟩ := L_big (ns := ns) (k := 0) (by decide)
  let st : Int → Option L → Option L → Option L → Option L → DS := fun x k a b d => [some (.c (ns.map .int)), some (.m [.int x]), k, a, b, d]
  have lp : ∃ τ', dLoop (dN 2) lawBody ((rng 0 6).map PyData.int) (st v none none none none) = some (.nx τ') ∧ ∃ (x : Int) (k a b d : Option L), nM k ∧ nM a ∧ nM b ∧ nM d ∧ τ' = st x k a b d := by
    refine loop_pre (fun _ τ => ∃ (x : Int) (k a b d : Option L), nM k ∧ nM a ∧ nM b ∧ nM d ∧ τ = st x k a b d) ⟨v, none, none, none, none, nM_none, nM_none, nM_none, nM_none, rfl⟩ ?_
    rintro pre j post τ hx ⟨x, k, a, b, d, nk, na, nb, nd, rfl⟩
    obtain ⟨x', p3, p4, p5, n3, n4, n5, e⟩ := body_eq (c := ns.map .int) (v := x) (k := some (.d (.int j))) na nb nd
    exact ⟨_, _, dN_eq rfl nk, e, x', _, p3, p4, p5, nM_d, n3, n4, n5, rfl⟩
  obtain ⟨τ', e, x, k, a, b, d, nk, na, nb, nd, rfl⟩ := lp
  have s0 : dSetM 1 1 (dLst (dACons (dCallC 0 m_L_big (dACons (dC (.int 0)) dANil)) dANil)) [some (.c (ns.map .int)), none, none, none, none, none] = some (.nx (st v none none none none)) := by simp only [st, ev, dFun, dSeq, dAsg, dN, dNew, dSetM, dRet, dRetM, dRetN, dExpr, dMt, gAppend, gExtend, gClear, dSetI, dNil, dIfS, dBrk, dCnt, dNever, dFor, dPar, dVar, dC, dOp, dUn, fI, fAdd, fSub, fLt, fLe, fGt, fGe, fNeg, isNo, fIsN, fNotN, fIxL, fIxT, dTest, dTAnd, dTOr, dTNot, dIf, dAnd, dOr, dNot, dChain, dANil, dACons, allD, dTup, dLst, dApp, dCall, dCallM, dCallC, dCallP, dAS, mkL, nMb, isM, isC, dBor, dBorF, dTBor, dYes, dIL, dIT, dR1, dR2, dGNil, dGCons, dGT, fin_nil, fin_d, fin_c, fin_m, fLen, f1, f2, fAbs, fMax2, fMin2, fInt1, fListOf, dRev, dIsi, tyOk_int, isi_int_none, isi_int_bool, isi_int_int, isi_int_str, isi_int_list, isi_int_tuple, tyOk_bool, isi_bool_none, isi_bool_bool, isi_bool_int, isi_bool_str, isi_bool_list, isi_bool_tuple, tyOk_str, isi_str_none, isi_str_bool, isi_str_int, isi_str_str, isi_str_list, isi_str_tuple, tyOk_list, isi_list_none, isi_list_bool, isi_list_int, isi_list_str, isi_list_list, isi_list_tuple, tyOk_tuple, isi_tuple_none, isi_tuple_bool, isi_tuple_int, isi_tuple_str, isi_tuple_list, isi_tuple_tuple, dIxC, dLenC, atI, ixN, okM_none, okM_d, okM_c, okM_m, fixD, fixDs, sz', Option.bind_some, Option.bind_none, Option.map_some, Option.map_none, List.map_cons, List.map_nil, List.cons_append, List.nil_append, List.length_cons, List.length_nil, List.getElem?_cons_zero, List.getElem?_cons_succ, List.set_cons_zero, List.set_cons_succ, List.replicate_succ, List.replicate_zero, List.all_cons, List.all_nil, Bool.and_self, Bool.and_true, Bool.true_and, Bool.false_and, Bool.and_false, Bool.or_true, Bool.true_or, Bool.false_or, Bool.or_false, Bool.not_true, Bool.not_false, if_true, if_false, reduceIte, Bool.false_eq_true, Nat.reduceAdd, Nat.reduceLT, Nat.reduceSub, Nat.reduceMul, Int.reduceEq, Int.reduceSub, Int.reduceMul, Int.reducePow, Int.reduceDiv, Int.reduceMod, Nat.reduceLeDiff, Nat.reduceEqDiff, and_self, and_true, true_and, Int.natCast_add, Int.reduceAdd, Int.reduceLT, Int.reduceLE, Int.reduceToNat, Int.reduceNeg, Int.toNat_zero, Int.toNat_one, Int.zero_lt_one, Int.le_refl, Int.reduceNegSucc, Int.cast_ofNat_Int, Nat.zero_add, Nat.add_zero]
  have hr : dR1 (dACons (dC (.int 6)) dANil) (st v none none none none) = some ((rng 0 6).map PyData.int, st v none none none none) := by
    rw [← rangeD_eq]; rfl
  refine ⟨[.c (ns.map .int)], ?_⟩
  unfold m_law
  refine fun_rt (τ := st x k a b d) ?_ rfl rfl
  refine (seq_nx s0).trans ?_
  exact (seq_nx ((for_eq hr).trans e)).trans rfl
theorem all_mk {l : PySem.W.OpenLaw} {w : World} {K : PySem.W.Frag} {h : Heap} {mg : Str → Option Value} {fa : Addr} (X : K.In h) (G : h.Ns mainGlobals mg) (hfa : mg "law" = some (.ref fa))
    {f0 : Addr} {od0 an0 : Option Addr} {sl0 : Array (Option Value)} {oc0 kV0 dc0 pm0 cd0 ct0 : Value}
    (a0 : PySem.W.nsIn K mainGlobals "_law_cell_at" = some (some (.ref f0))) (l0 : K.lookup f0 = some ⟨oc0, od0, .func (PySem.W.fnOf "_law_cell_at" "_law_cell_at" (defArgs s_L_cell_at) (defBody s_L_cell_at) (defScope s_L_cell_at) .none kV0 dc0 pm0 an0 cd0 ct0), sl0⟩) (c0 : PySem.W.codeIn K cd0 "_law_cell_at" = true) (k0 : PySem.W.keepIn K (.ref f0) = true)
    {f1 : Addr} {od1 an1 : Option Addr} {sl1 : Array (Option Value)} {oc1 kV1 dc1 pm1 cd1 ct1 : Value}
    (a1 : PySem.W.nsIn K mainGlobals "_law_big" = some (some (.ref f1))) (l1 : K.lookup f1 = some ⟨oc1, od1, .func (PySem.W.fnOf "_law_big" "_law_big" (defArgs s_L_big) (defBody s_L_big) (defScope s_L_big) .none kV1 dc1 pm1 an1 cd1 ct1), sl1⟩) (c1 : PySem.W.codeIn K cd1 "_law_big" = true) (k1 : PySem.W.keepIn K (.ref f1) = true)
    {f2 : Addr} {od2 an2 : Option Addr} {sl2 : Array (Option Value)} {oc2 kV2 dc2 pm2 cd2 ct2 : Value}
    (a2 : PySem.W.nsIn K mainGlobals "_law_digit" = some (some (.ref f2))) (l2 : K.lookup f2 = some ⟨oc2, od2, .func (PySem.W.fnOf "_law_digit" "_law_digit" (defArgs s_L_digit) (defBody s_L_digit) (defScope s_L_digit) .none kV2 dc2 pm2 an2 cd2 ct2), sl2⟩) (c2 : PySem.W.codeIn K cd2 "_law_digit" = true) (k2 : PySem.W.keepIn K (.ref f2) = true)
    {f3 : Addr} {od3 an3 : Option Addr} {sl3 : Array (Option Value)} {oc3 kV3 dc3 pm3 cd3 ct3 : Value}
    (a3 : PySem.W.nsIn K mainGlobals "_law_number" = some (some (.ref f3))) (l3 : K.lookup f3 = some ⟨oc3, od3, .func (PySem.W.fnOf "_law_number" "_law_number" (defArgs s_L_number) (defBody s_L_number) (defScope s_L_number) .none kV3 dc3 pm3 an3 cd3 ct3), sl3⟩) (c3 : PySem.W.codeIn K cd3 "_law_number" = true) (k3 : PySem.W.keepIn K (.ref f3) = true)
    {f4 : Addr} {od4 an4 : Option Addr} {sl4 : Array (Option Value)} {oc4 kV4 dc4 pm4 cd4 ct4 : Value}
    (a4 : PySem.W.nsIn K mainGlobals "common_divisor" = some (some (.ref f4))) (l4 : K.lookup f4 = some ⟨oc4, od4, .func (PySem.W.fnOf "common_divisor" "common_divisor" (defArgs s_common_divisor) (defBody s_common_divisor) (defScope s_common_divisor) .none kV4 dc4 pm4 an4 cd4 ct4), sl4⟩) (c4 : PySem.W.codeIn K cd4 "common_divisor" = true) (k4 : PySem.W.keepIn K (.ref f4) = true)
    {f5 : Addr} {od5 an5 : Option Addr} {sl5 : Array (Option Value)} {oc5 kV5 dc5 pm5 cd5 ct5 : Value}
    (a5 : PySem.W.nsIn K mainGlobals "fraction" = some (some (.ref f5))) (l5 : K.lookup f5 = some ⟨oc5, od5, .func (PySem.W.fnOf "fraction" "fraction" (defArgs s_fraction) (defBody s_fraction) (defScope s_fraction) .none kV5 dc5 pm5 an5 cd5 ct5), sl5⟩) (c5 : PySem.W.codeIn K cd5 "fraction" = true) (k5 : PySem.W.keepIn K (.ref f5) = true)
    {f6 : Addr} {od6 an6 : Option Addr} {sl6 : Array (Option Value)} {oc6 kV6 dc6 pm6 cd6 ct6 : Value}
    (a6 : PySem.W.nsIn K mainGlobals "_law_refused" = some (some (.ref f6))) (l6 : K.lookup f6 = some ⟨oc6, od6, .func (PySem.W.fnOf "_law_refused" "_law_refused" (defArgs s_L_refused) (defBody s_L_refused) (defScope s_L_refused) .none kV6 dc6 pm6 an6 cd6 ct6), sl6⟩) (c6 : PySem.W.codeIn K cd6 "_law_refused" = true) (k6 : PySem.W.keepIn K (.ref f6) = true)
    {f7 : Addr} {od7 an7 : Option Addr} {sl7 : Array (Option Value)} {oc7 kV7 dc7 pm7 cd7 ct7 : Value}
    (a7 : PySem.W.nsIn K mainGlobals "_law_whole" = some (some (.ref f7))) (l7 : K.lookup f7 = some ⟨oc7, od7, .func (PySem.W.fnOf "_law_whole" "_law_whole" (defArgs s_L_whole) (defBody s_L_whole) (defScope s_L_whole) .none kV7 dc7 pm7 an7 cd7 ct7), sl7⟩) (c7 : PySem.W.codeIn K cd7 "_law_whole" = true) (k7 : PySem.W.keepIn K (.ref f7) = true)
    {f8 : Addr} {od8 an8 : Option Addr} {sl8 : Array (Option Value)} {oc8 kV8 dc8 pm8 cd8 ct8 : Value}
    (a8 : PySem.W.nsIn K mainGlobals "_law_divides" = some (some (.ref f8))) (l8 : K.lookup f8 = some ⟨oc8, od8, .func (PySem.W.fnOf "_law_divides" "_law_divides" (defArgs s_L_divides) (defBody s_L_divides) (defScope s_L_divides) .none kV8 dc8 pm8 an8 cd8 ct8), sl8⟩) (c8 : PySem.W.codeIn K cd8 "_law_divides" = true) (k8 : PySem.W.keepIn K (.ref f8) = true)
    {f9 : Addr} {od9 an9 : Option Addr} {sl9 : Array (Option Value)} {oc9 kV9 dc9 pm9 cd9 ct9 : Value}
    (a9 : PySem.W.nsIn K mainGlobals "_law_right" = some (some (.ref f9))) (l9 : K.lookup f9 = some ⟨oc9, od9, .func (PySem.W.fnOf "_law_right" "_law_right" (defArgs s_L_right) (defBody s_L_right) (defScope s_L_right) .none kV9 dc9 pm9 an9 cd9 ct9), sl9⟩) (c9 : PySem.W.codeIn K cd9 "_law_right" = true) (k9 : PySem.W.keepIn K (.ref f9) = true)
    {f10 : Addr} {od10 an10 : Option Addr} {sl10 : Array (Option Value)} {oc10 kV10 dc10 pm10 cd10 ct10 : Value}
    (a10 : PySem.W.nsIn K mainGlobals "law" = some (some (.ref f10))) (l10 : K.lookup f10 = some ⟨oc10, od10, .func (PySem.W.fnOf "law" "law" (defArgs s_law) (defBody s_law) (defScope s_law) .none kV10 dc10 pm10 an10 cd10 ct10), sl10⟩) (c10 : PySem.W.codeIn K cd10 "law" = true) (k10 : PySem.W.keepIn K (.ref f10) = true)
    (z_ValueError : PySem.W.nsIn K mainGlobals "ValueError" = some none)
    (z_abs : PySem.W.nsIn K mainGlobals "abs" = some none)
    (z_bool : PySem.W.nsIn K mainGlobals "bool" = some none)
    (z_int : PySem.W.nsIn K mainGlobals "int" = some none)
    (z_isinstance : PySem.W.nsIn K mainGlobals "isinstance" = some none)
    (z_len : PySem.W.nsIn K mainGlobals "len" = some none)
    (z_range : PySem.W.nsIn K mainGlobals "range" = some none)
    (z_tuple : PySem.W.nsIn K mainGlobals "tuple" = some none)
    {cNS cSE cNN cNP cNR cNT : Addr} {cdC cdD : ClassData}
    (aNS : PySem.W.nsIn K mainGlobals "NoShare" = some (some (.ref cNS)))
    (aSE : PySem.W.nsIn K mainGlobals "SceneError" = some (some (.ref cSE)))
    (aNN : PySem.W.nsIn K mainGlobals "NoName" = some (some (.ref cNN)))
    (aNP : PySem.W.nsIn K mainGlobals "NoPart" = some (some (.ref cNP)))
    (aNR : PySem.W.nsIn K mainGlobals "NoRow" = some (some (.ref cNR)))
    (aNT : PySem.W.nsIn K mainGlobals "NoText" = some (some (.ref cNT)))
    (qNS : PySem.W.excIn K cNS [.type "ValueError", .type "Exception", .type "BaseException", .type "object"] "ValueError.__new__" = true)
    (x1 : PySem.W.findIn K (.ref cNS) "__getattribute__" = some (some (.builtin "BaseException.__getattribute__")))
    (x2 : PySem.W.findIn K (.ref cNS) "__getattr__" = some none)
    (x3 : PySem.W.clsIn K cNS = some cdC)
    (x4 : PySem.W.findIn K (.ref cNS) "__class__" = some (some (.builtin "object.__class__")))
    (x5 : PySem.W.specialIn K (.builtin "object.__class__") "__get__" = some (some (.builtin "getset_descriptor.__get__")))
    (x6 : PySem.W.takesIn K (.builtin "object.__class__") = some true)
    (x7 : PySem.W.mroIn K cNS (.type "object") = some true)
    (x8 : PySem.W.mroIn K cNS (.type "BaseException") = some true)
    (y1 : PySem.W.typeIn K (.ref cNS) = some (.type "type"))
    (y3 : PySem.W.subIn K (.ref cNS) (.ref cNS) = some true)
    (y4 : PySem.W.subIn K (.ref cNS) (.type "BaseException") = some true)
    (w1 : PySem.W.typeIn K (.ref cSE) = some (.type "type"))
    (w2 : PySem.W.clsIn K cSE = some cdD)
    (w3 : PySem.W.subIn K (.ref cNS) (.ref cSE) = some true)
    (w4 : PySem.W.subIn K (.ref cSE) (.type "BaseException") = some true)
    (kk1 : PySem.W.kitOne K (.ref cNS) (.type "ValueError") = some true)
    (kk2 : PySem.W.kitAny K (.ref cNS) [.ref cNN, .ref cNP, .ref cNR, .ref cNT] = some false)
    : ∃ fd : FuncData, (∀ (s : Shared) (v : Value), BindsTo s fd ⟨[v], []⟩ [("_law_script", v)]) ∧ ∀ base : Heap, K.In base → base.Ns mainGlobals mg → FnOk l.prog w K mg base CX0 4 fa fd ["_law_script"] (spD K m_law false) := by
  have e := hfa.symm.trans (PySem.W.mg_of X G a10)
  cases e
  have F0 := fun_mk (st := s_L_cell_at) l0 c0 k0
  have F1 := fun_mk (st := s_L_big) l1 c1 k1
  have F2 := fun_mk (st := s_L_digit) l2 c2 k2
  have F3 := fun_mk (st := s_L_number) l3 c3 k3
  have F4 := fun_mk (st := s_common_divisor) l4 c4 k4
  have F5 := fun_mk (st := s_fraction) l5 c5 k5
  have F6 := fun_mk (st := s_L_refused) l6 c6 k6
  have F7 := fun_mk (st := s_L_whole) l7 c7 k7
  have F8 := fun_mk (st := s_L_divides) l8 c8 k8
  have F9 := fun_mk (st := s_L_right) l9 c9 k9
  have F10 := fun_mk (st := s_law) l10 c10 k10
  have b0 := F0.binds (ps := ["_law_script", "_law_k"]) fun _ _ _ _ _ _ us hl => match us, hl with | [_, _], _ => rfl
  have b1 := F1.binds (ps := ["_law_script", "_law_at"]) fun _ _ _ _ _ _ us hl => match us, hl with | [_, _], _ => rfl
  have b2 := F2.binds (ps := ["_law_rest", "_law_many"]) fun _ _ _ _ _ _ us hl => match us, hl with | [_, _], _ => rfl
  have b3 := F3.binds (ps := ["_law_rest"]) fun _ _ _ _ _ _ us hl => match us, hl with | [_], _ => rfl
  have b4 := F4.binds (ps := ["one", "other"]) fun _ _ _ _ _ _ us hl => match us, hl with | [_, _], _ => rfl
  have b5 := F5.binds (ps := ["top", "bottom"]) fun _ _ _ _ _ _ us hl => match us, hl with | [_, _], _ => rfl
  have b6 := F6.binds (ps := ["_law_top"]) fun _ _ _ _ _ _ us hl => match us, hl with | [_], _ => rfl
  have b7 := F7.binds (ps := ["_law_found"]) fun _ _ _ _ _ _ us hl => match us, hl with | [_], _ => rfl
  have b8 := F8.binds (ps := ["_law_one", "_law_other"]) fun _ _ _ _ _ _ us hl => match us, hl with | [_, _], _ => rfl
  have b9 := F9.binds (ps := ["_law_top", "_law_bottom"]) fun _ _ _ _ _ _ us hl => match us, hl with | [_, _], _ => rfl
  have y_ValueError := PySem.W.mg_none_of X G z_ValueError
  have y_abs := PySem.W.mg_none_of X G z_abs
  have y_bool := PySem.W.mg_none_of X G z_bool
  have y_int := PySem.W.mg_none_of X G z_int
  have y_isinstance := PySem.W.mg_none_of X G z_isinstance
  have y_len := PySem.W.mg_none_of X G z_len
  have y_range := PySem.W.mg_none_of X G z_range
  have y_tuple := PySem.W.mg_none_of X G z_tuple
  refine ⟨PySem.W.fnOf "law" "law" (defArgs s_law) (defBody s_law) (defScope s_law) .none kV10 dc10 pm10 an10 cd10 ct10, fun s v => .of_eq rfl, fun base _ _ => ?_⟩
  have R_L_cell_at : Cal l.prog w K mg base 1 "_law_cell_at" ["_law_script", "_law_k"] (spD K m_L_cell_at false) := Cal.of F0 (ok_L_cell_at F0 y_len) b0 (PySem.W.mg_of X G a0)
  have R_L_digit : Cal l.prog w K mg base 1 "_law_digit" ["_law_rest", "_law_many"] (spD K m_L_digit false) := Cal.of F2 (ok_L_digit F2) b2 (PySem.W.mg_of X G a2)
  have R_common_divisor : Cal l.prog w K mg base 1 "common_divisor" ["one", "other"] (spD K m_common_divisor false) := Cal.of F4 (ok_common_divisor F4 y_abs) b4 (PySem.W.mg_of X G a4)
  have R_L_whole : Cal l.prog w K mg base 1 "_law_whole" ["_law_found"] (spD K m_L_whole false) := Cal.of F7 (ok_L_whole F7 y_bool y_isinstance y_int) b7 (PySem.W.mg_of X G a7)
  have R_L_divides : Cal l.prog w K mg base 1 "_law_divides" ["_law_one", "_law_other"] (spD K m_L_divides false) := Cal.of F8 (ok_L_divides F8) b8 (PySem.W.mg_of X G a8)
  have R_L_big : Cal l.prog w K mg base 2 "_law_big" ["_law_script", "_law_at"] (spD K m_L_big false) := Cal.of F1 (ok_L_big F1 (R_L_cell_at.mono (by decide)) y_range) b1 (PySem.W.mg_of X G a1)
  have R_L_number : Cal l.prog w K mg base 2 "_law_number" ["_law_rest"] (spD K m_L_number false) := Cal.of F3 (ok_L_number F3 (R_L_digit.mono (by decide))) b3 (PySem.W.mg_of X G a3)
  have R_fraction : Cal l.prog w K mg base 2 "fraction" ["top", "bottom"] (spD K m_fraction false) := Cal.of F5 (ok_fraction F5 (R_common_divisor.mono (by decide))) b5 (PySem.W.mg_of X G a5)
  have R_L_refused : Cal l.prog w K mg base 3 "_law_refused" ["_law_top"] (spD K m_L_refused false) := Cal.of F6 (ok_L_refused F6 (ok_fractionX F5 (PySem.W.mg_of X G aNS) qNS) (PySem.W.mg_of X G a5) k5 b5 (PySem.W.mg_of X G aNS) (PySem.W.mg_of X G aSE) (PySem.W.mg_of X G aNN) (PySem.W.mg_of X G aNP) (PySem.W.mg_of X G aNR) (PySem.W.mg_of X G aNT) ⟨y1, by rw [x3]; rfl, y3, y4⟩ ⟨w1, by rw [w2]; rfl, w3, w4⟩ ⟨x1, x2, by rw [x3]; rfl, x4, x5, x6, x7, x8⟩ kk1 kk2 y_isinstance y_ValueError) b6 (PySem.W.mg_of X G a6)
  have R_L_right : Cal l.prog w K mg base 3 "_law_right" ["_law_top", "_law_bottom"] (spD K m_L_right false) := Cal.of F9 (ok_L_right F9 (R_fraction.mono (by decide)) (R_L_whole.mono (by decide)) (R_L_divides.mono (by decide)) y_len y_tuple y_isinstance y_abs) b9 (PySem.W.mg_of X G a9)
  exact ok_law F10 (R_L_big.mono (by decide)) (R_L_number.mono (by decide)) (R_L_digit.mono (by decide)) (R_L_right.mono (by decide)) (R_L_refused.mono (by decide)) y_range
theorem entry {K : PySem.W.Frag} {H : Hp} {a : Addr} {ns : List Int} {Q : VK} {X : XK} (hS : SqL K H a (ns.map V.int)) (h63 : ns.length ≤ 63) (q : ∀ H', Q (.bl true) H') : spD K m_law false [.ref a] H Q X := by
  obtain ⟨ls, e⟩ := m_law_holds ns h63
  refine ⟨fun _ => False, fun _ => False, [.c (ns.map PyData.int)], .bool true, ls, ⟨rfl, fun i x e => ?_, fun i x e => ?_, fun i x e => ?_, fun i j xs ys b e => ?_, fun _ h => h.elim, fun _ h => h.elim⟩, e, fun v H' _ _ res => ?_⟩
  · match i, e with
    | 0, e => cases e
    | i + 1, e => cases e
  · match i, e with
    | 0, e => exact absurd (Option.some.inj (Option.some.inj e)).symm Ow.not_c
    | i + 1, e => cases e
  · match i, e with
    | 0, e =>
      cases e
      exact ⟨a, ns.map V.int, rfl, cst_same hS, isl_ints ns⟩
    | i + 1, e => cases e
  · match i, e with
    | 0, e => exact absurd (Option.some.inj (Option.some.inj e)).symm Ow.not_c
    | i + 1, e => cases e
  · cases (show v = .bl true from res)
    exact q H'
theorem walk {l : PySem.W.OpenLaw} {q : Program} {loose : List Str} {XP : (Str → Option Value) → Heap → Prop} {YP : World → Heap → Prop} {d : DefRec} {K : Params → PySem.W.Frag} (hn : l.most = some 63) (hdf : d.params.defaults = [])
    (hY : ∀ (w : World) (h : Heap), YP w h → (K w.params).In h)
    (F : ∀ (w : World) (mg : Str → Option Value) (fa : Addr) (h : Heap), (K w.params).In h → h.Ns mainGlobals mg → mg d.name = some (.ref fa) →
      ∃ fd : FuncData, (∀ (s : Shared) (u : Value), BindsTo s fd ⟨[u], []⟩ [("_law_script", u)]) ∧ ∀ base : Heap, (K w.params).In base → base.Ns mainGlobals mg → FnOk l.prog w (K w.params) mg base CX0 4 fa fd ["_law_script"] (spD (K w.params) m_law false)) :
    PySem.W.WalkO q loose XP YP l.row.toRowW d [] (fun f vs => PySem.call f vs) :=
  L2.walk_of (n := 63) (k := 4) (x := "_law_script") (CX := fun _ => CX0) (sp := fun w => spD (K w.params) m_law false) hn (by decide) hdf ⟨rfl, by decide, by decide⟩ hY F (fun _ _ a ns hl _ hS => entry hS hl fun _ => rfl) fun _ _ _ _ _ z => z
end My
open PySem PySem.W PyProof.Rows
set_option maxRecDepth 100000 in
set_option maxHeartbeats 0 in
theorem PySem.Challenge.cw_scenemend_k01_fractions_made_holds : PySem.Challenge.rw_scenemend_k01_fractions_made.Holds := by
  w_on; o_law; k_head; (case hw => w_witness2)
  k_fill
  refine My.walk (l := PySem.Challenge.rw_scenemend_k01_fractions_made) rfl rfl (fun w h Y => PySem.W.kIn_of Y) ?F
  case F =>
    intro w mg fa h KX G hmg
    refine' My.all_mk KX G hmg ?a0 ?l0 ?c0 ?k0 ?a1 ?l1 ?c1 ?k1 ?a2 ?l2 ?c2 ?k2 ?a3 ?l3 ?c3 ?k3 ?a4 ?l4 ?c4 ?k4 ?a5 ?l5 ?c5 ?k5 ?a6 ?l6 ?c6 ?k6 ?a7 ?l7 ?c7 ?k7 ?a8 ?l8 ?c8 ?k8 ?a9 ?l9 ?c9 ?k9 ?a10 ?l10 ?c10 ?k10 ?z_ValueError ?z_abs ?z_bool ?z_int ?z_isinstance ?z_len ?z_range ?z_tuple ?aNS ?aSE ?aNN ?aNP ?aNR ?aNT ?qNS ?x1 ?x2 ?x3 ?x4 ?x5 ?x6 ?x7 ?x8 ?y1 ?y3 ?y4 ?w1 ?w2 ?w3 ?w4 ?kk1 ?kk2
    (case a0 => k_is)
    (case l0 => k_is)
    (case c0 => k_is)
    (case k0 => k_is)
    (case a1 => k_is)
    (case l1 => k_is)
    (case c1 => k_is)
    (case k1 => k_is)
    (case a2 => k_is)
    (case l2 => k_is)
    (case c2 => k_is)
    (case k2 => k_is)
    (case a3 => k_is)
    (case l3 => k_is)
    (case c3 => k_is)
    (case k3 => k_is)
    (case a4 => k_is)
    (case l4 => k_is)
    (case c4 => k_is)
    (case k4 => k_is)
    (case a5 => k_is)
    (case l5 => k_is)
    (case c5 => k_is)
    (case k5 => k_is)
    (case a6 => k_is)
    (case l6 => k_is)
    (case c6 => k_is)
    (case k6 => k_is)
    (case a7 => k_is)
    (case l7 => k_is)
    (case c7 => k_is)
    (case k7 => k_is)
    (case a8 => k_is)
    (case l8 => k_is)
    (case c8 => k_is)
    (case k8 => k_is)
    (case a9 => k_is)
    (case l9 => k_is)
    (case c9 => k_is)
    (case k9 => k_is)
    (case a10 => k_is)
    (case l10 => k_is)
    (case c10 => k_is)
    (case k10 => k_is)
    (case z_ValueError => k_is)
    (case z_abs => k_is)
    (case z_bool => k_is)
    (case z_int => k_is)
    (case z_isinstance => k_is)
    (case z_len => k_is)
    (case z_range => k_is)
    (case z_tuple => k_is)
    (case aNS => k_is)
    (case aSE => k_is)
    (case aNN => k_is)
    (case aNP => k_is)
    (case aNR => k_is)
    (case aNT => k_is)
    (case qNS => k_exc)
    (case x1 => k_is)
    (case x2 => k_is)
    (case x3 => k_is)
    (case x4 => k_is)
    (case x5 => k_is)
    (case x6 => k_is)
    (case x7 => k_is)
    (case x8 => k_is)
    (case y1 => k_is)
    (case y3 => k_is)
    (case y4 => k_is)
    (case w1 => k_is)
    (case w2 => k_is)
    (case w3 => k_is)
    (case w4 => k_is)
    (case kk1 => kit_is)
    (case kk2 => kit_is)
