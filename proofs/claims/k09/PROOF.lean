import PyProof.Rows.All
import Wide.All
import OpenK.AllK
import Wide.FinOn
import Lean
import PyProof.EqAt
import PyProof.EqKinds
import PyProof.TupleCall
import KE.KSortTup
import PyProof.EnumMake
import PyProof.EnumStmt
import PyProof.EnumFor
import PyProof.TupleKey
import PyProof.Rows.SetFrom
import PyProof.IsRules
import PyProof.DictWalks
import PyProof.FactsAll.set
import PyProof.CollectIter
import PyProof.ConsumeS
import PySem.SetOps
import KE.KDictList
import PyProof.DictRoadsH
import PyProof.DictFindH
import PyProof.Rows.SortRuns
import PyProof.Draws
import PyProof.Rows.TupIter
import PySem.Challenge.RW_scenemend_k09_whole_boxes_parted
section
set_option Elab.async false
set_option linter.all false
set_option maxRecDepth 100000
namespace L2
open PySem PySem.Spec PyProof.Rows
abbrev Key := Sum Int Str
def keyIs : Key → Value → Bool
  | .inl k, v => Value.isInt k v
  | .inr x, v => Value.isStrOf x v
def keyH (w : World) : Key → Int
  | .inl k => hashInt k
  | .inr x => hashStr w x
theorem keyIs_shape : ∀ {k : Key} {v : Value}, keyIs k v = true → (∃ i t, k = Sum.inl i ∧ v = Value.int i t) ∨ (∃ x t, k = Sum.inr x ∧ v = Value.str x t)
  | .inl i, v, h => by
    obtain ⟨t, e⟩ := Value.isInt_shape (k := i) (v := v) h
    exact .inl ⟨i, t, rfl, e⟩
  | .inr x, v, h => by
    obtain ⟨t, e⟩ := Value.isStrOf_shape (x := x) (v := v) h
    exact .inr ⟨x, t, rfl, e⟩
theorem key_ll (a b : Int) : decide ((Sum.inl a : Key) = Sum.inl b) = (a == b) := by
  by_cases e : a = b
  · subst e; simp
  · have h : ¬ (Sum.inl a : Key) = Sum.inl b := fun q => e (Sum.inl.inj q)
    rw [decide_eq_false h]
    exact (beq_eq_false_iff_ne.mpr e).symm
theorem key_rr (a b : Str) : decide ((Sum.inr a : Key) = Sum.inr b) = decide (a = b) := by
  by_cases e : a = b
  · subst e; simp
  · have h : ¬ (Sum.inr a : Key) = Sum.inr b := fun q => e (Sum.inr.inj q)
    rw [decide_eq_false h, decide_eq_false e]
theorem key_lr (a : Int) (b : Str) : decide ((Sum.inl a : Key) = Sum.inr b) = false := decide_eq_false (fun q => nomatch q)
theorem key_rl (a : Str) (b : Int) : decide ((Sum.inr a : Key) = Sum.inl b) = false := decide_eq_false (fun q => nomatch q)
def mixKind (prog : Program) (w : World) : PySem.KeyKind prog w Key where
  is := keyIs
  hash := keyH w
  inj := fun v a b ha hb => by
    rcases keyIs_shape ha with ⟨i, t, rfl, rfl⟩ | ⟨x, t, rfl, rfl⟩
    · rcases keyIs_shape hb with ⟨j, u, rfl, e⟩ | ⟨y, u, rfl, e⟩
      · injection e with e1 _; rw [e1]
      · exact nomatch e
    · rcases keyIs_shape hb with ⟨j, u, rfl, e⟩ | ⟨y, u, rfl, e⟩
      · exact nomatch e
      · injection e with e1 _; rw [e1]
  byValue := fun k v h => by
    rcases keyIs_shape h with ⟨i, t, rfl, rfl⟩ | ⟨x, t, rfl, rfl⟩ <;> rfl
  pyHash := fun hv h => by
    rcases keyIs_shape hv with ⟨i, t, rfl, rfl⟩ | ⟨x, t, rfl, rfl⟩
    · exact wpAny_pyHash_int h
    · exact wpAny_pyHash_str h
  eqBool := fun hu hv h => by
    rcases keyIs_shape hu with ⟨i, t, rfl, rfl⟩ | ⟨x, t, rfl, rfl⟩
    · rcases keyIs_shape hv with ⟨j, u, rfl, rfl⟩ | ⟨y, u, rfl, rfl⟩
      · rw [key_ll] at h; exact wpAny_eqBool_int h
      · rw [key_lr] at h; exact SeqAt.EqAt.int_str i t y u _ _ _ _ h
    · rcases keyIs_shape hv with ⟨j, u, rfl, rfl⟩ | ⟨y, u, rfl, rfl⟩
      · rw [key_rl] at h; exact SeqAt.EqAt.str_int x t j u _ _ _ _ h
      · rw [key_rr] at h; exact wpAny_eqBool_str h
  «strs» := fun k x t v h => by
    rcases keyIs_shape h with ⟨i, u, rfl, e⟩ | ⟨y, u, rfl, e⟩
    · exact nomatch e
    · injection e with e1 _
      subst e1
      cases v <;> rfl
end L2
namespace L2
open PySem PySem.Spec PyProof.Rows
inductive V where
  | non | bl (b : Bool) | int (i : Int) | str (x : Str) | byt (b : Array UInt8) | flt (b : UInt64) | ref (a : Addr) | ty (n : String)
  deriving DecidableEq
def RelV : V → Value → Prop
  | .non, u => u = Value.none
  | .bl b, u => u = Value.bool b
  | .int i, u => ∃ t, u = Value.int i t
  | .str x, u => ∃ t, u = Value.str x t
  | .byt b, u => ∃ t, u = Value.bytes b t
  | .flt b, u => ∃ t, u = Value.float b t
  | .ref a, u => u = Value.ref a
  | .ty n, u => u = Value.type n
abbrev Vals : List V → List Value → Prop := Paired RelV
theorem Vals.length {xs : List V} {us : List Value} (r : Vals xs us) : xs.length = us.length := Paired.length r
theorem Vals.get : ∀ {xs : List V} {us : List Value} {i : Nat} {x : V}, Vals xs us → xs[i]? = some x → ∃ u, us[i]? = some u ∧ RelV x u
  | _, _, _, _, .nil, e => by simp at e
  | _, _, 0, _, .cons r _, e => by simp at e; subst e; exact ⟨_, rfl, r⟩
  | _, _, i + 1, x, .cons _ t, e => by
    obtain ⟨u, h1, h2⟩ := Vals.get (i := i) (x := x) t (by simpa using e)
    exact ⟨u, by simpa using h1, h2⟩
theorem Vals.set {x : V} {u : Value} (r : RelV x u) : ∀ {xs : List V} {us : List Value} (i : Nat), Vals xs us → Vals (xs.set i x) (us.set i u)
  | _, _, _, .nil => .nil
  | _, _, 0, .cons _ t => .cons r t
  | _, _, i + 1, .cons q t => .cons q (Vals.set r i t)
theorem Vals.append : ∀ {xs ys : List V} {us ws : List Value}, Vals xs us → Vals ys ws → Vals (xs ++ ys) (us ++ ws)
  | _, _, _, _, .nil, s => s
  | _, _, _, _, .cons r t, s => .cons r (Vals.append t s)
theorem Vals.take : ∀ {xs : List V} {us : List Value} (n : Nat), Vals xs us → Vals (xs.take n) (us.take n)
  | _, _, 0, _ => .nil
  | _, _, _ + 1, .nil => .nil
  | _, _, n + 1, .cons r t => .cons r (Vals.take n t)
theorem Vals.drop : ∀ {xs : List V} {us : List Value} (n : Nat), Vals xs us → Vals (xs.drop n) (us.drop n)
  | _, _, 0, r => r
  | _, _, _ + 1, .nil => .nil
  | _, _, n + 1, .cons _ t => Vals.drop n t
def RelO : Option V → Option Value → Prop
  | some v, some u => RelV v u
  | none, none => True
  | _, _ => False
def KV {κ : Type} : List (κ × V) → List (κ × Value) → Prop := Paired fun (p : κ × V) (q : κ × Value) => p.1 = q.1 ∧ RelV p.2 q.2
def kV : Key → V
  | .inl i => .int i
  | .inr x => .str x
inductive HO where
  | lst (xs : List V)
  | tup (xs : List V)
  | dK (kvs : List (Key × V)) | dT (kvs : List (List Key × V))
  | set (S : Int → Bool) (n : Nat)
  | ins (C dx : Addr) (fs : List (Str × V))
  | own (x : Addr)
  | xd (fs : List (Str × V))
  | met (f x : Addr)
  | rng (lo hi : Int)
  | frz (o : Obj) (u : HO)
  | tbl (ps : Array Value)
  | ext (φ : Heap → Prop)
abbrev Hp := Addr → Option HO
def upd (H : Hp) (a : Addr) (o : HO) : Hp := fun b => if b = a then some o else H b
theorem upd_same {H : Hp} {a : Addr} {o : HO} : upd H a o a = some o := by unfold upd; rw [if_pos rfl]
theorem upd_ne {H : Hp} {a b : Addr} {o : HO} (h : b ≠ a) : upd H a o b = H b := by unfold upd; rw [if_neg h]
theorem ne_of_none {H : Hp} {a b : Addr} {o : HO} (h : H a = some o) (h' : H b = none) : a ≠ b := by
  intro e; subst e; rw [h] at h'; cases h'
section
variable (P : Program) (w : World)
def ObjOk (H : Hp) (h : Heap) (a : Addr) : HO → Prop
  | .lst xs => xs.length ≤ sizeLine ∧ ∃ (its : List Value) (n : Nat), Vals xs its ∧ h.get? a = some { cls := .type "list", data := .seq its.toArray n }
  | .tup xs => xs.length ≤ sizeLine ∧ ∃ its : List Value, Vals xs its ∧ IsTup h a its.toArray
  | .dK kvs => kvs.length ≤ sizeLine ∧ (a == sysModules) = false ∧ ∃ vs, KV kvs vs ∧ h.DictOf (mixKind P w) a vs
  | .dT kvs => kvs.length ≤ sizeLine ∧ (a == sysModules) = false ∧ ∃ xs : List (List Key × Addr × Value),
      Paired (fun (p : List Key × V) (q : List Key × Addr × Value) => p.1 = q.1 ∧ H q.2.1 = some (.tup (p.1.map kV)) ∧ RelV p.2 q.2.2) kvs xs ∧
      ∃ o es ep, h.get? a = some o ∧ o.ExactDict ∧ o.data = .dict es ep ∧ es.toList = xs.map (entryOfKey (tupleKind (mixKind P w))) ∧ (xs.map (·.1)).Nodup
  | .set S n => h.SetOf (intKind P w) a S n
  | .ins C dx fs => H dx = some (.own a) ∧ fs.length ≤ 1000 ∧ dx ≠ a ∧ h.get? a = some (PySem.W.instObj C dx) ∧
      ∃ mA, h.Ns1 dx mA ∧ (∀ f, RelO (fs.lookup f) (mA f)) ∧ PySem.Within mA (fs.map (·.1))
  | .own _ => ∃ o, h.get? a = some o
  | .xd fs => ∃ mA, h.Ns1 a mA ∧ ∀ f, RelO (fs.lookup f) (mA f)
  | .rng lo hi => ∃ t u v, h.get? a = some { cls := .type "range", data := .fields #[.int lo t, .int hi u, .int 1 v] }
  | .frz o u => h.get? a = some o ∧ ObjOk H h a u
  | .tbl ps => h.get? a = some { cls := .none, data := .fields ps }
  | .met f x => h.get? a = some (PySem.W.methodObj (.ref f) (.ref x))
  | .ext φ => φ h ∧ (∃ o, h.get? a = some o) ∧ ∀ h1 h2 : Heap, φ h1 → (∀ o, h1.get? a = some o → h2.get? a = some o) → φ h2
def HOk (H : Hp) (h : Heap) : Prop := ∀ a o, H a = some o → ObjOk P w H h a o
end
section
variable {P : Program} {w : World} {H H' : Hp} {h h' : Heap} {a : Addr} {o : HO}
theorem ObjOk.lt (x : ObjOk P w H h a o) : a < h.objs.size := by
  cases o with
  | lst xs => obtain ⟨_, _, _, _, e⟩ := x; exact Heap.lt_size e
  | tup xs => obtain ⟨_, _, _, p⟩ := x; exact p.lt
  | dK kvs => obtain ⟨_, _, _, _, o, _, _, e, _⟩ := x; exact Heap.lt_size e
  | dT kvs => obtain ⟨_, _, _, _, o, _, _, e, _⟩ := x; exact Heap.lt_size e
  | set S n => obtain ⟨o, _, _, _, e, _⟩ := x; exact Heap.lt_size e
  | ins C dx fs => obtain ⟨_, _, _, e, _⟩ := x; exact Heap.lt_size e
  | own y => obtain ⟨_, e⟩ := x; exact Heap.lt_size e
  | xd fs => obtain ⟨_, ⟨_, _, _, e, _⟩, _⟩ := x; exact Heap.lt_size e
  | rng lo hi => obtain ⟨_, _, _, e⟩ := x; exact Heap.lt_size e
  | frz ob u => obtain ⟨e, _⟩ := x; exact Heap.lt_size e
  | tbl ps => exact Heap.lt_size (show h.get? a = some _ from x)
  | met f y => exact Heap.lt_size (show h.get? a = some _ from x)
  | ext φ => obtain ⟨_, ⟨_, e⟩, _⟩ := x; exact Heap.lt_size e
theorem Paired.mapP {α β : Type} {F G : α → β → Prop} : ∀ {l₁ : List α} {l₂ : List β}, Paired F l₁ l₂ → (∀ a b, F a b → G a b) → Paired G l₁ l₂
  | _, _, .nil, _ => .nil
  | _, _, .cons r t, f => .cons (f _ _ r) (Paired.mapP t f)
theorem ObjOk.stay (x : ObjOk P w H h a o) (k : ∀ b u, (b = a ∨ H b = some (.own a)) → h.get? b = some u → h'.get? b = some u)
    (ho : ∀ b, H b = some (.own a) → H' b = some (.own a)) (ht : ∀ b xs, H b = some (.tup xs) → H' b = some (.tup xs)) : ObjOk P w H' h' a o := by
  induction o with
  | lst xs => obtain ⟨z, its, n, r, e⟩ := x; exact ⟨z, its, n, r, k _ _ (.inl rfl) e⟩
  | tup xs => obtain ⟨z, its, r, ob, e, c⟩ := x; exact ⟨z, its, r, ob, k _ _ (.inl rfl) e, c⟩
  | dK kvs => obtain ⟨z, y, vs, r, ob, es, ep, e, c⟩ := x; exact ⟨z, y, vs, r, ob, es, ep, k _ _ (.inl rfl) e, c⟩
  | dT kvs =>
    obtain ⟨z, y, xs, r, ob, es, ep, e, c⟩ := x
    exact ⟨z, y, xs, Paired.mapP r fun p q z => ⟨z.1, ht _ _ z.2.1, z.2.2⟩, ob, es, ep, k _ _ (.inl rfl) e, c⟩
  | set S n => obtain ⟨ob, es, ep, t, e, c⟩ := x; exact ⟨ob, es, ep, t, k _ _ (.inl rfl) e, c⟩
  | ins C dx fs =>
    obtain ⟨d, z, ne, e, mA, ⟨od, es, ep, e2, c⟩, r⟩ := x
    exact ⟨ho _ d, z, ne, k _ _ (.inl rfl) e, mA, ⟨od, es, ep, k _ _ (.inr d) e2, c⟩, r⟩
  | own y => obtain ⟨ob, e⟩ := x; exact ⟨ob, k _ _ (.inl rfl) e⟩
  | xd fs => obtain ⟨mA, ⟨od, es, ep, e, c⟩, r⟩ := x; exact ⟨mA, ⟨od, es, ep, k _ _ (.inl rfl) e, c⟩, r⟩
  | rng lo hi => obtain ⟨t, u, v, e⟩ := x; exact ⟨t, u, v, k _ _ (.inl rfl) e⟩
  | frz ob u ih => obtain ⟨e, q⟩ := x; exact ⟨k _ _ (.inl rfl) e, ih q⟩
  | tbl ps =>
    have e : h.get? a = some { cls := .none, data := .fields ps } := x
    show h'.get? a = some { cls := .none, data := .fields ps }
    exact k a _ (.inl rfl) e
  | met f y =>
    have e : h.get? a = some (PySem.W.methodObj (.ref f) (.ref y)) := x
    show h'.get? a = some (PySem.W.methodObj (.ref f) (.ref y))
    exact k a _ (.inl rfl) e
  | ext φ => obtain ⟨p, ⟨o, e⟩, st⟩ := x; exact ⟨st _ _ p fun o q => k _ _ (.inl rfl) q, ⟨o, k _ _ (.inl rfl) e⟩, st⟩
theorem HOk.lt (x : HOk P w H h) (e : H a = some o) : a < h.objs.size := (x a o e).lt
theorem HOk.fresh (x : HOk P w H h) (e : h.objs.size ≤ a) : H a = none := by
  cases q : H a with
  | none => rfl
  | some u => exact absurd (Nat.lt_of_lt_of_le (x.lt q) e) (Nat.lt_irrefl _)
theorem HOk.kept (x : HOk P w H h) (k : ∀ b u, h.get? b = some u → h'.get? b = some u) : HOk P w H h' := fun a o e =>
  (x a o e).stay (fun b u _ q => k b u q) (fun _ q => q) fun _ _ q => q
theorem HOk.laid (x : HOk P w H h) (k : ∀ b u, h.get? b = some u → h'.get? b = some u) (hp : h.objs.size ≤ a) (new : ObjOk P w (upd H a o) h' a o) : HOk P w (upd H a o) h' := fun b u e => by
  have hn := x.fresh hp
  by_cases hb : b = a
  · subst hb; rw [upd_same] at e; cases e; exact new
  · rw [upd_ne hb] at e
    exact (x b u e).stay (fun c v _ q => k c v q) (fun c q => by rw [upd_ne (ne_of_none q hn)]; exact q) fun c xs q => by rw [upd_ne (ne_of_none q hn)]; exact q
end
def Rd (H : Hp) (a : Addr) (u : HO) : Prop := H a = some u ∨ ∃ o, H a = some (.frz o u)
theorem Rd.of {H : Hp} {a : Addr} {u : HO} (h : H a = some u) : Rd H a u := .inl h
theorem Rd.ok {P : Program} {w : World} {H : Hp} {h : Heap} {a : Addr} {u : HO} (r : Rd H a u) (x : HOk P w H h) : ObjOk P w H h a u := by
  rcases r with r | ⟨o, r⟩
  · exact x a u r
  · obtain ⟨_, q⟩ := x a _ r
    exact q
def Mut : Option HO → Prop
  | some (.lst _) => True
  | some (.dK _) => True
  | some (.dT _) => True
  | some (.set _ _) => True
  | some (.ins _ _ _) => True
  | some (.ext _) => True
  | _ => False
section
variable {P : Program} {w : World} {H : Hp} {h h' : Heap} {x e : Addr} {o' : HO}
theorem HOk.write (ok : HOk P w H h) (mu : Mut (H x)) (he : e = x ∨ H e = some (.own x)) (k : ∀ b u, b ≠ e → h.get? b = some u → h'.get? b = some u) (heo : ∃ u, h'.get? e = some u)
    (new : ObjOk P w (upd H x o') h' x o') : HOk P w (upd H x o') h' := fun b u q => by
  have nown : ∀ c y, H c = some (.own y) → c ≠ x := fun c y r z => by subst z; rw [r] at mu; exact mu
  have ntup : ∀ c xs, H c = some (.tup xs) → c ≠ x := fun c xs r z => by subst z; rw [r] at mu; exact mu
  by_cases hb : b = x
  · subst hb; rw [upd_same] at q; cases q; exact new
  · rw [upd_ne hb] at q
    by_cases hbe : b = e
    · have q' : H b = some (.own x) := by
        rcases he with z | z
        · exact absurd (hbe.trans z) hb
        · rw [hbe]; exact z
      rw [q] at q'; cases q'
      obtain ⟨v, hv⟩ := heo
      exact ⟨v, by rw [hbe]; exact hv⟩
    · refine (ok b u q).stay (fun c v hc r => k c v ?_ r) (fun c r => by rw [upd_ne (nown c b r)]; exact r) fun c xs r => by rw [upd_ne (ntup c xs r)]; exact r
      rcases hc with rfl | hc
      · exact hbe
      · rintro rfl
        rcases he with z | z
        · exact nown c b hc z
        · rw [hc] at z; cases z; exact hb rfl
end
structure Un (fs ex : List Addr) (H H' : Hp) (h h' : Heap) : Prop where
  keep : ∀ b o, h.get? b = some o → H b = none → b ∉ fs → b ∉ ex → h'.get? b = some o
  slot : ∀ b o, h.get? b = some o → H b = none → b ∈ fs → b ∉ ex → ∃ sl, h'.get? b = some { o with slots := sl }
  free : ∀ b o, h.get? b = some o → H b = none → b ∉ ex → H' b = none
  there : ∀ b o, h.get? b = some o → b ∉ ex → ∃ o', h'.get? b = some o'
  tups : ∀ b xs, H b = some (.tup xs) → H' b = some (.tup xs)
  frzs : ∀ b o u, H b = some (.frz o u) → H' b = some (.frz o u)
  tbls : ∀ b ps, H b = some (.tbl ps) → ∃ more, H' b = some (.tbl (ps ++ more))
section
variable {fs fs' ex ex' : List Addr} {H H1 H2 : Hp} {h h1 h2 h' : Heap} {a x e : Addr} {o : HO}
theorem Un.any (u : Un fs ex H H1 h h1) {b : Addr} {ob : Obj} (q : h.get? b = some ob) (n : H b = none) (hx : b ∉ ex) : ∃ sl, h1.get? b = some { ob with slots := sl } := by
  by_cases hb : b ∈ fs
  · exact u.slot b ob q n hb hx
  · exact ⟨ob.slots, u.keep b ob q n hb hx⟩
theorem Un.trans (a : Un fs ex H H1 h h1) (b : Un fs ex H1 H2 h1 h2) : Un fs ex H H2 h h2 where
  keep := fun c ob q n hc hx => b.keep c ob (a.keep c ob q n hc hx) (a.free c ob q n hx) hc hx
  slot := fun c ob q n hc hx => by
    obtain ⟨sl, e1⟩ := a.slot c ob q n hc hx
    obtain ⟨sl', e2⟩ := b.slot c _ e1 (a.free c ob q n hx) hc hx
    exact ⟨sl', e2⟩
  free := fun c ob q n hx => by
    obtain ⟨o', e1⟩ := a.there c ob q hx
    exact b.free c o' e1 (a.free c ob q n hx) hx
  there := fun c ob q hx => by
    obtain ⟨o', e1⟩ := a.there c ob q hx
    exact b.there c o' e1 hx
  tups := fun c xs q => b.tups c xs (a.tups c xs q)
  frzs := fun c ob xs q => b.frzs c ob xs (a.frzs c ob xs q)
  tbls := fun c ps q => by
    obtain ⟨m1, e1⟩ := a.tbls c ps q
    obtain ⟨m2, e2⟩ := b.tbls c _ e1
    exact ⟨m1 ++ m2, by rw [e2, Array.append_assoc]⟩
theorem Un.kept (k : ∀ b u, h.get? b = some u → h'.get? b = some u) : Un fs ex H H h h' :=
  ⟨fun b ob q _ _ _ => k b ob q, fun b ob q _ _ _ => ⟨ob.slots, k b ob q⟩, fun _ _ _ n _ => n, fun b ob q _ => ⟨ob, k b ob q⟩, fun _ _ q => q, fun _ _ _ q => q, fun _ ps q => ⟨#[], by rw [q]; simp⟩⟩
theorem Un.refl : Un fs ex H H h h := Un.kept fun _ _ q => q
theorem Un.laid (k : ∀ b u, h.get? b = some u → h'.get? b = some u) (hp : h.objs.size ≤ a) (hn : H a = none) : Un fs ex H (upd H a o) h h' where
  keep := fun b u q _ _ _ => k b u q
  slot := fun b u q _ _ _ => ⟨u.slots, k b u q⟩
  free := fun b u q n _ => by rw [upd_ne (Nat.ne_of_lt (Nat.lt_of_lt_of_le (Heap.lt_size q) hp))]; exact n
  there := fun b u q _ => ⟨u, k b u q⟩
  tups := fun b xs q => by rw [upd_ne (ne_of_none q hn)]; exact q
  frzs := fun b u xs q => by rw [upd_ne (ne_of_none q hn)]; exact q
  tbls := fun b ps q => ⟨#[], by rw [upd_ne (ne_of_none q hn), q]; simp⟩
theorem Un.write (mu : Mut (H x)) (he : e = x ∨ H e = some (.own x)) (k : ∀ b u, b ≠ e → h.get? b = some u → h'.get? b = some u) (heo : ∃ u, h'.get? e = some u) : Un fs ex H (upd H x o) h h' := by
  have hx : ∀ b, H b = none → b ≠ x := fun b n z => by subst z; rw [n] at mu; exact mu
  have hb : ∀ b, H b = none → b ≠ e := fun b n z => by
    subst z
    rcases he with r | r
    · exact hx b n r
    · rw [n] at r; cases r
  have hm : ∀ b u, H b = some u → ¬ Mut (some u) → b ≠ x := fun b u q nm z => by subst z; rw [q] at mu; exact nm mu
  refine ⟨fun b u q n _ _ => k b u (hb b n) q, fun b u q n _ _ => ⟨u.slots, k b u (hb b n) q⟩, fun b u q n _ => by rw [upd_ne (hx b n)]; exact n, fun b u q _ => ?_,
    fun b xs q => by rw [upd_ne (hm b _ q fun z => z)]; exact q, fun b u xs q => by rw [upd_ne (hm b _ q fun z => z)]; exact q, fun b ps q => ⟨#[], by rw [upd_ne (hm b _ q fun z => z), q]; simp⟩⟩
  by_cases hbe : b = e
  · subst hbe; exact heo
  · exact ⟨u, k b u hbe q⟩
theorem Un.mono (u : Un fs ex H H1 h h1) (hs : ∀ b ∈ fs, b ∈ fs') (hx : ∀ b ∈ ex, b ∈ ex') : Un fs' ex' H H1 h h1 :=
  ⟨fun b ob q n hb he => u.keep b ob q n (fun z => hb (hs b z)) fun z => he (hx b z), fun _ _ q n _ he => u.any q n fun z => he (hx _ z), fun b ob q n he => u.free b ob q n fun z => he (hx b z), fun b ob q he => u.there b ob q fun z => he (hx b z), u.tups, u.frzs, u.tbls⟩
end
def trk (h : Heap) (H : Hp) : List Addr := (List.range h.objs.size).filter fun a => (H a).isSome
def hidT (h : Heap) (H : Hp) : Heap := PySem.W.hideAll h (trk h H)
theorem hidT_size (h : Heap) (H : Hp) : (hidT h H).objs.size = h.objs.size := PySem.W.hideAll_size _ _
theorem hidT_get {h : Heap} {H : Hp} {b : Addr} {o : Obj} (e : h.get? b = some o) (n : H b = none) : (hidT h H).get? b = some o :=
  PySem.W.hideAll_get _ e fun hm => by
    have q : (H b).isSome = true := (List.mem_filter.mp hm).2
    rw [n] at q; simp at q
theorem of_hidT {h : Heap} {H : Hp} {b : Addr} {o : Obj} (e : (hidT h H).get? b = some o) : h.get? b = some o ∧ H b = none := by
  have e' : h.get? b = some o := PySem.W.of_hideAll (trk h H) e
  refine ⟨e', ?_⟩
  cases q : H b with
  | none => rfl
  | some x =>
    have hm : b ∈ trk h H := List.mem_filter.mpr ⟨List.mem_range.mpr (Heap.lt_size e'), by simp [q]⟩
    have z : (hidT h H).get? b = none := PySem.W.hideAll_none (trk h H) hm
    rw [z] at e; cases e
def allNews (g h : Heap) (L : Addr) : List (Addr × Obj) := (List.range h.objs.size).filterMap fun a => if a = L ∨ (g.get? a).isSome = true then none else (h.get? a).map fun o => (a, o)
def rest (g h : Heap) (L d : Addr) : List (Addr × Obj) := (allNews g h L).filter fun p => decide (p.1 ≠ d)
end L2
namespace L2
open PySem PySem.Spec PyProof.Rows
structure Mod (K : PySem.W.Frag) (mg : Str → Option Value) (base : Heap) : Prop where
  kin : K.In base
  glob : base.Ns mainGlobals mg
  blt : ∃ mb, base.Ns builtinsNs mb ∧ ∀ x : Str, x ≠ "__name__" → mb x = bootBuiltins x
  nolimit : base.NoLimit
structure Cx where
  prog : Program
  w : World
  K : PySem.W.Frag
  mg : Str → Option Value
  base : Heap
  A : Around
  N : List Str
  s₀ : Shared
  H₀ : Hp
  env : Env
  outer : List Env
  stack : List Env
  ex : List Addr
  fn : Str → Bool
  calm : Bool
  pn : List (Addr × Obj)
  xe : Value → Shared → Prop
def frs (l : List Env) : List Addr := l.filterMap (·.frame)
abbrev Cx.fs (X : Cx) : List Addr := frs X.outer
def Vis (sc : Scope) (x : Str) : Prop := sc.names.lookup x = some .local ∨ sc.names.lookup x = some .cell ∨ sc.names.lookup x = some .free
def Loc (sc : Scope) (x : Str) : Prop := sc.names.lookup x = some .local ∨ sc.names.lookup x = some .cell
def Look (env : Env) (h : Heap) (m : Str → Option Value) (x : Str) (u : Value) : Prop :=
  (env.kindOf x = some .local ∧ m x = some u) ∨ ((env.kindOf x = some .cell ∨ env.kindOf x = some .free) ∧ ∃ c, env.cells.lookup x = some c ∧ h.IsCell c (some u))
structure Cx.Ok (X : Cx) : Prop where
  mod : Mod X.K X.mg X.base
  kind : X.env.scope.kind = .function
  glob : X.env.globals = mainGlobals
  blt : X.env.builtins = builtinsNs
  above : X.s₀.heap.objs.size ≤ X.env.locals
  inj : ∀ x y c, X.env.cells.lookup x = some c → X.env.cells.lookup y = some c → x = y
  has : ∀ x, (X.env.kindOf x = some .cell ∨ X.env.kindOf x = some .free) → ∃ c, X.env.cells.lookup x = some c
  cab : ∀ x c, X.fn x = true → X.env.cells.lookup x = some c → X.s₀.heap.objs.size ≤ c
  hd : X.calm = true → X.A.handled = none
  frames : X.A.frames = some X.stack
  stk : X.stack = X.outer ∨ (X.stack = X.env :: X.outer ∧ X.env.frame = some X.env.locals)
  exf : ∀ b ∈ X.ex, b ≠ X.env.locals ∧ ∀ x c, X.env.cells.lookup x = some c → c ≠ b
  bs : ∀ b o, X.base.get? b = some o → X.s₀.heap.get? b = some o ∧ X.H₀ b = none
  bsz : X.base.objs.size ≤ X.s₀.heap.objs.size
  noex : ∀ b o, X.base.get? b = some o → b ∉ X.ex
  exfs : ∀ b ∈ X.ex, b ∉ X.fs
  funs : X.s₀.heap.FunFrames X.base X.outer
  frf : ∀ b ∈ X.fs, X.H₀ b = none
structure Inv (X : Cx) (pins : List (Addr × Obj)) (σ : List (Option V)) (H : Hp) (s : Shared) : Prop where
  ok : X.Ok
  os : s.os = X.s₀.os
  bare : AllBare s.gens
  base : Un X.fs X.ex X.H₀ H X.s₀.heap s.heap
  loc : ∃ m, s.heap.Ns X.env.locals m ∧ ∀ (i : Nat) (x : Str) (v : V), X.N[i]? = some x → σ[i]? = some (some v) → Vis X.env.scope x → ∃ u, RelV v u ∧ Look X.env s.heap m x u
  cell : ∀ x c, X.env.cells.lookup x = some c → ∃ v, s.heap.IsCell c v
  free : H X.env.locals = none
  freeC : ∀ x c, X.env.cells.lookup x = some c → H c = none
  pin : ∀ p ∈ X.pn ++ pins, s.heap.get? p.1 = some p.2 ∧ H p.1 = none ∧ p.1 ≠ X.env.locals ∧ p.1 ∉ X.fs ∧ ∀ v, p.2.data ≠ .cell v
  hok : HOk X.prog X.w H s.heap
  len : σ.length = X.N.length
section
variable {X : Cx} {pins : List (Addr × Obj)} {σ : List (Option V)} {H H' : Hp} {s : Shared} {h' : Heap}
theorem Cx.Ok.nofr (ok : X.Ok) {b : Addr} {o : Obj} (e : X.base.get? b = some o) : b ∉ X.fs := fun hb => by
  have := (ok.funs.mem hb).1
  rw [e] at this; cases this
theorem Inv.bs (I : Inv X pins σ H s) : ∀ b o, X.base.get? b = some o → s.heap.get? b = some o ∧ H b = none := fun b o e =>
  ⟨I.base.keep b o (I.ok.bs b o e).1 (I.ok.bs b o e).2 (I.ok.nofr e) (I.ok.noex b o e), I.base.free b o (I.ok.bs b o e).1 (I.ok.bs b o e).2 (I.ok.noex b o e)⟩
theorem Inv.bk (I : Inv X pins σ H s) : ∀ b o, X.base.get? b = some o → s.heap.get? b = some o := fun b o e => (I.bs b o e).1
theorem Inv.mod (I : Inv X pins σ H s) : Mod X.K X.mg X.base := I.ok.mod
theorem Inv.kIn (I : Inv X pins σ H s) : X.K.In s.heap := I.ok.mod.kin.keeps I.bk
theorem Inv.nolimit (I : Inv X pins σ H s) : s.heap.NoLimit := I.ok.mod.nolimit.keeps I.bk
theorem Inv.fr (I : Inv X pins σ H s) : ∃ m, Fr X.base X.env.locals s.heap m :=
  let ⟨m, hn, _⟩ := I.loc
  ⟨m, hn, I.bk, Nat.le_trans I.ok.bsz I.ok.above⟩
theorem Inv.lt (I : Inv X pins σ H s) : X.env.locals < s.heap.objs.size := let ⟨_, hn, _⟩ := I.loc; hn.lt
theorem Inv.sz (I : Inv X pins σ H s) : X.s₀.heap.objs.size ≤ s.heap.objs.size := Nat.le_trans I.ok.above (Nat.le_of_lt I.lt)
theorem Inv.nofs (I : Inv X pins σ H s) {a : Addr} (h : s.heap.objs.size ≤ a) : a ∉ X.fs := fun hb => by
  obtain ⟨_, o, ho, _⟩ := I.ok.funs.mem hb
  exact absurd (Nat.lt_of_lt_of_le (Heap.lt_size ho) (Nat.le_trans I.sz h)) (Nat.lt_irrefl _)
theorem Inv.cne (I : Inv X pins σ H s) : ∀ x c, X.env.cells.lookup x = some c → c ≠ X.env.locals := fun x c e z => by
  obtain ⟨v, o, ho, hd⟩ := I.cell x c e
  obtain ⟨m, ⟨o', es, ep, ho', hd', _⟩, _⟩ := I.loc
  rw [z, ho'] at ho; cases ho; rw [hd'] at hd; cases hd
theorem Inv.funs (I : Inv X pins σ H s) : s.heap.FunFrames X.base X.outer := by
  have all : ∀ (l : List Env), (∀ b ∈ frs l, b ∈ X.fs) → X.s₀.heap.FunFrames X.base l → s.heap.FunFrames X.base l := by
    intro l
    induction l with
    | nil => intro _ _; trivial
    | cons env r ih =>
      intro hs hl
      obtain ⟨hk, ⟨L, o, hf, hn, ho, hd⟩, hr⟩ := hl
      have hL : L ∈ X.fs := hs L (by unfold frs; rw [List.filterMap_cons, hf]; exact List.mem_cons_self)
      obtain ⟨sl, e⟩ := I.base.slot L o ho (I.ok.frf L hL) hL fun z => I.ok.exfs L z hL
      exact ⟨hk, ⟨L, _, hf, hn, e, hd⟩, ih (fun b hb => hs b (by unfold frs; rw [List.filterMap_cons, hf]; exact List.mem_cons_of_mem _ hb)) hr⟩
  exact all X.outer (fun _ hb => hb) I.ok.funs
theorem Inv.stack (I : Inv X pins σ H s) : s.heap.FunFrames X.base X.stack := by
  rcases I.ok.stk with e | ⟨e, hf⟩
  · rw [e]; exact I.funs
  · rw [e]
    obtain ⟨m, hn, _⟩ := I.loc
    refine .cons (by rw [I.ok.kind]; decide) hf hn ?_ I.funs
    exact Heap.get?_none_of_le (Nat.le_trans I.ok.bsz I.ok.above)
theorem Inv.stkSub (I : Inv X pins σ H s) : ∀ b ∈ frs X.stack, b ∈ X.env.locals :: X.fs := fun b hb => by
  rcases I.ok.stk with e | ⟨e, hf⟩
  · rw [e] at hb; exact List.mem_cons_of_mem _ hb
  · rw [e] at hb
    unfold frs at hb
    rw [List.filterMap_cons, hf] at hb
    exact hb
theorem Inv.stkFree (I : Inv X pins σ H s) : ∀ b ∈ frs X.stack, H b = none := fun b hb => by
  rcases List.mem_cons.mp (I.stkSub b hb) with e | hb
  · rw [e]; exact I.free
  · obtain ⟨_, o, ho, _⟩ := I.ok.funs.mem hb
    exact I.base.free b o ho (I.ok.frf b hb) fun z => I.ok.exfs b z hb
theorem Inv.step {g' : Array GenState} {t' : Nat} {d' : Drawn} {ch : List Addr} (I : Inv X pins σ H s)
    (hch : ∀ b ∈ ch, (b ∈ X.ex ∨ X.s₀.heap.objs.size ≤ b) ∧ b ≠ X.env.locals ∧ (∀ x c, X.env.cells.lookup x = some c → c ≠ b) ∧ ∀ p ∈ X.pn ++ pins, p.1 ≠ b)
    (keep : ∀ b o, b ≠ X.env.locals → b ∉ X.fs → b ∉ ch → s.heap.get? b = some o → H b = none → h'.get? b = some o)
    (slot : ∀ b o, b ≠ X.env.locals → b ∈ X.fs → b ∉ ch → s.heap.get? b = some o → H b = none → ∃ sl, h'.get? b = some { o with slots := sl }) (free : ∀ b o, b ∉ ch → s.heap.get? b = some o → H b = none → H' b = none)
    (there : ∀ b o, b ∉ ch → s.heap.get? b = some o → ∃ o', h'.get? b = some o')
    (tups : ∀ b xs, H b = some (.tup xs) → H' b = some (.tup xs)) (frzs : ∀ b o u, H b = some (.frz o u) → H' b = some (.frz o u)) (tbls : ∀ b ps, H b = some (.tbl ps) → ∃ more, H' b = some (.tbl (ps ++ more)))
    (ns : ∀ m, s.heap.Ns X.env.locals m → h'.Ns X.env.locals m) (hok : HOk X.prog X.w H' h') (hg : AllBare g') :
    Inv X pins σ H' { s with heap := h', gens := g', drawn := d', toks := t' } := by
  have neL : ∀ b o, X.s₀.heap.get? b = some o → b ≠ X.env.locals := fun b o e => Nat.ne_of_lt (Nat.lt_of_lt_of_le (Heap.lt_size e) I.ok.above)
  have neC : ∀ b o, X.s₀.heap.get? b = some o → b ∉ X.ex → b ∉ ch := fun b o e hx hb => by
    rcases (hch b hb).1 with z | z
    · exact hx z
    · exact absurd (Nat.lt_of_lt_of_le (Heap.lt_size e) z) (Nat.lt_irrefl _)
  have cellK : ∀ x c, X.env.cells.lookup x = some c → ∀ v, s.heap.IsCell c v → h'.IsCell c v := fun x c e v ⟨o, ho, hd⟩ => by
    have nch : c ∉ ch := fun z => (hch c z).2.2.1 x c e rfl
    by_cases hc : c ∈ X.fs
    · obtain ⟨sl, q⟩ := slot c o (I.cne x c e) hc nch ho (I.freeC x c e)
      exact ⟨_, q, hd⟩
    · exact ⟨o, keep c o (I.cne x c e) hc nch ho (I.freeC x c e), hd⟩
  refine ⟨I.ok, I.os, hg, ⟨fun b o e n hb hx => ?_, fun b o e n hb hx => ?_, fun b o e n hx => ?_, fun b o e hx => ?_, fun b xs e => tups b xs (I.base.tups b xs e), fun b o xs e => frzs b o xs (I.base.frzs b o xs e), fun b ps e => ?_⟩, ?_, fun x c e => ?_, ?_, fun x c e => ?_, fun p hp => ?_, hok, I.len⟩
  · exact keep b o (neL b o e) hb (neC b o e hx) (I.base.keep b o e n hb hx) (I.base.free b o e n hx)
  · obtain ⟨sl, e1⟩ := I.base.slot b o e n hb hx
    obtain ⟨sl', e2⟩ := slot b _ (neL b o e) hb (neC b o e hx) e1 (I.base.free b o e n hx)
    exact ⟨sl', e2⟩
  · obtain ⟨o', e1⟩ := I.base.there b o e hx
    exact free b o' (neC b o e hx) e1 (I.base.free b o e n hx)
  · obtain ⟨o', e1⟩ := I.base.there b o e hx
    exact there b o' (neC b o e hx) e1
  · obtain ⟨m1, e1⟩ := I.base.tbls b ps e
    obtain ⟨m2, e2⟩ := tbls b _ e1
    exact ⟨m1 ++ m2, by rw [e2, Array.append_assoc]⟩
  · obtain ⟨m, hn, hl⟩ := I.loc
    refine ⟨m, ns m hn, fun i x v e1 e2 e3 => ?_⟩
    obtain ⟨u, r, l⟩ := hl i x v e1 e2 e3
    refine ⟨u, r, ?_⟩
    rcases l with l | ⟨k, c, e, z⟩
    · exact .inl l
    · exact .inr ⟨k, c, e, cellK x c e _ z⟩
  · obtain ⟨v, z⟩ := I.cell x c e
    exact ⟨v, cellK x c e v z⟩
  · obtain ⟨m, ⟨o, _, _, ho, _⟩, _⟩ := I.loc
    exact free _ o (fun z => (hch _ z).2.1 rfl) ho I.free
  · obtain ⟨v, o, ho, hd⟩ := I.cell x c e
    exact free c o (fun z => (hch c z).2.2.1 x c e rfl) ho (I.freeC x c e)
  · obtain ⟨e, n, ne, nf, d⟩ := I.pin p hp
    have nch : p.1 ∉ ch := fun z => (hch p.1 z).2.2.2 p hp rfl
    exact ⟨keep p.1 p.2 ne nf nch e n, free p.1 p.2 nch e n, ne, nf, d⟩
theorem Inv.un {t' : Nat} (I : Inv X pins σ H s) (u : Un X.fs [] H H' s.heap h') (hok : HOk X.prog X.w H' h') : Inv X pins σ H' { s with heap := h', toks := t' } := by
  obtain ⟨m, ⟨o, es, ep, ho, r⟩, _⟩ := id I.loc
  obtain ⟨sl, hL⟩ := u.any ho I.free (by simp)
  exact I.step (g' := s.gens) (d' := s.drawn) (ch := []) (fun _ z => nomatch z) (fun b o _ hb _ e n => u.keep b o e n hb (by simp)) (fun b o _ hb _ e n => u.slot b o e n hb (by simp)) (fun b o _ e n => u.free b o e n (by simp)) (fun b o _ e => u.there b o e (by simp)) u.tups u.frzs u.tbls (fun m' hm => by
    obtain ⟨o', es', ep', ho', r'⟩ := hm
    rw [ho] at ho'; cases ho'
    exact ⟨_, es', ep', hL, r'⟩) hok I.bare
theorem Inv.call {g' : Array GenState} {t' : Nat} {d' : Drawn} {ch : List Addr} (I : Inv X pins σ H s) (u : Un (frs X.stack) ch H H' s.heap h') (hok : HOk X.prog X.w H' h') (hg : AllBare g')
    (hch : ∀ b ∈ ch, (b ∈ X.ex ∨ X.s₀.heap.objs.size ≤ b) ∧ b ≠ X.env.locals ∧ (∀ x c, X.env.cells.lookup x = some c → c ≠ b) ∧ ∀ p ∈ X.pn ++ pins, p.1 ≠ b) :
    Inv X pins σ H' { s with heap := h', gens := g', drawn := d', toks := t' } := by
  obtain ⟨m, ⟨o, es, ep, ho, r⟩, _⟩ := id I.loc
  obtain ⟨sl, hL⟩ := u.any ho I.free fun z => (hch _ z).2.1 rfl
  exact I.step (ch := ch) hch (fun b o hL hb hc e n => u.keep b o e n (fun z => (List.mem_cons.mp (I.stkSub b z)).elim hL hb) hc) (fun b o _ _ hc e n => u.any e n hc) (fun b o hc e n => u.free b o e n hc) (fun b o hc e => u.there b o e hc) u.tups u.frzs u.tbls (fun m' hm => by
    obtain ⟨o', es', ep', ho', r'⟩ := hm
    rw [ho] at ho'; cases ho'
    exact ⟨_, es', ep', hL, r'⟩) hok hg
theorem Inv.turned {t' : Nat} {it : Addr} (I : Inv X pins σ H s) (k : ∀ b o, b ≠ it → s.heap.get? b = some o → h'.get? b = some o) (hn : H it = none) (hL : it ≠ X.env.locals)
    (h1 : it ∈ X.ex ∨ X.s₀.heap.objs.size ≤ it) (h2 : ∀ x c, X.env.cells.lookup x = some c → c ≠ it) (h3 : ∀ p ∈ X.pn ++ pins, p.1 ≠ it) : Inv X pins σ H { s with heap := h', toks := t' } := by
  have nit : ∀ b u, H b = some u → b ≠ it := fun b u e z => by rw [z, hn] at e; cases e
  refine I.step (g' := s.gens) (d' := s.drawn) (ch := [it]) (fun b hb => ?_) (fun b o _ _ hc e _ => k b o (fun z => hc (by simp [z])) e) (fun b o _ _ hc e _ => ⟨o.slots, k b o (fun z => hc (by simp [z])) e⟩) (fun _ _ _ _ n => n)
    (fun b o hc e => ⟨o, k b o (fun z => hc (by simp [z])) e⟩) (fun _ _ e => e) (fun _ _ _ e => e) (fun b ps e => ⟨#[], by rw [e]; simp⟩) (fun m hm => ?_) (fun b u e => ?_) I.bare
  · have e : b = it := by simpa using hb
    subst e
    exact ⟨h1, hL, h2, h3⟩
  · obtain ⟨o, es, ep, ho, r⟩ := hm
    exact ⟨o, es, ep, k _ o (Ne.symm hL) ho, r⟩
  · refine (I.hok b u e).stay (fun c v hc q => k c v ?_ q) (fun _ q => q) fun _ _ q => q
    rcases hc with z | z
    · rw [z]; exact nit b u e
    · exact nit c _ z
theorem Inv.tok (I : Inv X pins σ H s) (t : Nat) : Inv X pins σ H { s with toks := t } := I.un (h' := s.heap) (t' := t) Un.refl I.hok
theorem Inv.kept {t' : Nat} (I : Inv X pins σ H s) (k : ∀ b u, s.heap.get? b = some u → h'.get? b = some u) : Inv X pins σ H { s with heap := h', toks := t' } := I.un (Un.kept k) (I.hok.kept k)
theorem Inv.laid {a : Addr} {o : HO} {t' : Nat} (I : Inv X pins σ H s) (k : ∀ b u, s.heap.get? b = some u → h'.get? b = some u) (hp : s.heap.objs.size ≤ a) (new : ObjOk X.prog X.w (upd H a o) h' a o) :
    Inv X pins σ (upd H a o) { s with heap := h', toks := t' } := I.un (Un.laid k hp (I.hok.fresh hp)) (I.hok.laid k hp new)
theorem Inv.write {x e : Addr} {o : HO} {t' : Nat} (I : Inv X pins σ H s) (mu : Mut (H x)) (he : e = x ∨ H e = some (.own x)) (k : ∀ b u, b ≠ e → s.heap.get? b = some u → h'.get? b = some u) (heo : ∃ u, h'.get? e = some u)
    (new : ObjOk X.prog X.w (upd H x o) h' x o) : Inv X pins σ (upd H x o) { s with heap := h', toks := t' } := I.un (Un.write mu he k heo) (I.hok.write mu he k heo new)
theorem Inv.weak {σ' : List (Option V)} (I : Inv X pins σ H s) (hl : σ'.length = σ.length) (w : ∀ (i : Nat) v, σ'[i]? = some (some v) → σ[i]? = some (some v)) : Inv X pins σ' H s :=
  ⟨I.ok, I.os, I.bare, I.base, let ⟨m, hn, hl'⟩ := I.loc; ⟨m, hn, fun i x v e1 e2 e3 => hl' i x v e1 (w i v e2) e3⟩, I.cell, I.free, I.freeC, I.pin, I.hok, hl.trans I.len⟩
theorem Inv.pins_of {pins' : List (Addr × Obj)} (I : Inv X pins σ H s) (h : ∀ p ∈ pins', s.heap.get? p.1 = some p.2 ∧ H p.1 = none ∧ p.1 ≠ X.env.locals ∧ p.1 ∉ X.fs ∧ ∀ v, p.2.data ≠ .cell v) : Inv X pins' σ H s :=
  ⟨I.ok, I.os, I.bare, I.base, I.loc, I.cell, I.free, I.freeC, fun p hp => (List.mem_append.mp hp).elim (fun z => I.pin p (List.mem_append_left _ z)) (h p), I.hok, I.len⟩
theorem nodup_ix {N : List Str} (hN : N.Nodup) {i j : Nat} {x : Str} (a : N[i]? = some x) (b : N[j]? = some x) : i = j := by
  obtain ⟨h1, e1⟩ := List.getElem?_eq_some_iff.mp a
  obtain ⟨h2, e2⟩ := List.getElem?_eq_some_iff.mp b
  exact (List.getElem_inj hN).mp (e1.trans e2.symm)
theorem store_ok2 {M : Model} {A : Around} {E : Value → Shared → Prop} {i : Nat} {x : Str} {v : V} {u : Value} {Q : Unit → Shared → Prop} (I : Inv X pins σ H s) (hN : X.N.Nodup) (hi : X.N[i]? = some x) (hx : Loc X.env.scope x) (r : RelV v u)
    (h : ∀ s', Inv X pins (σ.set i (some v)) H s' → (∃ a, Heap.SameBut a s.heap s'.heap ∧ (a = X.env.locals ∨ X.env.cells.lookup x = some a)) → Q () s') (hf : X.fn x = true ∨ X.env.scope.names.lookup x = some .local := by first | exact .inl rfl | exact .inr rfl | assumption) : wpAny M A (storeName X.env x u) Q E s := by
  obtain ⟨m, hn, hl⟩ := id I.loc
  have hcls : (X.env.scope.kind == .class || (X.env.scope.kind == .module && X.env.locals != X.env.globals)) = false := by rw [I.ok.kind]; rfl
  have hiσ : i < σ.length := by rw [I.len]; exact (List.getElem?_eq_some_iff.mp hi).1
  have cne := I.cne
  have tracked : ∀ {a : Addr} {h' : Heap}, (∃ o, s.heap.get? a = some o ∧ H a = none) → Heap.SameBut a s.heap h' → HOk X.prog X.w H h' := fun {a h'} ha hs b ob e => by
    obtain ⟨_, _, hfree⟩ := ha
    refine (I.hok b ob e).stay (fun c w' hc q => (hs.2 c ?_).trans q) (fun _ q => q) fun _ _ q => q
    rintro rfl
    rcases hc with rfl | hc
    · rw [hfree] at e; cases e
    · rw [hfree] at hc; cases hc
  rcases hx with hk | hk
  · refine wpAny_storeName_local hk hn (fun h' hn' hs => ?_) hcls
    obtain ⟨oL, _, _, hoL, _⟩ := id hn
    refine h _ ⟨I.ok, I.os, I.bare, ⟨fun b o e n hb hx => ?_, fun b o e n hb hx => ?_, I.base.free, fun b o e hx => ?_, I.base.tups, I.base.frzs, I.base.tbls⟩, ⟨_, hn', fun j y v' e1 e2 e3 => ?_⟩, fun y c e => ?_, I.free, I.freeC, fun p hp => ?_, tracked ⟨oL, hoL, I.free⟩ hs, by simpa using I.len⟩ ⟨_, hs, .inl rfl⟩
    · exact (hs.2 b (Nat.ne_of_lt (Nat.lt_of_lt_of_le (Heap.lt_size e) I.ok.above))).trans (I.base.keep b o e n hb hx)
    · obtain ⟨sl, e1⟩ := I.base.slot b o e n hb hx
      exact ⟨sl, (hs.2 b (Nat.ne_of_lt (Nat.lt_of_lt_of_le (Heap.lt_size e) I.ok.above))).trans e1⟩
    · obtain ⟨o', e1⟩ := I.base.there b o e hx
      exact ⟨o', (hs.2 b (Nat.ne_of_lt (Nat.lt_of_lt_of_le (Heap.lt_size e) I.ok.above))).trans e1⟩
    · by_cases hj : j = i
      · subst hj
        rw [hi] at e1; cases e1
        rw [List.getElem?_set_self hiσ] at e2
        cases e2
        exact ⟨u, r, .inl ⟨hk, by simp⟩⟩
      · rw [List.getElem?_set_ne (Ne.symm hj)] at e2
        obtain ⟨u', r', q⟩ := hl j y v' e1 e2 e3
        refine ⟨u', r', ?_⟩
        rcases q with ⟨k, e⟩ | ⟨k, c, e, z⟩
        · refine .inl ⟨k, ?_⟩
          have : y ≠ x := fun e => hj (nodup_ix hN e1 (e ▸ hi))
          simp [this, e]
        · exact .inr ⟨k, c, e, z.sameBut hs (cne y c e)⟩
    · obtain ⟨w', z⟩ := I.cell y c e
      exact ⟨w', z.sameBut hs (cne y c e)⟩
    · obtain ⟨e, n, ne, nf, d⟩ := I.pin p hp
      exact ⟨(hs.2 p.1 ne).trans e, n, ne, nf, d⟩
  · have hfn : X.fn x = true := by
      rcases hf with z | z
      · exact z
      · rw [z] at hk; cases hk
    obtain ⟨c, hc⟩ := I.ok.has x (.inl hk)
    obtain ⟨w', z⟩ := I.cell x c hc
    refine wpAny_storeName_cell I.ok.kind hk hc z (fun h' hc' hs => ?_)
    obtain ⟨oc, hoc, hocd⟩ := id z
    refine h { s with heap := h' } ⟨I.ok, I.os, I.bare, ⟨fun b o e n hb hx => ?_, fun b o e n hb hx => ?_, I.base.free, fun b o e hx => ?_, I.base.tups, I.base.frzs, I.base.tbls⟩, ⟨m, hn.sameBut hs (Ne.symm (cne x c hc)), fun j y v' e1 e2 e3 => ?_⟩, fun y c' e => ?_, I.free, I.freeC, fun p hp => ?_, tracked ⟨oc, hoc, I.freeC x c hc⟩ hs, by simpa using I.len⟩ ⟨c, hs, .inr hc⟩
    · exact (hs.2 b (Nat.ne_of_lt (Nat.lt_of_lt_of_le (Heap.lt_size e) (I.ok.cab x c hfn hc)))).trans (I.base.keep b o e n hb hx)
    · obtain ⟨sl, e1⟩ := I.base.slot b o e n hb hx
      exact ⟨sl, (hs.2 b (Nat.ne_of_lt (Nat.lt_of_lt_of_le (Heap.lt_size e) (I.ok.cab x c hfn hc)))).trans e1⟩
    · obtain ⟨o', e1⟩ := I.base.there b o e hx
      exact ⟨o', (hs.2 b (Nat.ne_of_lt (Nat.lt_of_lt_of_le (Heap.lt_size e) (I.ok.cab x c hfn hc)))).trans e1⟩
    · by_cases hj : j = i
      · subst hj
        rw [hi] at e1; cases e1
        rw [List.getElem?_set_self hiσ] at e2
        cases e2
        exact ⟨u, r, .inr ⟨.inl hk, c, hc, hc'⟩⟩
      · rw [List.getElem?_set_ne (Ne.symm hj)] at e2
        obtain ⟨u', r', q⟩ := hl j y v' e1 e2 e3
        refine ⟨u', r', ?_⟩
        rcases q with q | ⟨k, c', e, z'⟩
        · exact .inl q
        · refine .inr ⟨k, c', e, z'.sameBut hs ?_⟩
          rintro rfl
          exact hj (nodup_ix hN e1 (I.ok.inj _ _ _ e hc ▸ hi))
    · by_cases hcc : c' = c
      · subst hcc; exact ⟨_, hc'⟩
      · obtain ⟨w2, z2⟩ := I.cell y c' e
        exact ⟨w2, z2.sameBut hs hcc⟩
    · obtain ⟨e, n, ne, nf, d⟩ := I.pin p hp
      refine ⟨(hs.2 p.1 ?_).trans e, n, ne, nf, d⟩
      intro q
      rw [q, hoc] at e
      have q' : oc = p.2 := Option.some.inj e
      exact d w' (by rw [← q']; exact hocd)
theorem store_ok {M : Model} {A : Around} {E : Value → Shared → Prop} {i : Nat} {x : Str} {v : V} {u : Value} {Q : Unit → Shared → Prop} (I : Inv X pins σ H s) (hN : X.N.Nodup) (hi : X.N[i]? = some x) (hx : Loc X.env.scope x) (r : RelV v u)
    (h : ∀ s', Inv X pins (σ.set i (some v)) H s' → Q () s') (hf : X.fn x = true ∨ X.env.scope.names.lookup x = some .local := by first | exact .inl rfl | exact .inr rfl | assumption) : wpAny M A (storeName X.env x u) Q E s :=
  store_ok2 I hN hi hx r (fun s' I' _ => h s' I') hf
theorem Inv.call' {s' : Shared} {ch : List Addr} (I : Inv X pins σ H s) (ho : s'.os = s.os) (u : Un (frs X.stack) ch H H' s.heap s'.heap) (hok : HOk X.prog X.w H' s'.heap) (hg : AllBare s'.gens)
    (hch : ∀ b ∈ ch, (b ∈ X.ex ∨ X.s₀.heap.objs.size ≤ b) ∧ b ≠ X.env.locals ∧ (∀ x c, X.env.cells.lookup x = some c → c ≠ b) ∧ ∀ p ∈ X.pn ++ pins, p.1 ≠ b) : Inv X pins σ H' s' := by
  obtain ⟨h', g', d', t', o'⟩ := s'
  have e : o' = s.os := ho
  subst e
  exact I.call (g' := g') (t' := t') (d' := d') u hok hg hch
end
abbrev XK := Value → Option Addr → Hp → Prop
abbrev St := List (Option V)
abbrev VK := V → Hp → Prop
abbrev TE := St → Hp → VK → Prop
abbrev TT := St → Hp → (Bool → Hp → Prop) → Prop
abbrev TA := St → Hp → (List V → Hp → Prop) → Prop
structure Ends where
  nx : St → Hp → Prop
  rt : VK
  bk : St → Hp → Prop := fun _ _ => False
  ct : St → Hp → Prop := fun _ _ => False
abbrev TS := Ends → St → Hp → Prop
def EP (X : Cx) (pins : List (Addr × Obj)) (σ : St) (Q : VK) (u : Value) (s' : Shared) : Prop := ∃ v H', Inv X pins σ H' s' ∧ RelV v u ∧ Q v H'
def TP (X : Cx) (pins : List (Addr × Obj)) (σ : St) (Q : Bool → Hp → Prop) (b : Bool) (s' : Shared) : Prop := ∃ H', Inv X pins σ H' s' ∧ Q b H'
def AP (X : Cx) (pins : List (Addr × Obj)) (σ : St) (Q : List V → Hp → Prop) (us : List Value) (s' : Shared) : Prop := ∃ vs H', Inv X pins σ H' s' ∧ Vals vs us ∧ Q vs H'
def SP (X : Cx) (pins : List (Addr × Obj)) (D : Ends) (f : Flow) (s' : Shared) : Prop :=
  match f with
  | .next => ∃ σ' H', Inv X pins σ' H' s' ∧ D.nx σ' H'
  | .brk => ∃ σ' H', Inv X pins σ' H' s' ∧ D.bk σ' H'
  | .cont => ∃ σ' H', Inv X pins σ' H' s' ∧ D.ct σ' H'
  | .ret u => ∃ v σ' H', Inv X pins σ' H' s' ∧ RelV v u ∧ D.rt v H'
def PE (X : Cx) (e : Expr) (t : TE) : Prop :=
  ∀ (pins : List (Addr × Obj)) (s : Shared) (σ : St) (H : Hp) (Q : VK), Inv X pins σ H s → t σ H Q → wpAny (model X.prog X.w) X.A (eval e X.env) (EP X pins σ Q) X.xe s
def PT (X : Cx) (e : Expr) (t : TT) : Prop :=
  ∀ (pins : List (Addr × Obj)) (s : Shared) (σ : St) (H : Hp) (Q : Bool → Hp → Prop), Inv X pins σ H s → t σ H Q → wpAny (model X.prog X.w) X.A (isTrue e X.env (eval e X.env)) (TP X pins σ Q) X.xe s
def PW (X : Cx) (e : Expr) (t : TT) : Prop :=
  ∀ (whole : Sem Value) (pins : List (Addr × Obj)) (s : Shared) (σ : St) (H : Hp) (Q : Bool → Hp → Prop), Inv X pins σ H s → t σ H Q → wpAny (model X.prog X.w) X.A (isTrue e X.env whole) (TP X pins σ Q) X.xe s
theorem PW.pt {X : Cx} {e : Expr} {t : TT} (h : PW X e t) : PT X e t := h _
def PA (X : Cx) (es : List Expr) (t : TA) : Prop :=
  ∀ (pos : Pos) (pins : List (Addr × Obj)) (s : Shared) (σ : St) (H : Hp) (Q : List V → Hp → Prop), Inv X pins σ H s → t σ H Q → wpAny (model X.prog X.w) X.A (spliced (backTo pos (starEach es X.env))) (AP X pins σ Q) X.xe s
def PS (X : Cx) (st : Stmt) (t : TS) : Prop :=
  ∀ (pins : List (Addr × Obj)) (s : Shared) (σ : St) (H : Hp) (D : Ends), Inv X pins σ H s → t D σ H → wpAny (model X.prog X.w) X.A (exec st X.env) (SP X pins D) X.xe s
def PSs (X : Cx) (st : List Stmt) (t : TS) : Prop :=
  ∀ (pins : List (Addr × Obj)) (s : Shared) (σ : St) (H : Hp) (D : Ends), Inv X pins σ H s → t D σ H → wpAny (model X.prog X.w) X.A (execs st X.env) (SP X pins D) X.xe s
theorem thn {α : Type} {t : Sem α} {Q Q' : α → Shared → Prop} {M : Model} {A : Around} {E : Value → Shared → Prop} {s : Shared} (h : wpAny M A t Q E s) (hQ : ∀ a s, Q a s → Q' a s) : wpAny M A t Q' E s := wpAny_mono h hQ fun _ _ x => x
end L2
namespace L2
open PySem PySem.Spec PyProof.Rows
section
variable {X : Cx}
theorem bin {a b : Expr} {ta tb : TE} (ha : PE X a ta) (hb : PE X b tb) {pins : List (Addr × Obj)} {s : Shared} {σ : St} {H : Hp} {R : V → V → Hp → Prop} (I : Inv X pins σ H s) (h : ta σ H fun x H1 => tb σ H1 fun y H2 => R x y H2)
    {α : Type} {Q : α → Shared → Prop} {f : Value → Value → Sem α}
    (hf : ∀ v u s2 x y H2, Inv X pins σ H2 s2 → RelV x v → RelV y u → R x y H2 → wpAny (model X.prog X.w) X.A (f v u) Q X.xe s2) :
    wpAny (model X.prog X.w) X.A (eval a X.env) (fun v s₁ => wpAny (model X.prog X.w) X.A (eval b X.env) (fun u s₂ => wpAny (model X.prog X.w) X.A (f v u) Q X.xe s₂) X.xe s₁) X.xe s := by
  refine thn (ha pins s σ H _ I h) fun v s1 ⟨x, H1, I1, r1, q1⟩ => ?_
  refine thn (hb pins s1 σ H1 _ I1 q1) fun u s2 ⟨y, H2, I2, r2, q2⟩ => ?_
  exact hf v u s2 x y H2 I2 r1 r2 q2
def tVar (i : Nat) : TE := fun σ H Q => ∃ v, σ[i]? = some (some v) ∧ Q v H
def tC (v : V) : TE := fun _ H Q => Q v H
theorem pe_var {i : Nat} {x : Str} {pos : Pos} (hN : X.N[i]? = some x) (hv : Vis X.env.scope x) (hd : (x == ("__debug__" : Str)) = false := by decide) (hcd : (x == ("__classdict__" : Str)) = false := by decide) : PE X (.Name x pos) (tVar i) := by
  intro pins s σ H Q I h
  obtain ⟨v, e, h⟩ := h
  obtain ⟨m, hn, hl⟩ := I.loc
  obtain ⟨u, r, l⟩ := hl i x v hN e hv
  have fin : EP X pins σ Q u s := ⟨v, H, I, r, h⟩
  rcases l with ⟨hk, hm⟩ | ⟨hk, c, hc, hcell⟩
  · exact wpAny_Name (wpAny_loadName_local I.ok.kind hk hn hm fin) hd
  · rcases hk with hk | hk
    · exact wpAny_Name (wpAny_loadName_cell I.ok.kind hk hc hcell fin) hd
    · exact wpAny_Name (wpAny_loadName_free I.ok.kind hk hc hcell fin hcd) hd
theorem pe_int {i j pos} : PE X (.Constant (.int i) j pos) (tC (.int i)) := fun _ _ _ H _ I h => wpAny_Constant_int ⟨.int i, H, I.tok _, ⟨_, rfl⟩, h⟩
theorem pe_bl {b j pos} : PE X (.Constant (.bool b) j pos) (tC (.bl b)) := fun _ _ _ H _ I h => Constant_bool ⟨.bl b, H, I, rfl, h⟩
theorem pe_non {j pos} : PE X (.Constant .none j pos) (tC .non) := fun _ _ _ H _ I h => Constant_none ⟨.non, H, I, rfl, h⟩
def Gl (X : Cx) (x : Str) : Prop := X.env.kindOf x = some .globalImplicit
theorem ld_glob {E : Value → Shared → Prop} {pins : List (Addr × Obj)} {s : Shared} {σ : St} {H : Hp} {x : Str} {u : Value} {pos : Pos} {Q : Value → Shared → Prop} (I : Inv X pins σ H s) (hg : Gl X x) (hm : X.mg x = some u) (h : Q u s)
    (hd : (x == ("__debug__" : Str)) = false := by decide) : wpAny (model X.prog X.w) X.A (eval (.Name x pos) X.env) Q E s :=
  Calls.Name_function_global I.ok.kind hg (Calls.loadGlobal_global (by rw [I.ok.glob]; exact I.mod.glob.keeps I.bk) hm h) hd
theorem ld_blt {E : Value → Shared → Prop} {pins : List (Addr × Obj)} {s : Shared} {σ : St} {H : Hp} {x : Str} {u : Value} {pos : Pos} {Q : Value → Shared → Prop} (I : Inv X pins σ H s) (hg : Gl X x) (hm : X.mg x = none) (hv : bootBuiltins x = some u) (h : Q u s)
    (hn : x ≠ "__name__" := by decide) (hd : (x == ("__debug__" : Str)) = false := by decide) : wpAny (model X.prog X.w) X.A (eval (.Name x pos) X.env) Q E s := by
  obtain ⟨mb, h1, h2⟩ := I.mod.blt
  exact Calls.Name_function_global I.ok.kind hg (Calls.loadGlobal_builtin (by rw [I.ok.glob]; exact I.mod.glob.keeps I.bk) hm (by rw [I.ok.blt]; exact h1.keeps I.bk) ((h2 x hn).trans hv) h) hd
theorem pe_bltn {x : Str} {v : V} {u : Value} {pos : Pos} (hg : Gl X x) (hm : X.mg x = none) (hv : bootBuiltins x = some u) (r : RelV v u) (hn : x ≠ "__name__" := by decide) (hd : (x == ("__debug__" : Str)) = false := by decide) : PE X (.Name x pos) (tC v) :=
  fun _ _ _ H _ I h => ld_blt I hg hm hv ⟨v, H, I, r, h⟩ hn hd
variable {a b : Expr} {ta tb : TE} {pos : Pos}
theorem RelV.none_iff {x : V} {v : Value} (r : RelV x v) : (v == Value.none) = decide (x = .non) := by
  cases x with
  | non => cases r; rfl
  | bl _ => cases r; rfl
  | int _ => obtain ⟨t, rfl⟩ := r; rfl
  | str _ => obtain ⟨t, rfl⟩ := r; rfl
  | byt _ => obtain ⟨t, rfl⟩ := r; rfl
  | flt _ => obtain ⟨t, rfl⟩ := r; rfl
  | ref _ => cases r; rfl
  | ty _ => cases r; rfl
def tB (t : TE) : TT := fun σ H Q => t σ H fun x H1 => ∃ c, x = .bl c ∧ Q c H1
theorem pt_val {e : Expr} {t : TE} (h : PE X e t) (he : ∀ whole, isTrue e X.env whole = (do let v ← whole; standAt e.pos; holding [v] (truthy v)) := by intro _; rfl) : PT X e (tB t) := by
  intro pins s σ H Q I hw
  refine isTrue_plain (thn (h pins s σ H _ I hw) fun v s1 ⟨x, H1, I1, r1, q1⟩ => ?_) (he _)
  obtain ⟨d, rfl, q⟩ := q1
  cases r1
  exact wpAny_truthy_bool ⟨H1, I1, q⟩
variable {tA tB' : TT} {rest : List Expr}
def tAnd (t u : TT) : TT := fun σ H Q => t σ H fun c H1 => if c = true then u σ H1 Q else Q false H1
def tOr (t u : TT) : TT := fun σ H Q => t σ H fun c H1 => if c = true then Q true H1 else u σ H1 Q
def tNot (t : TT) : TT := fun σ H Q => t σ H fun c H1 => Q (!c) H1
theorem pw_and1 (ha : PT X a tA) : PW X (.BoolOp .And [a] pos) tA := by
  intro wh pins s σ H Q I h
  refine isTrue_and (thn (ha pins s σ H Q I h) fun c s1 e => ?_)
  cases c with
  | true => exact isTrue_and_nil e
  | false => exact e
theorem pw_or1 (ha : PT X a tA) : PW X (.BoolOp .Or [a] pos) tA := by
  intro wh pins s σ H Q I h
  refine isTrue_or (thn (ha pins s σ H Q I h) fun c s1 e => ?_)
  cases c with
  | false => exact isTrue_or_nil e
  | true => exact e
theorem pw_and (ha : PT X a tA) (hb : PW X (.BoolOp .And (b :: rest) pos) tB') : PW X (.BoolOp .And (a :: b :: rest) pos) (tAnd tA tB') := by
  intro wh pins s σ H Q I h
  refine isTrue_and (thn (ha pins s σ H _ I h) fun c s1 ⟨H1, I1, q1⟩ => ?_)
  cases c with
  | true => exact hb wh pins s1 σ H1 Q I1 q1
  | false => exact ⟨H1, I1, q1⟩
theorem pw_or (ha : PT X a tA) (hb : PW X (.BoolOp .Or (b :: rest) pos) tB') : PW X (.BoolOp .Or (a :: b :: rest) pos) (tOr tA tB') := by
  intro wh pins s σ H Q I h
  refine isTrue_or (thn (ha pins s σ H _ I h) fun c s1 ⟨H1, I1, q1⟩ => ?_)
  cases c with
  | true => exact ⟨H1, I1, q1⟩
  | false => exact hb wh pins s1 σ H1 Q I1 q1
theorem pt_not (ha : PT X a tA) : PT X (.UnaryOp .Not a pos) (tNot tA) := by
  intro pins s σ H Q I h
  exact isTrue_not (ha pins s σ H (fun c H1 => Q (!c) H1) I h)
def tAndV (ta tb : TE) : TE := fun σ H Q => ta σ H fun x H1 => ∃ c, x = .bl c ∧ if c = true then tb σ H1 Q else Q (.bl false) H1
theorem pe_one {op} {t : TE} (h : PE X a t) : PE X (.BoolOp op [a] pos) t := fun pins s σ H Q I hw => BoolOp_one (h pins s σ H Q I hw)
theorem pe_and (ha : PE X a ta) (hb : PE X (.BoolOp .And (b :: rest) pos) tb) : PE X (.BoolOp .And (a :: b :: rest) pos) (tAndV ta tb) := by
  intro pins s σ H Q I h
  refine BoolOp_and (thn (ha pins s σ H _ I h) fun v s1 ⟨x, H1, I1, r1, q1⟩ => ?_)
  obtain ⟨c, rfl, q1⟩ := q1
  cases r1
  refine wpAny_truthy_bool ?_
  cases c with
  | true => exact hb pins s1 σ H1 Q I1 q1
  | false => exact ⟨.bl false, H1, I1, rfl, q1⟩
def tIf (t : TT) (ta tb : TE) : TE := fun σ H Q => t σ H fun c H1 => if c = true then ta σ H1 Q else tb σ H1 Q
theorem pe_ifExp {c : Expr} (hc : PT X c tA) (ha : PE X a ta) (hb : PE X b tb) : PE X (.IfExp c a b pos) (tIf tA ta tb) := by
  intro pins s σ H Q I h
  refine wpAny_IfExp (thn (hc pins s σ H _ I h) fun d s1 ⟨H1, I1, q1⟩ => ?_)
  cases d with
  | true => exact ha pins s1 σ H1 Q I1 q1
  | false => exact hb pins s1 σ H1 Q I1 q1
end
end L2
namespace L2
open PySem PySem.Spec PyProof.Rows
def SqL (K : PySem.W.Frag) (H : Hp) (a : Addr) (xs : List V) : Prop :=
  Rd H a (.lst xs) ∨
    ∃ (o : Obj) (its : Array Value) (n : Nat), K.lookup a = some o ∧ o.cls = .type "list" ∧ o.dict = none ∧ o.data = .seq its n ∧ its.size ≤ sizeLine ∧ Vals xs its.toList
def SqT (K : PySem.W.Frag) (H : Hp) (a : Addr) (xs : List V) : Prop :=
  Rd H a (.tup xs) ∨
    ∃ (o : Obj) (its : Array Value) (n : Nat), K.lookup a = some o ∧ o.cls = .type "tuple" ∧ o.data = .seq its n ∧ its.size ≤ sizeLine ∧ Vals xs its.toList
def absV : Value → Option V
  | .none => some .non
  | .bool b => some (.bl b)
  | .int i _ => some (.int i)
  | .str x _ => some (.str x)
  | .bytes b _ => some (.byt b)
  | .float b _ => some (.flt b)
  | .ref a => some (.ref a)
  | .type n => some (.ty n)
  | _ => none
theorem RelV.abs {x : V} {u : Value} (r : RelV x u) : absV u = some x := by
  cases x with
  | non => cases r; rfl
  | bl _ => cases r; rfl
  | int _ => obtain ⟨t, rfl⟩ := r; rfl
  | str _ => obtain ⟨t, rfl⟩ := r; rfl
  | byt _ => obtain ⟨t, rfl⟩ := r; rfl
  | flt _ => obtain ⟨t, rfl⟩ := r; rfl
  | ref _ => cases r; rfl
  | ty _ => cases r; rfl
theorem RelV.inj {x y : V} {u : Value} (r : RelV x u) (q : RelV y u) : x = y := Option.some.inj (r.abs.symm.trans q.abs)
theorem Vals.inj : ∀ {xs ys : List V} {us : List Value}, Vals xs us → Vals ys us → xs = ys
  | _, _, _, .nil, .nil => rfl
  | _, _, _, .cons r t, .cons r' t' => by rw [r.inj r', Vals.inj t t']
section
variable {X : Cx} {pins : List (Addr × Obj)} {σ : St} {H : Hp} {s : Shared} {a : Addr} {xs ys : List V}
theorem SqL.of {K : PySem.W.Frag} (h : H a = some (.lst xs)) : SqL K H a xs := .inl (.inl h)
theorem SqT.of {K : PySem.W.Frag} (h : H a = some (.tup xs)) : SqT K H a xs := .inl (.inl h)
theorem Inv.list (I : Inv X pins σ H s) (h : SqL X.K H a xs) : ∃ its : List Value, Vals xs its ∧ PlainL s.heap a its.toArray ∧ xs.length ≤ sizeLine := by
  rcases h with h | ⟨o, its, n, hk, hc, hd, hs, hz, r⟩
  · obtain ⟨z, its, n, r, e⟩ := h.ok I.hok
    exact ⟨its, r, ⟨_, n, e, rfl, rfl, rfl⟩, z⟩
  · refine ⟨its.toList, r, ⟨o, n, I.kIn a o hk, hc, hd, by simpa using hs⟩, ?_⟩
    have e := r.length
    simp only [Array.length_toList] at e
    omega
theorem Inv.tuple (I : Inv X pins σ H s) (h : SqT X.K H a xs) : ∃ its : List Value, Vals xs its ∧ IsTup s.heap a its.toArray ∧ xs.length ≤ sizeLine := by
  rcases h with h | ⟨o, its, n, hk, hc, hs, hz, r⟩
  · obtain ⟨z, its, r, p⟩ := h.ok I.hok
    exact ⟨its, r, p, z⟩
  · refine ⟨its.toList, r, ⟨o, I.kIn a o hk, hc, n, by simpa using hs⟩, ?_⟩
    have e := r.length
    simp only [Array.length_toList] at e
    omega
theorem Inv.list_inj (I : Inv X pins σ H s) (h : SqL X.K H a xs) (h' : SqL X.K H a ys) : xs = ys := by
  obtain ⟨its, r, ⟨o, n, e, _, _, d⟩, _⟩ := I.list h
  obtain ⟨its', r', ⟨o', n', e', _, _, d'⟩, _⟩ := I.list h'
  rw [e] at e'; cases e'
  rw [d] at d'
  injection d' with d1 _
  have : its = its' := by simpa using congrArg Array.toList d1
  subst this
  exact r.inj r'
theorem Inv.tuple_inj (I : Inv X pins σ H s) (h : SqT X.K H a xs) (h' : SqT X.K H a ys) : xs = ys := by
  obtain ⟨its, r, ⟨o, e, _, n, d⟩, _⟩ := I.tuple h
  obtain ⟨its', r', ⟨o', e', _, n', d'⟩, _⟩ := I.tuple h'
  rw [e] at e'; cases e'
  rw [d] at d'
  injection d' with d1 _
  have : its = its' := by simpa using congrArg Array.toList d1
  subst this
  exact r.inj r'
end
abbrev Cx.wish (X : Cx) (E : Value → Shared → Prop) : Cx := { X with xe := E }
abbrev Cx.nox (X : Cx) : Cx := X.wish fun _ _ => False
theorem Cx.Ok.wish {X : Cx} (ok : X.Ok) (E : Value → Shared → Prop) : (X.wish E).Ok :=
  ⟨ok.mod, ok.kind, ok.glob, ok.blt, ok.above, ok.inj, ok.has, ok.cab, ok.hd, ok.frames, ok.stk, ok.exf, ok.bs, ok.bsz, ok.noex, ok.exfs, ok.funs, ok.frf⟩
theorem Cx.Ok.unwish {X : Cx} {E : Value → Shared → Prop} (ok : (X.wish E).Ok) : X.Ok :=
  ⟨ok.mod, ok.kind, ok.glob, ok.blt, ok.above, ok.inj, ok.has, ok.cab, ok.hd, ok.frames, ok.stk, ok.exf, ok.bs, ok.bsz, ok.noex, ok.exfs, ok.funs, ok.frf⟩
section
variable {X : Cx} {pins : List (Addr × Obj)} {σ : St} {H : Hp} {s : Shared} {E : Value → Shared → Prop}
theorem Inv.wish (I : Inv X pins σ H s) (E : Value → Shared → Prop) : Inv (X.wish E) pins σ H s := ⟨I.ok.wish E, I.os, I.bare, I.base, I.loc, I.cell, I.free, I.freeC, I.pin, I.hok, I.len⟩
theorem Inv.unwish (I : Inv (X.wish E) pins σ H s) : Inv X pins σ H s := ⟨I.ok.unwish, I.os, I.bare, I.base, I.loc, I.cell, I.free, I.freeC, I.pin, I.hok, I.len⟩
theorem SP.unwish {D : Ends} {f : Flow} {s' : Shared} (h : SP (X.wish E) pins D f s') : SP X pins D f s' := by
  cases f with
  | next => obtain ⟨σ', H', I, q⟩ := h; exact ⟨σ', H', I.unwish, q⟩
  | brk => obtain ⟨σ', H', I, q⟩ := h; exact ⟨σ', H', I.unwish, q⟩
  | cont => obtain ⟨σ', H', I, q⟩ := h; exact ⟨σ', H', I.unwish, q⟩
  | ret u => obtain ⟨v, σ', H', I, r, q⟩ := h; exact ⟨v, σ', H', I.unwish, r, q⟩
theorem PE.nox {e : Expr} {t : TE} (h : PE X.nox e t) : PE X e t := fun pins s σ H Q I hw =>
  wpAny_mono (h pins s σ H Q (I.wish _) hw) (fun _ _ ⟨v, H', I', r, q⟩ => ⟨v, H', I'.unwish, r, q⟩) fun _ _ z => False.elim z
theorem PT.nox {e : Expr} {t : TT} (h : PT X.nox e t) : PT X e t := fun pins s σ H Q I hw =>
  wpAny_mono (h pins s σ H Q (I.wish _) hw) (fun _ _ ⟨H', I', q⟩ => ⟨H', I'.unwish, q⟩) fun _ _ z => False.elim z
theorem PSs.nox {st : List Stmt} {t : TS} (h : PSs X.nox st t) : PSs X st t := fun pins s σ H D I hw =>
  wpAny_mono (h pins s σ H D (I.wish _) hw) (fun _ _ q => q.unwish) fun _ _ z => False.elim z
end
section
variable {X : Cx} {st : Stmt} {rest : List Stmt} {t u : TS} {e : Expr} {te : TE} {pos : Pos}
def tNext : TS := fun D σ H => D.nx σ H
def tSeq (t u : TS) : TS := fun D σ H => t { D with nx := u D } σ H
theorem pss_nil : PSs X [] tNext := fun _ _ σ H _ I h => wpAny_execs_nil ⟨σ, H, I, h⟩
theorem pss_cons (h1 : PS X st t) (h2 : PSs X rest u) : PSs X (st :: rest) (tSeq t u) := by
  intro pins s σ H D I h
  refine wpAny_execs_cons (thn (h1 pins s σ H { D with nx := u D } I h) fun f s1 q => ?_)
  cases f with
  | next =>
    obtain ⟨σ', H', I', q⟩ := q
    exact h2 pins s1 σ' H' D I' q
  | ret v => exact q
  | brk => exact q
  | cont => exact q
theorem pss_one (h1 : PS X st t) : PSs X [st] t := by
  intro pins s σ H D I h
  refine wpAny_execs_cons (thn (h1 pins s σ H D I h) fun f s1 q => ?_)
  cases f with
  | next => exact wpAny_execs_nil q
  | ret v => exact q
  | brk => exact q
  | cont => exact q
theorem Inv.quiet {pins : List (Addr × Obj)} {σ : St} {H : Hp} {s : Shared} (I : Inv X pins σ H s) : interactive X.env = false := by simp [interactive, I.ok.kind]
def tDrop (te : TE) : TS := fun D σ H => te σ H fun _ H1 => D.nx σ H1
theorem ps_expr (he : PE X e te) (hs : swapsWith e none pos.line X.env = pure false := by rfl) : PS X (.Expr e pos) (tDrop te) := by
  intro pins s σ H D I h
  exact wpAny_Expr_any (thn (he pins s σ H _ I h) fun v s1 ⟨x, H1, I1, r1, q1⟩ => ⟨σ, H1, I1, q1⟩) I.quiet hs
def tRet (te : TE) : TS := fun D σ H => te σ H D.rt
theorem ps_ret (he : PE X e te) : PS X (.Return (some e) pos) (tRet te) := by
  intro pins s σ H D I h
  exact wpAny_Return_some (thn (he pins s σ H _ I h) fun v s1 ⟨x, H1, I1, r1, q1⟩ => ⟨x, σ, H1, I1, r1, q1⟩)
def tIfS (c : TT) (t u : TS) : TS := fun D σ H => c σ H fun b H1 => if b = true then t D σ H1 else u D σ H1
theorem ps_if {c : Expr} {a b : List Stmt} {tc : TT} (hc : PT X c tc) (ha : PSs X a t) (hb : PSs X b u) : PS X (.If c a b pos) (tIfS tc t u) := by
  intro pins s σ H D I h
  refine wpAny_If (thn (hc pins s σ H _ I h) fun d s1 ⟨H1, I1, q1⟩ => ?_)
  cases d with
  | true => exact ha pins s1 σ H1 D I1 q1
  | false => exact hb pins s1 σ H1 D I1 q1
end
abbrev TG := V → St → Hp → (St → Hp → Prop) → Prop
abbrev TGs := List V → St → Hp → (St → Hp → Prop) → Prop
def PG (X : Cx) (target : Expr) (t : TG) : Prop :=
  ∀ (pins : List (Addr × Obj)) (s : Shared) (σ : St) (H : Hp) (v : V) (u : Value) (Q : St → Hp → Prop), Inv X pins σ H s → RelV v u → t v σ H Q →
    wpAny (model X.prog X.w) X.A (assign target X.env u) (fun _ s' => ∃ σ' H', Inv X pins σ' H' s' ∧ Q σ' H') X.xe s
def PGs (X : Cx) (ts : List Expr) (t : TGs) : Prop :=
  ∀ (pins : List (Addr × Obj)) (s : Shared) (σ : St) (H : Hp) (vs : List V) (us : List Value) (Q : St → Hp → Prop), Inv X pins σ H s → Vals vs us → t vs σ H Q →
    wpAny (model X.prog X.w) X.A (assignInOrder ((assignEach ts X.env).map (·.2)) us) (fun _ s' => ∃ σ' H', Inv X pins σ' H' s' ∧ Q σ' H') X.xe s
abbrev TSet := V → V → V → Hp → (Hp → Prop) → Prop
def PSet (X : Cx) (t : TSet) : Prop :=
  ∀ (pins : List (Addr × Obj)) (s : Shared) (σ : St) (H : Hp) (o i v : V) (ov iv u : Value) (Q : Hp → Prop), Inv X pins σ H s → RelV o ov → RelV i iv → RelV v u → t o i v H Q →
    wpAny (model X.prog X.w) X.A (setItem ov iv u) (fun _ s' => ∃ H', Inv X pins σ H' s' ∧ Q H') X.xe s
section
variable {X : Cx} {pos : Pos}
def gName (i : Nat) : TG := fun v σ H Q => Q (σ.set i (some v)) H
theorem pg_name {i : Nat} {x : Str} (hN : X.N.Nodup) (hi : X.N[i]? = some x) (hx : Loc X.env.scope x) (hf : X.fn x = true ∨ X.env.scope.names.lookup x = some .local := by first | exact .inl rfl | exact .inr rfl | assumption) : PG X (.Name x pos) (gName i) := by
  intro pins s σ H v u Q I r h
  exact wpAny_assign_Name (store_ok I hN hi hx r (fun s' I' => ⟨_, H, I', h⟩) hf)
def gNil : TGs := fun vs σ H Q => vs = [] ∧ Q σ H
def gCons (t : TG) (u : TGs) : TGs := fun vs σ H Q => ∃ v r, vs = v :: r ∧ t v σ H fun σ' H' => u r σ' H' Q
theorem pgs_nil : PGs X [] gNil := by
  intro pins s σ H vs us Q I r h
  obtain ⟨e, h⟩ := h
  subst e
  cases r
  exact assignInOrder_nil ⟨σ, H, I, h⟩
theorem pgs_cons {e : Expr} {es : List Expr} {t : TG} {u : TGs} (h1 : PG X e t) (h2 : PGs X es u)
    (hs : (assignEach (e :: es) X.env).map (·.2) = assign e X.env :: (assignEach es X.env).map (·.2) := by rfl) : PGs X (e :: es) (gCons t u) := by
  intro pins s σ H vs us Q I r h
  obtain ⟨v, vr, e1, h⟩ := h
  subst e1
  cases r with
  | cons r rr =>
    rw [hs]
    refine assignInOrder_cons (thn (h1 pins s σ H _ _ _ I r h) fun _ s1 ⟨σ1, H1, I1, q1⟩ => ?_)
    exact h2 pins s1 σ1 H1 _ _ Q I1 rr q1
def gTup (K : PySem.W.Frag) (n : Nat) (t : TGs) : TG := fun v σ H Q => ∃ a xs, v = .ref a ∧ SqT K H a xs ∧ xs.length = n ∧ t xs σ H Q
theorem pg_tup {es : List Expr} {k : Nat} {t : TGs} {n : Nat} (hc : X.calm = true) (h : PGs X es t)
    (hn : (assignEach es X.env).length = n := by rfl) (hst : (assignEach es X.env).findIdx? (·.1) = none := by rfl) : PG X (.Tuple es k pos) (gTup X.K n t) := by
  intro pins s σ H v u Q I r hw
  obtain ⟨a, xs, e1, hq, hl, hw⟩ := hw
  subst e1
  cases r
  obtain ⟨its, rv, ht, hz⟩ := I.tuple hq
  refine assign_Tuple_tuple (I.ok.hd hc) ht (by simp [hn, ← hl, rv.length]) hst fun h' hx => ?_
  have I1 : Inv X pins σ H { s with heap := h' } := I.kept (t' := s.toks) fun b o e => hx b o (Nat.ne_of_lt (Heap.lt_size e)) e
  exact h pins _ σ H xs _ Q I1 (by simpa using rv) hw
def gSub (to ti : TE) (t : TSet) : TG := fun v σ H Q => to σ H fun o H1 => ti σ H1 fun i H2 => t o i v H2 fun H3 => Q σ H3
theorem pg_sub {o i : Expr} {to ti : TE} {t : TSet} (ho : PE X o to) (hi : PE X i ti) (hs : PSet X t)
    (ha : ∀ v, assign (.Subscript o i pos) X.env v = (do
      let ov ← holding [v] (eval o X.env)
      let iv ← holding [v, ov] (eval i X.env)
      standAt pos
      holding [v, ov, iv] (setItem ov iv v)
      release [v, ov, iv] []) := by intro _; rfl) : PG X (.Subscript o i pos) (gSub to ti t) := by
  intro pins s σ H v u Q I r h
  rw [ha]
  refine wpAny_bind (wpAny_holding (thn (ho pins s σ H _ I h) fun ov s1 ⟨x, H1, I1, r1, q1⟩ => ?_))
  refine wpAny_bind (wpAny_holding (thn (hi pins s1 σ H1 _ I1 q1) fun iv s2 ⟨y, H2, I2, r2, q2⟩ => ?_))
  refine wpAny_bind (wpAny_standAt (wpAny_bind (wpAny_holding (thn (hs pins s2 σ H2 x y v ov iv u _ I2 r1 r2 r q2) fun _ s3 ⟨H3, I3, q3⟩ => ?_))))
  exact wpAny_release ⟨σ, H3, I3, q3⟩
def tAsg (te : TE) (g : TG) : TS := fun D σ H => te σ H fun x H1 => g x σ H1 D.nx
theorem ps_asg {tg e : Expr} {te : TE} {g : TG} (he : PE X e te) (hg : PG X tg g) (hs : swapsWithSole [tg] e pos.line X.env = pure false := by rfl) (hw : swappedStores [tg] e X.env = pure none := by rfl)
    (h1 : (assignEach [tg] X.env).map (·.2) = [assign tg X.env] := by rfl) : PS X (.Assign [tg] e pos) (tAsg te g) := by
  intro pins s σ H D I h
  refine wpAny_Assign_stores (thn (he pins s σ H _ I h) fun v s1 ⟨x, H1, I1, r1, q1⟩ => ?_) hs hw
  rw [h1]
  exact thn (hg pins s1 σ H1 x v _ I1 r1 q1) fun _ s2 q => q
theorem ps_set {i : Nat} {x : Str} {e : Expr} {te : TE} {pos' : Pos} (hN : X.N.Nodup) (hi : X.N[i]? = some x) (hx : Loc X.env.scope x) (he : PE X e te) (hs : swapsWith e (some (.Name x pos')) pos.line X.env = pure false := by rfl) (hf : X.fn x = true ∨ X.env.scope.names.lookup x = some .local := by first | exact .inl rfl | exact .inr rfl | assumption) :
    PS X (.Assign [.Name x pos'] e pos) (tAsg te (gName i)) := by
  intro pins s σ H D I h
  refine wpAny_Assign_Name (thn (he pins s σ H _ I h) fun v s1 ⟨y, H1, I1, r1, q1⟩ => ?_) hs
  exact store_ok I1 hN hi hx r1 (fun s2 I2 => ⟨_, H1, I2, q1⟩) hf
end
section
variable {X : Cx} {pos : Pos}
def tWhile (c : TT) (tb : TS) : TS := fun D σ H => ∃ W : Nat → St → Hp → Prop, (∃ m, W m σ H) ∧ ∀ m σ H, W m σ H →
  c σ H fun b H1 => if b = true then ∃ N : St → Hp → Prop, (∀ σ' H', N σ' H' → ∃ m', m' < m ∧ W m' σ' H') ∧ tb { D with nx := N, ct := N, bk := D.nx } σ H1 else D.nx σ H1
theorem ps_while {c : Expr} {body : List Stmt} {tc : TT} {tb : TS} (hp : PassesOwn (model X.prog X.w) X.A X.env X.xe) (hc : PT X c tc) (hb : PSs X body tb) : PS X (.While c body [] pos) (tWhile tc tb) := by
  intro pins s σ H D I h
  obtain ⟨W, ⟨m0, w0⟩, turn⟩ := h
  refine wpAny_While (codeAny_whileLoop (fun n s' => ∃ σ' H', Inv X pins σ' H' s' ∧ W n σ' H') ?_ m0 ⟨σ, H, I, w0⟩)
  rintro n s1 ⟨σ1, H1, I1, w1⟩
  refine wpAny_passesOwn hp (thn (hc pins s1 σ1 H1 _ I1 (turn n σ1 H1 w1)) fun b s2 ⟨H2, I2, q2⟩ => ?_)
  cases b with
  | true =>
    obtain ⟨N, hN, q2⟩ := q2
    rw [if_pos rfl]
    refine wpAny_passesOwn hp (thn (hb pins s2 σ1 H2 _ I2 q2) fun f s3 q3 => ?_)
    cases f with
    | next =>
      obtain ⟨σ3, H3, I3, n3⟩ := q3
      obtain ⟨m', hm, w3⟩ := hN σ3 H3 n3
      exact ⟨m', hm, σ3, H3, I3, w3⟩
    | cont =>
      obtain ⟨σ3, H3, I3, n3⟩ := q3
      obtain ⟨m', hm, w3⟩ := hN σ3 H3 n3
      exact ⟨m', hm, σ3, H3, I3, w3⟩
    | brk => exact q3
    | ret v => exact q3
  | false =>
    rw [if_neg Bool.false_ne_true]
    exact wpAny_execs_nil ⟨σ1, H2, I2, q2⟩
end
structure It where
  go : Nat → Hp → Prop
  yld : Nat → Hp → V → Hp → Prop
  stop : Nat → Hp → Prop
def FpOk (X : Cx) (pins : List (Addr × Obj)) (H : Hp) (b : Addr) : Prop :=
  H b = none ∧ b ≠ X.env.locals ∧ b ∉ X.fs ∧ (b ∈ X.ex ∨ X.s₀.heap.objs.size ≤ b) ∧ (∀ x c, X.env.cells.lookup x = some c → c ≠ b) ∧ ∀ p ∈ X.pn ++ pins, p.1 ≠ b
theorem Inv.fpOk {X : Cx} {pins : List (Addr × Obj)} {σ : St} {H H' : Hp} {s : Shared} {b : Addr} (I : Inv X pins σ H s) (hb : s.heap.objs.size ≤ b) (hn : H' b = none) : FpOk X pins H' b := by
  refine ⟨hn, Nat.ne_of_gt (Nat.lt_of_lt_of_le I.lt hb), I.nofs hb, .inr (Nat.le_trans I.sz hb), fun x c e z => ?_, fun p hp z => ?_⟩
  · obtain ⟨v, q⟩ := I.cell x c e
    exact absurd (Nat.lt_of_lt_of_le q.lt (by rw [z]; exact hb)) (Nat.lt_irrefl _)
  · exact absurd (Nat.lt_of_lt_of_le (Heap.lt_size (I.pin p hp).1) (by rw [z]; exact hb)) (Nat.lt_irrefl _)
structure Turn (P : Program) (w : World) (K : PySem.W.Frag) (tg : Expr) (J : It) (fp : List Addr) (it : Addr) (tn : Nat → Heap → Prop) : Prop where
  mem : it ∈ fp
  obj : ∀ i h, tn i h → ∀ b ∈ fp, ∃ o, h.get? b = some o ∧ ∀ v, o.data ≠ .cell v
  keep : ∀ i h h', tn i h → (∀ b ∈ fp, ∀ o, h.get? b = some o → h'.get? b = some o) → tn i h'
  item : ∀ (X : Cx), X.prog = P → X.w = w → X.K = K → X.calm = true → ∀ (i : Nat) (pins : List (Addr × Obj)) (s : Shared) (σ : St) (H : Hp) (E : Value → Shared → Prop), Inv X pins σ H s → (∀ b ∈ fp, FpOk X pins H b) → tn i s.heap → J.go i H →
    wpAny (model P w) X.A (pyNext (.ref it)) (fun r s1 => ∃ u, r = some u ∧
      wpAny (model P w) X.A (letOwnedTupleGo tg (.ref it) u) (fun _ s2 => ∃ x H', Inv X pins σ H' s2 ∧ RelV x u ∧ J.yld i H x H' ∧ tn (i + 1) s2.heap ∧ ∀ b ∈ fp, H' b = none) E s1) E s
  done : ∀ (X : Cx), X.prog = P → X.w = w → X.K = K → X.calm = true → ∀ (i : Nat) (pins : List (Addr × Obj)) (s : Shared) (σ : St) (H : Hp) (E : Value → Shared → Prop), Inv X pins σ H s → (∀ b ∈ fp, FpOk X pins H b) → tn i s.heap → J.stop i H →
    wpAny (model P w) X.A (pyNext (.ref it)) (fun r s1 => r = none ∧ Inv X pins σ H s1) E s
  self : ∀ (A : Around) (i : Nat) (s : Shared) (Q : Value → Shared → Prop) (E : Value → Shared → Prop), tn i s.heap → Q (.ref it) s → wpAny (model P w) A (pyIter (.ref it)) Q E s
abbrev TI := St → Hp → (It → Hp → Prop) → Prop
def PIE (X : Cx) (pins : List (Addr × Obj)) (σ : St) (tg : Expr) (R : It → Hp → Prop) (itv : Value) (s2 : Shared) : Prop :=
  ∃ (it : Addr) (fp : List Addr) (tn : Nat → Heap → Prop) (J : It) (H' : Hp), itv = .ref it ∧ Inv X pins σ H' s2 ∧ Turn X.prog X.w X.K tg J fp it tn ∧ tn 0 s2.heap ∧ (∀ b ∈ fp, FpOk X pins H' b) ∧ R J H'
def PI (X : Cx) (tg iter : Expr) (wi : TI) : Prop :=
  ∀ (pins : List (Addr × Obj)) (s : Shared) (σ : St) (H : Hp) (R : It → Hp → Prop), Inv X pins σ H s → wi σ H R →
    wpAny (model X.prog X.w) X.A (eval iter X.env) (fun v s1 => wpAny (model X.prog X.w) X.A (pyIter v) (PIE X pins σ tg R) X.xe s1) X.xe s
theorem go_of {M : Model} {A : Around} {E : Value → Shared → Prop} {s : Shared} {tg : Expr} {it : Addr} {u : Value} {o : Obj} {n : String} {vs : Array Value} {Q : Unit → Shared → Prop} (ho : s.heap.get? it = some o) (hc : o.cls = .type n) (hd : o.data = .fields vs)
    (hn : ["enumerate", "zip", "dict_itemiterator", "dict_reverseitemiterator", "odict_iterator", "itertools.zip_longest", "itertools.pairwise"].contains n = false) (hQ : Q () s) : wpAny M A (letOwnedTupleGo tg (.ref it) u) Q E s := by
  unfold letOwnedTupleGo
  cases tg <;> first
    | exact wpAny_pure hQ
    | (cases u <;> first
        | exact wpAny_pure hQ
        | (refine wpAny_bind (wpAny_load ho ?_)
           rw [hc, hd]
           show wpAny M A (if (["enumerate", "zip", "dict_itemiterator", "dict_reverseitemiterator", "odict_iterator", "itertools.zip_longest", "itertools.pairwise"].contains n && vs[0]? == some (rawInt _)) = true then _ else _) Q E s
           rw [if_neg (by intro h; rw [hn, Bool.false_and] at h; cases h)]
           exact wpAny_pure hQ))
def Itl (K : PySem.W.Frag) (a : Addr) : It :=
  ⟨fun i H => ∃ xs x, SqL K H a xs ∧ xs[i]? = some x, fun i H x H' => H' = H ∧ ∀ xs, SqL K H a xs → xs[i]? = some x, fun i H => ∃ xs, SqL K H a xs ∧ xs.length ≤ i⟩
def Itt (K : PySem.W.Frag) (a : Addr) : It :=
  ⟨fun i H => ∃ xs x, SqT K H a xs ∧ xs[i]? = some x, fun i H x H' => H' = H ∧ ∀ xs, SqT K H a xs → xs[i]? = some x, fun i H => ∃ xs, SqT K H a xs ∧ xs.length ≤ i⟩
def Itr (lo : Int) (n : Nat) : It := ⟨fun i _ => i < n, fun i H x H' => H' = H ∧ x = .int (lo + i), fun i _ => n ≤ i⟩
theorem turn_list {P : Program} {w : World} {K : PySem.W.Frag} {tg : Expr} (a it : Addr) : Turn P w K tg (Itl K a) [it] it (fun i h => h.IsListIter it a i) where
  mem := by simp
  obj := fun i h st b hb => by
    have e : b = it := by simpa using hb
    subst e
    obtain ⟨o, e, c, d⟩ := st
    exact ⟨o, e, fun v z => by rw [d] at z; cases z⟩
  keep := fun i h h' st k => st.at fun o e => k it (by simp) o e
  item := by
    intro X hP hw hK hc i pins s σ H E I hf st hg
    subst hP hw hK
    obtain ⟨xs, x, hq, hx⟩ := hg
    obtain ⟨its, rv, p, hz⟩ := I.list hq
    obtain ⟨u, hu, ru⟩ := rv.get hx
    obtain ⟨f0, f1, f2, f3, f4, f5⟩ := hf it (by simp)
    refine wpAny_pyNext_list_item st p.isList (x := u) (by simpa using hu) fun h' st' sb => ?_
    have I1 : Inv X pins σ H { s with heap := h' } := I.turned (t' := s.toks) (fun b o hb e => (sb.2 b hb).trans e) f0 f1 f3 f4 f5
    obtain ⟨o, e, c, d⟩ := id st'
    exact ⟨u, rfl, go_of (s := { s with heap := h' }) e c d (by decide) ⟨x, H, I1, ru, ⟨rfl, fun ys hy => by rw [I.list_inj hy hq]; exact hx⟩, st', fun b hb => (hf b hb).1⟩⟩
  done := by
    intro X hP hw hK hc i pins s σ H E I hf st hg
    subst hP hw hK
    obtain ⟨xs, hq, hx⟩ := hg
    obtain ⟨its, rv, p, hz⟩ := I.list hq
    obtain ⟨f0, f1, f2, f3, f4, f5⟩ := hf it (by simp)
    have hl := rv.length
    exact wpAny_pyNext_list_end (I.ok.hd hc) st p.isList (by simp; omega) fun h' eb => ⟨rfl, I.turned (t' := s.toks) (fun b o hb e => eb b o hb e) f0 f1 f3 f4 f5⟩
  self := fun _ _ _ _ _ st h => wpAny_pyIter_listiter st h
theorem turn_tuple {P : Program} {w : World} {K : PySem.W.Frag} {tg : Expr} (a it : Addr) : Turn P w K tg (Itt K a) [it] it (fun i h => h.IsTupleIter it a i) where
  mem := by simp
  obj := fun i h st b hb => by
    have e : b = it := by simpa using hb
    subst e
    obtain ⟨o, e, c, d⟩ := st
    exact ⟨o, e, fun v z => by rw [d] at z; cases z⟩
  keep := fun i h h' st k => st.at fun o e => k it (by simp) o e
  item := by
    intro X hP hw hK hc i pins s σ H E I hf st hg
    subst hP hw hK
    obtain ⟨xs, x, hq, hx⟩ := hg
    obtain ⟨its, rv, p, hz⟩ := I.tuple hq
    obtain ⟨u, hu, ru⟩ := rv.get hx
    obtain ⟨f0, f1, f2, f3, f4, f5⟩ := hf it (by simp)
    refine wpAny_pyNext_tuple_item st (show s.heap.IsTuple a its.toArray from p) (x := u) (by simpa using hu) fun h' st' sb => ?_
    have I1 : Inv X pins σ H { s with heap := h' } := I.turned (t' := s.toks) (fun b o hb e => (sb.2 b hb).trans e) f0 f1 f3 f4 f5
    obtain ⟨o, e, c, d⟩ := id st'
    exact ⟨u, rfl, go_of (s := { s with heap := h' }) e c d (by decide) ⟨x, H, I1, ru, ⟨rfl, fun ys hy => by rw [I.tuple_inj hy hq]; exact hx⟩, st', fun b hb => (hf b hb).1⟩⟩
  done := by
    intro X hP hw hK hc i pins s σ H E I hf st hg
    subst hP hw hK
    obtain ⟨xs, hq, hx⟩ := hg
    obtain ⟨its, rv, p, hz⟩ := I.tuple hq
    obtain ⟨f0, f1, f2, f3, f4, f5⟩ := hf it (by simp)
    have hl := rv.length
    exact wpAny_pyNext_tuple_end (I.ok.hd hc) st (show s.heap.IsTuple a its.toArray from p) (by simp; omega) fun h' eb => ⟨rfl, I.turned (t' := s.toks) (fun b o hb e => eb b o hb e) f0 f1 f3 f4 f5⟩
  self := fun _ _ _ _ _ st h => wpAny_pyIter_tupleiter st h
theorem turn_range {P : Program} {w : World} {K : PySem.W.Frag} {tg : Expr} (it : Addr) (lo : Int) (n : Nat) : Turn P w K tg (Itr lo n) [it] it (fun i h => IsRangeIter h it (lo + (i : Nat) * 1) ((n : Int) - (i : Nat)) 1) where
  mem := by simp
  obj := fun i h st b hb => by
    have e : b = it := by simpa using hb
    subst e
    exact ⟨_, st, fun v z => by
      have z' : Data.fields _ = Data.cell v := z
      cases z'⟩
  keep := fun i h h' st k => k it (by simp) _ st
  item := by
    intro X hP hw hK hc i pins s σ H E I hf st hg
    subst hP hw hK
    obtain ⟨f0, f1, f2, f3, f4, f5⟩ := hf it (by simp)
    have W := Walks.range (prog := X.prog) (w := X.w) (I.ok.hd hc) it lo 1 n
    refine W.item i s _ _ hg st fun v h' tk hv st' kk => ?_
    obtain ⟨t, rfl⟩ := hv
    have I1 : Inv X pins σ H { s with heap := h', toks := tk } := I.turned (fun b o hb e => kk b o (by simpa using hb) e) f0 f1 f3 f4 f5
    refine ⟨_, rfl, go_of (s := { s with heap := h', toks := tk }) (n := "range_iterator") st' rfl rfl (by decide) ⟨.int (lo + i), H, I1, ⟨t, ?_⟩, ⟨rfl, rfl⟩, st', fun b hb => (hf b hb).1⟩⟩
    rw [Int.mul_one]
  done := by
    intro X hP hw hK hc i pins s σ H E I hf st hg
    subst hP hw hK
    obtain ⟨f0, f1, f2, f3, f4, f5⟩ := hf it (by simp)
    exact wpAny_pyNext_range_end (I.ok.hd hc) st (by have : n ≤ i := hg; omega) fun h' eb => ⟨rfl, I.turned (t' := s.toks) (fun b o hb e => eb b o hb e) f0 f1 f3 f4 f5⟩
  self := fun _ _ _ _ _ st h => wpAny_pyIter_rangeiter st h
end L2
namespace L2
open PySem PySem.Spec PyProof.Rows
section
variable {X : Cx} {tg : Expr}
def iList (K : PySem.W.Frag) (tl : TE) : TI := fun σ H R => tl σ H fun x H1 => ∃ a, x = .ref a ∧ (∃ xs, SqL K H1 a xs) ∧ R (Itl K a) H1
def iTup (K : PySem.W.Frag) (tl : TE) : TI := fun σ H R => tl σ H fun x H1 => ∃ a, x = .ref a ∧ (∃ xs, SqT K H1 a xs) ∧ R (Itt K a) H1
theorem pi_list {l : Expr} {tl : TE} (hl : PE X l tl) : PI X tg l (iList X.K tl) := by
  intro pins s σ H R I h
  refine thn (hl pins s σ H _ I h) fun v s1 ⟨x, H1, I1, r1, q1⟩ => ?_
  obtain ⟨a, e, ⟨xs, hq⟩, q⟩ := q1
  subst e
  cases r1
  obtain ⟨its, rv, p, hz⟩ := I1.list hq
  refine wpAny_pyIter_list p.isList ?_
  refine ⟨s1.heap.objs.size, [s1.heap.objs.size], _, _, H1, rfl, I1.kept (t' := s1.toks) fun b o e => Heap.get?_push_of_some _ e, turn_list a _, ⟨_, Heap.get?_push_size _ rfl, rfl, rfl⟩, fun b hb => ?_, q⟩
  have e : b = s1.heap.objs.size := by simpa using hb
  subst e
  exact I1.fpOk (Nat.le_refl _) (I1.hok.fresh (Nat.le_refl _))
theorem pi_tup {l : Expr} {tl : TE} (hl : PE X l tl) : PI X tg l (iTup X.K tl) := by
  intro pins s σ H R I h
  refine thn (hl pins s σ H _ I h) fun v s1 ⟨x, H1, I1, r1, q1⟩ => ?_
  obtain ⟨a, e, ⟨xs, hq⟩, q⟩ := q1
  subst e
  cases r1
  obtain ⟨its, rv, p, hz⟩ := I1.tuple hq
  refine wpAny_pyIter_tuple (show s1.heap.IsTuple a its.toArray from p) ?_
  refine ⟨s1.heap.objs.size, [s1.heap.objs.size], _, _, H1, rfl, I1.kept (t' := s1.toks) fun b o e => Heap.get?_push_of_some _ e, turn_tuple a _, ⟨_, Heap.get?_push_size _ rfl, rfl, rfl⟩, fun b hb => ?_, q⟩
  have e : b = s1.heap.objs.size := by simpa using hb
  subst e
  exact I1.fpOk (Nat.le_refl _) (I1.hok.fresh (Nat.le_refl _))
theorem range_it {pins : List (Addr × Obj)} {σ : St} {H : Hp} {s : Shared} {R : It → Hp → Prop} {E : Value → Shared → Prop} {lo hi : Int} {t u v : Tok} {tk : Nat} (I : Inv X pins σ H s) (h1 : -(2 ^ 62) ≤ lo) (h2 : lo < 2 ^ 62) (h3 : -(2 ^ 62) ≤ hi) (h4 : hi < 2 ^ 62)
    (q : R (Itr lo (hi - lo).toNat) H) : wpAny (model X.prog X.w) X.A (pyIter (.ref s.heap.objs.size)) (PIE X pins σ tg R) E { s with heap := s.heap.push { cls := .type "range", data := .fields #[.int lo t, .int hi u, .int 1 v] }, toks := tk } := by
  refine wpAny_pyIter_range (IsRange.new ..) (small_one h1 h2 h3 h4) ?_
  have I1 : Inv X pins σ H { s with heap := s.heap.push { cls := .type "range", data := .fields #[.int lo t, .int hi u, .int 1 v] }, toks := tk } := I.kept fun b o e => Heap.get?_push_of_some _ e
  refine ⟨(s.heap.push { cls := .type "range", data := .fields #[.int lo t, .int hi u, .int 1 v] }).objs.size, [(s.heap.push { cls := .type "range", data := .fields #[.int lo t, .int hi u, .int 1 v] }).objs.size], _, _, H, rfl,
    I1.kept (t' := tk) fun b o e => Heap.get?_push_of_some _ e, turn_range _ lo (hi - lo).toNat, ?_, fun b hb => ?_, q⟩
  · have e1 : lo + ((0 : Nat) : Int) * 1 = lo := by simp
    have e2 : (((hi - lo).toNat : Nat) : Int) - ((0 : Nat) : Int) = Builtin.Range.rangeSize lo hi 1 := by rw [rangeSize_one]; split <;> omega
    show IsRangeIter _ _ (lo + ((0 : Nat) : Int) * 1) ((((hi - lo).toNat : Nat) : Int) - ((0 : Nat) : Int)) 1
    rw [e1, e2]
    exact Heap.get?_push_size _ rfl
  · have e : b = (s.heap.push { cls := .type "range", data := .fields #[.int lo t, .int hi u, .int 1 v] }).objs.size := by simpa using hb
    subst e
    exact I1.fpOk (Nat.le_refl _) (I1.hok.fresh (Nat.le_refl _))
def iRng1 (ta : TA) : TI := fun σ H R => ta σ H fun vs H1 => ∃ j : Int, vs = [.int j] ∧ -(2 ^ 62) ≤ j ∧ j < 2 ^ 62 ∧ R (Itr 0 j.toNat) H1
def iRng2 (ta : TA) : TI := fun σ H R => ta σ H fun vs H1 => ∃ i j : Int, vs = [.int i, .int j] ∧ (-(2 ^ 62) ≤ i ∧ i < 2 ^ 62 ∧ -(2 ^ 62) ≤ j ∧ j < 2 ^ 62) ∧ R (Itr i (j - i).toNat) H1
theorem pi_range1 {a : Expr} {ta : TA} {p pos : Pos} (hg : Gl X "range") (hm : X.mg "range" = none) (ha : PA X [a] ta) (hs : starEach [a] X.env = [(false, eval a X.env)] := by rfl) : PI X tg (.Call (.Name "range" p) [a] [] pos) (iRng1 ta) := by
  intro pins s σ H R I h
  refine Call_ (ld_blt I hg hm boot_range (PyProof.Rows.callWith_type1 (thn (ha pos pins s σ H _ I h) fun us s1 ⟨vs, H1, I1, r1, q1⟩ => ?_) hs rfl))
  obtain ⟨j, e, q1, q2, q⟩ := q1
  subst e
  cases r1 with
  | cons r rr =>
    cases rr
    obtain ⟨t, rfl⟩ := r
    exact call_range_1 (range_it I1 (by omega) (by omega) q1 q2 (by simpa using q))
theorem pi_range2 {a b : Expr} {ta : TA} {p pos : Pos} (hg : Gl X "range") (hm : X.mg "range" = none) (ha : PA X [a, b] ta) (hs : starEach [a, b] X.env = [(false, eval a X.env), (false, eval b X.env)] := by rfl) (hs2 : starEach [b] X.env = [(false, eval b X.env)] := by rfl) :
    PI X tg (.Call (.Name "range" p) [a, b] [] pos) (iRng2 ta) := by
  intro pins s σ H R I h
  refine Call_ (ld_blt I hg hm boot_range (PyProof.Rows.callWith_type1 (thn (ha pos pins s σ H _ I h) fun us s1 ⟨vs, H1, I1, r1, q1⟩ => ?_) (by rw [hs, hs2]) (by rw [hs2]; rfl)))
  obtain ⟨i, j, e, ⟨q1, q2, q3, q4⟩, q⟩ := q1
  subst e
  cases r1 with
  | cons r rr =>
    cases rr with
    | cons r' rr =>
      cases rr
      obtain ⟨t, rfl⟩ := r
      obtain ⟨t', rfl⟩ := r'
      exact call_range_2 (range_it I1 q1 q2 q3 q4 q)
def tFor (wi : TI) (g : TG) (tb : TS) : TS := fun D σ H => wi σ H fun J H1 => ∃ W : Nat → Nat → St → Hp → Prop, (∃ m, W 0 m σ H1) ∧ ∀ i m σ H, W i m σ H →
  (J.stop i H ∧ D.nx σ H) ∨ (J.go i H ∧ ∃ N : St → Hp → Prop, (∀ σ' H', N σ' H' → ∃ m', m' < m ∧ W (i + 1) m' σ' H') ∧ ∀ x H', J.yld i H x H' → g x σ H' fun σ2 H2 => tb { D with nx := N, ct := N, bk := D.nx } σ2 H2)
def pinsAt (fp : List Addr) (h : Heap) : List (Addr × Obj) := fp.filterMap fun b => (h.get? b).map fun o => (b, o)
theorem mem_pinsAt {fp : List Addr} {h : Heap} {b : Addr} {o : Obj} (hb : b ∈ fp) (e : h.get? b = some o) : (b, o) ∈ pinsAt fp h := List.mem_filterMap.mpr ⟨b, hb, by rw [e]; rfl⟩
theorem of_pinsAt {fp : List Addr} {h : Heap} {p : Addr × Obj} (hp : p ∈ pinsAt fp h) : p.1 ∈ fp ∧ h.get? p.1 = some p.2 := by
  obtain ⟨b, hb, e⟩ := List.mem_filterMap.mp hp
  cases q : h.get? b with
  | none => rw [q] at e; cases e
  | some o =>
    rw [q] at e
    have e' : (b, o) = p := Option.some.inj e
    subst e'
    exact ⟨hb, q⟩
theorem Inv.pinned {pins : List (Addr × Obj)} {σ : St} {H : Hp} {s : Shared} {fp : List Addr} (I : Inv X pins σ H s) (hf : ∀ b ∈ fp, FpOk X pins H b) (ho : ∀ b ∈ fp, ∃ o, s.heap.get? b = some o ∧ ∀ v, o.data ≠ .cell v) : Inv X (pins ++ pinsAt fp s.heap) σ H s :=
  I.pins_of fun p hp => (List.mem_append.mp hp).elim (fun z => I.pin p (List.mem_append_right _ z)) fun z => by
    obtain ⟨hb, e⟩ := of_pinsAt z
    obtain ⟨f0, f1, f2, _⟩ := hf p.1 hb
    obtain ⟨o, e', d⟩ := ho p.1 hb
    rw [e] at e'; cases e'
    exact ⟨e, f0, f1, f2, d⟩
theorem Inv.unpinned {pins pl : List (Addr × Obj)} {σ : St} {H : Hp} {s : Shared} (I : Inv X (pins ++ pl) σ H s) : Inv X pins σ H s := I.pins_of fun p hp => I.pin p (List.mem_append_right _ (List.mem_append_left _ hp))
theorem ps_for {iter : Expr} {body : List Stmt} {wi : TI} {g : TG} {tb : TS} {pos : Pos} (hp : PassesOwn (model X.prog X.w) X.A X.env X.xe) (hc : X.calm = true) (hi : PI X tg iter wi) (hg : PG X tg g) (hb : PSs X body tb)
    (hs : ∀ x, foldedSetIterable iter X.env x = pure x := by intro _; rfl) : PS X (.For tg iter body [] pos) (tFor wi g tb) := by
  intro pins s σ H D I h
  refine wpAny_For (thn (hi pins s σ H _ I h) fun v s1 h1 => thn h1 fun itv s2 h2 => ?_) hs
  obtain ⟨it, fp, tn, J, H2, e, I2, T, st2, f2, W, ⟨m0, w0⟩, turn⟩ := h2
  subst e
  -- what stays true of the iterator's objects through the loop
  have stat : ∀ {H' : Hp}, (∀ b ∈ fp, H' b = none) → ∀ b ∈ fp, FpOk X pins H' b := fun hn b hb => ⟨hn b hb, (f2 b hb).2⟩
  refine codeAny_forLoop_any (fun n s' => ∃ i σ' H', Inv X pins σ' H' s' ∧ tn i s'.heap ∧ (∀ b ∈ fp, H' b = none) ∧ W i n σ' H') ?_ m0 ⟨0, σ, H2, I2, st2, fun b hb => (f2 b hb).1, w0⟩
  rintro n s3 ⟨i, σ3, H3, I3, st3, fr3, w3⟩
  rcases turn i n σ3 H3 w3 with ⟨stop, qn⟩ | ⟨go, N, hN, step⟩
  · refine wpAny_passesOwn hp (thn (T.done X rfl rfl rfl hc i pins s3 σ3 H3 X.xe I3 (stat fr3) st3 stop) fun r s4 ⟨hr, I4⟩ => ?_)
    subst hr
    exact wpAny_execs_nil ⟨σ3, H3, I4, qn⟩
  · refine wpAny_passesOwn hp (thn (T.item X rfl rfl rfl hc i pins s3 σ3 H3 X.xe I3 (stat fr3) st3 go) fun r s4 ⟨u, hr, h4⟩ => ?_)
    subst hr
    refine wpAny_passesOwn hp (thn h4 fun _ s5 ⟨x, H5, I5, r5, y5, st5, fr5⟩ => ?_)
    have I5' := I5.pinned (stat fr5) (T.obj _ _ st5)
    refine wpAny_passesOwn hp (thn (hg _ s5 σ3 H5 x u _ I5' r5 (step x H5 y5)) fun _ s6 ⟨σ6, H6, I6, q6⟩ => ?_)
    refine wpAny_passesOwn hp (thn (hb _ s6 σ6 H6 _ I6 q6) fun f s7 q7 => ?_)
    have again : ∀ {σ7 : St} {H7 : Hp}, Inv X (pins ++ pinsAt fp s5.heap) σ7 H7 s7 → N σ7 H7 → ∃ m, m < n ∧ ∃ i σ' H', Inv X pins σ' H' s7 ∧ tn i s7.heap ∧ (∀ b ∈ fp, H' b = none) ∧ W i m σ' H' := fun {σ7 H7} I7 n7 => by
      obtain ⟨m', hm, w7⟩ := hN σ7 H7 n7
      refine ⟨m', hm, i + 1, σ7, H7, I7.unpinned, T.keep _ _ _ st5 fun b hb o e => (I7.pin (b, o) (List.mem_append_right _ (List.mem_append_right _ (mem_pinsAt hb e)))).1, fun b hb => ?_, w7⟩
      obtain ⟨o, e, d⟩ := T.obj _ _ st5 b hb
      exact (I7.pin (b, o) (List.mem_append_right _ (List.mem_append_right _ (mem_pinsAt hb e)))).2.1
    cases f with
    | next => obtain ⟨σ7, H7, I7, n7⟩ := q7; exact again I7 n7
    | cont => obtain ⟨σ7, H7, I7, n7⟩ := q7; exact again I7 n7
    | brk => obtain ⟨σ7, H7, I7, q7⟩ := q7; exact ⟨σ7, H7, I7.unpinned, q7⟩
    | ret v => obtain ⟨x7, σ7, H7, I7, r7, q7⟩ := q7; exact ⟨x7, σ7, H7, I7.unpinned, r7, q7⟩
end
end L2
namespace L2
open PySem PySem.Spec PyProof.Rows
abbrev R2 := V → V → Hp → VK → Prop
def OpR (X : Cx) (f : Value → Value → Sem Value) (r : R2) : Prop :=
  ∀ (pins : List (Addr × Obj)) (s : Shared) (σ : St) (H : Hp) (x y : V) (v u : Value) (Q : VK), Inv X pins σ H s → RelV x v → RelV y u → r x y H Q →
    wpAny (model X.prog X.w) X.A (f v u) (EP X pins σ Q) X.xe s
def UnR (X : Cx) (f : Value → Sem Value) (r : V → Hp → VK → Prop) : Prop :=
  ∀ (pins : List (Addr × Obj)) (s : Shared) (σ : St) (H : Hp) (x : V) (v : Value) (Q : VK), Inv X pins σ H s → RelV x v → r x H Q →
    wpAny (model X.prog X.w) X.A (f v) (EP X pins σ Q) X.xe s
def CallR (X : Cx) (f : Value) (r : List V → Hp → VK → Prop) : Prop :=
  ∀ (pins : List (Addr × Obj)) (s : Shared) (σ : St) (H : Hp) (xs : List V) (us : List Value) (Q : VK), Inv X pins σ H s → Vals xs us → r xs H Q →
    wpAny (model X.prog X.w) X.A (call f us) (EP X pins σ Q) X.xe s
def tOp (r : R2) (ta tb : TE) : TE := fun σ H Q => ta σ H fun x H1 => tb σ H1 fun y H2 => r x y H2 Q
def tUn (r : V → Hp → VK → Prop) (ta : TE) : TE := fun σ H Q => ta σ H fun x H1 => r x H1 Q
def rI (C : Int → Int → Prop) (g : Int → Int → V) : R2 := fun x y H Q => ∃ i j, x = .int i ∧ y = .int j ∧ C i j ∧ Q (g i j) H
def rI0 (g : Int → Int → V) : R2 := fun x y H Q => ∃ i j, x = .int i ∧ y = .int j ∧ Q (g i j) H
def rU (g : Int → V) : V → Hp → VK → Prop := fun x H Q => ∃ i, x = .int i ∧ Q (g i) H
section
variable {X : Cx} {a b c : Expr} {ta tb tc : TE} {pos : Pos}
theorem binT (ha : PE X a ta) (hb : PE X b tb) {pins : List (Addr × Obj)} {s : Shared} {σ : St} {H : Hp} {R : V → V → Hp → Prop} (I : Inv X pins σ H s)
    (h : ta σ H fun x H1 => tb σ H1 fun y H2 => R x y H2) {Q : Value → Shared → Prop} {f : Value → Value → Sem Value}
    (hf : ∀ v u s2 x y H2, Inv X pins σ H2 s2 → RelV x v → RelV y u → R x y H2 → wpAny (model X.prog X.w) X.A (f v u) Q X.xe s2) :
    wpAny (model X.prog X.w) X.A (eval a X.env) (fun v s₁ => wpAny (model X.prog X.w) X.A (eval b X.env) (fun u s₂ => wpAny (model X.prog X.w) X.A (f v u) Q X.xe s₂) X.xe s₁) X.xe s := by
  refine thn (ha pins s σ H _ I h) fun v s1 ⟨x, H1, I1, r1, q1⟩ => ?_
  refine thn (hb pins s1 σ H1 _ I1 q1) fun u s2 ⟨y, H2, I2, r2, q2⟩ => ?_
  exact hf v u s2 x y H2 I2 r1 r2 q2
theorem pe_op {op : Operator} {r : R2} (ho : OpR X (binaryOp op) r) (ha : PE X a ta) (hb : PE X b tb) : PE X (.BinOp a op b pos) (tOp r ta tb) := by
  intro pins s σ H Q I h
  exact wpAny_BinOp (binT ha hb I h fun v u s2 x y H2 I2 rx ry q => ho pins s2 σ H2 x y v u Q I2 rx ry q)
theorem pe_un {op : UnaryOp} {r : V → Hp → VK → Prop} (ho : UnR X (unaryOp op) r) (ha : PE X a ta) : PE X (.UnaryOp op a pos) (tUn r ta) := by
  intro pins s σ H Q I h
  exact UnaryOp_ (thn (ha pins s σ H _ I h) fun v s1 ⟨x, H1, I1, r1, q1⟩ => ho pins s1 σ H1 x v Q I1 r1 q1)
theorem opI {f : Value → Value → Sem Value} {C : Int → Int → Prop} {g : Int → Int → Int}
    (rule : ∀ (i j : Int) (t u : Tok) (s : Shared) (Q : Value → Shared → Prop) (E : Value → Shared → Prop), C i j → Q (.int (g i j) s.toks) { s with toks := s.toks + 1 } → wpAny (model X.prog X.w) X.A (f (.int i t) (.int j u)) Q E s) :
    OpR X f (rI C fun i j => .int (g i j)) := by
  intro pins s σ H x y v u Q I rx ry h
  obtain ⟨i, j, rfl, rfl, hc, q⟩ := h
  obtain ⟨t, rfl⟩ := rx
  obtain ⟨t', rfl⟩ := ry
  exact rule i j t t' s _ _ hc ⟨.int (g i j), H, I.tok _, ⟨_, rfl⟩, q⟩
theorem opI0 {f : Value → Value → Sem Value} {g : Int → Int → Int}
    (rule : ∀ (i j : Int) (t u : Tok) (s : Shared) (Q : Value → Shared → Prop) (E : Value → Shared → Prop), Q (.int (g i j) s.toks) { s with toks := s.toks + 1 } → wpAny (model X.prog X.w) X.A (f (.int i t) (.int j u)) Q E s) :
    OpR X f (rI0 fun i j => .int (g i j)) := by
  intro pins s σ H x y v u Q I rx ry h
  obtain ⟨i, j, rfl, rfl, q⟩ := h
  obtain ⟨t, rfl⟩ := rx
  obtain ⟨t', rfl⟩ := ry
  exact rule i j t t' s _ _ ⟨.int (g i j), H, I.tok _, ⟨_, rfl⟩, q⟩
theorem opB0 {f : Value → Value → Sem Value} {g : Int → Int → Bool}
    (rule : ∀ (i j : Int) (t u : Tok) (s : Shared) (Q : Value → Shared → Prop) (E : Value → Shared → Prop), Q (.bool (g i j)) s → wpAny (model X.prog X.w) X.A (f (.int i t) (.int j u)) Q E s) :
    OpR X f (rI0 fun i j => .bl (g i j)) := by
  intro pins s σ H x y v u Q I rx ry h
  obtain ⟨i, j, rfl, rfl, q⟩ := h
  obtain ⟨t, rfl⟩ := rx
  obtain ⟨t', rfl⟩ := ry
  exact rule i j t t' s _ _ ⟨.bl (g i j), H, I, rfl, q⟩
def CPow (i j : Int) : Prop := 0 ≤ j ∧ j ≤ 1000000 ∧ i.natAbs < 2 ^ 64
def CMul (i j : Int) : Prop := (-(2 ^ 64) < i ∧ i < 2 ^ 64) ∨ (-(2 ^ 64) < j ∧ j < 2 ^ 64)
theorem CMul.ok {i j : Int} (h : CMul i j) : IntMulOk i j := by
  rcases h with ⟨h1, h2⟩ | ⟨h1, h2⟩
  · exact .of_left (intBits_le_64 h1 h2)
  · exact .of_right (intBits_le_64 h1 h2)
theorem op_add : OpR X (binaryOp .Add) (rI0 fun i j => .int (i + j)) := opI0 fun _ _ _ _ _ _ _ q => add_int q
theorem op_sub : OpR X (binaryOp .Sub) (rI0 fun i j => .int (i - j)) := opI0 fun _ _ _ _ _ _ _ q => sub_int q
theorem op_mod : OpR X (binaryOp .Mod) (rI (fun _ j => 0 < j) fun i j => .int (i % j)) := opI fun i j _ _ _ _ _ hc q => by
  have h1 : (0 : Int) < j := hc
  exact mod_int' (by omega) (by rw [Int.fmod_eq_emod_of_nonneg i (by omega)]; exact q)
theorem op_pow : OpR X (binaryOp .Pow) (rI CPow fun i j => .int (i ^ j.toNat)) := opI fun _ _ _ _ _ _ _ hc q => pow_int_small hc.1 hc.2.1 hc.2.2 q
theorem unI {f : Value → Sem Value} {g : Int → Int}
    (rule : ∀ (i : Int) (t : Tok) (s : Shared) (Q : Value → Shared → Prop) (E : Value → Shared → Prop), Q (.int (g i) s.toks) { s with toks := s.toks + 1 } → wpAny (model X.prog X.w) X.A (f (.int i t)) Q E s) :
    UnR X f (rU fun i => .int (g i)) := by
  intro pins s σ H x v Q I rx h
  obtain ⟨i, rfl, q⟩ := h
  obtain ⟨t, rfl⟩ := rx
  exact rule i t s _ _ ⟨.int (g i), H, I.tok _, ⟨_, rfl⟩, q⟩
theorem un_neg : UnR X (unaryOp .USub) (rU fun i => .int (-i)) := unI fun _ _ _ _ _ q => neg_int q
end
section
variable {X : Cx} {a b c : Expr} {ta tb tc : TE} {pos : Pos}
theorem fin_bl {pins : List (Addr × Obj)} {σ : St} {H : Hp} {s : Shared} {Q : VK} {k k' : Bool} (I : Inv X pins σ H s) (q : Q (.bl k) H) (e : k = k') : EP X pins σ Q (.bool k') s := by
  subst e
  exact ⟨.bl k, H, I, rfl, q⟩
theorem op_lt : OpR X (compareOp .Lt) (rI0 fun i j => .bl (decide (i < j))) := opB0 fun _ _ _ _ _ _ _ q => lt_int q
theorem op_gt : OpR X (compareOp .Gt) (rI0 fun i j => .bl (decide (j < i))) := opB0 fun _ _ _ _ _ _ _ q => gt_int q
theorem op_ge : OpR X (compareOp .GtE) (rI0 fun i j => .bl (decide (j ≤ i))) := opB0 fun _ _ _ _ _ _ _ q => ge_int q
theorem op_isN : OpR X (compareOp .Is) (fun x y H Q => y = .non ∧ Q (.bl (decide (x = .non))) H) := by
  intro pins s σ H x y v u Q I rx ry h
  obtain ⟨rfl, q⟩ := h
  cases ry
  refine is_none_gen (fin_bl I q ?_)
  cases x <;> first
    | (cases rx; rfl)
    | (obtain ⟨t, rfl⟩ := rx; rfl)
theorem op_notN : OpR X (compareOp .IsNot) (fun x y H Q => y = .non ∧ Q (.bl (!decide (x = .non))) H) := by
  intro pins s σ H x y v u Q I rx ry h
  obtain ⟨rfl, q⟩ := h
  cases ry
  refine isnot_none_gen (fin_bl I q ?_)
  cases x <;> first
    | (cases rx; rfl)
    | (obtain ⟨t, rfl⟩ := rx; rfl)
theorem OpR.or {f : Value → Value → Sem Value} {r r' : R2} (h : OpR X f r) (h' : OpR X f r') : OpR X f (fun x y H Q => r x y H Q ∨ r' x y H Q) := by
  intro pins s σ H x y v u Q I rx ry q
  rcases q with q | q
  · exact h pins s σ H x y v u Q I rx ry q
  · exact h' pins s σ H x y v u Q I rx ry q
theorem nomark (b : Expr) {op : CmpOp} (h : op ≠ .In := by decide) (h2 : op ≠ .NotIn := by decide) : behindInMarks op b = false := by
  have e1 : (op == CmpOp.In) = false := by cases op <;> first | rfl | exact absurd rfl h
  have e2 : (op == CmpOp.NotIn) = false := by cases op <;> first | rfl | exact absurd rfl h2
  cases b <;> simp [behindInMarks, e1, e2]
theorem pe_cmpR {op : CmpOp} {r : R2} (ho : OpR X (compareOp op) r) (ha : PE X a ta) (hb : PE X b tb) (hm : behindInMarks op b = false) : PE X (.Compare a [op] [b] pos) (tOp r ta tb) := by
  intro pins s σ H Q I h
  exact wpAny_Compare1 (binT ha hb I h fun v u s2 x y H2 I2 rx ry q => ho pins s2 σ H2 x y v u Q I2 rx ry q) hm
def tTest (t : TE) : TT := fun σ H Q => t σ H fun x H' => ∃ k, x = .bl k ∧ Q k H'
theorem pt_cmpR {op : CmpOp} {r : R2} (ho : OpR X (compareOp op) r) (ha : PE X a ta) (hb : PE X b tb) (hm : behindInMarks op b = false) : PT X (.Compare a [op] [b] pos) (tTest (tOp r ta tb)) := by
  intro pins s σ H Q I h
  refine wpAny_isTrue_Compare1 (thn (ha pins s σ H _ I h) fun v s1 ⟨x, H1, I1, r1, q1⟩ => thn (hb pins s1 σ H1 _ I1 q1) fun u s2 ⟨y, H2, I2, r2, q2⟩ =>
    thn (ho pins s2 σ H2 x y v u _ I2 r1 r2 q2) fun c s3 ⟨z, H3, I3, r3, k, e, q3⟩ => ?_) hm
  subst e
  cases r3
  exact wpAny_truthy_bool ⟨H3, I3, q3⟩
theorem line63 : (sizeLine : Nat) < 2 ^ 63 := by rw [sizeLine_eq]; decide
theorem vals1 {x : V} {us : List Value} (r : Vals [x] us) : ∃ u, us = [u] ∧ RelV x u := by
  cases r with
  | cons r1 r2 => cases r2; exact ⟨_, rfl, r1⟩
theorem vals2 {x y : V} {us : List Value} (r : Vals [x, y] us) : ∃ u w', us = [u, w'] ∧ RelV x u ∧ RelV y w' := by
  cases r with
  | cons r1 r2 =>
    cases r2 with
    | cons r3 r4 => cases r4; exact ⟨_, _, rfl, r1, r3⟩
theorem call_max2 (hc : X.calm = true) : CallR X (.builtin "max") (fun xs H Q => ∃ i j, xs = [.int i, .int j] ∧ Q (.int (if j > i then j else i)) H) := by
  intro pins s σ H xs us Q I r h
  obtain ⟨i, j, rfl, q⟩ := h
  obtain ⟨u, w', rfl, ⟨t, rfl⟩, ⟨t', rfl⟩⟩ := vals2 r
  refine max_two_ints (I.ok.hd hc) fun h' tk k => ⟨_, H, I.kept k, ?_, q⟩
  by_cases hj : j > i
  · rw [if_pos hj, if_pos hj]; exact ⟨_, rfl⟩
  · rw [if_neg hj, if_neg hj]; exact ⟨_, rfl⟩
theorem call_min2 (hc : X.calm = true) : CallR X (.builtin "min") (fun xs H Q => ∃ i j, xs = [.int i, .int j] ∧ Q (.int (if j < i then j else i)) H) := by
  intro pins s σ H xs us Q I r h
  obtain ⟨i, j, rfl, q⟩ := h
  obtain ⟨u, w', rfl, ⟨t, rfl⟩, ⟨t', rfl⟩⟩ := vals2 r
  refine min_two_ints (I.ok.hd hc) fun h' tk k => ⟨_, H, I.kept k, ?_, q⟩
  by_cases hj : j < i
  · rw [if_pos hj, if_pos hj]; exact ⟨_, rfl⟩
  · rw [if_neg hj, if_neg hj]; exact ⟨_, rfl⟩
def LenV (K : PySem.W.Frag) (x : V) (H : Hp) (n : Nat) : Prop :=
  match x with
  | .str y => y.length ≤ sizeLine ∧ n = y.length
  | .byt y => y.size ≤ sizeLine ∧ n = y.size
  | .ref p => (∃ xs, SqL K H p xs ∧ n = xs.length) ∨ ∃ xs, SqT K H p xs ∧ n = xs.length
  | _ => False
theorem call_len : CallR X (.builtin "len") (fun xs H Q => ∃ x n, xs = [x] ∧ LenV X.K x H n ∧ Q (.int n) H) := by
  intro pins s σ H xs us Q I r h
  obtain ⟨x, n, rfl, e, q⟩ := h
  obtain ⟨u, rfl, rx⟩ := vals1 r
  have hl := line63
  have hs : sizeLine = 16777216 := sizeLine_eq
  cases x with
  | str y =>
    obtain ⟨t, rfl⟩ := rx
    obtain ⟨hy, e'⟩ : y.length ≤ sizeLine ∧ n = y.length := e
    subst e'
    exact len_str (by omega) ⟨.int _, H, I.tok _, ⟨_, rfl⟩, q⟩
  | byt y =>
    obtain ⟨t, rfl⟩ := rx
    obtain ⟨hy, e'⟩ : y.size ≤ sizeLine ∧ n = y.size := e
    subst e'
    exact PySem.W.len_bytes (by omega) ⟨.int _, H, I.tok _, ⟨_, rfl⟩, q⟩
  | ref p =>
    cases rx
    have e' : (∃ xs, SqL X.K H p xs ∧ n = xs.length) ∨ ∃ xs, SqT X.K H p xs ∧ n = xs.length := e
    rcases e' with ⟨xs, hx, e'⟩ | ⟨xs, hx, e'⟩
    · subst e'
      obtain ⟨its, r', pl, hz⟩ := I.list hx
      have hlen := r'.length
      exact Calls.call_len_list pl.isList (by simp only [List.size_toArray]; omega) ⟨.int xs.length, H, I.tok _, ⟨_, by simp only [List.size_toArray]; rw [hlen]⟩, q⟩
    · subst e'
      obtain ⟨its, r', pl, hz⟩ := I.tuple hx
      have hlen := r'.length
      exact len_tuple pl (by simp only [List.size_toArray]; omega) ⟨.int xs.length, H, I.tok _, ⟨_, by simp only [List.size_toArray]; rw [hlen]⟩, q⟩
  | _ => exact (show False from e).elim
end
end L2
namespace L2
open PySem PySem.Spec PyProof.Rows
structure ObjM (h : Heap) (x dx C : Addr) (mA : Str → Option Value) : Prop where
  obj : h.get? x = some (PySem.W.instObj C dx)
  ns : h.Ns1 dx mA
  ne : dx ≠ x
theorem lookIn_ns {h : Heap} {dx : Addr} {mA : Str → Option Value} (n : h.Ns1 dx mA) : ∃ od, h.get? dx = some od ∧ ∀ name, PySem.W.lookIn name od = some (mA name) := by
  obtain ⟨o, es, ep, ho, hd, hk, _, hm⟩ := n
  refine ⟨o, ho, fun name => ?_⟩
  have e := hm name
  unfold nsFind findBy at e
  rw [← Array.find?_toList] at e
  unfold PySem.W.lookIn
  rw [hd]
  dsimp only
  split
  · rename_i y q
    rw [q] at e
    exact congrArg some e
  · rename_i q
    rw [q] at e
    have a : es.toList.any (·.refKey) = false := by
      rw [List.any_eq_false]
      intro y hy
      obtain ⟨z, t, hkey⟩ := hk y (Array.mem_toList_iff.mp hy)
      simp [DictEntry.refKey, hkey]
    have a' : ¬ es.toList.any (·.refKey) = true := by rw [a]; exact Bool.false_ne_true
    rw [if_neg a']
    exact congrArg some e
theorem ObjM.look {h : Heap} {x dx C : Addr} {mA : Str → Option Value} (I : ObjM h x dx C mA) : ∃ od, PySem.W.InstAt h x (PySem.W.instObj C dx) C (some od) ∧ ∀ name, PySem.W.lookIn name od = some (mA name) :=
  let ⟨od, ho, hl⟩ := lookIn_ns I.ns
  ⟨od, ⟨I.obj, rfl, rfl, ho⟩, hl⟩
section
variable {prog : Program} {w : World} {A : Around} {E : Value → Shared → Prop} {s : Shared} {K : PySem.W.Frag} {x dx C f : Addr} {mA : Str → Option Value} {name : Str} {v : Value}
end
section
variable {P : Program} {w : World} {H H' : Hp} {h h' : Heap} {a C dx : Addr} {fs fs' : List (Str × V)}
theorem ins_get (hok : HOk P w H h) (e : H a = some (.ins C dx fs)) : ∃ mA, ObjM h a dx C mA ∧ (∀ f, RelO (fs.lookup f) (mA f)) ∧ PySem.Within mA (fs.map (·.1)) ∧ fs.length ≤ 1000 ∧ H dx = some (.own a) := by
  obtain ⟨d, z, ne, ob, mA, n, r, q⟩ := (show ObjOk P w H h a (.ins C dx fs) from hok a _ e)
  exact ⟨mA, ⟨ob, n, ne⟩, r, q, z, d⟩
end
structure Cls (K : PySem.W.Frag) (C : Addr) : Prop where
  pg : PySem.W.plainGet K C Str.empty = true
  hd : PySem.W.hasDictIn K C = true
  po : PySem.W.plainOver K C = true
  sa : PySem.W.findIn K (.ref C) "__setattr__" = some (some (.builtin "object.__setattr__"))
theorem Cls.get {K : PySem.W.Frag} {C : Addr} (c : Cls K C) (f : Str) : PySem.W.plainGet K C f = true := c.pg
structure Con (K : PySem.W.Frag) (C : Addr) (f : Str) (v : V) (u : Value) : Prop where
  at_ : PySem.W.findIn K (.ref C) f = some (some u)
  rel : RelV v u
  get : PySem.W.specialIn K u "__get__" = some none
  cp : PySem.W.copiedNames.contains f = false
structure Meth (K : PySem.W.Frag) (C : Addr) (m : Str) (f : Addr) : Prop where
  at_ : PySem.W.findIn K (.ref C) m = some (some (.ref f))
  fn : PySem.W.isFn K (.ref f) = true
  kp : PySem.W.keepIn K (.ref f) = true
section
variable {X : Cx} {pins : List (Addr × Obj)} {σ : St} {H : Hp} {s : Shared} {a C dx : Addr} {fs : List (Str × V)} {f : Str} {v : V} {A : Around} {E : Value → Shared → Prop}
theorem Inv.made (I : Inv X pins σ H s) : Inv X pins σ (upd (upd H s.heap.objs.size (.own (s.heap.objs.size + 1))) (s.heap.objs.size + 1) (.ins C s.heap.objs.size []))
    { s with heap := (s.heap.push PySem.W.emptyDict).push (PySem.W.instObj C s.heap.objs.size) } := by
  have e1 : (s.heap.push PySem.W.emptyDict).get? s.heap.objs.size = some PySem.W.emptyDict := Heap.get?_push_size s.heap rfl
  have e2 : ((s.heap.push PySem.W.emptyDict).push (PySem.W.instObj C s.heap.objs.size)).get? (s.heap.objs.size + 1) = some (PySem.W.instObj C s.heap.objs.size) := by
    have := Heap.get?_push_size (s.heap.push PySem.W.emptyDict) (o := PySem.W.instObj C s.heap.objs.size) rfl
    rwa [Heap.size_push] at this
  have e3 : (s.heap.push PySem.W.emptyDict).Ns s.heap.objs.size (fun _ => none) := ⟨PySem.W.emptyDict, #[], _, e1, rfl, (fun e he => absurd he (by simp)), fun _ => rfl⟩
  have I1 := I.laid (a := s.heap.objs.size) (o := .own (s.heap.objs.size + 1)) (h' := s.heap.push PySem.W.emptyDict) (t' := s.toks) (fun b u q => Heap.get?_push_of_some _ q) (Nat.le_refl _) ⟨_, e1⟩
  refine I1.laid (a := s.heap.objs.size + 1) (o := .ins C s.heap.objs.size []) (t' := s.toks) (fun b u q => Heap.get?_push_of_some _ q) (Nat.le_of_eq (Heap.size_push _ _)) ?_
  have ne : s.heap.objs.size ≠ s.heap.objs.size + 1 := Nat.ne_of_lt (Nat.lt_succ_self _)
  refine ⟨by rw [upd_ne ne, upd_same], Nat.zero_le _, ne, e2, fun _ => none, (Heap.Ns1.of_empty e3).at fun o q => Heap.get?_push_of_some _ q, fun _ => True.intro, fun y hy => absurd rfl hy⟩
end
section
variable {X : Cx} {o e value : Expr} {f : Str} {pos pos' tpos : Pos} {ta tv : TE}
end
section
variable {X : Cx} {pins : List (Addr × Obj)} {σ : St} {H : Hp} {s : Shared} {A : Around} {E : Value → Shared → Prop} {Q : Value → Shared → Prop} {c : Value} {b : Bool}
inductive TyOf (K : PySem.W.Frag) (H : Hp) : V → Value → Prop where
  | non : TyOf K H .non (.type "NoneType")
  | bl (x : Bool) : TyOf K H (.bl x) (.type "bool")
  | int (i : Int) : TyOf K H (.int i) (.type "int")
  | str (x : Str) : TyOf K H (.str x) (.type "str")
  | flt (x : UInt64) : TyOf K H (.flt x) (.type "float")
  | lst {a : Addr} {xs : List V} (e : H a = some (.lst xs)) : TyOf K H (.ref a) (.type "list")
  | frz {a : Addr} {o : Obj} {xs : List V} (e : H a = some (.frz o (.lst xs))) : TyOf K H (.ref a) (.type "list")
  | tup {a : Addr} {xs : List V} (e : H a = some (.tup xs)) : TyOf K H (.ref a) (.type "tuple")
  | dK {a : Addr} {kvs : List (Key × V)} (e : H a = some (.dK kvs)) : TyOf K H (.ref a) (.type "dict")
  | dT {a : Addr} {kvs : List (List Key × V)} (e : H a = some (.dT kvs)) : TyOf K H (.ref a) (.type "dict")
  | ins {a C dx : Addr} {fs : List (Str × V)} (e : H a = some (.ins C dx fs)) (cl : Cls K C) (ha : PySem.W.findIn K (.ref C) "__class__" = some (some (.builtin "object.__class__")))
      (hn : PySem.W.specialIn K (.builtin "object.__class__") "__get__" = some (some (.builtin "getset_descriptor.__get__"))) (htk : PySem.W.takesIn K (.builtin "object.__class__") = some true)
      (hm : PySem.W.mroIn K C (.type "object") = some true) : TyOf K H (.ref a) (.ref C)
theorem isinst_ok {x : V} {u t : Value} (I : Inv X pins σ H s) (rx : RelV x u) (ty : TyOf X.K H x t) (e : PySem.W.kitOne X.K t c = some b) (h : ∀ tk, Q (.bool b) { s with toks := tk }) :
    wpAny (model X.prog X.w) A (call (.builtin "isinstance") [u, c]) Q E s := by
  cases ty with
  | non => cases (show u = Value.none from rx); exact PySem.W.kia_one PySem.W.kitx_none I.kIn True.intro e (fun z => nomatch z) h
  | bl y => cases (show u = Value.bool y from rx); exact PySem.W.kia_one PySem.W.kitx_bool I.kIn True.intro e (fun z => nomatch z) h
  | int i => obtain ⟨t, q⟩ := (show ∃ t, u = Value.int i t from rx); cases q; exact PySem.W.kia_one PySem.W.kitx_int I.kIn True.intro e (fun z => nomatch z) h
  | str y => obtain ⟨t, q⟩ := (show ∃ t, u = Value.str y t from rx); cases q; exact PySem.W.kia_one PySem.W.kitx_str I.kIn True.intro e (fun z => nomatch z) h
  | flt y => obtain ⟨t, q⟩ := (show ∃ t, u = Value.float y t from rx); cases q; exact PySem.W.kia_one PySem.W.kitx_float I.kIn True.intro e (fun z => nomatch z) h
  | @lst a xs ea =>
    cases (show u = Value.ref a from rx)
    obtain ⟨_, _, n, _, h1⟩ := (show ObjOk X.prog X.w H s.heap a (.lst xs) from I.hok a _ ea)
    exact PySem.W.kia_one PySem.W.kitx_list I.kIn ⟨_, h1, rfl⟩ e (fun z => nomatch z) h
  | @frz a ob xs ea =>
    cases (show u = Value.ref a from rx)
    obtain ⟨_, _, _, n, _, h1⟩ := (show ObjOk X.prog X.w H s.heap a (.frz ob (.lst xs)) from I.hok a _ ea)
    exact PySem.W.kia_one PySem.W.kitx_list I.kIn ⟨_, h1, rfl⟩ e (fun z => nomatch z) h
  | @tup a xs ea =>
    cases (show u = Value.ref a from rx)
    obtain ⟨_, _, _, p⟩ := (show ObjOk X.prog X.w H s.heap a (.tup xs) from I.hok a _ ea)
    obtain ⟨o, h1, h2, _⟩ := p
    exact PySem.W.kia_one PySem.W.kitx_tuple I.kIn ⟨o, h1, h2⟩ e (fun z => nomatch z) h
  | @dK a kvs ea =>
    cases (show u = Value.ref a from rx)
    obtain ⟨_, _, vs, _, p⟩ := (show ObjOk X.prog X.w H s.heap a (.dK kvs) from I.hok a _ ea)
    obtain ⟨o, es, ep, h1, h2, _⟩ := p
    exact PySem.W.kia_one PySem.W.kitx_dict I.kIn ⟨o, h1, h2.1⟩ e (fun z => nomatch z) h
  | @dT a kvs ea =>
    cases (show u = Value.ref a from rx)
    obtain ⟨_, _, xs, _, o, es, ep, h1, h2, _⟩ := (show ObjOk X.prog X.w H s.heap a (.dT kvs) from I.hok a _ ea)
    exact PySem.W.kia_one PySem.W.kitx_dict I.kIn ⟨o, h1, h2.1⟩ e (fun z => nomatch z) h
  | @ins a C dx fs ea cl ha hn htk hm =>
    cases (show u = Value.ref a from rx)
    obtain ⟨mA, O, _⟩ := ins_get I.hok ea
    obtain ⟨od, J, _⟩ := O.look
    exact PySem.W.kia_one (PySem.W.kitx_own (cl.get _) cl.hd ha hn htk hm) I.kIn J e (fun z => nomatch z) h
end
end L2
namespace L2
open PySem PySem.Spec PyProof.Rows
structure Room (k : Nat) (A : Around) : Prop where
  hd : A.handled = none
  dp : A.depth + 3 * k + 5 < recursionLimit
  un : A.units + 16 * k + 200 < cLine
theorem Room.mono {j k : Nat} {A : Around} (r : Room k A) (h : j ≤ k) : Room j A := ⟨r.hd, by have := r.dp; omega, by have := r.un; omega⟩
theorem Room.deeper {k : Nat} {A : Around} (r : Room (k + 1) A) (env : Env) : Room k (A.deeper env) :=
  ⟨r.hd, by have := r.dp; show A.depth + 1 + 3 * k + 5 < _; omega, by have := r.un; show A.units + 3 + 16 * k + 200 < _; omega⟩
theorem Room.in1 {k : Nat} {A : Around} (r : Room (k + 1) A) : Room k A.in1 :=
  ⟨r.hd, by have := r.dp; show A.depth + 3 * k + 5 < _; omega, by have := r.un; show A.units + 1 + 16 * k + 200 < _; omega⟩
theorem Room.depth {k : Nat} {A : Around} (r : Room k A) : A.depth < recursionLimit := by have := r.dp; omega
theorem Room.units {k : Nat} {A : Around} (r : Room k A) : A.units + 64 < cLine := by have := r.un; omega
def tNil : TA := fun _ H Q => Q [] H
def tCons (ta : TE) (tr : TA) : TA := fun σ H Q => ta σ H fun x H1 => tr σ H1 fun xs H2 => Q (x :: xs) H2
section
variable {X : Cx} {e : Expr} {es : List Expr} {te : TE} {t : TA} {pos : Pos}
theorem pa_nil : PA X [] tNil := fun _ _ _ _ H Q I h => Calls.spliced_nil ⟨[], H, I, .nil, h⟩
theorem pa_cons (ha : PE X e te) (hr : PA X es t) (hs : starEach (e :: es) X.env = (false, eval e X.env) :: starEach es X.env := by rfl) : PA X (e :: es) (tCons te t) := by
  intro pos pins s σ H Q I h
  rw [hs]
  show wpAny _ _ (spliced ((false, eval e X.env) :: backTo pos (starEach es X.env))) _ _ s
  refine Calls.spliced_cons (thn (ha pins s σ H _ I h) fun u s1 ⟨x, H1, I1, r1, q1⟩ => ?_)
  exact thn (hr pos pins s1 σ H1 _ I1 q1) fun us s2 ⟨xs, H2, I2, r2, q2⟩ => ⟨x :: xs, H2, I2, .cons r1 r2, q2⟩
def tTup (t : TA) : TE := fun σ H Q => t σ H fun xs H1 => xs.length ≤ sizeLine ∧ ∀ p, H1 p = none → Q (.ref p) (upd H1 p (.tup xs))
def tLst (t : TA) : TE := fun σ H Q => t σ H fun xs H1 => xs.length ≤ sizeLine ∧ ∀ p, H1 p = none → Q (.ref p) (upd H1 p (.lst xs))
theorem pe_tup {x1} (h : PA X es t) : PE X (.Tuple es x1 pos) (tTup t) := by
  intro pins s σ H Q I hq
  refine wpAny_Tuple_spliced (thn (h pos pins s σ H _ I hq) fun us s1 ⟨xs, H1, I1, r, z, q⟩ => ⟨by rw [← r.length]; exact z, ?_⟩)
  have hf : H1 s1.heap.objs.size = none := I1.hok.fresh (Nat.le_refl _)
  refine ⟨.ref s1.heap.objs.size, upd H1 s1.heap.objs.size (.tup xs), I1.laid (t' := s1.toks) (fun b u e => Heap.get?_push_of_some _ e) (Nat.le_refl _) ?_, rfl, q _ hf⟩
  exact ⟨z, us, r, ⟨_, Heap.get?_push_size _ rfl, rfl, _, rfl⟩⟩
theorem pe_lst (h : PA X es t) : PE X (.List es pos) (tLst t) := by
  intro pins s σ H Q I hq
  refine wpAny_List_spliced (thn (h pos pins s σ H _ I hq) fun us s1 ⟨xs, H1, I1, r, z, q⟩ => ⟨by rw [← r.length]; exact z, ?_⟩)
  have hf : H1 s1.heap.objs.size = none := I1.hok.fresh (Nat.le_refl _)
  refine ⟨.ref s1.heap.objs.size, upd H1 s1.heap.objs.size (.lst xs), I1.laid (t' := s1.toks) (fun b u e => Heap.get?_push_of_some _ e) (Nat.le_refl _) ?_, rfl, q _ hf⟩
  exact ⟨z, us, 0, r, Heap.get?_push_size _ rfl⟩
end
abbrev Sp := List V → Hp → VK → XK → Prop
abbrev CXT := List Env → Hp → Shared → XK → Value → Shared → Prop
structure Env0 (P : Program) (w : World) (K : PySem.W.Frag) (mg : Str → Option Value) (base : Heap) (A : Around) (outer : List Env) (s : Shared) (H : Hp) : Prop where
  frames : A.frames = some outer
  mod : Mod K mg base
  bs : ∀ b o, base.get? b = some o → s.heap.get? b = some o ∧ H b = none
  bsz : base.objs.size ≤ s.heap.objs.size
  funs : s.heap.FunFrames base outer
  frf : ∀ b ∈ frs outer, H b = none
  hok : HOk P w H s.heap
  bare : AllBare s.gens
def CE (outer : List Env) (P : Program) (w : World) (H : Hp) (s : Shared) (Q : VK) (u : Value) (s' : Shared) : Prop :=
  ∃ v H', s'.os = s.os ∧ AllBare s'.gens ∧ Un (frs outer) [] H H' s.heap s'.heap ∧ HOk P w H' s'.heap ∧ RelV v u ∧ Q v H'
def CR (CX : CXT) (outer : List Env) (P : Program) (w : World) (H : Hp) (s : Shared) (Q : VK) (E : XK) (r : Result) (s' : Shared) : Prop :=
  match r with
  | .ok (.ret u) => CE outer P w H s Q u s'
  | .ok _ => False
  | .error e => CX outer H s E e s'
structure FnOk (P : Program) (w : World) (K : PySem.W.Frag) (mg : Str → Option Value) (base : Heap) (CX : CXT) (k : Nat) (f : Addr) (fd : FuncData) (ps : List Str) (sp : Sp) : Prop where
  len : ∀ vs H Q E, sp vs H Q E → vs.length = ps.length
  run : ∀ (A : Around) (outer : List Env) (s : Shared) (H : Hp) (args : Args) (us : List Value) (vs : List V) (Q : VK) (E : XK), Room k A → Env0 P w K mg base A outer s H → BindsTo s fd args (ps.zip us) → Vals vs us → sp vs H Q E →
    codeAny (model P w) A (.call (.ref f) args) (CR CX outer P w H s Q E) s
theorem FnOk.mono {P : Program} {w : World} {K : PySem.W.Frag} {mg : Str → Option Value} {base : Heap} {CX : CXT} {j k : Nat} {f : Addr} {fd : FuncData} {ps : List Str} {sp : Sp} (F : FnOk P w K mg base CX j f fd ps sp) (h : j ≤ k) :
    FnOk P w K mg base CX k f fd ps sp := ⟨F.len, fun A outer s H args us vs Q E hr => F.run A outer s H args us vs Q E (hr.mono h)⟩
theorem FnOk.imp {P : Program} {w : World} {K : PySem.W.Frag} {mg : Str → Option Value} {base : Heap} {CX : CXT} {k : Nat} {f : Addr} {fd : FuncData} {ps : List Str} {sp sp' : Sp} (F : FnOk P w K mg base CX k f fd ps sp)
    (h : ∀ vs H Q E, sp' vs H Q E → sp vs H Q E) : FnOk P w K mg base CX k f fd ps sp' :=
  ⟨fun vs H Q E q => F.len vs H Q E (h _ _ _ _ q), fun A outer s H args us vs Q E hr he hb hv hs => F.run A outer s H args us vs Q E hr he hb hv (h _ _ _ _ hs)⟩
theorem Env0.in1 {P : Program} {w : World} {K : PySem.W.Frag} {mg : Str → Option Value} {base : Heap} {A : Around} {outer : List Env} {s : Shared} {H : Hp} (e : Env0 P w K mg base A outer s H) :
    Env0 P w K mg base A.in1 outer s H := ⟨e.frames, e.mod, e.bs, e.bsz, e.funs, e.frf, e.hok, e.bare⟩
section
variable {X : Cx} {pins : List (Addr × Obj)} {σ : St} {H : Hp} {s s' : Shared}
theorem Inv.env0 (I : Inv X pins σ H s) : Env0 X.prog X.w X.K X.mg X.base X.A X.stack s H :=
  ⟨I.ok.frames, I.ok.mod, I.bs, Nat.le_trans I.ok.bsz I.sz, I.stack, I.stkFree, I.hok, I.bare⟩
theorem Inv.after {Q : VK} {u : Value} (I : Inv X pins σ H s) (h : CE X.stack X.prog X.w H s Q u s') : EP X pins σ Q u s' := by
  obtain ⟨v, H', os, bare, un, hok, r, q⟩ := h
  obtain ⟨hh, g, d, t, os'⟩ := s'
  obtain rfl : os' = s.os := os
  exact ⟨v, H', I.call (h' := hh) (g' := g) (d' := d) (t' := t) (ch := []) un hok bare (fun b z => absurd z (by simp)), r, q⟩
end
def tCall (sp : Sp) (dvs : List V) (E : XK) (t : TA) : TE := fun σ H Q => t σ H fun vs H1 => sp (vs ++ dvs) H1 Q E
def Binds (K : PySem.W.Frag) (fd : FuncData) (ps : List Str) (ds : List Value) : Prop :=
  ∀ (s : Shared) (us : List Value), K.In s.heap → (us ++ ds).length = ps.length → BindsTo s fd ⟨us, []⟩ (ps.zip (us ++ ds))
theorem Binds.all {K : PySem.W.Frag} {fd : FuncData} {ps : List Str} (h : ∀ us : List Value, us.length = ps.length → bindArgs fd ⟨us, []⟩ = pure (ps.zip us)) : Binds K fd ps [] := fun s us _ hl => by
  rw [List.append_nil] at hl ⊢
  exact .of_eq (h us hl)
def Passes (CX : CXT) (X : Cx) (E : XK) : Prop := ∀ (pins : List (Addr × Obj)) (σ : St) (H : Hp) (s : Shared) (e : Value) (s' : Shared), Inv X pins σ H s → CX X.stack H s E e s' → X.xe e s'
section
variable {X : Cx} {CX : CXT} {k : Nat} {f C : Addr} {fd : FuncData} {ps : List Str} {sp : Sp} {dvs : List V} {ds : List Value} {E : XK} {x m : Str} {p pos apos : Pos} {e o : Expr} {es : List Expr} {ta : TE} {t : TA}
theorem run_fn {pins : List (Addr × Obj)} {σ : St} {H : Hp} {s : Shared} {Q : VK} {us : List Value} {vs : List V} (F : FnOk X.prog X.w X.K X.mg X.base CX k f fd ps sp) (hr : Room k X.A) (hb : Binds X.K fd ps ds) (hd : Vals dvs ds) (hx : Passes CX X E)
    (I : Inv X pins σ H s) (r : Vals vs us) (h : sp (vs ++ dvs) H Q E) : wpAny (model X.prog X.w) X.A (call (.ref f) us) (EP X pins σ Q) X.xe s := by
  have r2 : Vals (vs ++ dvs) (us ++ ds) := r.append hd
  have hl : (us ++ ds).length = ps.length := by rw [← r2.length]; exact F.len _ _ _ _ h
  refine wpAny_call (codeAny_mono (F.run X.A X.stack s H ⟨us, []⟩ (us ++ ds) (vs ++ dvs) Q E hr I.env0 (hb s us I.kIn hl) r2 h) fun r s' hq => ?_)
  cases r with
  | error e => exact hx pins σ H s e s' I hq
  | ok fl =>
    cases fl with
    | ret u => exact I.after hq
    | next => exact False.elim hq
    | brk => exact False.elim hq
    | cont => exact False.elim hq
theorem pe_call (F : FnOk X.prog X.w X.K X.mg X.base CX k f fd ps sp) (hr : Room k X.A) (hg : Gl X x) (hm : X.mg x = some (.ref f)) (hk : PySem.W.keepIn X.K (.ref f) = true) (hb : Binds X.K fd ps ds) (hd : Vals dvs ds) (hx : Passes CX X E)
    (ha : PA X (e :: es) t) (hdb : (x == ("__debug__" : Str)) = false := by decide) (he : starEach (e :: es) X.env = (false, eval e X.env) :: starEach es X.env := by rfl) (hpl : (backTo pos (starEach es X.env)).any (·.1) = false := by rfl) :
    PE X (.Call (.Name x p) (e :: es) [] pos) (tCall sp dvs E t) := by
  intro pins s σ H Q I h
  refine wpAny_Call_Name_kw (ld_glob I hg hm ?_ hdb)
  refine PySem.W.callWith_K (h₀ := X.base) I.ok.mod.kin hk (thn (ha pos pins s σ H _ I h) fun us s1 ⟨vs, H1, I1, r, q⟩ => ⟨I1.kIn, ?_⟩) he hpl
  exact run_fn F hr hb hd hx I1 r q
structure Mk (K : PySem.W.Frag) (C f : Addr) : Prop where
  makes : PySem.W.makesIn K C = true
  init : PySem.W.findIn K (.ref C) "__init__" = some (some (.ref f))
  fn : PySem.W.isFn K (.ref f) = true
  kp : PySem.W.keepIn K (.ref C) = true
end
section
variable {X : Cx} {CX : CXT} {k : Nat} {f C : Addr} {fd : FuncData} {ps ks : List Str} {sp : Sp} {E : XK} {x m : Str} {p pos apos kpos : Pos} {e o : Expr} {es : List Expr} {kws : List Keyword} {te ta : TE} {t tk : TA} {nm : Option Str}
structure KBinds (K : PySem.W.Frag) (fd : FuncData) (ps ks : List Str) (g : List Value → List Value → List Value) (gV : List V → List V → List V) : Prop where
  to : ∀ (s : Shared) (us ws : List Value), K.In s.heap → (g us ws).length = ps.length → BindsTo s fd ⟨us, ks.zip ws⟩ (ps.zip (g us ws))
  rel : ∀ {vs : List V} {us : List Value} {zs : List V} {ws : List Value}, Vals vs us → Vals zs ws → Vals (gV vs zs) (g us ws)
variable {g : List Value → List Value → List Value} {gV : List V → List V → List V}
end
structure FnScope (N P : List Str) (sc : Scope) : Prop where
  kind : sc.kind = .function
  co : sc.isCoroutine = false
  gen : sc.isGenerator = false
  nd : N.Nodup
  pre : N.take P.length = P
  par : ∀ x ∈ P, sc.names.lookup x = some .local ∨ sc.names.lookup x = some .cell
  nofree : ∀ y ∈ sc.names, y.2 ≠ .free
theorem bindL_out {kindOf : Str → Option NameKind} {x : Str} : ∀ {binds : List (Str × Value)} {m : Str → Option Value}, (∀ v, (x, v) ∉ binds) → bindL kindOf binds m x = m x
  | [], _, _ => rfl
  | (n, v) :: r, m, h => by
    unfold bindL
    rw [bindL_out fun w hw => h w (List.mem_cons_of_mem _ hw)]
    split
    · have : x ≠ n := by rintro rfl; exact h v List.mem_cons_self
      simp [this]
    · rfl
theorem bindC_out {kindOf : Str → Option NameKind} {x : Str} : ∀ {binds : List (Str × Value)} {m : Str → Option Value}, (∀ v, (x, v) ∉ binds) → bindC kindOf binds m x = m x
  | [], _, _ => rfl
  | (n, v) :: r, m, h => by
    unfold bindC
    rw [bindC_out fun w hw => h w (List.mem_cons_of_mem _ hw)]
    split
    · rfl
    · have : x ≠ n := by rintro rfl; exact h v List.mem_cons_self
      simp [this]
theorem bindL_get {kindOf : Str → Option NameKind} {x : Str} {v : Value} : ∀ {P : List Str} {vs : List Value} {i : Nat} {m : Str → Option Value}, P.Nodup → P[i]? = some x → vs[i]? = some v → kindOf x = some .local →
    bindL kindOf (P.zip vs) m x = some v
  | [], _, _, _, _, h, _, _ => by simp at h
  | _ :: _, [], _, _, _, _, h, _ => by simp at h
  | p :: P, w :: vs, 0, m, nd, h1, h2, hk => by
    simp at h1 h2; subst h1; subst h2
    show bindL kindOf ((p, w) :: P.zip vs) m p = _
    unfold bindL
    rw [bindL_out fun v hv => (List.nodup_cons.mp nd).1 (List.of_mem_zip hv).1, if_pos hk]
    simp
  | p :: P, w :: vs, i + 1, m, nd, h1, h2, hk => by
    show bindL kindOf ((p, w) :: P.zip vs) m x = _
    unfold bindL
    exact bindL_get (i := i) (List.nodup_cons.mp nd).2 (by simpa using h1) (by simpa using h2) hk
theorem bindC_get {kindOf : Str → Option NameKind} {x : Str} {v : Value} : ∀ {P : List Str} {vs : List Value} {i : Nat} {m : Str → Option Value}, P.Nodup → P[i]? = some x → vs[i]? = some v → kindOf x ≠ some .local →
    bindC kindOf (P.zip vs) m x = some v
  | [], _, _, _, _, h, _, _ => by simp at h
  | _ :: _, [], _, _, _, _, h, _ => by simp at h
  | p :: P, w :: vs, 0, m, nd, h1, h2, hk => by
    simp at h1 h2; subst h1; subst h2
    show bindC kindOf ((p, w) :: P.zip vs) m p = _
    unfold bindC
    rw [bindC_out fun v hv => (List.nodup_cons.mp nd).1 (List.of_mem_zip hv).1, if_neg hk]
    simp
  | p :: P, w :: vs, i + 1, m, nd, h1, h2, hk => by
    show bindC kindOf ((p, w) :: P.zip vs) m x = _
    unfold bindC
    exact bindC_get (i := i) (List.nodup_cons.mp nd).2 (by simpa using h1) (by simpa using h2) hk
def start (N : List Str) (vs : List V) : St := vs.map some ++ List.replicate (N.length - vs.length) none
def cxOf (CX : CXT) (P : Program) (w : World) (K : PySem.W.Frag) (mg : Str → Option Value) (base : Heap) (N : List Str) (qual : Str) (scope : Scope) (f : Addr) (cd : Value) (A : Around) (outer : List Env) (s : Shared) (H : Hp) (E : XK) : Cx where
  prog := P
  w := w
  K := K
  mg := mg
  base := base
  A := A.deeper (envOfC qual scope s.heap.objs.size f cd)
  N := N
  s₀ := s
  H₀ := H
  env := envOfC qual scope s.heap.objs.size f cd
  outer := outer
  stack := envOfC qual scope s.heap.objs.size f cd :: outer
  ex := []
  calm := true
  fn := fun _ => true
  pn := []
  xe := fun e s' => wpAny (model P w) (A.deeper (envOfC qual scope s.heap.objs.size f cd)) (leaving (envOfC qual scope s.heap.objs.size f cd) e) (fun _ s'' => CX outer H s E e s'') (fun e' s'' => CX outer H s E e' s'') s'
theorem cell_has {sc : Scope} {n : Nat} {x : Str} (h : sc.names.lookup x = some .cell) : ∃ c, (cellsFrom n sc.names []).lookup x = some c := by
  have q := PySem.W.cellsFrom_some sc.names n [] (.inl h)
  exact Option.isSome_iff_exists.mp q
theorem inv_start {CX : CXT} {P : Program} {w : World} {K : PySem.W.Frag} {mg : Str → Option Value} {base : Heap} {N ps : List Str} {qual : Str} {scope : Scope} {f : Addr} {cd : Value} {A : Around} {outer : List Env} {s s1 : Shared} {H : Hp} {E : XK} {us : List Value} {vs : List V}
    (S : FnScope N ps scope) (hd : A.handled = none) (e0 : Env0 P w K mg base A outer s H) (hl : vs.length = ps.length) (r : Vals vs us)
    (x : InCallC s s.heap.objs.size (bindL (envOfC qual scope s.heap.objs.size f cd).kindOf (ps.zip us) fun _ => none) (cellsFrom (s.heap.objs.size + 1) scope.names []) (bindC (envOfC qual scope s.heap.objs.size f cd).kindOf (ps.zip us) fun _ => none) s1) :
    Inv (cxOf CX P w K mg base N qual scope f cd A outer s H E) [] (start N vs) H s1 := by
  have hpl : ps.length ≤ N.length := by have := congrArg List.length S.pre; rw [List.length_take] at this; omega
  obtain ⟨h1, tk, rfl, hk⟩ := x.done
  have noA : ∀ b : Addr, b ∉ (cxOf CX P w K mg base N qual scope f cd A outer s H E).ex := fun b z => absurd (show b ∈ ([] : List Addr) from z) (by simp)
  refine ⟨⟨e0.mod, S.kind, rfl, rfl, Nat.le_refl _, fun y z c h1 h2 => ?_, fun y hy => ?_, fun y c _ h => ?_, fun _ => hd, Around.frames_deeper e0.frames, .inr ⟨rfl, rfl⟩, fun b z => absurd z (noA b), e0.bs, e0.bsz, fun b _ _ => noA b, fun b z => absurd z (noA b), e0.funs, e0.frf⟩,
    rfl, e0.bare, Un.kept hk, ⟨_, x.toInCall.ns, fun i y v h1 h2 h3 => ?_⟩, fun y c h => ⟨_, x.cell y c h⟩, e0.hok.fresh (Nat.le_refl _), fun y c h => ?_, fun p hp => absurd (show p ∈ ([] : List (Addr × Obj)) from hp) (by simp), e0.hok.kept hk, ?_⟩
  · exact name_of_addr x.apart (PySem.mem_of_lookup h1) (PySem.mem_of_lookup h2)
  · have hy : scope.names.lookup y = some .cell ∨ scope.names.lookup y = some .free := hy
    rcases hy with hy | hy
    · exact cell_has hy
    · exact absurd rfl (S.nofree _ (PySem.mem_of_lookup hy))
  · exact Nat.le_of_lt (x.above y c (PySem.mem_of_lookup h))
  · have hi : i < vs.length := by
      unfold start at h2
      by_cases hi : i < vs.length
      · exact hi
      · rw [List.getElem?_append_right (by simpa using hi)] at h2
        rw [List.getElem?_replicate] at h2
        split at h2 <;> cases h2
    have ha : vs[i]? = some v := by
      unfold start at h2
      rw [List.getElem?_append_left (by simpa using hi), List.getElem?_map] at h2
      cases e : vs[i]? with
      | none => rw [e] at h2; cases h2
      | some a => rw [e] at h2; cases h2; rfl
    obtain ⟨u, hu, rv⟩ := r.get ha
    have hp : ps[i]? = some y := by
      rw [← S.pre, List.getElem?_take_of_lt (by omega)]; exact h1
    have ndP : ps.Nodup := by rw [← S.pre]; exact S.nd.sublist (List.take_sublist _ _)
    refine ⟨u, rv, ?_⟩
    rcases S.par y (List.mem_of_getElem? hp) with k | k
    · exact .inl ⟨k, bindL_get ndP hp hu k⟩
    · obtain ⟨c, e⟩ := cell_has (n := s.heap.objs.size + 1) k
      refine .inr ⟨.inl k, c, e, ?_⟩
      have q := x.cell y c e
      rw [bindC_get ndP hp hu (by show scope.names.lookup y ≠ _; rw [k]; decide)] at q
      exact q
  · exact e0.hok.fresh (Nat.le_of_lt (x.above y c (PySem.mem_of_lookup h)))
  · unfold start
    show _ = N.length
    rw [List.length_append, List.length_map, List.length_replicate]
    omega
theorem fn_of {CX : CXT} {P : Program} {w : World} {K : PySem.W.Frag} {mg : Str → Option Value} {base : Heap} {k : Nat} {f : Addr} {name qual : Str} {params : Arguments} {body : List Stmt} {scope : Scope} {dV kV doc pm cdv ct oc : Value} {an od : Option Addr}
    {osl : Array (Option Value)} {N ps : List Str} {sp : Sp} (lk : K.lookup f = some ⟨oc, od, .func (PySem.W.fnOf name qual params body scope dV kV doc pm an cdv ct), osl⟩) (hcd : PySem.W.codeIn K cdv qual = true) (S : FnScope N ps scope)
    (len : ∀ vs H Q E, sp vs H Q E → vs.length = ps.length)
    (hbody : ∀ (A : Around) (outer : List Env) (s : Shared) (H : Hp) (vs : List V) (Q : VK) (E : XK), Room k (A.deeper (envOfC qual scope s.heap.objs.size f cdv)) → sp vs H Q E →
      ∃ t, PSs (cxOf CX P w K mg base N qual scope f cdv A outer s H E) body t ∧ t { nx := fun _ H' => Q .non H', rt := Q } (start N vs) H) :
    FnOk P w K mg base CX (k + 1) f (PySem.W.fnOf name qual params body scope dV kV doc pm an cdv ct) ps sp := by
  refine ⟨len, fun A outer s H args us vs Q E hr e0 hb r hsp => ?_⟩
  have hl := len _ _ _ _ hsp
  have KX : K.In s.heap := e0.mod.kin.keeps fun b o e => (e0.bs b o e).1
  have lim : s.heap.NoLimit := e0.mod.nolimit.keeps fun b o e => (e0.bs b o e).1
  have hkind : ∀ y ∈ ps.zip us, scope.names.lookup y.1 = some .local ∨ (scope.names.lookup y.1 = some .cell ∧ ((cellsFrom (s.heap.objs.size + 1) scope.names []).lookup y.1).isSome = true) := fun ⟨n, v⟩ hy => by
    rcases S.par n (List.of_mem_zip hy).1 with q | q
    · exact .inl q
    · exact .inr ⟨q, PySem.W.cellsFrom_some _ _ _ (.inl q)⟩
  refine codeAny_call_function hr.depth (KX _ _ lk) rfl S.co S.gen rfl (PySem.W.codeRec_of KX hcd) (hb _ _ _ _ ?_)
  refine wpAny_newFunctionEnv_cells S.kind hkind fun env he s1 x => ?_
  subst he
  refine ⟨lim.keeps x.toInCall.keep, codeAny_func ?_⟩
  obtain ⟨t, ht, hq⟩ := hbody A outer s H vs Q E (hr.deeper _) hsp
  have I : Inv (cxOf CX P w K mg base N qual scope f cdv A outer s H E) [] (start N vs) H s1 := inv_start S hr.hd e0 hl r x
  refine wpAny_mono (ht [] s1 (start N vs) H _ I hq) (fun fl s' hs => ?_) fun e s' hs => hs
  have fin : ∀ {σ' : St} {H' : Hp} {v : V} {u : Value}, Inv (cxOf CX P w K mg base N qual scope f cdv A outer s H E) [] σ' H' s' → RelV v u → Q v H' → CE outer P w H s Q u s' :=
    fun {σ' H' v u} J rv q => ⟨v, H', J.os, J.bare, J.base, J.hok, rv, q⟩
  cases fl with
  | ret u =>
    obtain ⟨v, σ', H', J, rv, q⟩ := hs
    exact fin J rv q
  | next =>
    obtain ⟨σ', H', J, q⟩ := hs
    exact fin (v := V.non) (u := Value.none) J rfl q
  | brk =>
    obtain ⟨_, _, _, q⟩ := hs
    exact False.elim q
  | cont =>
    obtain ⟨_, _, _, q⟩ := hs
    exact False.elim q
end L2
namespace L2
open PySem PySem.Spec PyProof.Rows
section
variable {X : Cx} {x : Str} {p pos : Pos} {e : Expr} {es : List Expr} {t : TA} {id T : String} {r : List V → Hp → VK → Prop}
def tCB (r : List V → Hp → VK → Prop) (t : TA) : TE := fun σ H Q => t σ H fun vs H1 => r vs H1 Q
theorem pe_callB (hc : CallR X (.builtin id) r) (hg : Gl X x) (hm : X.mg x = none) (hv : bootBuiltins x = some (.builtin id)) (ha : PA X (e :: es) t) (hn : x ≠ "__name__" := by decide) (hdb : (x == ("__debug__" : Str)) = false := by decide)
    (he : starEach (e :: es) X.env = (false, eval e X.env) :: starEach es X.env := by rfl) (hpl : (backTo pos (starEach es X.env)).any (·.1) = false := by rfl) : PE X (.Call (.Name x p) (e :: es) [] pos) (tCB r t) := by
  intro pins s σ H Q I h
  refine wpAny_Call_Name_kw (ld_blt I hg hm hv ?_ hn hdb)
  exact PyProof.Rows.callWith_builtin1 (thn (ha pos pins s σ H _ I h) fun us s1 ⟨vs, H1, I1, r1, q1⟩ => hc pins s1 σ H1 vs us Q I1 r1 q1) he hpl
theorem pe_callTy (hc : CallR X (.type T) r) (hg : Gl X x) (hm : X.mg x = none) (hv : bootBuiltins x = some (.type T)) (ha : PA X (e :: es) t) (hn : x ≠ "__name__" := by decide) (hdb : (x == ("__debug__" : Str)) = false := by decide)
    (he : starEach (e :: es) X.env = (false, eval e X.env) :: starEach es X.env := by rfl) (hpl : (backTo pos (starEach es X.env)).any (·.1) = false := by rfl) : PE X (.Call (.Name x p) (e :: es) [] pos) (tCB r t) := by
  intro pins s σ H Q I h
  refine wpAny_Call_Name_kw (ld_blt I hg hm hv ?_ hn hdb)
  exact PyProof.Rows.callWith_type1 (thn (ha pos pins s σ H _ I h) fun us s1 ⟨vs, H1, I1, r1, q1⟩ => hc pins s1 σ H1 vs us Q I1 r1 q1) he hpl
end
end L2
namespace HT
open PySem PyProof.Rows
def lexLt : List Int → List Int → Bool
  | [], [] => false
  | [], _ :: _ => true
  | _ :: _, [] => false
  | x :: xs, y :: ys => if x = y then lexLt xs ys else decide (x < y)
theorem lexLt_cons (x y : Int) (xs ys : List Int) : lexLt (x :: xs) (y :: ys) = if x = y then lexLt xs ys else decide (x < y) := rfl
section
open PySem.SeqAt
open PySem.AutoSeq1 (wpAny_loadPart')
open PySem.MeetsSeq PySem.MeetsSeq2 PySem.MeetsSeq3
end
section
variable {prog : Program} {w : World} {A : Around} {E : Value → Shared → Prop} {s : Shared}
def sIx (n d : Nat) : Option Int → Nat
  | none => d
  | some v => if v < 0 then (v + (n : Int)).toNat else min v.toNat n
theorem sIx_none (n d : Nat) : sIx n d none = d := rfl
theorem sIx_nat (n d k : Nat) : sIx n d (some (k : Int)) = min k n := by
  show (if (k : Int) < 0 then ((k : Int) + (n : Int)).toNat else min (k : Int).toNat n) = min k n
  rw [if_neg (by omega), Int.toNat_natCast]
end
end HT
namespace L2
open PySem PySem.Spec PyProof.Rows
abbrev TO := St → Hp → (Option Int → Hp → Prop) → Prop
def PO (X : Cx) (e : Option Expr) (t : TO) : Prop :=
  ∀ (pins : List (Addr × Obj)) (s : Shared) (σ : St) (H : Hp) (Q : Option Int → Hp → Prop), Inv X pins σ H s → t σ H Q →
    wpAny (model X.prog X.w) X.A (evalPart e X.env) (fun u s' => ∃ o H', Inv X pins σ H' s' ∧ IsPart u o ∧ Q o H') X.xe s
def tNoPart : TO := fun _ H Q => Q none H
def tPart (t : TE) : TO := fun σ H Q => t σ H fun x H1 => ∃ i, x = .int i ∧ Q (some i) H1
theorem intsAre_of {ns : List Int} : ∀ {us : List Value}, Vals (ns.map V.int) us → IntsAre us ns := by
  induction ns with
  | nil => intro us r; rw [List.map_nil] at r; cases r; exact .nil
  | cons n ns ih =>
    intro us r
    rw [List.map_cons] at r
    cases r with
    | cons r1 r2 =>
      obtain ⟨t, e⟩ := r1
      subst e
      exact .cons n t (ih r2)
section
variable {X : Cx} {e : Expr} {te : TE} {lo hi : Option Expr} {tl th : TO} {pos p2 : Pos}
theorem po_none : PO X none tNoPart := by
  intro pins s σ H Q I h
  rw [evalPart_none]
  exact wpAny_pure ⟨none, H, I, .none, h⟩
theorem po_some (h : PE X e te) : PO X (some e) (tPart te) := by
  intro pins s σ H Q I hw
  rw [evalPart_some]
  refine thn (h pins s σ H _ I hw) fun u s1 ⟨x, H1, I1, r1, q1⟩ => ?_
  obtain ⟨i, rfl, q⟩ := q1
  obtain ⟨t, rfl⟩ := r1
  exact ⟨some i, H1, I1, .int i t, q⟩
def SlR (X : Cx) (r : V → Option Int → Option Int → Hp → VK → Prop) : Prop :=
  ∀ (pins : List (Addr × Obj)) (s : Shared) (σ : St) (H : Hp) (x : V) (v vl vu : Value) (lo hi : Option Int) (sl : Addr) (Q : VK), Inv X pins σ H s → RelV x v → s.heap.IsSliceOf sl vl vu .none → IsPart vl lo → IsPart vu hi → r x lo hi H Q →
    ∃ T id, typeLookup (.type T) "__getitem__" = pure (some (.builtin id)) ∧ s.TypeIs v T ∧ wpAny (model X.prog X.w) X.A (getItem v (.ref sl)) (EP X pins σ Q) X.xe s
theorem SlR.or {r r' : V → Option Int → Option Int → Hp → VK → Prop} (h : SlR X r) (h' : SlR X r') : SlR X (fun x lo hi H Q => r x lo hi H Q ∨ r' x lo hi H Q) := by
  intro pins s σ H x v vl vu lo hi sl Q I rx hs pl pu q
  rcases q with q | q
  · exact h pins s σ H x v vl vu lo hi sl Q I rx hs pl pu q
  · exact h' pins s σ H x v vl vu lo hi sl Q I rx hs pl pu q
def tSl (r : V → Option Int → Option Int → Hp → VK → Prop) (te : TE) (tl th : TO) : TE := fun σ H Q => te σ H fun x H1 => tl σ H1 fun l H2 => th σ H2 fun u H3 => r x l u H3 Q
theorem pe_slice {r : V → Option Int → Option Int → Hp → VK → Prop} (hr : SlR X r) (he : PE X e te) (hl : PO X lo tl) (hu : PO X hi th) : PE X (.Subscript e (.Slice lo hi none p2) pos) (tSl r te tl th) := by
  intro pins s σ H Q I h
  refine Subscript_ (thn (he pins s σ H _ I h) fun v s1 ⟨x, H1, I1, r1, q1⟩ => ?_)
  refine wpAny_Slice (thn (hl pins s1 σ H1 _ I1 q1) fun vl s2 ⟨l, H2, I2, pl, q2⟩ => thn (hu pins s2 σ H2 _ I2 q2) fun vu s3 ⟨u, H3, I3, pu, q3⟩ => ?_)
  rw [evalPart_none]
  refine wpAny_pure ?_
  have I4 : Inv X pins σ H3 { s3 with heap := s3.heap.push { cls := .type "slice", data := .fields #[vl, vu, .none] } } := I3.kept (t' := s3.toks) fun b ob q => Heap.get?_push_of_some _ q
  obtain ⟨T, id, hT, ht, hg⟩ := hr pins { s3 with heap := s3.heap.push { cls := .type "slice", data := .fields #[vl, vu, .none] } } σ H3 x v vl vu l u s3.heap.objs.size Q I4 r1 (Heap.IsSliceOf.new ..) pl pu q3
  show wpAny (model X.prog X.w) X.A (subscriptTail e (.Slice lo hi none p2) v (.ref s3.heap.objs.size)) (EP X pins σ Q) X.xe { s3 with heap := s3.heap.push { cls := .type "slice", data := .fields #[vl, vu, .none] } }
  exact tail_any (ops := [.ref s3.heap.objs.size, v]) ht hT hg (by with_unfolding_all rfl)
def cutV (xs : List V) (lo hi : Option Int) : List V := (xs.drop (HT.sIx xs.length 0 lo)).take (HT.sIx xs.length xs.length hi - HT.sIx xs.length 0 lo)
theorem cutV_length (xs : List V) (lo hi : Option Int) : (cutV xs lo hi).length ≤ xs.length := by
  unfold cutV
  rw [List.length_take, List.length_drop]
  omega
end
end L2
namespace L2
open PySem PySem.Spec PyProof.Rows
def ixN (n : Nat) (i : Int) : Option Nat := if 0 ≤ i then (if i < n then some i.toNat else none) else if -(n : Int) ≤ i then some (i + n).toNat else none
def atI {α : Type} (xs : List α) (i : Int) : Option α := (ixN xs.length i).bind fun j => xs[j]?
theorem ixN_seq {n : Nat} {i : Int} {j : Nat} (h : ixN n i = some j) : seqIndex? i n = some j ∧ j < n ∧ -(n : Int) ≤ i ∧ i < n := by
  unfold ixN at h
  by_cases h0 : 0 ≤ i
  · rw [if_pos h0] at h
    by_cases h1 : i < n
    · rw [if_pos h1] at h
      have e : i.toNat = j := Option.some.inj h
      exact ⟨by rw [seqIndex_of h0 h1, e], by omega, by omega, h1⟩
    · rw [if_neg h1] at h; cases h
  · rw [if_neg h0] at h
    by_cases h1 : -(n : Int) ≤ i
    · rw [if_pos h1] at h
      have e : (i + n).toNat = j := Option.some.inj h
      exact ⟨by rw [seqIndex_neg (by omega) h1, e], by omega, h1, by omega⟩
    · rw [if_neg h1] at h; cases h
theorem atI_get {α : Type} {xs : List α} {i : Int} {v : α} (h : atI xs i = some v) : ∃ j, seqIndex? i xs.length = some j ∧ xs[j]? = some v ∧ j < xs.length ∧ -(xs.length : Int) ≤ i ∧ i < xs.length := by
  unfold atI at h
  cases e : ixN xs.length i with
  | none => rw [e] at h; cases h
  | some j =>
    rw [e] at h
    obtain ⟨h1, h2, h3, h4⟩ := ixN_seq e
    exact ⟨j, h1, h, h2, h3, h4⟩
def PlainIx (b : Expr) : Prop := ∀ o i, subscripted b false o i = operate [o, i] (getItem o i)
def IxR (X : Cx) (r : R2) : Prop :=
  ∀ (value slice : Expr) (pins : List (Addr × Obj)) (s : Shared) (σ : St) (H : Hp) (x y : V) (v u : Value) (Q : VK), Inv X pins σ H s → RelV x v → RelV y u → r x y H Q →
    subscripted slice false v u = operate [v, u] (getItem v u) → wpAny (model X.prog X.w) X.A (subscriptTail value slice v u) (EP X pins σ Q) X.xe s
def MtR (X : Cx) (id : String) (r : V → List V → Hp → VK → Prop) : Prop :=
  ∀ (pins : List (Addr × Obj)) (s : Shared) (σ : St) (H : Hp) (x : V) (xs : List V) (v : Value) (us : List Value) (Q : VK), Inv X pins σ H s → RelV x v → Vals xs us → r x xs H Q →
    wpAny (model X.prog X.w) X.A (call (.builtin id) (v :: us)) (EP X pins σ Q) X.xe s
section
variable {X : Cx} {a b : Expr} {ta tb : TE} {pos : Pos}
theorem IxR.or {r r' : R2} (h : IxR X r) (h' : IxR X r') : IxR X (fun x y H Q => r x y H Q ∨ r' x y H Q) := by
  intro value slice pins s σ H x y v u Q I rx ry q hs
  rcases q with q | q
  · exact h value slice pins s σ H x y v u Q I rx ry q hs
  · exact h' value slice pins s σ H x y v u Q I rx ry q hs
theorem MtR.or {id : String} {r r' : V → List V → Hp → VK → Prop} (h : MtR X id r) (h' : MtR X id r') : MtR X id (fun x xs H Q => r x xs H Q ∨ r' x xs H Q) := by
  intro pins s σ H x xs v us Q I rx rs q
  rcases q with q | q
  · exact h pins s σ H x xs v us Q I rx rs q
  · exact h' pins s σ H x xs v us Q I rx rs q
theorem pe_ix {r : R2} (hr : IxR X r) (ha : PE X a ta) (hb : PE X b tb) (hs : PlainIx b) : PE X (.Subscript a b pos) (tOp r ta tb) := by
  intro pins s σ H Q I h
  exact Subscript_ (binT ha hb I h fun v u s2 x y H2 I2 rx ry q => hr a b pins s2 σ H2 x y v u Q I2 rx ry q (hs _ _))
def rIxL (K : PySem.W.Frag) : R2 := fun x y H Q => ∃ p xs i v, x = .ref p ∧ y = .int i ∧ SqL K H p xs ∧ atI xs i = some v ∧ Q v H
def rIxT (K : PySem.W.Frag) : R2 := fun x y H Q => ∃ p xs i v, x = .ref p ∧ y = .int i ∧ SqT K H p xs ∧ atI xs i = some v ∧ Q v H
theorem ix_list : IxR X (rIxL X.K) := by
  intro value slice pins s σ H x y v u Q I rx ry h hs
  obtain ⟨p, xs, i, z, rfl, rfl, hq, he, q⟩ := h
  cases rx
  obtain ⟨t, rfl⟩ := ry
  obtain ⟨its, r, pl, hz⟩ := I.list hq
  obtain ⟨j, h1, h2, h3, h4, h5⟩ := atI_get he
  obtain ⟨w, ew, rw'⟩ := r.get h2
  have hl := r.length
  have hn := line63
  have fin : EP X pins σ Q w s := ⟨z, H, I, rw', q⟩
  by_cases h0 : 0 ≤ i
  · have hj : i.toNat = j := by
      rw [seqIndex_of h0 h5] at h1
      exact Option.some.inj h1
    exact item_listR pl.isList h0 (by omega) (by rw [hj]; simpa using ew) fin hs
  · have hj : (i + (its.toArray.size : Int)).toNat = j := by
      rw [seqIndex_neg (by omega) h4] at h1
      rw [List.size_toArray, ← hl]
      exact Option.some.inj h1
    exact subscriptTail_builtinR (x := w) pl.isList.typeIs slot_list_getitem.lookup
      (wpAny_getItem_list_neg (Q := fun r s' => r = w ∧ EP X pins σ Q r s') pl.isList (by omega) (by rw [List.size_toArray] <;> omega) (by omega) (by rw [hj]; simpa using ew) ⟨rfl, fin⟩) hs
theorem ix_tup : IxR X (rIxT X.K) := by
  intro value slice pins s σ H x y v u Q I rx ry h hs
  obtain ⟨p, xs, i, z, rfl, rfl, hq, he, q⟩ := h
  cases rx
  obtain ⟨t, rfl⟩ := ry
  obtain ⟨its, r, pl, hz⟩ := I.tuple hq
  obtain ⟨j, h1, h2, h3, h4, h5⟩ := atI_get he
  obtain ⟨w, ew, rw'⟩ := r.get h2
  have hl := r.length
  have hn := line63
  have fin : EP X pins σ Q w s := ⟨z, H, I, rw', q⟩
  exact subscriptTail_builtinR (x := w) pl.typeIs slot_tuple_getitem.lookup
    (getItem_tuple (j := j) (Q := fun r s' => r = w ∧ EP X pins σ Q r s') pl (by omega) (by omega) (by rw [List.size_toArray, ← hl]; exact h1) (by simpa using ew) ⟨rfl, fin⟩) hs
theorem mapSeq_set (its : List Value) (n j : Nat) (u : Value) : Obj.mapSeq (·.setIfInBounds j u) { cls := .type "list", data := .seq its.toArray n } = { cls := .type "list", data := .seq (its.set j u).toArray n } := by
  simp [Obj.mapSeq]
theorem Inv.lst {pins : List (Addr × Obj)} {σ : St} {H : Hp} {s : Shared} {p : Addr} {xs : List V} (I : Inv X pins σ H s) (h : H p = some (.lst xs)) :
    ∃ (its : List Value) (n : Nat), Vals xs its ∧ s.heap.get? p = some { cls := .type "list", data := .seq its.toArray n } ∧ xs.length ≤ sizeLine := by
  obtain ⟨z, its, n, r, e⟩ := I.hok p _ h
  exact ⟨its, n, r, e, z⟩
theorem Inv.lstUpd {pins : List (Addr × Obj)} {σ : St} {H : Hp} {s : Shared} {p : Addr} {xs ys : List V} {its its' : List Value} {n n' : Nat} {f : Obj → Obj} (I : Inv X pins σ H s) (h : H p = some (.lst xs))
    (ho : s.heap.get? p = some { cls := .type "list", data := .seq its.toArray n }) (hf : f { cls := .type "list", data := .seq its.toArray n } = { cls := .type "list", data := .seq its'.toArray n' }) (r : Vals ys its') (hz : ys.length ≤ sizeLine) (t : Nat) :
    Inv X pins σ (upd H p (.lst ys)) { s with heap := s.heap.update p f, toks := t } := by
  have e : (s.heap.update p f).get? p = some { cls := .type "list", data := .seq its'.toArray n' } := by
    rw [Heap.get?_update_self f ho (by rw [hf] <;> rfl), hf]
  refine I.write (x := p) (e := p) (by rw [h]; trivial) (.inl rfl) (fun b u hb q => (Heap.get?_update_other _ _ (Ne.symm hb)).trans q) ⟨_, e⟩ ?_
  exact ⟨hz, its', n', r, e⟩
def rSetL : V → V → V → Hp → (Hp → Prop) → Prop := fun o i v H Q => ∃ p xs k j, o = .ref p ∧ i = .int k ∧ H p = some (.lst xs) ∧ ixN xs.length k = some j ∧ Q (upd H p (.lst (xs.set j v)))
theorem set_list : PSet X rSetL := by
  intro pins s σ H o i v ov iv u Q I ro ri rv h
  obtain ⟨p, xs, k, j, rfl, rfl, hp, hj, q⟩ := h
  cases ro
  obtain ⟨t, rfl⟩ := ri
  obtain ⟨its, n, r, ho, hz⟩ := I.lst hp
  obtain ⟨h1, h2, h3, h4⟩ := ixN_seq hj
  have hl := r.length
  have hn := line63
  have I' : Inv X pins σ (upd H p (.lst (xs.set j v))) { s with heap := s.heap.update p (Obj.mapSeq (·.setIfInBounds j u)) } :=
    I.lstUpd hp ho (mapSeq_set its n j u) (r.set rv j) (by rw [List.length_set]; exact hz) s.toks
  by_cases h0 : 0 ≤ k
  · have hk : k.toNat = j := by
      rw [seqIndex_of h0 h4] at h1
      exact Option.some.inj h1
    exact PySem.W.ki_setAt ho h0 (by omega) (by rw [List.size_toArray, ← hl]; exact h4) (by rw [hk]; exact ⟨_, I', q⟩)
  · have hk : (k + (its.toArray.size : Int)).toNat = j := by
      rw [seqIndex_neg (by omega) h3] at h1
      rw [List.size_toArray, ← hl]
      exact Option.some.inj h1
    exact PySem.W.ki_setBack ho (by omega) (by rw [List.size_toArray, ← hl]; exact h3) (by omega) (by rw [hk]; exact ⟨_, I', q⟩)
theorem slice_bounds (lo hi : Option Int) (n : Nat) : (sliceBounds lo hi none n).1 = ((HT.sIx n 0 lo : Nat) : Int) ∧ (sliceBounds lo hi none n).2.1 = ((HT.sIx n n hi : Nat) : Int) ∧ (sliceBounds lo hi none n).2.2 = 1 := by
  refine ⟨?_, ?_, rfl⟩
  · cases lo with
    | none => simp [sliceBounds, HT.sIx]
    | some i =>
      simp only [sliceBounds, HT.sIx, Option.getD_none, show (1 : Int) > 0 by decide, if_true]
      by_cases h : i < 0
      · simp only [h, if_true] <;> omega
      · simp only [h, if_false] <;> omega
  · cases hi with
    | none => simp [sliceBounds, HT.sIx]
    | some i =>
      simp only [sliceBounds, HT.sIx, Option.getD_none, show (1 : Int) > 0 by decide, if_true]
      by_cases h : i < 0
      · simp only [h, if_true] <;> omega
      · simp only [h, if_false] <;> omega
theorem slicePick_cut (its : List Value) (lo hi : Option Int) : slicePick its.toArray lo hi none = ((its.drop (HT.sIx its.length 0 lo)).take (HT.sIx its.length its.length hi - HT.sIx its.length 0 lo)).toArray := by
  obtain ⟨h1, h2, h3⟩ := slice_bounds lo hi its.toArray.size
  unfold slicePick
  rw [h1, h2, h3]
  simp only [sliceRange_one, pick_run, List.size_toArray] <;> rfl
def rSlL (K : PySem.W.Frag) : V → Option Int → Option Int → Hp → VK → Prop := fun x lo hi H Q => ∃ a xs, x = .ref a ∧ SqL K H a xs ∧ ∀ p, H p = none → Q (.ref p) (upd H p (.lst (cutV xs lo hi)))
theorem sl_list : SlR X (rSlL X.K) := by
  intro pins s σ H x v vl vu lo hi sl Q I rx hs pl pu h
  obtain ⟨a, xs, rfl, hx, q⟩ := h
  cases rx
  obtain ⟨its, r, ht, hz⟩ := I.list hx
  have hlen := r.length
  refine ⟨"list", _, slot_list_getitem.lookup, ht.isList.typeIs, ?_⟩
  refine wpAny_getItem_list_slice ht.isList hs pl pu .none (by simp) ?_ (by rw [List.size_toArray] <;> omega)
  rw [slicePick_cut, ← hlen]
  refine ⟨.ref s.heap.objs.size, _, I.laid (t' := s.toks) (o := .lst (cutV xs lo hi)) (fun b ob q => Heap.get?_push_of_some _ q) (Nat.le_refl _) ?_, rfl, q _ (I.hok.fresh (Nat.le_refl _))⟩
  exact ⟨Nat.le_trans (cutV_length xs lo hi) hz, _, 0, (r.drop (HT.sIx xs.length 0 lo)).take (HT.sIx xs.length xs.length hi - HT.sIx xs.length 0 lo), Heap.get?_push_size _ rfl⟩
theorem CallR.or {f : Value} {r r' : List V → Hp → VK → Prop} (h : CallR X f r) (h' : CallR X f r') : CallR X f (fun xs H Q => r xs H Q ∨ r' xs H Q) := by
  intro pins s σ H xs us Q I rs q
  rcases q with q | q
  · exact h pins s σ H xs us Q I rs q
  · exact h' pins s σ H xs us Q I rs q
theorem call_list_of : CallR X (.type "list") (fun xs H Q => ∃ p ys, xs = [.ref p] ∧ (SqL X.K H p ys ∨ SqT X.K H p ys) ∧ ∀ l, H l = none → Q (.ref l) (upd H l (.lst ys))) := by
  intro pins s σ H xs us Q I r h
  obtain ⟨p, ys, rfl, hq, q⟩ := h
  obtain ⟨u, rfl, rx⟩ := vals1 r
  cases rx
  have fin : ∀ (its : List Value), Vals ys its → ys.length ≤ sizeLine → ∀ (h' : Heap) (c' : Nat), (∀ b o', s.heap.get? b = some o' → h'.get? b = some o') →
      h'.get? s.heap.objs.size = some { cls := .type "list", dict := none, data := .seq its.toArray c', slots := #[] } → EP X pins σ Q (.ref s.heap.objs.size) { s with heap := h' } := fun its r' hz h' c' kp e =>
    ⟨.ref s.heap.objs.size, _, I.laid (t' := s.toks) kp (Nat.le_refl _) (show ObjOk X.prog X.w _ h' _ (.lst ys) from ⟨hz, its, c', r', e⟩), rfl, q _ (I.hok.fresh (Nat.le_refl _))⟩
  rcases hq with hq | hq
  · obtain ⟨its, r', pl, hz⟩ := I.list hq
    have hlen := r'.length
    obtain ⟨o, ho, hc, n, hd⟩ := pl.isList
    exact call_list_seq p (.inl rfl) ho hc hd (fun h' c' kp e => fin its r' hz h' c' kp e) (by simp only [List.size_toArray] <;> omega)
  · obtain ⟨its, r', pl, hz⟩ := I.tuple hq
    have hlen := r'.length
    obtain ⟨o, ho, hc, n, hd⟩ := pl
    exact call_list_seq p (.inr rfl) ho hc hd (fun h' c' kp e => fin its r' hz h' c' kp e) (by simp only [List.size_toArray] <;> omega)
def tyV (K : PySem.W.Frag) (T : String) (x : V) (H : Hp) : Prop := match x with
  | .str _ => T = "str"
  | .int _ => T = "int"
  | .ref p => (T = "list" ∧ ∃ xs, SqL K H p xs) ∨ (T = "tuple" ∧ ∃ o, K.lookup p = some o ∧ o.cls = .type "tuple" ∧ o.dict = none) ∨
      (T = "dict" ∧ ((∃ kvs, H p = some (.dK kvs)) ∨ ∃ kvs, H p = some (.dT kvs))) ∨ (T = "set" ∧ ∃ S n, H p = some (.set S n))
  | _ => False
theorem tyV_is {pins : List (Addr × Obj)} {σ : St} {H : Hp} {s : Shared} {T : String} {x : V} {v : Value} (I : Inv X pins σ H s) (r : RelV x v) (ty : tyV X.K T x H) :
    s.TypeIs v T ∧ ∀ a, v = .ref a → ∃ ob, s.heap.get? a = some ob ∧ ob.dict = none := by
  cases x with
  | str z =>
    obtain ⟨t, rfl⟩ := r
    cases (show T = "str" from ty)
    exact ⟨typeIs_str s z t, fun _ e => nomatch e⟩
  | int i =>
    obtain ⟨t, rfl⟩ := r
    cases (show T = "int" from ty)
    exact ⟨typeIs_int s i t, fun _ e => nomatch e⟩
  | ref p =>
    cases r
    rcases ty with ⟨rfl, xs, hq⟩ | ⟨rfl, o, hk, hc, hd⟩ | ⟨rfl, hk⟩ | ⟨rfl, S, n, hk⟩
    · obtain ⟨its, _, pl, _⟩ := I.list hq
      refine ⟨pl.isList.typeIs, fun a e => ?_⟩
      cases e
      obtain ⟨o, n, e, c, hd, _⟩ := pl
      exact ⟨o, e, hd⟩
    · refine ⟨⟨o, I.kIn p o hk, hc⟩, fun a e => ?_⟩
      cases e
      exact ⟨o, I.kIn _ o hk, hd⟩
    · have z : ∃ o, s.heap.get? p = some o ∧ o.ExactDict := by
        rcases hk with ⟨kvs, hk⟩ | ⟨kvs, hk⟩
        · obtain ⟨_, _, _, _, o, _, _, e, ex, _⟩ := I.hok p _ hk
          exact ⟨o, e, ex⟩
        · obtain ⟨_, _, _, _, o, _, _, e, ex, _⟩ := I.hok p _ hk
          exact ⟨o, e, ex⟩
      obtain ⟨o, e, ex⟩ := z
      refine ⟨⟨o, e, ex.1⟩, fun a e2 => ?_⟩
      cases e2
      exact ⟨o, e, ex.2.1⟩
    · obtain ⟨o, _, _, _, e, ex, _⟩ := I.hok p _ hk
      refine ⟨⟨o, e, ex.1⟩, fun a e2 => ?_⟩
      cases e2
      exact ⟨o, e, ex.2.1⟩
  | _ => exact False.elim ty
def tBM0 (K : PySem.W.Frag) (T : String) (r : V → List V → Hp → VK → Prop) (to : TE) : TE := fun σ H Q => to σ H fun x H1 => tyV K T x H1 ∧ r x [] H1 Q
def tBM (K : PySem.W.Frag) (T : String) (r : V → List V → Hp → VK → Prop) (to : TE) (t : TA) : TE := fun σ H Q => to σ H fun x H1 => tyV K T x H1 ∧ t σ H1 fun xs H2 => r x xs H2 Q
variable {o e : Expr} {es : List Expr} {to : TE} {t : TA} {name : Str} {apos cpos : Pos} {T id : String} {r : V → List V → Hp → VK → Prop}
theorem pe_bm0 (pa : PlainAttrs T) (slot : Slot T name id) (hty : typeOf (.builtin id) = pure (.type "method_descriptor")) (hm : MtR X id r) (ho : PE X o to)
    (hbase : attributeBase o name X.env (eval o X.env) = eval o X.env := by rfl) (hline : (apos.endLine == cpos.line) = true := by rfl) : PE X (.Call (.Attribute o name apos) [] [] cpos) (tBM0 X.K T r to) := by
  intro pins s σ H Q I h
  refine wpAny_Call_method0_late hbase hline (thn (ho pins s σ H _ I h) fun v s1 ⟨x, H1, I1, r1, ty, q1⟩ => ?_)
  obtain ⟨h1, h2⟩ := tyV_is I1 r1 ty
  exact ⟨T, id, pa, slot, hty, h1, h2, Calls.callWith_builtin rfl (PySem.evalArgs_none (hm pins s1 σ H1 x [] v [] Q I1 r1 .nil q1))⟩
theorem pe_bm (pa : PlainAttrs T) (slot : Slot T name id) (hty : typeOf (.builtin id) = pure (.type "method_descriptor")) (hm : MtR X id r) (ho : PE X o to) (ha : PA X (e :: es) t)
    (hbase : attributeBase o name X.env (eval o X.env) = eval o X.env := by rfl)
    (hfew : ((backTo cpos (starEach (e :: es) X.env)).all (fun x => !x.1) && (backToKw cpos (keywordEach [] X.env)).all (fun x => x.1.isSome)
      && decide ((e :: es).length + ([] : List Keyword).length + (if ([] : List Keyword).isEmpty then 0 else 1) < 30)) = true := by rfl)
    (hline : (apos.endLine == cpos.line) = true := by rfl) (hs : starEach (e :: es) X.env = (false, eval e X.env) :: starEach es X.env := by rfl) (hplain : (backTo cpos (starEach es X.env)).any (·.1) = false := by rfl) :
    PE X (.Call (.Attribute o name apos) (e :: es) [] cpos) (tBM X.K T r to t) := by
  intro pins s σ H Q I h
  refine wpAny_Call_method_late hbase hfew hline rfl (thn (ho pins s σ H _ I h) fun v s1 ⟨x, H1, I1, r1, ty, q1⟩ => ?_)
  obtain ⟨h1, h2⟩ := tyV_is I1 r1 ty
  refine ⟨T, id, pa, slot, hty, h1, h2, ?_⟩
  have hA := ha cpos pins s1 σ H1 _ I1 q1
  rw [hs] at hA ⊢
  refine Calls.callWith_builtin (by show (false || (backTo cpos (starEach es X.env)).any (·.1)) = false; rw [hplain] <;> rfl) (Calls.evalArgs_plain ?_)
  exact thn hA fun us s2 ⟨vs, H2, I2, r2, q2⟩ => hm pins s2 σ H2 x vs v us Q I2 r1 r2 q2
/- xs.append(e), list.index on a module's tuple .. are MtR facts of 06m -/
end
end L2
namespace L2
open PySem PySem.Spec PyProof.Rows
def MtM (X : Cx) (id : String) (r : V → List V → Hp → VK → Prop) : Prop :=
  ∀ (pins : List (Addr × Obj)) (s : Shared) (σ : St) (H : Hp) (x : V) (xs : List V) (v : Value) (us : List Value) (Q : VK), Inv X pins σ H s → RelV x v → Vals xs us → r x xs H Q →
    wpAny (model X.prog X.w) X.A (call (.builtin id) (v :: us)) (EP X pins σ Q) X.xe s
theorem Vals.one : ∀ {x : V} {us : List Value}, Vals [x] us → ∃ u, us = [u] ∧ RelV x u
  | _, _, .cons r .nil => ⟨_, rfl, r⟩
theorem Vals.two : ∀ {x y : V} {us : List Value}, Vals [x, y] us → ∃ u v, us = [u, v] ∧ RelV x u ∧ RelV y v
  | _, _, _, .cons r (.cons q .nil) => ⟨_, _, rfl, r, q⟩
theorem Vals.zero : ∀ {us : List Value}, Vals [] us → us = []
  | _, .nil => rfl
theorem Vals.dropLast {xs : List V} {us : List Value} (h : Vals xs us) : Vals xs.dropLast us.dropLast := by
  induction h with
  | nil => exact .nil
  | cons r t ih =>
    cases t with
    | nil => exact .nil
    | cons q t' => exact .cons r ih
theorem Vals.eraseIdx : ∀ {xs : List V} {us : List Value} (i : Nat), Vals xs us → Vals (xs.eraseIdx i) (us.eraseIdx i)
  | _, _, _, .nil => .nil
  | _, _, 0, .cons _ t => t
  | _, _, i + 1, .cons r t => .cons r (Vals.eraseIdx i t)
theorem Vals.reverse {xs : List V} {us : List Value} (h : Vals xs us) : Vals xs.reverse us.reverse := by
  induction h with
  | nil => exact .nil
  | cons r t ih => rw [List.reverse_cons, List.reverse_cons]; exact Vals.append ih (.cons r .nil)
theorem erase_last {α : Type} (l : List α) : l.eraseIdx (l.length - 1) = l.dropLast := by
  induction l with
  | nil => rfl
  | cons a r ih =>
    cases r with
    | nil => rfl
    | cons b r =>
      have e : (a :: b :: r).length - 1 = ((b :: r).length - 1) + 1 := by
        have h1 : (a :: b :: r).length = r.length + 2 := rfl
        have h2 : (b :: r).length = r.length + 1 := rfl
        omega
      rw [e, List.eraseIdx_cons_succ, ih]
      all_goals rfl
section
variable {X : Cx} {pins : List (Addr × Obj)} {σ : St} {H : Hp} {s : Shared} {l b : Addr} {xs ys zs : List V}
theorem Inv.lset {its its' : List Value} {n : Nat} {f : Array Value → Array Value} {t' : Nat} (I : Inv X pins σ H s) (hH : H l = some (.lst xs))
    (e : s.heap.get? l = some { cls := .type "list", data := .seq its.toArray n }) (hf : f its.toArray = its'.toArray) (hv : Vals ys its') (hz : ys.length ≤ sizeLine) :
    Inv X pins σ (upd H l (.lst ys)) { s with heap := s.heap.update l (Obj.mapSeq f), toks := t' } := by
  have q := PySem.IsL.update e f
  rw [hf] at q
  refine I.write (x := l) (e := l) (by rw [hH]; exact trivial) (.inl rfl) (fun b' u hb hu => (Heap.get?_update_other s.heap (Obj.mapSeq f) (Ne.symm hb)).trans hu) ⟨_, q⟩ ?_
  exact ⟨hz, its', _, hv, q⟩
theorem Inv.lnew {its : List Value} {t' : Nat} (I : Inv X pins σ H s) (hv : Vals ys its) (hz : ys.length ≤ sizeLine) :
    Inv X pins σ (upd H s.heap.objs.size (.lst ys)) { s with heap := s.heap.push { cls := .type "list", data := .seq its.toArray }, toks := t' } :=
  I.laid (fun _ _ q => Heap.get?_push_of_some _ q) (Nat.le_refl _) ⟨hz, its, 0, hv, Heap.get?_push_size _ rfl⟩
theorem Inv.fresh (I : Inv X pins σ H s) : H s.heap.objs.size = none := I.hok.fresh (Nat.le_refl _)
theorem Inv.lstM (I : Inv X pins σ H s) (hH : H l = some (.lst xs)) : xs.length ≤ sizeLine ∧ ∃ (its : List Value) (n : Nat), Vals xs its ∧ xs.length = its.length ∧ s.heap.get? l = some { cls := .type "list", data := .seq its.toArray n } := by
  obtain ⟨z, its, n, r, e⟩ := I.hok l _ hH
  exact ⟨z, its, n, r, r.length, e⟩
theorem notLongL {n : Nat} (h : n ≤ sizeLine) : Builtin.List.listTooLong n = false := by
  unfold Builtin.List.listTooLong
  exact decide_eq_false (by omega)
end
section
variable {X : Cx}
def rAppend : V → List V → Hp → VK → Prop := fun x vs H Q => ∃ l xs y, x = .ref l ∧ vs = [y] ∧ H l = some (.lst xs) ∧ xs.length < sizeLine ∧ Q .non (upd H l (.lst (xs ++ [y])))
theorem mt_append : MtM X "list.append" rAppend := by
  intro pins s σ H x vs v us Q I rx rv h
  obtain ⟨l, xs, y, rfl, rfl, hH, hz, q⟩ := h
  cases rx
  obtain ⟨u, rfl, ru⟩ := rv.one
  obtain ⟨z, its, n, r, hl, e⟩ := I.lstM hH
  refine call_meets F.slot_list_append ⟨_, e, rfl⟩ F.entry_list_append (F.args_list_append_2 _ _) (PySem.list_append l its.toArray n u (by rw [List.size_toArray]; omega)) ⟨e, ?_⟩
  refine ⟨.non, _, I.lset (its' := its ++ [u]) hH e (by simp) (r.append (.cons ru .nil)) ?_, rfl, q⟩
  rw [List.length_append, List.length_singleton]
  omega
def rExtend : V → List V → Hp → VK → Prop := fun x vs H Q => ∃ l b xs zs, x = .ref l ∧ vs = [.ref b] ∧ H l = some (.lst xs) ∧ H b = some (.lst zs) ∧ xs.length + zs.length ≤ sizeLine ∧ Q .non (upd H l (.lst (xs ++ zs)))
theorem mt_extend : MtM X "list.extend" rExtend := by
  intro pins s σ H x vs v us Q I rx rv h
  obtain ⟨l, b, xs, zs, rfl, rfl, hH, hB, hz, q⟩ := h
  cases rx
  obtain ⟨u, rfl, ru⟩ := rv.one
  cases ru
  obtain ⟨z, its, n, r, hl, e⟩ := I.lstM hH
  obtain ⟨z2, its2, n2, r2, hl2, e2⟩ := I.lstM hB
  have hsz : its.toArray.size + its2.toArray.size ≤ sizeLine := by rw [List.size_toArray, List.size_toArray]; omega
  have hlong : ¬ (!its.toArray.isEmpty && Builtin.List.listTooLong (its.toArray.size + its2.toArray.size)) = true := by
    rw [notLongL hsz, Bool.and_false]
    exact Bool.false_ne_true
  refine call_meets F.slot_list_extend ⟨_, e, rfl⟩ F.entry_list_extend (F.args_list_extend_2 _ _)
    (AutoSeq1.list_extend_list_list_0 l its.toArray n b its2.toArray n2 hlong (by rw [List.size_toArray]; omega) (by omega)) ⟨e, e2, ?_⟩
  refine ⟨.non, _, I.lset (its' := its ++ its2) hH e (by simp) (r.append r2) ?_, rfl, q⟩
  rw [List.length_append]
  omega
def rPop : V → List V → Hp → VK → Prop := fun x vs H Q => ∃ l xs y, x = .ref l ∧ vs = [] ∧ H l = some (.lst xs) ∧ xs[xs.length - 1]? = some y ∧ Q y (upd H l (.lst xs.dropLast))
theorem mt_pop : MtM X "list.pop" rPop := by
  intro pins s σ H x vs v us Q I rx rv h
  obtain ⟨l, xs, y, rfl, rfl, hH, hy, q⟩ := h
  cases rx
  have hus := rv.zero
  subst hus
  obtain ⟨z, its, n, r, hl, e⟩ := I.lstM hH
  obtain ⟨u, hu, ru⟩ := r.get hy
  have hy' : its.toArray[its.toArray.size - 1]? = some u := by
    show its.toArray[its.length - 1]? = some u
    rw [← Array.getElem?_toList, ← hl]
    exact hu
  refine call_meets F.slot_list_pop ⟨_, e, rfl⟩ F.entry_list_pop (F.args_list_pop_1 _) (MeetsSeq.list_pop_last l its.toArray n u hy' (by rw [List.size_toArray]; omega)) ⟨e, ?_⟩
  refine ⟨y, _, I.lset (its' := its.dropLast) hH e ?_ r.dropLast ?_, ru, q⟩
  · show its.toArray.eraseIdxIfInBounds (its.toArray.size - 1) = its.dropLast.toArray
    rw [List.size_toArray, List.eraseIdxIfInBounds_toArray, erase_last]
  · rw [List.length_dropLast]
    omega
def rClear : V → List V → Hp → VK → Prop := fun x vs H Q => ∃ l xs, x = .ref l ∧ vs = [] ∧ H l = some (.lst xs) ∧ Q .non (upd H l (.lst []))
theorem mt_clear : MtM X "list.clear" rClear := by
  intro pins s σ H x vs v us Q I rx rv h
  obtain ⟨l, xs, rfl, rfl, hH, q⟩ := h
  cases rx
  have hus := rv.zero
  subst hus
  obtain ⟨z, its, n, r, hl, e⟩ := I.lstM hH
  refine call_meets F.slot_list_clear ⟨_, e, rfl⟩ F.entry_list_clear (F.args_list_clear_1 _) (AutoSeq1.list_clear_list_0 l its.toArray n (by rw [List.size_toArray]; omega)) ⟨e, ?_⟩
  exact ⟨.non, _, I.lset (its' := []) (ys := []) hH e rfl .nil (Nat.zero_le _), rfl, q⟩
def rCat : R2 := fun x y H Q => ∃ l b xs zs, x = .ref l ∧ y = .ref b ∧ H l = some (.lst xs) ∧ H b = some (.lst zs) ∧ xs.length + zs.length ≤ sizeLine ∧ ∀ p, H p = none → Q (.ref p) (upd H p (.lst (xs ++ zs)))
theorem op_cat : OpR X (binaryOp .Add) rCat := by
  intro pins s σ H x y v u Q I rx ry h
  obtain ⟨l, b, xs, zs, rfl, rfl, hH, hB, hz, q⟩ := h
  cases rx
  cases ry
  obtain ⟨z, its, n, r, hl, e⟩ := I.lstM hH
  obtain ⟨z2, its2, n2, r2, hl2, e2⟩ := I.lstM hB
  refine PySem.P.add_list e e2 ?_ (by rw [List.size_toArray, List.size_toArray]; omega)
  have ea : its.toArray ++ its2.toArray = (its ++ its2).toArray := by simp
  rw [ea]
  exact ⟨.ref _, _, I.lnew (t' := s.toks) (r.append r2) (by rw [List.length_append]; omega), rfl, q _ I.fresh⟩
end
section
variable {prog : Program} {w : World} {A : Around} {E : Value → Shared → Prop} {s : Shared}
end
section
variable {X : Cx}
end
end L2
namespace Att
open PySem PySem.W PySem.Calls PyProof.Rows
theorem ints_of_wellAll {P : Params} {h : Heap} : ∀ (ns : List Int) (vs : List Value), WellAll P h vs (ns.map WData.int) → IntsAre vs ns := by
  intro ns
  induction ns with
  | nil =>
    intro vs w
    rw [List.map_nil] at w
    cases w
    exact .nil
  | cons n ns ih =>
    intro vs w
    rw [List.map_cons] at w
    cases w with
    | cons a b =>
      cases a
      exact .cons _ _ (ih _ b)
theorem script_of {l : OpenLaw} {n : Nat} (hn : l.most = some n) {P : Params} {h : Heap} {args : List WData} {vals : List Value}
    (hpre : l.row.toRowW.claim.pre args = true) (hwl : WellAll P h vals args) :
    ∃ a vs ns, vals = [Value.ref a] ∧ args = [WData.list (ns.map WData.int)] ∧ h.get? a = some { cls := .type "list", data := .seq vs.toArray } ∧ IntsAre vs ns ∧ ns.length ≤ n := by
  have hsh : WShape.hasAll [] args [.list .int] = true := (pre_splitW hpre).1
  have hc : l.pre.holds [] { args := args } = true := (pre_splitW hpre).2
  obtain ⟨d, r, rfl, h1, h2⟩ := hasAllW_cons hsh
  obtain rfl := hasAllW_nil h2
  obtain ⟨xs, rfl, h3⟩ := hasW_list h1
  obtain ⟨ns, rfl⟩ := items_int h3
  have hlen : ns.length ≤ n := by
    unfold OpenLaw.pre at hc
    have h4 : (WTm.not (.lt (.lit (.int (n : Int))) (.len (.arg 0)))).holds [] { args := [.list (ns.map .int)] } = true := by
      have h4 := (holds_andW hc).1
      rw [hn] at h4
      exact h4
    have h5 := condW_of h4 (w_not (w_lt w_lit (w_len_list (w_arg rfl))))
    rw [List.length_map] at h5
    refine Nat.le_of_not_lt fun q => ?_
    have q' : (n : Int) < ((ns.length : Nat) : Int) := by omega
    first
      | (rw [decide_eq_true q'] at h5; exact absurd h5 (by decide))
      | (simp at h5; omega)
  cases hwl with
  | cons w1 w2 =>
    cases w2
    cases w1 with
    | list ho hall => exact ⟨_, _, ns, rfl, rfl, ho, ints_of_wellAll ns _ hall, hlen⟩
theorem post_true (l : OpenLaw) (args : List WData) : l.row.toRowW.claim.post args (.bool true) args = true :=
  postW_of (r := l.row.toRowW) (X := (true == true))
    (show WShape.has [] (.bool true) .bool = true by first | rfl | decide | simp [WShape.has, WShape.arms, WShape.armsAll])
    (show (WTm.eq .res (.lit (.bool true))).value [] { args := args, res := some (.bool true), after := args } = some (.bool (true == true)) from w_eq_bool (w_res rfl) w_lit) rfl
theorem attach_call {l : OpenLaw} {n : Nat} {q : Program} {loose : List Str} {XP : (Str → Option Value) → Heap → Prop} {YP : World → Heap → Prop} {d : DefRec}
    (hn : l.most = some n) (hdf : d.params.defaults = [])
    (call : ∀ (w : World) (s₀ s₁ : Shared) (mg mb : Str → Option Value) (fa : Addr) (o : Obj) (pm cd doc : Value) (a : Addr) (vs : List Value) (ns : List Int),
      Ground q loose [] XP w s₀ mg mb s₁.heap → YP w s₁.heap →
      s₁.heap.get? fa = some o → o.data = .func (docDef d.name d.params d.body d.scope pm cd doc) → s₁.heap.CodeRec cd d.name → mg d.name = some (.ref fa) →
      s₁.heap.get? a = some { cls := .type "list", data := .seq vs.toArray } → IntsAre vs ns → ns.length ≤ n → s₁.gens = #[] →
      codeAny (model l.prog w) callerA (.call (.ref fa) ⟨[.ref a], []⟩) (fun r s' => r = .ok (.ret (.bool true)) ∧ OldK s₁.heap s'.heap ∧ s'.os = s₁.os ∧ AllBare s'.gens) s₁) :
    WalkO q loose XP YP l.row.toRowW d [] (fun f vs => PySem.call f vs) := by
  intro w s₀ s₁ mg mb G Y fa o pm cd doc dV kV ho hd hcd hD hmg hg args vals as hpre hlay hrd hwl hlo
  obtain rfl : dV = .none := Dflts.none hD hdf
  obtain rfl : kV = .none := Dflts.noKw hD
  obtain ⟨a, vs, ns, rfl, rfl, hobj, hints, hlen⟩ := script_of hn hpre hwl
  refine enter_call (codeAny_mono (call w s₀ s₁ mg mb fa o pm cd doc a vs ns G Y ho (fd_plain hd) hcd hmg hobj hints hlen hg) fun r s' hq => ?_)
  obtain ⟨rfl, h2, h3, h4⟩ := hq
  exact ⟨.inl ⟨.bool true, .bool true, [], rfl, fun _ => rfl, .bool true, post_true l _, fun _ => ⟨List.Pairwise.nil, fun _ hm => (nomatch hm)⟩⟩, h2, h3, h4⟩
section
variable {prog : Program} {w : World} {A : Around} {E : Value → Shared → Prop} {s : Shared} {K : Frag}
def ledger (h : Heap) (L d : Addr) : List (Addr × Obj) := (List.range h.objs.size).filterMap fun a => if a = L ∨ a = d then none else (h.get? a).map fun o => (a, o)
end
end Att
namespace L2
open PySem PySem.Spec PyProof.Rows
theorem vals_ints : ∀ {vs : List Value} {ns : List Int}, IntsAre vs ns → Vals (ns.map V.int) vs
  | _, _, .nil => .nil
  | _, _, .cons n t h => .cons ⟨t, rfl⟩ (vals_ints h)
def Only (H : Hp) : Prop := ∀ b, H b = none ∨ ∃ o xs, H b = some (.frz o (.lst xs))
theorem law_call {P : Program} {w : World} {K : PySem.W.Frag} {mg mb : Str → Option Value} {CX : CXT} {k : Nat} {fa a : Addr} {fd : FuncData} {x : Str} {sp : Sp} {s₁ : Shared} {vs : List Value} {ns : List Int}
    (KX : K.In s₁.heap) (hns : s₁.heap.Ns mainGlobals mg) (hb : s₁.heap.Ns builtinsNs mb) (hbb : ∀ x : Str, x ≠ "__name__" → mb x = bootBuiltins x) (hlim : s₁.heap.NoLimit) (hg : s₁.gens = #[])
    (ha : s₁.heap.get? a = some { cls := .type "list", data := .seq vs.toArray }) (hi : IntsAre vs ns) (hl : ns.length ≤ sizeLine) (hr : Room k callerA)
    (F : ∀ base : Heap, K.In base → base.Ns mainGlobals mg → FnOk P w K mg base CX k fa fd [x] sp) (hbind : ∀ (s : Shared) (u : Value), BindsTo s fd ⟨[u], []⟩ [(x, u)])
    (hsp : ∀ H : Hp, Only H → SqL K H a (ns.map V.int) → sp [.ref a] H (fun v _ => v = .bl true) fun _ _ _ => False)
    (hCX : ∀ H e s', CX [] H s₁ (fun _ _ _ => False) e s' → False) :
    codeAny (model P w) callerA (.call (.ref fa) ⟨[.ref a], []⟩) (fun r s' => r = .ok (.ret (.bool true)) ∧ OldK s₁.heap s'.heap ∧ s'.os = s₁.os ∧ AllBare s'.gens) s₁ := by
  have rv := vals_ints hi
  have lenV := hi.length
  -- from an abstract heap in which nothing but the script may be tracked
  have core : ∀ H : Hp, Only H → SqL K H a (ns.map V.int) → HOk P w H s₁.heap → (∀ b, H b ≠ none → b = a) → (H a ≠ none → K.lookup a = none) →
      codeAny (model P w) callerA (.call (.ref fa) ⟨[.ref a], []⟩) (fun r s' => r = .ok (.ret (.bool true)) ∧ OldK s₁.heap s'.heap ∧ s'.os = s₁.os ∧ AllBare s'.gens) s₁ := by
    intro H hO hS hok hA hK
    have base_of : ∀ {b : Addr} {o : Obj}, s₁.heap.get? b = some o → H b = none → (hidT s₁.heap H).get? b = some o := fun e n => hidT_get e n
    have noA : ∀ {b : Addr} {o : Obj} {es : Array DictEntry} {ep : Nat}, s₁.heap.get? b = some o → o.data = .dict es ep → H b = none := fun {b o es ep} e d => by
      cases q : H b with
      | none => rfl
      | some u =>
        have e' : b = a := hA b (by rw [q]; simp)
        subst e'
        rw [ha] at e; cases e
        have d' : Data.seq vs.toArray _ = Data.dict es ep := d
        cases d'
    have nsK : ∀ {b : Addr} {m : Str → Option Value}, s₁.heap.Ns b m → (hidT s₁.heap H).Ns b m := fun {b m} ⟨o, es, ep, e, d, r⟩ => ⟨o, es, ep, base_of e (noA e d), d, r⟩
    have hKb : K.In (hidT s₁.heap H) := fun b o e => base_of (KX b o e) (by
      cases q : H b with
      | none => rfl
      | some u =>
        have e' : b = a := hA b (by rw [q]; simp)
        subst e'
        rw [hK (by rw [q]; simp)] at e; cases e)
    have hM : Mod K mg (hidT s₁.heap H) := ⟨hKb, nsK hns, ⟨mb, nsK hb, hbb⟩, let ⟨mc, h1, h2⟩ := hlim; ⟨mc, nsK h1, h2⟩⟩
    have e0 : Env0 P w K mg (hidT s₁.heap H) callerA [] s₁ H := ⟨rfl, hM, fun b o e => of_hidT e, Nat.le_of_eq (hidT_size _ _), trivial, fun b hb => absurd (show b ∈ ([] : List Addr) from hb) (by simp), hok, .of_eq hg⟩
    refine codeAny_mono ((F _ hKb (nsK hns)).run callerA [] s₁ H ⟨[.ref a], []⟩ [.ref a] [.ref a] _ _ hr e0 (hbind s₁ (.ref a)) (.cons rfl .nil) (hsp H hO hS)) fun r s' h => ?_
    cases r with
    | error e => exact (hCX H e s' h).elim
    | ok fl =>
      cases fl with
      | next => exact False.elim h
      | brk => exact False.elim h
      | cont => exact False.elim h
      | ret u =>
        obtain ⟨v, H', os, bare, un, hok', r', q⟩ := h
        have q' : v = .bl true := q
        subst q'
        obtain rfl : u = Value.bool true := r'
        refine ⟨rfl, OldK.of_keep fun b o e => ?_, os, bare⟩
        cases q : H b with
        | none => exact un.keep b o e q (by intro z; exact absurd (show b ∈ ([] : List Addr) from z) (by simp)) (by simp)
        | some u =>
          rcases hO b with z | ⟨ob, xs, z⟩
          · rw [q] at z; cases z
          · have z2 := un.frzs b ob _ z
            obtain ⟨e1, _⟩ := hok b _ z
            obtain ⟨e2, _⟩ := hok' b _ z2
            rw [e] at e1; cases e1
            exact e2
  cases hk : K.lookup a with
  | some o =>
    -- the script is one of the module's own objects
    have e := KX a o hk
    rw [ha] at e
    cases e
    refine core (fun _ => none) (fun _ => .inl rfl) (.inr ⟨_, vs.toArray, _, hk, rfl, rfl, rfl, by rw [List.size_toArray, lenV]; exact hl, by simpa using rv⟩) (fun b u z => by have z' : (none : Option HO) = some u := z; cases z') (fun b z => absurd rfl z) fun z => absurd rfl z
  | none =>
    refine core (fun b => if b = a then some (.frz { cls := .type "list", data := .seq vs.toArray } (.lst (ns.map V.int))) else none) (fun b => ?_) (.inl (.inr ⟨{ cls := .type "list", data := .seq vs.toArray }, if_pos rfl⟩)) (fun b u z => ?_) (fun b z => ?_) fun _ => hk
    · by_cases hb : b = a
      · exact .inr ⟨_, _, if_pos hb⟩
      · exact .inl (if_neg hb)
    · by_cases hb : b = a
      · have z' := (if_pos hb).symm.trans z
        cases z'
        subst hb
        exact ⟨ha, by rw [List.length_map]; exact hl, vs, _, rv, ha⟩
      · have z' := (if_neg hb).symm.trans z
        cases z'
    · by_cases hb : b = a
      · exact hb
      · exact absurd (if_neg hb) z
end L2
namespace L2
open PySem PySem.Spec PyProof.Rows
abbrev KOf {K : PySem.W.Frag} {h : Heap} (_ : K.In h) : PySem.W.Frag := K
theorem walk_of {l : PySem.W.OpenLaw} {n k : Nat} {q : Program} {loose : List Str} {XP : (Str → Option Value) → Heap → Prop} {YP : World → Heap → Prop} {d : DefRec} {K : Params → PySem.W.Frag} {CX : World → CXT} {sp : World → Sp} {x : Str}
    (hn : l.most = some n) (hn2 : n ≤ sizeLine) (hdf : d.params.defaults = []) (hr : Room k callerA)
    (hY : ∀ (w : World) (h : Heap), YP w h → (K w.params).In h)
    (F : ∀ (w : World) (mg : Str → Option Value) (fa : Addr) (h : Heap), (K w.params).In h → h.Ns mainGlobals mg → mg d.name = some (.ref fa) →
      ∃ fd : FuncData, (∀ (s : Shared) (u : Value), BindsTo s fd ⟨[u], []⟩ [(x, u)]) ∧
        ∀ base : Heap, (K w.params).In base → base.Ns mainGlobals mg → FnOk l.prog w (K w.params) mg base (CX w) k fa fd [x] (sp w))
    (hsp : ∀ (w : World) (H : Hp) (a : Addr) (ns : List Int), ns.length ≤ n → Only H → SqL (K w.params) H a (ns.map V.int) → sp w [.ref a] H (fun v _ => v = .bl true) fun _ _ _ => False)
    (hCX : ∀ (w : World) (H : Hp) (s : Shared) (e : Value) (s' : Shared), CX w [] H s (fun _ _ _ => False) e s' → False) :
    PySem.W.WalkO q loose XP YP l.row.toRowW d [] (fun f vs => PySem.call f vs) := by
  refine Att.attach_call hn hdf fun w s₀ s₁ mg mb fa o pm cd doc a vs ns G Y ho hd hcd hmg hobj hints hlen hg => ?_
  have KX := hY w _ Y
  obtain ⟨fd, hb, hF⟩ := F w mg fa _ KX G.T.g hmg
  exact law_call KX G.T.g G.T.b G.T.builtins G.T.nolimit hg hobj hints (Nat.le_trans hlen hn2) hr hF hb (fun H hO hS => hsp w H a ns hlen hO hS) fun H e s' => hCX w H s₁ e s'
end L2
/- THE LAST THEOREM (shape; LID, My.* are yours):
   My.Adr: a structure of the addresses that your layer names (classes, functions); My.Txt K t: a structure (Prop) of the equations over K;
   My.txt_mk : {K} {implicit addresses ..} (e1 : nsIn K mainGlobals "law" = some (some (.ref f))) (e2 : K.lookup f = some ⟨oc, od, .func (fnOf "law" "law" params body scope dV kV doc pm an cdv ct), sl⟩) (e3 : codeIn K cdv "law" = true) .. : ∃ t, My.Txt K t
set_option maxRecDepth 100000 in
set_option maxHeartbeats 0 in
theorem PySem.Challenge.cw_LID_holds : PySem.Challenge.rw_LID.Holds := by
  w_on; o_law; k_head; (case hw => w_witness2)
  k_fill
  refine L2.walk_of (l := PySem.Challenge.rw_LID) (n := 63) (k := 40) (x := "script") (CX := fun w => ..) (sp := fun _ => My.sp_law) rfl (by decide) rfl ⟨rfl, by decide, by decide⟩ (fun w h Y => PySem.W.kIn_of Y) ?F ?S ?C
  case F =>
    intro w mg fa h KX G hmg
    have T : ∃ t, My.Txt (L2.KOf KX) t := by
      dsimp only [L2.KOf]                          -- K must stand as «<heap const> w.params» for k_is
      refine' My.txt_mk ?e1 ?e2 ?e3 ..
      (case e1 => PySem.W.k_is)                    -- in the order: a name -> its address -> its object -> its parts
      (case e2 => PySem.W.k_is)
      ..
    obtain ⟨t, T⟩ := T
    have e0 := hmg.symm.trans (PySem.W.mg_of KX G T.law)
    cases e0                                       -- fa is the law's own address
    exact ⟨_, fun s u => .of_eq rfl, fun base kb nb => My.law_fn T kb nb⟩     -- if «.of_eq rfl» comes too early: refine' ⟨_, ?b, fun base kb nb => My.law_fn T kb nb⟩; exact fun s u => .of_eq rfl
  case S => exact fun w H a ns hl hO hS => ..
  case C => exact ..
(the tactic k_is has no namespace: write k_is) -/
namespace L2
open PySem PySem.Spec PyProof.Rows
def defArgs (s : Stmt) : Arguments := match s with
  | .FunctionDef _ a _ _ _ _ _ _ _ _ => a
  | _ => { posonlyargs := [], args := [], vararg := none, kwonlyargs := [], kw_defaults := [], kwarg := none, defaults := [] }
def defBody (s : Stmt) : List Stmt := match s with
  | .FunctionDef _ _ b _ _ _ _ _ _ _ => b
  | _ => []
def defScope (s : Stmt) : Scope := match s with
  | .FunctionDef _ _ _ _ _ _ sc _ _ _ => sc
  | _ => { kind := .function, names := [], isGenerator := false, isCoroutine := false }
abbrev CX0 : CXT := fun _ _ _ _ _ _ => False
abbrev E0 : XK := fun _ _ _ => False
theorem pass0 {X : Cx} : Passes CX0 X E0 := fun _ _ _ _ _ _ _ h => h.elim
structure Fun (K : PySem.W.Frag) (x qual : Str) (st : Stmt) (f : Addr) (fd : FuncData) : Prop where
  ex : ∃ (oc : Value) (od : Option Addr) (kV doc pm : Value) (an : Option Addr) (cdv ct : Value) (osl : Array (Option Value)),
    fd = PySem.W.fnOf x qual (defArgs st) (defBody st) (defScope st) .none kV doc pm an cdv ct ∧ K.lookup f = some ⟨oc, od, .func fd, osl⟩ ∧ PySem.W.codeIn K cdv qual = true
  kp : PySem.W.keepIn K (.ref f) = true
section
variable {P : Program} {w : World} {K : PySem.W.Frag} {mg : Str → Option Value} {base : Heap}
theorem Fun.ok {x qual : Str} {st : Stmt} {f : Addr} {fd : FuncData} {N ps : List Str} {k : Nat} {sp : Sp} (F : Fun K x qual st f fd) (S : FnScope N ps (defScope st)) (len : ∀ vs H Q E, sp vs H Q E → vs.length = ps.length)
    (hbody : ∀ (cdv : Value) (A : Around) (outer : List Env) (s : Shared) (H : Hp) (vs : List V) (Q : VK) (E : XK), Room k (A.deeper (envOfC qual (defScope st) s.heap.objs.size f cdv)) → sp vs H Q E →
      ∃ t, PSs (cxOf CX0 P w K mg base N qual (defScope st) f cdv A outer s H E).nox (defBody st) t ∧ t { nx := fun _ H' => Q .non H', rt := Q } (start N vs) H) : FnOk P w K mg base CX0 (k + 1) f fd ps sp := by
  obtain ⟨oc, od, kV, doc, pm, an, cdv, ct, osl, rfl, lk, hcd⟩ := F.ex
  refine fn_of lk hcd S len fun A outer s H vs Q E hr hsp => ?_
  obtain ⟨t, h, q⟩ := hbody cdv A outer s H vs Q E hr hsp
  exact ⟨t, h.nox, q⟩
theorem Fun.binds {x qual : Str} {st : Stmt} {f : Addr} {fd : FuncData} {ps : List Str} (F : Fun K x qual st f fd)
    (h : ∀ (kV doc pm : Value) (an : Option Addr) (cdv ct : Value) (us : List Value), us.length = ps.length → bindArgs (PySem.W.fnOf x qual (defArgs st) (defBody st) (defScope st) .none kV doc pm an cdv ct) ⟨us, []⟩ = pure (ps.zip us)) : Binds K fd ps [] := by
  obtain ⟨oc, od, kV, doc, pm, an, cdv, ct, osl, rfl, lk, hcd⟩ := F.ex
  exact .all (h kV doc pm an cdv ct)
theorem fun_mk {x qual : Str} {st : Stmt} {f : Addr} {oc : Value} {od an : Option Addr} {osl : Array (Option Value)} {kV doc pm cdv ct : Value} (l : K.lookup f = some ⟨oc, od, .func (PySem.W.fnOf x qual (defArgs st) (defBody st) (defScope st) .none kV doc pm an cdv ct), osl⟩)
    (c : PySem.W.codeIn K cdv qual = true) (k : PySem.W.keepIn K (.ref f) = true) : Fun K x qual st f (PySem.W.fnOf x qual (defArgs st) (defBody st) (defScope st) .none kV doc pm an cdv ct) := ⟨⟨oc, od, kV, doc, pm, an, cdv, ct, osl, rfl, l, c⟩, k⟩
end
section
variable {X : Cx}
theorem pv (i : Nat) {x : Str} {pos : Pos} (hN : X.N[i]? = some x := by rfl) (hv : Vis X.env.scope x := by first | exact Or.inl rfl | exact Or.inr (Or.inl rfl) | exact Or.inr (Or.inr rfl)) (hd : (x == ("__debug__" : Str)) = false := by decide)
    (hcd : (x == ("__classdict__" : Str)) = false := by decide) : PE X (.Name x pos) (tVar i) := pe_var hN hv hd hcd
end
def Same (H H' : Hp) : Prop := ∀ b o, H b = some o → H' b = some o
theorem Same.refl (H : Hp) : Same H H := fun _ _ h => h
theorem Same.trans {H H1 H2 : Hp} (a : Same H H1) (b : Same H1 H2) : Same H H2 := fun c o h => b c o (a c o h)
theorem Same.free {H H' : Hp} (e : Same H H') {l : Addr} (h : H' l = Option.none) : H l = Option.none := by
  cases q : H l with
  | none => rfl
  | some o =>
    rw [e l o q] at h
    cases h
theorem Same.seq {K : PySem.W.Frag} {H H' : Hp} {a : Addr} {xs : List V} (e : Same H H') (h : SqL K H a xs) : SqL K H' a xs := by
  rcases h with (h | ⟨o, h⟩) | h
  · exact .inl (.inl (e _ _ h))
  · exact .inl (.inr ⟨o, e _ _ h⟩)
  · exact .inr h
end L2
end
section
set_option Elab.async false
set_option linter.all false
set_option maxRecDepth 100000
namespace L2
open PySem PySem.Spec PyProof.Rows
def Bd (n : Nat) (x : Int) : Prop := x.natAbs < 2 ^ n
theorem Bd.mono {m n : Nat} {x : Int} (h : Bd m x) (k : m ≤ n) : Bd n x := Nat.lt_of_lt_of_le h (Nat.pow_le_pow_right (by decide) k)
theorem Bd.add {n : Nat} {x y : Int} (h : Bd n x) (k : Bd n y) : Bd (n + 1) (x + y) := by
  unfold Bd at *
  have := Int.natAbs_add_le x y
  rw [Nat.pow_succ]
  omega
theorem Bd.neg {n : Nat} {x : Int} (h : Bd n x) : Bd n (-x) := by
  unfold Bd at *
  rw [Int.natAbs_neg]; exact h
theorem Bd.sub {n : Nat} {x y : Int} (h : Bd n x) (k : Bd n y) : Bd (n + 1) (x - y) := by
  rw [Int.sub_eq_add_neg]; exact h.add k.neg
theorem Bd.bits {n : Nat} {x : Int} (h : Bd n x) : Builtin.Int.intBits x ≤ n + 1 := by
  unfold Builtin.Int.intBits
  split
  · exact Nat.zero_le _
  · have : x.natAbs.log2 ≤ n := by
      rcases Nat.eq_zero_or_pos x.natAbs with h0 | hp
      · rw [h0]; simp
      · exact Nat.le_of_lt ((Nat.log2_lt (Nat.ne_of_gt hp)).mpr h)
    omega
theorem Bd.log {n : Nat} {x : Int} (h : Bd n x) : x.natAbs.log2 ≤ n := by
  rcases Nat.eq_zero_or_pos x.natAbs with h0 | hp
  · rw [h0]; simp
  · exact Nat.le_of_lt ((Nat.log2_lt (Nat.ne_of_gt hp)).mpr h)
theorem Bd.of {n : Nat} {x m : Int} (h1 : -m ≤ x) (h2 : x ≤ m) (hm : m.natAbs < 2 ^ n) : Bd n x := by
  unfold Bd
  omega
section
variable {X : Cx}
def CMulB (i j : Int) : Prop := CMul i j ∨ (Bd 8000 i ∧ Bd 8000 j)
theorem CMulB.ok {i j : Int} (h : CMulB i j) : IntMulOk i j := by
  rcases h with h | ⟨h, k⟩
  · exact h.ok
  · have a := h.bits
    have b := k.bits
    have e : (2 : Nat) ^ 20 = 1048576 := by decide
    exact IntMulOk.of_bits (by omega) (by omega)
theorem op_mulB : OpR X (binaryOp .Mult) (rI CMulB fun i j => .int (i * j)) := opI fun _ _ _ _ _ _ _ hc q => mul_int q hc.ok
def CDivB (i j : Int) : Prop := 0 < j ∧ Bd 8000 j
theorem op_fdivB : OpR X (binaryOp .FloorDiv) (rI CDivB fun i j => .int (i / j)) := opI fun i j _ _ _ _ _ hc q => by
  have := hc.2.log
  rw [← Int.fdiv_eq_ediv_of_nonneg _ (Int.le_of_lt hc.1)] at q
  exact floordiv_int (by have := hc.1; omega) q (.inl (PyProof.noPylong_of_log2 (by omega)))
end
mutual
def Is (H : Hp) : PyData → V → Prop
  | .none, v => v = .non
  | .bool b, v => v = .bl b
  | .int i, v => v = .int i
  | .str x, v => v = .str x
  | .tuple ds, v => ∃ a vs, v = .ref a ∧ H a = some (.tup vs) ∧ IsL H ds vs
  | .list ds, v => ∃ a vs, v = .ref a ∧ H a = some (.lst vs) ∧ IsL H ds vs
  | .dict _, _ => False
def IsL (H : Hp) : List PyData → List V → Prop
  | [], vs => vs = []
  | d :: ds, vs => ∃ x xs, vs = x :: xs ∧ Is H d x ∧ IsL H ds xs
end
mutual
def fixD : PyData → Bool
  | .none => true
  | .bool _ => true
  | .int _ => true
  | .str _ => true
  | .tuple ds => fixDs ds
  | .list _ => false
  | .dict _ => false
def fixDs : List PyData → Bool
  | [] => true
  | d :: ds => fixD d && fixDs ds
end
def TSame (H H' : Hp) : Prop := ∀ b xs, H b = some (.tup xs) → H' b = some (.tup xs)
theorem TSame.refl (H : Hp) : TSame H H := fun _ _ h => h
theorem TSame.trans {H H1 H2 : Hp} (a : TSame H H1) (b : TSame H1 H2) : TSame H H2 := fun c o h => b c o (a c o h)
theorem Same.t {H H' : Hp} (h : Same H H') : TSame H H' := fun b xs e => h b _ e
mutual
theorem Is.mono {H H' : Hp} (s : Same H H') : ∀ {d : PyData} {v : V}, Is H d v → Is H' d v
  | .none, _, h => h
  | .bool _, _, h => h
  | .int _, _, h => h
  | .str _, _, h => h
  | .tuple _, _, ⟨a, vs, e, h, l⟩ => ⟨a, vs, e, s _ _ h, IsL.mono s l⟩
  | .list _, _, ⟨a, vs, e, h, l⟩ => ⟨a, vs, e, s _ _ h, IsL.mono s l⟩
  | .dict _, _, h => h
theorem IsL.mono {H H' : Hp} (s : Same H H') : ∀ {ds : List PyData} {vs : List V}, IsL H ds vs → IsL H' ds vs
  | [], _, h => h
  | _ :: _, _, ⟨x, xs, e, h, l⟩ => ⟨x, xs, e, Is.mono s h, IsL.mono s l⟩
end
mutual
theorem Is.monoT {H H' : Hp} (s : TSame H H') : ∀ {d : PyData} {v : V}, fixD d = true → Is H d v → Is H' d v
  | .none, _, _, h => h
  | .bool _, _, _, h => h
  | .int _, _, _, h => h
  | .str _, _, _, h => h
  | .tuple _, _, f, ⟨a, vs, e, h, l⟩ => ⟨a, vs, e, s _ _ h, IsL.monoT s f l⟩
  | .list _, _, f, _ => absurd f Bool.false_ne_true
  | .dict _, _, _, h => h
theorem IsL.monoT {H H' : Hp} (s : TSame H H') : ∀ {ds : List PyData} {vs : List V}, fixDs ds = true → IsL H ds vs → IsL H' ds vs
  | [], _, _, h => h
  | d :: ds, _, f, ⟨x, xs, e, h, l⟩ => ⟨x, xs, e, Is.monoT s (by rw [fixDs, Bool.and_eq_true] at f; exact f.1) h, IsL.monoT s (by rw [fixDs, Bool.and_eq_true] at f; exact f.2) l⟩
end
theorem IsL.length {H : Hp} : ∀ {ds : List PyData} {vs : List V}, IsL H ds vs → vs.length = ds.length
  | [], _, h => by rw [show _ = [] from h]; rfl
  | _ :: _, _, ⟨x, xs, e, _, l⟩ => by rw [e, List.length_cons, List.length_cons, IsL.length l]
section
variable {X : Cx} {pins : List (Addr × Obj)} {σ : St} {H : Hp} {s : Shared}
mutual
theorem Inv.reads (I : Inv X pins σ H s) : ∀ {d : PyData} {v : V} {u : Value}, Is H d v → RelV v u → ∃ as, Reads s.heap u d as
  | .none, _, _, h, r => by subst h; cases r; exact ⟨_, .none⟩
  | .bool _, _, _, h, r => by subst h; cases r; exact ⟨_, .bool _⟩
  | .int _, _, _, h, r => by subst h; obtain ⟨t, rfl⟩ := r; exact ⟨_, .int _ _⟩
  | .str _, _, _, h, r => by subst h; obtain ⟨t, rfl⟩ := r; exact ⟨_, .str _ _⟩
  | .tuple ds, _, _, ⟨a, vs, e, h, l⟩, r => by
    subst e; cases r
    obtain ⟨_, its, rr, o, e, c, n, q⟩ := I.hok a _ h
    obtain ⟨as, z⟩ := Inv.readsL I l rr
    exact ⟨_, .tuple e c q z⟩
  | .list ds, _, _, ⟨a, vs, e, h, l⟩, r => by
    subst e; cases r
    obtain ⟨_, its, n, rr, e⟩ := I.hok a _ h
    obtain ⟨as, z⟩ := Inv.readsL I l rr
    exact ⟨_, .list e rfl rfl z⟩
  | .dict _, _, _, h, _ => h.elim
theorem Inv.readsL (I : Inv X pins σ H s) : ∀ {ds : List PyData} {vs : List V} {us : List Value}, IsL H ds vs → Vals vs us → ∃ as, ReadsAll s.heap us ds as
  | [], _, _, h, r => by subst h; cases r; exact ⟨_, .nil⟩
  | d :: ds, _, _, ⟨x, xs, e, h, l⟩, r => by
    subst e
    cases r with
    | cons r1 r2 =>
      obtain ⟨as, z⟩ := Inv.reads I h r1
      obtain ⟨bs, y⟩ := Inv.readsL I l r2
      exact ⟨_, .cons z y⟩
end
end
def okD (d : PyData) : Bool := SeqAt.shaped d
section
variable {X : Cx}
def rInD (neg : Bool) : R2 := fun x y H Q => ∃ d es, Is H d x ∧ (Is H (.list es) y ∨ Is H (.tuple es) y) ∧ okD d = true ∧ okD (.list es) = true ∧ Q (.bl (if neg then !(es.any fun y => PyData.eqv y d) else es.any fun y => PyData.eqv y d)) H
theorem shaped_list {es : List PyData} (h : okD (.list es) = true) : PyData.canLayAll0 es = true ∧ PyData.depthAll es ≤ 63 := by
  unfold okD SeqAt.shaped at h
  rw [Bool.and_eq_true] at h
  obtain ⟨h1, h2⟩ := h
  have h3 := of_decide_eq_true h2
  simp only [PyData.depth] at h3
  exact ⟨by simpa only [PyData.canLay0] using h1, by omega⟩
theorem shaped_can {d : PyData} (h : okD d = true) : d.canLay0 = true := by
  unfold okD SeqAt.shaped at h
  rw [Bool.and_eq_true] at h
  exact h.1
theorem op_notInD (hu : X.A.units + 65 < cLine) : OpR X (compareOp .NotIn) (rInD true) := by
  intro pins s σ H x y v u Q I rx ry h
  obtain ⟨d, es, hd, he, od, oe, q⟩ := h
  obtain ⟨as, ra⟩ := I.reads hd rx
  obtain ⟨c1, c2⟩ := shaped_list oe
  have hm : X.A.units + 1 + min (PyData.depthAll es) d.depth < cLine := by omega
  rcases he with he | he
  · obtain ⟨bs, rb⟩ := I.reads he ry
    exact SeqAt.notIn_list_reads rb ra c1 (shaped_can od) hm ⟨.bl _, H, I, rfl, q⟩
  · obtain ⟨bs, rb⟩ := I.reads he ry
    exact SeqAt.notIn_tuple_reads rb ra c1 (shaped_can od) hm ⟨.bl _, H, I, rfl, q⟩
theorem IsL.get {H : Hp} : ∀ {ds : List PyData} {vs : List V} {i : Nat} {d : PyData}, IsL H ds vs → ds[i]? = some d → ∃ v, vs[i]? = some v ∧ Is H d v
  | [], _, _, _, _, e => by simp at e
  | d :: ds, _, 0, _, ⟨x, xs, e, h, l⟩, q => by
    subst e
    simp at q
    subst q
    exact ⟨x, rfl, h⟩
  | d :: ds, _, i + 1, _, ⟨x, xs, e, h, l⟩, q => by
    subst e
    obtain ⟨v, a, b⟩ := IsL.get (i := i) l (by simpa using q)
    exact ⟨v, by simpa using a, b⟩
end
structure Cal (P : Program) (w : World) (K : PySem.W.Frag) (mg : Str → Option Value) (base : Heap) (k : Nat) (x : Str) (ps : List Str) (sp : Sp) : Prop where
  ex : ∃ f fd, FnOk P w K mg base CX0 k f fd ps sp ∧ Binds K fd ps [] ∧ PySem.W.keepIn K (.ref f) = true ∧ mg x = some (.ref f)
theorem Cal.mono {P : Program} {w : World} {K : PySem.W.Frag} {mg : Str → Option Value} {base : Heap} {j k : Nat} {x : Str} {ps : List Str} {sp : Sp} (C : Cal P w K mg base j x ps sp) (h : j ≤ k) : Cal P w K mg base k x ps sp := by
  obtain ⟨f, fd, F, b, kp, m⟩ := C.ex
  exact ⟨f, fd, F.mono h, b, kp, m⟩
theorem Cal.of {P : Program} {w : World} {K : PySem.W.Frag} {mg : Str → Option Value} {base : Heap} {k : Nat} {x : Str} {ps : List Str} {sp : Sp} {f : Addr} {fd : FuncData} {st : Stmt} (F : Fun K x x st f fd) (ok : FnOk P w K mg base CX0 k f fd ps sp) (b : Binds K fd ps []) (m : mg x = some (.ref f)) : Cal P w K mg base k x ps sp := ⟨f, fd, ok, b, F.kp, m⟩
section
variable {X : Cx} {k : Nat} {ps : List Str} {sp : Sp} {x : Str} {p pos : Pos} {e : Expr} {es : List Expr} {t : TA}
theorem pe_callC (C : Cal X.prog X.w X.K X.mg X.base k x ps sp) (hr : Room k X.A) (hg : Gl X x) (ha : PA X (e :: es) t) (hdb : (x == ("__debug__" : Str)) = false := by decide)
    (he : starEach (e :: es) X.env = (false, eval e X.env) :: starEach es X.env := by rfl) (hpl : (backTo pos (starEach es X.env)).any (·.1) = false := by rfl) :
    PE X (.Call (.Name x p) (e :: es) [] pos) (tCall sp [] E0 t) := by
  obtain ⟨f, fd, F, b, kp, m⟩ := C.ex
  exact pe_call F hr hg m kp b .nil pass0 ha hdb he hpl
end
theorem pe_ty {X : Cx} {x : Str} {T : String} {pos : Pos} (hg : Gl X x) (hm : X.mg x = none) (hv : bootBuiltins x = some (.type T)) (hn : x ≠ "__name__") (hd : (x == ("__debug__" : Str)) = false) : PE X (.Name x pos) (tC (.ty T)) := pe_bltn hg hm hv rfl hn hd
theorem same_new {H : Hp} {p : Addr} (h : H p = none) (o : HO) : Same H (upd H p o) := fun b u q => by rw [upd_ne (ne_of_none q h)]; exact q
def But (r : Addr) (H H' : Hp) : Prop := ∀ b o, b ≠ r → H b = some o → H' b = some o
theorem Same.but {H H' : Hp} (h : Same H H') (r : Addr) : But r H H' := fun b o _ e => h b o e
theorem But.trans {r : Addr} {H H1 H2 : Hp} (a : But r H H1) (b : But r H1 H2) : But r H H2 := fun c o n h => b c o n (a c o n h)
theorem But.upd {H : Hp} {r : Addr} {o : HO} : But r H (L2.upd H r o) := fun b u n e => by rw [upd_ne n]; exact e
theorem But.t {r : Addr} {H H' : Hp} (h : But r H H') {o : HO} (hr : H r = some o) (no : ∀ xs, o ≠ .tup xs) : TSame H H' := fun b xs e => h b _ (fun z => by subst z; rw [hr] at e; exact no xs (Option.some.inj e)) e
def Rest (H : Hp) (r : Addr) : Prop := ∃ v : Int, H r = some (.lst [.int v])
theorem Rest.t {r : Addr} {H H' : Hp} (R : Rest H r) (h : But r H H') : TSame H H' := by
  obtain ⟨v, e⟩ := R
  exact h.t e fun xs z => by cases z
theorem Rest.mono {r : Addr} {H H' : Hp} (R : Rest H r) (h : Same H H') : Rest H' r := by
  obtain ⟨v, e⟩ := R
  exact ⟨v, h _ _ e⟩
theorem kit_same {K : PySem.W.Frag} (T : String) : PySem.W.kitOne K (.type T) (.type T) = some true := by
  unfold PySem.W.kitOne
  rw [if_pos (beq_self_eq_true _)]
theorem kit_ty {K : PySem.W.Frag} {t T : String} {b : Bool} (h1 : (Value.type t == Value.type T) = false) (h2 : PySem.W.kitMeta T = true) (h3 : (PySem.fastBuiltinMro t).map (·.contains (Value.type T)) = some b) : PySem.W.kitOne K (.type t) (.type T) = some b := by
  unfold PySem.W.kitOne PySem.W.kitCls
  rw [h1, if_neg Bool.false_ne_true]
  simp only [h2, if_true]
  exact h3
end L2
end
section
set_option Elab.async false
set_option linter.all false
set_option maxRecDepth 100000
namespace L2
open PySem PySem.Spec PyProof.Rows
theorem clos_go {env : Env} : ∀ (names : List (Str × NameKind)) (cs : List (Str × Addr)), (∀ x, (x, NameKind.free) ∈ names → ∃ c, env.cells.lookup x = some c) →
    (∀ x c, cs.lookup x = some c → env.cells.lookup x = some c) →
    ∃ cl, (forIn names cs fun (x : Str × NameKind) (r : List (Str × Addr)) => match x with
      | (name, kind) => if (kind == NameKind.free) = true then do let c ← cellOf env name; pure (ForInStep.yield ((name, c) :: r)) else pure (ForInStep.yield r) : Sem (List (Str × Addr))) = pure cl ∧
      (∀ x c, cl.lookup x = some c → env.cells.lookup x = some c) ∧ (∀ x, (x, NameKind.free) ∈ names → ∃ c, cl.lookup x = some c) ∧ (∀ x c, cs.lookup x = some c → ∃ c', cl.lookup x = some c')
  | [], cs, _, h2 => ⟨cs, rfl, h2, fun x hx => by simp at hx, fun x c e => ⟨c, e⟩⟩
  | (n, k) :: r, cs, h1, h2 => by
    by_cases hk : k = .free
    · subst hk
      obtain ⟨c, hc⟩ := h1 n List.mem_cons_self
      have hh : ∀ x c', ((n, c) :: cs).lookup x = some c' → env.cells.lookup x = some c' := by
        intro x c' e
        rw [List.lookup_cons] at e
        cases q : x == n with
        | true => rw [q] at e; cases e; rw [eq_of_beq q]; exact hc
        | false => rw [q] at e; exact h2 x c' e
      obtain ⟨cl, e, a, b, d⟩ := clos_go (env := env) r ((n, c) :: cs) (fun x hx => h1 x (List.mem_cons_of_mem _ hx)) hh
      refine ⟨cl, ?_, a, fun x hx => ?_, fun x c' e' => ?_⟩
      · rw [List.forIn_cons]
        have ec : cellOf env n = pure c := by
          unfold cellOf
          rw [hc]
        simp only [beq_self_eq_true, if_true]
        rw [ec]
        exact e
      · rcases List.mem_cons.mp hx with z | z
        · cases z
          exact d n c (by rw [List.lookup_cons, beq_self_eq_true])
        · exact b x z
      · cases q : x == n with
        | true => exact d x c (by rw [List.lookup_cons, q])
        | false => exact d x c' (by rw [List.lookup_cons, q]; exact e')
    · obtain ⟨cl, e, a, b, d⟩ := clos_go (env := env) r cs (fun x hx => h1 x (List.mem_cons_of_mem _ hx)) h2
      refine ⟨cl, ?_, a, fun x hx => ?_, d⟩
      · rw [List.forIn_cons]
        have hb : (k == NameKind.free) = false := by simpa using hk
        simp only [hb, Bool.false_eq_true, if_false]
        exact e
      · rcases List.mem_cons.mp hx with z | z
        · cases z; exact absurd rfl hk
        · exact b x z
theorem clos_of {env : Env} {scope : Scope} (h : ∀ x, (x, NameKind.free) ∈ scope.names → ∃ c, env.cells.lookup x = some c) :
    ∃ cl, closureFor scope env = pure cl ∧ (∀ x c, cl.lookup x = some c → env.cells.lookup x = some c) ∧ (∀ x, (x, NameKind.free) ∈ scope.names → ∃ c, cl.lookup x = some c) := by
  obtain ⟨cl, e, a, b, _⟩ := clos_go (env := env) scope.names [] h (fun x c e => by simp at e)
  refine ⟨cl, ?_, a, b⟩
  exact (congrArg (fun m : Sem (List (Str × Addr)) => m >>= fun r => (pure r : Sem (List (Str × Addr)))) e).trans rfl
theorem comp_loop {prog : Program} {w : World} {A : Around} {R : Result → Shared → Prop} {s : Shared} {elt target iter : Expr} {ifs : List Expr} {scope : Scope} {pos : Pos} {it acc : Value} {env : Env} (I : Nat → Shared → Prop)
    (turn : ∀ n s, I n s → wpAny (model prog w) A (pyNext it) (fun r s₁ => match r with
      | none => R (.ok .next) s₁
      | some v => wpAny (model prog w) A (letOwnedTupleGo target it v) (fun _ s₁ => wpAny (model prog w) A (assign target env v) (fun _ s₂ =>
          wpAny (model prog w) A (forIn ifs true fun c r => if r = true then do let ok ← isTrue c env (eval c env); pure (ForInStep.yield ok) else pure (ForInStep.yield r)) (fun ok s₃ =>
            if ok = true then wpAny (model prog w) A (eval elt env) (fun x s₄ =>
              wpAny (model prog w) A (call (.builtin "list.append") [acc, x]) (fun _ s₅ => ∃ m, m < n ∧ I m s₅) (fun _ _ => False) s₄) (fun _ _ => False) s₃
            else ∃ m, m < n ∧ I m s₃) (fun _ _ => False) s₂) (fun _ _ => False) s₁) (fun _ _ => False) s₁) (fun _ _ => False) s)
    (n : Nat) (h : I n s) :
    codeAny (model prog w) A (.compLoop (.ListComp elt [⟨target, iter, ifs, 0⟩] scope pos) 0 it acc env) R s := by
  refine codeAny_loop rfl I (fun n s hI => ?_) n h
  show wpAny _ A ((compTurn (.ListComp elt [⟨target, iter, ifs, 0⟩] scope pos) 0 it acc env).onRaise (fun x => do noteFrame x env; theTreesLotGoes x)) _ _ s
  refine wpAny_noted ?_
  rw [compTurn_list]
  refine wpAny_bind (wpAny_standAt (wpAny_bind (wpAny_mono (turn n s hI) (fun r s₁ h₁ => ?_) fun _ _ h' => h'.elim)))
  cases r with
  | none => exact wpAny_pure h₁
  | some v =>
    refine wpAny_bind (wpAny_mono h₁ (fun _ s₁ h₁ => ?_) fun _ _ h' => h'.elim)
    refine wpAny_bind (wpAny_mono h₁ (fun _ s₂ h₂ => wpAny_bind (wpAny_mono h₂ (fun ok s₃ h₃ => ?_) fun _ _ h' => h'.elim)) fun _ _ h' => h'.elim)
    cases ok with
    | false => exact wpAny_pure ⟨rfl, h₃⟩
    | true =>
      exact wpAny_bind (wpAny_bind (wpAny_mono h₃ (fun x s₄ h₄ => wpAny_bind (wpAny_mono h₄ (fun _ s₅ h₅ => wpAny_pure (wpAny_pure ⟨rfl, h₅⟩)) fun _ _ h' => h'.elim)) fun _ _ h' => h'.elim))
theorem relabel_go {env : Env} : ∀ {names : List (Str × NameKind)} {x : Str} {k : NameKind}, names.lookup x = some k →
    (names.map fun (n, k) => if (k == NameKind.free && env.scope.kind == .function && env.kindOf n == some .cell) then (n, NameKind.cell) else (n, k)).lookup x = some k ∨
    (k = .free ∧ (names.map fun (n, k) => if (k == NameKind.free && env.scope.kind == .function && env.kindOf n == some .cell) then (n, NameKind.cell) else (n, k)).lookup x = some .cell)
  | [], _, _, h => by simp at h
  | (n, k') :: r, x, k, h => by
    rw [List.map_cons]
    dsimp only
    cases hx : x == n with
    | true =>
      simp only [List.lookup_cons, hx] at h
      have e : k = k' := (Option.some.inj h).symm
      subst e
      by_cases hc : (k == NameKind.free && env.scope.kind == .function && env.kindOf n == some .cell) = true
      · rw [if_pos hc]
        refine .inr ⟨?_, by simp only [List.lookup_cons, hx]⟩
        simp only [Bool.and_eq_true] at hc
        exact eq_of_beq hc.1.1
      · rw [if_neg hc]
        exact .inl (by simp only [List.lookup_cons, hx])
    | false =>
      simp only [List.lookup_cons, hx] at h
      have ih := @relabel_go env r x k h
      by_cases hc : (k' == NameKind.free && env.scope.kind == .function && env.kindOf n == some .cell) = true
      · rw [if_pos hc]; simp only [List.lookup_cons, hx]; exact ih
      · rw [if_neg hc]; simp only [List.lookup_cons, hx]; exact ih
theorem relabel_back {env : Env} : ∀ {names : List (Str × NameKind)} {x : Str} {k : NameKind}, (∀ y ∈ names, y.2 ≠ .cell) →
    (names.map fun (n, k) => if (k == NameKind.free && env.scope.kind == .function && env.kindOf n == some .cell) then (n, NameKind.cell) else (n, k)).lookup x = some k → (k = .cell ∨ k = .free) → (x, NameKind.free) ∈ names
  | [], _, _, _, h, _ => by simp at h
  | (n, k') :: r, x, k, nc, h, hk => by
    rw [List.map_cons] at h
    dsimp only at h
    cases hx : x == n with
    | true =>
      have e := eq_of_beq hx
      subst e
      by_cases hc : (k' == NameKind.free && env.scope.kind == .function && env.kindOf x == some .cell) = true
      · simp only [Bool.and_eq_true] at hc
        rw [eq_of_beq hc.1.1]
        exact List.mem_cons_self
      · rw [if_neg hc, List.lookup_cons, hx] at h
        cases h
        rcases hk with rfl | rfl
        · exact absurd rfl (nc _ List.mem_cons_self)
        · exact List.mem_cons_self
    | false =>
      refine List.mem_cons_of_mem _ (relabel_back (env := env) (fun y hy => nc y (List.mem_cons_of_mem _ hy)) ?_ hk)
      by_cases hc : (k' == NameKind.free && env.scope.kind == .function && env.kindOf n == some .cell) = true
      · rw [if_pos hc, List.lookup_cons, hx] at h; exact h
      · rw [if_neg hc, List.lookup_cons, hx] at h; exact h
theorem rl_local {scope : Scope} {env : Env} {x : Str} (h : scope.names.lookup x = some .local) : (relabel scope env).names.lookup x = some .local := lookup_relabel_local h
theorem rl_glob {scope : Scope} {env : Env} {x : Str} (h : scope.names.lookup x = some .globalImplicit) : (relabel scope env).names.lookup x = some .globalImplicit := by
  rcases relabel_go (env := env) h with z | ⟨z, _⟩
  · exact z
  · cases z
theorem rl_free {scope : Scope} {env : Env} {x : Str} (h : scope.names.lookup x = some .free) : (relabel scope env).names.lookup x = some .cell ∨ (relabel scope env).names.lookup x = some .free := by
  rcases relabel_go (env := env) h with z | ⟨_, z⟩
  · exact .inr z
  · exact .inl z
theorem vis_local {scope : Scope} {env : Env} {x : Str} (h : scope.names.lookup x = some .local) : Vis (relabel scope env) x := .inl (rl_local h)
theorem vis_free {scope : Scope} {env : Env} {x : Str} (h : scope.names.lookup x = some .free) : Vis (relabel scope env) x := (rl_free h).elim (fun z => .inr (.inl z)) fun z => .inr (.inr z)
theorem loc_local {scope : Scope} {env : Env} {x : Str} (h : scope.names.lookup x = some .local) : Loc (relabel scope env) x := .inl (rl_local h)
def blk (own : Nat) (fr : List Nat) (σ : St) : St := List.replicate own none ++ fr.map fun j => (σ[j]?).join
def cxC (X : Cx) (N' : List Str) (scope : Scope) (cl : List (Str × Addr)) (fp : List Addr) (s3 : Shared) (H3 : Hp) : Cx := { X with
  N := N', s₀ := s3, H₀ := H3, env := compEnvC scope cl s3.heap.objs.size X.env, outer := X.stack, stack := X.stack, ex := fp, fn := fun _ => false, pn := [], xe := fun _ _ => False }
structure LcOk (X : Cx) (N' : List Str) (own : Nat) (fr : List Nat) (scope : Scope) : Prop where
  kind : scope.kind = .function
  len : N'.length = own + fr.length
  cell : ∀ y ∈ scope.names, y.2 ≠ .cell
  names : ∀ y ∈ scope.names, y.2 = .local → scope.names.lookup y.1 = some .local
  free : ∀ x, (x, NameKind.free) ∈ scope.names → X.env.scope.names.lookup x = some .cell ∨ X.env.scope.names.lookup x = some .free
  slot : ∀ k j, fr[k]? = some j → ∃ x, N'[own + k]? = some x ∧ X.N[j]? = some x ∧ scope.names.lookup x = some .free
theorem blk_get {own : Nat} {fr : List Nat} {σ : St} {i : Nat} {v : V} (h : (blk own fr σ)[i]? = some (some v)) : ∃ k j, i = own + k ∧ fr[k]? = some j ∧ σ[j]? = some (some v) := by
  unfold blk at h
  by_cases hi : i < own
  · rw [List.getElem?_append_left (by simpa using hi), List.getElem?_replicate, if_pos hi] at h
    cases h
  · rw [List.getElem?_append_right (by simpa using hi), List.length_replicate, List.getElem?_map] at h
    cases e : fr[i - own]? with
    | none => rw [e] at h; cases h
    | some j =>
      rw [e] at h
      simp only [Option.map_some, Option.some.injEq] at h
      refine ⟨i - own, j, by omega, e, ?_⟩
      cases q : σ[j]? with
      | none => rw [q] at h; cases h
      | some o => rw [q] at h; cases o with
        | none => cases h
        | some u => cases h; rfl
section
variable {X : Cx} {N' : List Str} {own : Nat} {fr : List Nat} {scope : Scope}
theorem inv_blk {pins : List (Addr × Obj)} {σ : St} {H3 : Hp} {s3 : Shared} {cl : List (Str × Addr)} {fp : List Addr} {h4 : Heap} {tk : Nat} (ok : LcOk X N' own fr scope) (I : Inv X pins σ H3 s3) (f2 : ∀ b ∈ fp, FpOk X pins H3 b) (flt : ∀ b ∈ fp, b < s3.heap.objs.size)
    (cl1 : ∀ x c, cl.lookup x = some c → X.env.cells.lookup x = some c) (cl2 : ∀ x, (x, NameKind.free) ∈ scope.names → ∃ c, cl.lookup x = some c)
    (m4 : Str → Option Value) (n4 : h4.Ns s3.heap.objs.size m4) (k4 : ∀ b o, s3.heap.get? b = some o → h4.get? b = some o) :
    Inv (cxC X N' scope cl fp s3 H3) [] (blk own fr σ) H3 { s3 with heap := h4, toks := tk } := by
  have stk : ∀ b, b ∈ frs X.stack → b ∈ X.env.locals :: X.fs := I.stkSub
  have exfs : ∀ b ∈ fp, b ∉ frs X.stack := fun b hb z => by
    rcases List.mem_cons.mp (stk b z) with e | e
    · exact (f2 b hb).2.1 e
    · exact (f2 b hb).2.2.1 e
  have okk : (cxC X N' scope cl fp s3 H3).Ok := by
    refine ⟨I.ok.mod, ok.kind, I.ok.glob, I.ok.blt, Nat.le_refl _, fun x y c e1 e2 => I.ok.inj x y c (cl1 x c e1) (cl1 y c e2), fun x hx => ?_, fun x c hf => ?_, I.ok.hd, I.ok.frames, .inl rfl, fun b hb => ⟨Nat.ne_of_lt (flt b hb), fun x c e => (f2 b hb).2.2.2.2.1 x c (cl1 x c e)⟩,
      I.bs, Nat.le_trans I.ok.bsz I.sz, fun b o e hb => ?_, exfs, I.stack, I.stkFree⟩
    · refine cl2 x ?_
      have hx : (relabel scope X.env).names.lookup x = some .cell ∨ (relabel scope X.env).names.lookup x = some .free := hx
      rcases hx with hx | hx
      · exact relabel_back (env := X.env) ok.cell hx (.inl rfl)
      · exact relabel_back (env := X.env) ok.cell hx (.inr rfl)
    · exact absurd (show false = true from hf) Bool.false_ne_true
    · rcases (f2 b hb).2.2.2.1 with z | z
      · exact I.ok.noex b o e z
      · exact absurd (Nat.lt_of_lt_of_le (Heap.lt_size e) (Nat.le_trans I.ok.bsz z)) (Nat.lt_irrefl _)
  refine ⟨okk, rfl, I.bare, Un.kept k4, ⟨m4, n4, fun i x v e1 e2 e3 => ?_⟩, fun x c e => ?_, I.hok.fresh (Nat.le_refl _), fun x c e => I.freeC x c (cl1 x c e), fun p hp => absurd (show p ∈ ([] : List (Addr × Obj)) from hp) (by simp), I.hok.kept k4, ?_⟩
  · obtain ⟨k, j, rfl, ej, es⟩ := blk_get e2
    obtain ⟨y, y1, y2, y0⟩ := ok.slot k j ej
    have y3 := PySem.mem_of_lookup y0
    rw [show (cxC X N' scope cl fp s3 H3).N = N' from rfl, y1] at e1
    cases e1
    obtain ⟨m, hn, hl⟩ := I.loc
    have vis : Vis X.env.scope x := (ok.free x y3).elim (fun z => .inr (.inl z)) fun z => .inr (.inr z)
    obtain ⟨u, r, l⟩ := hl j x v y2 es vis
    refine ⟨u, r, ?_⟩
    rcases l with ⟨l, _⟩ | ⟨_, c, ec, z⟩
    · exfalso
      have l' : X.env.scope.names.lookup x = some .local := l
      rcases ok.free x y3 with q | q
      · rw [q] at l'; cases l'
      · rw [q] at l'; cases l'
    · obtain ⟨c', ec'⟩ := cl2 x y3
      have := cl1 x c' ec'
      rw [ec] at this
      cases this
      obtain ⟨o, ho, hd⟩ := z
      refine .inr ⟨?_, c, ec', ⟨o, k4 c o ho, hd⟩⟩
      rcases e3 with z | z | z
      · exfalso
        have z' : (relabel scope X.env).names.lookup x = some .local := z
        rcases rl_free (env := X.env) y0 with q | q
        · rw [z'] at q; cases q
        · rw [z'] at q; cases q
      · exact .inl z
      · exact .inr z
  · obtain ⟨v, o, ho, hd⟩ := I.cell x c (cl1 x c e)
    exact ⟨v, o, k4 c o ho, hd⟩
  · show (blk own fr σ).length = N'.length
    unfold blk
    rw [List.length_append, List.length_replicate, List.length_map, ok.len]
end
end L2
end
section
set_option Elab.async false
set_option linter.all false
set_option maxRecDepth 100000
namespace L2
open PySem PySem.Spec PyProof.Rows
def PTs (X : Cx) (ifs : List Expr) (tc : TT) : Prop :=
  ∀ (pins : List (Addr × Obj)) (s : Shared) (σ : St) (H : Hp) (Q : Bool → Hp → Prop), Inv X pins σ H s → tc σ H Q → wpAny (model X.prog X.w) X.A (forIn ifs true fun c r => if r = true then do let ok ← isTrue c X.env (eval c X.env); pure (ForInStep.yield ok) else pure (ForInStep.yield r)) (TP X pins σ Q) X.xe s
theorem pts_one {X : Cx} {c : Expr} {tc : TT} (h : PT X c tc) : PTs X [c] tc := fun pins s σ H Q I hq => wpAny_tests_one (h pins s σ H Q I hq)
def lcGo (own : Nat) (fr : List Nat) (g : TG) (tc : TT) (te : TE) (J : It) (σ : St) (H1 : Hp) (Q : VK) : Prop := ∀ D, H1 D = none → ∃ W : Nat → Nat → List V → St → Hp → Prop, (∃ m, W 0 m [] (blk own fr σ) (upd H1 D (.lst []))) ∧ ∀ i m ys σ' H', W i m ys σ' H' →
  (J.stop i H' ∧ Q (.ref D) H') ∨ (J.go i H' ∧ ∀ x H2, J.yld i H' x H2 → g x σ' H2 fun σ3 H3 => tc σ3 H3 fun b H4 => if b = true then te σ3 H4 fun y H5 => H5 D = some (.lst ys) ∧ ys.length < sizeLine ∧ ∃ m', m' < m ∧ W (i + 1) m' (ys ++ [y]) σ3 (upd H5 D (.lst (ys ++ [y])))
    else ∃ m', m' < m ∧ W (i + 1) m' ys σ3 H4)
def tLC (own : Nat) (fr : List Nat) (wi : TI) (g : TG) (tc : TT) (te : TE) : TE := fun σ H Q => wi σ H fun J H1 => lcGo own fr g tc te J σ H1 Q
structure Own (X : Cx) (pins : List (Addr × Obj)) (C : Addr) (H : Hp) (s : Shared) : Prop where
  ns : ∃ m, s.heap.Ns C m
  hn : H C = none
  ne : C ≠ X.env.locals
  ab : X.s₀.heap.objs.size ≤ C
  nc : ∀ x c, X.env.cells.lookup x = some c → c ≠ C
  np : ∀ p ∈ X.pn ++ pins, p.1 ≠ C
section
variable {X : Cx} {N' : List Str} {own : Nat} {fr : List Nat} {scope : Scope} {elt tg iter : Expr} {ifs : List Expr} {pos : Pos}
theorem Own.go {pins : List (Addr × Obj)} {σ : St} {H : Hp} {s : Shared} {C : Addr} {h' : Heap} (O : Own X pins C H s) (I : Inv X pins σ H s) (sb : Heap.SameBut C s.heap h') : Inv X pins σ H { s with heap := h' } :=
  I.turned (t' := s.toks) (fun b o hb e => sb.extBut b o hb e) O.hn O.ne (.inr O.ab) O.nc O.np
theorem comp_run {pins : List (Addr × Obj)} {σ : St} {H2 : Hp} {s2 : Shared} {J : It} {fp : List Addr} {it : Addr} {tn : Nat → Heap → Prop} {cl : List (Str × Addr)} {Q : VK} {g : TG} {tc : TT} {te : TE} {RR : Value → Addr → Result → Shared → Prop} {E : Value → Shared → Prop}
    (hc : X.calm = true) (ok : LcOk X N' own fr scope) (I2 : Inv X pins σ H2 s2) (T : Turn X.prog X.w X.K tg J fp it tn) (st2 : tn 0 s2.heap) (f2 : ∀ b ∈ fp, FpOk X pins H2 b)
    (cl1 : ∀ x c, cl.lookup x = some c → X.env.cells.lookup x = some c) (cl2 : ∀ x, (x, NameKind.free) ∈ scope.names → ∃ c, cl.lookup x = some c)
    (hg : ∀ fp s3 H3, PG (cxC X N' scope cl fp s3 H3) tg g) (ht : ∀ fp s3 H3, PTs (cxC X N' scope cl fp s3 H3) ifs tc) (he : ∀ fp s3 H3, PE (cxC X N' scope cl fp s3 H3) elt te)
    (h : lcGo own fr g tc te J σ H2 Q)
    (fin : ∀ D C s' H', Inv X pins σ H' s' → Own X pins C H' s' → Q (.ref D) H' → RR (.ref D) C (.ok .next) s') :
    wpAny (model X.prog X.w) X.A (newList []) (fun acc s₃ => wpAny (model X.prog X.w) X.A (newFunctionEnv scope X.env.globals cl [] X.env.qual none .none (some X.env)) (fun cenv s₄ =>
      codeAny (model X.prog X.w) X.A (.compStart (.ListComp elt [⟨tg, iter, ifs, 0⟩] scope pos) 0 (.ref it) acc { cenv with scope := relabel scope X.env }) (RR acc cenv.locals) s₄) E s₃) E s2 := by
  obtain ⟨W, ⟨m0, w0⟩, turn⟩ := h s2.heap.objs.size (I2.hok.fresh (Nat.le_refl _))
  refine wpAny_newObj_type (wpAny_newFunctionEnv ok.cell (by intro y hy; simp at hy) (fun h₁ hns₁ hsb₁ => ?_) ok.kind)
  dsimp only at hns₁ hsb₁ ⊢
  have I3 : Inv X pins σ (upd H2 s2.heap.objs.size (.lst [])) { s2 with heap := s2.heap.push { cls := .type "list", dict := none, data := .seq ([] : List Value).toArray } } :=
    I2.laid (t' := s2.toks) (fun b u e => Heap.get?_push_of_some _ e) (Nat.le_refl _) ⟨Nat.zero_le _, [], 0, .nil, Heap.get?_push_size _ rfl⟩
  generalize hH3 : upd H2 s2.heap.objs.size (.lst []) = H3 at w0 I3
  generalize hS3 : ({ s2 with heap := s2.heap.push { cls := .type "list", dict := none, data := .seq ([] : List Value).toArray } } : Shared) = S3 at I3
  have e3 : s2.heap.push { cls := .type "list", dict := none, data := .seq ([] : List Value).toArray } = S3.heap := by rw [← hS3]
  have k23 : ∀ b o, s2.heap.get? b = some o → S3.heap.get? b = some o := fun b o e => by rw [← e3]; exact Heap.get?_push_of_some _ e
  rw [e3] at hns₁ hsb₁ ⊢
  have st3 : tn 0 S3.heap := T.keep _ _ _ st2 fun b _ o e => k23 b o e
  have flt : ∀ b ∈ fp, b < S3.heap.objs.size := fun b hb => by
    obtain ⟨o, e, _⟩ := T.obj _ _ st3 b hb
    exact Heap.lt_size e
  have flt2 : ∀ b ∈ fp, b < s2.heap.objs.size := fun b hb => by
    obtain ⟨o, e, _⟩ := T.obj _ _ st2 b hb
    exact Heap.lt_size e
  have f3 : ∀ b ∈ fp, FpOk X pins H3 b := fun b hb => by
    refine ⟨?_, (f2 b hb).2⟩
    rw [← hH3, upd_ne (Nat.ne_of_lt (flt2 b hb))]
    exact (f2 b hb).1
  have k34 : ∀ b o, S3.heap.get? b = some o → h₁.get? b = some o := fun b o e => hsb₁.extBut b o (Nat.ne_of_lt (Heap.lt_size e)) (Heap.get?_push_of_some _ e)
  have I4 : Inv (cxC X N' scope cl fp S3 H3) [] (blk own fr σ) H3 { S3 with heap := h₁, toks := s2.toks + ([] : List (Str × Value)).length } := inv_blk ok I3 f3 flt cl1 cl2 _ hns₁ k34
  have st4 : tn 0 h₁ := T.keep _ _ _ st3 fun b _ o e => k34 b o e
  -- back in the def
  have back : ∀ {σ' H' s'}, Inv (cxC X N' scope cl fp S3 H3) [] σ' H' s' → Inv X pins σ H' s' ∧ Own X pins S3.heap.objs.size H' s' := fun {σ' H' s'} I' => by
    have J1 : Inv X pins σ H' s' := I3.call' I'.os I'.base I'.hok I'.bare fun b hb => ⟨(f3 b hb).2.2.2.1, (f3 b hb).2.1, (f3 b hb).2.2.2.2⟩
    refine ⟨J1, ⟨let ⟨m, hn, _⟩ := I'.loc; ⟨m, hn⟩, I'.free, Nat.ne_of_gt I3.lt, I3.sz, fun x c e z => ?_, fun p hp z => ?_⟩⟩
    · obtain ⟨v, q⟩ := I3.cell x c e
      exact absurd q.lt (by rw [z]; exact Nat.lt_irrefl _)
    · exact absurd (Heap.lt_size (I3.pin p hp).1) (by rw [z]; exact Nat.lt_irrefl _)
  have stat : ∀ {H' : Hp}, (∀ b ∈ fp, H' b = none) → ∀ b ∈ fp, FpOk (cxC X N' scope cl fp S3 H3) [] H' b := fun hn b hb =>
    ⟨hn b hb, (I4.ok.exf b hb).1, I4.ok.exfs b hb, .inl hb, (I4.ok.exf b hb).2, fun p hp => absurd (show p ∈ ([] : List (Addr × Obj)) from hp) (by simp)⟩
  have loop : codeAny (model X.prog X.w) X.A (.compLoop (.ListComp elt [⟨tg, iter, ifs, 0⟩] scope pos) 0 (.ref it) (.ref s2.heap.objs.size) (cxC X N' scope cl fp S3 H3).env) (RR (.ref s2.heap.objs.size) S3.heap.objs.size) { S3 with heap := h₁, toks := s2.toks + ([] : List (Str × Value)).length } := by
    refine comp_loop (fun n s' => ∃ i ys σ' H', Inv (cxC X N' scope cl fp S3 H3) [] σ' H' s' ∧ tn i s'.heap ∧ (∀ b ∈ fp, H' b = none) ∧ W i n ys σ' H') ?_ m0 ⟨0, [], _, H3, I4, st4, fun b hb => (f3 b hb).1, w0⟩
    rintro n s5 ⟨i, ys, σ5, H5, I5, st5, fr5, w5⟩
    rcases turn i n ys σ5 H5 w5 with ⟨stop, qn⟩ | ⟨go, step⟩
    · refine thn (T.done (cxC X N' scope cl fp S3 H3) rfl rfl rfl hc i [] s5 σ5 H5 (fun _ _ => False) I5 (stat fr5) st5 stop) fun r s6 ⟨hr, I6⟩ => ?_
      subst hr
      obtain ⟨J1, O⟩ := back I6
      exact fin _ _ s6 H5 J1 O qn
    · refine thn (T.item (cxC X N' scope cl fp S3 H3) rfl rfl rfl hc i [] s5 σ5 H5 (fun _ _ => False) I5 (stat fr5) st5 go) fun r s6 ⟨u, hr, h6⟩ => ?_
      subst hr
      refine thn h6 fun _ s7 ⟨x, H7, I7, r7, y7, st7, fr7⟩ => ?_
      have I7' := I7.pinned (stat fr7) (T.obj _ _ st7)
      refine thn (hg fp S3 H3 _ s7 σ5 H7 x u _ I7' r7 (step x H7 y7)) fun _ s8 ⟨σ8, H8, I8, q8⟩ => ?_
      refine thn (ht fp S3 H3 _ s8 σ8 H8 _ I8 q8) fun b s9 ⟨H9, I9, q9⟩ => ?_
      have again : ∀ {σ' H' s' m' ys'}, m' < n → Inv (cxC X N' scope cl fp S3 H3) ([] ++ pinsAt fp s7.heap) σ' H' s' → W (i + 1) m' ys' σ' H' → ∃ m, m < n ∧ ∃ i ys σ' H', Inv (cxC X N' scope cl fp S3 H3) [] σ' H' s' ∧ tn i s'.heap ∧ (∀ b ∈ fp, H' b = none) ∧ W i m ys σ' H' := fun {σ' H' s' m' ys'} hm I' w' => by
        refine ⟨m', hm, i + 1, ys', σ', H', I'.unpinned, T.keep _ _ _ st7 fun b hb o e => (I'.pin (b, o) (List.mem_append_right _ (List.mem_append_right _ (mem_pinsAt hb e)))).1, fun b hb => ?_, w'⟩
        obtain ⟨o, e, d⟩ := T.obj _ _ st7 b hb
        exact (I'.pin (b, o) (List.mem_append_right _ (List.mem_append_right _ (mem_pinsAt hb e)))).2.1
      cases b with
      | false =>
        rw [if_neg Bool.false_ne_true] at q9 ⊢
        obtain ⟨m', hm, w9⟩ := q9
        exact again hm I9 w9
      | true =>
        rw [if_pos rfl] at q9 ⊢
        refine thn (he fp S3 H3 _ s9 σ8 H9 _ I9 q9) fun v s10 ⟨y, H10, I10, r10, q10⟩ => ?_
        obtain ⟨hD, hz, m', hm, w10⟩ := q10
        refine thn (mt_append (X := cxC X N' scope cl fp S3 H3) _ s10 σ8 H10 (.ref s2.heap.objs.size) [y] (.ref s2.heap.objs.size) [v] (fun _ H' => W (i + 1) m' (ys ++ [y]) σ8 H') I10 rfl (.cons r10 .nil) ⟨_, ys, y, rfl, rfl, hD, hz, w10⟩) fun v' s11 ⟨_, H11, I11, _, q11⟩ => ?_
        exact again hm I11 q11
  subst hS3
  exact codeAny_compStart_list loop (T.self _ 0 _ _ _ st4 loop)
theorem ps_setLC {wi : TI} {g : TG} {tc : TT} {te : TE} {i : Nat} {y : Str} {py spos : Pos} (hN : X.N.Nodup) (hiN : X.N[i]? = some y) (hy : X.env.scope.names.lookup y = some .local) (hc : X.calm = true) (ok : LcOk X N' own fr scope) (hi : PI X tg iter wi)
    (hg : ∀ cl fp s3 H3, PG (cxC X N' scope cl fp s3 H3) tg g) (ht : ∀ cl fp s3 H3, PTs (cxC X N' scope cl fp s3 H3) ifs tc) (he : ∀ cl fp s3 H3, PE (cxC X N' scope cl fp s3 H3) elt te)
    (hsw : swapsWith (.ListComp elt [⟨tg, iter, ifs, 0⟩] scope pos) (some (.Name y py)) spos.line X.env = pure true)
    (hs : ∀ x, foldedSetIterable iter X.env x = pure x := by intro _; rfl) : PS X (.Assign [.Name y py] (.ListComp elt [⟨tg, iter, ifs, 0⟩] scope pos) spos) (fun D σ H => tLC own fr wi g tc te σ H fun v H' => D.nx (σ.set i (some v)) H') := by
  intro pins s σ H D I h
  obtain ⟨cl, ecl, cl1, cl2⟩ := clos_of (env := X.env) (scope := scope) fun x hx => I.ok.has x (ok.free x hx)
  rw [exec_Assign_Name_used _ _ _ _ hsw]
  refine wpAny_bind (wpAny_standAt (wpAny_bind ?_))
  show wpAny _ _ (do let _ ← comprehension (.ListComp elt [⟨tg, iter, ifs, 0⟩] scope pos) scope X.env _ (newList []) false (eval iter X.env) (some (assign (.Name y py) X.env))) _ _ s
  refine wpAny_bind (wpAny_mono (wpAny_comprehension_free (use := some (assign (.Name y py) X.env)) (Q := fun _ s' => SP X pins D .next s') rfl hs ecl ok.kind ok.names
    (thn (hi pins s σ H _ I h) fun v s1 h1 => thn h1 fun itv s2 h2 => ?_)) (fun _ s' hq => wpAny_pure (wpAny_pure hq)) fun _ _ e => e)
  obtain ⟨it, fp, tn, J, H2, rfl, I2, T, st2, f2, h2⟩ := h2
  refine comp_run (RR := fun acc C => compPost (model X.prog X.w) X.A X.xe (some (assign (.Name y py) X.env)) (fun _ s' => SP X pins D .next s') acc C) hc ok I2 T st2 f2 cl1 cl2 (hg cl) (ht cl) (he cl) h2 ?_
  intro D' C s' H' J1 O q
  show wpAny _ _ (assign (.Name y py) X.env (.ref D')) _ _ _
  refine wpAny_assign_Name (store_ok2 J1 hN hiN (.inl hy) (v := .ref D') rfl (fun s'' J2 sb => ?_) (.inr hy))
  obtain ⟨m, hn⟩ := O.ns
  obtain ⟨a, sb, ha⟩ := sb
  have nea : C ≠ a := by
    rcases ha with ha | ha
    · rw [ha]; exact O.ne
    · exact fun z => O.nc y a ha z.symm
  refine ⟨m, hn.sameBut sb nea, fun h'' sb' => ?_⟩
  have O2 : Own X pins C H' s'' := ⟨⟨m, hn.sameBut sb nea⟩, O.hn, O.ne, O.ab, O.nc, O.np⟩
  exact ⟨_, H', O2.go J2 sb', q⟩
end
end L2
end
section
set_option Elab.async false
set_option linter.all false
set_option maxRecDepth 100000
namespace DL
open PySem L2 PyProof.Rows
def hT (ks : List Int) : Int := reduceHash (Builtin.Tuple.tupleHashOf (ks.map hashInt))
def phiD (a : Addr) (ts : List (List Int × Addr × V)) : Heap → Prop := fun h => (a == sysModules) = false ∧ ts.length ≤ sizeLine ∧ (ts.map (·.1)).Nodup ∧
  ∃ xs : List (List Int × Addr × Value), Paired (fun (t : List Int × Addr × V) (x : List Int × Addr × Value) => t.1 = x.1 ∧ t.2.1 = x.2.1 ∧ RelV t.2.2 x.2.2) ts xs ∧
    ∃ (o : Obj) (es : Array DictEntry) (ep : Nat), h.get? a = some o ∧ o.ExactDict ∧ o.data = .dict es ep ∧ es.toList = xs.map fun x => ⟨hT x.1, .ref x.2.1, x.2.2⟩
mutual
def Is (K : PySem.W.Frag) (H : Hp) : PyData → V → Prop
  | .none, v => v = .non
  | .bool b, v => v = .bl b
  | .int i, v => v = .int i
  | .str x, v => v = .str x
  | .tuple ds, v => ∃ a vs, v = .ref a ∧ SqT K H a vs ∧ IsL K H ds vs
  | .list ds, v => ∃ a vs, v = .ref a ∧ H a = some (.lst vs) ∧ IsL K H ds vs
  | .dict kvs, v => ∃ a ts, v = .ref a ∧ H a = some (.ext (phiD a ts)) ∧ IsKV K H kvs ts
def IsL (K : PySem.W.Frag) (H : Hp) : List PyData → List V → Prop
  | [], vs => vs = []
  | d :: ds, vs => ∃ x xs, vs = x :: xs ∧ Is K H d x ∧ IsL K H ds xs
def IsKV (K : PySem.W.Frag) (H : Hp) : List (PyData × PyData) → List (List Int × Addr × V) → Prop
  | [], ts => ts = []
  | (k, d) :: r, ts => ∃ t tr, ts = t :: tr ∧ k = .tuple (t.1.map PyData.int) ∧ SqT K H t.2.1 (t.1.map V.int) ∧ Is K H d t.2.2 ∧ IsKV K H r tr
end
theorem Same.tup {K : PySem.W.Frag} {H H' : Hp} {a : Addr} {xs : List V} (e : Same H H') (h : SqT K H a xs) : SqT K H' a xs := by
  rcases h with (h | ⟨o, h⟩) | h
  · exact .inl (.inl (e _ _ h))
  · exact .inl (.inr ⟨o, e _ _ h⟩)
  · exact .inr h
def TSm (H H' : Hp) : Prop := ∀ b o, H b = some o → (∀ xs, o ≠ .lst xs) → (∀ φ, o ≠ .ext φ) → H' b = some o
theorem TSm.tup {K : PySem.W.Frag} {H H' : Hp} {a : Addr} {xs : List V} (e : TSm H H') (h : SqT K H a xs) : SqT K H' a xs := by
  rcases h with (h | ⟨o, h⟩) | h
  · exact .inl (.inl (e _ _ h (fun _ z => by cases z) fun _ z => by cases z))
  · exact .inl (.inr ⟨o, e _ _ h (fun _ z => by cases z) fun _ z => by cases z⟩)
  · exact .inr h
section
variable {K : PySem.W.Frag}
mutual
theorem Is.mono {H H' : Hp} (s : Same H H') : ∀ {d : PyData} {v : V}, Is K H d v → Is K H' d v
  | .none, _, h => h
  | .bool _, _, h => h
  | .int _, _, h => h
  | .str _, _, h => h
  | .tuple _, _, ⟨a, vs, e, h, l⟩ => ⟨a, vs, e, Same.tup s h, IsL.mono s l⟩
  | .list _, _, ⟨a, vs, e, h, l⟩ => ⟨a, vs, e, s _ _ h, IsL.mono s l⟩
  | .dict _, _, ⟨a, ts, e, h, l⟩ => ⟨a, ts, e, s _ _ h, IsKV.mono s l⟩
theorem IsL.mono {H H' : Hp} (s : Same H H') : ∀ {ds : List PyData} {vs : List V}, IsL K H ds vs → IsL K H' ds vs
  | [], _, h => h
  | _ :: _, _, ⟨x, xs, e, h, l⟩ => ⟨x, xs, e, Is.mono s h, IsL.mono s l⟩
theorem IsKV.mono {H H' : Hp} (s : Same H H') : ∀ {kvs : List (PyData × PyData)} {ts : List (List Int × Addr × V)}, IsKV K H kvs ts → IsKV K H' kvs ts
  | [], _, h => h
  | (_, _) :: _, _, ⟨t, tr, e, ek, hk, h, l⟩ => ⟨t, tr, e, ek, Same.tup s hk, Is.mono s h, IsKV.mono s l⟩
end
mutual
theorem Is.monoT {H H' : Hp} (s : TSm H H') : ∀ {d : PyData} {v : V}, fixD d = true → Is K H d v → Is K H' d v
  | .none, _, _, h => h
  | .bool _, _, _, h => h
  | .int _, _, _, h => h
  | .str _, _, _, h => h
  | .tuple _, _, f, ⟨a, vs, e, h, l⟩ => ⟨a, vs, e, s.tup h, IsL.monoT s f l⟩
  | .list _, _, f, _ => absurd f Bool.false_ne_true
  | .dict _, _, f, _ => absurd f Bool.false_ne_true
theorem IsL.monoT {H H' : Hp} (s : TSm H H') : ∀ {ds : List PyData} {vs : List V}, fixDs ds = true → IsL K H ds vs → IsL K H' ds vs
  | [], _, _, h => h
  | d :: ds, _, f, ⟨x, xs, e, h, l⟩ => ⟨x, xs, e, Is.monoT s (by rw [fixDs, Bool.and_eq_true] at f; exact f.1) h, IsL.monoT s (by rw [fixDs, Bool.and_eq_true] at f; exact f.2) l⟩
end
theorem IsL.length {H : Hp} : ∀ {ds : List PyData} {vs : List V}, IsL K H ds vs → vs.length = ds.length
  | [], _, h => by rw [show _ = [] from h]; rfl
  | _ :: _, _, ⟨x, xs, e, _, l⟩ => by rw [e, List.length_cons, List.length_cons, IsL.length l]
theorem IsL.get {H : Hp} : ∀ {ds : List PyData} {vs : List V} {i : Nat} {d : PyData}, IsL K H ds vs → ds[i]? = some d → ∃ v, vs[i]? = some v ∧ Is K H d v
  | [], _, _, _, _, e => by simp at e
  | d :: ds, _, 0, _, ⟨x, xs, e, h, l⟩, q => by
    subst e
    simp at q
    subst q
    exact ⟨x, rfl, h⟩
  | d :: ds, _, i + 1, _, ⟨x, xs, e, h, l⟩, q => by
    subst e
    obtain ⟨v, a, b⟩ := IsL.get (i := i) l (by simpa using q)
    exact ⟨v, by simpa using a, b⟩
end
section
variable {X : Cx} {pins : List (Addr × Obj)} {σ : L2.St} {H : Hp} {s : Shared}
mutual
theorem reads (I : Inv X pins σ H s) : ∀ {d : PyData} {v : V} {u : Value}, Is X.K H d v → RelV v u → ∃ as, Reads s.heap u d as
  | .none, _, _, h, r => by subst h; cases r; exact ⟨_, .none⟩
  | .bool _, _, _, h, r => by subst h; cases r; exact ⟨_, .bool _⟩
  | .int _, _, _, h, r => by subst h; obtain ⟨t, rfl⟩ := r; exact ⟨_, .int _ _⟩
  | .str _, _, _, h, r => by subst h; obtain ⟨t, rfl⟩ := r; exact ⟨_, .str _ _⟩
  | .tuple ds, _, _, ⟨a, vs, e, h, l⟩, r => by
    subst e; cases r
    obtain ⟨its, rr, ⟨o, e, c, n, q⟩, _⟩ := I.tuple h
    obtain ⟨as, z⟩ := readsL I l rr
    exact ⟨_, .tuple e c q z⟩
  | .list ds, _, _, ⟨a, vs, e, h, l⟩, r => by
    subst e; cases r
    obtain ⟨_, its, n, rr, e⟩ := I.hok a _ h
    obtain ⟨as, z⟩ := readsL I l rr
    exact ⟨_, .list e rfl rfl z⟩
  | .dict kvs, _, _, ⟨a, ts, e, h, l⟩, r => by
    subst e; cases r
    obtain ⟨⟨_, _, _, xs, pr, o, es, ep, ho, he, hd, hes⟩, _, _⟩ := (show ObjOk X.prog X.w H s.heap a (.ext (phiD a ts)) from I.hok a _ h)
    obtain ⟨as, bs, z1, z2⟩ := readsK I l pr
    refine ⟨_, .dict ho he.1 hd (as := as) (bs := bs) ?_ ?_⟩
    · rw [hes, List.map_map]; exact z1
    · rw [hes, List.map_map]; exact z2
theorem readsL (I : Inv X pins σ H s) : ∀ {ds : List PyData} {vs : List V} {us : List Value}, IsL X.K H ds vs → Vals vs us → ∃ as, ReadsAll s.heap us ds as
  | [], _, _, h, r => by subst h; cases r; exact ⟨_, .nil⟩
  | d :: ds, _, _, ⟨x, xs, e, h, l⟩, r => by
    subst e
    cases r with
    | cons r1 r2 =>
      obtain ⟨as, z⟩ := reads I h r1
      obtain ⟨bs, y⟩ := readsL I l r2
      exact ⟨_, .cons z y⟩
theorem readsK (I : Inv X pins σ H s) : ∀ {kvs : List (PyData × PyData)} {ts : List (List Int × Addr × V)} {xs : List (List Int × Addr × Value)}, IsKV X.K H kvs ts → Paired (fun (t : List Int × Addr × V) (x : List Int × Addr × Value) => t.1 = x.1 ∧ t.2.1 = x.2.1 ∧ RelV t.2.2 x.2.2) ts xs →
    ∃ as bs, ReadsAll s.heap (xs.map fun x => Value.ref x.2.1) (kvs.map (·.1)) as ∧ ReadsAll s.heap (xs.map fun x => x.2.2) (kvs.map (·.2)) bs
  | [], _, _, h, r => by subst h; cases r; exact ⟨_, _, .nil, .nil⟩
  | (k, d) :: kvs, _, _, ⟨t, tr, e, ek, hk, h, l⟩, r => by
    subst e
    cases r with
    | cons r1 r2 =>
      obtain ⟨q1, q2, q3⟩ := r1
      obtain ⟨as, bs, z1, z2⟩ := readsK I l r2
      obtain ⟨cs, z3⟩ := reads I h q3
      obtain ⟨its, rr, ⟨o, e, c, n, q⟩, _⟩ := I.tuple hk
      subst ek
      have hz : ∃ ds, ReadsAll s.heap its.toArray.toList (t.1.map PyData.int) ds := by
        clear hk e q
        generalize t.1 = ks at rr
        induction ks generalizing its with
        | nil => cases rr; exact ⟨_, .nil⟩
        | cons k ks ih =>
          cases rr with
          | cons a b =>
            obtain ⟨ds, y⟩ := ih _ b
            obtain ⟨tk, rfl⟩ := a
            exact ⟨_, .cons (.int _ _) y⟩
      obtain ⟨ds, y⟩ := hz
      rw [q2] at e
      exact ⟨_, _, .cons (.tuple e c q y) z1, .cons z3 z2⟩
end
def rEqK (K : PySem.W.Frag) : R2 := fun x y H Q => ∃ d e, Is K H d x ∧ Is K H e y ∧ okD d = true ∧ okD e = true ∧ Q (.bl (PyData.eqv d e)) H
def rNeK (K : PySem.W.Frag) : R2 := fun x y H Q => ∃ d e, Is K H d x ∧ Is K H e y ∧ okD d = true ∧ okD e = true ∧ Q (.bl (!PyData.eqv d e)) H
theorem op_eqK (hu : X.A.units + 64 < cLine) : OpR X (compareOp .Eq) (rEqK X.K) := by
  intro pins s σ H x y v u Q I rx ry h
  obtain ⟨d, e, hd, he, od, oe, q⟩ := h
  obtain ⟨as, ra⟩ := reads I hd rx
  obtain ⟨bs, rb⟩ := reads I he ry
  exact eq_dataH ra rb od oe hu ⟨.bl _, H, I, rfl, q⟩
theorem op_neK (hu : X.A.units + 64 < cLine) : OpR X (compareOp .NotEq) (rNeK X.K) := by
  intro pins s σ H x y v u Q I rx ry h
  obtain ⟨d, e, hd, he, od, oe, q⟩ := h
  obtain ⟨as, ra⟩ := reads I hd rx
  obtain ⟨bs, rb⟩ := reads I he ry
  exact ne_dataH ra rb od oe hu ⟨.bl _, H, I, rfl, q⟩
end
end DL
end
section
set_option Elab.async false
set_option linter.all false
set_option maxRecDepth 100000
namespace DL
open PySem L2
inductive L where
  | d (x : PyData)
  | m (xs : List PyData)
  | c (xs : List PyData)
  | k (kvs : List (List Int × PyData))
abbrev DS := List (Option L)
inductive Ow where
  | l (xs : List PyData)
  | t (kvs : List (List Int × PyData))
def Ow.L : Ow → L
  | .l xs => .m xs
  | .t kvs => .k kvs
def dctP (kvs : List (List Int × PyData)) : List (PyData × PyData) := kvs.map fun p => (.tuple (p.1.map PyData.int), p.2)
def Ow.D : Ow → PyData
  | .l xs => .list xs
  | .t kvs => .dict (dctP kvs)
def Ow.fl : Ow → Bool
  | .l _ => true
  | .t _ => false
theorem Ow.not_d {o : Ow} {x : PyData} : o.L ≠ .d x := by cases o <;> exact fun z => nomatch z
theorem Ow.not_c {o : Ow} {x : List PyData} : o.L ≠ .c x := by cases o <;> exact fun z => nomatch z
theorem Ow.inj {o p : Ow} (h : o.L = p.L) : o = p := by
  cases o <;> cases p <;> cases h <;> rfl
def IsO (K : PySem.W.Frag) (H : Hp) : Ow → Addr → HO → Prop
  | .l xs, _, h => ∃ vs, h = .lst vs ∧ IsL K H xs vs
  | .t kvs, a, h => ∃ ts, h = .ext (phiD a ts) ∧ IsKV K H (dctP kvs) ts
theorem IsO.mono {K : PySem.W.Frag} {H H' : Hp} (s : Same H H') : ∀ {o : Ow} {a : Addr} {h : HO}, IsO K H o a h → IsO K H' o a h
  | .l _, _, _, ⟨vs, e, l⟩ => ⟨vs, e, l.mono s⟩
  | .t _, _, _, ⟨ts, e, l⟩ => ⟨ts, e, l.mono s⟩
theorem IsO.is {K : PySem.W.Frag} {H : Hp} : ∀ {o : Ow} {a : Addr} {h : HO}, IsO K H o a h → H a = some h → Is K H o.D (.ref a)
  | .l _, a, _, ⟨vs, e, l⟩, z => ⟨a, vs, rfl, e ▸ z, l⟩
  | .t _, a, _, ⟨ts, e, l⟩, z => ⟨a, ts, rfl, e ▸ z, l⟩
open Classical in
noncomputable def hid (S : Addr → Prop) (H : Hp) : Hp := fun a => if S a then none else H a
theorem hid_iff {S : Addr → Prop} {H : Hp} {b : Addr} {o : HO} : hid S H b = some o ↔ ¬ S b ∧ H b = some o := by
  unfold hid
  by_cases h : S b
  · rw [if_pos h]; exact ⟨fun z => (nomatch z), fun z => absurd h z.1⟩
  · rw [if_neg h]; exact ⟨fun z => ⟨h, z⟩, fun z => z.2⟩
def Keep (S : Addr → Prop) (H : Hp) (S' : Addr → Prop) (H' : Hp) : Prop := ∀ b o, ¬ S b → H b = some o → ¬ S' b ∧ H' b = some o
def Chg (M : Addr → Prop) (H H' : Hp) : Prop := ∀ b o, ¬ M b → H b = some o → H' b = some o
theorem Keep.same {S S' : Addr → Prop} {H H' : Hp} (k : Keep S H S' H') : Same (hid S H) (hid S' H') := fun b o e => hid_iff.mpr (k b o (hid_iff.mp e).1 (hid_iff.mp e).2)
theorem Keep.refl {S : Addr → Prop} {H : Hp} : Keep S H S H := fun _ _ h e => ⟨h, e⟩
theorem Keep.trans {S S1 S2 : Addr → Prop} {H H1 H2 : Hp} (a : Keep S H S1 H1) (b : Keep S1 H1 S2 H2) : Keep S H S2 H2 := fun c o h e => b c o (a c o h e).1 (a c o h e).2
theorem Chg.refl {M : Addr → Prop} {H : Hp} : Chg M H H := fun _ _ _ e => e
theorem Chg.trans {M : Addr → Prop} {H H1 H2 : Hp} (a : Chg M H H1) (b : Chg M H1 H2) : Chg M H H2 := fun c o h e => b c o h (a c o h e)
theorem Chg.of {M : Addr → Prop} {H H' : Hp} (s : Same H H') : Chg M H H' := fun b o _ e => s b o e
theorem Chg.keep {S M : Addr → Prop} {H H' : Hp} (c : Chg M H H') (sub : ∀ a, M a → S a) : Keep S H S H' := fun b o h e => ⟨h, c b o (fun z => h (sub b z)) e⟩
theorem Same.keep {S : Addr → Prop} {H H' : Hp} (s : Same H H') : Keep S H S H' := fun b o h e => ⟨h, s b o e⟩
theorem same_hid {S : Addr → Prop} {H : Hp} : Same (hid S H) H := fun b o e => (hid_iff.mp e).2
theorem hid_less {S S' : Addr → Prop} {H : Hp} (h : ∀ a, S' a → S a) : Same (hid S H) (hid S' H) := Keep.same fun b o n e => ⟨fun z => n (h b z), e⟩
structure R (K : PySem.W.Frag) (S M : Addr → Prop) (τ : DS) (σ : St) (H : Hp) : Prop where
  len : σ.length = τ.length
  dat : ∀ (i : Nat) (x : PyData), τ[i]? = some (some (.d x)) → ∃ v, σ[i]? = some (some v) ∧ Is K (hid S H) x v
  mt : ∀ (i : Nat) (o : Ow), τ[i]? = some (some o.L) → ∃ (a : Addr) (h : HO), σ[i]? = some (some (.ref a)) ∧ M a ∧ H a = some h ∧ IsO K (hid S H) o a h
  cst : ∀ (i : Nat) (xs : List PyData), τ[i]? = some (some (.c xs)) → ∃ (a : Addr) (vs : List V), σ[i]? = some (some (.ref a)) ∧ SqL K (hid S H) a vs ∧ IsL K (hid S H) xs vs
  inj : ∀ (i j : Nat) (o p : Ow) (a : Addr), τ[i]? = some (some o.L) → τ[j]? = some (some p.L) → σ[i]? = some (some (.ref a)) → σ[j]? = some (some (.ref a)) → i = j
  sub : ∀ a, M a → S a
  ex : ∀ a, S a → ∃ o, H a = some o
def Res (K : PySem.W.Frag) (fr : Bool) (S : Addr → Prop) (H H' : Hp) (d : PyData) (v : V) : Prop := match fr with
  | false => Is K (hid S H') d v
  | true => ∃ (o : Ow) (a : Addr) (h : HO), d = o.D ∧ v = .ref a ∧ H a = none ∧ H' a = some h ∧ IsO K (hid (fun b => S b ∨ b = a) H') o a h
section
variable {K : PySem.W.Frag} {S M : Addr → Prop} {τ : DS} {σ : St} {H H' : Hp}
theorem R.fresh (r : R K S M τ σ H) {a : Addr} (h : H a = none) : ¬ S a := fun z => by
  obtain ⟨o, e⟩ := r.ex a z
  rw [h] at e; cases e
theorem R.ml (r : R K S M τ σ H) (i : Nat) (xs : List PyData) (e : τ[i]? = some (some (.m xs))) : ∃ (a : Addr) (vs : List V), σ[i]? = some (some (.ref a)) ∧ M a ∧ H a = some (.lst vs) ∧ IsL K (hid S H) xs vs := by
  obtain ⟨a, h, h1, h2, h3, vs, rfl, l⟩ := r.mt i (.l xs) e
  exact ⟨a, vs, h1, h2, h3, l⟩
theorem R.same (r : R K S M τ σ H) (s : Same H H') : R K S M τ σ H' where
  len := r.len
  dat := fun i x e => let ⟨v, a, b⟩ := r.dat i x e; ⟨v, a, b.mono (Same.keep s).same⟩
  mt := fun i o e => let ⟨a, h, h1, h2, h3, h4⟩ := r.mt i o e; ⟨a, h, h1, h2, s _ _ h3, h4.mono (Same.keep s).same⟩
  cst := fun i xs e => let ⟨a, vs, h1, h2, h3⟩ := r.cst i xs e; ⟨a, vs, h1, (Same.keep s).same.seq h2, h3.mono (Same.keep s).same⟩
  inj := r.inj
  sub := r.sub
  ex := fun a h => let ⟨o, e⟩ := r.ex a h; ⟨o, s _ _ e⟩
theorem Res.is {fr : Bool} {d : PyData} {v : V} (h : Res K fr S H H' d v) (f : ∀ a, H a = none → ¬ S a) : Is K (hid S H') d v := by
  cases fr with
  | false => exact h
  | true =>
    obtain ⟨o, a, ho, rfl, rfl, h1, h2, h3⟩ := h
    exact IsO.is (h3.mono (hid_less fun b z => .inl z)) (hid_iff.mpr ⟨f a h1, h2⟩)
theorem Res.imp {fr : Bool} {d : PyData} {v : V} (h : Res K fr S H H' d v) (f : ∀ a, H a = none → ¬ S a) (fr' : Bool) (hf : fr' = true → fr = true) : Res K fr' S H H' d v := by
  cases fr' with
  | false => exact h.is f
  | true => rw [hf rfl] at h; exact h
end
abbrev DX := DS → Option (PyData × DS)
abbrev DT := DS → Option (Bool × DS)
inductive Ar where
  | d (x : PyData)
  | s (i : Nat)
abbrev DA := DS → Option (List Ar × DS)
inductive Out where
  | nx (τ : DS)
  | bk (τ : DS)
  | ct (τ : DS)
  | rt (d : PyData) (τ : DS)
abbrev DB := DS → Option Out
def Like (τ τ' : DS) : Prop := τ'.length = τ.length ∧ ∀ j : Nat, ((∀ x, τ'[j]? = some (some (.d x)) ↔ τ[j]? = some (some (.d x))) ∧ ∀ x, τ'[j]? = some (some (.c x)) ↔ τ[j]? = some (some (.c x))) ∧ ∀ b : Bool, (∃ o : Ow, o.fl = b ∧ τ'[j]? = some (some o.L)) ↔ ∃ o : Ow, o.fl = b ∧ τ[j]? = some (some o.L)
theorem Like.refl {τ : DS} : Like τ τ := ⟨rfl, fun j => ⟨⟨fun x => Iff.rfl, fun x => Iff.rfl⟩, fun b => Iff.rfl⟩⟩
theorem Like.trans {τ τ1 τ2 : DS} (a : Like τ τ1) (b : Like τ1 τ2) : Like τ τ2 := ⟨b.1.trans a.1, fun j => ⟨⟨fun x => ((b.2 j).1.1 x).trans ((a.2 j).1.1 x), fun x => ((b.2 j).1.2 x).trans ((a.2 j).1.2 x)⟩, fun c => ((b.2 j).2 c).trans ((a.2 j).2 c)⟩⟩
theorem Like.own {τ τ' : DS} (a : Like τ τ') (j : Nat) : (∃ o : Ow, τ'[j]? = some (some o.L)) ↔ ∃ o : Ow, τ[j]? = some (some o.L) :=
  ⟨fun ⟨o, h⟩ => let ⟨p, _, q⟩ := ((a.2 j).2 o.fl).mp ⟨o, rfl, h⟩; ⟨p, q⟩, fun ⟨o, h⟩ => let ⟨p, _, q⟩ := ((a.2 j).2 o.fl).mpr ⟨o, rfl, h⟩; ⟨p, q⟩⟩
theorem Like.ml {τ τ' : DS} (a : Like τ τ') {j : Nat} {xs : List PyData} (h : τ'[j]? = some (some (.m xs))) : ∃ ys, τ[j]? = some (some (.m ys)) := by
  obtain ⟨o, e, h⟩ := ((a.2 j).2 true).mp ⟨.l xs, rfl, h⟩
  cases o with
  | l ys => exact ⟨ys, h⟩
  | t ys => cases e
theorem Like.kl {τ τ' : DS} (a : Like τ τ') {j : Nat} {xs : List (List Int × PyData)} (h : τ'[j]? = some (some (.k xs))) : ∃ ys, τ[j]? = some (some (.k ys)) := by
  obtain ⟨o, e, h⟩ := ((a.2 j).2 false).mp ⟨.t xs, rfl, h⟩
  cases o with
  | l ys => cases e
  | t ys => exact ⟨ys, h⟩
structure E K (t : TE) (fr : Bool) (f : DX) : Prop where
  like : ∀ τ d τ', f τ = some (d, τ') → Like τ τ'
  run : ∀ S M τ σ H (Q : VK) d τ', R K S M τ σ H → f τ = some (d, τ') → (∀ v H', R K S M τ' σ H' → Chg M H H' → Res K fr S H H' d v → Q v H') → t σ H Q
structure T K (t : TT) (f : DT) : Prop where
  like : ∀ τ b τ', f τ = some (b, τ') → Like τ τ'
  run : ∀ S M τ σ H (Q : Bool → Hp → Prop) b τ', R K S M τ σ H → f τ = some (b, τ') → (∀ H', R K S M τ' σ H' → Chg M H H' → Q b H') → t σ H Q
def ArIs (K : PySem.W.Frag) (S : Addr → Prop) (σ : St) (H : Hp) : List Ar → List V → Prop
  | [], vs => vs = []
  | .d x :: rs, vs => ∃ v us, vs = v :: us ∧ Is K (hid S H) x v ∧ ArIs K S σ H rs us
  | .s i :: rs, vs => ∃ v us, vs = v :: us ∧ σ[i]? = some (some v) ∧ ArIs K S σ H rs us
theorem ArIs.mono {K : PySem.W.Frag} {S S' : Addr → Prop} {σ : St} {H H' : Hp} (k : Same (hid S H) (hid S' H')) : ∀ {rs : List Ar} {vs : List V}, ArIs K S σ H rs vs → ArIs K S' σ H' rs vs
  | [], _, h => h
  | .d x :: rs, _, ⟨v, us, e, h, l⟩ => ⟨v, us, e, h.mono k, ArIs.mono k l⟩
  | .s i :: rs, _, ⟨v, us, e, h, l⟩ => ⟨v, us, e, h, ArIs.mono k l⟩
structure A K (t : TA) (f : DA) : Prop where
  like : ∀ τ rs τ', f τ = some (rs, τ') → Like τ τ'
  run : ∀ S M τ σ H (Q : List V → Hp → Prop) rs τ', R K S M τ σ H → f τ = some (rs, τ') → (∀ vs H', R K S M τ' σ H' → Chg M H H' → ArIs K S σ H' rs vs → Q vs H') → t σ H Q
structure Frm where
  S : Addr → Prop
  M : Addr → Prop
  H : Hp
  ar : List (Option V)
structure RF (K : PySem.W.Frag) (F : Frm) (S M : Addr → Prop) (τ : DS) (σ : St) (H : Hp) : Prop where
  r : R K S M τ σ H
  sS : ∀ a, F.S a → S a
  old : ∀ b o, F.H b = some o → ¬ F.M b → H b = some o
  new : ∀ a, M a → F.M a ∨ F.H a = none
  fm : ∀ a, F.M a → M a
  fs : ∀ a, F.S a → ∃ o, F.H a = some o
  fsub : ∀ a, F.M a → F.S a
  snew : ∀ a, S a → F.S a ∨ F.H a = none
  par : ∀ (i : Nat) (v : V), F.ar[i]? = some (some v) → σ[i]? = some (some v)
  pm : ∀ (i : Nat) (v : V), F.ar[i]? = some (some v) → ∃ o : Ow, τ[i]? = some (some o.L)
  fma : ∀ a, F.M a → ∃ i : Nat, F.ar[i]? = some (some (.ref a))
def Gl (K : PySem.W.Frag) (F : Frm) (fr : Bool) (S : Addr → Prop) (H : Hp) (D : Ends) : Out → Prop
  | .nx τ' => ∀ S' M' σ' H', RF K F S' M' τ' σ' H' → Keep S H S' H' → D.nx σ' H'
  | .bk τ' => ∀ S' M' σ' H', RF K F S' M' τ' σ' H' → Keep S H S' H' → D.bk σ' H'
  | .ct τ' => ∀ S' M' σ' H', RF K F S' M' τ' σ' H' → Keep S H S' H' → D.ct σ' H'
  | .rt d τ' => ∀ S' M' σ' H' v, RF K F S' M' τ' σ' H' → Res K fr F.S F.H H' d v → D.rt v H'
def B (K : PySem.W.Frag) (np : Nat) (t : TS) (fr : Bool) (f : DB) : Prop := ∀ (F : Frm) S M τ σ H (D : Ends) out, F.ar.length ≤ np → RF K F S M τ σ H → f τ = some out → Gl K F fr S H D out → t D σ H
end DL
end
section
set_option Elab.async false
set_option linter.all false
set_option maxRecDepth 100000
namespace DL
open PySem L2
variable {K : PySem.W.Frag}
section
variable {S M : Addr → Prop} {τ τ' : DS} {σ : St} {H H' H2 : Hp}
theorem R.none (r : R K S M τ σ H') (c : Chg M H H') {a : Addr} (h : H' a = Option.none) : H a = Option.none := by
  cases e : H a with
  | none => rfl
  | some o =>
    exfalso
    by_cases hm : M a
    · obtain ⟨o', e'⟩ := r.ex a (r.sub a hm)
      rw [h] at e'; cases e'
    · have := c a o hm e
      rw [h] at this; cases this
theorem Res.back {fr : Bool} {d : PyData} {v : V} (h : Res K fr S H' H2 d v) (r : R K S M τ σ H') (c : Chg M H H') : Res K fr S H H2 d v := by
  cases fr with
  | false => exact h
  | true =>
    obtain ⟨xs, a, vs, e1, e2, h1, h2, h3⟩ := h
    exact ⟨xs, a, vs, e1, e2, r.none c h1, h2, h3⟩
theorem R.isr (r : R K S M τ σ H) {fr : Bool} {d : PyData} {v : V} (h : Res K fr S H H' d v) : Is K (hid S H') d v := h.is fun _ z => r.fresh z
end
theorem E.weak {t : TE} {fr : Bool} {f : DX} (h : E K t fr f) : E K t false f := ⟨h.like, fun S M τ σ H Q d τ' r e q => h.run S M τ σ H Q d τ' r e fun v H' r' c res => q v H' r' c (r.isr res)⟩
def dVar (i : Nat) (τ : DS) : Option (PyData × DS) := match τ[i]? with
  | some (some (.d x)) => some (x, τ)
  | _ => none
theorem e_var {i : Nat} : E K (tVar i) false (dVar i) := by
  refine ⟨fun τ d τ' e => ?_, ?_⟩
  · unfold dVar at e; split at e
    · cases e; exact .refl
    · cases e
  intro S M τ σ H Q d τ' r e q
  unfold dVar at e
  split at e
  · rename_i x hx
    cases e
    obtain ⟨v, h1, h2⟩ := r.dat i _ hx
    exact ⟨v, h1, q v H r .refl h2⟩
  · cases e
def dC (d : PyData) (τ : DS) : Option (PyData × DS) := some (d, τ)
theorem e_c {d : PyData} {v : V} (h : ∀ H, Is K H d v) : E K (tC v) false (dC d) := by
  refine ⟨fun τ d τ' e => ?_, ?_⟩
  · cases e; exact .refl
  intro S M τ σ H Q d' τ' r e q
  cases e
  exact q v H r .refl (h _)
theorem e_int {i : Int} : E K (tC (.int i)) false (dC (.int i)) := e_c fun _ => rfl
theorem e_bl {b : Bool} : E K (tC (.bl b)) false (dC (.bool b)) := e_c fun _ => rfl
theorem e_non : E K (tC .non) false (dC .none) := e_c fun _ => rfl
def OR (K : PySem.W.Frag) (fr : Bool) (r : R2) (F : PyData → PyData → Option PyData) : Prop := ∀ (S : Addr → Prop) H x y dx dy d (Q : VK), (∀ a, H a = none → ¬ S a) → Is K (hid S H) dx x → Is K (hid S H) dy y → F dx dy = some d → (∀ v H', Same H H' → Res K fr S H H' d v → Q v H') → r x y H Q
def dOp (F : PyData → PyData → Option PyData) (a b : DX) (τ : DS) : Option (PyData × DS) := (a τ).bind fun p => (b p.2).bind fun q => (F p.1 q.1).map fun d => (d, q.2)
theorem e_op {fr fa fb : Bool} {r : R2} {F : PyData → PyData → Option PyData} {ta tb : TE} {a b : DX} (h : OR K fr r F) (ha : E K ta fa a) (hb : E K tb fb b) : E K (tOp r ta tb) fr (dOp F a b) := by
  refine ⟨fun τ d τ' e => ?_, ?_⟩
  · unfold dOp at e; obtain ⟨⟨x, τ1⟩, e1, e⟩ := Option.bind_eq_some_iff.mp e; obtain ⟨⟨y, τ2⟩, e2, e⟩ := Option.bind_eq_some_iff.mp e; obtain ⟨z, e3, e⟩ := Option.map_eq_some_iff.mp e; cases e; exact (ha.like _ _ _ e1).trans (hb.like _ _ _ e2)
  intro S M τ σ H Q d τ' rr e q
  unfold dOp at e
  obtain ⟨⟨x, τ1⟩, e1, e⟩ := Option.bind_eq_some_iff.mp e
  obtain ⟨⟨y, τ2⟩, e2, e⟩ := Option.bind_eq_some_iff.mp e
  obtain ⟨z, e3, e⟩ := Option.map_eq_some_iff.mp e
  cases e
  refine ha.run S M τ σ H _ x τ1 rr e1 fun v1 H1 r1 c1 i1 => ?_
  refine hb.run S M τ1 σ H1 _ y τ2 r1 e2 fun v2 H2 r2 c2 i2 => ?_
  refine h S H2 v1 v2 x y d _ (fun _ => r2.fresh) ((rr.isr i1).mono (c2.keep r1.sub).same) (r1.isr i2) e3 fun v H' s res => ?_
  exact q v H' (r2.same s) ((c1.trans c2).trans (.of s)) (res.back r2 (c1.trans c2))
def UR (K : PySem.W.Frag) (fr : Bool) (r : V → Hp → VK → Prop) (F : PyData → Option PyData) : Prop := ∀ (S : Addr → Prop) H x dx d (Q : VK), (∀ a, H a = none → ¬ S a) → Is K (hid S H) dx x → F dx = some d → (∀ v H', Same H H' → Res K fr S H H' d v → Q v H') → r x H Q
def dUn (F : PyData → Option PyData) (a : DX) (τ : DS) : Option (PyData × DS) := (a τ).bind fun p => (F p.1).map fun d => (d, p.2)
theorem e_un {fr fa : Bool} {r : V → Hp → VK → Prop} {F : PyData → Option PyData} {ta : TE} {a : DX} (h : UR K fr r F) (ha : E K ta fa a) : E K (tUn r ta) fr (dUn F a) := by
  refine ⟨fun τ d τ' e => ?_, ?_⟩
  · unfold dUn at e; obtain ⟨⟨x, τ1⟩, e1, e⟩ := Option.bind_eq_some_iff.mp e; obtain ⟨z, e3, e⟩ := Option.map_eq_some_iff.mp e; cases e; exact ha.like _ _ _ e1
  intro S M τ σ H Q d τ' rr e q
  unfold dUn at e
  obtain ⟨⟨x, τ1⟩, e1, e⟩ := Option.bind_eq_some_iff.mp e
  obtain ⟨z, e3, e⟩ := Option.map_eq_some_iff.mp e
  cases e
  refine ha.run S M τ σ H _ x _ rr e1 fun v1 H1 r1 c1 i1 => ?_
  refine h S H1 v1 x d _ (fun _ => r1.fresh) (rr.isr i1) e3 fun v H' s res => ?_
  exact q v H' (r1.same s) (c1.trans (.of s)) (res.back r1 c1)
def fI (g : Int → Int → PyData) : PyData → PyData → Option PyData
  | .int i, .int j => some (g i j)
  | _, _ => none
def fC (C : Int → Int → Prop) [∀ i j, Decidable (C i j)] (g : Int → Int → PyData) : PyData → PyData → Option PyData
  | .int i, .int j => if C i j then some (g i j) else none
  | _, _ => none
theorem fI_some {g : Int → Int → PyData} {x y d : PyData} (h : fI g x y = some d) : ∃ i j, x = .int i ∧ y = .int j ∧ d = g i j := by
  unfold fI at h
  split at h
  · exact ⟨_, _, rfl, rfl, (Option.some.inj h).symm⟩
  · cases h
theorem fC_some {C : Int → Int → Prop} [∀ i j, Decidable (C i j)] {g : Int → Int → PyData} {x y d : PyData} (h : fC C g x y = some d) : ∃ i j, x = .int i ∧ y = .int j ∧ C i j ∧ d = g i j := by
  unfold fC at h
  split at h
  · split at h
    · rename_i hc; exact ⟨_, _, rfl, rfl, hc, (Option.some.inj h).symm⟩
    · cases h
  · cases h
theorem or_I {g : Int → Int → V} {g' : Int → Int → PyData} (h : ∀ i j H, Is K H (g' i j) (g i j)) : OR K false (rI0 g) (fI g') := by
  intro S H x y dx dy d Q _ ix iy e q
  obtain ⟨i, j, rfl, rfl, rfl⟩ := fI_some e
  exact ⟨i, j, ix, iy, q _ H (fun _ _ e => e) (h _ _ _)⟩
theorem or_C {C : Int → Int → Prop} [∀ i j, Decidable (C i j)] {g : Int → Int → V} {g' : Int → Int → PyData} (h : ∀ i j H, Is K H (g' i j) (g i j)) : OR K false (rI C g) (fC C g') := by
  intro S H x y dx dy d Q _ ix iy e q
  obtain ⟨i, j, rfl, rfl, c, rfl⟩ := fC_some e
  exact ⟨i, j, ix, iy, c, q _ H (fun _ _ e => e) (h _ _ _)⟩
instance {i j : Int} : Decidable (CMulB i j) := by unfold CMulB CMul Bd; infer_instance
instance {i j : Int} : Decidable (CDivB i j) := by unfold CDivB Bd; infer_instance
instance {i j : Int} : Decidable (CPow i j) := by unfold CPow; infer_instance
def fAdd := fI fun i j => .int (i + j)
def fSub := fI fun i j => .int (i - j)
def fMul := fC CMulB fun i j => .int (i * j)
def fDiv := fC CDivB fun i j => .int (i / j)
def fMod := fC (fun _ j => 0 < j) fun i j => .int (i % j)
def fPow := fC CPow fun i j => .int (i ^ j.toNat)
def fLt := fI fun i j => .bool (decide (i < j))
def fLe := fI fun i j => .bool (decide (i ≤ j))
def fGt := fI fun i j => .bool (decide (j < i))
def fGe := fI fun i j => .bool (decide (j ≤ i))
theorem o_add : OR K false (rI0 fun i j => .int (i + j)) fAdd := or_I fun _ _ _ => rfl
theorem o_sub : OR K false (rI0 fun i j => .int (i - j)) fSub := or_I fun _ _ _ => rfl
theorem o_mul : OR K false (rI CMulB fun i j => .int (i * j)) fMul := or_C fun _ _ _ => rfl
theorem o_div : OR K false (rI CDivB fun i j => .int (i / j)) fDiv := or_C fun _ _ _ => rfl
theorem o_mod : OR K false (rI (fun _ j => 0 < j) fun i j => .int (i % j)) fMod := or_C fun _ _ _ => rfl
theorem o_pow : OR K false (rI CPow fun i j => .int (i ^ j.toNat)) fPow := or_C fun _ _ _ => rfl
theorem o_lt : OR K false (rI0 fun i j => .bl (decide (i < j))) fLt := or_I fun _ _ _ => rfl
theorem o_gt : OR K false (rI0 fun i j => .bl (decide (j < i))) fGt := or_I fun _ _ _ => rfl
theorem o_ge : OR K false (rI0 fun i j => .bl (decide (j ≤ i))) fGe := or_I fun _ _ _ => rfl
def fNeg : PyData → Option PyData
  | .int i => some (.int (-i))
  | _ => none
theorem u_neg : UR K false (rU fun i => .int (-i)) fNeg := by
  intro S H x dx d Q _ ix e q
  unfold fNeg at e
  split at e
  · cases e; exact ⟨_, ix, q _ H (fun _ _ e => e) rfl⟩
  · cases e
def fEq (x y : PyData) : Option PyData := if okD x && okD y then some (.bool (PyData.eqv x y)) else none
def fNe (x y : PyData) : Option PyData := if okD x && okD y then some (.bool (!PyData.eqv x y)) else none
theorem o_eq : OR K false (rEqK K) fEq := by
  intro S H x y dx dy d Q _ ix iy e q
  unfold fEq at e
  split at e
  · rename_i h
    rw [Bool.and_eq_true] at h
    cases e
    exact ⟨dx, dy, ix.mono same_hid, iy.mono same_hid, h.1, h.2, q _ H (fun _ _ e => e) rfl⟩
  · cases e
theorem o_ne : OR K false (rNeK K) fNe := by
  intro S H x y dx dy d Q _ ix iy e q
  unfold fNe at e
  split at e
  · rename_i h
    rw [Bool.and_eq_true] at h
    cases e
    exact ⟨dx, dy, ix.mono same_hid, iy.mono same_hid, h.1, h.2, q _ H (fun _ _ e => e) rfl⟩
  · cases e
def isNo : PyData → Bool
  | .none => true
  | _ => false
def fIsN (x y : PyData) : Option PyData := match y with
  | .none => some (.bool (isNo x))
  | _ => none
def fNotN (x y : PyData) : Option PyData := match y with
  | .none => some (.bool (!isNo x))
  | _ => none
theorem is_non {H : Hp} {x : PyData} {v : V} (h : Is K H x v) : decide (v = V.non) = isNo x := by
  cases x with
  | none => rw [show v = .non from h]; rfl
  | bool b => rw [show v = .bl b from h]; rfl
  | int b => rw [show v = .int b from h]; rfl
  | str b => rw [show v = .str b from h]; rfl
  | list b => obtain ⟨a, vs, rfl, _⟩ := h; rfl
  | tuple b => obtain ⟨a, vs, rfl, _⟩ := h; rfl
  | dict b => obtain ⟨a, ts, rfl, _⟩ := h; rfl
theorem o_isN : OR K false (fun x y H Q => y = .non ∧ Q (.bl (decide (x = .non))) H) fIsN := by
  intro S H x y dx dy d Q _ ix iy e q
  unfold fIsN at e
  split at e
  · cases e
    refine ⟨iy, ?_⟩
    rw [is_non ix]
    exact q _ H (fun _ _ e => e) rfl
  · cases e
theorem o_notN : OR K false (fun x y H Q => y = .non ∧ Q (.bl (!decide (x = .non))) H) fNotN := by
  intro S H x y dx dy d Q _ ix iy e q
  unfold fNotN at e
  split at e
  · cases e
    refine ⟨iy, ?_⟩
    rw [is_non ix]
    exact q _ H (fun _ _ e => e) rfl
  · cases e
def fIxL : PyData → PyData → Option PyData
  | .list xs, .int i => atI xs i
  | _, _ => none
def fIxT : PyData → PyData → Option PyData
  | .tuple xs, .int i => atI xs i
  | _, _ => none
theorem isl_at {H : Hp} {ds : List PyData} {vs : List V} {i : Int} {d : PyData} (h : IsL K H ds vs) (e : atI ds i = some d) : ∃ v, atI vs i = some v ∧ Is K H d v := by
  unfold atI at e ⊢
  rw [h.length]
  cases q : ixN ds.length i with
  | none => rw [q] at e; cases e
  | some j =>
    rw [q] at e
    exact h.get (show ds[j]? = some d from e)
theorem o_ixL : OR K false (rIxL K) fIxL := by
  intro S H x y dx dy d Q _ ix iy e q
  unfold fIxL at e
  split at e
  · obtain ⟨a, vs, rfl, h, l⟩ := ix
    obtain ⟨v, h1, h2⟩ := isl_at l e
    exact ⟨a, vs, _, v, rfl, iy, SqL.of (hid_iff.mp h).2, h1, q _ H (fun _ _ e => e) h2⟩
  · cases e
theorem o_ixT : OR K false (rIxT K) fIxT := by
  intro S H x y dx dy d Q _ ix iy e q
  unfold fIxT at e
  split at e
  · obtain ⟨a, vs, rfl, h, l⟩ := ix
    obtain ⟨v, h1, h2⟩ := isl_at l e
    exact ⟨a, vs, _, v, rfl, iy, Same.tup same_hid h, h1, q _ H (fun _ _ e => e) h2⟩
  · cases e
def fCat : PyData → PyData → Option PyData
  | .list xs, .list ys => if xs.length + ys.length ≤ sizeLine then some (.list (xs ++ ys)) else none
  | _, _ => none
theorem isl_append {H : Hp} : ∀ {xs ys : List PyData} {vs us : List V}, IsL K H xs vs → IsL K H ys us → IsL K H (xs ++ ys) (vs ++ us)
  | [], _, _, _, h, k => by rw [show _ = [] from h]; exact k
  | _ :: _, _, _, _, ⟨x, xs, e, h, l⟩, k => by subst e; exact ⟨x, _, rfl, h, isl_append l k⟩
theorem res_new {S : Addr → Prop} {H : Hp} {xs : List PyData} {vs : List V} {p : Addr} (hp : H p = none) (l : IsL K (hid S H) xs vs) : Res K true S H (upd H p (.lst vs)) (.list xs) (.ref p) := by
  refine ⟨.l xs, p, _, rfl, rfl, hp, upd_same, vs, rfl, l.mono (Keep.same fun b o hn e => ?_)⟩
  have : b ≠ p := ne_of_none e hp
  exact ⟨fun z => z.elim hn this, by rw [upd_ne this]; exact e⟩
theorem o_cat : OR K true rCat fCat := by
  intro S H x y dx dy d Q _ ix iy e q
  unfold fCat at e
  split at e
  · split at e
    · rename_i hz
      cases e
      obtain ⟨a, vs, rfl, h, l⟩ := ix
      obtain ⟨b, us, rfl, h', l'⟩ := iy
      refine ⟨a, b, vs, us, rfl, rfl, (hid_iff.mp h).2, (hid_iff.mp h').2, by rw [l.length, l'.length]; exact hz, fun p hp => ?_⟩
      exact q _ _ (same_new hp _) (res_new hp (isl_append l l'))
    · cases e
  · cases e
def dTest (a : DX) (τ : DS) : Option (Bool × DS) := (a τ).bind fun p => match p.1 with
  | .bool b => some (b, p.2)
  | _ => none
theorem t_test {fr : Bool} {t : TE} {a : DX} (h : E K t fr a) : T K (tTest t) (dTest a) := by
  refine ⟨fun τ d τ' e => ?_, ?_⟩
  · unfold dTest at e; obtain ⟨⟨x, τ1⟩, e1, e⟩ := Option.bind_eq_some_iff.mp e; dsimp only at e; split at e
    · cases e; exact h.like _ _ _ e1
    · cases e
  intro S M τ σ H Q b τ' r e q
  unfold dTest at e
  obtain ⟨⟨x, τ1⟩, e1, e⟩ := Option.bind_eq_some_iff.mp e
  dsimp only at e
  split at e
  · cases e
    refine h.run S M τ σ H _ _ _ r e1 fun v H' r' c i => ?_
    exact ⟨b, (show v = .bl b from r.isr i), q H' r' c⟩
  · cases e
theorem t_val {fr : Bool} {t : TE} {a : DX} (h : E K t fr a) : T K (tB t) (dTest a) := t_test h
def dTAnd (a b : DT) (τ : DS) : Option (Bool × DS) := (a τ).bind fun p => if p.1 = true then b p.2 else some (false, p.2)
def dTOr (a b : DT) (τ : DS) : Option (Bool × DS) := (a τ).bind fun p => if p.1 = true then some (true, p.2) else b p.2
def dTNot (a : DT) (τ : DS) : Option (Bool × DS) := (a τ).map fun p => (!p.1, p.2)
theorem t_and {ta tb : TT} {a b : DT} (ha : T K ta a) (hb : T K tb b) : T K (tAnd ta tb) (dTAnd a b) := by
  refine ⟨fun τ d τ' e => ?_, ?_⟩
  · unfold dTAnd at e; obtain ⟨⟨c, τ1⟩, e1, e⟩ := Option.bind_eq_some_iff.mp e; cases c with
    | true => exact (ha.like _ _ _ e1).trans (hb.like _ _ _ e)
    | false => cases e; exact ha.like _ _ _ e1
  intro S M τ σ H Q k τ' r e q
  unfold dTAnd at e
  obtain ⟨⟨c, τ1⟩, e1, e⟩ := Option.bind_eq_some_iff.mp e
  refine ha.run S M τ σ H _ c τ1 r e1 fun H1 r1 c1 => ?_
  cases c with
  | true => exact hb.run S M τ1 σ H1 _ k τ' r1 e fun H2 r2 c2 => q H2 r2 (c1.trans c2)
  | false => cases e; exact q H1 r1 c1
theorem t_or {ta tb : TT} {a b : DT} (ha : T K ta a) (hb : T K tb b) : T K (tOr ta tb) (dTOr a b) := by
  refine ⟨fun τ d τ' e => ?_, ?_⟩
  · unfold dTOr at e; obtain ⟨⟨c, τ1⟩, e1, e⟩ := Option.bind_eq_some_iff.mp e; cases c with
    | false => exact (ha.like _ _ _ e1).trans (hb.like _ _ _ e)
    | true => cases e; exact ha.like _ _ _ e1
  intro S M τ σ H Q k τ' r e q
  unfold dTOr at e
  obtain ⟨⟨c, τ1⟩, e1, e⟩ := Option.bind_eq_some_iff.mp e
  refine ha.run S M τ σ H _ c τ1 r e1 fun H1 r1 c1 => ?_
  cases c with
  | false => exact hb.run S M τ1 σ H1 _ k τ' r1 e fun H2 r2 c2 => q H2 r2 (c1.trans c2)
  | true => cases e; exact q H1 r1 c1
theorem t_not {ta : TT} {a : DT} (ha : T K ta a) : T K (tNot ta) (dTNot a) := by
  refine ⟨fun τ d τ' e => ?_, ?_⟩
  · unfold dTNot at e; obtain ⟨⟨c, τ1⟩, e1, e⟩ := Option.map_eq_some_iff.mp e; cases e; exact ha.like _ _ _ e1
  intro S M τ σ H Q k τ' r e q
  unfold dTNot at e
  obtain ⟨⟨c, τ1⟩, e1, e⟩ := Option.map_eq_some_iff.mp e
  cases e
  exact ha.run S M τ σ H _ c _ r e1 fun H1 r1 c1 => q H1 r1 c1
def dIf (c : DT) (a b : DX) (τ : DS) : Option (PyData × DS) := (c τ).bind fun p => if p.1 = true then a p.2 else b p.2
theorem e_if {fr : Bool} {tc : TT} {ta tb : TE} {c : DT} {a b : DX} (hc : T K tc c) (ha : E K ta fr a) (hb : E K tb fr b) : E K (tIf tc ta tb) fr (dIf c a b) := by
  refine ⟨fun τ d τ' e => ?_, ?_⟩
  · unfold dIf at e; obtain ⟨⟨c, τ1⟩, e1, e⟩ := Option.bind_eq_some_iff.mp e; cases c with
    | true => exact (hc.like _ _ _ e1).trans (ha.like _ _ _ e)
    | false => exact (hc.like _ _ _ e1).trans (hb.like _ _ _ e)
  intro S M τ σ H Q d τ' r e q
  unfold dIf at e
  obtain ⟨⟨k, τ1⟩, e1, e⟩ := Option.bind_eq_some_iff.mp e
  refine hc.run S M τ σ H _ k τ1 r e1 fun H1 r1 c1 => ?_
  cases k with
  | true => exact ha.run S M τ1 σ H1 _ d τ' r1 e fun v H2 r2 c2 i => q v H2 r2 (c1.trans c2) (i.back r1 c1)
  | false => exact hb.run S M τ1 σ H1 _ d τ' r1 e fun v H2 r2 c2 i => q v H2 r2 (c1.trans c2) (i.back r1 c1)
def dAnd (a b : DX) (τ : DS) : Option (PyData × DS) := (dTest a τ).bind fun p => if p.1 = true then b p.2 else some (.bool false, p.2)
def dOr (a b : DX) (τ : DS) : Option (PyData × DS) := (dTest a τ).bind fun p => if p.1 = true then some (.bool true, p.2) else b p.2
def dNot (a : DX) (τ : DS) : Option (PyData × DS) := (dTest a τ).map fun p => (.bool (!p.1), p.2)
theorem e_and {fa fb : Bool} {ta tb : TE} {a b : DX} (ha : E K ta fa a) (hb : E K tb fb b) : E K (tAndV ta tb) false (dAnd a b) := by
  refine ⟨fun τ d τ' e => ?_, ?_⟩
  · unfold dAnd at e; obtain ⟨⟨c, τ1⟩, e1, e⟩ := Option.bind_eq_some_iff.mp e; cases c with
    | true => exact ((t_test ha).like _ _ _ e1).trans (hb.like _ _ _ e)
    | false => cases e; exact (t_test ha).like _ _ _ e1
  intro S M τ σ H Q d τ' r e q
  unfold dAnd at e
  obtain ⟨⟨k, τ1⟩, e1, e⟩ := Option.bind_eq_some_iff.mp e
  refine (t_test ha).run S M τ σ H (fun c H1 => if c = true then tb σ H1 Q else Q (.bl false) H1) k τ1 r e1 fun H1 r1 c1 => ?_
  cases k with
  | true => exact hb.weak.run S M τ1 σ H1 _ d τ' r1 e fun v H2 r2 c2 i => q v H2 r2 (c1.trans c2) i
  | false => cases e; exact q _ H1 r1 c1 rfl
def dChain (F G : PyData → PyData → Option PyData) (a b c : DX) (τ : DS) : Option (PyData × DS) := (a τ).bind fun p => (b p.2).bind fun q => (F p.1 q.1).bind fun z => match z with
  | .bool true => (c q.2).bind fun s => (G q.1 s.1).map fun d => (d, s.2)
  | .bool false => some (.bool false, q.2)
  | _ => none
end DL
end
section
set_option Elab.async false
set_option linter.all false
set_option maxRecDepth 100000
namespace DL
open PySem L2
variable {K : PySem.W.Frag}
def dANil (τ : DS) : Option (List Ar × DS) := some ([], τ)
def dACons (a : DX) (r : DA) (τ : DS) : Option (List Ar × DS) := (a τ).bind fun p => (r p.2).map fun q => (.d p.1 :: q.1, q.2)
theorem a_nil : A K tNil dANil := by
  refine ⟨fun τ d τ' e => ?_, ?_⟩
  · cases e; exact .refl
  intro S M τ σ H Q rs τ' r e q
  cases e
  exact q [] H r .refl rfl
theorem a_cons {fr : Bool} {te : TE} {t : TA} {a : DX} {f : DA} (ha : E K te fr a) (hr : A K t f) : A K (tCons te t) (dACons a f) := by
  refine ⟨fun τ d τ' e => ?_, ?_⟩
  · unfold dACons at e
    obtain ⟨⟨x, τ1⟩, e1, e⟩ := Option.bind_eq_some_iff.mp e
    obtain ⟨⟨y, τ2⟩, e2, e⟩ := Option.map_eq_some_iff.mp e
    cases e
    exact (ha.like _ _ _ e1).trans (hr.like _ _ _ e2)
  intro S M τ σ H Q rs τ' r e q
  unfold dACons at e
  obtain ⟨⟨x, τ1⟩, e1, e⟩ := Option.bind_eq_some_iff.mp e
  obtain ⟨⟨y, τ2⟩, e2, e⟩ := Option.map_eq_some_iff.mp e
  cases e
  refine ha.run S M τ σ H _ x τ1 r e1 fun v H1 r1 c1 i1 => ?_
  refine hr.run S M τ1 σ H1 _ y _ r1 e2 fun vs H2 r2 c2 i2 => ?_
  exact q (v :: vs) H2 r2 (c1.trans c2) ⟨v, vs, rfl, (r.isr i1).mono (c2.keep r1.sub).same, i2⟩
def allD : List Ar → Option (List PyData)
  | [] => some []
  | .d x :: r => (allD r).map (x :: ·)
  | .s _ :: _ => none
theorem allD_is {S : Addr → Prop} {σ : St} {H : Hp} : ∀ {rs : List Ar} {vs : List V} {ds : List PyData}, ArIs K S σ H rs vs → allD rs = some ds → IsL K (hid S H) ds vs
  | [], _, _, h, e => by cases e; exact h
  | .d x :: r, _, _, ⟨v, us, e1, h, l⟩, e => by
    obtain ⟨ds, e2, e⟩ := Option.map_eq_some_iff.mp e
    cases e
    exact ⟨v, us, e1, h, allD_is l e2⟩
  | .s _ :: _, _, _, _, e => by cases e
def dTup (a : DA) (τ : DS) : Option (PyData × DS) := (a τ).bind fun p => (allD p.1).bind fun ds => if ds.length ≤ sizeLine then some (.tuple ds, p.2) else none
def dLst (a : DA) (τ : DS) : Option (PyData × DS) := (a τ).bind fun p => (allD p.1).bind fun ds => if ds.length ≤ sizeLine then some (.list ds, p.2) else none
theorem e_tup {t : TA} {a : DA} (ha : A K t a) : E K (tTup t) false (dTup a) := by
  refine ⟨fun τ d τ' e => ?_, ?_⟩
  · unfold dTup at e
    obtain ⟨⟨x, τ1⟩, e1, e⟩ := Option.bind_eq_some_iff.mp e
    obtain ⟨ds, e2, e⟩ := Option.bind_eq_some_iff.mp e
    split at e
    · cases e; exact ha.like _ _ _ e1
    · cases e
  intro S M τ σ H Q d τ' r e q
  unfold dTup at e
  obtain ⟨⟨x, τ1⟩, e1, e⟩ := Option.bind_eq_some_iff.mp e
  obtain ⟨ds, e2, e⟩ := Option.bind_eq_some_iff.mp e
  split at e
  · rename_i hz
    cases e
    refine ha.run S M τ σ H _ x _ r e1 fun vs H1 r1 c1 i1 => ?_
    have l := allD_is i1 e2
    refine ⟨by rw [l.length]; exact hz, fun p hp => ?_⟩
    have s := same_new hp (HO.tup vs)
    exact q _ _ (r1.same s) (c1.trans (.of s)) ⟨p, vs, rfl, SqT.of (hid_iff.mpr ⟨r1.fresh hp, upd_same⟩), l.mono (Same.keep s).same⟩
  · cases e
theorem e_lst {t : TA} {a : DA} (ha : A K t a) : E K (tLst t) true (dLst a) := by
  refine ⟨fun τ d τ' e => ?_, ?_⟩
  · unfold dLst at e
    obtain ⟨⟨x, τ1⟩, e1, e⟩ := Option.bind_eq_some_iff.mp e
    obtain ⟨ds, e2, e⟩ := Option.bind_eq_some_iff.mp e
    split at e
    · cases e; exact ha.like _ _ _ e1
    · cases e
  intro S M τ σ H Q d τ' r e q
  unfold dLst at e
  obtain ⟨⟨x, τ1⟩, e1, e⟩ := Option.bind_eq_some_iff.mp e
  obtain ⟨ds, e2, e⟩ := Option.bind_eq_some_iff.mp e
  split at e
  · rename_i hz
    cases e
    refine ha.run S M τ σ H _ x _ r e1 fun vs H1 r1 c1 i1 => ?_
    have l := allD_is i1 e2
    refine ⟨by rw [l.length]; exact hz, fun p hp => ?_⟩
    have s := same_new hp (HO.lst vs)
    exact q _ _ (r1.same s) (c1.trans (.of s)) ((res_new hp l).back r1 c1)
  · cases e
def BR (K : PySem.W.Frag) (fr : Bool) (r : List V → Hp → VK → Prop) (F : List PyData → Option PyData) : Prop := ∀ (S : Addr → Prop) H vs ds d (Q : VK), (∀ a, H a = none → ¬ S a) → IsL K (hid S H) ds vs → F ds = some d → (∀ v H', Same H H' → Res K fr S H H' d v → Q v H') → r vs H Q
def dApp (F : List PyData → Option PyData) (a : DA) (τ : DS) : Option (PyData × DS) := (a τ).bind fun p => (allD p.1).bind fun ds => (F ds).map fun d => (d, p.2)
theorem e_app {fr : Bool} {r : List V → Hp → VK → Prop} {F : List PyData → Option PyData} {t : TA} {a : DA} (h : BR K fr r F) (ha : A K t a) : E K (tCB r t) fr (dApp F a) := by
  refine ⟨fun τ d τ' e => ?_, ?_⟩
  · unfold dApp at e
    obtain ⟨⟨x, τ1⟩, e1, e⟩ := Option.bind_eq_some_iff.mp e
    obtain ⟨ds, e2, e⟩ := Option.bind_eq_some_iff.mp e
    obtain ⟨z, e3, e⟩ := Option.map_eq_some_iff.mp e
    cases e; exact ha.like _ _ _ e1
  intro S M τ σ H Q d τ' rr e q
  unfold dApp at e
  obtain ⟨⟨x, τ1⟩, e1, e⟩ := Option.bind_eq_some_iff.mp e
  obtain ⟨ds, e2, e⟩ := Option.bind_eq_some_iff.mp e
  obtain ⟨z, e3, e⟩ := Option.map_eq_some_iff.mp e
  cases e
  refine ha.run S M τ σ H _ x _ rr e1 fun vs H1 r1 c1 i1 => ?_
  refine h S H1 vs ds d _ (fun _ => r1.fresh) (allD_is i1 e2) e3 fun v H' s res => ?_
  exact q v H' (r1.same s) (c1.trans (.of s)) (res.back r1 c1)
def spD (K : PySem.W.Frag) (G : List L → Option (PyData × List L)) (fr : Bool) : Sp := fun vs H Q _ => ∃ (S M : Addr → Prop) (ls : List L) (r : PyData) (ls' : List L), R K S M (ls.map some) (vs.map some) H ∧ G ls = some (r, ls') ∧
  ∀ v H', R K S M (ls'.map some) (vs.map some) H' → Chg M H H' → Res K fr S H H' r v → Q v H'
theorem r_args {S M : Addr → Prop} {τ : DS} {σ : St} {H : Hp} (r : R K S M τ σ H) {ds : List PyData} {vs : List V} (l : IsL K (hid S H) ds vs) : R K S (fun _ => False) ((ds.map L.d).map some) (vs.map some) H where
  len := by rw [List.length_map, List.length_map, List.length_map, l.length]
  dat := fun i x e => by
    rw [List.getElem?_map, List.getElem?_map] at e
    cases q : ds[i]? with
    | none => rw [q] at e; cases e
    | some d =>
      rw [q] at e
      cases e
      obtain ⟨v, h1, h2⟩ := l.get q
      exact ⟨v, by rw [List.getElem?_map, h1]; rfl, h2⟩
  mt := fun i o e => by
    rw [List.getElem?_map, List.getElem?_map] at e
    cases q : ds[i]? with
    | none => rw [q] at e; cases e
    | some d => rw [q] at e; cases o <;> cases e
  cst := fun i xs e => by
    rw [List.getElem?_map, List.getElem?_map] at e
    cases q : ds[i]? with
    | none => rw [q] at e; cases e
    | some d => rw [q] at e; cases e
  inj := fun i j o p a e => by
    rw [List.getElem?_map, List.getElem?_map] at e
    cases q : ds[i]? with
    | none => rw [q] at e; cases e
    | some d => rw [q] at e; cases o <;> cases e
  sub := fun a h => h.elim
  ex := r.ex
def dCall (G : List L → Option (PyData × List L)) (a : DA) (τ : DS) : Option (PyData × DS) := (a τ).bind fun p => (allD p.1).bind fun ds => (G (ds.map L.d)).map fun q => (q.1, p.2)
theorem e_call {fr : Bool} {G : List L → Option (PyData × List L)} {t : TA} {a : DA} {X : XK} (ha : A K t a) : E K (tCall (spD K G fr) [] X t) fr (dCall G a) := by
  refine ⟨fun τ d τ' e => ?_, ?_⟩
  · unfold dCall at e
    obtain ⟨⟨x, τ1⟩, e1, e⟩ := Option.bind_eq_some_iff.mp e
    obtain ⟨ds, e2, e⟩ := Option.bind_eq_some_iff.mp e
    obtain ⟨z, e3, e⟩ := Option.map_eq_some_iff.mp e
    cases e; exact ha.like _ _ _ e1
  intro S M τ σ H Q d τ' rr e q
  unfold dCall at e
  obtain ⟨⟨x, τ1⟩, e1, e⟩ := Option.bind_eq_some_iff.mp e
  obtain ⟨ds, e2, e⟩ := Option.bind_eq_some_iff.mp e
  obtain ⟨⟨z, ls'⟩, e3, e⟩ := Option.map_eq_some_iff.mp e
  cases e
  refine ha.run S M τ σ H _ x _ rr e1 fun vs H1 r1 c1 i1 => ?_
  have l := allD_is i1 e2
  show spD K G fr (vs ++ []) H1 Q X
  rw [List.append_nil]
  refine ⟨S, fun _ => False, ds.map L.d, _, ls', r_args r1 l, e3, fun v H' _ c res => ?_⟩
  have s : Same H1 H' := fun b o e => c b o (fun z => z) e
  exact q v H' (r1.same s) (c1.trans (.of s)) (res.back r1 c1)
theorem owL_inj {a b : Ow} (h : some (some a.L) = some (some b.L)) : a = b := Ow.inj (Option.some.inj (Option.some.inj h))
theorem R.setO {S M : Addr → Prop} {τ : DS} {σ : St} {H H' : Hp} (r : R K S M τ σ H) {i : Nat} {a : Addr} {w w' : Ow} {h : HO} (hi : τ[i]? = some (some w.L)) (ha : σ[i]? = some (some (.ref a)))
    (c : Chg (fun b => b = a) H H') (h' : H' a = some h) (l : IsO K (hid S H') w' a h) : R K S M (τ.set i (some w'.L)) σ H' := by
  have hlt : i < τ.length := (List.getElem?_eq_some_iff.mp hi).1
  have Sa : S a := by
    obtain ⟨b, us, h1, h2, _⟩ := r.mt i w hi
    rw [ha] at h1; cases h1
    exact r.sub _ h2
  have k : Keep S H S H' := c.keep fun b e => by subst e; exact Sa
  have ne : ∀ j, j ≠ i → (τ.set i (some w'.L))[j]? = τ[j]? := fun j hj => List.getElem?_set_ne (Ne.symm hj)
  have se : (τ.set i (some w'.L))[i]? = some (some w'.L) := List.getElem?_set_self hlt
  refine ⟨by rw [List.length_set]; exact r.len, fun j x e => ?_, fun j ys e => ?_, fun j x e => ?_, fun j1 j2 ys zs b e1 e2 f1 f2 => ?_, r.sub, fun b hb => ?_⟩
  · by_cases hj : j = i
    · subst hj; rw [se] at e; exact absurd (Option.some.inj (Option.some.inj e)) Ow.not_d
    · rw [ne j hj] at e
      obtain ⟨v, h1, h2⟩ := r.dat j x e
      exact ⟨v, h1, h2.mono k.same⟩
  · by_cases hj : j = i
    · subst hj
      rw [se] at e
      obtain rfl := Ow.inj (Option.some.inj (Option.some.inj e))
      obtain ⟨b, us, h1, h2, _⟩ := r.mt j w hi
      rw [ha] at h1; cases h1
      exact ⟨a, h, ha, h2, h', l⟩
    · rw [ne j hj] at e
      obtain ⟨b, us, h1, h2, h3, h4⟩ := r.mt j ys e
      refine ⟨b, us, h1, h2, c b _ (fun z => ?_) h3, h4.mono k.same⟩
      subst z
      exact hj (r.inj j i ys w b e hi h1 ha)
  · by_cases hj : j = i
    · subst hj; rw [se] at e; exact absurd (Option.some.inj (Option.some.inj e)) Ow.not_c
    · rw [ne j hj] at e
      obtain ⟨b, us, h1, h2, h3⟩ := r.cst j x e
      exact ⟨b, us, h1, k.same.seq h2, h3.mono k.same⟩
  · have g : ∀ (j : Nat) (ys : Ow), (τ.set i (some w'.L))[j]? = some (some ys.L) → ∃ zs : Ow, τ[j]? = some (some zs.L) := fun j ys e => by
      by_cases hj : j = i
      · subst hj; exact ⟨_, hi⟩
      · rw [ne j hj] at e; exact ⟨_, e⟩
    obtain ⟨_, g1⟩ := g j1 ys e1
    obtain ⟨_, g2⟩ := g j2 zs e2
    exact r.inj _ _ _ _ b g1 g2 f1 f2
  · by_cases e : b = a
    · subst e; exact ⟨_, h'⟩
    · obtain ⟨o, q⟩ := r.ex b hb
      exact ⟨o, c b o e q⟩
theorem R.setM {S M : Addr → Prop} {τ : DS} {σ : St} {H H' : Hp} (r : R K S M τ σ H) {i : Nat} {a : Addr} {xs xs' : List PyData} {vs : List V} (hi : τ[i]? = some (some (.m xs))) (ha : σ[i]? = some (some (.ref a)))
    (c : Chg (fun b => b = a) H H') (h' : H' a = some (.lst vs)) (l : IsL K (hid S H') xs' vs) : R K S M (τ.set i (some (.m xs'))) σ H' := r.setO (w := .l xs) (w' := .l xs') hi ha c h' ⟨vs, rfl, l⟩
theorem like_setO {τ : DS} {i : Nat} {w w' : Ow} (hi : τ[i]? = some (some w.L)) (hf : w.fl = w'.fl) : Like τ (τ.set i (some w'.L)) := by
  have hlt : i < τ.length := (List.getElem?_eq_some_iff.mp hi).1
  refine ⟨by rw [List.length_set], fun j => ?_⟩
  by_cases hj : j = i
  · subst hj
    rw [List.getElem?_set_self hlt, hi]
    exact ⟨⟨fun x => ⟨fun z => absurd (Option.some.inj (Option.some.inj z)) Ow.not_d, fun z => absurd (Option.some.inj (Option.some.inj z)) Ow.not_d⟩, fun x => ⟨fun z => absurd (Option.some.inj (Option.some.inj z)) Ow.not_c, fun z => absurd (Option.some.inj (Option.some.inj z)) Ow.not_c⟩⟩, fun b => ⟨fun ⟨o, h1, h2⟩ => ⟨w, by rw [hf, owL_inj h2]; exact h1, rfl⟩, fun ⟨o, h1, h2⟩ => ⟨w', by rw [← hf, owL_inj h2]; exact h1, rfl⟩⟩⟩
  · rw [List.getElem?_set_ne (Ne.symm hj)]
    exact ⟨⟨fun x => Iff.rfl, fun x => Iff.rfl⟩, fun b => Iff.rfl⟩
theorem like_setM {τ : DS} {i : Nat} {xs xs' : List PyData} (hi : τ[i]? = some (some (.m xs))) : Like τ (τ.set i (some (.m xs'))) := like_setO (w := .l xs) (w' := .l xs') hi rfl
def dCallM (i : Nat) (G : List L → Option (PyData × List L)) (a : DA) (τ : DS) : Option (PyData × DS) := (a τ).bind fun p => (allD p.1).bind fun ds => match p.2[i]? with
  | some (some (.m xs)) => (G (.m xs :: ds.map L.d)).bind fun q => match q.2 with
    | .m xs' :: _ => some (q.1, p.2.set i (some (.m xs')))
    | _ => none
  | some (some (.k xs)) => (G (.k xs :: ds.map L.d)).bind fun q => match q.2 with
    | .k xs' :: _ => some (q.1, p.2.set i (some (.k xs')))
    | _ => none
  | _ => none
theorem dCallM_some {i : Nat} {G : List L → Option (PyData × List L)} {a : DA} {τ : DS} {d : PyData} {τ' : DS} (e : dCallM i G a τ = some (d, τ')) :
    ∃ rs τ1 ds w w' r, a τ = some (rs, τ1) ∧ allD rs = some ds ∧ τ1[i]? = some (some (Ow.L w)) ∧ G (w.L :: ds.map L.d) = some (d, Ow.L w' :: r) ∧ τ' = τ1.set i (some w'.L) ∧ w.fl = w'.fl := by
  unfold dCallM at e
  obtain ⟨⟨x, τ1⟩, e1, e⟩ := Option.bind_eq_some_iff.mp e
  obtain ⟨ds, e2, e⟩ := Option.bind_eq_some_iff.mp e
  dsimp only at e
  split at e
  · rename_i xs hx
    obtain ⟨⟨z, ls'⟩, e3, e⟩ := Option.bind_eq_some_iff.mp e
    dsimp only at e
    split at e
    · rename_i xs' rest
      cases e
      exact ⟨x, τ1, ds, .l xs, .l xs', rest, e1, e2, hx, e3, rfl, rfl⟩
    · cases e
  · rename_i xs hx
    obtain ⟨⟨z, ls'⟩, e3, e⟩ := Option.bind_eq_some_iff.mp e
    dsimp only at e
    split at e
    · rename_i xs' rest
      cases e
      exact ⟨x, τ1, ds, .t xs, .t xs', rest, e1, e2, hx, e3, rfl, rfl⟩
    · cases e
  · cases e
theorem e_callM {i : Nat} {fr : Bool} {G : List L → Option (PyData × List L)} {t : TA} {a : DA} {X : XK} (ha : A K t a) : E K (tCall (spD K G fr) [] X (tCons (tVar i) t)) fr (dCallM i G a) := by
  refine ⟨fun τ d τ' e => ?_, ?_⟩
  · obtain ⟨rs, τ1, ds, xs, xs', r, e1, e2, e3, e4, rfl, e5⟩ := dCallM_some e
    exact (ha.like _ _ _ e1).trans (like_setO e3 e5)
  intro S M τ σ H Q d τ' rr e q
  obtain ⟨rs, τ1, ds, xs, xs', r, e1, e2, e3, e4, rfl, _⟩ := dCallM_some e
  have lk := ha.like _ _ _ e1
  obtain ⟨zs, hz⟩ := (lk.own i).mp ⟨_, e3⟩
  obtain ⟨p, us, hp, hM, _, _⟩ := rr.mt i zs hz
  refine ⟨.ref p, hp, ?_⟩
  refine ha.run S M τ σ H _ rs _ rr e1 fun vs H1 r1 c1 i1 => ?_
  have l := allD_is i1 e2
  obtain ⟨p', us', hp', hM', hl, ll⟩ := r1.mt i xs e3
  rw [hp] at hp'; cases hp'
  show spD K G fr ((.ref p :: vs) ++ []) H1 Q X
  rw [List.append_nil]
  have ra := r_args r1 l
  refine ⟨S, fun b => b = p, xs.L :: ds.map L.d, _, xs'.L :: r, ⟨?_, ?_, ?_, ?_, ?_, ?_, r1.ex⟩, e4, fun v H' r' c res => ?_⟩
  · have := ra.len
    simp only [List.length_map, List.map_cons, List.length_cons] at this ⊢
    omega
  · intro j x e
    cases j with
    | zero => exact absurd (Option.some.inj (Option.some.inj e)) Ow.not_d
    | succ j => exact ra.dat j x (by simpa using e)
  · intro j ys e
    cases j with
    | zero => obtain rfl := owL_inj e; exact ⟨p, us', rfl, rfl, hl, ll⟩
    | succ j => obtain ⟨_, _, _, h, _⟩ := ra.mt j ys (by simpa using e); exact h.elim
  · intro j ys e
    cases j with
    | zero => exact absurd (Option.some.inj (Option.some.inj e)) Ow.not_c
    | succ j => exact ra.cst j ys (by simpa using e)
  · intro j k ys ws b e1 e2 _ _
    cases j with
    | zero => cases k with
      | zero => rfl
      | succ k => obtain ⟨_, _, _, h, _⟩ := ra.mt k ws (by simpa using e2); exact h.elim
    | succ j => obtain ⟨_, _, _, h, _⟩ := ra.mt j ys (by simpa using e1); exact h.elim
  · rintro b rfl
    exact r1.sub _ hM'
  · obtain ⟨p2, us2, h1, h2, h3, h4⟩ := r'.mt 0 xs' rfl
    cases h1
    exact q v H' (r1.setO e3 hp c h3 h4) (c1.trans fun b o hn e => c b o (fun z => hn (by subst z; exact hM')) e) (res.back r1 c1)
def okM : Option L → Bool
  | some (.m xs) => fixDs xs
  | some (.k kvs) => fixDs (kvs.map (·.2))
  | _ => true
theorem IsKV.monoT {H H' : Hp} (s : TSm H H') : ∀ {kvs : List (List Int × PyData)} {ts : List (List Int × Addr × V)}, fixDs (kvs.map (·.2)) = true → IsKV K H (dctP kvs) ts → IsKV K H' (dctP kvs) ts
  | [], _, _, h => h
  | (k, d) :: kvs, _, f, ⟨t, tr, e, ek, hk, h, l⟩ => by
    rw [List.map_cons, fixDs, Bool.and_eq_true] at f
    exact ⟨t, tr, e, ek, s.tup hk, Is.monoT s f.1 h, IsKV.monoT s (kvs := kvs) f.2 l⟩
theorem IsO.monoT {H H' : Hp} (s : TSm H H') : ∀ {o : Ow} {a : Addr} {h : HO}, okM (some o.L) = true → IsO K H o a h → IsO K H' o a h
  | .l _, _, _, f, ⟨vs, e, l⟩ => ⟨vs, e, l.monoT s f⟩
  | .t _, _, _, f, ⟨ts, e, l⟩ => ⟨ts, e, IsKV.monoT s f l⟩
def OwH (h : HO) : Prop := (∃ vs, h = .lst vs) ∨ ∃ φ, h = .ext φ
theorem IsO.ho {H : Hp} : ∀ {o : Ow} {a : Addr} {h : HO}, IsO K H o a h → OwH h
  | .l _, _, _, ⟨vs, e, _⟩ => .inl ⟨vs, e⟩
  | .t _, _, _, ⟨ts, e, _⟩ => .inr ⟨_, e⟩
def dBor (i : Nat) (f : DX) (τ : DS) : Option (PyData × DS) := match τ[i]? with
  | some (some (.m xs)) => (f (τ.set i (some (.d (.list xs))))).bind fun q => if fixD q.1 && q.2.all okM then some (q.1, q.2.set i (some (.m xs))) else none
  | some (some (.k xs)) => (f (τ.set i (some (.d (.dict (dctP xs)))))).bind fun q => if fixD q.1 && q.2.all okM then some (q.1, q.2.set i (some (.k xs))) else none
  | _ => none
theorem dBor_some {i : Nat} {f : DX} {τ : DS} {d : PyData} {τ' : DS} (e : dBor i f τ = some (d, τ')) : ∃ w τ1, τ[i]? = some (some (Ow.L w)) ∧ f (τ.set i (some (.d w.D))) = some (d, τ1) ∧ fixD d = true ∧ τ1.all okM = true ∧ τ' = τ1.set i (some w.L) := by
  unfold dBor at e
  split at e
  · rename_i xs hx
    obtain ⟨⟨z, τ1⟩, e1, e⟩ := Option.bind_eq_some_iff.mp e
    dsimp only at e
    split at e
    · rename_i h
      rw [Bool.and_eq_true] at h
      cases e
      exact ⟨.l xs, τ1, hx, e1, h.1, h.2, rfl⟩
    · cases e
  · rename_i xs hx
    obtain ⟨⟨z, τ1⟩, e1, e⟩ := Option.bind_eq_some_iff.mp e
    dsimp only at e
    split at e
    · rename_i h
      rw [Bool.and_eq_true] at h
      cases e
      exact ⟨.t xs, τ1, hx, e1, h.1, h.2, rfl⟩
    · cases e
  · cases e
theorem tsame_hid {S S' : Addr → Prop} {H : Hp} (h : ∀ a, S' a → S a ∨ ∃ o, H a = some o ∧ OwH o) : TSm (hid S H) (hid S' H) := fun b o e nl ne => by
  obtain ⟨e1, e2⟩ := hid_iff.mp e
  refine hid_iff.mpr ⟨fun z => ?_, e2⟩
  rcases h b z with z | ⟨o', z, ⟨vs, rfl⟩ | ⟨φ, rfl⟩⟩
  · exact e1 z
  · rw [e2] at z; cases z; exact nl _ rfl
  · rw [e2] at z; cases z; exact ne _ rfl
theorem frz {S M : Addr → Prop} {τ : DS} {σ : St} {H : Hp} (r : R K S M τ σ H) {i : Nat} {w : Ow} {p : Addr} (hi : τ[i]? = some (some w.L)) (hp : σ[i]? = some (some (.ref p))) :
    R K (fun b => S b ∧ b ≠ p) (fun b => M b ∧ b ≠ p) (τ.set i (some (.d w.D))) σ H := by
  have hlt : i < τ.length := (List.getElem?_eq_some_iff.mp hi).1
  have ne : ∀ j, j ≠ i → (τ.set i (some (.d w.D)))[j]? = τ[j]? := fun j hj => List.getElem?_set_ne (Ne.symm hj)
  have se : (τ.set i (some (.d w.D)))[i]? = some (some (.d w.D)) := List.getElem?_set_self hlt
  have k : Same (hid S H) (hid (fun b => S b ∧ b ≠ p) H) := hid_less fun a z => z.1
  have mn : ∀ (j : Nat) (ys : Ow), (τ.set i (some (.d w.D)))[j]? = some (some ys.L) → j ≠ i ∧ τ[j]? = some (some ys.L) := fun j ys e => by
    by_cases hj : j = i
    · subst hj; rw [se] at e; exact absurd (Option.some.inj (Option.some.inj e)).symm Ow.not_d
    · rw [ne j hj] at e; exact ⟨hj, e⟩
  have cs : ∀ (j : Nat) (ys : List PyData), (τ.set i (some (.d w.D)))[j]? = some (some (.c ys)) → τ[j]? = some (some (.c ys)) := fun j ys e => by
    by_cases hj : j = i
    · subst hj; rw [se] at e; cases e
    · rw [ne j hj] at e; exact e
  refine ⟨by rw [List.length_set]; exact r.len, fun j x e => ?_, fun j ys e => ?_, fun j ys e => let ⟨a, vs, h1, h2, h3⟩ := r.cst j ys (cs j ys e); ⟨a, vs, h1, k.seq h2, h3.mono k⟩, fun j1 j2 ys zs b e1 e2 f1 f2 => ?_, fun a h => ⟨r.sub a h.1, h.2⟩, fun a h => r.ex a h.1⟩
  · by_cases hj : j = i
    · subst hj
      rw [se] at e
      cases e
      obtain ⟨b, us, h1, h2, h3, h4⟩ := r.mt j w hi
      rw [hp] at h1; cases h1
      exact ⟨_, hp, IsO.is (h4.mono k) (hid_iff.mpr ⟨fun z => z.2 rfl, h3⟩)⟩
    · rw [ne j hj] at e
      obtain ⟨v, h1, h2⟩ := r.dat j x e
      exact ⟨v, h1, h2.mono k⟩
  · obtain ⟨hj, e⟩ := mn j ys e
    obtain ⟨b, us, h1, h2, h3, h4⟩ := r.mt j ys e
    refine ⟨b, us, h1, ⟨h2, fun z => ?_⟩, h3, h4.mono k⟩
    subst z
    exact hj (r.inj j i ys w b e hi h1 hp)
  · exact r.inj j1 j2 ys zs b (mn _ _ e1).2 (mn _ _ e2).2 f1 f2
theorem unfrz {S M : Addr → Prop} {τ τ1 : DS} {σ : St} {H H' : Hp} (r : R K S M τ σ H) {i : Nat} {w : Ow} {p : Addr} (hi : τ[i]? = some (some w.L)) (hp : σ[i]? = some (some (.ref p)))
    (r1 : R K (fun b => S b ∧ b ≠ p) (fun b => M b ∧ b ≠ p) τ1 σ H') (lk : Like (τ.set i (some (.d w.D))) τ1) (c : Chg (fun b => M b ∧ b ≠ p) H H') (ok : τ1.all okM = true) : R K S M (τ1.set i (some w.L)) σ H' := by
  have hlt : i < τ.length := (List.getElem?_eq_some_iff.mp hi).1
  have hl1 : τ1.length = τ.length := by have := lk.1; rw [List.length_set] at this; exact this
  have hlt1 : i < τ1.length := by omega
  have ne : ∀ j, j ≠ i → (τ1.set i (some w.L))[j]? = τ1[j]? := fun j hj => List.getElem?_set_ne (Ne.symm hj)
  have se : (τ1.set i (some w.L))[i]? = some (some w.L) := List.getElem?_set_self hlt1
  have ne0 : ∀ j, j ≠ i → (τ.set i (some (.d w.D)))[j]? = τ[j]? := fun j hj => List.getElem?_set_ne (Ne.symm hj)
  obtain ⟨b0, us, hb0, h2, h3, h4⟩ := r.mt i w hi
  rw [hp] at hb0; cases hb0
  have h3' : H' p = some us := c p _ (fun z => z.2 rfl) h3
  have c' : Chg M H H' := fun b o hn e => c b o (fun z => hn z.1) e
  have k : Keep S H S H' := c'.keep r.sub
  have ts : TSm (hid (fun b => S b ∧ b ≠ p) H') (hid S H') := tsame_hid fun a z => by
    by_cases e : a = p
    · subst e; exact .inr ⟨_, h3', h4.ho⟩
    · exact .inl ⟨z, e⟩
  have mm : ∀ (j : Nat) (ys : Ow), j ≠ i → τ1[j]? = some (some ys.L) → ∃ zs : Ow, τ[j]? = some (some zs.L) := fun j ys hj e => by
    obtain ⟨zs, q⟩ := (lk.own j).mp ⟨_, e⟩
    rw [ne0 j hj] at q
    exact ⟨zs, q⟩
  have cs : ∀ (j : Nat) (ys : List PyData), (τ1.set i (some w.L))[j]? = some (some (.c ys)) → τ[j]? = some (some (.c ys)) := fun j ys e => by
    by_cases hj : j = i
    · subst hj; rw [se] at e; exact absurd (Option.some.inj (Option.some.inj e)) Ow.not_c
    · rw [ne j hj] at e
      have := ((lk.2 j).1.2 ys).mp e
      rw [ne0 j hj] at this
      exact this
  refine ⟨by rw [List.length_set]; exact r1.len, fun j x e => ?_, fun j ys e => ?_, fun j ys e => let ⟨a, vs, h1, h2, h3⟩ := r.cst j ys (cs j ys e); ⟨a, vs, h1, k.same.seq h2, h3.mono k.same⟩, fun j1 j2 ys zs b e1 e2 f1 f2 => ?_, r.sub, fun a h => ?_⟩
  · by_cases hj : j = i
    · subst hj; rw [se] at e; exact absurd (Option.some.inj (Option.some.inj e)) Ow.not_d
    · rw [ne j hj] at e
      have := ((lk.2 j).1.1 x).mp e
      rw [ne0 j hj] at this
      obtain ⟨v, h5, h6⟩ := r.dat j x this
      exact ⟨v, h5, h6.mono k.same⟩
  · by_cases hj : j = i
    · subst hj
      rw [se] at e
      obtain rfl := owL_inj e
      exact ⟨p, us, hp, h2, h3', h4.mono k.same⟩
    · rw [ne j hj] at e
      obtain ⟨b, ws, h5, h6, h7, h8⟩ := r1.mt j ys e
      have fx : okM (some ys.L) = true := List.all_eq_true.mp ok (some ys.L) (List.mem_of_getElem? e)
      exact ⟨b, ws, h5, h6.1, h7, h8.monoT ts fx⟩
  · have g : ∀ (j : Nat) (ys : Ow), (τ1.set i (some w.L))[j]? = some (some ys.L) → ∃ zs : Ow, τ[j]? = some (some zs.L) := fun j ys e => by
      by_cases hj : j = i
      · subst hj; exact ⟨_, hi⟩
      · rw [ne j hj] at e; exact mm j ys hj e
    obtain ⟨_, g1⟩ := g j1 ys e1
    obtain ⟨_, g2⟩ := g j2 zs e2
    exact r.inj _ _ _ _ b g1 g2 f1 f2
  · by_cases e : a = p
    · subst e; exact ⟨_, h3'⟩
    · exact r1.ex a ⟨h, e⟩
theorem like_bor {τ τ1 : DS} {i : Nat} {w : Ow} (hi : τ[i]? = some (some w.L)) (lk : Like (τ.set i (some (.d w.D))) τ1) : Like τ (τ1.set i (some w.L)) := by
  have hlt : i < τ.length := (List.getElem?_eq_some_iff.mp hi).1
  have hl1 : τ1.length = τ.length := by have := lk.1; rw [List.length_set] at this; exact this
  refine ⟨by rw [List.length_set]; exact hl1, fun j => ?_⟩
  by_cases hj : j = i
  · subst hj
    rw [List.getElem?_set_self (by omega), hi]
    exact ⟨⟨fun x => Iff.rfl, fun x => Iff.rfl⟩, fun b => Iff.rfl⟩
  · have := lk.2 j
    rw [List.getElem?_set_ne (Ne.symm hj)] at this ⊢
    exact this
theorem e_bor {i : Nat} {fr : Bool} {t : TE} {f : DX} (h : E K t fr f) : E K t false (dBor i f) := by
  refine ⟨fun τ d τ' e => ?_, ?_⟩
  · obtain ⟨xs, τ1, e1, e2, _, _, rfl⟩ := dBor_some e
    exact like_bor e1 (h.like _ _ _ e2)
  intro S M τ σ H Q d τ' r e q
  obtain ⟨xs, τ1, e1, e2, fx, ok, rfl⟩ := dBor_some e
  obtain ⟨p, us, hp, hM, hl, ll⟩ := r.mt i xs e1
  refine h.weak.run _ _ _ σ H _ d τ1 (frz r e1 hp) e2 fun v H' r' c res => ?_
  have r2 := unfrz r e1 hp r' (h.like _ _ _ e2) c ok
  refine q v H' r2 (fun b o hn e => c b o (fun z => hn z.1) e) ?_
  have h3' : H' p = some us := c p _ (fun z => z.2 rfl) hl
  exact Is.monoT (tsame_hid fun a z => by
    by_cases e : a = p
    · subst e; exact .inr ⟨_, h3', ll.ho⟩
    · exact .inl ⟨z, e⟩) fx (show Is K (hid (fun b => S b ∧ b ≠ p) H') d v from res)
def dBorF (i : Nat) (f : DX) (τ : DS) : Option (PyData × DS) := match τ[i]? with
  | some (some (.m xs)) => (f (τ.set i (some (.d (.list xs))))).bind fun q => match q.1 with
    | .list ys => if fixDs ys && q.2.all okM then some (q.1, q.2.set i (some (.m xs))) else none
    | _ => none
  | some (some (.k xs)) => (f (τ.set i (some (.d (.dict (dctP xs)))))).bind fun q => match q.1 with
    | .list ys => if fixDs ys && q.2.all okM then some (q.1, q.2.set i (some (.k xs))) else none
    | _ => none
  | _ => none
theorem dBorF_some {i : Nat} {f : DX} {τ : DS} {d : PyData} {τ' : DS} (e : dBorF i f τ = some (d, τ')) : ∃ w τ1 ys, τ[i]? = some (some (Ow.L w)) ∧ f (τ.set i (some (.d w.D))) = some (d, τ1) ∧ d = .list ys ∧ fixDs ys = true ∧ τ1.all okM = true ∧ τ' = τ1.set i (some w.L) := by
  unfold dBorF at e
  split at e
  · rename_i xs hx
    obtain ⟨⟨z, τ1⟩, e1, e⟩ := Option.bind_eq_some_iff.mp e
    dsimp only at e
    split at e
    · split at e
      · rename_i h
        rw [Bool.and_eq_true] at h
        cases e
        exact ⟨.l xs, τ1, _, hx, e1, rfl, h.1, h.2, rfl⟩
      · cases e
    · cases e
  · rename_i xs hx
    obtain ⟨⟨z, τ1⟩, e1, e⟩ := Option.bind_eq_some_iff.mp e
    dsimp only at e
    split at e
    · split at e
      · rename_i h
        rw [Bool.and_eq_true] at h
        cases e
        exact ⟨.t xs, τ1, _, hx, e1, rfl, h.1, h.2, rfl⟩
      · cases e
    · cases e
  · cases e
theorem Ow.D_list {o : Ow} {ys : List PyData} (h : PyData.list ys = o.D) : o = .l ys := by
  cases o with
  | l xs => cases h; rfl
  | t kvs => cases h
theorem e_borF {i : Nat} {t : TE} {f : DX} (h : E K t true f) : E K t true (dBorF i f) := by
  refine ⟨fun τ d τ' e => ?_, ?_⟩
  · obtain ⟨xs, τ1, ys, e1, e2, _, _, _, rfl⟩ := dBorF_some e
    exact like_bor e1 (h.like _ _ _ e2)
  intro S M τ σ H Q d τ' r e q
  obtain ⟨xs, τ1, ys, e1, e2, rfl, fx, ok, rfl⟩ := dBorF_some e
  obtain ⟨p, us, hp, hM, hl, ll⟩ := r.mt i xs e1
  refine h.run _ _ _ σ H _ _ τ1 (frz r e1 hp) e2 fun v H' r' c res => ?_
  have r2 := unfrz r e1 hp r' (h.like _ _ _ e2) c ok
  refine q v H' r2 (fun b o hn e => c b o (fun z => hn z.1) e) ?_
  have h3' : H' p = some us := c p _ (fun z => z.2 rfl) hl
  obtain ⟨o, a, vs, e3, rfl, h5, h6, h7⟩ := res
  obtain rfl := Ow.D_list e3
  refine ⟨.l ys, a, vs, rfl, rfl, h5, h6, IsO.monoT (tsame_hid fun b z => ?_) fx h7⟩
  rcases z with z | z
  · by_cases e : b = p
    · subst e; exact .inr ⟨_, h3', ll.ho⟩
    · exact .inl (.inl ⟨z, e⟩)
  · exact .inl (.inr z)
end DL
end
section
set_option Elab.async false
set_option linter.all false
set_option maxRecDepth 100000
namespace DL
open PySem L2
variable {K : PySem.W.Frag}
def ItIs (K : PySem.W.Frag) (S : Addr → Prop) (J : It) (H : Hp) (ds : List PyData) : Prop := ∀ (S2 : Addr → Prop) (H2 : Hp), Keep S H S2 H2 → (∀ (i : Nat) (d : PyData), ds[i]? = some d → J.go i H2 ∧ ∀ x H3, J.yld i H2 x H3 → H3 = H2 ∧ Is K (hid S2 H2) d x) ∧ ∀ i, ds.length ≤ i → J.stop i H2
abbrev DI := DS → Option (List PyData × DS)
structure IT (K : PySem.W.Frag) (wi : TI) (f : DI) : Prop where
  like : ∀ τ ds τ', f τ = some (ds, τ') → Like τ τ'
  run : ∀ S M τ σ H (Q : It → Hp → Prop) ds τ', R K S M τ σ H → f τ = some (ds, τ') → (∀ J H', R K S M τ' σ H' → Chg M H H' → ItIs K S J H' ds → Q J H') → wi σ H Q
def dIL (f : DX) (τ : DS) : Option (List PyData × DS) := (f τ).bind fun p => match p.1 with
  | .list ds => some (ds, p.2)
  | _ => none
def dIT (f : DX) (τ : DS) : Option (List PyData × DS) := (f τ).bind fun p => match p.1 with
  | .tuple ds => some (ds, p.2)
  | _ => none
theorem it_list {fr : Bool} {t : TE} {f : DX} (h : E K t fr f) : IT K (iList K t) (dIL f) := by
  refine ⟨fun τ d τ' e => ?_, ?_⟩
  · unfold dIL at e
    obtain ⟨⟨x, τ1⟩, e1, e⟩ := Option.bind_eq_some_iff.mp e
    dsimp only at e
    split at e
    · cases e; exact h.like _ _ _ e1
    · cases e
  intro S M τ σ H Q ds τ' r e q
  unfold dIL at e
  obtain ⟨⟨x, τ1⟩, e1, e⟩ := Option.bind_eq_some_iff.mp e
  dsimp only at e
  split at e
  · cases e
    refine h.weak.run S M τ σ H _ _ _ r e1 fun v H1 r1 c1 i1 => ?_
    have i1' : Is K (hid S H1) (.list ds) v := i1
    obtain ⟨a, vs, rfl, hl, ll⟩ := i1'
    refine ⟨a, rfl, ⟨vs, SqL.of (hid_iff.mp hl).2⟩, q _ H1 r1 c1 fun S2 H2 k => ?_⟩
    have hl2 := k.same _ _ hl
    have ll2 := ll.mono k.same
    refine ⟨fun i d e => ?_, fun i hi => ⟨vs, SqL.of (hid_iff.mp hl2).2, by rw [ll.length]; exact hi⟩⟩
    obtain ⟨u, h1, h2⟩ := ll2.get e
    refine ⟨⟨vs, u, SqL.of (hid_iff.mp hl2).2, h1⟩, fun x H3 y => ⟨y.1, ?_⟩⟩
    have := y.2 vs (SqL.of (hid_iff.mp hl2).2)
    rw [h1] at this; cases this
    exact h2
  · cases e
theorem it_tup {fr : Bool} {t : TE} {f : DX} (h : E K t fr f) : IT K (iTup K t) (dIT f) := by
  refine ⟨fun τ d τ' e => ?_, ?_⟩
  · unfold dIT at e
    obtain ⟨⟨x, τ1⟩, e1, e⟩ := Option.bind_eq_some_iff.mp e
    dsimp only at e
    split at e
    · cases e; exact h.like _ _ _ e1
    · cases e
  intro S M τ σ H Q ds τ' r e q
  unfold dIT at e
  obtain ⟨⟨x, τ1⟩, e1, e⟩ := Option.bind_eq_some_iff.mp e
  dsimp only at e
  split at e
  · cases e
    refine h.weak.run S M τ σ H _ _ _ r e1 fun v H1 r1 c1 i1 => ?_
    have i1' : Is K (hid S H1) (.tuple ds) v := i1
    obtain ⟨a, vs, rfl, hl, ll⟩ := i1'
    refine ⟨a, rfl, ⟨vs, Same.tup same_hid hl⟩, q _ H1 r1 c1 fun S2 H2 k => ?_⟩
    have hl2 := Same.tup same_hid (Same.tup k.same hl)
    have ll2 := ll.mono k.same
    refine ⟨fun i d e => ?_, fun i hi => ⟨vs, hl2, by rw [ll.length]; exact hi⟩⟩
    obtain ⟨u, h1, h2⟩ := ll2.get e
    refine ⟨⟨vs, u, hl2, h1⟩, fun x H3 y => ⟨y.1, ?_⟩⟩
    have := y.2 vs hl2
    rw [h1] at this; cases this
    exact h2
  · cases e
def rangeD (lo : Int) (n : Nat) : List PyData := (List.range n).map fun (k : Nat) => PyData.int (lo + (k : Int))
theorem range_is {S : Addr → Prop} {H : Hp} {lo : Int} {n : Nat} : ItIs K S (Itr lo n) H (rangeD lo n) := by
  intro S2 H2 k
  refine ⟨fun i d e => ?_, fun i hi => ?_⟩
  · unfold rangeD at e
    rw [List.getElem?_map] at e
    by_cases hi : i < n
    · rw [List.getElem?_range hi] at e
      cases e
      exact ⟨hi, fun x H3 y => ⟨y.1, y.2⟩⟩
    · rw [List.getElem?_eq_none (by simpa using hi)] at e
      cases e
  · unfold rangeD at hi
    rw [List.length_map, List.length_range] at hi
    exact hi
def dR1 (a : DA) (τ : DS) : Option (List PyData × DS) := (a τ).bind fun p => (allD p.1).bind fun ds => match ds with
  | [.int j] => if -(2 ^ 62) ≤ j ∧ j < 2 ^ 62 then some (rangeD 0 j.toNat, p.2) else none
  | _ => none
def dR2 (a : DA) (τ : DS) : Option (List PyData × DS) := (a τ).bind fun p => (allD p.1).bind fun ds => match ds with
  | [.int i, .int j] => if -(2 ^ 62) ≤ i ∧ i < 2 ^ 62 ∧ -(2 ^ 62) ≤ j ∧ j < 2 ^ 62 then some (rangeD i (j - i).toNat, p.2) else none
  | _ => none
theorem it_range1 {t : TA} {a : DA} (ha : A K t a) : IT K (iRng1 t) (dR1 a) := by
  refine ⟨fun τ d τ' e => ?_, ?_⟩
  · unfold dR1 at e
    obtain ⟨⟨x, τ1⟩, e1, e⟩ := Option.bind_eq_some_iff.mp e
    obtain ⟨ds, e2, e⟩ := Option.bind_eq_some_iff.mp e
    split at e
    · split at e
      · cases e; exact ha.like _ _ _ e1
      · cases e
    · cases e
  intro S M τ σ H Q ds τ' r e q
  unfold dR1 at e
  obtain ⟨⟨x, τ1⟩, e1, e⟩ := Option.bind_eq_some_iff.mp e
  obtain ⟨ds', e2, e⟩ := Option.bind_eq_some_iff.mp e
  split at e
  · split at e
    · rename_i j hj
      cases e
      refine ha.run S M τ σ H _ x _ r e1 fun vs H1 r1 c1 i1 => ?_
      obtain ⟨v, us, rfl, iv, iu⟩ := allD_is i1 e2
      cases (show us = [] from iu)
      exact ⟨j, by rw [show v = .int j from iv], hj.1, hj.2, q _ H1 r1 c1 range_is⟩
    · cases e
  · cases e
theorem it_range2 {t : TA} {a : DA} (ha : A K t a) : IT K (iRng2 t) (dR2 a) := by
  refine ⟨fun τ d τ' e => ?_, ?_⟩
  · unfold dR2 at e
    obtain ⟨⟨x, τ1⟩, e1, e⟩ := Option.bind_eq_some_iff.mp e
    obtain ⟨ds, e2, e⟩ := Option.bind_eq_some_iff.mp e
    split at e
    · split at e
      · cases e; exact ha.like _ _ _ e1
      · cases e
    · cases e
  intro S M τ σ H Q ds τ' r e q
  unfold dR2 at e
  obtain ⟨⟨x, τ1⟩, e1, e⟩ := Option.bind_eq_some_iff.mp e
  obtain ⟨ds', e2, e⟩ := Option.bind_eq_some_iff.mp e
  split at e
  · split at e
    · rename_i i j hj
      cases e
      refine ha.run S M τ σ H _ x _ r e1 fun vs H1 r1 c1 i1 => ?_
      obtain ⟨v, us, rfl, iv, w, us', rfl, iw, iu⟩ := allD_is i1 e2
      cases (show us' = [] from iu)
      exact ⟨i, j, by rw [show v = .int i from iv, show w = .int j from iw], hj, q _ H1 r1 c1 range_is⟩
    · cases e
  · cases e
abbrev DG := PyData → DS → Option DS
def MSame (τ τ' : DS) : Prop := τ'.length = τ.length ∧ ∀ (j : Nat) (o : Ow), τ'[j]? = some (some o.L) ↔ τ[j]? = some (some o.L)
theorem MSame.refl {τ : DS} : MSame τ τ := ⟨rfl, fun _ _ => Iff.rfl⟩
theorem MSame.trans {τ τ1 τ2 : DS} (a : MSame τ τ1) (b : MSame τ1 τ2) : MSame τ τ2 := ⟨b.1.trans a.1, fun j xs => (b.2 j xs).trans (a.2 j xs)⟩
structure TG1 K (g : TG) (f : DG) : Prop where
  ms : ∀ d τ τ', f d τ = some τ' → MSame τ τ'
  run : ∀ S M τ σ H v d τ' (Q : St → Hp → Prop), R K S M τ σ H → Is K (hid S H) d v → f d τ = some τ' → (∀ σ', R K S M τ' σ' H → (∀ (j : Nat) (o : Ow), τ[j]? = some (some o.L) → σ'[j]? = σ[j]?) → Q σ' H) → g v σ H Q
structure TG2 K (g : TGs) (f : List PyData → DS → Option DS) : Prop where
  ms : ∀ d τ τ', f d τ = some τ' → MSame τ τ'
  run : ∀ S M τ σ H vs ds τ' (Q : St → Hp → Prop), R K S M τ σ H → IsL K (hid S H) ds vs → f ds τ = some τ' → (∀ σ', R K S M τ' σ' H → (∀ (j : Nat) (o : Ow), τ[j]? = some (some o.L) → σ'[j]? = σ[j]?) → Q σ' H) → g vs σ H Q
def dN (i : Nat) (d : PyData) (τ : DS) : Option DS := match τ[i]? with
  | some (some (.m _)) => none
  | some (some (.k _)) => none
  | some _ => some (τ.set i (some (.d d)))
  | none => none
theorem dN_some {i : Nat} {d : PyData} {τ τ' : DS} (e : dN i d τ = some τ') : i < τ.length ∧ (∀ o : Ow, τ[i]? ≠ some (some o.L)) ∧ τ' = τ.set i (some (.d d)) := by
  unfold dN at e
  split at e
  · cases e
  · cases e
  · rename_i o hn hk ho
    cases e
    refine ⟨(List.getElem?_eq_some_iff.mp ho).1, fun xs z => ?_, rfl⟩
    rw [ho] at z
    cases xs with
    | l xs => exact hn xs (Option.some.inj z)
    | t xs => exact hk xs (Option.some.inj z)
  · cases e
theorem R.setD {S M : Addr → Prop} {τ : DS} {σ : St} {H : Hp} (r : R K S M τ σ H) {i : Nat} {d : PyData} {v : V} (hi : i < τ.length) (hm : ∀ o : Ow, τ[i]? ≠ some (some o.L)) (iv : Is K (hid S H) d v) : R K S M (τ.set i (some (.d d))) (σ.set i (some v)) H := by
  have hs : i < σ.length := by rw [r.len]; exact hi
  have ne : ∀ j, j ≠ i → (τ.set i (some (.d d)))[j]? = τ[j]? := fun j hj => List.getElem?_set_ne (Ne.symm hj)
  have ne' : ∀ j, j ≠ i → (σ.set i (some v))[j]? = σ[j]? := fun j hj => List.getElem?_set_ne (Ne.symm hj)
  have mn : ∀ (j : Nat) (ys : Ow), (τ.set i (some (.d d)))[j]? = some (some ys.L) → j ≠ i ∧ τ[j]? = some (some ys.L) := fun j ys e => by
    by_cases hj : j = i
    · subst hj; rw [List.getElem?_set_self hi] at e; exact absurd (Option.some.inj (Option.some.inj e)).symm Ow.not_d
    · rw [ne j hj] at e; exact ⟨hj, e⟩
  refine ⟨by rw [List.length_set, List.length_set]; exact r.len, fun j x e => ?_, fun j xs e => ?_, fun j xs e => ?_, fun j1 j2 ys zs b e1 e2 f1 f2 => ?_, r.sub, r.ex⟩
  · by_cases hj : j = i
    · subst hj
      rw [List.getElem?_set_self hi] at e
      cases e
      exact ⟨v, List.getElem?_set_self hs, iv⟩
    · rw [ne j hj] at e
      rw [ne' j hj]
      exact r.dat j x e
  · obtain ⟨hj, e⟩ := mn j xs e
    rw [ne' j hj]
    exact r.mt j xs e
  · by_cases hj : j = i
    · subst hj; rw [List.getElem?_set_self hi] at e; cases e
    · rw [ne j hj] at e
      rw [ne' j hj]
      exact r.cst j xs e
  · obtain ⟨h1, e1⟩ := mn j1 ys e1
    obtain ⟨h2, e2⟩ := mn j2 zs e2
    rw [ne' _ h1] at f1
    rw [ne' _ h2] at f2
    exact r.inj _ _ _ _ b e1 e2 f1 f2
theorem ms_setD {τ : DS} {i : Nat} {d : PyData} (hi : i < τ.length) (hm : ∀ o : Ow, τ[i]? ≠ some (some o.L)) : MSame τ (τ.set i (some (.d d))) := by
  refine ⟨by rw [List.length_set], fun j xs => ?_⟩
  by_cases hj : j = i
  · subst hj
    rw [List.getElem?_set_self hi]
    exact ⟨fun z => absurd (Option.some.inj (Option.some.inj z)).symm Ow.not_d, fun z => absurd z (hm xs)⟩
  · rw [List.getElem?_set_ne (Ne.symm hj)]
theorem g_name {i : Nat} : TG1 K (gName i) (dN i) := by
  refine ⟨fun d τ τ' e => ?_, ?_⟩
  · obtain ⟨h1, h2, rfl⟩ := dN_some e
    exact ms_setD h1 h2
  intro S M τ σ H v d τ' Q r iv e q
  obtain ⟨h1, h2, rfl⟩ := dN_some e
  refine q _ (r.setD h1 h2 iv) fun j xs ej => ?_
  have : j ≠ i := fun z => h2 xs (by rw [← z]; exact ej)
  exact List.getElem?_set_ne (Ne.symm this)
def dGNil : List PyData → DS → Option DS
  | [], τ => some τ
  | _ :: _, _ => none
def dGCons (f : DG) (g : List PyData → DS → Option DS) : List PyData → DS → Option DS
  | d :: ds, τ => (f d τ).bind fun τ1 => g ds τ1
  | [], _ => none
theorem gs_nil : TG2 K gNil dGNil := by
  refine ⟨fun d τ τ' e => ?_, ?_⟩
  · cases d with
    | nil => cases e; exact .refl
    | cons _ _ => cases e
  intro S M τ σ H vs ds τ' Q r iv e q
  cases ds with
  | nil => cases e; exact ⟨iv, q σ r fun _ _ _ => rfl⟩
  | cons _ _ => cases e
theorem gs_cons {t : TG} {u : TGs} {f : DG} {g : List PyData → DS → Option DS} (h1 : TG1 K t f) (h2 : TG2 K u g) : TG2 K (gCons t u) (dGCons f g) := by
  refine ⟨fun d τ τ' e => ?_, ?_⟩
  · cases d with
    | nil => cases e
    | cons d ds =>
      obtain ⟨τ1, e1, e⟩ := Option.bind_eq_some_iff.mp e
      exact (h1.ms _ _ _ e1).trans (h2.ms _ _ _ e)
  intro S M τ σ H vs ds τ' Q r iv e q
  cases ds with
  | nil => cases e
  | cons d ds =>
    obtain ⟨τ1, e1, e⟩ := Option.bind_eq_some_iff.mp e
    obtain ⟨v, us, rfl, iv, iu⟩ := iv
    refine ⟨v, us, rfl, h1.run S M τ σ H v d τ1 _ r iv e1 fun σ1 r1 k1 => ?_⟩
    refine h2.run S M τ1 σ1 H us ds τ' _ r1 iu e fun σ2 r2 k2 => ?_
    refine q σ2 r2 fun j xs hj => ?_
    rw [k2 j xs (((h1.ms _ _ _ e1).2 j xs).mpr hj), k1 j xs hj]
def dGT (g : List PyData → DS → Option DS) (d : PyData) (τ : DS) : Option DS := match d with
  | .tuple ds => g ds τ
  | _ => none
theorem g_tup {n : Nat} {u : TGs} {g : List PyData → DS → Option DS} (h : TG2 K u g) (hn : ∀ ds τ τ', g ds τ = some τ' → ds.length = n) : TG1 K (gTup K n u) (dGT g) := by
  refine ⟨fun d τ τ' e => ?_, ?_⟩
  · unfold dGT at e
    split at e
    · exact h.ms _ _ _ e
    · cases e
  intro S M τ σ H v d τ' Q r iv e q
  unfold dGT at e
  split at e
  · obtain ⟨a, vs, rfl, hl, ll⟩ := iv
    exact ⟨a, vs, rfl, Same.tup same_hid hl, by rw [ll.length]; exact hn _ _ _ e, h.run S M τ σ H vs _ τ' Q r ll e q⟩
  · cases e
theorem len_nil : ∀ (ds : List PyData) (τ τ' : DS), dGNil ds τ = some τ' → ds.length = 0
  | [], _, _, _ => rfl
  | _ :: _, _, _, e => by cases e
theorem len_cons {n : Nat} {f : DG} {g : List PyData → DS → Option DS} (h : ∀ ds τ τ', g ds τ = some τ' → ds.length = n) : ∀ (ds : List PyData) (τ τ' : DS), dGCons f g ds τ = some τ' → ds.length = n + 1
  | [], _, _, e => by cases e
  | d :: ds, τ, τ', e => by
    obtain ⟨τ1, e1, e⟩ := Option.bind_eq_some_iff.mp e
    rw [List.length_cons, h _ _ _ e]
def lcLoop (g : DG) (c : DT) (e : DX) : List PyData → List PyData → DS → Option (List PyData × DS)
  | [], acc, τ => some (acc, τ)
  | d :: ds, acc, τ => (g d τ).bind fun τ1 => (c τ1).bind fun p => if p.1 = true then (e p.2).bind fun q => lcLoop g c e ds (acc ++ [q.1]) q.2 else lcLoop g c e ds acc p.2
def blkD (own : Nat) (fr : List Nat) (τ : DS) : DS := List.replicate own none ++ fr.map fun j => (τ[j]?).join
def isM (τ : DS) (j : Nat) : Bool := match τ[j]? with
  | some (some (.m _)) => true
  | some (some (.k _)) => true
  | _ => false
theorem isM_iff {τ : DS} {j : Nat} : isM τ j = true ↔ ∃ o : Ow, τ[j]? = some (some o.L) := by
  unfold isM
  split
  · rename_i xs h; exact ⟨fun _ => ⟨.l xs, h⟩, fun _ => rfl⟩
  · rename_i xs h; exact ⟨fun _ => ⟨.t xs, h⟩, fun _ => rfl⟩
  · rename_i h1 h2
    exact ⟨fun z => (nomatch z), fun ⟨o, z⟩ => by
      cases o with
      | l xs => exact absurd z (h1 xs)
      | t xs => exact absurd z (h2 xs)⟩
def dLC (own : Nat) (fr : List Nat) (it : DI) (g : DG) (c : DT) (e : DX) (τ : DS) : Option (PyData × DS) := (it τ).bind fun p => if p.1.length ≤ sizeLine ∧ (fr.all fun j => !isM p.2 j) = true then (lcLoop g c e p.1 [] (blkD own fr p.2)).map fun q => (.list q.1, p.2) else none
theorem blkD_get {own : Nat} {fr : List Nat} {τ : DS} {i : Nat} {l : L} (h : (blkD own fr τ)[i]? = some (some l)) : ∃ k j, i = own + k ∧ fr[k]? = some j ∧ τ[j]? = some (some l) := by
  unfold blkD at h
  by_cases hi : i < own
  · rw [List.getElem?_append_left (by simpa using hi), List.getElem?_replicate, if_pos hi] at h
    cases h
  · rw [List.getElem?_append_right (by simpa using hi), List.length_replicate, List.getElem?_map] at h
    cases e : fr[i - own]? with
    | none => rw [e] at h; cases h
    | some j =>
      rw [e] at h
      simp only [Option.map_some, Option.some.injEq] at h
      refine ⟨i - own, j, by omega, e, ?_⟩
      cases q : τ[j]? with
      | none => rw [q] at h; cases h
      | some o => rw [q] at h; cases o with
        | none => cases h
        | some u => cases h; rfl
theorem blk_at {own : Nat} {fr : List Nat} {σ : St} {k j : Nat} {v : V} (e : fr[k]? = some j) (h : σ[j]? = some (some v)) : (blk own fr σ)[own + k]? = some (some v) := by
  unfold blk
  rw [List.getElem?_append_right (by simp), List.length_replicate, List.getElem?_map, show own + k - own = k by omega, e]
  show some (σ[j]?).join = _
  rw [h]; rfl
theorem isl_snoc {H : Hp} {xs : List PyData} {vs : List V} {d : PyData} {v : V} (l : IsL K H xs vs) (i : Is K H d v) : IsL K H (xs ++ [d]) (vs ++ [v]) := isl_append l ⟨v, [], rfl, i, rfl⟩
theorem e_lc {own : Nat} {fr : List Nat} {wi : TI} {it : DI} {tg : TG} {g : DG} {tc : TT} {c : DT} {te : TE} {e : DX} {fe : Bool} (hi : IT K wi it) (hg : TG1 K tg g) (hc : T K tc c) (he : E K te fe e) : E K (tLC own fr wi tg tc te) true (dLC own fr it g c e) := by
  refine ⟨fun τ d τ' e => ?_, ?_⟩
  · unfold dLC at e
    obtain ⟨⟨x, τ1⟩, e1, e⟩ := Option.bind_eq_some_iff.mp e
    split at e
    · obtain ⟨z, e3, e⟩ := Option.map_eq_some_iff.mp e
      cases e; exact hi.like _ _ _ e1
    · cases e
  intro S M τ σ H Q d τ' r ee q
  unfold dLC at ee
  obtain ⟨⟨ds, τ1⟩, e1, ee⟩ := Option.bind_eq_some_iff.mp ee
  split at ee
  · rename_i hz
    obtain ⟨hz, hnm⟩ := hz
    have hz : ds.length ≤ sizeLine := hz
    obtain ⟨⟨acc, τb⟩, e3, ee⟩ := Option.map_eq_some_iff.mp ee
    obtain ⟨rfl, rfl⟩ : d = .list acc ∧ τ' = τ1 := by cases ee; exact ⟨rfl, rfl⟩
    refine hi.run S M τ σ H _ ds _ r e1 fun J H1 r1 c1 iJ => ?_
    intro D hD
    -- nothing of the def may be changed in the block
    refine ⟨fun i m ys σ' H' => ∃ τb' acc', R K (fun b => S b ∨ b = D) (fun _ => False) τb' σ' H' ∧ Keep S H1 (fun b => S b ∨ b = D) H' ∧ Chg (fun b => b = D) H1 H' ∧ IsL K (hid (fun b => S b ∨ b = D) H') acc' ys ∧ H' D = some (.lst ys) ∧ ys.length ≤ i ∧ i ≤ ds.length ∧ m = ds.length - i ∧ lcLoop g c e (ds.drop i) acc' τb' = some (acc, τb), ?_, ?_⟩
    · have s := same_new hD (HO.lst [])
      have k : Keep S H1 (fun b => S b ∨ b = D) (upd H1 D (.lst [])) := fun b o hn e => by
        have := ne_of_none e hD
        exact ⟨fun z => z.elim hn this, s b o e⟩
      refine ⟨ds.length, blkD own fr τ', [], ⟨?_, ?_, ?_, ?_, ?_, fun a h => h.elim, ?_⟩, k, .of s, rfl, upd_same, Nat.le_refl _, Nat.zero_le _, by simp, by simpa using e3⟩
      · unfold blk blkD; simp
      · intro i x e
        obtain ⟨kk, j, rfl, ej, et⟩ := blkD_get e
        obtain ⟨v, h1, h2⟩ := r1.dat j x et
        exact ⟨v, blk_at ej h1, h2.mono k.same⟩
      · intro i xs e
        obtain ⟨kk, j, rfl, ej, et⟩ := blkD_get e
        have := List.all_eq_true.mp hnm j (List.mem_of_getElem? ej)
        rw [isM_iff.mpr ⟨xs, et⟩] at this
        cases this
      · intro i x e
        obtain ⟨kk, j, rfl, ej, et⟩ := blkD_get e
        obtain ⟨a, vs, h1, h2, h3⟩ := r1.cst j x et
        exact ⟨a, vs, blk_at ej h1, k.same.seq h2, h3.mono k.same⟩
      · intro i j xs ys a e
        obtain ⟨kk, j', rfl, ej, et⟩ := blkD_get e
        have := List.all_eq_true.mp hnm j' (List.mem_of_getElem? ej)
        rw [isM_iff.mpr ⟨xs, et⟩] at this
        cases this
      · rintro a (h | rfl)
        · obtain ⟨o, e⟩ := r1.ex a h
          exact ⟨o, s _ _ e⟩
        · exact ⟨_, upd_same⟩
    · rintro i m ys σ' H' ⟨τb', acc', rb, k, ch, la, hHD, hyl, hil, rfl, hl⟩
      obtain ⟨I1, I2⟩ := iJ _ _ k
      by_cases hlt : i < ds.length
      · right
        have ed : ds[i]? = some ds[i] := List.getElem?_eq_getElem hlt
        obtain ⟨go, yl⟩ := I1 i _ ed
        refine ⟨go, fun x H2 y => ?_⟩
        obtain ⟨rfl, ix⟩ := yl x H2 y
        rw [List.drop_eq_getElem_cons hlt, lcLoop] at hl
        obtain ⟨τ2, e2, hl⟩ := Option.bind_eq_some_iff.mp hl
        obtain ⟨⟨b, τ3⟩, e4, hl⟩ := Option.bind_eq_some_iff.mp hl
        refine hg.run _ _ τb' σ' H2 x _ τ2 _ rb ix e2 fun σ3 r3 k3 => ?_
        refine hc.run _ _ τ2 σ3 H2 _ b τ3 r3 e4 fun H4 r4 c4 => ?_
        have s4 : Same H2 H4 := fun b o e => c4 b o (fun z => z) e
        cases b with
        | false =>
          rw [if_neg Bool.false_ne_true]
          exact ⟨ds.length - (i + 1), by omega, τ3, acc', r4, k.trans (Same.keep s4), ch.trans (.of s4), la.mono (Same.keep s4).same, s4 _ _ hHD, by omega, hlt, rfl, hl⟩
        | true =>
          rw [if_pos rfl]
          rw [if_pos rfl] at hl
          obtain ⟨⟨z, τ5⟩, e5, hl⟩ := Option.bind_eq_some_iff.mp hl
          refine he.weak.run _ _ τ3 σ3 H4 _ z τ5 r4 e5 fun v H5 r5 c5 i5 => ?_
          have s5 : Same H2 H5 := s4.trans fun b o e => c5 b o (fun z => z) e
          have hD5 := s5 _ _ hHD
          refine ⟨hD5, by omega, ds.length - (i + 1), by omega, τ5, acc' ++ [z], ?_, ?_, ?_, ?_, upd_same, by rw [List.length_append, List.length_singleton]; omega, hlt, rfl, hl⟩
          · have kk : Keep (fun b => S b ∨ b = D) H5 (fun b => S b ∨ b = D) (upd H5 D (.lst (ys ++ [v]))) := fun b o hn e => ⟨hn, by rw [upd_ne (fun z => hn (.inr z))]; exact e⟩
            refine ⟨r5.len, fun j x e => let ⟨u, a, b⟩ := r5.dat j x e; ⟨u, a, b.mono kk.same⟩, fun j xs e => let ⟨_, _, _, h, _⟩ := r5.mt j xs e; h.elim, fun j xs e => let ⟨a, vs, h1, h2, h3⟩ := r5.cst j xs e; ⟨a, vs, h1, kk.same.seq h2, h3.mono kk.same⟩, r5.inj, fun _ h => h.elim, fun a h => ?_⟩
            by_cases e : a = D
            · subst e; exact ⟨_, upd_same⟩
            · obtain ⟨o, q⟩ := r5.ex a h
              exact ⟨o, by rw [upd_ne e]; exact q⟩
          · refine k.trans fun b o hn e => ⟨hn, ?_⟩
            rw [upd_ne (fun z => hn (.inr z))]
            exact s5 _ _ e
          · refine ch.trans fun b o hn e => ?_
            rw [upd_ne hn]
            exact s5 _ _ e
          · refine (isl_snoc (la.mono (Same.keep s5).same) i5).mono (Keep.same fun b o hn e => ⟨hn, ?_⟩)
            rw [upd_ne (fun z => hn (.inr z))]
            exact e
      · left
        have e : i = ds.length := by omega
        subst e
        rw [List.drop_length, lcLoop] at hl
        cases hl
        refine ⟨I2 _ (Nat.le_refl _), ?_⟩
        have s : Same H1 H' := fun b o e => ch b o (ne_of_none e hD) e
        refine q _ H' (r1.same s) (c1.trans (.of s)) ⟨.l acc, D, _, rfl, rfl, r1.none c1 hD, hHD, ys, rfl, la⟩
  · cases ee
end DL
end
section
set_option Elab.async false
set_option linter.all false
set_option maxRecDepth 100000
namespace DL
open PySem L2
variable {K : PySem.W.Frag}
end DL
end
section
set_option Elab.async false
set_option linter.all false
set_option maxRecDepth 100000
namespace DL
open PySem L2
variable {K : PySem.W.Frag}
def dIxC (i : Nat) (f : DX) (τ : DS) : Option (PyData × DS) := (f τ).bind fun p => match p.2[i]?, p.1 with
  | some (some (.c xs)), .int k => (atI xs k).map fun d => (d, p.2)
  | _, _ => none
theorem e_ixC {i : Nat} {fr : Bool} {tb : TE} {f : DX} (h : E K tb fr f) : E K (tOp (rIxL K) (tVar i) tb) false (dIxC i f) := by
  refine ⟨fun τ d τ' e => ?_, ?_⟩
  · unfold dIxC at e
    obtain ⟨⟨x, τ1⟩, e1, e⟩ := Option.bind_eq_some_iff.mp e
    dsimp only at e
    split at e
    · obtain ⟨z, e3, e⟩ := Option.map_eq_some_iff.mp e
      cases e; exact h.like _ _ _ e1
    · cases e
  intro S M τ σ H Q d τ' r e q
  unfold dIxC at e
  obtain ⟨⟨x, τ1⟩, e1, e⟩ := Option.bind_eq_some_iff.mp e
  dsimp only at e
  split at e
  · rename_i xs k hx
    obtain ⟨z, e3, e⟩ := Option.map_eq_some_iff.mp e
    cases e
    obtain ⟨a, vs, ha, _⟩ := r.cst i xs ((((h.like _ _ _ e1).2 i).1.2 xs).mp hx)
    refine ⟨.ref a, ha, h.weak.run S M τ σ H _ _ _ r e1 fun v H1 r1 c1 i1 => ?_⟩
    obtain ⟨a', vs', ha', h2, h3⟩ := r1.cst i xs hx
    rw [ha] at ha'; cases ha'
    obtain ⟨u, h4, h5⟩ := isl_at h3 e3
    exact ⟨a, vs', k, u, rfl, i1, same_hid.seq h2, h4, q u H1 r1 c1 h5⟩
  · cases e
def dLenC (i : Nat) (τ : DS) : Option (PyData × DS) := match τ[i]? with
  | some (some (.c xs)) => some (.int xs.length, τ)
  | _ => none
theorem e_lenC {i : Nat} : E K (tCB (fun xs H Q => ∃ x n, xs = [x] ∧ LenV K x H n ∧ Q (.int n) H) (tCons (tVar i) tNil)) false (dLenC i) := by
  refine ⟨fun τ d τ' e => ?_, ?_⟩
  · unfold dLenC at e
    split at e
    · cases e; exact .refl
    · cases e
  intro S M τ σ H Q d τ' r e q
  unfold dLenC at e
  split at e
  · rename_i xs hx
    cases e
    obtain ⟨a, vs, ha, h2, h3⟩ := r.cst i xs hx
    refine ⟨.ref a, ha, .ref a, vs.length, rfl, .inl ⟨vs, same_hid.seq h2, rfl⟩, ?_⟩
    exact q _ H r .refl (by rw [h3.length]; rfl)
  · cases e
def dCallC (i : Nat) (G : List L → Option (PyData × List L)) (a : DA) (τ : DS) : Option (PyData × DS) := (a τ).bind fun p => (allD p.1).bind fun ds => match p.2[i]? with
  | some (some (.c xs)) => (G (.c xs :: ds.map L.d)).map fun q => (q.1, p.2)
  | _ => none
theorem e_callC {i : Nat} {fr : Bool} {G : List L → Option (PyData × List L)} {t : TA} {a : DA} {X : XK} (ha : A K t a) : E K (tCall (spD K G fr) [] X (tCons (tVar i) t)) fr (dCallC i G a) := by
  refine ⟨fun τ d τ' e => ?_, ?_⟩
  · unfold dCallC at e
    obtain ⟨⟨x, τ1⟩, e1, e⟩ := Option.bind_eq_some_iff.mp e
    obtain ⟨ds, e2, e⟩ := Option.bind_eq_some_iff.mp e
    dsimp only at e
    split at e
    · obtain ⟨z, e3, e⟩ := Option.map_eq_some_iff.mp e
      cases e; exact ha.like _ _ _ e1
    · cases e
  intro S M τ σ H Q d τ' rr e q
  unfold dCallC at e
  obtain ⟨⟨x, τ1⟩, e1, e⟩ := Option.bind_eq_some_iff.mp e
  obtain ⟨ds, e2, e⟩ := Option.bind_eq_some_iff.mp e
  dsimp only at e
  split at e
  · rename_i xs hx
    obtain ⟨⟨z, ls'⟩, e3, e⟩ := Option.map_eq_some_iff.mp e
    cases e
    obtain ⟨p, us, hp, _⟩ := rr.cst i xs ((((ha.like _ _ _ e1).2 i).1.2 xs).mp hx)
    refine ⟨.ref p, hp, ha.run S M τ σ H _ x _ rr e1 fun vs H1 r1 c1 i1 => ?_⟩
    have l := allD_is i1 e2
    obtain ⟨p', us', hp', h2, h3⟩ := r1.cst i xs hx
    rw [hp] at hp'; cases hp'
    show spD K G fr ((.ref p :: vs) ++ []) H1 Q X
    rw [List.append_nil]
    have ra := r_args r1 l
    refine ⟨S, fun _ => False, .c xs :: ds.map L.d, _, ls', ⟨?_, ?_, ?_, ?_, ?_, fun _ h => h.elim, r1.ex⟩, e3, fun v H' _ c res => ?_⟩
    · have := ra.len
      simp only [List.length_map, List.map_cons, List.length_cons] at this ⊢
      omega
    · intro j x e
      cases j with
      | zero => cases e
      | succ j => exact ra.dat j x (by simpa using e)
    · intro j ys e
      cases j with
      | zero => exact absurd (Option.some.inj (Option.some.inj e)).symm Ow.not_c
      | succ j => obtain ⟨_, _, _, h, _⟩ := ra.mt j ys (by simpa using e); exact h.elim
    · intro j ys e
      cases j with
      | zero => cases e; exact ⟨p, us', rfl, h2, h3⟩
      | succ j => exact ra.cst j ys (by simpa using e)
    · intro j k ys ws b e1 e2 _ _
      cases j with
      | zero => exact absurd (Option.some.inj (Option.some.inj e1)).symm Ow.not_c
      | succ j => obtain ⟨_, _, _, h, _⟩ := ra.mt j ys (by simpa using e1); exact h.elim
    · have s : Same H1 H' := fun b o e => c b o (fun z => z) e
      exact q v H' (r1.same s) (c1.trans (.of s)) (res.back r1 c1)
  · cases e
section
variable {F : Frm} {S M : Addr → Prop} {τ τ' : DS} {σ : St} {H H' : Hp}
theorem RF.step (f : RF K F S M τ σ H) (r' : R K S M τ' σ H') (c : Chg M H H') (lk : Like τ τ') : RF K F S M τ' σ H' where
  r := r'
  sS := f.sS
  old := fun b o e n => c b o (fun z => (f.new b z).elim n fun q => by rw [q] at e; cases e) (f.old b o e n)
  new := f.new
  fm := f.fm
  fs := f.fs
  fsub := f.fsub
  snew := f.snew
  par := f.par
  pm := fun i v e => let ⟨xs, h⟩ := f.pm i v e; (lk.own i).mpr ⟨xs, h⟩
  fma := f.fma
theorem RF.stay (f : RF K F S M τ σ H) {σ' : St} (r' : R K S M τ' σ' H) (ms : MSame τ τ') (k : ∀ (j : Nat) (o : Ow), τ[j]? = some (some o.L) → σ'[j]? = σ[j]?) : RF K F S M τ' σ' H where
  r := r'
  sS := f.sS
  old := f.old
  new := f.new
  fm := f.fm
  fs := f.fs
  fsub := f.fsub
  snew := f.snew
  par := fun i v e => by
    obtain ⟨xs, h⟩ := f.pm i v e
    rw [k i xs h]
    exact f.par i v e
  pm := fun i v e => let ⟨xs, h⟩ := f.pm i v e; ⟨xs, (ms.2 i xs).mpr h⟩
  fma := f.fma
theorem RF.hnone (f : RF K F S M τ σ H) {a : Addr} (h : H a = none) : F.H a = none := by
  cases e : F.H a with
  | none => rfl
  | some o =>
    exfalso
    by_cases hm : F.M a
    · obtain ⟨o', e'⟩ := f.r.ex a (f.sS a (f.fsub a hm))
      rw [h] at e'; cases e'
    · have := f.old a o e hm
      rw [h] at this; cases this
theorem RF.res (f : RF K F S M τ σ H) {fr : Bool} {d : PyData} {v : V} (h : Res K fr S H H' d v) : Res K fr F.S F.H H' d v := by
  cases fr with
  | false => exact Is.mono (hid_less f.sS) h
  | true =>
    obtain ⟨xs, a, vs, e1, e2, h1, h2, h3⟩ := h
    exact ⟨xs, a, vs, e1, e2, f.hnone h1, h2, h3.mono (hid_less fun b z => z.elim (fun z => .inl (f.sS b z)) .inr)⟩
end
variable {np : Nat}
def dAsg (e : DX) (g : DG) (τ : DS) : Option Out := (e τ).bind fun p => (g p.1 p.2).map .nx
theorem b_asg {fr fe : Bool} {te : TE} {tg : TG} {e : DX} {g : DG} (he : E K te fe e) (hg : TG1 K tg g) : B K np (tAsg te tg) fr (dAsg e g) := by
  intro F S M τ σ H D out hnp f ee q
  unfold dAsg at ee
  obtain ⟨⟨x, τ1⟩, e1, ee⟩ := Option.bind_eq_some_iff.mp ee
  obtain ⟨τ2, e2, ee⟩ := Option.map_eq_some_iff.mp ee
  cases ee
  refine he.weak.run S M τ σ H _ x τ1 f.r e1 fun v H1 r1 c1 i1 => ?_
  refine hg.run S M τ1 σ H1 v x τ2 _ r1 i1 e2 fun σ' r2 k => ?_
  exact q S M σ' H1 ((f.step r1 c1 (he.like _ _ _ e1)).stay r2 (hg.ms _ _ _ e2) k) (c1.keep f.r.sub)
theorem b_lcs {fr fe : Bool} {te : TE} {i : Nat} {e : DX} (he : E K te fe e) : B K np (fun D σ H => te σ H fun v H' => D.nx (σ.set i (some v)) H') fr (dAsg e (dN i)) := b_asg (tg := gName i) he g_name
def dNew (np i : Nat) (τ : DS) : Option Out := if np ≤ i ∧ i < τ.length then some (.nx (τ.set i (some (.m [])))) else none
def tkP : List (PyData × PyData) → Option (List (List Int × PyData))
  | [] => some []
  | (.tuple ks, d) :: r => (tkI ks).bind fun k => (tkP r).map ((k, d) :: ·)
  | _ => none
where tkI : List PyData → Option (List Int)
  | [] => some []
  | .int i :: r => (tkI r).map (i :: ·)
  | _ => none
theorem tkI_map : ∀ (k : List Int), tkP.tkI (k.map PyData.int) = some k
  | [] => rfl
  | i :: k => by rw [List.map_cons, tkP.tkI, tkI_map k]; rfl
theorem tkP_dct : ∀ (m : List (List Int × PyData)), tkP (dctP m) = some m
  | [] => rfl
  | (k, d) :: m => by
    have := tkP_dct m
    show (tkP.tkI (k.map PyData.int)).bind _ = _
    rw [tkI_map]
    show ((tkP (dctP m)).map _) = _
    rw [this]; rfl
theorem D_dict {o : Ow} {kvs : List (PyData × PyData)} {m : List (List Int × PyData)} (h : PyData.dict kvs = o.D) (e : tkP kvs = some m) : o = .t m := by
  cases o with
  | l xs => cases h
  | t m' => cases h; rw [tkP_dct] at e; cases e; rfl
def dSetM (np i : Nat) (e : DX) (τ : DS) : Option Out := (e τ).bind fun p => match p.1 with
  | .list xs => if np ≤ i ∧ i < p.2.length ∧ p.2.all okM = true then some (.nx (p.2.set i (some (.m xs)))) else none
  | .dict kvs => (tkP kvs).bind fun m => if np ≤ i ∧ i < p.2.length ∧ p.2.all okM = true then some (.nx (p.2.set i (some (.k m)))) else none
  | _ => none
theorem RF.newM {F : Frm} {S M : Addr → Prop} {τ : DS} {σ : St} {H : Hp} (f : RF K F S M τ σ H) {a : Addr} {i : Nat} {xs : Ow} {vs : HO} (hi : i < τ.length) (hnp : F.ar.length ≤ i) (hS : S a) (hM : ¬ M a) (hF : F.H a = none) (h' : H a = some vs)
    (l : IsO K (hid S H) xs a vs) : RF K F S (fun b => M b ∨ b = a) (τ.set i (some xs.L)) (σ.set i (some (.ref a))) H := by
  have hs : i < σ.length := by rw [f.r.len]; exact hi
  have ne : ∀ j, j ≠ i → (τ.set i (some xs.L))[j]? = τ[j]? := fun j hj => List.getElem?_set_ne (Ne.symm hj)
  have ne' : ∀ j, j ≠ i → (σ.set i (some (V.ref a)))[j]? = σ[j]? := fun j hj => List.getElem?_set_ne (Ne.symm hj)
  have se : (τ.set i (some xs.L))[i]? = some (some xs.L) := List.getElem?_set_self hi
  have se' : (σ.set i (some (V.ref a)))[i]? = some (some (.ref a)) := List.getElem?_set_self hs
  have Ma : ∀ (j : Nat) (ys : Ow) (b : Addr), j ≠ i → τ[j]? = some (some ys.L) → σ[j]? = some (some (.ref b)) → b ≠ a := fun j ys b hj e e' z => by
    obtain ⟨b', us, h1, h2, _⟩ := f.r.mt j ys e
    rw [e'] at h1; cases h1
    subst z
    exact hM h2
  refine ⟨⟨by rw [List.length_set, List.length_set]; exact f.r.len, fun j x e => ?_, fun j ys e => ?_, fun j ys e => ?_, fun j1 j2 ys zs b e1 e2 f1 f2 => ?_, fun b h => h.elim (f.r.sub b) fun z => by rw [z]; exact hS, f.r.ex⟩, f.sS, f.old, fun b h => h.elim (f.new b) fun z => .inr (by rw [z]; exact hF), fun b h => .inl (f.fm b h), f.fs, f.fsub, f.snew, fun j v e => ?_, fun j v e => ?_, f.fma⟩
  · by_cases hj : j = i
    · subst hj; rw [se] at e; exact absurd (Option.some.inj (Option.some.inj e)) Ow.not_d
    · rw [ne j hj] at e
      rw [ne' j hj]
      exact f.r.dat j x e
  · by_cases hj : j = i
    · subst hj
      rw [se] at e
      obtain rfl := owL_inj e
      exact ⟨a, vs, se', .inr rfl, h', l⟩
    · rw [ne j hj] at e
      rw [ne' j hj]
      obtain ⟨b, us, h1, h2, h3, h4⟩ := f.r.mt j ys e
      exact ⟨b, us, h1, .inl h2, h3, h4⟩
  · by_cases hj : j = i
    · subst hj; rw [se] at e; exact absurd (Option.some.inj (Option.some.inj e)) Ow.not_c
    · rw [ne j hj] at e
      rw [ne' j hj]
      exact f.r.cst j ys e
  · by_cases h1 : j1 = i
    · by_cases h2 : j2 = i
      · rw [h1, h2]
      · exfalso
        subst h1
        rw [se'] at f1; cases f1
        rw [ne j2 h2] at e2
        rw [ne' j2 h2] at f2
        exact Ma j2 zs _ h2 e2 f2 rfl
    · by_cases h2 : j2 = i
      · exfalso
        subst h2
        rw [se'] at f2; cases f2
        rw [ne j1 h1] at e1
        rw [ne' j1 h1] at f1
        exact Ma j1 ys _ h1 e1 f1 rfl
      · rw [ne j1 h1] at e1
        rw [ne' j1 h1] at f1
        rw [ne j2 h2] at e2
        rw [ne' j2 h2] at f2
        exact f.r.inj _ _ _ _ b e1 e2 f1 f2
  · have : j ≠ i := fun z => by
      subst z
      have := (List.getElem?_eq_some_iff.mp e).1
      omega
    rw [ne' j this]
    exact f.par j v e
  · have : j ≠ i := fun z => by
      subst z
      have := (List.getElem?_eq_some_iff.mp e).1
      omega
    rw [ne j this]
    exact f.pm j v e
theorem RF.hide {F : Frm} {S M : Addr → Prop} {τ : DS} {σ : St} {H H' : Hp} (f : RF K F S M τ σ H) {a : Addr} (s : Same H H') (ha : H a = none) (h' : ∃ o, H' a = some o) : RF K F (fun b => S b ∨ b = a) M τ σ H' := by
  have k : Keep S H (fun b => S b ∨ b = a) H' := fun b o hn e => ⟨fun z => z.elim hn (ne_of_none e ha), s b o e⟩
  refine ⟨⟨f.r.len, fun j x e => let ⟨v, h1, h2⟩ := f.r.dat j x e; ⟨v, h1, h2.mono k.same⟩, fun j x e => let ⟨b, vs, h1, h2, h3, h4⟩ := f.r.mt j x e; ⟨b, vs, h1, h2, s _ _ h3, h4.mono k.same⟩,
    fun j x e => let ⟨b, vs, h1, h2, h3⟩ := f.r.cst j x e; ⟨b, vs, h1, k.same.seq h2, h3.mono k.same⟩, f.r.inj, fun b h => .inl (f.r.sub b h), fun b h => ?_⟩, fun b h => .inl (f.sS b h), fun b o e n => s _ _ (f.old b o e n), f.new, f.fm, f.fs, f.fsub, fun b h => h.elim (f.snew b) fun z => .inr (by rw [z]; exact f.hnone ha), f.par, f.pm, f.fma⟩
  rcases h with h | h
  · obtain ⟨o, e⟩ := f.r.ex b h
    exact ⟨o, s _ _ e⟩
  · rw [h]; exact h'
theorem RF.hideE {F : Frm} {S M : Addr → Prop} {τ τ1 : DS} {σ : St} {H H' : Hp} (f : RF K F S M τ σ H) {a : Addr} (r1 : R K S M τ1 σ H') (c : Chg M H H') (lk : Like τ τ1) (ok : τ1.all okM = true) (ha : H a = none) (h' : ∃ o, H' a = some o ∧ OwH o) : RF K F (fun b => S b ∨ b = a) M τ1 σ H' := by
  have f1 := f.step r1 c lk
  have k : Keep S H (fun b => S b ∨ b = a) H' := fun b o hn e => ⟨fun z => z.elim hn (ne_of_none e ha), c b o (fun z => hn (f.r.sub b z)) e⟩
  have ts : TSm (hid S H') (hid (fun b => S b ∨ b = a) H') := tsame_hid fun b z => z.elim .inl fun z => by subst z; exact .inr h'
  refine ⟨⟨r1.len, fun j x e => ?_, fun j x e => ?_, fun j x e => ?_, r1.inj, fun b h => .inl (f.r.sub b h), fun b h => ?_⟩, fun b h => .inl (f.sS b h), f1.old, f.new, f.fm, f.fs, f.fsub, fun b h => h.elim (f.snew b) fun z => .inr (by rw [z]; exact f.hnone ha), f.par, f1.pm, f.fma⟩
  · obtain ⟨v, h1, h2⟩ := f.r.dat j x (((lk.2 j).1.1 x).mp e)
    exact ⟨v, h1, h2.mono k.same⟩
  · obtain ⟨b, vs, h1, h2, h3, h4⟩ := r1.mt j x e
    exact ⟨b, vs, h1, h2, h3, h4.monoT ts (List.all_eq_true.mp ok (some x.L) (List.mem_of_getElem? e))⟩
  · obtain ⟨b, vs, h1, h2, h3⟩ := f.r.cst j x (((lk.2 j).1.2 x).mp e)
    exact ⟨b, vs, h1, k.same.seq h2, h3.mono k.same⟩
  · rcases h with h | h
    · exact r1.ex b h
    · obtain ⟨vs, e, _⟩ := h'
      rw [h]; exact ⟨_, e⟩
theorem b_new {fr : Bool} {i : Nat} : B K np (tAsg (tLst tNil) (gName i)) fr (dNew np i) := by
  intro F S M τ σ H D out hnp f ee q
  unfold dNew at ee
  split at ee
  · rename_i hi
    cases ee
    refine ⟨Nat.zero_le _, fun a ha => ?_⟩
    have s := same_new ha (HO.lst [])
    have f1 := f.hide s ha ⟨_, upd_same⟩
    have hM : ¬ M a := fun z => f.r.fresh ha (f.r.sub a z)
    exact q _ _ _ _ (f1.newM (xs := .l []) hi.2 (Nat.le_trans hnp hi.1) (.inr rfl) hM (f.hnone ha) upd_same ⟨[], rfl, rfl⟩) fun b o hn e => ⟨fun z => z.elim hn (ne_of_none e ha), s b o e⟩
  · cases ee
theorem b_setM {fr : Bool} {i : Nat} {te : TE} {e : DX} (he : E K te true e) : B K np (tAsg te (gName i)) fr (dSetM np i e) := by
  intro F S M τ σ H D out hnp f ee q
  unfold dSetM at ee
  obtain ⟨⟨x, τ1⟩, e1, ee⟩ := Option.bind_eq_some_iff.mp ee
  dsimp only at ee
  split at ee
  · split at ee
    · rename_i xs hi
      cases ee
      refine he.run S M τ σ H _ _ τ1 f.r e1 fun v H1 r1 c1 i1 => ?_
      obtain ⟨ys, a, vs, e2, rfl, h1, h2, h3⟩ := i1
      obtain rfl := Ow.D_list e2
      have f1 := f.hideE r1 c1 (he.like _ _ _ e1) hi.2.2 h1 ⟨_, h2, h3.ho⟩
      have hM : ¬ M a := fun z => f.r.fresh h1 (f.r.sub a z)
      exact q _ _ _ _ (f1.newM (xs := .l _) hi.2.1 (Nat.le_trans hnp hi.1) (.inr rfl) hM (f.hnone h1) h2 h3) fun b o hn e => ⟨fun z => z.elim hn (ne_of_none e h1), c1 b o (fun z => hn (f.r.sub b z)) e⟩
    · cases ee
  · obtain ⟨m, em, ee⟩ := Option.bind_eq_some_iff.mp ee
    split at ee
    · rename_i hi
      cases ee
      refine he.run S M τ σ H _ _ τ1 f.r e1 fun v H1 r1 c1 i1 => ?_
      obtain ⟨ys, a, vs, e2, rfl, h1, h2, h3⟩ := i1
      obtain rfl := D_dict e2 em
      have f1 := f.hideE r1 c1 (he.like _ _ _ e1) hi.2.2 h1 ⟨_, h2, h3.ho⟩
      have hM : ¬ M a := fun z => f.r.fresh h1 (f.r.sub a z)
      exact q _ _ _ _ (f1.newM (xs := .t _) hi.2.1 (Nat.le_trans hnp hi.1) (.inr rfl) hM (f.hnone h1) h2 h3) fun b o hn e => ⟨fun z => z.elim hn (ne_of_none e h1), c1 b o (fun z => hn (f.r.sub b z)) e⟩
    · cases ee
  · cases ee
def dRet (e : DX) (τ : DS) : Option Out := (e τ).map fun p => .rt p.1 p.2
theorem b_ret {fr fe : Bool} {te : TE} {e : DX} (he : E K te fe e) (hf : fr = true → fe = true) : B K np (tRet te) fr (dRet e) := by
  intro F S M τ σ H D out hnp f ee q
  unfold dRet at ee
  obtain ⟨⟨x, τ1⟩, e1, ee⟩ := Option.map_eq_some_iff.mp ee
  cases ee
  refine he.run S M τ σ H _ x τ1 f.r e1 fun v H1 r1 c1 i1 => ?_
  exact q S M σ H1 v (f.step r1 c1 (he.like _ _ _ e1)) (f.res (i1.imp (fun _ => f.r.fresh) fr hf))
def dRetM (np i : Nat) (τ : DS) : Option Out := match τ[i]? with
  | some (some (.m xs)) => if np ≤ i then some (.rt (.list xs) τ) else none
  | some (some (.k xs)) => if np ≤ i then some (.rt (.dict (dctP xs)) τ) else none
  | _ => none
theorem dRetM_some {np i : Nat} {τ : DS} {out : Out} (e : dRetM np i τ = some out) : ∃ w, τ[i]? = some (some (Ow.L w)) ∧ np ≤ i ∧ out = .rt w.D τ := by
  unfold dRetM at e
  split at e
  · rename_i xs hx
    split at e
    · rename_i h; cases e; exact ⟨.l xs, hx, h, rfl⟩
    · cases e
  · rename_i xs hx
    split at e
    · rename_i h; cases e; exact ⟨.t xs, hx, h, rfl⟩
    · cases e
  · cases e
theorem b_retM {fr : Bool} {i : Nat} : B K np (tRet (tVar i)) fr (dRetM np i) := by
  intro F S M τ σ H D out hnp f ee q
  obtain ⟨xs, hx, hi, rfl⟩ := dRetM_some ee
  obtain ⟨a, vs, h1, h2, h3, h4⟩ := f.r.mt i xs hx
  refine ⟨_, h1, q S M σ H _ f ?_⟩
  have hF : F.H a = none := by
    rcases f.new a h2 with z | z
    · exfalso
      obtain ⟨j, hj⟩ := f.fma a z
      obtain ⟨ys, hy⟩ := f.pm j _ hj
      have e := f.r.inj j i ys xs a hy hx (f.par j _ hj) h1
      have := (List.getElem?_eq_some_iff.mp hj).1
      omega
    · exact z
  have res : Res K true F.S F.H H xs.D (.ref a) := ⟨xs, a, vs, rfl, rfl, hF, h3, h4.mono (hid_less fun b z => z.elim (f.sS b) fun z => by rw [z]; exact f.r.sub a h2)⟩
  refine res.imp (fun b hb => ?_) fr fun _ => rfl
  intro z
  obtain ⟨o, e⟩ := f.fs b z
  rw [hb] at e; cases e
def dRetN (τ : DS) : Option Out := some (.rt .none τ)
def dExpr (e : DX) (τ : DS) : Option Out := (e τ).map fun p => .nx p.2
theorem b_expr {fr fe : Bool} {te : TE} {e : DX} (he : E K te fe e) : B K np (tDrop te) fr (dExpr e) := by
  intro F S M τ σ H D out hnp f ee q
  unfold dExpr at ee
  obtain ⟨⟨x, τ1⟩, e1, ee⟩ := Option.map_eq_some_iff.mp ee
  cases ee
  refine he.run S M τ σ H _ x τ1 f.r e1 fun v H1 r1 c1 i1 => ?_
  exact q S M σ H1 (f.step r1 c1 (he.like _ _ _ e1)) (c1.keep f.r.sub)
def dMt (i : Nat) (G : List PyData → List PyData → Option (PyData × List PyData)) (a : DA) (τ : DS) : Option (PyData × DS) := (a τ).bind fun p => (allD p.1).bind fun ds => match p.2[i]? with
  | some (some (.m xs)) => (G xs ds).map fun q => (q.1, p.2.set i (some (.m q.2)))
  | _ => none
def MR (K : PySem.W.Frag) (r : V → List V → Hp → VK → Prop) (G : List PyData → List PyData → Option (PyData × List PyData)) : Prop := ∀ (S : Addr → Prop) H a vs us xs ds d xs' (Q : VK), S a → H a = some (.lst vs) → IsL K (hid S H) xs vs → IsL K (hid S H) ds us → G xs ds = some (d, xs') →
  (∀ v vs', Is K (hid S H) d v → IsL K (hid S H) xs' vs' → Q v (upd H a (.lst vs'))) → r (.ref a) us H Q
theorem hid_upd {S : Addr → Prop} {H : Hp} {a : Addr} {o : HO} (h : S a) : hid S (upd H a o) = hid S H := by
  funext b
  unfold hid
  by_cases z : S b
  · rw [if_pos z, if_pos z]
  · rw [if_neg z, if_neg z, upd_ne (fun e => z (by rw [e]; exact h))]
theorem dMt_some {i : Nat} {G : List PyData → List PyData → Option (PyData × List PyData)} {a : DA} {τ τ' : DS} {d : PyData} (e : dMt i G a τ = some (d, τ')) : ∃ rs τ1 ds xs xs', a τ = some (rs, τ1) ∧ allD rs = some ds ∧ τ1[i]? = some (some (.m xs)) ∧ G xs ds = some (d, xs') ∧ τ' = τ1.set i (some (.m xs')) := by
  unfold dMt at e
  obtain ⟨⟨x, τ1⟩, e1, e⟩ := Option.bind_eq_some_iff.mp e
  obtain ⟨ds, e2, e⟩ := Option.bind_eq_some_iff.mp e
  dsimp only at e
  split at e
  · rename_i xs hx
    obtain ⟨⟨z, zs⟩, e3, e⟩ := Option.map_eq_some_iff.mp e
    cases e
    exact ⟨x, τ1, ds, xs, zs, e1, e2, hx, e3, rfl⟩
  · cases e
theorem e_mt {i : Nat} {r : V → List V → Hp → VK → Prop} {G : List PyData → List PyData → Option (PyData × List PyData)} {t : TA} {a : DA} (h : MR K r G) (ha : A K t a) : E K (tBM K "list" r (tVar i) t) false (dMt i G a) := by
  refine ⟨fun τ d τ' e => ?_, ?_⟩
  · obtain ⟨rs, τ1, ds, xs, xs', e1, e2, e3, e4, rfl⟩ := dMt_some e
    exact (ha.like _ _ _ e1).trans (like_setM e3)
  intro S M τ σ H Q d τ' rr e q
  obtain ⟨rs, τ1, ds, xs, xs', e1, e2, e3, e4, rfl⟩ := dMt_some e
  have lk := ha.like _ _ _ e1
  obtain ⟨zs, hz⟩ := lk.ml e3
  obtain ⟨p, us, hp, hM, hl0, _⟩ := rr.ml i zs hz
  refine ⟨.ref p, hp, .inl ⟨rfl, us, SqL.of hl0⟩, ?_⟩
  refine ha.run S M τ σ H _ rs _ rr e1 fun vs H1 r1 c1 i1 => ?_
  have l := allD_is i1 e2
  obtain ⟨p', us', hp', hM', hl, ll⟩ := r1.ml i xs e3
  rw [hp] at hp'; cases hp'
  have Sp := r1.sub p hM'
  refine h S H1 p us' vs xs ds d xs' _ Sp hl ll l e4 fun v vs' iv il => ?_
  have c : Chg (fun b => b = p) H1 (upd H1 p (.lst vs')) := fun b o hn e => by rw [upd_ne hn]; exact e
  refine q v _ (r1.setM e3 hp c upd_same (by rw [hid_upd Sp]; exact il)) (c1.trans fun b o hn e => c b o (fun z => hn (by subst z; exact hM')) e) ?_
  show Is K (hid S _) d v
  rw [hid_upd Sp]; exact iv
theorem e_mt0 {i : Nat} {r : V → List V → Hp → VK → Prop} {G : List PyData → List PyData → Option (PyData × List PyData)} (h : MR K r G) : E K (tBM0 K "list" r (tVar i)) false (dMt i G dANil) := by
  refine ⟨(e_mt (i := i) h a_nil).like, ?_⟩
  intro S M τ σ H Q d τ' rr e q
  obtain ⟨v, h1, h2, h3⟩ := (e_mt (i := i) h a_nil).run S M τ σ H Q d τ' rr e q
  exact ⟨v, h1, h2, h3⟩
def gAppend : List PyData → List PyData → Option (PyData × List PyData)
  | xs, [d] => if xs.length < sizeLine then some (.none, xs ++ [d]) else none
  | _, _ => none
theorem m_append : MR K rAppend gAppend := by
  intro S H a vs us xs ds d xs' Q Sa hl ll l e q
  unfold gAppend at e
  split at e
  · split at e
    · rename_i d0 hz
      cases e
      obtain ⟨v, us', rfl, iv, iu⟩ := l
      cases (show us' = [] from iu)
      exact ⟨a, vs, v, rfl, rfl, hl, by rw [ll.length]; exact hz, q _ _ rfl (isl_snoc ll iv)⟩
    · cases e
  · cases e
def gExtend : List PyData → List PyData → Option (PyData × List PyData)
  | xs, [.list ys] => if xs.length + ys.length ≤ sizeLine then some (.none, xs ++ ys) else none
  | _, _ => none
theorem m_extend : MR K rExtend gExtend := by
  intro S H a vs us xs ds d xs' Q Sa hl ll l e q
  unfold gExtend at e
  split at e
  · split at e
    · rename_i ys hz
      cases e
      obtain ⟨v, us', rfl, ⟨b, ws, rfl, hb, lb⟩, iu⟩ := l
      cases (show us' = [] from iu)
      exact ⟨a, b, vs, ws, rfl, rfl, hl, (hid_iff.mp hb).2, by rw [ll.length, lb.length]; exact hz, q _ _ rfl (isl_append ll lb)⟩
    · cases e
  · cases e
def gClear : List PyData → List PyData → Option (PyData × List PyData)
  | _, [] => some (.none, [])
  | _, _ => none
theorem m_clear : MR K rClear gClear := by
  intro S H a vs us xs ds d xs' Q Sa hl ll l e q
  unfold gClear at e
  split at e
  · cases e
    exact ⟨a, vs, rfl, l, hl, q _ _ rfl rfl⟩
  · cases e
theorem isl_set {H : Hp} : ∀ {xs : List PyData} {vs : List V} {j : Nat} {d : PyData} {v : V}, IsL K H xs vs → Is K H d v → IsL K H (xs.set j d) (vs.set j v)
  | [], _, _, _, _, h, _ => by rw [show _ = [] from h]; rfl
  | x :: xs, _, 0, d, v, ⟨u, us, e, h, l⟩, i => by subst e; exact ⟨v, us, rfl, i, l⟩
  | x :: xs, _, j + 1, d, v, ⟨u, us, e, h, l⟩, i => by subst e; exact ⟨u, us.set j v, rfl, h, isl_set l i⟩
def dSetI (i : Nat) (e k : DX) (τ : DS) : Option Out := (e τ).bind fun p => (k p.2).bind fun q => match q.2[i]?, q.1 with
  | some (some (.m xs)), .int n => (ixN xs.length n).map fun j => .nx (q.2.set i (some (.m (xs.set j p.1))))
  | _, _ => none
theorem b_setI {fr f1 f2 : Bool} {i : Nat} {te tk : TE} {e k : DX} (he : E K te f1 e) (hk : E K tk f2 k) : B K np (tAsg te (gSub (tVar i) tk rSetL)) fr (dSetI i e k) := by
  intro F S M τ σ H D out hnp f ee q
  unfold dSetI at ee
  obtain ⟨⟨x, τ1⟩, e1, ee⟩ := Option.bind_eq_some_iff.mp ee
  obtain ⟨⟨y, τ2⟩, e2, ee⟩ := Option.bind_eq_some_iff.mp ee
  dsimp only at ee
  split at ee
  · rename_i xs n hx
    obtain ⟨j, e3, ee⟩ := Option.map_eq_some_iff.mp ee
    cases ee
    have lk1 := he.like _ _ _ e1
    have lk2 := hk.like _ _ _ e2
    refine he.weak.run S M τ σ H _ x τ1 f.r e1 fun v H1 r1 c1 i1 => ?_
    obtain ⟨zs, hz⟩ := lk2.ml hx
    obtain ⟨p, us, hp, hM, _, _⟩ := r1.ml i zs hz
    refine ⟨.ref p, hp, hk.weak.run S M τ1 σ H1 _ _ τ2 r1 e2 fun w H2 r2 c2 i2 => ?_⟩
    obtain ⟨p', us', hp', hM', hl, ll⟩ := r2.ml i xs hx
    rw [hp] at hp'; cases hp'
    have Sp := r2.sub p hM'
    refine ⟨p, us', n, j, rfl, i2, hl, by rw [ll.length]; exact e3, ?_⟩
    have c : Chg (fun b => b = p) H2 (upd H2 p (.lst (us'.set j v))) := fun b o hn e => by rw [upd_ne hn]; exact e
    have iv : Is K (hid S H2) x v := Is.mono (c2.keep r1.sub).same i1
    have f2 := f.step r2 (c1.trans c2) (lk1.trans lk2)
    have r3 := r2.setM hx hp c upd_same (by rw [hid_upd Sp]; exact isl_set (j := j) ll iv)
    have c3 : Chg M H2 (upd H2 p (.lst (us'.set j v))) := fun b o hn e => c b o (fun z => hn (by subst z; exact hM')) e
    exact q S M σ _ (f2.step r3 c3 (like_setM hx)) (((c1.trans c2).trans c3).keep f.r.sub)
  · cases ee
theorem Gl.trans {F : Frm} {fr : Bool} {S S1 : Addr → Prop} {H H1 : Hp} {D : Ends} {o : Out} (k : Keep S H S1 H1) (h : Gl K F fr S H D o) : Gl K F fr S1 H1 D o := by
  cases o with
  | nx τ => exact fun S' M' σ' H' r k' => h S' M' σ' H' r (k.trans k')
  | bk τ => exact fun S' M' σ' H' r k' => h S' M' σ' H' r (k.trans k')
  | ct τ => exact fun S' M' σ' H' r k' => h S' M' σ' H' r (k.trans k')
  | rt d τ => exact fun S' M' σ' H' v r k' => h S' M' σ' H' v r k'
def dNil (τ : DS) : Option Out := some (.nx τ)
theorem b_nil {fr : Bool} : B K np tNext fr dNil := by
  intro F S M τ σ H D out hnp f ee q
  cases ee
  exact q S M σ H f .refl
def dSeq (a b : DB) (τ : DS) : Option Out := (a τ).bind fun o => match o with
  | .nx τ' => b τ'
  | o => some o
theorem b_seq {fr : Bool} {t u : TS} {a b : DB} (ha : B K np t fr a) (hb : B K np u fr b) : B K np (tSeq t u) fr (dSeq a b) := by
  intro F S M τ σ H D out hnp f ee q
  unfold dSeq at ee
  obtain ⟨o, e1, ee⟩ := Option.bind_eq_some_iff.mp ee
  refine ha F S M τ σ H _ o hnp f e1 ?_
  cases o with
  | nx τ1 => exact fun S' M' σ' H' r k => hb F S' M' τ1 σ' H' D out hnp r ee (q.trans k)
  | bk τ1 => cases ee; exact q
  | ct τ1 => cases ee; exact q
  | rt d τ1 => cases ee; exact q
def dIfS (c : DT) (a b : DB) (τ : DS) : Option Out := (c τ).bind fun p => if p.1 = true then a p.2 else b p.2
theorem b_if {fr : Bool} {tc : TT} {t u : TS} {c : DT} {a b : DB} (hc : T K tc c) (ha : B K np t fr a) (hb : B K np u fr b) : B K np (tIfS tc t u) fr (dIfS c a b) := by
  intro F S M τ σ H D out hnp f ee q
  unfold dIfS at ee
  obtain ⟨⟨k, τ1⟩, e1, ee⟩ := Option.bind_eq_some_iff.mp ee
  refine hc.run S M τ σ H _ k τ1 f.r e1 fun H1 r1 c1 => ?_
  have f1 := f.step r1 c1 (hc.like _ _ _ e1)
  cases k with
  | true => exact ha F S M τ1 σ H1 D out hnp f1 ee (q.trans (c1.keep f.r.sub))
  | false => exact hb F S M τ1 σ H1 D out hnp f1 ee (q.trans (c1.keep f.r.sub))
def dBrk (τ : DS) : Option Out := some (.bk τ)
def dCnt (τ : DS) : Option Out := some (.ct τ)
def dNever : DB := fun _ => none
def dLoop (g : DG) (b : DB) : List PyData → DS → Option Out
  | [], τ => some (.nx τ)
  | d :: ds, τ => (g d τ).bind fun τ1 => (b τ1).bind fun o => match o with
    | .nx τ2 => dLoop g b ds τ2
    | .ct τ2 => dLoop g b ds τ2
    | .bk τ2 => some (.nx τ2)
    | .rt d τ2 => some (.rt d τ2)
def dFor (it : DI) (g : DG) (b : DB) (τ : DS) : Option Out := (it τ).bind fun p => dLoop g b p.1 p.2
theorem b_for {fr : Bool} {wi : TI} {tg : TG} {tb : TS} {it : DI} {g : DG} {b : DB} (hi : IT K wi it) (hg : TG1 K tg g) (hb : B K np tb fr b) : B K np (tFor wi tg tb) fr (dFor it g b) := by
  intro F S M τ σ H D out hnp f ee q
  unfold dFor at ee
  obtain ⟨⟨ds, τ1⟩, e1, ee⟩ := Option.bind_eq_some_iff.mp ee
  refine hi.run S M τ σ H _ ds τ1 f.r e1 fun J H1 r1 c1 iJ => ?_
  have f1 := f.step r1 c1 (hi.like _ _ _ e1)
  have q1 := q.trans (c1.keep f.r.sub)
  refine ⟨fun i m σ' H' => m = ds.length - i ∧ i ≤ ds.length ∧ ∃ S' M' τ', RF K F S' M' τ' σ' H' ∧ Keep S H1 S' H' ∧ dLoop g b (ds.drop i) τ' = some out, ⟨ds.length, by simp, Nat.zero_le _, S, M, τ1, f1, .refl, by simpa using ee⟩, ?_⟩
  rintro i m σ' H' ⟨rfl, hil, S', M', τ', f', k', hl⟩
  obtain ⟨I1, I2⟩ := iJ _ _ k'
  by_cases hlt : i < ds.length
  · right
    have ed : ds[i]? = some ds[i] := List.getElem?_eq_getElem hlt
    obtain ⟨go, yl⟩ := I1 i _ ed
    refine ⟨go, fun σ2 H2 => ∃ S2 M2 τ2, RF K F S2 M2 τ2 σ2 H2 ∧ Keep S H1 S2 H2 ∧ dLoop g b (ds.drop (i + 1)) τ2 = some out, fun σ2 H2 h => ⟨ds.length - (i + 1), by omega, rfl, hlt, h⟩, fun x H2 y => ?_⟩
    obtain ⟨rfl, ix⟩ := yl x H2 y
    rw [List.drop_eq_getElem_cons hlt, dLoop] at hl
    obtain ⟨τ2, e2, hl⟩ := Option.bind_eq_some_iff.mp hl
    obtain ⟨o, e3, hl⟩ := Option.bind_eq_some_iff.mp hl
    refine hg.run S' M' τ' σ' H2 x _ τ2 _ f'.r ix e2 fun σ3 r3 k3 => ?_
    have f3 := f'.stay r3 (hg.ms _ _ _ e2) k3
    refine hb F S' M' τ2 σ3 H2 _ o hnp f3 e3 ?_
    cases o with
    | nx τ4 => exact fun S4 M4 σ4 H4 f4 k4 => ⟨S4, M4, τ4, f4, k'.trans k4, hl⟩
    | ct τ4 => exact fun S4 M4 σ4 H4 f4 k4 => ⟨S4, M4, τ4, f4, k'.trans k4, hl⟩
    | bk τ4 => cases hl; exact fun S4 M4 σ4 H4 f4 k4 => q1 S4 M4 σ4 H4 f4 (k'.trans k4)
    | rt d τ4 => cases hl; exact fun S4 M4 σ4 H4 v f4 k4 => q1 S4 M4 σ4 H4 v f4 k4
  · left
    have e : i = ds.length := by omega
    subst e
    rw [List.drop_length, dLoop] at hl
    cases hl
    exact ⟨I2 _ (Nat.le_refl _), q1 S' M' σ' H' f' k'⟩
def dWh (c : DT) (b : DB) : Nat → DS → Option Out
  | 0, _ => none
  | n + 1, τ => (c τ).bind fun p => if p.1 = true then (b p.2).bind fun o => (match o with
      | .nx τ2 => dWh c b n τ2
      | .ct τ2 => dWh c b n τ2
      | .bk τ2 => some (.nx τ2)
      | .rt d τ2 => some (.rt d τ2)) else some (.nx p.2)
def dWhile (n : DS → Nat) (c : DT) (b : DB) (τ : DS) : Option Out := dWh c b (n τ) τ
theorem b_while {fr : Bool} {n : DS → Nat} {tc : TT} {tb : TS} {c : DT} {b : DB} (hc : T K tc c) (hb : B K np tb fr b) : B K np (tWhile tc tb) fr (dWhile n c b) := by
  intro F S M τ σ H D out hnp f ee q
  unfold dWhile at ee
  refine ⟨fun m σ' H' => ∃ S' M' τ', RF K F S' M' τ' σ' H' ∧ Keep S H S' H' ∧ dWh c b m τ' = some out, ⟨n τ, S, M, τ, f, .refl, ee⟩, ?_⟩
  rintro m σ' H' ⟨S', M', τ', f', k', hl⟩
  cases m with
  | zero => cases hl
  | succ m =>
    rw [dWh] at hl
    obtain ⟨⟨k, τ1⟩, e1, hl⟩ := Option.bind_eq_some_iff.mp hl
    refine hc.run S' M' τ' σ' H' _ k τ1 f'.r e1 fun H1 r1 c1 => ?_
    have f1 := f'.step r1 c1 (hc.like _ _ _ e1)
    have k1 := k'.trans (c1.keep f'.r.sub)
    cases k with
    | false =>
      rw [if_neg Bool.false_ne_true] at hl ⊢
      cases hl
      exact q S' M' σ' H1 f1 k1
    | true =>
      rw [if_pos rfl] at hl ⊢
      obtain ⟨o, e3, hl⟩ := Option.bind_eq_some_iff.mp hl
      refine ⟨fun σ2 H2 => ∃ S2 M2 τ2, RF K F S2 M2 τ2 σ2 H2 ∧ Keep S H S2 H2 ∧ dWh c b m τ2 = some out, fun σ2 H2 h => ⟨m, Nat.lt_succ_self _, h⟩, ?_⟩
      refine hb F S' M' τ1 σ' H1 _ o hnp f1 e3 ?_
      cases o with
      | nx τ4 => exact fun S4 M4 σ4 H4 f4 k4 => ⟨S4, M4, τ4, f4, k1.trans k4, hl⟩
      | ct τ4 => exact fun S4 M4 σ4 H4 f4 k4 => ⟨S4, M4, τ4, f4, k1.trans k4, hl⟩
      | bk τ4 => cases hl; exact fun S4 M4 σ4 H4 f4 k4 => q S4 M4 σ4 H4 f4 (k1.trans k4)
      | rt d τ4 => cases hl; exact fun S4 M4 σ4 H4 v f4 k4 => q S4 M4 σ4 H4 v f4 k4
def fin : List L → DS → Option (List L)
  | [], _ => some []
  | .d x :: ls, _ :: τ => (fin ls τ).map (.d x :: ·)
  | .c x :: ls, _ :: τ => (fin ls τ).map (.c x :: ·)
  | .m _ :: ls, some (.m xs) :: τ => (fin ls τ).map (.m xs :: ·)
  | .k _ :: ls, some (.k xs) :: τ => (fin ls τ).map (.k xs :: ·)
  | _, _ => none
def dFun (fr : Bool) (np nl : Nat) (b : DB) (ls : List L) : Option (PyData × List L) := if ls.length = np then (b (ls.map some ++ List.replicate nl none)).bind fun o => match o with
    | .nx τ => if fr = true then none else (fin ls τ).map fun ls' => (.none, ls')
    | .rt d τ => (fin ls τ).map fun ls' => (d, ls')
    | _ => none
  else none
theorem fin_get : ∀ {ls : List L} {τ : DS} {ls' : List L} {i : Nat} {l : L}, fin ls τ = some ls' → ls'[i]? = some l → match l with
    | .d x => ls[i]? = some (.d x)
    | .c x => ls[i]? = some (.c x)
    | .m xs => (∃ ys, ls[i]? = some (.m ys)) ∧ τ[i]? = some (some (.m xs))
    | .k xs => (∃ ys, ls[i]? = some (.k ys)) ∧ τ[i]? = some (some (.k xs))
  | [], _, _, _, _, h, e => by cases h; simp at e
  | .d x :: ls, o :: τ, _, i, l, h, e => by
    obtain ⟨zs, h1, h⟩ := Option.map_eq_some_iff.mp h
    subst h
    cases i with
    | zero => cases e; rfl
    | succ i =>
      have := fin_get (i := i) (l := l) h1 (by simpa using e)
      cases l <;> simpa using this
  | .c x :: ls, o :: τ, _, i, l, h, e => by
    obtain ⟨zs, h1, h⟩ := Option.map_eq_some_iff.mp h
    subst h
    cases i with
    | zero => cases e; rfl
    | succ i =>
      have := fin_get (i := i) (l := l) h1 (by simpa using e)
      cases l <;> simpa using this
  | .m x :: ls, some (.m xs) :: τ, _, i, l, h, e => by
    obtain ⟨zs, h1, h⟩ := Option.map_eq_some_iff.mp h
    subst h
    cases i with
    | zero => cases e; exact ⟨⟨_, rfl⟩, rfl⟩
    | succ i =>
      have := fin_get (i := i) (l := l) h1 (by simpa using e)
      cases l <;> simpa using this
  | .k x :: ls, some (.k xs) :: τ, _, i, l, h, e => by
    obtain ⟨zs, h1, h⟩ := Option.map_eq_some_iff.mp h
    subst h
    cases i with
    | zero => cases e; exact ⟨⟨_, rfl⟩, rfl⟩
    | succ i =>
      have := fin_get (i := i) (l := l) h1 (by simpa using e)
      cases l <;> simpa using this
theorem fin_len : ∀ {ls : List L} {τ : DS} {ls' : List L}, fin ls τ = some ls' → ls'.length = ls.length
  | [], _, _, h => by cases h; rfl
  | .d x :: ls, o :: τ, _, h => by
    obtain ⟨zs, h1, h⟩ := Option.map_eq_some_iff.mp h
    subst h
    rw [List.length_cons, List.length_cons, fin_len h1]
  | .c x :: ls, o :: τ, _, h => by
    obtain ⟨zs, h1, h⟩ := Option.map_eq_some_iff.mp h
    subst h
    rw [List.length_cons, List.length_cons, fin_len h1]
  | .m x :: ls, some (.m xs) :: τ, _, h => by
    obtain ⟨zs, h1, h⟩ := Option.map_eq_some_iff.mp h
    subst h
    rw [List.length_cons, List.length_cons, fin_len h1]
  | .k x :: ls, some (.k xs) :: τ, _, h => by
    obtain ⟨zs, h1, h⟩ := Option.map_eq_some_iff.mp h
    subst h
    rw [List.length_cons, List.length_cons, fin_len h1]
theorem fin_own {ls : List L} {τ : DS} {ls' : List L} {i : Nat} {x : Ow} (h : fin ls τ = some ls') (e : ls'[i]? = some x.L) : (∃ ys : Ow, ls[i]? = some ys.L) ∧ τ[i]? = some (some x.L) := by
  cases x with
  | l xs => obtain ⟨⟨ys, h1⟩, h2⟩ := fin_get h e; exact ⟨⟨.l ys, h1⟩, h2⟩
  | t xs => obtain ⟨⟨ys, h1⟩, h2⟩ := fin_get h e; exact ⟨⟨.t ys, h1⟩, h2⟩
theorem at_map {α β : Type} {f : α → β} {xs : List α} {i : Nat} {y : β} (h : (xs.map f)[i]? = some y) : ∃ x, xs[i]? = some x ∧ f x = y := by
  rw [List.getElem?_map] at h
  cases e : xs[i]? with
  | none => rw [e] at h; cases h
  | some x => rw [e] at h; exact ⟨x, rfl, Option.some.inj h⟩
theorem fn_len {G : List L → Option (PyData × List L)} {fr : Bool} {vs : List V} {H : Hp} {Q : VK} {X : XK} {np : Nat} (hG : ∀ ls r, G ls = some r → ls.length = np) (h : spD K G fr vs H Q X) : vs.length = np := by
  obtain ⟨S, M, ls, r, ls', hR, e, _⟩ := h
  have := hR.len
  rw [List.length_map, List.length_map] at this
  rw [this, hG _ _ e]
theorem dFun_len {fr : Bool} {np nl : Nat} {b : DB} : ∀ ls r, dFun fr np nl b ls = some r → ls.length = np := fun ls r h => by
  unfold dFun at h
  split at h
  · assumption
  · cases h
theorem fn_run {np nl : Nat} {t : TS} {fr : Bool} {b : DB} {N : List Str} {vs : List V} {H : Hp} {Q : VK} {X : XK} (hb : B K np t fr b) (hN : N.length = np + nl) (h : spD K (dFun fr np nl b) fr vs H Q X) : t { nx := fun _ H' => Q .non H', rt := Q } (L2.start N vs) H := by
  obtain ⟨S, M, ls, r, ls', hR, e, q⟩ := h
  have hlen := dFun_len _ _ e
  have hvl : vs.length = ls.length := by have := hR.len; rw [List.length_map, List.length_map] at this; exact this
  unfold dFun at e
  rw [if_pos hlen] at e
  obtain ⟨o, e1, e⟩ := Option.bind_eq_some_iff.mp e
  have est : L2.start N vs = vs.map some ++ List.replicate nl none := by
    unfold L2.start
    rw [hN, hvl, hlen, Nat.add_sub_cancel_left]
  rw [est]
  -- the entry
  have lsm : ∀ (i : Nat) (l : L), (ls.map some ++ List.replicate nl none : DS)[i]? = some (some l) → ls[i]? = some l := fun i l h => by
    by_cases hi : i < ls.length
    · rw [List.getElem?_append_left (by rw [List.length_map]; exact hi)] at h
      obtain ⟨x, h1, h2⟩ := at_map h
      cases h2; exact h1
    · rw [List.getElem?_append_right (by rw [List.length_map]; omega), List.getElem?_replicate] at h
      split at h <;> cases h
  have vsm : ∀ (i : Nat) (v : V), (vs.map some)[i]? = some (some v) → (vs.map some ++ List.replicate nl none : St)[i]? = some (some v) := fun i v h => by
    rw [List.getElem?_append_left (List.getElem?_eq_some_iff.mp h).1]; exact h
  have vsb : ∀ (i : Nat) (v : V), (vs.map some ++ List.replicate nl none : St)[i]? = some (some v) → (vs.map some)[i]? = some (some v) := fun i v h => by
    by_cases hi : i < (vs.map some).length
    · rw [List.getElem?_append_left hi] at h; exact h
    · rw [List.getElem?_append_right (by omega), List.getElem?_replicate] at h
      split at h <;> cases h
  have lm : ∀ (i : Nat) (l : L), ls[i]? = some l → (ls.map some)[i]? = some (some l) := fun i l h => by rw [List.getElem?_map, h]; rfl
  let Mx : Addr → Prop := fun a => ∃ (i : Nat) (xs : Ow), ls[i]? = some xs.L ∧ vs[i]? = some (.ref a)
  let ar : List (Option V) := (ls.zip vs).map fun p => match p.1 with
    | .m _ => some p.2
    | .k _ => some p.2
    | _ => none
  have arg : ∀ (i : Nat) (v : V), ar[i]? = some (some v) → ∃ xs : Ow, ls[i]? = some xs.L ∧ vs[i]? = some v := fun i v h => by
    obtain ⟨⟨l, u⟩, h1, h2⟩ := at_map h
    rw [List.getElem?_zip_eq_some] at h1
    cases l with
    | d x => cases h2
    | c x => cases h2
    | m xs => cases h2; exact ⟨.l xs, h1.1, h1.2⟩
    | k xs => cases h2; exact ⟨.t xs, h1.1, h1.2⟩
  have gar : ∀ (i : Nat) (xs : Ow) (v : V), ls[i]? = some xs.L → vs[i]? = some v → ar[i]? = some (some v) := fun i xs v h1 h2 => by
    show ((ls.zip vs).map _)[i]? = _
    rw [List.getElem?_map, (List.getElem?_zip_eq_some (z := (xs.L, v))).mpr ⟨h1, h2⟩]
    cases xs <;> rfl
  have Msub : ∀ a, Mx a → M a := fun a ⟨i, xs, h1, h2⟩ => by
    obtain ⟨b', us, h3, h4, _⟩ := hR.mt i xs (lm i _ h1)
    rw [List.getElem?_map, h2] at h3
    cases h3; exact h4
  have f0 : RF K ⟨S, Mx, H, ar⟩ S Mx (ls.map some ++ List.replicate nl none) (vs.map some ++ List.replicate nl none) H := by
    refine ⟨⟨by simp [hvl], fun i x h => ?_, fun i x h => ?_, fun i x h => ?_, fun i j xs ys a h1 h2 h3 h4 => hR.inj i j xs ys a (lm _ _ (lsm _ _ h1)) (lm _ _ (lsm _ _ h2)) (vsb _ _ h3) (vsb _ _ h4), fun a h => hR.sub a (Msub a h), hR.ex⟩,
      fun a h => h, fun b o h _ => h, fun a h => .inl h, fun a h => h, hR.ex, fun a h => hR.sub a (Msub a h), fun a h => .inl h, fun i v h => ?_, fun i v h => ?_, fun a ⟨i, xs, h1, h2⟩ => ⟨i, gar i xs _ h1 h2⟩⟩
    · obtain ⟨v, h1, h2⟩ := hR.dat i x (lm _ _ (lsm _ _ h))
      exact ⟨v, vsm _ _ h1, h2⟩
    · obtain ⟨a, us, h1, h2, h3, h4⟩ := hR.mt i x (lm _ _ (lsm _ _ h))
      refine ⟨a, us, vsm _ _ h1, ⟨i, x, lsm _ _ h, ?_⟩, h3, h4⟩
      obtain ⟨v, h5, h6⟩ := at_map h1
      cases h6; exact h5
    · obtain ⟨a, us, h1, h2⟩ := hR.cst i x (lm _ _ (lsm _ _ h))
      exact ⟨a, us, vsm _ _ h1, h2⟩
    · obtain ⟨xs, h1, h2⟩ := arg i v h
      exact vsm _ _ (by rw [List.getElem?_map, h2]; rfl)
    · obtain ⟨xs, h1, h2⟩ := arg i v h
      refine ⟨xs, ?_⟩
      rw [List.getElem?_append_left (by rw [List.length_map]; exact (List.getElem?_eq_some_iff.mp h1).1)]
      exact lm _ _ h1
  have hnp : ar.length ≤ np := by
    show ((ls.zip vs).map _).length ≤ np
    rw [List.length_map, List.length_zip]
    omega
  -- the end
  have done : ∀ {S' M' τ' σ' H' d v} {ls1 : List L}, RF K ⟨S, Mx, H, ar⟩ S' M' τ' σ' H' → fin ls τ' = some ls1 → (r, ls') = (d, ls1) → Res K fr S H H' d v → Q v H' := fun {S' M' τ' σ' H' d v ls1} f hf er res => by
    cases er
    have k : Keep S H S H' := fun b o hn e => ⟨hn, f.old b o e fun z => hn (hR.sub b (Msub b z))⟩
    refine q v H' ⟨?_, fun i x h => ?_, fun i x h => ?_, fun i x h => ?_, fun i j xs ys a h1 h2 h3 h4 => ?_, hR.sub, fun a h => f.r.ex a (f.sS a h)⟩ (fun b o hn e => f.old b o e fun z => hn (Msub b z)) res
    · rw [List.length_map, List.length_map, fin_len hf, hvl]
    · obtain ⟨l, h1, h2⟩ := at_map h
      cases h2
      have := fin_get hf h1
      obtain ⟨v, h3, h4⟩ := hR.dat i x (lm _ _ this)
      exact ⟨v, h3, h4.mono k.same⟩
    · obtain ⟨l, h1, h2⟩ := at_map h
      cases h2
      obtain ⟨⟨ys, h3⟩, h4⟩ := fin_own hf h1
      obtain ⟨a, us, h5, h6, h7, h8⟩ := f.r.mt i x h4
      obtain ⟨b, ws, g1, g2, _⟩ := hR.mt i ys (lm _ _ h3)
      obtain ⟨u, g3, g4⟩ := at_map g1
      cases g4
      have := f.par i _ (gar i ys _ h3 g3)
      rw [h5] at this; cases this
      exact ⟨a, us, g1, g2, h7, h8.mono (hid_less f.sS)⟩
    · obtain ⟨l, h1, h2⟩ := at_map h
      cases h2
      have := fin_get hf h1
      obtain ⟨a, us, h3, h4, h5⟩ := hR.cst i x (lm _ _ this)
      exact ⟨a, us, h3, k.same.seq h4, h5.mono k.same⟩
    · obtain ⟨l1, g1, g2⟩ := at_map h1
      obtain ⟨l2, g3, g4⟩ := at_map h2
      cases g2; cases g4
      obtain ⟨⟨zs, h5⟩, _⟩ := fin_own hf g1
      obtain ⟨⟨ws, h6⟩, _⟩ := fin_own hf g3
      exact hR.inj i j zs ws a (lm _ _ h5) (lm _ _ h6) h3 h4
  refine hb ⟨S, Mx, H, ar⟩ S Mx _ _ H _ o hnp f0 e1 ?_
  cases o with
  | nx τ' =>
    cases fr with
    | false =>
      obtain ⟨ls1, e2, e⟩ := Option.map_eq_some_iff.mp e
      intro S' M' σ' H' f k
      exact done f e2 e.symm rfl
    | true => cases e
  | bk τ' => cases e
  | ct τ' => cases e
  | rt d τ' =>
    obtain ⟨ls1, e2, e⟩ := Option.map_eq_some_iff.mp e
    intro S' M' σ' H' v f res
    exact done f e2 e.symm res
end DL
end
section
set_option Elab.async false
set_option linter.all false
set_option maxRecDepth 100000
namespace DL
open PySem L2 PyProof.Rows
variable {K : PySem.W.Frag}
def fLen : List PyData → Option PyData
  | [.list xs] => some (.int xs.length)
  | [.tuple xs] => some (.int xs.length)
  | [.str x] => if x.length ≤ sizeLine then some (.int x.length) else none
  | _ => none
theorem c_len : BR K false (fun xs H Q => ∃ x n, xs = [x] ∧ LenV K x H n ∧ Q (.int n) H) fLen := by
  intro S H vs ds d Q _ l e q
  unfold fLen at e
  split at e
  · cases e
    obtain ⟨v, us, rfl, ⟨a, ws, rfl, h, lw⟩, iu⟩ := l
    cases (show us = [] from iu)
    exact ⟨_, ws.length, rfl, .inl ⟨ws, SqL.of (hid_iff.mp h).2, rfl⟩, q _ H (fun _ _ e => e) (by rw [lw.length]; rfl)⟩
  · cases e
    obtain ⟨v, us, rfl, ⟨a, ws, rfl, h, lw⟩, iu⟩ := l
    cases (show us = [] from iu)
    exact ⟨_, ws.length, rfl, .inr ⟨ws, Same.tup same_hid h, rfl⟩, q _ H (fun _ _ e => e) (by rw [lw.length]; rfl)⟩
  · split at e
    · rename_i hz
      cases e
      obtain ⟨v, us, rfl, iv, iu⟩ := l
      cases (show us = [] from iu)
      cases (show v = .str _ from iv)
      exact ⟨_, _, rfl, ⟨hz, rfl⟩, q _ H (fun _ _ e => e) rfl⟩
    · cases e
  · cases e
def f1 (g : Int → Int) : List PyData → Option PyData
  | [.int i] => some (.int (g i))
  | _ => none
def f2 (g : Int → Int → Int) : List PyData → Option PyData
  | [.int i, .int j] => some (.int (g i j))
  | _ => none
theorem c_2 {g : Int → Int → Int} : BR K false (fun xs H Q => ∃ i j, xs = [.int i, .int j] ∧ Q (.int (g i j)) H) (f2 g) := by
  intro S H vs ds d Q _ l e q
  unfold f2 at e
  split at e
  · cases e
    obtain ⟨v, us, rfl, iv, w, us', rfl, iw, iu⟩ := l
    cases (show us' = [] from iu)
    cases (show v = .int _ from iv)
    cases (show w = .int _ from iw)
    exact ⟨_, _, rfl, q _ H (fun _ _ e => e) rfl⟩
  · cases e
def fAbs := f1 fun i => if i < 0 then -i else i
def fMax2 := f2 fun i j => if j > i then j else i
def fMin2 := f2 fun i j => if j < i then j else i
theorem c_max2 : BR K false (fun xs H Q => ∃ i j, xs = [.int i, .int j] ∧ Q (.int (if j > i then j else i)) H) fMax2 := c_2
theorem c_min2 : BR K false (fun xs H Q => ∃ i j, xs = [.int i, .int j] ∧ Q (.int (if j < i then j else i)) H) fMin2 := c_2
def fInt1 : List PyData → Option PyData
  | [.int i] => some (.int i)
  | [.bool b] => some (.int (if b then 1 else 0))
  | _ => none
def intsD : List PyData → Option (List Int)
  | [] => some []
  | .int i :: r => (intsD r).map (i :: ·)
  | _ :: _ => none
theorem ints_is {H : Hp} : ∀ {ds : List PyData} {vs : List V} {ns : List Int}, IsL K H ds vs → intsD ds = some ns → vs = ns.map V.int
  | [], _, _, h, e => by cases e; exact h
  | .int i :: r, _, _, ⟨v, us, e1, iv, l⟩, e => by
    obtain ⟨ms, e2, e⟩ := Option.map_eq_some_iff.mp e
    subst e
    cases (show v = .int i from iv)
    rw [e1, ints_is l e2]
    rfl
  | .none :: _, _, _, _, e => by cases e
  | .bool _ :: _, _, _, _, e => by cases e
  | .str _ :: _, _, _, _, e => by cases e
  | .list _ :: _, _, _, _, e => by cases e
  | .tuple _ :: _, _, _, _, e => by cases e
  | .dict _ :: _, _, _, _, e => by cases e
def fListOf : List PyData → Option PyData
  | [.list xs] => some (.list xs)
  | [.tuple xs] => some (.list xs)
  | _ => none
theorem c_list : BR K true (fun xs H Q => ∃ p ys, xs = [.ref p] ∧ (SqL K H p ys ∨ SqT K H p ys) ∧ ∀ l, H l = none → Q (.ref l) (upd H l (.lst ys))) fListOf := by
  intro S H vs ds d Q _ l e q
  unfold fListOf at e
  split at e
  · cases e
    obtain ⟨v, us, rfl, ⟨a, ws, rfl, h, lw⟩, iu⟩ := l
    cases (show us = [] from iu)
    exact ⟨a, ws, rfl, .inl (SqL.of (hid_iff.mp h).2), fun p hp => q _ _ (same_new hp _) (res_new hp lw)⟩
  · cases e
    obtain ⟨v, us, rfl, ⟨a, ws, rfl, h, lw⟩, iu⟩ := l
    cases (show us = [] from iu)
    exact ⟨a, ws, rfl, .inr (Same.tup same_hid h), fun p hp => q _ _ (same_new hp _) (res_new hp lw)⟩
  · cases e
def tyN : PyData → String
  | .none => "NoneType"
  | .bool _ => "bool"
  | .int _ => "int"
  | .str _ => "str"
  | .list _ => "list"
  | .tuple _ => "tuple"
  | .dict _ => "dict"
def rIsi (K : PySem.W.Frag) : List V → Hp → VK → Prop := fun xs H Q => ∃ x T d b, xs = [x, .ty T] ∧ Is K H d x ∧ PySem.W.kitOne K (.type (tyN d)) (.type T) = some b ∧ Q (.bl b) H
theorem call_isiK {X : Cx} : CallR X (.builtin "isinstance") (rIsi X.K) := by
  intro pins s σ H xs us Q I r h
  obtain ⟨x, T, d, b, rfl, ix, k, q⟩ := h
  obtain ⟨u, w', rfl, rx, rT⟩ := vals2 r
  cases (show w' = Value.type T from rT)
  have fin : ∀ tk, EP X pins σ Q (.bool b) { s with toks := tk } := fun tk => ⟨.bl b, H, I.tok _, rfl, q⟩
  cases d with
  | none => cases (show x = .non from ix); exact isinst_ok I rx .non k fin
  | bool y => cases (show x = .bl y from ix); exact isinst_ok I rx (.bl y) k fin
  | int y => cases (show x = .int y from ix); exact isinst_ok I rx (.int y) k fin
  | str y => cases (show x = .str y from ix); exact isinst_ok I rx (.str y) k fin
  | list y => obtain ⟨a, vs, rfl, h, _⟩ := ix; exact isinst_ok I rx (.lst h) k fin
  | tuple y =>
    obtain ⟨a, vs, rfl, h, _⟩ := ix
    cases (show u = Value.ref a from rx)
    obtain ⟨its, _, ⟨o, h1, h2, _⟩, _⟩ := I.tuple h
    exact PySem.W.kia_one PySem.W.kitx_tuple I.kIn ⟨o, h1, h2⟩ k (fun z => nomatch z) fin
  | dict y =>
    obtain ⟨a, ts, rfl, h, _⟩ := ix
    cases (show u = Value.ref a from rx)
    obtain ⟨⟨_, _, _, xs, pr, o, es, ep, ho, he, hd, hes⟩, _, _⟩ := (show ObjOk X.prog X.w H s.heap a (.ext (phiD a ts)) from I.hok a _ h)
    exact PySem.W.kia_one PySem.W.kitx_dict I.kIn ⟨o, ho, he.1⟩ k (fun z => nomatch z) fin
def isiT (T t : String) : Bool := t == T || (T == "int" && t == "bool")
def isiD (T : String) (d : PyData) : Bool := isiT T (tyN d)
def tyOk (T : String) : Bool := ["int", "bool", "str", "list", "tuple"].contains T
theorem kit_names {T t : String} (hT : T ∈ ["int", "bool", "str", "list", "tuple"]) (ht : t ∈ ["NoneType", "bool", "int", "str", "list", "tuple", "dict"]) : PySem.W.kitOne K (.type t) (.type T) = some (isiT T t) := by
  simp only [List.mem_cons, List.not_mem_nil, or_false] at hT ht
  rcases hT with rfl | rfl | rfl | rfl | rfl <;> rcases ht with rfl | rfl | rfl | rfl | rfl | rfl | rfl <;> first
    | exact kit_same _
    | exact kit_ty (by decide +kernel) (by decide +kernel) (by decide +kernel)
theorem kit_all {T : String} {d : PyData} (h : tyOk T = true) : PySem.W.kitOne K (.type (tyN d)) (.type T) = some (isiD T d) :=
  kit_names (by simpa [tyOk] using h) (by cases d <;> simp [tyN])
def dIsi (T : String) (a : DX) (τ : DS) : Option (PyData × DS) := (a τ).bind fun p => if tyOk T then some (.bool (isiD T p.1), p.2) else none
theorem e_isi {T : String} {fr : Bool} {t : TE} {a : DX} (ha : E K t fr a) : E K (tCB (rIsi K) (tCons t (tCons (tC (.ty T)) tNil))) false (dIsi T a) := by
  refine ⟨fun τ d τ' e => ?_, ?_⟩
  · unfold dIsi at e
    obtain ⟨⟨x, τ1⟩, e1, e⟩ := Option.bind_eq_some_iff.mp e
    split at e
    · cases e; exact ha.like _ _ _ e1
    · cases e
  intro S M τ σ H Q d τ' r e q
  unfold dIsi at e
  obtain ⟨⟨x, τ1⟩, e1, e⟩ := Option.bind_eq_some_iff.mp e
  split at e
  · rename_i hT
    cases e
    refine ha.weak.run S M τ σ H _ x _ r e1 fun v H1 r1 c1 i1 => ?_
    exact ⟨v, T, x, _, rfl, Is.mono same_hid i1, kit_all hT, q _ H1 r1 c1 rfl⟩
  · cases e
def dPar (i j : Nat) (a : DA) (τ : DS) : Option Out := (a τ).bind fun p => (allD p.1).bind fun ds => match ds with
  | [x, y] => (dN i x p.2).bind fun τ1 => (dN j y τ1).map .nx
  | _ => none
end DL
end
section
set_option Elab.async false
set_option linter.all false
set_option maxRecDepth 100000
namespace DL
open PySem L2
variable {K : PySem.W.Frag}
def dTBor (i : Nat) (f : DT) (τ : DS) : Option (Bool × DS) := match τ[i]? with
  | some (some (.m xs)) => (f (τ.set i (some (.d (.list xs))))).bind fun q => if q.2.all okM then some (q.1, q.2.set i (some (.m xs))) else none
  | some (some (.k xs)) => (f (τ.set i (some (.d (.dict (dctP xs)))))).bind fun q => if q.2.all okM then some (q.1, q.2.set i (some (.k xs))) else none
  | _ => none
theorem dTBor_some {i : Nat} {f : DT} {τ : DS} {d : Bool} {τ' : DS} (e : dTBor i f τ = some (d, τ')) : ∃ w τ1, τ[i]? = some (some (Ow.L w)) ∧ f (τ.set i (some (.d w.D))) = some (d, τ1) ∧ τ1.all okM = true ∧ τ' = τ1.set i (some w.L) := by
  unfold dTBor at e
  split at e
  · rename_i xs hx
    obtain ⟨⟨z, τ1⟩, e1, e⟩ := Option.bind_eq_some_iff.mp e
    dsimp only at e
    split at e
    · rename_i h
      cases e
      exact ⟨.l xs, τ1, hx, e1, h, rfl⟩
    · cases e
  · rename_i xs hx
    obtain ⟨⟨z, τ1⟩, e1, e⟩ := Option.bind_eq_some_iff.mp e
    dsimp only at e
    split at e
    · rename_i h
      cases e
      exact ⟨.t xs, τ1, hx, e1, h, rfl⟩
    · cases e
  · cases e
theorem t_bor {i : Nat} {t : TT} {f : DT} (h : T K t f) : T K t (dTBor i f) := by
  refine ⟨fun τ d τ' e => ?_, ?_⟩
  · obtain ⟨xs, τ1, e1, e2, _, rfl⟩ := dTBor_some e
    exact like_bor e1 (h.like _ _ _ e2)
  intro S M τ σ H Q d τ' r e q
  obtain ⟨xs, τ1, e1, e2, ok, rfl⟩ := dTBor_some e
  obtain ⟨p, us, hp, hM, hl, ll⟩ := r.mt i xs e1
  refine h.run _ _ _ σ H _ d τ1 (frz r e1 hp) e2 fun H' r' c => ?_
  exact q H' (unfrz r e1 hp r' (h.like _ _ _ e2) c ok) (fun b o hn e => c b o (fun z => hn z.1) e)
def dYes (τ : DS) : Option (Bool × DS) := some (true, τ)
def lcChk (N' : List Str) (own : Nat) (fr : List Nat) (scope : Scope) (N : List Str) (sc : Scope) : Bool :=
  (scope.kind == .function) && decide (N'.length = own + fr.length) && (scope.names.all fun y => y.2 != .cell) && (scope.names.all fun y => y.2 != .local || scope.names.lookup y.1 == some .local) &&
  (scope.names.all fun y => y.2 != .free || sc.names.lookup y.1 == some .cell || sc.names.lookup y.1 == some .free) &&
  (fr.zipIdx.all fun p => match N'[own + p.2]?, N[p.1]? with | some x, some y => decide (x = y) && scope.names.lookup x == some .free | _, _ => false)
theorem lc_ok {X : Cx} {N' : List Str} {own : Nat} {fr : List Nat} {scope : Scope} {N : List Str} {sc : Scope} (hN : X.N = N) (hs : X.env.scope = sc) (h : lcChk N' own fr scope N sc = true) : LcOk X N' own fr scope := by
  unfold lcChk at h
  simp only [Bool.and_eq_true] at h
  obtain ⟨⟨⟨⟨⟨h1, h2⟩, h3⟩, h4⟩, h5⟩, h6⟩ := h
  subst hN hs
  refine ⟨eq_of_beq h1, of_decide_eq_true h2, fun y hy => ?_, fun y hy e => ?_, fun x hx => ?_, fun k j e => ?_⟩
  · have := List.all_eq_true.mp h3 y hy
    intro z
    rw [z] at this
    simp at this
  · have := List.all_eq_true.mp h4 y hy
    rw [e] at this
    simpa using this
  · have := List.all_eq_true.mp h5 _ hx
    simpa using this
  · have hm : (j, k) ∈ fr.zipIdx := by
      rw [List.mem_zipIdx_iff_getElem?]
      exact e
    have := List.all_eq_true.mp h6 _ hm
    dsimp only at this
    split at this
    · rename_i x y hx hy
      rw [Bool.and_eq_true] at this
      have e1 : x = y := of_decide_eq_true this.1
      subst e1
      exact ⟨x, hx, hy, eq_of_beq this.2⟩
    · cases this
end DL
end
section
set_option Elab.async false
set_option linter.all false
set_option maxRecDepth 100000
namespace DL
open PySem L2
theorem fin_nil {τ : DS} : fin [] τ = some [] := by cases τ <;> rfl
theorem fin_d {x : PyData} {ls : List L} {o : Option L} {τ : DS} : fin (.d x :: ls) (o :: τ) = (fin ls τ).map (.d x :: ·) := rfl
theorem fin_c {x : List PyData} {ls : List L} {o : Option L} {τ : DS} : fin (.c x :: ls) (o :: τ) = (fin ls τ).map (.c x :: ·) := rfl
theorem fin_m {x xs : List PyData} {ls : List L} {τ : DS} : fin (.m x :: ls) (some (.m xs) :: τ) = (fin ls τ).map (.m xs :: ·) := rfl
theorem fun_rt {fr : Bool} {np nl : Nat} {b : DB} {ls ls' : List L} {d : PyData} {τ : DS} (h : b (ls.map some ++ List.replicate nl none) = some (.rt d τ)) (hl : ls.length = np) (hf : fin ls τ = some ls') : dFun fr np nl b ls = some (d, ls') := by
  unfold dFun
  rw [if_pos hl, h]
  show (fin ls τ).map _ = _
  rw [hf]
  rfl
theorem seq_nx {a b : DB} {τ τ1 : DS} (h : a τ = some (.nx τ1)) : dSeq a b τ = b τ1 := by
  unfold dSeq
  rw [h]
  rfl
theorem seq_rt {a b : DB} {τ τ1 : DS} {d : PyData} (h : a τ = some (.rt d τ1)) : dSeq a b τ = some (.rt d τ1) := by
  unfold dSeq
  rw [h]
  rfl
theorem asg_nx {e : DX} {g : DG} {τ τ1 τ2 : DS} {d : PyData} (h : e τ = some (d, τ1)) (k : g d τ1 = some τ2) : dAsg e g τ = some (.nx τ2) := by
  unfold dAsg
  rw [h]
  show (g d τ1).map _ = _
  rw [k]
  rfl
theorem ret_rt {e : DX} {τ τ1 : DS} {d : PyData} (h : e τ = some (d, τ1)) : dRet e τ = some (.rt d τ1) := by
  unfold dRet
  rw [h]
  rfl
theorem ifs_t {c : DT} {a b : DB} {τ τ1 : DS} (h : c τ = some (true, τ1)) : dIfS c a b τ = a τ1 := by
  unfold dIfS
  rw [h]
  rfl
theorem ifs_f {c : DT} {a b : DB} {τ τ1 : DS} (h : c τ = some (false, τ1)) : dIfS c a b τ = b τ1 := by
  unfold dIfS
  rw [h]
  rfl
theorem call_eq {G : List L → Option (PyData × List L)} {a : DA} {τ τ1 : DS} {rs : List Ar} {ds : List PyData} {r : PyData} {ls : List L} (h : a τ = some (rs, τ1)) (k : allD rs = some ds) (g : G (ds.map L.d) = some (r, ls)) : dCall G a τ = some (r, τ1) := by
  unfold dCall
  rw [h]
  show (allD rs).bind _ = _
  rw [k]
  show (G (ds.map L.d)).map _ = _
  rw [g]
  rfl
theorem callM_eq {i : Nat} {G : List L → Option (PyData × List L)} {a : DA} {τ τ1 : DS} {rs : List Ar} {ds : List PyData} {r : PyData} {ls : List L} {xs xs' : List PyData} (h : a τ = some (rs, τ1)) (k : allD rs = some ds) (m : τ1[i]? = some (some (.m xs))) (g : G (.m xs :: ds.map L.d) = some (r, .m xs' :: ls)) : dCallM i G a τ = some (r, τ1.set i (some (.m xs'))) := by
  unfold dCallM
  rw [h]
  show (allD rs).bind _ = _
  rw [k]
  dsimp only [Option.bind]
  rw [m]
  dsimp only
  rw [g]
theorem callC_eq {i : Nat} {G : List L → Option (PyData × List L)} {a : DA} {τ τ1 : DS} {rs : List Ar} {ds : List PyData} {r : PyData} {ls : List L} {xs : List PyData} (h : a τ = some (rs, τ1)) (k : allD rs = some ds) (m : τ1[i]? = some (some (.c xs))) (g : G (.c xs :: ds.map L.d) = some (r, ls)) : dCallC i G a τ = some (r, τ1) := by
  unfold dCallC
  rw [h]
  show (allD rs).bind _ = _
  rw [k]
  show (match τ1[i]? with | some (some (.c xs)) => _ | _ => _) = _
  rw [m]
  show (G (.c xs :: ds.map L.d)).map _ = _
  rw [g]
  rfl
theorem for_eq {it : DI} {g : DG} {b : DB} {τ τ1 : DS} {ds : List PyData} (h : it τ = some (ds, τ1)) : dFor it g b τ = dLoop g b ds τ1 := by
  unfold dFor
  rw [h]
  rfl
theorem loop_list {α : Type} {enc : α → PyData} {g : DG} {b : DB} (J : List α → DS → Prop) : ∀ {xs pre : List α} {τ : DS}, J pre τ → (∀ x pre τ, x ∈ xs → J pre τ → ∃ τ1 τ2, g (enc x) τ = some τ1 ∧ b τ1 = some (.nx τ2) ∧ J (pre ++ [x]) τ2) → ∃ τ', dLoop g b (xs.map enc) τ = some (.nx τ') ∧ J (pre ++ xs) τ'
  | [], pre, τ, h0, _ => ⟨τ, rfl, by rw [List.append_nil]; exact h0⟩
  | x :: xs, pre, τ, h0, h => by
    obtain ⟨τ1, τ2, e1, e2, h1⟩ := h x pre τ List.mem_cons_self h0
    obtain ⟨τ', e3, h3⟩ := loop_list J (xs := xs) (pre := pre ++ [x]) (τ := τ2) h1 (fun y p t hy hj => h y p t (List.mem_cons_of_mem _ hy) hj)
    refine ⟨τ', ?_, by rw [List.append_assoc] at h3; exact h3⟩
    rw [List.map_cons, dLoop, e1]
    show (b τ1).bind _ = _
    rw [e2]
    exact e3
theorem lc_list {α : Type} {enc : α → PyData} {g : DG} {c : DT} {e : DX} (J : DS → Prop) (p : α → Bool) (f : α → PyData) : ∀ {xs : List α} {acc : List PyData} {τ : DS}, J τ →
    (∀ x τ, x ∈ xs → J τ → ∃ τ1 τ2, g (enc x) τ = some τ1 ∧ c τ1 = some (p x, τ2) ∧ (p x = false → J τ2) ∧ (p x = true → ∃ τ3, e τ2 = some (f x, τ3) ∧ J τ3)) → ∃ τ', lcLoop g c e (xs.map enc) acc τ = some (acc ++ (xs.filter p).map f, τ')
  | [], acc, τ, h0, _ => ⟨τ, by simp [lcLoop]⟩
  | x :: xs, acc, τ, h0, h => by
    obtain ⟨τ1, τ2, e1, e2, hf, ht⟩ := h x τ List.mem_cons_self h0
    have hr : ∀ y t, y ∈ xs → J t → _ := fun y t hy hj => h y t (List.mem_cons_of_mem _ hy) hj
    cases hp : p x with
    | false =>
      obtain ⟨τ', e3⟩ := lc_list J p f (xs := xs) (acc := acc) (τ := τ2) (hf hp) hr
      refine ⟨τ', ?_⟩
      rw [List.map_cons, lcLoop, e1]
      show (c τ1).bind _ = _
      rw [e2, hp]
      show lcLoop g c e (xs.map enc) acc τ2 = _
      rw [e3, List.filter_cons, hp]
      rfl
    | true =>
      obtain ⟨τ3, e4, h4⟩ := ht hp
      obtain ⟨τ', e3⟩ := lc_list J p f (xs := xs) (acc := acc ++ [f x]) (τ := τ3) h4 hr
      refine ⟨τ', ?_⟩
      rw [List.map_cons, lcLoop, e1]
      show (c τ1).bind _ = _
      rw [e2, hp]
      show (e τ2).bind _ = _
      rw [e4]
      show lcLoop g c e (xs.map enc) (acc ++ [f x]) τ3 = _
      rw [e3, List.filter_cons, hp, List.append_assoc]
      rfl
theorem dlc_eq {own : Nat} {fr : List Nat} {it : DI} {g : DG} {c : DT} {e : DX} {τ τ1 τb : DS} {ds acc : List PyData} (h : it τ = some (ds, τ1)) (hz : ds.length ≤ sizeLine) (hm : (fr.all fun j => !isM τ1 j) = true) (hl : lcLoop g c e ds [] (blkD own fr τ1) = some (acc, τb)) : dLC own fr it g c e τ = some (.list acc, τ1) := by
  unfold dLC
  rw [h]
  show (if ds.length ≤ sizeLine ∧ (fr.all fun j => !isM τ1 j) = true then _ else _) = _
  rw [if_pos ⟨hz, hm⟩, hl]
  rfl
theorem sz {n : Nat} (h : n ≤ 1000) : n ≤ sizeLine := Nat.le_trans h (by decide)
theorem sz' {n : Nat} (h : n ≤ 1000) : (n ≤ sizeLine) = True := eq_true (sz h)
theorem bd_small {m : Int} (h0 : 0 < m) (h1 : m < 10 ^ 70) : Bd 8000 m := by
  have : Bd 240 m := Bd.of (m := 10 ^ 70) (by omega) (by omega) (by decide)
  exact this.mono (by decide)
theorem cst_same {K : PySem.W.Frag} {H : Hp} {a : Addr} {xs : List V} (h : SqL K H a xs) : SqL K (hid (fun _ => False) H) a xs := Same.seq (fun b o e => hid_iff.mpr ⟨fun z => z, e⟩) h
theorem isl_ints {K : PySem.W.Frag} {H : Hp} : ∀ ns : List Int, IsL K H (ns.map PyData.int) (ns.map V.int)
  | [] => rfl
  | _ :: ns => ⟨_, _, rfl, rfl, isl_ints ns⟩
structure Enc {α : Type} [DecidableEq α] (enc : α → PyData) : Prop where
  eqv : ∀ a b, PyData.eqv (enc a) (enc b) = decide (a = b)
  can : ∀ a, (enc a).canLay0 = true
  dep : ∀ a, (enc a).depth ≤ 20
  fix : ∀ a, fixD (enc a) = true
section
variable {α : Type} [DecidableEq α] {enc : α → PyData}
theorem Enc.ok (h : Enc enc) (a : α) : okD (enc a) = true := by
  unfold okD SeqAt.shaped
  rw [Bool.and_eq_true]
  exact ⟨h.can a, decide_eq_true (Nat.le_trans (h.dep a) (by decide))⟩
theorem Enc.canL (h : Enc enc) : ∀ xs : List α, PyData.canLayAll0 (xs.map enc) = true
  | [] => rfl
  | x :: xs => by
    rw [List.map_cons, PyData.canLayAll0, h.can, Enc.canL h xs]; rfl
theorem Enc.depL (h : Enc enc) : ∀ xs : List α, PyData.depthAll (xs.map enc) ≤ 20
  | [] => Nat.zero_le _
  | x :: xs => by
    rw [List.map_cons, PyData.depthAll]
    have := h.dep x
    have := Enc.depL h xs
    omega
theorem Enc.okL (h : Enc enc) (xs : List α) : okD (.list (xs.map enc)) = true := by
  unfold okD SeqAt.shaped
  rw [Bool.and_eq_true, PyData.canLay0, PyData.depth]
  exact ⟨h.canL xs, decide_eq_true (by have := h.depL xs; omega)⟩
theorem Enc.eqvL (h : Enc enc) : ∀ xs ys : List α, PyData.eqvAll (xs.map enc) (ys.map enc) = decide (xs = ys)
  | [], [] => rfl
  | [], _ :: _ => rfl
  | _ :: _, [] => rfl
  | x :: xs, y :: ys => by
    rw [List.map_cons, List.map_cons, PyData.eqvAll, h.eqv, Enc.eqvL h xs ys]
    by_cases e : x = y
    · subst e
      by_cases e' : xs = ys
      · subst e'; simp
      · simp [e']
    · simp [e]
theorem Enc.eqL (h : Enc enc) (xs ys : List α) : PyData.eqv (.list (xs.map enc)) (.list (ys.map enc)) = decide (xs = ys) := by
  rw [PyData.eqv]; exact h.eqvL xs ys
theorem Enc.any (h : Enc enc) (x : α) : ∀ xs : List α, ((xs.map enc).any fun y => PyData.eqv y (enc x)) = decide (x ∈ xs)
  | [] => by simp
  | y :: ys => by
    rw [List.map_cons, List.any_cons, h.eqv, Enc.any h x ys]
    by_cases e : y = x
    · subst e; simp
    · have : ¬ x = y := fun z => e z.symm
      simp [e, this]
theorem Enc.fixL (h : Enc enc) : ∀ xs : List α, fixDs (xs.map enc) = true
  | [] => rfl
  | x :: xs => by rw [List.map_cons, fixDs, h.fix, Enc.fixL h xs]; rfl
theorem Enc.fEq (h : Enc enc) (a b : α) : DL.fEq (enc a) (enc b) = some (.bool (decide (a = b))) := by
  unfold DL.fEq; rw [h.ok, h.ok, h.eqv]; rfl
theorem Enc.fNe (h : Enc enc) (a b : α) : DL.fNe (enc a) (enc b) = some (.bool (!decide (a = b))) := by
  unfold DL.fNe; rw [h.ok, h.ok, h.eqv]; rfl
theorem Enc.fEqL (h : Enc enc) (a b : List α) : DL.fEq (.list (a.map enc)) (.list (b.map enc)) = some (.bool (decide (a = b))) := by
  unfold DL.fEq; rw [h.okL, h.okL, h.eqL]; rfl
theorem Enc.fNeL (h : Enc enc) (a b : List α) : DL.fNe (.list (a.map enc)) (.list (b.map enc)) = some (.bool (!decide (a = b))) := by
  unfold DL.fNe; rw [h.okL, h.okL, h.eqL]; rfl
end
theorem encI : Enc (α := Int) PyData.int := ⟨fun a b => by rw [PyData.eqv]; by_cases h : a = b <;> simp [h], fun _ => rfl, fun _ => by rw [PyData.depth]; decide, fun _ => rfl⟩
def ec (p : Int × Int) : PyData := .tuple [.int p.1, .int p.2]
theorem encC : Enc ec := by
  refine ⟨fun a b => ?_, fun _ => rfl, fun a => ?_, fun _ => rfl⟩
  · unfold ec
    simp only [PyData.eqv, PyData.eqvAll, Bool.and_true]
    obtain ⟨a1, a2⟩ := a
    obtain ⟨b1, b2⟩ := b
    by_cases h1 : a1 = b1
    · by_cases h2 : a2 = b2 <;> simp [h1, h2]
    · simp [h1]
  · unfold ec; simp [PyData.depth, PyData.depthAll]
structure Bx where
  x : Int
  y : Int
  w : Int
  h : Int
  deriving DecidableEq
def eb (b : Bx) : PyData := .tuple [.int b.x, .int b.y, .int b.w, .int b.h]
theorem encB : Enc eb := by
  refine ⟨fun a b => ?_, fun _ => rfl, fun a => ?_, fun _ => rfl⟩
  · unfold eb
    simp only [PyData.eqv, PyData.eqvAll, Bool.and_true]
    obtain ⟨a1, a2, a3, a4⟩ := a
    obtain ⟨b1, b2, b3, b4⟩ := b
    simp only [Bx.mk.injEq]
    by_cases h1 : a1 = b1 <;> by_cases h2 : a2 = b2 <;> by_cases h3 : a3 = b3 <;> by_cases h4 : a4 = b4 <;> simp [h1, h2, h3, h4]
  · unfold eb; simp [PyData.depth, PyData.depthAll]
end DL
end
section
set_option Elab.async false
set_option linter.all false
namespace DL
open PySem L2
def rng (lo : Int) (n : Nat) : List Int := (List.range n).map fun (k : Nat) => lo + (k : Int)
theorem rangeD_eq (lo : Int) (n : Nat) : rangeD lo n = (rng lo n).map PyData.int := by
  unfold rangeD rng
  rw [List.map_map]
  rfl
theorem rng_len (lo : Int) (n : Nat) : (rng lo n).length = n := by unfold rng; simp
theorem mem_rng {lo v n : Int} : v ∈ rng lo n.toNat ↔ lo ≤ v ∧ v < lo + n := by
  unfold rng
  rw [List.mem_map]
  constructor
  · rintro ⟨k, hk, rfl⟩
    rw [List.mem_range] at hk
    omega
  · rintro ⟨h1, h2⟩
    exact ⟨(v - lo).toNat, by rw [List.mem_range]; omega, by omega⟩
theorem rng_sorted (lo : Int) (n : Nat) : (rng lo n).Pairwise (· < ·) := by
  unfold rng
  rw [List.pairwise_map]
  refine List.Pairwise.imp (fun h => ?_) (List.pairwise_lt_range)
  omega
theorem sorted_ext {α : Type} {R : α → α → Prop} (as : ∀ a b, R a b → ¬ R b a) : ∀ {l1 l2 : List α}, l1.Pairwise R → l2.Pairwise R → (∀ x, x ∈ l1 ↔ x ∈ l2) → l1 = l2
  | [], [], _, _, _ => rfl
  | [], y :: _, _, _, h => by have := (h y).mpr List.mem_cons_self; simp at this
  | x :: _, [], _, _, h => by have := (h x).mp List.mem_cons_self; simp at this
  | x :: xs, y :: ys, h1, h2, h => by
    rw [List.pairwise_cons] at h1 h2
    have ir : ∀ a, ¬ R a a := fun a z => as a a z z
    have e : x = y := by
      rcases List.mem_cons.mp ((h x).mp List.mem_cons_self) with e | e
      · exact e
      · rcases List.mem_cons.mp ((h y).mpr List.mem_cons_self) with e' | e'
        · exact e'.symm
        · exact absurd (h1.1 y e') (as _ _ (h2.1 x e))
    subst e
    congr 1
    refine sorted_ext as h1.2 h2.2 fun z => ?_
    constructor
    · intro hz
      rcases List.mem_cons.mp ((h z).mp (List.mem_cons_of_mem _ hz)) with e | e
      · subst e; exact absurd (h1.1 z hz) (ir z)
      · exact e
    · intro hz
      rcases List.mem_cons.mp ((h z).mpr (List.mem_cons_of_mem _ hz)) with e | e
      · subst e; exact absurd (h2.1 z hz) (ir z)
      · exact e
abbrev Cl := Int × Int
def lt2 (p q : Cl) : Prop := p.2 < q.2 ∨ (p.2 = q.2 ∧ p.1 < q.1)
theorem lt2_as (a b : Cl) (h : lt2 a b) : ¬ lt2 b a := by unfold lt2 at *; omega
def rowC (x v : Int) (w : Nat) : List Cl := (rng x w).map fun u => (u, v)
def cells (b : Bx) : List Cl := (rng b.y b.h.toNat).flatMap fun v => rowC b.x v b.w.toNat
def inB (b : Bx) (p : Cl) : Prop := b.x ≤ p.1 ∧ p.1 < b.x + b.w ∧ b.y ≤ p.2 ∧ p.2 < b.y + b.h
instance {b : Bx} {p : Cl} : Decidable (inB b p) := by unfold inB; infer_instance
theorem mem_row {x v w : Int} {p : Cl} : p ∈ rowC x v w.toNat ↔ x ≤ p.1 ∧ p.1 < x + w ∧ p.2 = v := by
  unfold rowC
  rw [List.mem_map]
  constructor
  · rintro ⟨u, hu, rfl⟩
    rw [mem_rng] at hu
    exact ⟨hu.1, hu.2, rfl⟩
  · rintro ⟨h1, h2, h3⟩
    exact ⟨p.1, mem_rng.mpr ⟨h1, h2⟩, by rw [← h3]⟩
theorem mem_cells {b : Bx} {p : Cl} : p ∈ cells b ↔ inB b p := by
  unfold cells inB
  rw [List.mem_flatMap]
  constructor
  · rintro ⟨v, hv, hp⟩
    rw [mem_rng] at hv
    rw [mem_row] at hp
    obtain ⟨a, b, rfl⟩ := hp
    exact ⟨a, b, hv.1, hv.2⟩
  · rintro ⟨h1, h2, h3, h4⟩
    exact ⟨p.2, mem_rng.mpr ⟨h3, h4⟩, mem_row.mpr ⟨h1, h2, rfl⟩⟩
theorem row_sorted (x v : Int) (w : Nat) : (rowC x v w).Pairwise lt2 := by
  unfold rowC
  rw [List.pairwise_map]
  exact List.Pairwise.imp (fun h => .inr ⟨rfl, h⟩) (rng_sorted x w)
theorem cells_sorted (b : Bx) : (cells b).Pairwise lt2 := by
  unfold cells
  rw [List.pairwise_flatMap]
  refine ⟨fun v _ => row_sorted _ _ _, ?_⟩
  refine List.Pairwise.imp (fun h => ?_) (rng_sorted _ _)
  intro p hp q hq
  unfold rowC at hp hq
  rw [List.mem_map] at hp hq
  obtain ⟨_, _, rfl⟩ := hp
  obtain ⟨_, _, rfl⟩ := hq
  exact .inl h
theorem cells_len (b : Bx) : (cells b).length = b.h.toNat * b.w.toNat := by
  unfold cells
  rw [List.length_flatMap]
  have : ∀ l : List Int, (l.map fun v => (rowC b.x v b.w.toNat).length).sum = l.length * b.w.toNat := by
    intro l
    induction l with
    | nil => simp
    | cons v l ih =>
      rw [List.map_cons, List.sum_cons, ih, List.length_cons, Nat.succ_mul]
      unfold rowC
      rw [List.length_map, rng_len]
      omega
  rw [this, rng_len]
theorem cells_nil {b : Bx} : cells b = [] ↔ ¬ (0 < b.w ∧ 0 < b.h) := by
  constructor
  · intro e h
    have : ((b.x, b.y) : Cl) ∈ cells b := mem_cells.mpr ⟨Int.le_refl _, by show b.x < _; omega, Int.le_refl _, by show b.y < _; omega⟩
    rw [e] at this; simp at this
  · intro h
    refine List.eq_nil_iff_forall_not_mem.mpr fun p hp => ?_
    have := mem_cells.mp hp
    unfold inB at this
    omega
def nM (o : Option L) : Prop := (∀ xs, o ≠ some (.m xs)) ∧ ∀ xs, o ≠ some (.k xs)
theorem nM_none : nM none := ⟨fun xs z => (nomatch z), fun xs z => (nomatch z)⟩
theorem nM_d {x : PyData} : nM (some (.d x)) := ⟨fun xs z => (nomatch z), fun xs z => (nomatch z)⟩
theorem dN_eq {i : Nat} {d : PyData} {τ : DS} {o : Option L} (h : τ[i]? = some o) (hn : nM o) : dN i d τ = some (τ.set i (some (.d d))) := by
  unfold dN
  rw [h]
  cases o with
  | none => rfl
  | some l => cases l with
    | m xs => exact absurd rfl (hn.1 xs)
    | k xs => exact absurd rfl (hn.2 xs)
    | d x => rfl
    | c x => rfl
end DL
end
section
set_option Elab.async false
set_option linter.all false
set_option maxRecDepth 100000
namespace DL
open PySem L2
variable {K : PySem.W.Frag}
def isC (τ : DS) (j : Nat) : Bool := match τ[j]? with
  | some (some (.c _)) => true
  | _ => false
def dAS (i : Nat) (r : DA) (τ : DS) : Option (List Ar × DS) := if (isM τ i || isC τ i) = true then (r τ).map fun q => (.s i :: q.1, q.2) else none
def mkL (τ : DS) : List Ar → Option (List L)
  | [] => some []
  | .d x :: r => (mkL τ r).map (.d x :: ·)
  | .s i :: r => match τ[i]? with
    | some (some (.m xs)) => (mkL τ r).map (.m xs :: ·)
    | some (some (.c xs)) => (mkL τ r).map (.c xs :: ·)
    | _ => none
def nMb : L → Bool
  | .m _ => false
  | .k _ => false
  | _ => true
def dCallP (k i : Nat) (G : List L → Option (PyData × List L)) (a : DA) (τ : DS) : Option (PyData × DS) := (a τ).bind fun p => (mkL p.2 p.1).bind fun ls => match p.1[k]?, ls[k]? with
  | some (.s j), some (.m _) => if j = i ∧ (ls.set k (.d .none)).all nMb = true then (G ls).bind fun q => match q.2[k]? with
      | some (.m xs) => some (q.1, p.2.set i (some (.m xs)))
      | _ => none
    else none
  | _, _ => none
theorem tyOk_int : tyOk "int" = true := rfl
theorem isi_int_none : isiD "int" .none = false := rfl
theorem isi_int_bool {b : Bool} : isiD "int" (.bool b) = true := rfl
theorem isi_int_int {b : Int} : isiD "int" (.int b) = true := rfl
theorem isi_int_str {b : Str} : isiD "int" (.str b) = false := rfl
theorem isi_int_list {b : List PyData} : isiD "int" (.list b) = false := rfl
theorem isi_int_tuple {b : List PyData} : isiD "int" (.tuple b) = false := rfl
theorem tyOk_bool : tyOk "bool" = true := rfl
theorem isi_bool_none : isiD "bool" .none = false := rfl
theorem isi_bool_bool {b : Bool} : isiD "bool" (.bool b) = true := rfl
theorem isi_bool_int {b : Int} : isiD "bool" (.int b) = false := rfl
theorem isi_bool_str {b : Str} : isiD "bool" (.str b) = false := rfl
theorem isi_bool_list {b : List PyData} : isiD "bool" (.list b) = false := rfl
theorem isi_bool_tuple {b : List PyData} : isiD "bool" (.tuple b) = false := rfl
theorem tyOk_str : tyOk "str" = true := rfl
theorem isi_str_none : isiD "str" .none = false := rfl
theorem isi_str_bool {b : Bool} : isiD "str" (.bool b) = false := rfl
theorem isi_str_int {b : Int} : isiD "str" (.int b) = false := rfl
theorem isi_str_str {b : Str} : isiD "str" (.str b) = true := rfl
theorem isi_str_list {b : List PyData} : isiD "str" (.list b) = false := rfl
theorem isi_str_tuple {b : List PyData} : isiD "str" (.tuple b) = false := rfl
theorem tyOk_list : tyOk "list" = true := rfl
theorem isi_list_none : isiD "list" .none = false := rfl
theorem isi_list_bool {b : Bool} : isiD "list" (.bool b) = false := rfl
theorem isi_list_int {b : Int} : isiD "list" (.int b) = false := rfl
theorem isi_list_str {b : Str} : isiD "list" (.str b) = false := rfl
theorem isi_list_list {b : List PyData} : isiD "list" (.list b) = true := rfl
theorem isi_list_tuple {b : List PyData} : isiD "list" (.tuple b) = false := rfl
theorem tyOk_tuple : tyOk "tuple" = true := rfl
theorem isi_tuple_none : isiD "tuple" .none = false := rfl
theorem isi_tuple_bool {b : Bool} : isiD "tuple" (.bool b) = false := rfl
theorem isi_tuple_int {b : Int} : isiD "tuple" (.int b) = false := rfl
theorem isi_tuple_str {b : Str} : isiD "tuple" (.str b) = false := rfl
theorem isi_tuple_list {b : List PyData} : isiD "tuple" (.list b) = false := rfl
theorem isi_tuple_tuple {b : List PyData} : isiD "tuple" (.tuple b) = true := rfl
theorem loop_pre_go {α : Type} {enc : α → PyData} {g : DG} {b : DB} {all : List α} (J : List α → DS → Prop) (h : ∀ pre x post τ, all = pre ++ x :: post → J pre τ → ∃ τ1 τ2, g (enc x) τ = some τ1 ∧ b τ1 = some (.nx τ2) ∧ J (pre ++ [x]) τ2) :
    ∀ {xs pre : List α} {τ : DS}, all = pre ++ xs → J pre τ → ∃ τ', dLoop g b (xs.map enc) τ = some (.nx τ') ∧ J all τ'
  | [], pre, τ, e, h0 => ⟨τ, rfl, by rw [e, List.append_nil]; exact h0⟩
  | x :: xs, pre, τ, e, h0 => by
    obtain ⟨τ1, τ2, e1, e2, h1⟩ := h pre x xs τ e h0
    obtain ⟨τ', e3, h3⟩ := loop_pre_go J h (xs := xs) (pre := pre ++ [x]) (τ := τ2) (by rw [e, List.append_assoc]; rfl) h1
    refine ⟨τ', ?_, h3⟩
    rw [List.map_cons, dLoop, e1]
    show (b τ1).bind _ = _
    rw [e2]
    exact e3
theorem loop_pre {α : Type} {enc : α → PyData} {g : DG} {b : DB} {xs : List α} {τ : DS} (J : List α → DS → Prop) (h0 : J [] τ) (h : ∀ pre x post τ, xs = pre ++ x :: post → J pre τ → ∃ τ1 τ2, g (enc x) τ = some τ1 ∧ b τ1 = some (.nx τ2) ∧ J (pre ++ [x]) τ2) :
    ∃ τ', dLoop g b (xs.map enc) τ = some (.nx τ') ∧ J xs τ' := loop_pre_go J h (pre := []) rfl h0
theorem r1_eq {n : Int} {τ τ1 : DS} {a : DA} (h : a τ = some ([.d (.int n)], τ1)) (h0 : -100000 ≤ n) (h1 : n ≤ 100000) : dR1 a τ = some ((rng 0 n.toNat).map PyData.int, τ1) := by
  unfold dR1
  rw [h]
  show (if -(2 ^ 62) ≤ n ∧ n < 2 ^ 62 then some (rangeD 0 n.toNat, τ1) else none) = _
  rw [if_pos (by omega), rangeD_eq]
theorem r2_eq {m n : Int} {τ τ1 : DS} {a : DA} (h : a τ = some ([.d (.int m), .d (.int n)], τ1)) (h0 : -100000 ≤ n) (h1 : n ≤ 100000) (h2 : -100000 ≤ m) (h3 : m ≤ 100000) : dR2 a τ = some ((rng m (n - m).toNat).map PyData.int, τ1) := by
  unfold dR2
  rw [h]
  show (if -(2 ^ 62) ≤ m ∧ m < 2 ^ 62 ∧ -(2 ^ 62) ≤ n ∧ n < 2 ^ 62 then some (rangeD m (n - m).toNat, τ1) else none) = _
  rw [if_pos (by omega), rangeD_eq]
theorem apnd {i : Nat} {a : DA} {τ τ1 : DS} {rs : List Ar} {d : PyData} {xs : List PyData} (h : a τ = some (rs, τ1)) (k : allD rs = some [d]) (m : τ1[i]? = some (some (.m xs))) (hz : xs.length < 900) : dExpr (dMt i gAppend a) τ = some (.nx (τ1.set i (some (.m (xs ++ [d]))))) := by
  have hs : xs.length < sizeLine := Nat.lt_of_lt_of_le (Nat.lt_trans hz (by decide : 900 < 1000)) (by decide)
  unfold dExpr dMt
  rw [h]
  show (((allD rs).bind _)).map _ = _
  rw [k]
  show ((match τ1[i]? with | some (some (.m xs)) => _ | _ => _) : Option (PyData × DS)).map _ = _
  rw [m]
  show ((if xs.length < sizeLine then some (PyData.none, xs ++ [d]) else none).map _).map _ = _
  rw [if_pos hs]
  rfl
theorem rng_shift (lo : Int) (n : Nat) : rng lo n = (rng 0 n).map fun i => lo + i := by
  unfold rng
  rw [List.map_map]
  refine List.map_congr_left fun k _ => ?_
  show lo + (k : Int) = lo + (0 + (k : Int))
  omega
theorem split_len {α : Type} {xs pre post : List α} {x : α} (e : xs = pre ++ x :: post) : pre.length < xs.length := by rw [e, List.length_append, List.length_cons]; omega
theorem split_mem {α : Type} {xs pre post : List α} {x : α} (e : xs = pre ++ x :: post) : x ∈ xs := by rw [e]; exact List.mem_append_right _ List.mem_cons_self
end DL
end
section
set_option Elab.async false
set_option linter.all false
set_option maxRecDepth 100000
namespace DL
open PySem PySem.Spec L2 PyProof.Rows
section
variable {prog : Program} {w : World} {A : Around} {s : Shared} {R : Result → Shared → Prop}
variable {I : Addr} {fp wr : List Addr} {G : Array GenState → Array GenState → Prop} {n : Nat} {P : Nat → Value → Prop} {St : Nat → Shared → Prop}
end
section
variable {prog : Program} {w : World} {A : Around} {E : Value → Shared → Prop} {s : Shared}
variable {I : Addr} {fp wr : List Addr} {G : Array GenState → Array GenState → Prop} {n : Nat} {P : Nat → Value → Prop} {St : Nat → Shared → Prop}
end
theorem boot_rev : bootBuiltins "reversed" = some (.type "reversed") := by decide +kernel
variable {K : PySem.W.Frag}
def dRev (f : DX) (τ : DS) : Option (PyData × DS) := (f τ).bind fun p => match p.1 with
  | .list xs => some (.list xs.reverse, p.2)
  | _ => none
theorem okM_none : okM none = true := rfl
theorem okM_d {x : PyData} : okM (some (.d x)) = true := rfl
theorem okM_c {x : List PyData} : okM (some (.c x)) = true := rfl
theorem okM_m {x : List PyData} : okM (some (.m x)) = fixDs x := rfl
theorem okM_n {o : Option L} (h : nM o) : okM o = true := by
  cases o with
  | none => rfl
  | some l => cases l with
    | m xs => exact absurd rfl (h.1 xs)
    | k xs => exact absurd rfl (h.2 xs)
    | d x => rfl
    | c x => rfl
end DL
end
section
set_option Elab.async false
set_option linter.all false
set_option maxRecDepth 100000
namespace Srt
open PySem PySem.W PyProof.Rows
def Gd (n : Nat) (r : Nat → Nat → Bool) {α : Type} : KasT α → (α → Prop) → Prop
  | .ret a, Q => Q a
  | .ask i j k, Q => i < n ∧ j < n ∧ Gd n r (k (r i j)) Q
variable {n : Nat} {r : Nat → Nat → Bool}
theorem gd_mono {α : Type} {Q Q' : α → Prop} (h : ∀ a, Q a → Q' a) : ∀ {t : KasT α}, Gd n r t Q → Gd n r t Q'
  | .ret a, g => h a g
  | .ask i j k, ⟨a, b, g⟩ => ⟨a, b, gd_mono h g⟩
theorem gd_bind {α β : Type} {f : α → KasT β} {Q : β → Prop} : ∀ {t : KasT α}, Gd n r t (fun a => Gd n r (f a) Q) → Gd n r (t.bind f) Q
  | .ret a, g => g
  | .ask i j k, ⟨a, b, g⟩ => ⟨a, b, gd_bind g⟩
theorem gd_wp {α : Type} {cmp : Nat → Nat → (Bool → Shared → Prop) → Shared → Prop} {Q : α → Prop} {s : Shared} (hc : ∀ i j C, i < n → j < n → C (r i j) s → cmp i j C s) : ∀ {t : KasT α} {R : α → Shared → Prop}, Gd n r t Q → (∀ a, Q a → R a s) → t.kasWp cmp R s
  | .ret a, R, g, h => h a g
  | .ask i j k, R, ⟨a, b, g⟩, h => hc i j _ a b (gd_wp hc g h)
structure Ord (n : Nat) (r : Nat → Nat → Bool) : Prop where
  irr : ∀ i, i < n → r i i = false
  tr : ∀ i j k, i < n → j < n → k < n → r i j = true → r j k = true → r i k = true
  tot : ∀ i j, i < n → j < n → i ≠ j → r i j = false → r j i = true
structure Arr (n : Nat) (p : Array Nat) : Prop where
  sz : p.size = n
  lt : ∀ a, a < n → p.getD a 0 < n
  inj : ∀ a b, a < n → b < n → p.getD a 0 = p.getD b 0 → a = b
  pm : p.Perm (List.toArray (List.range n))
def Up (r : Nat → Nat → Bool) (p : Array Nat) (k : Nat) : Prop := ∀ a b, a < b → b < k → r (p.getD a 0) (p.getD b 0) = true
def Dn (r : Nat → Nat → Bool) (p : Array Nat) (k : Nat) : Prop := ∀ a b, a < b → b < k → r (p.getD b 0) (p.getD a 0) = true
theorem up_succ (O : Ord n r) {p : Array Nat} (A : Arr n p) {k : Nat} (hk : 1 ≤ k) (hn : k < n) (u : Up r p k) (h : r (p.getD k 0) (p.getD (k - 1) 0) = false) : Up r p (k + 1) := by
  have h1 : r (p.getD (k - 1) 0) (p.getD k 0) = true := O.tot _ _ (A.lt _ hn) (A.lt _ (by omega)) (fun z => by have := A.inj _ _ hn (by omega) z; omega) h
  intro a b hab hb
  by_cases e : b = k
  · subst e
    by_cases e2 : a = b - 1
    · subst e2; exact h1
    · exact O.tr _ _ _ (A.lt _ (by omega)) (A.lt _ (by omega)) (A.lt _ hn) (u a (b - 1) (by omega) (by omega)) h1
  · exact u a b hab (by omega)
theorem dn_succ (O : Ord n r) {p : Array Nat} (A : Arr n p) {k : Nat} (hk : 1 ≤ k) (hn : k < n) (u : Dn r p k) (h1 : r (p.getD k 0) (p.getD (k - 1) 0) = true) : Dn r p (k + 1) := by
  intro a b hab hb
  by_cases e : b = k
  · subst e
    by_cases e2 : a = b - 1
    · subst e2; exact h1
    · exact O.tr _ _ _ (A.lt _ hn) (A.lt _ (by omega)) (A.lt _ (by omega)) h1 (u a (b - 1) (by omega) (by omega))
  · exact u a b hab (by omega)
theorem asc (O : Ord n r) {p : Array Nat} (A : Arr n p) : ∀ (f k : Nat), 1 ≤ k → k + f ≤ n → Up r p k → Gd n r (kas_asc p f k) fun m => k ≤ m ∧ m ≤ k + f ∧ Up r p m ∧ (m < k + f → r (p.getD m 0) (p.getD (m - 1) 0) = true)
  | 0, k, h1, h2, u => ⟨Nat.le_refl _, by omega, u, by omega⟩
  | f + 1, k, h1, h2, u => by
    refine ⟨A.lt _ (by omega), A.lt _ (by omega), ?_⟩
    cases c : r (p.getD k 0) (p.getD (k - 1) 0) with
    | true => exact ⟨Nat.le_refl _, by omega, u, fun _ => c⟩
    | false =>
      show Gd n r (kas_asc p f (k + 1)) _
      refine gd_mono ?_ (asc O A f (k + 1) (by omega) (by omega) (up_succ O A h1 (by omega) u c))
      rintro m ⟨h3, h4, h5, h6⟩
      exact ⟨by omega, by omega, h5, fun z => h6 (by omega)⟩
theorem desc (O : Ord n r) {p : Array Nat} (A : Arr n p) : ∀ (f k : Nat), 1 ≤ k → k + f ≤ n → Dn r p k → Gd n r (kas_desc f p k 0) fun x => x.1 = p ∧ x.2.2 = 0 ∧ k ≤ x.2.1 ∧ x.2.1 ≤ k + f ∧ Dn r p x.2.1
  | 0, k, h1, h2, u => ⟨rfl, rfl, Nat.le_refl _, by show k ≤ k + 0; omega, u⟩
  | f + 1, k, h1, h2, u => by
    refine ⟨A.lt _ (by omega), A.lt _ (by omega), ?_⟩
    cases c : r (p.getD k 0) (p.getD (k - 1) 0) with
    | true =>
      show Gd n r (kas_desc f p (k + 1) 0) _
      refine gd_mono ?_ (desc O A f (k + 1) (by omega) (by omega) (dn_succ O A h1 (by omega) u c))
      rintro m ⟨h3, h4, h5, h6, h7⟩
      exact ⟨h3, h4, by omega, by omega, h7⟩
    | false =>
      refine ⟨A.lt _ (by omega), A.lt _ (by omega), ?_⟩
      have h3 : r (p.getD (k - 1) 0) (p.getD k 0) = true := O.tot _ _ (A.lt _ (by omega)) (A.lt _ (by omega)) (fun z => by have := A.inj _ _ (by omega) (by omega) z; omega) c
      rw [h3]
      exact ⟨rfl, rfl, Nat.le_refl _, by show k ≤ k + (f + 1); omega, u⟩
theorem getD_of {p q : Array Nat} {a b : Nat} (h : q[a]? = p[b]?) : q.getD a 0 = p.getD b 0 := by
  rw [Array.getD_eq_getD_getElem?, Array.getD_eq_getD_getElem?, h]
theorem rev_get {p : Array Nat} {k : Nat} (hk : k ≤ p.size) (a : Nat) : (kas_rev p 0 k).getD a 0 = p.getD (if a < k then k - 1 - a else a) 0 := by
  have e := getElem?_mirror_all (i := 0) hk a
  unfold kas_rev
  refine getD_of (e.trans ?_)
  by_cases h : a < k
  · rw [if_pos ⟨Nat.zero_le _, h⟩, if_pos h]; congr 1; omega
  · rw [if_neg (fun z => h z.2), if_neg h]
theorem arr_rev {p : Array Nat} (A : Arr n p) {k : Nat} (hk : k ≤ n) : Arr n (kas_rev p 0 k) := by
  have hz := A.sz
  refine ⟨by unfold kas_rev; rw [mirror_size, hz], fun a ha => ?_, fun a b ha hb e => ?_, ?_⟩
  · rw [rev_get (by omega)]
    refine A.lt _ ?_
    split <;> omega
  · rw [rev_get (by omega), rev_get (by omega)] at e
    have := A.inj _ _ (by split <;> omega) (by split <;> omega) e
    split at this <;> split at this <;> omega
  · exact (mirror_perm _ _ _ _).trans A.pm
theorem up_rev {p : Array Nat} (A : Arr n p) {k : Nat} (hk : k ≤ n) (d : Dn r p k) : Up r (kas_rev p 0 k) k := by
  have hz := A.sz
  intro a b hab hb
  rw [rev_get (by omega), rev_get (by omega), if_pos (by omega), if_pos hb]
  exact d _ _ (by omega) (by omega)
def Res (n : Nat) (r : Nat → Nat → Bool) (x : Nat × Array Nat) : Prop := Arr n x.2 ∧ 1 ≤ x.1 ∧ x.1 ≤ n ∧ Up r x.2 x.1
theorem tail3 (O : Ord n r) {p : Array Nat} (A : Arr n p) {k : Nat} (h1 : 1 ≤ k) (hk : k ≤ n) (d : Dn r p k) : Gd n r (kas_tail3 k n p) (Res n r) := by
  unfold kas_tail3
  refine gd_bind (gd_mono ?_ (asc O (arr_rev A hk) (n - k) k h1 (by omega) (up_rev A hk d)))
  rintro m ⟨h3, h4, h5, _⟩
  exact ⟨arr_rev A hk, by show 1 ≤ m; omega, by show m ≤ n; omega, h5⟩
theorem count (O : Ord n r) {p : Array Nat} (A : Arr n p) (h1 : 1 ≤ n) : Gd n r (kas_count n p) (Res n r) := by
  unfold kas_count
  refine gd_bind (gd_mono ?_ (asc O A (n - 1) 1 (Nat.le_refl _) (by omega) (fun a b h h' => by omega)))
  rintro m ⟨h3, h4, h5, h6⟩
  by_cases e : m = n
  · rw [if_pos (by simpa using e)]
    exact ⟨A, by show 1 ≤ m; omega, by show m ≤ n; omega, h5⟩
  · rw [if_neg (by simpa using e)]
    by_cases hm : m > 1
    · rw [if_pos hm]
      refine ⟨A.lt _ (by omega), A.lt _ (by omega), ?_⟩
      rw [h5 0 (m - 1) (by omega) (by omega)]
      exact ⟨A, by show 1 ≤ m; omega, by show m ≤ n; omega, h5⟩
    · rw [if_neg hm]
      have hm1 : m = 1 := by omega
      subst hm1
      have c := h6 (by omega)
      unfold kas_descPart
      refine gd_bind (gd_mono ?_ (desc O A (n - 2) 2 (by omega) (by omega) (dn_succ O A (k := 1) (by omega) (by omega) (fun a b h h' => by omega) c)))
      rintro ⟨q, k, z⟩ ⟨rfl, rfl, h7, h8, h9⟩
      dsimp only at *
      rw [if_neg (by omega)]
      exact tail3 O A (by omega) (by omega) h9
theorem place (O : Ord n r) {p : Array Nat} (A : Arr n p) {k : Nat} (hk : k < n) (u : Up r p k) : ∀ (f a b : Nat), b - a ≤ f → a ≤ b → b ≤ k → (∀ c, c < a → r (p.getD c 0) (p.getD k 0) = true) → (∀ c, b ≤ c → c < k → r (p.getD k 0) (p.getD c 0) = true) →
    Gd n r (kas_place p k f a b) fun l => l ≤ k ∧ (∀ c, c < l → r (p.getD c 0) (p.getD k 0) = true) ∧ (∀ c, l ≤ c → c < k → r (p.getD k 0) (p.getD c 0) = true)
  | 0, a, b, hf, hab, hb, h1, h2 => ⟨by omega, h1, fun c hc hk => h2 c (by omega) hk⟩
  | f + 1, a, b, hf, hab, hb, h1, h2 => by
    unfold kas_place
    by_cases e : a ≥ b
    · rw [if_pos e]
      exact ⟨by omega, h1, fun c hc hk => h2 c (by omega) hk⟩
    · rw [if_neg e]
      refine ⟨A.lt _ hk, A.lt _ (by omega), ?_⟩
      have hm : (a + b) / 2 < b := by omega
      have hm2 : a ≤ (a + b) / 2 := by omega
      generalize (a + b) / 2 = m at *
      cases c : r (p.getD k 0) (p.getD m 0) with
      | true =>
        refine place O A hk u f a m (by omega) (by omega) (by omega) h1 fun d hd hdk => ?_
        by_cases e2 : d = m
        · subst e2; exact c
        · exact O.tr _ _ _ (A.lt _ hk) (A.lt _ (by omega)) (A.lt _ (by omega)) c (u m d (by omega) hdk)
      | false =>
        have c' : r (p.getD m 0) (p.getD k 0) = true := O.tot _ _ (A.lt _ hk) (A.lt _ (by omega)) (fun z => by have := A.inj _ _ hk (by omega) z; omega) c
        refine place O A hk u f (m + 1) b (by omega) (by omega) hb (fun d hd => ?_) h2
        by_cases e2 : d = m
        · subst e2; exact c'
        · exact O.tr _ _ _ (A.lt _ (by omega)) (A.lt _ (by omega)) (A.lt _ hk) (u d m (by omega) (by omega)) c'
theorem bub_get {p : Array Nat} {k l : Nat} (hk : k < p.size) (hl : l ≤ k) (a : Nat) : (bubble p k (k - l)).getD a 0 = p.getD (if a = l then k else if l < a ∧ a ≤ k then a - 1 else a) 0 := by
  have e := getElem?_bubble hk (k - l) (by omega) a
  refine getD_of (e.trans ?_)
  rw [show k - (k - l) = l by omega]
  split
  · rfl
  · split <;> rfl
theorem bin (O : Ord n r) : ∀ (f : Nat) {p : Array Nat} {k : Nat}, Arr n p → k + f = n → Up r p k → Gd n r (kas_bin f p k) fun q => Arr n q ∧ Up r q n
  | 0, p, k, A, h, u => ⟨A, by rw [← h]; exact u⟩
  | f + 1, p, k, A, h, u => by
    unfold kas_bin
    refine gd_bind (gd_mono ?_ (place O A (by omega) u k 0 k (by omega) (by omega) (Nat.le_refl _) (fun c h => by omega) (fun c h h' => by omega)))
    rintro l ⟨h1, h2, h3⟩
    have hz := A.sz
    have g := fun a => bub_get (p := p) (k := k) (l := l) (by omega) h1 a
    have A' : Arr n (bubble p k (k - l)) := by
      refine ⟨by rw [bubble_size, hz], fun a ha => ?_, fun a b ha hb e => ?_, (bubble_perm _ _ _).trans A.pm⟩
      · rw [g]
        refine A.lt _ ?_
        split
        · omega
        · split <;> omega
      · rw [g, g] at e
        have := A.inj _ _ (by split <;> first | omega | (split <;> omega)) (by split <;> first | omega | (split <;> omega)) e
        split at this <;> split at this <;> (try split at this) <;> (try split at this) <;> omega
    refine bin O f A' (by omega) fun a b hab hb => ?_
    rw [g, g]
    by_cases ea : a = l
    · rw [if_pos ea, if_neg (by omega), if_pos (by omega)]
      exact h3 _ (by omega) (by omega)
    · rw [if_neg ea]
      by_cases eb : b = l
      · rw [if_pos eb, if_neg (by omega)]
        exact h2 _ (by omega)
      · rw [if_neg eb]
        by_cases ca : l < a ∧ a ≤ k
        · rw [if_pos ca, if_pos (by omega)]
          exact u _ _ (by omega) (by omega)
        · rw [if_neg ca]
          by_cases cb : l < b ∧ b ≤ k
          · rw [if_pos cb]
            exact u _ _ (by omega) (by omega)
          · rw [if_neg cb]
            exact u _ _ (by omega) (by omega)
theorem arr_range : Arr n (List.toArray (List.range n)) := by
  have g : ∀ a, a < n → (List.toArray (List.range n)).getD a 0 = a := fun a ha => by
    rw [Array.getD_eq_getD_getElem?]
    simp [ha]
  refine ⟨by simp, fun a ha => by rw [g a ha]; exact ha, fun a b ha hb e => by rw [g a ha, g b hb] at e; exact e, .refl _⟩
theorem sort (O : Ord n r) (h1 : 1 ≤ n) : Gd n r (kas_sort n) fun q => Arr n q ∧ Up r q n := by
  unfold kas_sort
  refine gd_bind (gd_mono ?_ (count O arr_range h1))
  rintro ⟨m, p⟩ ⟨A, h2, h3, u⟩
  dsimp only at *
  by_cases e : m < n
  · rw [if_pos e]
    exact bin O _ A (by omega) (by rw [show max m 1 = m by omega]; exact u)
  · rw [if_neg e]
    exact ⟨A, by rw [show n = m by omega]; exact u⟩
end Srt
end
section
set_option Elab.async false
set_option linter.all false
set_option maxRecDepth 100000
namespace Srt
open PySem PySem.W PyProof.Rows HT
theorem lex_irr : ∀ (x : List Int), lexLt x x = false
  | [] => rfl
  | a :: x => by rw [lexLt_cons, if_pos rfl]; exact lex_irr x
theorem lex_tr : ∀ {x y z : List Int}, lexLt x y = true → lexLt y z = true → lexLt x z = true
  | [], [], _, h, _ => by cases h
  | [], _ :: _, [], _, h => by cases h
  | [], _ :: _, _ :: _, _, _ => rfl
  | _ :: _, [], _, h, _ => by cases h
  | _ :: _, _ :: _, [], _, h => by cases h
  | a :: x, b :: y, c :: z, h, h' => by
    rw [lexLt_cons] at *
    by_cases e : a = b
    · rw [if_pos e] at h
      by_cases e2 : b = c
      · rw [if_pos e2] at h'
        rw [if_pos (e.trans e2)]
        exact lex_tr h h'
      · rw [if_neg e2] at h'
        rw [if_neg (by omega)]
        simp only [decide_eq_true_eq] at *
        omega
    · rw [if_neg e] at h
      simp only [decide_eq_true_eq] at h
      by_cases e2 : b = c
      · rw [if_neg (by omega)]
        simp only [decide_eq_true_eq]
        omega
      · rw [if_neg e2] at h'
        simp only [decide_eq_true_eq] at h'
        rw [if_neg (by omega)]
        simp only [decide_eq_true_eq]
        omega
theorem lex_tot : ∀ {x y : List Int}, x ≠ y → lexLt x y = false → lexLt y x = true
  | [], [], h, _ => absurd rfl h
  | [], _ :: _, _, h => by cases h
  | _ :: _, [], _, _ => rfl
  | a :: x, b :: y, h, h' => by
    rw [lexLt_cons] at *
    by_cases e : a = b
    · rw [if_pos e] at h'
      rw [if_pos e.symm]
      exact lex_tot (fun z => h (by rw [e, z])) h'
    · rw [if_neg e] at h'
      rw [if_neg (fun z => e z.symm)]
      simp only [decide_eq_true_eq, decide_eq_false_iff_not] at *
      omega
def lexr (ks : List (List Int)) (i j : Nat) : Bool := lexLt (ks.getD i []) (ks.getD j [])
theorem nodup_getD {ks : List (List Int)} (h : ks.Nodup) {i j : Nat} (hi : i < ks.length) (hj : j < ks.length) (e : ks.getD i [] = ks.getD j []) : i = j := by
  rw [List.getD_eq_getElem?_getD, List.getD_eq_getElem?_getD, List.getElem?_eq_getElem hi, List.getElem?_eq_getElem hj] at e
  have e : ks[i] = ks[j] := e
  have P := List.pairwise_iff_getElem.mp h
  rcases Nat.lt_trichotomy i j with q | q | q
  · exact absurd e (P i j hi hj q)
  · exact q
  · exact absurd e.symm (P j i hj hi q)
theorem ord_lex {ks : List (List Int)} (h : ks.Nodup) : Ord ks.length (lexr ks) :=
  ⟨fun i _ => lex_irr _, fun i j k _ _ _ a b => lex_tr a b, fun i j hi hj ne e => lex_tot (fun z => ne (nodup_getD h hi hj z)) e⟩
def Tp (h : Heap) (d : Nat) : List Value → List (List Int) → Prop
  | [], [] => True
  | v :: vs, k :: ks => (∃ a its, v = .ref a ∧ IsTup h a its ∧ IntsAre its.toList k ∧ k.length = d + 1) ∧ Tp h d vs ks
  | _, _ => False
theorem Tp.len {h : Heap} {d : Nat} : ∀ {vs : List Value} {ks : List (List Int)}, Tp h d vs ks → ks.length = vs.length
  | [], [], _ => rfl
  | _ :: _, _ :: _, t => by rw [List.length_cons, List.length_cons, Tp.len t.2]
  | [], _ :: _, t => t.elim
  | _ :: _, [], t => t.elim
theorem Tp.get {h : Heap} {d : Nat} : ∀ {vs : List Value} {ks : List (List Int)} {i : Nat}, Tp h d vs ks → i < vs.length → ∃ a its, vs.getD i Value.none = .ref a ∧ IsTup h a its ∧ IntsAre its.toList (ks.getD i []) ∧ (ks.getD i []).length = d + 1
  | [], _, _, _, hi => absurd hi (Nat.not_lt_zero _)
  | _ :: _, [], _, t, _ => t.elim
  | v :: vs, k :: ks, 0, t, _ => t.1
  | v :: vs, k :: ks, i + 1, t, hi => by
    rw [List.getD_cons_succ, List.getD_cons_succ]
    exact Tp.get t.2 (by simpa using hi)
theorem Tp.mono {h h' : Heap} {d : Nat} (k : ∀ b o, h.get? b = some o → h'.get? b = some o) : ∀ {vs : List Value} {ks : List (List Int)}, Tp h d vs ks → Tp h' d vs ks
  | [], [], _ => trivial
  | _ :: _, _ :: _, ⟨⟨a, its, e, ⟨o, ho, hc, n, hd⟩, hi, hl⟩, t⟩ => ⟨⟨a, its, e, ⟨o, k _ _ ho, hc, n, hd⟩, hi, hl⟩, t.mono k⟩
  | [], _ :: _, t => t.elim
  | _ :: _, [], t => t.elim
theorem Tp.kat {h : Heap} {d : Nat} : ∀ {vs : List Value} {ks : List (List Int)}, Tp h d vs ks → ∃ fs, KatTups h vs fs ∧ fs.length = vs.length ∧ ∀ v ∈ fs, ∃ n t, v = Value.int n t
  | [], [], _ => ⟨[], .nil, rfl, fun v h => by simp at h⟩
  | v :: vs, k :: ks, ⟨⟨a, its, e, ⟨o, ho, hc, n, hd⟩, hi, hl⟩, t⟩ => by
    obtain ⟨fs, h1, h2, h3⟩ := t.kat
    subst e
    obtain ⟨f, hf, m, u, rfl⟩ : ∃ f, its[0]? = some f ∧ ∃ m u, f = Value.int m u := by
      obtain ⟨l⟩ := its
      cases hi with
      | nil => simp at hl
      | cons m u r => exact ⟨_, rfl, m, u, rfl⟩
    exact ⟨Value.int m u :: fs, .cons ho hc hd hf h1, by rw [List.length_cons, List.length_cons, h2], fun v hv => by
      rcases List.mem_cons.mp hv with rfl | hv
      · exact ⟨m, u, rfl⟩
      · exact h3 v hv⟩
  | [], _ :: _, t => t.elim
  | _ :: _, [], t => t.elim
section
variable {prog : Program} {w : World} {A : Around} {E : Value → Shared → Prop} {s : Shared}
theorem lexK {Q : Bool → Shared → Prop} : ∀ {ns ms : List Int} {vs ws : List Value} (i : Nat), IntsAre vs ns → IntsAre ws ms → ns.length = ms.length → Q (lexLt ns ms) s → KatLex prog w A true false Q (vs.zip ws) i s
  | [], [], _, _, i, .nil, .nil, _, q => kat_nil q
  | [], _ :: _, _, _, _, _, _, hl, _ => by simp at hl
  | _ :: _, [], _, _, _, _, _, hl, _ => by simp at hl
  | n :: ns, m :: ms, _, _, i, .cons _ t hi, .cons _ u hj, hl, q => by
    rw [lexLt_cons] at q
    show KatLex prog w A true false Q ((Value.int n t, Value.int m u) :: List.zip _ _) i s
    refine kat_cons (wpAny_eqBool_int ?_)
    by_cases e : n = m
    · rw [if_pos e] at q
      rw [show (n == m) = true by simpa using e]
      exact kat_yes (lexK (i + 1) hi hj (by simpa using hl) q)
    · rw [if_neg e] at q
      rw [show (n == m) = false by simpa using e]
      refine kat_no ?_
      cases i with
      | zero => exact oneLt_int q
      | succ i =>
        refine kat_one _ _ (PyProof.Rows.lt_int ?_)
        exact q
theorem ask_tup {d : Nat} {vs : List Value} {ks : List (List Int)} (t : Tp s.heap d vs ks) (i j : Nat) (C : Bool → Shared → Prop) (hi : i < vs.length) (hj : j < vs.length) (h : C (lexr ks i j) s) : kas_ask prog w A (tuples' true) vs i j C s := by
  obtain ⟨a, its, e1, ⟨o, ho, hc, n, hd⟩, i1, l1⟩ := t.get hi
  obtain ⟨b, its2, e2, ⟨o2, ho2, hc2, n2, hd2⟩, i2, l2⟩ := t.get hj
  unfold kas_ask
  rw [e1, e2]
  refine kat_lt ho hd ho2 hd2 ?_
  have z1 := i1.length
  have z2 := i2.length
  rw [Array.length_toList] at z1 z2
  rw [show decide (its.size < its2.size) = false by simp only [decide_eq_false_iff_not]; omega]
  exact lexK 0 i1 i2 (by omega) h
theorem keptA {h : Heap} {a : Addr} {o1 o2 : Obj} {f : Obj → Obj} {b : Addr} {o : Obj} (ha : h.get? b = some o) (hb : b ≠ a) : (((h.update a f).push o1).push o2).get? b = some o := by
  have hlt := Heap.lt_size ha
  rw [Heap.get?_push_ne _ _ _ (by rw [size_push', Heap.size_update]; exact Nat.ne_of_lt (Nat.lt_succ_of_lt hlt)), Heap.get?_push_ne _ _ _ (by rw [Heap.size_update]; exact Nat.ne_of_lt hlt), Heap.get?_update_ne _ _ _ _ hb]
  exact ha
theorem out_small : ∀ {vs : List Value}, vs.length < 2 → (vs.toArray.zip vs.toArray).map (·.2) = List.toArray ((List.toArray (List.range vs.length)).toList.map fun i => vs.getD i Value.none)
  | [], _ => by simp
  | [x], _ => by simp
  | _ :: _ :: _, h => by simp at h; omega
theorem list_sortT {a : Addr} {d : Nat} {vs : List Value} {ks : List (List Int)} {n : Nat} {P : PySem.Fin → Shared → Prop} (ho : s.heap.get? a = some (seqObj "list" vs.toArray n)) (h64 : vs.length < 64) (hn : ks.Nodup) (hkl : ks.length = vs.length)
    (t : Tp (((s.heap.update a (Obj.mapSeq fun _ => (#[] : Array Value))).push (seqObj "tuple" vs.toArray 0)).push (seqObj "list" #[] 0)) d vs ks)
    (h : ∀ q : Array Nat, Arr vs.length q → Up (lexr ks) q vs.length → P (.done (.ret .none)) { s with heap := sortedHeap s.heap a vs (List.toArray (q.toList.map fun i => vs.getD i Value.none)) }) :
    wpAny (model prog w) A (Builtin.«list.sort» ⟨[.ref a], []⟩) P E s := by
  have ha : a < s.heap.objs.size := Heap.lt_size ho
  rw [list_sort_plain]
  refine wpAny_bind (listItems_at ho rfl ?_)
  refine wpAny_bind (listUpdate_at ho rfl ?_ (by rw [List.size_toArray, sizeLine_eq]; omega) (Nat.zero_le _))
  obtain ⟨e1, ho1⟩ : ∃ e1, (s.heap.update a (Obj.mapSeq fun _ => (#[] : Array Value))).get? a = some (seqObj "list" #[] e1) := ⟨_, get?_update_seq ho (fun _ => #[])⟩
  refine wpAny_bind (seqEpoch_at ho1 rfl ?_)
  refine wpAny_bind (wpAny_newTuple ?_ (by show vs.length ≤ _; rw [sizeLine_eq]; omega))
  refine wpAny_bind (wpAny_newList ?_ (Nat.zero_le _))
  refine wpAny_holding ?_
  have ho6 : (((s.heap.update a (Obj.mapSeq fun _ => (#[] : Array Value))).push (seqObj "tuple" vs.toArray 0)).push (seqObj "list" #[] 0)).get? a = some (seqObj "list" #[] e1) := by
    rw [Heap.get?_push_ne _ _ _ (by rw [size_push', Heap.size_update]; exact Nat.ne_of_lt (Nat.lt_succ_of_lt ha)), Heap.get?_push_ne _ _ _ (by rw [Heap.size_update]; exact Nat.ne_of_lt ha)]
    exact ho1
  show wpAny (model prog w) A _ P E { s with heap := ((s.heap.update a (Obj.mapSeq fun _ => (#[] : Array Value))).push (seqObj "tuple" vs.toArray 0)).push (seqObj "list" #[] 0) }
  dsimp only
  have hsz : vs.toArray.size = vs.length := by simp
  by_cases h2 : vs.toArray.size < 2
  · rw [if_pos h2, if_pos h2]
    refine wpAny_bind (wpAny_pure ?_)
    rw [StateT.run_pure]
    refine wpAny_bind (wpAny_pure ?_)
    dsimp only
    refine wpAny_bind (seqEpoch_at ho6 rfl ?_)
    have hout : (arrOf (SortSt.mk' general' (vs.toArray.zip vs.toArray) #[] 7 none)).map (·.2) = List.toArray ((List.toArray (List.range vs.length)).toList.map fun i => vs.getD i Value.none) := by
      exact out_small (by omega)
    rw [hout]
    refine wpAny_bind (listUpdate_at ho6 rfl ?_ (Nat.zero_le _) (by rw [List.size_toArray, List.length_map, sizeLine_eq]; simp; omega))
    simp only [bne_self_eq_false, Bool.false_eq_true, if_false]
    refine wpAny_pure (h _ arr_range fun x y hxy hy => ?_)
    omega
  · rw [if_neg h2, if_neg h2]
    obtain ⟨fs, k1, k2, k3⟩ := t.kat
    refine wpAny_bind (kat_kind (s := { s with heap := ((s.heap.update a (Obj.mapSeq fun _ => (#[] : Array Value))).push (seqObj "tuple" vs.toArray 0)).push (seqObj "list" #[] 0) }) (T := .type "int") k1 (by omega) (fun v hv => by obtain ⟨n, u, rfl⟩ := k3 v hv; exact Looks.of_pure rfl) (by decide) ?_)
    have hT : (Value.type "int" != Value.type "tuple") = true := by decide
    rw [hT]
    have wp := gd_wp (n := vs.length) (r := lexr ks) (cmp := kas_ask prog w A (tuples' true) vs) (s := { s with heap := ((s.heap.update a (Obj.mapSeq fun _ => (#[] : Array Value))).push (seqObj "tuple" vs.toArray 0)).push (seqObj "list" #[] 0) }) (R := fun q s' => Arr vs.length q ∧ Up (lexr ks) q vs.length ∧ s' = { s with heap := ((s.heap.update a (Obj.mapSeq fun _ => (#[] : Array Value))).push (seqObj "tuple" vs.toArray 0)).push (seqObj "list" #[] 0) }) (fun i j C hi hj hC => ask_tup t i j C hi hj hC) (sort (by rw [← hkl]; exact ord_lex hn) (by omega)) (fun q hq => ⟨hq.1, hq.2, rfl⟩)
    refine wpAny_bind (wpAny_mono (kat_run (E := E) (Q := fun st' s' => ∃ p : Array Nat, p.size = vs.length ∧ arrOf st' = p.map (kas_item (vs.toArray.zip vs.toArray)) ∧ failedOf st' = none ∧ Arr vs.length p ∧ Up (lexr ks) p vs.length ∧ s' = { s with heap := ((s.heap.update a (Obj.mapSeq fun _ => (#[] : Array Value))).push (seqObj "tuple" vs.toArray 0)).push (seqObj "list" #[] 0) })
      rfl (by omega) h64 (fun p' st' s' a1 a2 a3 a4 => ⟨p', a1, a2, a3, a4⟩) wp) ?_ fun _ _ e => e)
    rintro ⟨⟨⟩, st'⟩ s' ⟨p, hp, har, hf, hA, hU, rfl⟩
    dsimp only
    have hout := kat_snds rfl har
    rw [hout]
    refine wpAny_bind (seqEpoch_at ho6 rfl ?_)
    refine wpAny_bind (listUpdate_at ho6 rfl ?_ (Nat.zero_le _) (by rw [List.size_toArray, List.length_map, Array.length_toList, hp, sizeLine_eq]; omega))
    rw [hf]
    simp only [bne_self_eq_false, Bool.false_eq_true, if_false]
    exact wpAny_pure (h p hA hU)
theorem sortedT {l : Addr} {d : Nat} {vs : List Value} {ks : List (List Int)} {Q : Value → Shared → Prop} (hl : s.heap.IsList l vs.toArray) (h64 : vs.length < 64) (hn : ks.Nodup) (t : Tp s.heap d vs ks)
    (h : ∀ q : Array Nat, Arr vs.length q → Up (lexr ks) q vs.length → Q (.ref (s.heap.objs.size + 1)) { s with heap := sortedAll s.heap vs (List.toArray (q.toList.map fun i => vs.getD i Value.none)) }) :
    wpAny (model prog w) A (call (.builtin "sorted") [.ref l]) Q E s := by
  refine Calls.call_function_entry kind_sorted plain_sorted entry_sorted (args_sorted1 _) ?_
  unfold Builtin.«sorted»
  refine wpAny_bind (m := checkCount "sorted" 1 1 _) (wpAny_pure ?_)
  refine wpAny_bind (collect_list hl ?_ (by rw [sizeLine_eq]; omega))
  refine wpAny_bind (wpAny_newList ?_ (by rw [sizeLine_eq]; omega))
  have hsz : ((s.heap.push (seqObj "list" #[] 0)).update s.heap.objs.size (Obj.mapSeq (· ++ vs.toArray))).objs.size = s.heap.objs.size + 1 := by
    rw [Heap.size_update, size_push']
  have hoL : (((s.heap.push (seqObj "list" #[] 0)).update s.heap.objs.size (Obj.mapSeq (· ++ vs.toArray))).push (seqObj "list" vs.toArray 0)).get? (s.heap.objs.size + 1) = some (seqObj "list" vs.toArray 0) := by
    rw [← hsz]; exact Heap.get?_push_size _ rfl
  have keep : ∀ b o, s.heap.get? b = some o → (((s.heap.push (seqObj "list" #[] 0)).update s.heap.objs.size (Obj.mapSeq (· ++ vs.toArray))).push (seqObj "list" vs.toArray 0)).get? b = some o := fun b o q => by
    have hlt : b < s.heap.objs.size := Heap.lt_size q
    rw [Heap.get?_push_ne _ _ _ (by rw [hsz]; exact Nat.ne_of_lt (Nat.lt_succ_of_lt hlt)), Heap.get?_update_ne _ _ _ _ (Nat.ne_of_lt hlt), Heap.get?_push_ne _ _ _ (Nat.ne_of_lt hlt)]
    exact q
  show wpAny _ _ _ _ _ { s with heap := ((s.heap.push (seqObj "list" #[] 0)).update s.heap.objs.size (Obj.mapSeq (· ++ vs.toArray))).push (seqObj "list" vs.toArray 0) }
  rw [hsz]
  have t2 : Tp ((((((s.heap.push (seqObj "list" #[] 0)).update s.heap.objs.size (Obj.mapSeq (· ++ vs.toArray))).push (seqObj "list" vs.toArray 0)).update (s.heap.objs.size + 1) (Obj.mapSeq fun _ => (#[] : Array Value))).push (seqObj "tuple" vs.toArray 0)).push (seqObj "list" #[] 0)) d vs ks :=
    t.mono fun b o e => keptA (keep b o e) (Nat.ne_of_lt (Nat.lt_succ_of_lt (Heap.lt_size e)))
  refine wpAny_bind (wpAny_holding (wpAny_call_entry slot_list_sort ⟨_, hoL, rfl⟩ entry_list_sort (list_sortT (d := d) (ks := ks) (s := { s with heap := ((s.heap.push (seqObj "list" #[] 0)).update s.heap.objs.size (Obj.mapSeq (· ++ vs.toArray))).push (seqObj "list" vs.toArray 0) }) hoL h64 hn t.len t2 fun q a1 a2 => ⟨_, rfl, ?_⟩) (args_list_sort _)))
  exact wpAny_pure ⟨_, rfl, h q a1 a2⟩
end
end Srt
end
section
set_option Elab.async false
set_option linter.all false
set_option maxRecDepth 100000
namespace DL
open PySem L2 PyProof.Rows
variable {K : PySem.W.Frag}
def rSortT (K : PySem.W.Frag) : List V → Hp → VK → Prop := fun xs H Q => ∃ (a : Addr) (zs : List (Addr × List Int)) (d : Nat), xs = [.ref a] ∧ SqL K H a (zs.map fun z => V.ref z.1) ∧ (∀ z ∈ zs, SqT K H z.1 (z.2.map V.int) ∧ z.2.length = d + 1) ∧ (zs.map (·.2)).Nodup ∧ zs.length < 64 ∧
  ∀ (p : Addr) (zs' : List (Addr × List Int)), H p = none → zs'.Perm zs → (zs'.map (·.2)).Pairwise (fun x y => HT.lexLt x y = true) → Q (.ref p) (upd H p (.lst (zs'.map fun z => V.ref z.1)))
theorem vals_refs : ∀ {zs : List (Addr × List Int)} {us : List Value}, Vals (zs.map fun z => V.ref z.1) us → us = zs.map fun z => Value.ref z.1
  | [], _, h => by cases h; rfl
  | z :: zs, _, h => by
    cases h with
    | cons r t => rw [vals_refs t, show _ = Value.ref z.1 from r]; rfl
theorem vals_of_refs : ∀ (zs : List (Addr × List Int)), Vals (zs.map fun z => V.ref z.1) (zs.map fun z => Value.ref z.1)
  | [] => .nil
  | z :: zs => .cons rfl (vals_of_refs zs)
theorem tp_of {X : Cx} {pins : List (Addr × Obj)} {σ : L2.St} {H : Hp} {s : Shared} (I : Inv X pins σ H s) {d : Nat} : ∀ {zs : List (Addr × List Int)}, (∀ z ∈ zs, SqT X.K H z.1 (z.2.map V.int) ∧ z.2.length = d + 1) → Srt.Tp s.heap d (zs.map fun z => Value.ref z.1) (zs.map (·.2))
  | [], _ => trivial
  | z :: zs, h => by
    obtain ⟨h1, h2⟩ := h z List.mem_cons_self
    obtain ⟨its, r1, p1, _⟩ := I.tuple h1
    exact ⟨⟨z.1, its.toArray, rfl, p1, intsAre_of r1, h2⟩, tp_of I fun y hy => h y (List.mem_cons_of_mem _ hy)⟩
theorem map_getD {α β : Type} (f : α → β) (l : List α) (i : Nat) (a : α) : (l.map f).getD i (f a) = f (l.getD i a) := by
  rw [List.getD_eq_getElem?_getD, List.getD_eq_getElem?_getD, List.getElem?_map]
  cases l[i]? <;> rfl
theorem range_getD {α : Type} (l : List α) (a : α) : (List.range l.length).map (fun i => l.getD i a) = l := by
  apply List.ext_getElem
  · simp
  · intro i h1 h2
    simp [List.getD_eq_getElem?_getD, h2]
theorem call_sortT {X : Cx} : CallR X (.builtin "sorted") (rSortT X.K) := by
  intro pins s σ H xs us Q I r h
  obtain ⟨a, zs, d, rfl, hq, ht, hn, hz, q⟩ := h
  obtain ⟨u, rfl, ru⟩ := vals1 r
  cases ru
  obtain ⟨its, rv, pl, _⟩ := I.list hq
  have e := vals_refs rv
  subst e
  have hlen : (zs.map fun z => Value.ref z.1).length = zs.length := by simp
  refine Srt.sortedT (d := d) (ks := zs.map (·.2)) pl.isList (by rw [hlen]; exact hz) hn (tp_of I ht) fun p hA hU => ?_
  rw [hlen] at hA hU
  have pm : p.toList.Perm (List.range zs.length) := by
    have := hA.pm.toList
    simpa using this
  have mem : ∀ i ∈ p.toList, i < zs.length := fun i hi => List.mem_range.mp (pm.mem_iff.mp hi)
  have eo : (p.toList.map fun i => (zs.map fun z => Value.ref z.1).getD i Value.none) = (p.toList.map fun i => zs.getD i (0, [])).map fun z => Value.ref z.1 := by
    rw [List.map_map]
    refine List.map_congr_left fun i hi => ?_
    have := mem i hi
    simp [List.getD_eq_getElem?_getD, this]
  rw [eo]
  obtain ⟨c, hc⟩ := sortedAll_at s.heap (zs.map fun z => Value.ref z.1) (List.toArray ((p.toList.map fun i => zs.getD i (0, [])).map fun z => Value.ref z.1))
  have perm : (p.toList.map fun i => zs.getD i (0, [])).Perm zs := by
    have := pm.map fun i => zs.getD i (0, [])
    rw [range_getD] at this
    exact this
  have hl2 := perm.length_eq
  refine ⟨.ref (s.heap.objs.size + 1), _, I.laid (o := .lst ((p.toList.map fun i => zs.getD i (0, [])).map fun z => V.ref z.1)) (fun _ _ e => sortedAll_old e) (Nat.le_succ _) ?_, rfl, q (s.heap.objs.size + 1) (p.toList.map fun i => zs.getD i (0, [])) (I.hok.fresh (Nat.le_succ _)) perm ?_⟩
  · exact ⟨by rw [List.length_map, hl2]; exact Nat.le_trans (Nat.le_of_lt hz) (by decide), _, c, vals_of_refs _, hc⟩
  · rw [List.pairwise_iff_getElem]
    intro i j hi hj hij
    simp only [List.length_map, Array.length_toList] at hi hj
    have sz := hA.sz
    have := hU i j hij (by omega)
    unfold Srt.lexr at this
    have g : ∀ (k : Nat) (hk : k < p.size), (zs.map (·.2)).getD (p.getD k 0) [] = (zs.getD (p.toList[k]'(by rw [Array.length_toList]; exact hk)) (0, [])).2 := fun k hk => by
      have e1 : p.getD k 0 = p.toList[k]'(by rw [Array.length_toList]; exact hk) := by simp [Array.getD, hk]
      rw [e1]
      exact map_getD (·.2) zs _ (0, [])
    rw [g i hi, g j hj] at this
    simpa using this
def keysD : List PyData → Option (List (List Int))
  | [] => some []
  | .tuple ds :: r => (intsD ds).bind fun k => (keysD r).map (k :: ·)
  | _ :: _ => none
def tupK (k : List Int) : PyData := .tuple (k.map .int)
def insK (k : List Int) : List (List Int) → List (List Int)
  | [] => [k]
  | x :: r => if HT.lexLt k x = true then k :: x :: r else x :: insK k r
def srtK : List (List Int) → List (List Int)
  | [] => []
  | k :: r => insK k (srtK r)
theorem insK_perm (k : List Int) : ∀ (l : List (List Int)), (insK k l).Perm (k :: l)
  | [] => .refl _
  | x :: r => by
    unfold insK
    split
    · exact .refl _
    · exact ((insK_perm k r).cons x).trans (.swap k x r)
theorem srtK_perm : ∀ (l : List (List Int)), (srtK l).Perm l
  | [] => .refl _
  | k :: r => (insK_perm k (srtK r)).trans ((srtK_perm r).cons k)
theorem insK_sorted {k : List Int} : ∀ {l : List (List Int)}, l.Pairwise (fun x y => HT.lexLt x y = true) → k ∉ l → (insK k l).Pairwise (fun x y => HT.lexLt x y = true)
  | [], _, _ => List.pairwise_singleton _ _
  | x :: r, h, hn => by
    obtain ⟨h1, h2⟩ := List.pairwise_cons.mp h
    unfold insK
    split
    · rename_i c
      refine List.pairwise_cons.mpr ⟨fun y hy => ?_, h⟩
      rcases List.mem_cons.mp hy with rfl | hy
      · exact c
      · exact Srt.lex_tr c (h1 y hy)
    · rename_i c
      have c' : HT.lexLt x k = true := Srt.lex_tot (fun z => hn (by rw [z]; exact List.mem_cons_self)) (by simpa using c)
      refine List.pairwise_cons.mpr ⟨fun y hy => ?_, insK_sorted h2 fun z => hn (List.mem_cons_of_mem _ z)⟩
      rcases List.mem_cons.mp ((insK_perm k r).mem_iff.mp hy) with rfl | hy
      · exact c'
      · exact h1 y hy
theorem srtK_sorted : ∀ {l : List (List Int)}, l.Nodup → (srtK l).Pairwise (fun x y => HT.lexLt x y = true)
  | [], _ => .nil
  | k :: r, h => by
    obtain ⟨h1, h2⟩ := List.nodup_cons.mp h
    exact insK_sorted (srtK_sorted h2) fun z => h1 ((srtK_perm r).mem_iff.mp z)
theorem srtK_eq {l m : List (List Int)} (hn : l.Nodup) (h : m.Pairwise (fun x y => HT.lexLt x y = true)) (hm : ∀ x, x ∈ m ↔ x ∈ l) : srtK l = m :=
  sorted_ext (R := fun x y => HT.lexLt x y = true) (fun a b h1 h2 => by have := Srt.lex_tr h1 h2; rw [Srt.lex_irr] at this; cases this) (srtK_sorted hn) h fun x => ((srtK_perm l).mem_iff).trans (hm x).symm
def fSortT : List PyData → Option PyData
  | [.list xs] => (keysD xs).bind fun ks => if ks.Nodup ∧ ks.length < 64 ∧ (∀ k ∈ ks, k.length = ((ks.headD [])).length) ∧ 1 ≤ (ks.headD [0]).length then some (.list ((srtK ks).map tupK)) else none
  | _ => none
theorem keys_is {H : Hp} : ∀ {ds : List PyData} {vs : List V} {ks : List (List Int)}, IsL K H ds vs → keysD ds = some ks → ∃ zs : List (Addr × List Int), vs = zs.map (fun z => V.ref z.1) ∧ ks = zs.map (·.2) ∧ ∀ z ∈ zs, SqT K H z.1 (z.2.map V.int)
  | [], _, _, h, e => by cases e; exact ⟨[], h, rfl, fun z hz => by simp at hz⟩
  | .tuple ds :: r, _, _, ⟨v, us, e1, ⟨a, ws, e2, hs, lw⟩, l⟩, e => by
    obtain ⟨k, ek, e⟩ := Option.bind_eq_some_iff.mp e
    obtain ⟨ms, em, e⟩ := Option.map_eq_some_iff.mp e
    subst e e1 e2
    obtain ⟨zs, h1, h2, h3⟩ := keys_is l em
    subst h1 h2
    rw [ints_is lw ek] at hs
    exact ⟨(a, k) :: zs, rfl, rfl, fun z hz => by
      rcases List.mem_cons.mp hz with rfl | hz
      · exact hs
      · exact h3 z hz⟩
  | .none :: _, _, _, _, e => by cases e
  | .bool _ :: _, _, _, _, e => by cases e
  | .int _ :: _, _, _, _, e => by cases e
  | .str _ :: _, _, _, _, e => by cases e
  | .list _ :: _, _, _, _, e => by cases e
  | .dict _ :: _, _, _, _, e => by cases e
theorem is_ints {H : Hp} : ∀ (k : List Int), IsL K H (k.map .int) (k.map V.int)
  | [] => rfl
  | i :: k => ⟨_, _, rfl, rfl, is_ints k⟩
theorem is_keys {H : Hp} : ∀ {zs : List (Addr × List Int)}, (∀ z ∈ zs, SqT K H z.1 (z.2.map V.int)) → IsL K H ((zs.map (·.2)).map tupK) (zs.map fun z => V.ref z.1)
  | [], _ => rfl
  | z :: zs, h => ⟨_, _, rfl, ⟨z.1, _, rfl, h z List.mem_cons_self, is_ints _⟩, is_keys fun y hy => h y (List.mem_cons_of_mem _ hy)⟩
theorem c_sortT : BR K true (rSortT K) fSortT := by
  intro S H vs ds d Q _ l e q
  unfold fSortT at e
  split at e
  · obtain ⟨ks, e1, e⟩ := Option.bind_eq_some_iff.mp e
    split at e
    · rename_i hc
      obtain ⟨hn, h64, hl, hp⟩ := hc
      cases e
      obtain ⟨v, us, rfl, ⟨a, ws, rfl, h, lw⟩, iu⟩ := l
      cases (show us = [] from iu)
      obtain ⟨zs, rfl, rfl, hz⟩ := keys_is lw e1
      rw [List.length_map] at h64
      refine ⟨a, zs, ((zs.map (·.2)).headD [0]).length - 1, rfl, SqL.of (hid_iff.mp h).2, fun z hz' => ⟨Same.tup same_hid (hz z hz'), ?_⟩, hn, h64, fun p zs' hp' pm sr => ?_⟩
      · have := hl z.2 (List.mem_map.mpr ⟨z, hz', rfl⟩)
        cases zs with
        | nil => simp at hz'
        | cons y ys =>
          simp only [List.map_cons, List.headD_cons] at *
          omega
      · have e2 : srtK (zs.map (·.2)) = zs'.map (·.2) := srtK_eq hn sr fun x => (pm.map (·.2)).mem_iff
        rw [e2] at q
        exact q _ _ (same_new hp' _) (res_new hp' (is_keys fun z hz' => hz z (pm.mem_iff.mp hz')))
    · cases e
  · cases e
end DL
end
section
set_option Elab.async false
set_option linter.all false
set_option maxRecDepth 100000
namespace DL
open PySem L2
variable {K : PySem.W.Frag}
abbrev DO := DS → Option (Option Int × DS)
structure OO (K : PySem.W.Frag) (t : TO) (f : DO) : Prop where
  like : ∀ τ b τ', f τ = some (b, τ') → Like τ τ'
  run : ∀ S M τ σ H (Q : Option Int → Hp → Prop) b τ', R K S M τ σ H → f τ = some (b, τ') → (∀ H', R K S M τ' σ H' → Chg M H H' → Q b H') → t σ H Q
def dNoP : DO := fun τ => some (none, τ)
def dPt (f : DX) : DO := fun τ => (f τ).bind fun p => match p.1 with
  | .int i => some (some i, p.2)
  | _ => none
theorem o_nop : OO K tNoPart dNoP := ⟨fun τ b τ' e => by cases e; exact Like.refl, fun S M τ σ H Q b τ' r e q => by cases e; exact q H r Chg.refl⟩
theorem o_pt {fr : Bool} {t : TE} {f : DX} (h : E K t fr f) : OO K (tPart t) (dPt f) := by
  refine ⟨fun τ b τ' e => ?_, ?_⟩
  · unfold dPt at e
    obtain ⟨⟨x, τ1⟩, e1, e⟩ := Option.bind_eq_some_iff.mp e
    dsimp only at e
    split at e
    · cases e; exact h.like _ _ _ e1
    · cases e
  intro S M τ σ H Q b τ' r e q
  unfold dPt at e
  obtain ⟨⟨x, τ1⟩, e1, e⟩ := Option.bind_eq_some_iff.mp e
  dsimp only at e
  split at e
  · rename_i i
    cases e
    refine h.run S M τ σ H _ _ _ r e1 fun v H' r' c iv => ?_
    exact ⟨i, (show v = .int i from r.isr iv), q H' r' c⟩
  · cases e
def cutD (xs : List PyData) (lo hi : Option Int) : List PyData := (xs.drop (HT.sIx xs.length 0 lo)).take (HT.sIx xs.length xs.length hi - HT.sIx xs.length 0 lo)
theorem isl_drop {H : Hp} : ∀ {xs : List PyData} {vs : List V} (n : Nat), IsL K H xs vs → IsL K H (xs.drop n) (vs.drop n)
  | _, _, 0, h => h
  | [], _, n + 1, h => by rw [show _ = [] from h]; rfl
  | x :: xs, _, n + 1, ⟨v, us, e, _, l⟩ => by subst e; exact isl_drop n l
theorem isl_take {H : Hp} : ∀ {xs : List PyData} {vs : List V} (n : Nat), IsL K H xs vs → IsL K H (xs.take n) (vs.take n)
  | _, _, 0, h => rfl
  | [], _, n + 1, h => by rw [show _ = [] from h]; rfl
  | x :: xs, _, n + 1, ⟨v, us, e, i, l⟩ => by subst e; exact ⟨v, _, rfl, i, isl_take n l⟩
theorem isl_cut {H : Hp} {xs : List PyData} {vs : List V} {lo hi : Option Int} (h : IsL K H xs vs) : IsL K H (cutD xs lo hi) (cutV vs lo hi) := by
  unfold cutD cutV
  rw [h.length]
  exact isl_take _ (isl_drop _ h)
def dSl (f : DX) (lo hi : DO) (τ : DS) : Option (PyData × DS) := (f τ).bind fun p => (lo p.2).bind fun l => (hi l.2).bind fun u => match p.1 with
  | .list xs => some (.list (cutD xs l.1 u.1), u.2)
  | _ => none
theorem e_sl {fr : Bool} {te : TE} {tl th : TO} {f : DX} {lo hi : DO} (h : E K te fr f) (hl : OO K tl lo) (hh : OO K th hi) : E K (tSl (rSlL K) te tl th) true (dSl f lo hi) := by
  refine ⟨fun τ d τ' e => ?_, ?_⟩
  · unfold dSl at e
    obtain ⟨⟨x, τ1⟩, e1, e⟩ := Option.bind_eq_some_iff.mp e
    obtain ⟨⟨l, τ2⟩, e2, e⟩ := Option.bind_eq_some_iff.mp e
    obtain ⟨⟨u, τ3⟩, e3, e⟩ := Option.bind_eq_some_iff.mp e
    dsimp only at e
    split at e
    · cases e; exact ((h.like _ _ _ e1).trans (hl.like _ _ _ e2)).trans (hh.like _ _ _ e3)
    · cases e
  intro S M τ σ H Q d τ' r e q
  unfold dSl at e
  obtain ⟨⟨x, τ1⟩, e1, e⟩ := Option.bind_eq_some_iff.mp e
  obtain ⟨⟨l, τ2⟩, e2, e⟩ := Option.bind_eq_some_iff.mp e
  obtain ⟨⟨u, τ3⟩, e3, e⟩ := Option.bind_eq_some_iff.mp e
  dsimp only at e e2 e3
  cases x with
  | list xs =>
    cases e
    refine h.run S M τ σ H _ _ _ r e1 fun v1 H1 r1 c1 i1 => ?_
    refine hl.run S M τ1 σ H1 _ _ _ r1 e2 fun H2 r2 c2 => ?_
    refine hh.run S M τ2 σ H2 _ _ _ r2 e3 fun H3 r3 c3 => ?_
    have i1' : Is K (hid S H3) (.list xs) v1 := ((r.isr i1).mono (c2.keep r1.sub).same).mono (c3.keep r2.sub).same
    obtain ⟨a, vs, rfl, ha, la⟩ := i1'
    refine ⟨a, vs, rfl, SqL.of (hid_iff.mp ha).2, fun p hp => ?_⟩
    have s := same_new hp (HO.lst (cutV vs l u))
    exact q _ _ (r3.same s) (((c1.trans c2).trans c3).trans (.of s)) ((res_new hp (isl_cut la)).back r3 ((c1.trans c2).trans c3))
  | _ => cases e
end DL
end
section
set_option Elab.async false
set_option linter.all false
set_option maxRecDepth 100000
namespace L2
open PySem PySem.Spec PyProof.Rows
section
variable {X : Cx} {pins : List (Addr × Obj)} {σ : L2.St} {H : Hp} {s : Shared}
theorem Inv.turned2 {t' : Nat} {i1 i2 : Addr} {h' : Heap} (I : Inv X pins σ H s) (k : ∀ b o, b ≠ i1 → b ≠ i2 → s.heap.get? b = some o → h'.get? b = some o) (f1 : FpOk X pins H i1) (f2 : FpOk X pins H i2) : Inv X pins σ H { s with heap := h', toks := t' } := by
  obtain ⟨a0, a1, a2, a3, a4, a5⟩ := f1
  obtain ⟨b0, b1, b2, b3, b4, b5⟩ := f2
  have n1 : ∀ b u, H b = some u → b ≠ i1 := fun b u e z => by rw [z, a0] at e; cases e
  have n2 : ∀ b u, H b = some u → b ≠ i2 := fun b u e z => by rw [z, b0] at e; cases e
  refine I.step (g' := s.gens) (d' := s.drawn) (ch := [i1, i2]) (fun b hb => ?_) (fun b o _ _ hc e _ => k b o (fun z => hc (by simp [z])) (fun z => hc (by simp [z])) e) (fun b o _ _ hc e _ => ⟨o.slots, k b o (fun z => hc (by simp [z])) (fun z => hc (by simp [z])) e⟩) (fun _ _ _ _ n => n)
    (fun b o hc e => ⟨o, k b o (fun z => hc (by simp [z])) (fun z => hc (by simp [z])) e⟩) (fun _ _ e => e) (fun _ _ _ e => e) (fun b ps e => ⟨#[], by rw [e]; simp⟩) (fun m hm => ?_) (fun b u e => ?_) I.bare
  · have e : b = i1 ∨ b = i2 := by simpa using hb
    rcases e with e | e
    · subst e; exact ⟨a3, a1, a4, a5⟩
    · subst e; exact ⟨b3, b1, b4, b5⟩
  · obtain ⟨o, es, ep, ho, r⟩ := hm
    exact ⟨o, es, ep, k _ o (Ne.symm a1) (Ne.symm b1) ho, r⟩
  · refine (I.hok b u e).stay (fun c v hc q => k c v ?_ ?_ q) (fun _ q => q) fun _ _ q => q
    · rcases hc with z | z
      · rw [z]; exact n1 b u e
      · exact n1 c _ z
    · rcases hc with z | z
      · rw [z]; exact n2 b u e
      · exact n2 c _ z
end
def Ite (K : PySem.W.Frag) (a : Addr) : It :=
  ⟨fun i H => ∃ xs x, SqL K H a xs ∧ xs[i]? = some x, fun i H x H' => ∃ (p : Addr) (v : V), H p = none ∧ x = .ref p ∧ (∀ xs, SqL K H a xs → xs[i]? = some v) ∧ H' = upd H p (.tup [.int i, v]), fun i H => ∃ xs, SqL K H a xs ∧ xs.length ≤ i⟩
theorem turn_enum {P : Program} {w : World} {K : PySem.W.Frag} {elts : List Expr} {c1} {pos : Pos} (a e it : Addr) (hei : e ≠ it) : Turn P w K (.Tuple elts c1 pos) (Ite K a) [e, it] e (fun i h => (∃ old, IsEnum h e it i old) ∧ h.IsListIter it a i) where
  mem := by simp
  obj := fun i h st b hb => by
    have q : b = e ∨ b = it := by simpa using hb
    obtain ⟨⟨old, he⟩, o, ho, c, d⟩ := st
    rcases q with rfl | rfl
    · exact ⟨_, he, fun v z => by cases z⟩
    · exact ⟨o, ho, fun v z => by rw [d] at z; cases z⟩
  keep := fun i h h' st k => ⟨let ⟨old, he⟩ := st.1; ⟨old, k e (by simp) _ he⟩, st.2.at fun o q => k it (by simp) o q⟩
  item := by
    intro X hP hw hK hc i pins s σ H E I hf st hg
    subst hP hw hK
    obtain ⟨xs, x, hq, hx⟩ := hg
    obtain ⟨its, rv, p, hz⟩ := I.list hq
    obtain ⟨u, hu, ru⟩ := rv.get hx
    obtain ⟨⟨old, he⟩, hit⟩ := st
    refine wpAny_pyNext_enum_item he hit p.isList (x := u) (by simpa using hu) hei fun h1 ho hit1 ht hs1 k1 => ?_
    refine ⟨_, rfl, wpAny_letOwnedTupleGo_enum (s := { s with heap := h1, toks := s.toks + 1 }) ho fun h2 he2 sb => ?_⟩
    have fr : H s.heap.objs.size = none := I.hok.fresh (Nat.le_refl _)
    have hlt1 : e < s.heap.objs.size := Heap.lt_size he
    have hlt2 : it < s.heap.objs.size := by obtain ⟨o, q, _⟩ := hit; exact Heap.lt_size q
    have I1 := I.laid (t' := s.toks + 1) (a := s.heap.objs.size) (o := .tup [.int i, x]) (h' := s.heap.push { cls := .type "tuple", data := .seq #[.int i s.toks, u] }) (fun b o q => Heap.get?_push_of_some _ q) (Nat.le_refl _)
      ⟨by show 2 ≤ sizeLine; decide, [.int i s.toks, u], .cons ⟨_, rfl⟩ (.cons ru .nil), _, Heap.get?_push_size _ rfl, rfl, _, rfl⟩
    have fp : ∀ b ∈ [e, it], FpOk X pins (upd H s.heap.objs.size (.tup [.int i, x])) b := fun b hb => by
      obtain ⟨q0, q⟩ := hf b hb
      refine ⟨?_, q⟩
      rw [upd_ne (fun z => ?_)]
      · exact q0
      · have q : b = e ∨ b = it := by simpa using hb
        rcases q with rfl | rfl
        · exact absurd hlt1 (by rw [z]; exact Nat.lt_irrefl _)
        · exact absurd hlt2 (by rw [z]; exact Nat.lt_irrefl _)
    have I2 := I1.turned2 (t' := s.toks + 1) (h' := h2) (i1 := e) (i2 := it) (fun b o ne ni q => by
      have e2 : h2.get? b = h1.get? b := sb.2 b ne
      rw [e2]
      by_cases hb : b = s.heap.objs.size
      · subst hb
        have q' : some ({ cls := .type "tuple", data := .seq #[.int i s.toks, u] } : Obj) = some o := (Heap.get?_push_size s.heap (o := { cls := .type "tuple", data := .seq #[.int i s.toks, u] }) rfl).symm.trans q
        rw [ht]; exact q'
      · have q' : (s.heap.push { cls := .type "tuple", data := .seq #[.int i s.toks, u] }).get? b = some o := q
        rw [Heap.get?_push_ne _ _ _ hb] at q'
        exact k1 b o ne ni q') (fp e (by simp)) (fp it (by simp))
    refine ⟨.ref s.heap.objs.size, _, I2, rfl, ⟨s.heap.objs.size, x, fr, rfl, fun ys hy => by rw [I.list_inj hy hq]; exact hx, rfl⟩, ⟨⟨u, ?_⟩, ?_⟩, fun b hb => (fp b hb).1⟩
    · have : ((i + 1 : Nat) : Int) = (i : Int) + 1 := by omega
      rw [this]; exact he2
    · exact hit1.at fun o q => by
        have e2 : h2.get? it = h1.get? it := sb.2 it (Ne.symm hei)
        rw [e2]; exact q
  done := by
    intro X hP hw hK hc i pins s σ H E I hf st hg
    subst hP hw hK
    obtain ⟨xs, hq, hx⟩ := hg
    obtain ⟨its, rv, p, hz⟩ := I.list hq
    obtain ⟨⟨old, he⟩, hit⟩ := st
    obtain ⟨f0, f1, f2, f3, f4, f5⟩ := hf it (by simp)
    have hl := rv.length
    exact wpAny_pyNext_enum_end (I.ok.hd hc) he hit p.isList (by simp; omega) fun h' eb => ⟨rfl, I.turned (t' := s.toks) (fun b o hb e => eb b o hb e) f0 f1 f3 f4 f5⟩
  self := fun _ _ _ _ _ st h => let ⟨old, he⟩ := st.1; wpAny_pyIter_enum he h
section
variable {X : Cx} {elts : List Expr} {tp : Pos}
def iEnum (K : PySem.W.Frag) (ta : TA) : TI := fun σ H R => ta σ H fun vs H1 => ∃ a, vs = [.ref a] ∧ (∃ xs, SqL K H1 a xs) ∧ R (Ite K a) H1
theorem pi_enum {a : Expr} {ta : TA} {p pos : Pos} {c1} (hg : Gl X "enumerate") (hm : X.mg "enumerate" = none) (ha : PA X [a] ta) (hn : ("enumerate" : Str) ≠ "__name__") (hdb : (("enumerate" : Str) == ("__debug__" : Str)) = false) (hs : starEach [a] X.env = [(false, eval a X.env)] := by rfl) :
    PI X (.Tuple elts c1 tp) (.Call (.Name "enumerate" p) [a] [] pos) (iEnum X.K ta) := by
  intro pins s σ H R I h
  refine Call_ (ld_blt I hg hm boot_enumerate (PyProof.Rows.callWith_type1 (thn (ha pos pins s σ H _ I h) fun us s1 ⟨vs, H1, I1, r1, q1⟩ => ?_) hs rfl) hn hdb)
  obtain ⟨l, e, ⟨xs, hq⟩, q⟩ := q1
  subst e
  obtain ⟨u, rfl, ru⟩ := vals1 r1
  cases ru
  obtain ⟨its, rv, pl, hz⟩ := I1.list hq
  refine call_enumerate_list pl.isList fun h' he hit hsz hk => ?_
  refine wpAny_pyIter_enum (s := { s1 with heap := h' }) he ?_
  have I2 : Inv X pins σ H1 { s1 with heap := h' } := I1.kept (t' := s1.toks) hk
  refine ⟨s1.heap.objs.size + 1, [s1.heap.objs.size + 1, s1.heap.objs.size], _, _, H1, rfl, I2, turn_enum l (s1.heap.objs.size + 1) s1.heap.objs.size (Nat.succ_ne_self _), ⟨⟨_, he⟩, hit⟩, fun b hb => ?_, q⟩
  have e : b = s1.heap.objs.size + 1 ∨ b = s1.heap.objs.size := by simpa using hb
  rcases e with rfl | rfl
  · exact I1.fpOk (Nat.le_succ _) (I1.hok.fresh (Nat.le_succ _))
  · exact I1.fpOk (Nat.le_refl _) (I1.hok.fresh (Nat.le_refl _))
end
end L2
end
section
set_option Elab.async false
set_option linter.all false
set_option maxRecDepth 100000
namespace DL
open PySem L2
variable {K : PySem.W.Frag}
def ItIs2 (K : PySem.W.Frag) (S : Addr → Prop) (J : It) (H : Hp) (ds : List PyData) : Prop := ∀ (S2 : Addr → Prop) (H2 : Hp), Keep S H S2 H2 → (∀ a, H2 a = none → ¬ S2 a) → (∀ (i : Nat) (d : PyData), ds[i]? = some d → J.go i H2 ∧ ∀ x H3, J.yld i H2 x H3 → Same H2 H3 ∧ Is K (hid S2 H3) d x) ∧ ∀ i, ds.length ≤ i → J.stop i H2
structure IT2 (K : PySem.W.Frag) (wi : TI) (f : DI) : Prop where
  like : ∀ τ ds τ', f τ = some (ds, τ') → Like τ τ'
  run : ∀ S M τ σ H (Q : It → Hp → Prop) ds τ', R K S M τ σ H → f τ = some (ds, τ') → (∀ J H', R K S M τ' σ H' → Chg M H H' → ItIs2 K S J H' ds → Q J H') → wi σ H Q
def enumD (k : Nat) : List PyData → List PyData
  | [] => []
  | d :: r => .tuple [.int k, d] :: enumD (k + 1) r
theorem enumD_len : ∀ (k : Nat) (ds : List PyData), (enumD k ds).length = ds.length
  | _, [] => rfl
  | k, _ :: r => by rw [enumD, List.length_cons, List.length_cons, enumD_len]
theorem enumD_get : ∀ {k : Nat} {ds : List PyData} {i : Nat} {x : PyData}, (enumD k ds)[i]? = some x → ∃ d, ds[i]? = some d ∧ x = .tuple [.int ((k + i : Nat) : Int), d]
  | _, [], i, _, e => by simp [enumD] at e
  | k, d :: r, 0, x, e => by simp [enumD] at e; exact ⟨d, rfl, e.symm⟩
  | k, d :: r, i + 1, x, e => by
    rw [enumD, List.getElem?_cons_succ] at e
    obtain ⟨d', h1, h2⟩ := enumD_get e
    exact ⟨d', by rw [List.getElem?_cons_succ]; exact h1, by rw [h2, show k + 1 + i = k + (i + 1) by omega]⟩
def dIE (f : DX) (τ : DS) : Option (List PyData × DS) := (f τ).bind fun p => match p.1 with
  | .list ds => some (enumD 0 ds, p.2)
  | _ => none
theorem it_enum {fr : Bool} {t : TE} {f : DX} (h : E K t fr f) : IT2 K (iEnum K (tCons t tNil)) (dIE f) := by
  refine ⟨fun τ d τ' e => ?_, ?_⟩
  · unfold dIE at e
    obtain ⟨⟨x, τ1⟩, e1, e⟩ := Option.bind_eq_some_iff.mp e
    dsimp only at e
    split at e
    · cases e; exact h.like _ _ _ e1
    · cases e
  intro S M τ σ H Q ds τ' r e q
  unfold dIE at e
  obtain ⟨⟨x, τ1⟩, e1, e⟩ := Option.bind_eq_some_iff.mp e
  cases x with
  | list ds =>
    cases e
    refine h.weak.run S M τ σ H _ _ _ r e1 fun v H1 r1 c1 i1 => ?_
    have i1' : Is K (hid S H1) (.list ds) v := i1
    obtain ⟨a, vs, rfl, hl, ll⟩ := i1'
    refine ⟨a, rfl, ⟨vs, SqL.of (hid_iff.mp hl).2⟩, q _ H1 r1 c1 fun S2 H2 k nS => ?_⟩
    have hl2 := k.same _ _ hl
    have ll2 := ll.mono k.same
    refine ⟨fun i d e => ?_, fun i hi => ⟨vs, SqL.of (hid_iff.mp hl2).2, by rw [ll.length]; rw [enumD_len] at hi; exact hi⟩⟩
    obtain ⟨d', e', rfl⟩ := enumD_get e
    obtain ⟨u, h1, h2⟩ := ll2.get e'
    refine ⟨⟨vs, u, SqL.of (hid_iff.mp hl2).2, h1⟩, ?_⟩
    rintro x H3 ⟨p, v, hp, rfl, y, rfl⟩
    have := y vs (SqL.of (hid_iff.mp hl2).2)
    rw [h1] at this; cases this
    have s := same_new hp (HO.tup [.int i, u])
    refine ⟨s, ⟨p, [.int i, u], rfl, .inl (.inl (hid_iff.mpr ⟨nS p hp, upd_same⟩)), ?_⟩⟩
    rw [Nat.zero_add]
    exact ⟨_, _, rfl, rfl, _, _, rfl, h2.mono (Same.keep s).same, rfl⟩
  | _ => cases e
theorem b_for2 {np : Nat} {fr : Bool} {wi : TI} {tg : TG} {tb : TS} {it : DI} {g : DG} {b : DB} (hi : IT2 K wi it) (hg : TG1 K tg g) (hb : B K np tb fr b) : B K np (tFor wi tg tb) fr (dFor it g b) := by
  intro F S M τ σ H D out hnp f ee q
  unfold dFor at ee
  obtain ⟨⟨ds, τ1⟩, e1, ee⟩ := Option.bind_eq_some_iff.mp ee
  refine hi.run S M τ σ H _ ds τ1 f.r e1 fun J H1 r1 c1 iJ => ?_
  have f1 := f.step r1 c1 (hi.like _ _ _ e1)
  have q1 := q.trans (c1.keep f.r.sub)
  refine ⟨fun i m σ' H' => m = ds.length - i ∧ i ≤ ds.length ∧ ∃ S' M' τ', RF K F S' M' τ' σ' H' ∧ Keep S H1 S' H' ∧ dLoop g b (ds.drop i) τ' = some out, ⟨ds.length, by simp, Nat.zero_le _, S, M, τ1, f1, .refl, by simpa using ee⟩, ?_⟩
  rintro i m σ' H' ⟨rfl, hil, S', M', τ', f', k', hl⟩
  obtain ⟨I1, I2⟩ := iJ _ _ k' (fun _ => f'.r.fresh)
  by_cases hlt : i < ds.length
  · right
    have ed : ds[i]? = some ds[i] := List.getElem?_eq_getElem hlt
    obtain ⟨go, yl⟩ := I1 i _ ed
    refine ⟨go, fun σ2 H2 => ∃ S2 M2 τ2, RF K F S2 M2 τ2 σ2 H2 ∧ Keep S H1 S2 H2 ∧ dLoop g b (ds.drop (i + 1)) τ2 = some out, fun σ2 H2 h => ⟨ds.length - (i + 1), by omega, rfl, hlt, h⟩, fun x H2 y => ?_⟩
    obtain ⟨sm, ix⟩ := yl x H2 y
    have f' := f'.step (f'.r.same sm) (.of sm) .refl
    have k' := k'.trans (Same.keep sm)
    rw [List.drop_eq_getElem_cons hlt, dLoop] at hl
    obtain ⟨τ2, e2, hl⟩ := Option.bind_eq_some_iff.mp hl
    obtain ⟨o, e3, hl⟩ := Option.bind_eq_some_iff.mp hl
    refine hg.run S' M' τ' σ' H2 x _ τ2 _ f'.r ix e2 fun σ3 r3 k3 => ?_
    have f3 := f'.stay r3 (hg.ms _ _ _ e2) k3
    refine hb F S' M' τ2 σ3 H2 _ o hnp f3 e3 ?_
    cases o with
    | nx τ4 => exact fun S4 M4 σ4 H4 f4 k4 => ⟨S4, M4, τ4, f4, k'.trans k4, hl⟩
    | ct τ4 => exact fun S4 M4 σ4 H4 f4 k4 => ⟨S4, M4, τ4, f4, k'.trans k4, hl⟩
    | bk τ4 => cases hl; exact fun S4 M4 σ4 H4 f4 k4 => q1 S4 M4 σ4 H4 f4 (k'.trans k4)
    | rt d τ4 => cases hl; exact fun S4 M4 σ4 H4 v f4 k4 => q1 S4 M4 σ4 H4 v f4 k4
  · left
    have e : i = ds.length := by omega
    subst e
    rw [List.drop_length, dLoop] at hl
    cases hl
    exact ⟨I2 _ (Nat.le_refl _), q1 S' M' σ' H' f' k'⟩
end DL
end
section
set_option Elab.async false
set_option linter.all false
set_option maxRecDepth 100000
namespace DL
open PySem L2 PyProof.Rows
variable {K : PySem.W.Frag}
end DL
end
section
set_option Elab.async false
set_option linter.all false
set_option maxRecDepth 100000
namespace DL
open PySem L2
variable {K : PySem.W.Frag}
end DL
end
section
set_option Elab.async false
set_option linter.all false
namespace Stb
open PySem
def F : Nat → Nat → Nat
  | 0, x => x
  | n + 1, x => F n (5 * x + 1)
theorem F_add : ∀ (a b x : Nat), F (a + b) x = F b (F a x)
  | 0, b, x => by rw [Nat.zero_add]; rfl
  | a + 1, b, x => by rw [show a + 1 + b = (a + b) + 1 by omega]; exact F_add a b _
theorem F4 : ∀ (n x : Nat), 4 * F n x + 1 = 5 ^ n * (4 * x + 1)
  | 0, x => by simp [F]
  | n + 1, x => by
    rw [F, F4 n, Nat.pow_succ, Nat.mul_assoc]
    congr 1
    omega
theorem five : ∀ k : Nat, ∃ q, 5 ^ (2 ^ k) = 1 + 2 ^ k * (4 * (2 * q + 1))
  | 0 => ⟨0, by decide⟩
  | k + 1 => by
    obtain ⟨q, e⟩ := five k
    refine ⟨q + 2 ^ k * ((2 * q + 1) * (2 * q + 1)), ?_⟩
    rw [Nat.pow_succ 2 k, Nat.pow_mul, e]
    generalize 2 ^ k = P
    grind
theorem F2k (k z : Nat) : ∃ r, F (2 ^ k) z = z + 2 ^ k * (2 * r + 1) := by
  obtain ⟨q, e⟩ := five k
  have h := F4 (2 ^ k) z
  rw [e] at h
  refine ⟨4 * q * z + q + 2 * z, ?_⟩
  generalize 2 ^ k = P at *
  generalize F P z = f at *
  grind
theorem hit : ∀ (k x y : Nat), ∃ n, n < 2 ^ k ∧ F n x % 2 ^ k = y % 2 ^ k
  | 0, x, y => ⟨0, by decide, by simp [Nat.mod_one]⟩
  | k + 1, x, y => by
    obtain ⟨n, hn, e⟩ := hit k x y
    have hp : 2 ^ (k + 1) = 2 ^ k + 2 ^ k := by rw [Nat.pow_succ]; omega
    by_cases c : F n x % 2 ^ (k + 1) = y % 2 ^ (k + 1)
    · exact ⟨n, by omega, c⟩
    · refine ⟨n + 2 ^ k, by omega, ?_⟩
      rw [F_add]
      obtain ⟨r, er⟩ := F2k k (F n x)
      rw [er]
      have h1 : F n x % 2 ^ (k + 1) % 2 ^ k = y % 2 ^ (k + 1) % 2 ^ k := by
        rw [Nat.mod_mod_of_dvd _ ⟨2, by rw [Nat.pow_succ]⟩, Nat.mod_mod_of_dvd _ ⟨2, by rw [Nat.pow_succ]⟩]; exact e
      have e2 : F n x + 2 ^ k * (2 * r + 1) = F n x + 2 ^ k + 2 ^ (k + 1) * r := by
        rw [hp]; generalize 2 ^ k = P; grind
      rw [e2, Nat.add_mul_mod_self_left, Nat.add_mod]
      have hP : 0 < 2 ^ k := Nat.pow_pos (by decide)
      rw [hp] at *
      generalize 2 ^ k = P at *
      have l1 := Nat.mod_lt (F n x) (show P + P > 0 by omega)
      have l2 := Nat.mod_lt y (show P + P > 0 by omega)
      generalize F n x % (P + P) = a at *
      generalize y % (P + P) = b at *
      rw [Nat.mod_eq_of_lt (show P < P + P by omega)]
      have m1 := Nat.div_add_mod a P
      have m2 := Nat.div_add_mod b P
      rw [h1] at m1
      have d1 : a / P < 2 := Nat.div_lt_of_lt_mul (show a < P * 2 by rw [Nat.mul_two]; exact l1)
      have d2 : b / P < 2 := Nat.div_lt_of_lt_mul (show b < P * 2 by rw [Nat.mul_two]; exact l2)
      generalize a / P = u at *
      generalize b / P = v at *
      generalize b % P = w at *
      have c1 : u = 0 ∨ u = 1 := by omega
      have c2 : v = 0 ∨ v = 1 := by omega
      rcases c1 with c1 | c1 <;> rcases c2 with c2 | c2 <;> rw [c1] at m1 <;> rw [c2] at m2 <;> simp only [Nat.mul_zero, Nat.mul_one, Nat.zero_add] at m1 m2
      · exact absurd (m1.symm.trans m2) c
      · rw [Nat.mod_eq_of_lt (by omega)]; omega
      · rw [show a + P = b + (P + P) by omega, Nat.add_mod_right, Nat.mod_eq_of_lt (by omega)]
      · exact absurd (m1.symm.trans m2) c
end Stb
end
section
set_option Elab.async false
set_option linter.all false
namespace Stb
open PySem SetTable
def st (m : Nat) (h : Int) : Probe := { j := bits h % (m + 1), more := runEnd m (bits h % (m + 1)) - bits h % (m + 1), i := bits h % (m + 1), perturb := bits h, dummy := none }
def ad (m : Nat) (p : Probe) : Probe :=
  if p.more > 0 then { p with j := p.j + 1, more := p.more - 1 } else
  { p with j := (leap m p.i p.perturb).1, more := runEnd m (leap m p.i p.perturb).1 - (leap m p.i p.perturb).1, i := (leap m p.i p.perturb).1, perturb := (leap m p.i p.perturb).2 }
def it (m : Nat) (h : Int) : Nat → Probe
  | 0 => st m h
  | n + 1 => ad m (it m h n)
def pt (m : Nat) (h : Int) (n : Nat) : Nat := (it m h n).j
theorem runEnd_le {m i : Nat} (h : i ≤ m) : runEnd m i ≤ m := by unfold runEnd; split <;> omega
theorem le_runEnd {m i : Nat} : i ≤ runEnd m i := by unfold runEnd; split <;> omega
theorem runEnd_9 {m i : Nat} : runEnd m i ≤ i + 9 := by unfold runEnd; split <;> omega
theorem leap_le (m i p : Nat) : (leap m i p).1 ≤ m := Nat.le_of_lt_succ (Nat.mod_lt _ (Nat.succ_pos m))
structure Okp (m : Nat) (p : Probe) : Prop where
  i : p.i ≤ m
  j : p.j + p.more = runEnd m p.i
  d : p.dummy = none
theorem okp_st (m : Nat) (h : Int) : Okp m (st m h) := by
  have e : bits h % (m + 1) ≤ m := Nat.le_of_lt_succ (Nat.mod_lt _ (Nat.succ_pos m))
  refine ⟨e, ?_, rfl⟩
  have := @le_runEnd m (bits h % (m + 1))
  show bits h % (m + 1) + (runEnd m (bits h % (m + 1)) - bits h % (m + 1)) = _
  show _ = runEnd m (bits h % (m + 1))
  omega
theorem okp_ad {m : Nat} {p : Probe} (o : Okp m p) : Okp m (ad m p) := by
  unfold ad
  by_cases c : p.more > 0
  · rw [if_pos c]
    refine ⟨o.i, ?_, o.d⟩
    have := o.j
    show p.j + 1 + (p.more - 1) = runEnd m p.i
    omega
  · rw [if_neg c]
    refine ⟨leap_le _ _ _, ?_, o.d⟩
    have := @le_runEnd m (leap m p.i p.perturb).1
    show (leap m p.i p.perturb).1 + (runEnd m (leap m p.i p.perturb).1 - (leap m p.i p.perturb).1) = runEnd m (leap m p.i p.perturb).1
    omega
theorem okp_it (m : Nat) (h : Int) : ∀ n, Okp m (it m h n)
  | 0 => okp_st m h
  | n + 1 => okp_ad (okp_it m h n)
theorem pt_le (m : Nat) (h : Int) (n : Nat) : pt m h n ≤ m := by
  have o := okp_it m h n
  have := runEnd_le o.i
  have := o.j
  unfold pt; omega
def R (m : Nat) (h : Int) : Nat → Nat × Nat
  | 0 => (bits h % (m + 1), bits h)
  | r + 1 => leap m (R m h r).1 (R m h r).2
def rd (m : Nat) (x : Nat × Nat) (k : Nat) : Probe := { j := x.1 + k, more := runEnd m x.1 - x.1 - k, i := x.1, perturb := x.2, dummy := none }
def N (m : Nat) (h : Int) : Nat → Nat
  | 0 => 0
  | r + 1 => N m h r + (runEnd m (R m h r).1 - (R m h r).1) + 1
theorem R_le (m : Nat) (h : Int) : ∀ r, (R m h r).1 ≤ m
  | 0 => Nat.le_of_lt_succ (Nat.mod_lt _ (Nat.succ_pos m))
  | r + 1 => leap_le _ _ _
theorem in_round {m : Nat} {h : Int} {n : Nat} {x : Nat × Nat} (e : it m h n = rd m x 0) : ∀ k, k ≤ runEnd m x.1 - x.1 → it m h (n + k) = rd m x k
  | 0, _ => e
  | k + 1, hk => by
    show ad m (it m h (n + k)) = _
    rw [in_round e k (by omega)]
    unfold ad rd
    rw [if_pos (by show runEnd m x.1 - x.1 - k > 0; omega)]
    show Probe.mk (x.1 + k + 1) (runEnd m x.1 - x.1 - k - 1) x.1 x.2 none = Probe.mk (x.1 + (k + 1)) (runEnd m x.1 - x.1 - (k + 1)) x.1 x.2 none
    rw [Nat.sub_sub, Nat.add_assoc]
theorem it_N (m : Nat) (h : Int) : ∀ r, it m h (N m h r) = rd m (R m h r) 0
  | 0 => rfl
  | r + 1 => by
    show ad m (it m h (N m h r + (runEnd m (R m h r).1 - (R m h r).1))) = _
    rw [in_round (it_N m h r) _ (Nat.le_refl _)]
    unfold ad rd
    rw [if_neg (by show ¬ (runEnd m (R m h r).1 - (R m h r).1 - (runEnd m (R m h r).1 - (R m h r).1) > 0); omega)]
    rfl
theorem pt_N (m : Nat) (h : Int) (r : Nat) : pt m h (N m h r) = (R m h r).1 := by unfold pt; rw [it_N]; rfl
theorem pt_round {m : Nat} {h : Int} {r k : Nat} (hk : k ≤ runEnd m (R m h r).1 - (R m h r).1) : pt m h (N m h r + k) = (R m h r).1 + k := by
  unfold pt; rw [in_round (it_N m h r) k hk]; rfl
theorem N_le (m : Nat) (h : Int) : ∀ r, N m h r ≤ 10 * r
  | 0 => Nat.le_refl _
  | r + 1 => by
    have a := N_le m h r
    have b := @runEnd_9 m (R m h r).1
    have c := @le_runEnd m (R m h r).1
    show N m h r + (runEnd m (R m h r).1 - (R m h r).1) + 1 ≤ _
    omega
theorem R_two (m : Nat) (h : Int) : ∀ r, (R m h r).2 = bits h / 32 ^ r
  | 0 => by show bits h = _; simp
  | r + 1 => by
    show (R m h r).2 / 32 = _
    rw [R_two m h r, Nat.div_div_eq_div_mul, Nat.pow_succ]
theorem bits_lt (h : Int) : bits h < 2 ^ 64 := by
  unfold bits
  have a := Int.emod_nonneg h (show (2 ^ 64 : Int) ≠ 0 by decide)
  have b := Int.emod_lt_of_pos h (show (0 : Int) < 2 ^ 64 by decide)
  have : (2 : Int) ^ 64 = 18446744073709551616 := by decide
  have : (2 : Nat) ^ 64 = 18446744073709551616 := by decide
  omega
theorem R_zero (m : Nat) (h : Int) (n : Nat) : (R m h (13 + n)).2 = 0 := by
  rw [R_two]
  refine Nat.div_eq_of_lt (Nat.lt_of_lt_of_le (bits_lt h) ?_)
  rw [Nat.pow_add]
  exact Nat.le_trans (by decide) (Nat.le_mul_of_pos_right _ (Nat.pow_pos (by decide)))
theorem F_succ (n x : Nat) : F (n + 1) x = 5 * F n x + 1 := by rw [F_add n 1]; rfl
theorem R_tail (m : Nat) (h : Int) : ∀ n, (R m h (12 + n)).1 = F n (R m h 12).1 % (m + 1)
  | 0 => by
    show (R m h 12).1 = (R m h 12).1 % (m + 1)
    rw [Nat.mod_eq_of_lt (Nat.lt_succ_of_le (R_le m h 12))]
  | n + 1 => by
    have z := R_zero m h n
    rw [show 13 + n = (12 + n) + 1 by omega] at z
    have z : (R m h (12 + n)).2 / 32 = 0 := z
    show ((R m h (12 + n)).1 * 5 + 1 + (R m h (12 + n)).2 / 32) % (m + 1) = _
    rw [z, R_tail m h n, F_succ, Nat.add_zero, Nat.mul_comm 5, Nat.add_mod, Nat.mul_mod, Nat.mod_mod, ← Nat.mul_mod, ← Nat.add_mod]
theorem round_hit {m k : Nat} (hm : m + 1 = 2 ^ k) (h : Int) {y : Nat} (hy : y ≤ m) : ∃ r, r ≤ 12 + m ∧ (R m h r).1 = y := by
  obtain ⟨n, hn, e⟩ := hit k (R m h 12).1 y
  refine ⟨12 + n, by omega, ?_⟩
  rw [R_tail, hm, e]
  exact Nat.mod_eq_of_lt (by omega)
theorem pt_hit {m k : Nat} (hm : m + 1 = 2 ^ k) (h : Int) {y : Nat} (hy : y ≤ m) : ∃ n, n ≤ 10 * (m + 12) ∧ pt m h n = y := by
  obtain ⟨r, hr, e⟩ := round_hit hm h hy
  refine ⟨N m h r, ?_, (pt_N m h r).trans e⟩
  have := N_le m h r
  omega
end Stb
end
section
set_option Elab.async false
set_option linter.all false
namespace Stb
open PySem SetTable
def Rising (xs : Array Nat) : Prop := xs.toList.Pairwise (· < ·)
theorem Rising.lt {xs : Array Nat} (r : Rising xs) {a b : Nat} (hab : a < b) (hb : b < xs.size) : xs.getD a 0 < xs.getD b 0 := by
  have P := List.pairwise_iff_getElem.mp r a b (by simpa using Nat.lt_trans hab hb) (by simpa using hb) hab
  have ha := Nat.lt_trans hab hb
  simpa [Array.getD, ha, hb] using P
theorem below_go {xs : Array Nat} (r : Rising xs) (j : Nat) : ∀ (f lo hi : Nat), lo ≤ hi → hi ≤ xs.size → hi - lo ≤ f → (∀ a, a < lo → xs.getD a 0 < j) → (∀ a, hi ≤ a → a < xs.size → j ≤ xs.getD a 0) →
    below.go xs j f lo hi ≤ xs.size ∧ (∀ a, a < below.go xs j f lo hi → xs.getD a 0 < j) ∧ (∀ a, below.go xs j f lo hi ≤ a → a < xs.size → j ≤ xs.getD a 0)
  | 0, lo, hi, h1, h2, h3, h4, h5 => by
    have : lo = hi := by omega
    subst this
    exact ⟨h2, h4, h5⟩
  | f + 1, lo, hi, h1, h2, h3, h4, h5 => by
    unfold below.go
    by_cases c : lo < hi
    · rw [if_pos c]
      show (if xs.getD ((lo + hi) / 2) j < j then below.go xs j f ((lo + hi) / 2 + 1) hi else below.go xs j f lo ((lo + hi) / 2)) ≤ _ ∧ (∀ a, a < (if xs.getD ((lo + hi) / 2) j < j then below.go xs j f ((lo + hi) / 2 + 1) hi else below.go xs j f lo ((lo + hi) / 2)) → _) ∧ (∀ a, (if xs.getD ((lo + hi) / 2) j < j then below.go xs j f ((lo + hi) / 2 + 1) hi else below.go xs j f lo ((lo + hi) / 2)) ≤ a → _)
      have hm : (lo + hi) / 2 < xs.size := by omega
      have e : xs.getD ((lo + hi) / 2) j = xs.getD ((lo + hi) / 2) 0 := by simp [Array.getD, hm]
      rw [e]
      by_cases d : xs.getD ((lo + hi) / 2) 0 < j
      · rw [if_pos d]
        refine below_go r j f _ hi (by omega) h2 (by omega) (fun a ha => ?_) h5
        rcases Nat.lt_or_ge a ((lo + hi) / 2) with q | q
        · exact Nat.lt_trans (r.lt q hm) d
        · rw [show a = (lo + hi) / 2 by omega]; exact d
      · rw [if_neg d]
        refine below_go r j f lo _ (by omega) (by omega) (by omega) h4 (fun a ha hs => ?_)
        rcases Nat.lt_or_ge ((lo + hi) / 2) a with q | q
        · have := r.lt q hs; omega
        · rw [show a = (lo + hi) / 2 by omega]; omega
    · rw [if_neg c]
      have : lo = hi := by omega
      subst this
      exact ⟨h2, h4, h5⟩
theorem below_spec {xs : Array Nat} (r : Rising xs) (j : Nat) : below xs j ≤ xs.size ∧ (∀ a, a < below xs j → xs.getD a 0 < j) ∧ (∀ a, below xs j ≤ a → a < xs.size → j ≤ xs.getD a 0) :=
  below_go r j xs.size 0 xs.size (Nat.zero_le _) (Nat.le_refl _) (by omega) (fun a h => absurd h (Nat.not_lt_zero a)) (fun a h h' => absurd h (by omega))
theorem getD_get {xs : Array Nat} {a : Nat} (h : a < xs.size) : xs[a]? = some (xs.getD a 0) := by simp [Array.getD, h]
theorem below_mem {xs : Array Nat} (r : Rising xs) {j : Nat} (h : j ∈ xs.toList) : xs[below xs j]? = some j := by
  obtain ⟨a, ha, e⟩ := List.getElem_of_mem h
  have ha' : a < xs.size := by simpa using ha
  have ea : xs.getD a 0 = j := by simpa [Array.getD, ha'] using e
  obtain ⟨b1, b2, b3⟩ := below_spec r j
  have h1 : ¬ a < below xs j := fun c => by have := b2 a c; omega
  have h2 : ¬ below xs j < a := fun c => by
    have := b3 _ (Nat.le_refl _) (Nat.lt_trans c ha')
    have := r.lt c ha'
    omega
  have : below xs j = a := by omega
  rw [this, getD_get ha', ea]
theorem not_mem_below {xs : Array Nat} {j : Nat} (h : j ∉ xs.toList) : xs[below xs j]? ≠ some j := by
  intro e
  exact h (by rw [Array.mem_toList_iff]; exact Array.mem_of_getElem? e)
theorem slot_mem {t : SetTable} (r : Rising t.place) {j : Nat} (h : j ∈ t.place.toList) : t.slot j = .live (below t.place j) := by
  unfold SetTable.slot
  have := below_mem r h
  simp [this]
theorem slot_not {t : SetTable} (hd : t.dummies = #[]) {j : Nat} (h : j ∉ t.place.toList) : t.slot j = .empty := by
  unfold SetTable.slot
  have := not_mem_below h
  simp [this, hd, SetTable.has]
theorem insertAt_list {α : Type} (xs : Array α) (p : Nat) (x : α) : (insertAt xs p x).toList = xs.toList.take p ++ x :: xs.toList.drop p := by
  unfold insertAt
  simp [Array.toList_extract, List.extract]
  exact List.take_of_length_le (by simp)
theorem mem_insertAt {α : Type} (xs : Array α) (p : Nat) (x y : α) : y ∈ (insertAt xs p x).toList ↔ y = x ∨ y ∈ xs.toList := by
  rw [insertAt_list]
  have : xs.toList = xs.toList.take p ++ xs.toList.drop p := (List.take_append_drop p _).symm
  constructor
  · intro h
    rcases List.mem_append.mp h with h | h
    · exact .inr (List.mem_of_mem_take h)
    · rcases List.mem_cons.mp h with h | h
      · exact .inl h
      · exact .inr (List.mem_of_mem_drop h)
  · rintro (h | h)
    · subst h; exact List.mem_append_right _ List.mem_cons_self
    · rw [this] at h
      rcases List.mem_append.mp h with h | h
      · exact List.mem_append_left _ h
      · exact List.mem_append_right _ (List.mem_cons_of_mem _ h)
theorem size_insertAt {α : Type} (xs : Array α) (p : Nat) (x : α) : (insertAt xs p x).size = xs.size + 1 := by
  have : (insertAt xs p x).toList.length = xs.toList.length + 1 := by
    rw [insertAt_list, List.length_append, List.length_cons]
    have := congrArg List.length (List.take_append_drop p xs.toList)
    rw [List.length_append] at this
    omega
  simpa using this
theorem perm_insertAt {α : Type} (xs : Array α) (p : Nat) (x : α) : (insertAt xs p x).toList.Perm (x :: xs.toList) := by
  rw [insertAt_list]
  refine List.perm_middle.trans ?_
  rw [List.take_append_drop]
theorem rising_insert {xs : Array Nat} (r : Rising xs) {j : Nat} (h : j ∉ xs.toList) : Rising (insertAt xs (below xs j) j) := by
  unfold Rising
  rw [insertAt_list]
  obtain ⟨b1, b2, b3⟩ := below_spec r j
  have r' : (xs.toList.take (below xs j) ++ xs.toList.drop (below xs j)).Pairwise (· < ·) := by rw [List.take_append_drop]; exact r
  obtain ⟨p1, p2, p3⟩ := List.pairwise_append.mp r'
  have lo : ∀ a ∈ xs.toList.take (below xs j), a < j := by
    intro a ha
    obtain ⟨i, hi, e⟩ := List.getElem_of_mem ha
    rw [List.length_take] at hi
    have hi' : i < xs.size := by have : i < xs.toList.length := by omega
                                 simpa using this
    have := b2 i (by omega)
    rw [List.getElem_take] at e
    have e' : xs.getD i 0 = a := by simpa [Array.getD, hi'] using e
    omega
  have hi : ∀ a ∈ xs.toList.drop (below xs j), j < a := by
    intro a ha
    obtain ⟨i, hi, e⟩ := List.getElem_of_mem ha
    rw [List.length_drop] at hi
    rw [List.getElem_drop] at e
    have hl : xs.toList.length = xs.size := by simp
    have hi' : below xs j + i < xs.size := by omega
    have := b3 (below xs j + i) (by omega) hi'
    have e' : xs.getD (below xs j + i) 0 = a := by simpa [Array.getD, hi'] using e
    have : a ≠ j := fun z => h (by rw [← z]; exact List.mem_of_mem_drop ha)
    omega
  refine List.pairwise_append.mpr ⟨p1, List.pairwise_cons.mpr ⟨hi, p2⟩, fun a ha b hb => ?_⟩
  rcases List.mem_cons.mp hb with rfl | hb
  · exact lo a ha
  · exact p3 a ha b hb
theorem len_of_subset : ∀ {xs ys : List Nat}, xs.Nodup → (∀ x ∈ xs, x ∈ ys) → xs.length ≤ ys.length
  | [], ys, _, _ => Nat.zero_le _
  | x :: xs, ys, n, s => by
    have hx := s x List.mem_cons_self
    obtain ⟨n1, n2⟩ := List.nodup_cons.mp n
    have := len_of_subset (ys := ys.erase x) n2 (fun y hy => by
      have : y ≠ x := fun e => n1 (e ▸ hy)
      exact (List.mem_erase_of_ne this).mpr (s y (List.mem_cons_of_mem _ hy)))
    rw [List.length_erase_of_mem hx] at this
    have : 0 < ys.length := List.length_pos_of_mem hx
    simp only [List.length_cons]
    omega
theorem spare {m : Nat} {ps : List Nat} (h : ps.length ≤ m) : ∃ y, y ≤ m ∧ y ∉ ps := by
  by_cases c : ∃ y, y ≤ m ∧ y ∉ ps
  · exact c
  · have : (List.range (m + 1)).length ≤ ps.length := len_of_subset List.nodup_range (fun x hx => by
      by_cases d : x ∈ ps
      · exact d
      · exact absurd ⟨x, Nat.le_of_lt_succ (List.mem_range.mp hx), d⟩ c)
    rw [List.length_range] at this
    omega
def Fst (m : Nat) (ps : List Nat) (h : Int) (n : Nat) : Prop := pt m h n ∉ ps ∧ ∀ k, k < n → pt m h k ∈ ps
theorem least {P : Nat → Prop} (h : ∃ n, P n) : ∃ n, P n ∧ ∀ k, k < n → ¬ P k := by
  obtain ⟨n, hn⟩ := h
  induction n using Nat.strongRecOn with
  | _ n ih =>
    by_cases c : ∃ k, k < n ∧ P k
    · obtain ⟨k, h1, h2⟩ := c; exact ih k h1 h2
    · exact ⟨n, hn, fun k hk hp => c ⟨k, hk, hp⟩⟩
theorem fst_ex {m k : Nat} (hm : m + 1 = 2 ^ k) {ps : List Nat} (hl : ps.length ≤ m) (h : Int) : ∃ n, n ≤ 10 * (m + 12) ∧ Fst m ps h n := by
  obtain ⟨y, hy, hn⟩ := spare hl
  obtain ⟨n, h1, h2⟩ := pt_hit hm h hy
  obtain ⟨n', h3, h4⟩ := least (P := fun n => pt m h n ∉ ps) ⟨n, by rw [h2]; exact hn⟩
  refine ⟨n', ?_, h3, fun k hk => Classical.byContradiction (h4 k hk)⟩
  rcases Nat.lt_or_ge n n' with q | q
  · exact absurd (by rw [h2]; exact hn) (h4 n q)
  · omega
end Stb
end
section
set_option Elab.async false
set_option linter.all false
namespace Stb
open PySem SetTable
def Way (m : Nat) (ps : List Nat) (h : Int) (j : Nat) : Prop := ∃ n, pt m h n = j ∧ ∀ k, k < n → pt m h k ∈ ps
theorem Way.mono {m : Nat} {ps qs : List Nat} {h : Int} {j : Nat} (w : Way m ps h j) (s : ∀ x ∈ ps, x ∈ qs) : Way m qs h j := by
  obtain ⟨n, e, a⟩ := w
  exact ⟨n, e, fun k hk => s _ (a k hk)⟩
def Msk (m : Nat) : Prop := m = 7 ∨ m = 31 ∨ m = 127 ∨ m = 511 ∨ m = 2047 ∨ m = 8191
theorem Msk.pow {m : Nat} (h : Msk m) : ∃ k, m + 1 = 2 ^ k := by
  rcases h with h | h | h | h | h | h <;> subst h
  · exact ⟨3, by decide⟩
  · exact ⟨5, by decide⟩
  · exact ⟨7, by decide⟩
  · exact ⟨9, by decide⟩
  · exact ⟨11, by decide⟩
  · exact ⟨13, by decide⟩
theorem Msk.le {m : Nat} (h : Msk m) : m ≤ 8191 := by
  rcases h with h | h | h | h | h | h <;> subst h <;> decide
theorem Msk.odd {m : Nat} (h : Msk m) : m % 2 = 1 := by
  rcases h with h | h | h | h | h | h <;> subst h <;> decide
structure Inv0 (t : SetTable) (es : Array (Int × Value)) : Prop where
  msk : Msk t.mask
  dum : t.dummies = #[]
  rise : Rising t.place
  le : ∀ j ∈ t.place.toList, j ≤ t.mask
  size : t.place.size = es.size
  room : t.place.size ≤ t.mask
  way : ∀ q ∈ t.place.toList.zip es.toList, Way t.mask t.place.toList q.2.1 q.1
structure Inv (t : SetTable) (es : Array (Int × Value)) : Prop extends Inv0 t es where
  full : t.place.size * 5 < t.mask * 3
theorem Inv0.fill {t : SetTable} {es : Array (Int × Value)} (I : Inv0 t es) : t.fill = es.size := by
  unfold SetTable.fill; rw [I.dum, I.size]; rfl
theorem probe_go {t : SetTable} (rs : Rising t.place) (hd : t.dummies = #[]) (hash : Nat → Int) {h : Int} {e : Nat} (hF : Fst t.mask t.place.toList h e) :
    ∀ (f n : Nat), n ≤ e → e - n < f →
      (probe.go t hash h f (it t.mask h n) = some (.empty (pt t.mask h e) none) ∧ ∀ k, n ≤ k → k < e → hash (below t.place (pt t.mask h k)) ≠ h) ∨
      ∃ k, n ≤ k ∧ k < e ∧ hash (below t.place (pt t.mask h k)) = h ∧ probe.go t hash h f (it t.mask h n) = some (.candidate (pt t.mask h k) (below t.place (pt t.mask h k)) (it t.mask h (k + 1))) ∧ ∀ k', n ≤ k' → k' < k → hash (below t.place (pt t.mask h k')) ≠ h
  | 0, n, h1, h2 => absurd h2 (Nat.not_lt_zero _)
  | f + 1, n, h1, h2 => by
    unfold probe.go
    have hdn : (it t.mask h n).dummy = none := (okp_it t.mask h n).d
    rcases Nat.lt_or_ge n e with q | q
    · have hm := hF.2 n q
      have es : t.slot (it t.mask h n).j = .live (below t.place (pt t.mask h n)) := slot_mem rs hm
      rw [es]
      by_cases c : hash (below t.place (pt t.mask h n)) = h
      · refine .inr ⟨n, Nat.le_refl _, q, c, ?_, fun k' a b => absurd a (by omega)⟩
        show (if (hash (below t.place (pt t.mask h n)) == h) = true then _ else _) = _
        rw [if_pos (by rw [c]; exact beq_self_eq_true _)]
        rfl
      · have e2 : (if (hash (below t.place (pt t.mask h n)) == h) = true then some (Met.candidate (it t.mask h n).j (below t.place (pt t.mask h n)) (t.advance (it t.mask h n))) else probe.go t hash h f (t.advance (it t.mask h n))) = probe.go t hash h f (it t.mask h (n + 1)) := by
          rw [if_neg (by simpa using c)]; rfl
        rcases probe_go rs hd hash hF f (n + 1) q (by omega) with ⟨a, b⟩ | ⟨k, a, b, c', d, e'⟩
        · refine .inl ⟨e2.trans a, fun k hk hk' => ?_⟩
          rcases Nat.lt_or_ge n k with z | z
          · exact b k z hk'
          · rw [show k = n by omega]; exact c
        · refine .inr ⟨k, by omega, b, c', e2.trans d, fun k' hk hk' => ?_⟩
          rcases Nat.lt_or_ge n k' with z | z
          · exact e' k' z hk'
          · rw [show k' = n by omega]; exact c
    · have : n = e := by omega
      subst this
      have es : t.slot (it t.mask h n).j = .empty := slot_not hd hF.1
      rw [es]
      refine .inl ⟨?_, fun k a b => absurd a (by omega)⟩
      show some (Met.empty (it t.mask h n).j (it t.mask h n).dummy) = _
      rw [hdn]; rfl
theorem zip_insert {α β : Type} (xs : Array α) (ys : Array β) (e : xs.size = ys.size) (p : Nat) (x : α) (y : β) (q : α × β) (h : q ∈ (insertAt xs p x).toList.zip (insertAt ys p y).toList) : q = (x, y) ∨ q ∈ xs.toList.zip ys.toList := by
  rw [insertAt_list, insertAt_list] at h
  have el : (xs.toList.take p).length = (ys.toList.take p).length := by
    rw [List.length_take, List.length_take]; simp [e]
  rw [List.zip_append el, List.zip_cons_cons] at h
  have w : xs.toList.zip ys.toList = (xs.toList.take p).zip (ys.toList.take p) ++ (xs.toList.drop p).zip (ys.toList.drop p) := by
    rw [← List.zip_append el, List.take_append_drop, List.take_append_drop]
  rw [w]
  rcases List.mem_append.mp h with h | h
  · exact .inr (List.mem_append_left _ h)
  · rcases List.mem_cons.mp h with h | h
    · exact .inl h
    · exact .inr (List.mem_append_right _ h)
theorem put_eq {t : SetTable} (hd : t.dummies = #[]) (j : Nat) : t.put j = ({ t with place := insertAt t.place (below t.place j) j }, below t.place j) := by
  unfold SetTable.put
  have : has t.dummies j = false := by rw [hd]; simp [SetTable.has]
  simp [this]
theorem inv_put {t : SetTable} {es : Array (Int × Value)} (I : Inv t es) {h : Int} {x : Value} {n : Nat} (hF : Fst t.mask t.place.toList h n) :
    Inv0 { t with place := insertAt t.place (below t.place (pt t.mask h n)) (pt t.mask h n) } (insertAt es (below t.place (pt t.mask h n)) (h, x)) := by
  have f := I.full
  refine ⟨I.msk, I.dum, rising_insert I.rise hF.1, fun j hj => ?_, ?_, ?_, fun q hq => ?_⟩
  · rcases (mem_insertAt _ _ _ _).mp hj with e | e
    · rw [e]; exact pt_le _ _ _
    · exact I.le j e
  · rw [size_insertAt, size_insertAt, I.size]
  · show (insertAt t.place _ _).size ≤ t.mask
    rw [size_insertAt]; omega
  · have sub : ∀ z ∈ t.place.toList, z ∈ (insertAt t.place (below t.place (pt t.mask h n)) (pt t.mask h n)).toList := fun z hz => (mem_insertAt _ _ _ _).mpr (.inr hz)
    rcases zip_insert _ _ I.size _ _ _ q hq with e | e
    · subst e
      exact ⟨n, rfl, fun k hk => sub _ (hF.2 k hk)⟩
    · exact (I.way q e).mono sub
theorem met_all {t : SetTable} {es : Array (Int × Value)} (I : Inv0 t es) {h : Int} {e : Nat} (hF : Fst t.mask t.place.toList h e) {i : Nat} {x : Value} (hi : es[i]? = some (h, x)) : ∃ k, k < e ∧ below t.place (pt t.mask h k) = i := by
  have hs : i < es.size := (Array.getElem?_eq_some_iff.mp hi).1
  have hp : i < t.place.size := by rw [I.size]; exact hs
  have hm : (t.place[i], (h, x)) ∈ t.place.toList.zip es.toList := by
    refine List.mem_iff_getElem?.mpr ⟨i, ?_⟩
    rw [List.getElem?_zip_eq_some]
    refine ⟨by simp [hp], by rw [Array.getElem?_toList]; exact hi⟩
  obtain ⟨n, e1, e2⟩ := I.way _ hm
  have e1 : pt t.mask h n = t.place[i] := e1
  have hj : pt t.mask h n ∈ t.place.toList := by rw [e1]; simp
  have hne : n < e := by
    rcases Nat.lt_or_ge n e with q | q
    · exact q
    · rcases Nat.lt_or_ge e n with q' | q'
      · exact absurd (e2 e q') hF.1
      · rw [show n = e by omega] at hj; exact absurd hj hF.1
  refine ⟨n, hne, ?_⟩
  have b := below_mem I.rise hj
  rw [e1] at b ⊢
  have b1 := (Array.getElem?_eq_some_iff.mp b)
  obtain ⟨b2, b3⟩ := b1
  rcases Nat.lt_trichotomy (below t.place t.place[i]) i with q | q | q
  · have := I.rise.lt q hp
    simp [Array.getD, hp, b2] at this
    omega
  · exact q
  · have := I.rise.lt q b2
    simp [Array.getD, hp, b2] at this
    omega
end Stb
end
section
set_option Elab.async false
set_option linter.all false
namespace Stb
open PySem SetTable
structure Own (m : Nat) (ps : List Nat) (ow : Array (Option Nat)) : Prop where
  sz : ow.size = m + 1
  nd : ps.Nodup
  le : ∀ j ∈ ps, j ≤ m
  yes : ∀ (i j : Nat), ps[i]? = some j → ow[j]? = some (some i)
  no : ∀ (j : Nat), j ≤ m → j ∉ ps → ow[j]? = some none
theorem Own.none_iff {m : Nat} {ps : List Nat} {ow : Array (Option Nat)} (O : Own m ps ow) {j : Nat} (h : j ≤ m) : (ow.getD j (some 0)).isNone = true ↔ j ∉ ps := by
  by_cases c : j ∈ ps
  · obtain ⟨i, hi⟩ := List.mem_iff_getElem?.mp c
    have := O.yes i j hi
    rw [Array.getD_eq_getD_getElem?, this]
    simp [c]
  · have := O.no j h c
    rw [Array.getD_eq_getD_getElem?, this]
    simp [c]
theorem free_spec {m : Nat} {ps : List Nat} {ow : Array (Option Nat)} (O : Own m ps ow) (h : Int) : ∀ (f r : Nat), (∀ k, k < N m h r → pt m h k ∈ ps) → (∃ r', r ≤ r' ∧ r' < r + f ∧ (R m h r').1 ∉ ps) →
    ∃ n, layClean.free m ow f (R m h r).1 (R m h r).2 = some (pt m h n) ∧ Fst m ps h n
  | 0, r, _, ⟨r', a, b, _⟩ => absurd b (by omega)
  | f + 1, r, hb, ⟨r', a, b, c⟩ => by
    unfold layClean.free
    have hR := R_le m h r
    have hl := @le_runEnd m (R m h r).1
    have hu := runEnd_le hR
    cases e : (List.range (runEnd m (R m h r).1 + 1 - (R m h r).1)).find? fun k => (ow.getD ((R m h r).1 + k) (some 0)).isNone with
    | some k =>
      obtain ⟨e1, e2, e3⟩ := List.find?_range_eq_some.mp e
      have e2 := List.mem_range.mp e2
      have hk : k ≤ runEnd m (R m h r).1 - (R m h r).1 := by omega
      refine ⟨N m h r + k, ?_, ?_, fun k' hk' => ?_⟩
      · show some ((R m h r).1 + k) = _
        rw [pt_round hk]
      · rw [pt_round hk]; exact (O.none_iff (by omega)).mp e1
      · rcases Nat.lt_or_ge k' (N m h r) with q | q
        · exact hb k' q
        · have e4 := e3 (k' - N m h r) (by omega)
          have hk2 : k' - N m h r ≤ runEnd m (R m h r).1 - (R m h r).1 := by omega
          have e5 := pt_round (h := h) (r := r) hk2
          rw [show N m h r + (k' - N m h r) = k' by omega] at e5
          rw [e5]
          refine Classical.byContradiction fun z => ?_
          have := (O.none_iff (j := (R m h r).1 + (k' - N m h r)) (by omega)).mpr z
          rw [this] at e4; cases e4
    | none =>
      have e3 := List.find?_eq_none.mp e
      have all : ∀ k, k ≤ runEnd m (R m h r).1 - (R m h r).1 → (R m h r).1 + k ∈ ps := fun k hk => by
        refine Classical.byContradiction fun z => ?_
        exact e3 k (List.mem_range.mpr (by omega)) ((O.none_iff (j := (R m h r).1 + k) (by omega)).mpr z)
      have hb' : ∀ k, k < N m h (r + 1) → pt m h k ∈ ps := fun k hk => by
        rcases Nat.lt_or_ge k (N m h r) with q | q
        · exact hb k q
        · have hk : k < N m h r + (runEnd m (R m h r).1 - (R m h r).1) + 1 := hk
          have e5 := pt_round (m := m) (h := h) (r := r) (k := k - N m h r) (by omega)
          rw [show N m h r + (k - N m h r) = k by omega] at e5
          rw [e5]
          exact all _ (by omega)
      have hr' : r ≠ r' := fun z => by subst z; exact c (by simpa using all 0 (Nat.zero_le _))
      exact free_spec O h f (r + 1) hb' ⟨r', by omega, by omega, c⟩
theorem own_set {m : Nat} {ps : List Nat} {ow : Array (Option Nat)} (O : Own m ps ow) {j : Nat} (hj : j ≤ m) (hn : j ∉ ps) : Own m (ps ++ [j]) (ow.setIfInBounds j (some ps.length)) := by
  refine ⟨by simp [O.sz], ?_, ?_, ?_, ?_⟩
  · refine List.nodup_append.mpr ⟨O.nd, by simp, fun a ha b hb => ?_⟩
    simp at hb
    rw [hb]; exact fun z => hn (z ▸ ha)
  · intro x hx
    rcases List.mem_append.mp hx with hx | hx
    · exact O.le x hx
    · simp at hx; rw [hx]; exact hj
  · intro i x hx
    rcases Nat.lt_trichotomy i ps.length with q | q | q
    · rw [List.getElem?_append_left q] at hx
      have : x ≠ j := fun z => hn (z ▸ List.mem_of_getElem? hx)
      rw [Array.getElem?_setIfInBounds_ne (fun z => this z.symm)]
      exact O.yes i x hx
    · subst q
      rw [List.getElem?_append_right (Nat.le_refl _)] at hx
      simp at hx
      rw [← hx, Array.getElem?_setIfInBounds_self_of_lt (by rw [O.sz]; omega)]
    · rw [List.getElem?_append_right (by omega)] at hx
      have : [j][i - ps.length]? = none := List.getElem?_eq_none (by simp; omega)
      rw [this] at hx; cases hx
  · intro x hx hxn
    have h1 : x ∉ ps := fun z => hxn (List.mem_append_left _ z)
    have h2 : x ≠ j := fun z => hxn (List.mem_append_right _ (by simp [z]))
    rw [Array.getElem?_setIfInBounds_ne (fun z => h2 z.symm)]
    exact O.no x hx h1
theorem own_nil (m : Nat) : Own m [] (Array.replicate (m + 1) none) :=
  ⟨by simp, List.nodup_nil, fun j h => (List.not_mem_nil h).elim, fun i j h => (by cases h), fun j h _ => by rw [Array.getElem?_replicate, if_pos (by omega)]⟩
abbrev layStep (m : Nat) (acc : Option (Array (Option Nat) × Nat)) (h : Int) : Option (Array (Option Nat) × Nat) := do
    let (owner, k) ← acc
    let j ← layClean.free m owner (turns m) (bits h % (m + 1)) (bits h)
    pure (owner.setIfInBounds j (some k), k + 1)
theorem lay_fold {m kk : Nat} (hm : m + 1 = 2 ^ kk) : ∀ (hs done : List Int) (ps : List Nat) (ow : Array (Option Nat)), Own m ps ow → ps.length = done.length → done.length + hs.length ≤ m →
    (∀ (i : Nat) h (j : Nat), done[i]? = some h → ps[i]? = some j → Way m ps h j) →
    ∃ ps' ow', hs.foldl (layStep m) (some (ow, ps.length)) = some (ow', ps'.length) ∧ Own m ps' ow' ∧ ps'.length = done.length + hs.length ∧ (∀ (i : Nat) h (j : Nat), (done ++ hs)[i]? = some h → ps'[i]? = some j → Way m ps' h j)
  | [], done, ps, ow, O, hl, hb, hw => ⟨ps, ow, rfl, O, hl, by rw [List.append_nil]; exact hw⟩
  | h :: hs, done, ps, ow, O, hl, hb, hw => by
    simp only [List.length_cons] at hb
    obtain ⟨y, hy, hyn⟩ := spare (m := m) (ps := ps) (by omega)
    obtain ⟨r, hr, e⟩ := round_hit hm h hy
    obtain ⟨n, ef, hF⟩ := free_spec O h (turns m) 0 (fun k hk => absurd hk (Nat.not_lt_zero k)) ⟨r, Nat.zero_le _, by unfold turns; omega, by rw [e]; exact hyn⟩
    have ef : layClean.free m ow (turns m) (bits h % (m + 1)) (bits h) = some (pt m h n) := ef
    have es : layStep m (some (ow, ps.length)) h = some (ow.setIfInBounds (pt m h n) (some ps.length), (ps ++ [pt m h n]).length) := by
      show (layClean.free m ow (turns m) (bits h % (m + 1)) (bits h)).bind _ = _
      rw [ef]; simp
    have O' := own_set O (pt_le m h n) hF.1
    obtain ⟨ps', ow', a, b, c, d⟩ := lay_fold hm hs (done ++ [h]) (ps ++ [pt m h n]) _ O' (by simp [hl]) (by simp; omega) (fun i h' j h1 h2 => by
      have sub : ∀ z ∈ ps, z ∈ ps ++ [pt m h n] := fun z hz => List.mem_append_left _ hz
      rcases Nat.lt_trichotomy i done.length with q | q | q
      · rw [List.getElem?_append_left q] at h1
        rw [List.getElem?_append_left (by omega)] at h2
        exact (hw i h' j h1 h2).mono sub
      · subst q
        rw [List.getElem?_append_right (Nat.le_refl _)] at h1
        rw [List.getElem?_append_right (by omega), hl] at h2
        simp at h1 h2
        subst h1; subst h2
        exact ⟨n, rfl, fun k hk => sub _ (hF.2 k hk)⟩
      · rw [List.getElem?_append_right (by omega)] at h1
        have : [h][i - done.length]? = none := List.getElem?_eq_none (by simp; omega)
        rw [this] at h1; cases h1)
    refine ⟨ps', ow', ?_, b, by rw [c]; simp; omega, by rw [List.append_assoc] at d; exact d⟩
    rw [List.foldl_cons, es]; exact a
theorem layClean_eq (m : Nat) (hs : Array Int) : layClean m hs = (hs.toList.foldl (layStep m) (some (Array.replicate (m + 1) none, 0))).map (·.1) := by
  unfold layClean
  rw [Array.foldl_toList]
theorem range_get {α : Type} (xs : List α) : (List.range xs.length).filterMap (fun i => xs[i]?) = xs := by
  induction xs with
  | nil => rfl
  | cons x xs ih =>
    rw [List.length_cons, List.range_succ_eq_map, List.filterMap_cons]
    simp only [List.getElem?_cons_zero]
    rw [List.filterMap_map]
    exact congrArg (x :: ·) ih
theorem laid_spec {m kk : Nat} (hm : m + 1 = 2 ^ kk) (hk : Msk m) (fi mo : Nat) (led plain : Bool) (es : Array (Int × Value)) (hl : es.size ≤ m) :
    ∃ t' order, laid m fi mo led plain (es.map (·.1)) = some (t', order) ∧ t'.led = led ∧ t'.mask = m ∧ t'.plain = plain ∧ Inv0 t' (order.filterMap (es[·]?)) ∧ (order.filterMap (es[·]?)).toList.Perm es.toList := by
  obtain ⟨ps, ow, a, O, c, d⟩ := lay_fold hm (es.map (·.1)).toList [] [] _ (own_nil m) rfl (by simpa using hl) (fun i h j h1 => by cases h1)
  have hc : layClean m (es.map (·.1)) = some ow := by
    rw [layClean_eq]
    have a : List.foldl (layStep m) (some (Array.replicate (m + 1) none, 0)) (es.map (·.1)).toList = some (ow, ps.length) := a
    rw [a]; rfl
  have hpl : ps.length = es.size := by rw [c]; simp
  let live := (List.range (m + 1)).filterMap fun j => (ow.getD j none).map (j, ·)
  have hlive : ∀ j i, (j, i) ∈ live ↔ ps[i]? = some j := by
    intro j i
    constructor
    · intro h
      obtain ⟨j', h1, h2⟩ := List.mem_filterMap.mp h
      have h1 := List.mem_range.mp h1
      obtain ⟨i', h3, h4⟩ := Option.map_eq_some_iff.mp h2
      obtain ⟨rfl, rfl⟩ := Prod.mk.inj h4
      by_cases q : j' ∈ ps
      · obtain ⟨i2, q2⟩ := List.mem_iff_getElem?.mp q
        have := O.yes i2 j' q2
        rw [Array.getD_eq_getD_getElem?, this] at h3
        simp at h3
        rw [← h3]; exact q2
      · have := O.no j' (by omega) q
        rw [Array.getD_eq_getD_getElem?, this] at h3
        simp at h3
    · intro h
      refine List.mem_filterMap.mpr ⟨j, List.mem_range.mpr (Nat.lt_succ_of_le (O.le j (List.mem_of_getElem? h))), ?_⟩
      rw [Array.getD_eq_getD_getElem?, O.yes i j h]; rfl
  have hr1 : (live.map (·.1)).Pairwise (· < ·) := by
    rw [List.pairwise_map]
    refine List.pairwise_filterMap.mpr ((List.pairwise_lt_range).imp ?_)
    intro a b hab x hx y hy
    obtain ⟨_, _, rfl⟩ := Option.map_eq_some_iff.mp hx
    obtain ⟨_, _, rfl⟩ := Option.map_eq_some_iff.mp hy
    exact hab
  have hnd : (live.map (·.2)).Nodup := by
    show (live.map (·.2)).Pairwise (· ≠ ·)
    rw [List.pairwise_map]
    have : live.Pairwise (fun x y => x.1 < y.1) := List.pairwise_map.mp hr1
    refine (List.Pairwise.and_mem.mp this).imp ?_
    rintro ⟨x1, x2⟩ ⟨y1, y2⟩ ⟨hx, hy, hlt⟩ e
    have e : x2 = y2 := e
    have hx := (hlive _ _).mp hx
    have hy := (hlive _ _).mp hy
    rw [e, hy] at hx
    have : y1 = x1 := Option.some.inj hx
    have hlt : x1 < y1 := hlt
    omega
  have hperm : (live.map (·.2)).Perm (List.range es.size) := by
    refine (List.perm_ext_iff_of_nodup hnd List.nodup_range).mpr fun i => ?_
    constructor
    · intro h
      obtain ⟨⟨j, i'⟩, h1, rfl⟩ := List.mem_map.mp h
      have := (hlive _ _).mp h1
      rw [← hpl]
      exact List.mem_range.mpr (List.getElem?_eq_some_iff.mp this).1
    · intro h
      have h := List.mem_range.mp h
      rw [← hpl] at h
      exact List.mem_map.mpr ⟨(ps[i], i), (hlive _ _).mpr (List.getElem?_eq_getElem h), rfl⟩
  have hes : (((live.map (·.2)).toArray).filterMap (es[·]?)).toList = (live.map (·.2)).filterMap (fun i => es.toList[i]?) := by
    simp
  have hp2 : (((live.map (·.2)).toArray).filterMap (es[·]?)).toList.Perm es.toList := by
    rw [hes]
    refine (hperm.filterMap _).trans ?_
    have := range_get es.toList
    rw [show es.toList.length = es.size by simp] at this
    rw [this]
  have hzip : ∀ (l : List (Nat × Nat)), (∀ x ∈ l, x.2 < es.size) → ∀ q ∈ (l.map (·.1)).zip ((l.map (·.2)).filterMap (fun i => es.toList[i]?)), ∃ i, (q.1, i) ∈ l ∧ es.toList[i]? = some q.2 := by
    intro l
    induction l with
    | nil => intro _ q hq; simp at hq
    | cons x l ih =>
      intro hx q hq
      have h1 := hx x List.mem_cons_self
      have e : es.toList[x.2]? = some es.toList[x.2] := List.getElem?_eq_getElem (by simpa using h1)
      rw [List.map_cons, List.map_cons, List.filterMap_cons, e] at hq
      rcases List.mem_cons.mp hq with rfl | hq
      · exact ⟨x.2, List.mem_cons_self, e⟩
      · obtain ⟨i, a1, a2⟩ := ih (fun y hy => hx y (List.mem_cons_of_mem _ hy)) q hq
        exact ⟨i, List.mem_cons_of_mem _ a1, a2⟩
  have hmem : ∀ j, j ∈ live.map (·.1) ↔ j ∈ ps := fun j => by
    constructor
    · intro h
      obtain ⟨⟨j', i⟩, h1, rfl⟩ := List.mem_map.mp h
      exact List.mem_of_getElem? ((hlive _ _).mp h1)
    · intro h
      obtain ⟨i, hi⟩ := List.mem_iff_getElem?.mp h
      exact List.mem_map.mpr ⟨(j, i), (hlive _ _).mpr hi, rfl⟩
  have hlen : live.length = es.size := by
    have := hperm.length_eq
    simpa using this
  refine ⟨{ mask := m, place := (live.map (·.1)).toArray, dummies := #[], finger := fi, led, moves := mo, plain }, (live.map (·.2)).toArray, ?_, rfl, rfl, rfl, ⟨hk, rfl, hr1, ?_, ?_, ?_, ?_⟩, hp2⟩
  · unfold laid; rw [hc]; rfl
  · intro j hj; exact O.le j ((hmem j).mp hj)
  · have := hp2.length_eq
    simp only [Array.length_toList] at this
    rw [this]
    show (live.map (·.1)).toArray.size = _
    simp [hlen]
  · show (live.map (·.1)).toArray.size ≤ m
    simp [hlen, hl]
  · intro q hq
    rw [hes] at hq
    obtain ⟨i, a1, a2⟩ := hzip live (fun x hx => by
      have := (List.getElem?_eq_some_iff.mp ((hlive x.1 x.2).mp hx)).1
      omega) q hq
    have h1 := (hlive _ _).mp a1
    have w := d i q.2.1 q.1 (by simp at a2 ⊢; rw [a2]; exact ⟨_, rfl⟩) h1
    exact w.mono fun z hz => (hmem z).mpr hz
theorem relaid_spec {t : SetTable} {es : Array (Int × Value)} (I : Inv0 t es) (hb : es.size ≤ 4914) (hf : t.tooFull = true) (hpre : (es.size - 1) * 5 < t.mask * 3) :
    sizeAbove (grown es.size) ≤ 8192 ∧ ∃ t' order, t.relaid (es.map (·.1)) (grown es.size) = some (t', order) ∧ t'.led = t.led ∧ t'.plain = t.plain ∧ Inv t' (order.filterMap (es[·]?)) ∧ (order.filterMap (es[·]?)).toList.Perm es.toList := by
  have hfull : es.size * 5 ≥ t.mask * 3 := by
    unfold SetTable.tooFull at hf
    rw [I.fill] at hf
    exact of_decide_eq_true hf
  have key : ∃ m', sizeAbove (grown es.size) - 1 = m' ∧ Msk m' ∧ es.size * 5 < m' * 3 ∧ sizeAbove (grown es.size) ≤ 8192 := by
    rcases I.msk with q | q | q | q | q | q <;> rw [q] at hfull hpre
    · rw [show es.size = 5 by omega]; exact ⟨31, by decide, .inr (.inl rfl), by decide, by decide⟩
    · rw [show es.size = 19 by omega]; exact ⟨127, by decide, .inr (.inr (.inl rfl)), by decide, by decide⟩
    · rw [show es.size = 77 by omega]; exact ⟨511, by decide, .inr (.inr (.inr (.inl rfl))), by decide, by decide⟩
    · rw [show es.size = 307 by omega]; exact ⟨2047, by decide, .inr (.inr (.inr (.inr (.inl rfl)))), by decide, by decide⟩
    · rw [show es.size = 1229 by omega]; exact ⟨8191, by decide, .inr (.inr (.inr (.inr (.inr rfl)))), by decide, by decide⟩
    · omega
  obtain ⟨m', e, hk, hr, hs⟩ := key
  refine ⟨hs, ?_⟩
  obtain ⟨kk, hm⟩ := hk.pow
  unfold SetTable.relaid
  rw [e]
  obtain ⟨t', order, a1, a2, a3, a4, a5, a6⟩ := laid_spec hm hk t.finger (t.movedTo m') t.led t.plain es (by omega)
  refine ⟨t', order, a1, a2, a4, ⟨a5, ?_⟩, a6⟩
  have h1 := a5.size
  have h2 := a6.length_eq
  simp only [Array.length_toList] at h2
  rw [a3]; omega
end Stb
end
section
set_option Elab.async false
set_option linter.all false
set_option maxRecDepth 100000
namespace Stb
open PySem PyProof.Rows SetTable
section
variable {prog : Program} {w : World} {A : Around} {E : Value → Shared → Prop} {s : Shared}
abbrev TK (prog : Program) (w : World) (h : Heap) (ks : List Int) (b : Addr) : Prop := IsTupleKey (intKind prog w) h ks b
abbrev hsh (prog : Program) (w : World) (ks : List Int) : Int := tupleKeyHash (intKind prog w) ks
theorem items_int {ks : List Int} {vs : List Value} (h : ItemsAre (intKind prog w) ks vs) : ∀ v ∈ vs, ∃ n t, v = .int n t := by
  induction h with
  | nil => intro v hv; simp at hv
  | @cons k v' ks vs h1 _ ih =>
    intro v hv
    rcases List.mem_cons.mp hv with rfl | hv
    · cases v with
      | int n t => exact ⟨n, t, rfl⟩
      | _ => exact absurd h1 (by simp [intKind, Value.isInt])
    · exact ih v hv
theorem ofClass_int (d : Nat) (n : Int) (t : Tok) : ofAClassStatement d (.int n t) = pure false := by
  unfold ofAClassStatement; rfl
theorem ofClass_tuple {ks : List Int} {a : Addr} {Q : Bool → Shared → Prop} (hk : TK prog w s.heap ks a) (h : Q false s) : wpAny (model prog w) A (ofAClassStatement 8 (.ref a)) Q E s := by
  have hT := hk.typeIs
  obtain ⟨o, items, n, ho, hc, hd, hi⟩ := hk
  unfold ofAClassStatement
  refine wpAny_bind (wpAny_typeOf hT ?_)
  dsimp only
  have e : ("tuple" == "tuple") = true := by decide
  rw [if_pos e]
  refine wpAny_bind (wpAny_pure ?_)
  simp only [Bool.not_true, Bool.false_eq_true, if_false]
  refine wpAny_bind (wpAny_seqItems ho hd ?_)
  dsimp only
  refine wpAny_bind ?_
  rw [← Array.forIn_toList]
  refine wpAny_forIn_list _ (fun rest r s' => r.1 = none ∧ s' = s ∧ ∀ v ∈ rest, ∃ n t, v = Value.int n t) _ ?_ ?_ _ _ ⟨rfl, rfl, items_int hi⟩
  · rintro v rest r s' ⟨hr, rfl, hall⟩
    obtain ⟨n, t, rfl⟩ := hall v List.mem_cons_self
    rw [ofClass_int]
    refine wpAny_bind (wpAny_pure ?_)
    simp only [Bool.false_eq_true, if_false]
    exact wpAny_pure ⟨rfl, rfl, fun u hu' => hall u (List.mem_cons_of_mem _ hu')⟩
  · rintro ⟨r1, r2⟩ s' ⟨hr, rfl, _⟩
    simp only at hr
    subst hr
    exact wpAny_pure h
theorem seen_tuple {ks : List Int} {a : Addr} {ys : List Value} {Q : Bool → Shared → Prop} (hk : TK prog w s.heap ks a) (hy : ∀ y ∈ ys, ∃ b ks', y = .ref b ∧ TK prog w s.heap ks' b) (h : Q false s) : wpAny (model prog w) A (searchCouldBeSeen (.ref a) ys) Q E s := by
  unfold searchCouldBeSeen
  refine wpAny_bind ?_
  refine wpAny_forIn_list _ (fun rest r s' => r.1 = none ∧ s' = s ∧ ∀ y ∈ rest, ∃ b ks', y = .ref b ∧ TK prog w s.heap ks' b) _ ?_ ?_ _ _ ⟨rfl, rfl, hy⟩
  · rintro v rest r s' ⟨hr, rfl, hall⟩
    obtain ⟨b, ks', rfl, hb⟩ := hall v List.mem_cons_self
    dsimp only
    split
    · exact wpAny_pure ⟨rfl, rfl, fun u hu' => hall u (List.mem_cons_of_mem _ hu')⟩
    · refine wpAny_bind (wpAny_eqIsQuiet_tuple hk ?_)
      simp only [Bool.not_true, Bool.false_eq_true, if_false]
      refine wpAny_bind (wpAny_eqIsQuiet_tuple hb ?_)
      simp only [Bool.not_true, Bool.false_eq_true, if_false]
      refine wpAny_bind (ofClass_tuple hk ?_)
      simp only [Bool.false_eq_true, if_false]
      refine wpAny_bind (ofClass_tuple hb ?_)
      simp only [Bool.false_eq_true, if_false]
      exact wpAny_pure ⟨rfl, rfl, fun u hu' => hall u (List.mem_cons_of_mem _ hu')⟩
  · rintro ⟨r1, r2⟩ s' ⟨hr, rfl, _⟩
    simp only at hr
    subst hr
    exact wpAny_pure h
theorem byValue_tuple {ks : List Int} {a : Addr} {Q : Bool → Shared → Prop} (hk : TK prog w s.heap ks a) (h : Q true s) : wpAny (model prog w) A (hashByValue 8 (.ref a)) Q E s := by
  have hT := hk.typeIs
  obtain ⟨o, items, n, ho, hc, hd, hi⟩ := hk
  unfold hashByValue
  refine wpAny_bind (wpAny_specialOf hT F.slot_tuple_hash.lookup ?_)
  dsimp only
  refine wpAny_bind (wpAny_seqItems ho hd ?_)
  show wpAny _ _ (forIn items _ _ >>= _) _ _ s
  refine wpAny_bind ?_
  rw [← Array.forIn_toList]
  refine wpAny_forIn_list _ (fun rest r s' => r.1 = none ∧ s' = s ∧ ∀ v ∈ rest, ∃ n t, v = Value.int n t) _ ?_ ?_ _ _ ⟨rfl, rfl, items_int hi⟩
  · rintro v rest r s' ⟨hr, rfl, hall⟩
    obtain ⟨n, t, rfl⟩ := hall v List.mem_cons_self
    have e : hashByValue 7 (.int n t) = pure true := by unfold hashByValue; rfl
    rw [e]
    refine wpAny_bind (wpAny_pure ?_)
    simp only [Bool.not_true, Bool.false_eq_true, if_false]
    exact wpAny_pure ⟨rfl, rfl, fun u hu' => hall u (List.mem_cons_of_mem _ hu')⟩
  · rintro ⟨r1, r2⟩ s' ⟨hr, rfl, _⟩
    simp only at hr
    subst hr
    exact wpAny_pure h
end
end Stb
end
section
set_option Elab.async false
set_option linter.all false
set_option maxRecDepth 100000
namespace Stb
open PySem PyProof.Rows SetTable
def iv : Value → Int
  | .int n _ => n
  | _ => 0
def tk (h : Heap) : Value → List Int
  | .ref b => match h.get? b with
    | some o => match o.data with
      | .seq items _ => items.toList.map iv
      | _ => []
    | none => []
  | _ => []
section
variable {prog : Program} {w : World} {A : Around} {E : Value → Shared → Prop} {s : Shared}
theorem items_iv {ks : List Int} {vs : List Value} (h : ItemsAre (intKind prog w) ks vs) : vs.map iv = ks := by
  induction h with
  | nil => rfl
  | @cons k v' ks vs h1 h2 ih =>
    rw [List.map_cons, ih]
    obtain ⟨n, t, rfl⟩ := items_int (.cons h1 h2) v' List.mem_cons_self
    have : n = k := by simpa [intKind, Value.isInt] using h1
    rw [this.symm]; rfl
theorem tk_eq {h : Heap} {ks : List Int} {b : Addr} (k : TK prog w h ks b) : tk h (.ref b) = ks := by
  obtain ⟨o, items, n, ho, hc, hd, hi⟩ := k
  show (match h.get? b with
    | some o => match o.data with
      | .seq items _ => items.toList.map iv
      | _ => []
    | none => []) = ks
  rw [ho]
  dsimp only
  rw [hd]
  exact items_iv hi
structure TSet (prog : Program) (w : World) (B : Addr → Prop) (h : Heap) (t : SetTable) (es : Array (Int × Value)) (S : List (List Int)) : Prop where
  inv : Inv t es
  ent : ∀ e ∈ es.toList, ∃ b ks, e = (hsh prog w ks, Value.ref b) ∧ TK prog w h ks b ∧ B b
  nd : S.Nodup
  perm : (es.toList.map fun e => tk h e.2).Perm S
theorem Inv.fits {t : SetTable} {es : Array (Int × Value)} (I : Inv0 t es) : t.fits es.size = true := by
  unfold SetTable.fits
  rw [I.fill, I.size]
  have := I.room
  have := I.size
  simp
  omega
theorem Inv0.even {t : SetTable} {es : Array (Int × Value)} (I : Inv0 t es) : t.gaveWay = false := by
  unfold SetTable.gaveWay
  rw [I.msk.odd]; rfl
theorem getHash {es : Array (Int × Value)} {i : Nat} {e : Int × Value} (h : es[i]? = some e) : ((es[i]?.map (·.1)).getD 0) = e.1 := by rw [h]; rfl
theorem same_moves (t : SetTable) : t.sameMemory t.moves t.mask = some true := by unfold SetTable.sameMemory; simp
theorem search {B : Addr → Prop} {a b : Addr} {o : Obj} {es : Array (Int × Value)} {ep : Nat} {t : SetTable} {ks : List Int} {S : List (List Int)} {Q : SetFound → Shared → Prop}
    (ho : s.heap.get? a = some o) (hd : o.data = .set es ep t) (T : TSet prog w B s.heap t es S) (hk : TK prog w s.heap ks b) (hu : A.units < cLine) {e : Nat}
    (hF : Fst t.mask t.place.toList (hsh prog w ks) e) (he : e ≤ 10 * (t.mask + 12)) (q1 : ks ∈ S → Q (.there none) s) (q2 : ks ∉ S → Q (.free (pt t.mask (hsh prog w ks) e) false) s) :
    ∀ (f n : Nat) (stand : Option Probe), n ≤ e → e - n < f → stand.getD (t.probeStart (hsh prog w ks)) = it t.mask (hsh prog w ks) n →
      (∀ k, k < n → ∀ x, es[below t.place (pt t.mask (hsh prog w ks) k)]? = some x → x.1 = hsh prog w ks → tk s.heap x.2 ≠ ks) →
      wpAny (model prog w) A (setSearchFrom a (.ref b) (hsh prog w ks) true f stand) Q E s
  | 0, n, stand, h1, h2, _, _ => absurd h2 (Nat.not_lt_zero _)
  | f + 1, n, stand, h1, h2, h3, h4 => by
    have I := T.inv.toInv0
    have hf := Inv.fits I
    unfold setSearchFrom
    refine wpAny_bind (wpAny_setState_of ho hd hf ?_)
    dsimp only
    rw [I.even, h3]
    simp only [Bool.false_eq_true, if_false]
    have slotEnt : ∀ k, k < e → ∃ x, es[below t.place (pt t.mask (hsh prog w ks) k)]? = some x := fun k hk => by
      have hm := below_mem I.rise (hF.2 k hk)
      have := (Array.getElem?_eq_some_iff.mp hm).1
      rw [I.size] at this
      exact ⟨_, Array.getElem?_eq_getElem this⟩
    rcases probe_go I.rise I.dum (fun i => ((es[i]?.map (·.1)).getD 0)) hF (10 * turns t.mask) n h1 (by unfold turns; omega) with ⟨e1, e2⟩ | ⟨k, k1, k2, k3, k4, k5⟩
    · have e1 : t.probe (fun i => ((es[i]?.map (·.1)).getD 0)) (hsh prog w ks) (it t.mask (hsh prog w ks) n) = _ := e1
      show wpAny _ _ (match t.probe (fun i => ((es[i]?.map (·.1)).getD 0)) (hsh prog w ks) (it t.mask (hsh prog w ks) n) with | some met => _ | _ => _) _ _ _
      rw [e1]
      refine wpAny_pure (q2 fun hS => ?_)
      have hm := T.perm.mem_iff.mpr hS
      obtain ⟨x, hx, ex⟩ := List.mem_map.mp hm
      obtain ⟨b', ks', rfl, hb', _⟩ := T.ent x hx
      have ek : ks' = ks := by rw [← ex]; exact (tk_eq hb').symm
      subst ek
      obtain ⟨i, hi⟩ := List.mem_iff_getElem?.mp hx
      rw [Array.getElem?_toList] at hi
      obtain ⟨k, hke, ei⟩ := met_all I hF hi
      rcases Nat.lt_or_ge k n with q | q
      · exact h4 k q _ (by rw [ei]; exact hi) rfl (tk_eq hb')
      · exact e2 k q hke (by rw [ei]; exact getHash hi)
    · have k4 : t.probe (fun i => ((es[i]?.map (·.1)).getD 0)) (hsh prog w ks) (it t.mask (hsh prog w ks) n) = _ := k4
      show wpAny _ _ (match t.probe (fun i => ((es[i]?.map (·.1)).getD 0)) (hsh prog w ks) (it t.mask (hsh prog w ks) n) with | some met => _ | _ => _) _ _ _
      rw [k4]
      dsimp only
      obtain ⟨x, hx⟩ := slotEnt k k2
      have hxm : x ∈ es.toList := by rw [Array.mem_toList_iff]; exact Array.mem_of_getElem? hx
      obtain ⟨b', ks', rfl, hb', _⟩ := T.ent x hxm
      have hh : hsh prog w ks' = hsh prog w ks := by have := getHash hx; rw [← k3]; exact this.symm
      cases hl : t.led with
      | true =>
        simp only [Bool.not_true, Bool.false_eq_true, if_false]
        rw [hx]
        dsimp only
        refine wpAny_bind (wpAny_holding (wpAny_eqBool_tuple hu hb' hk ?_))
        refine wpAny_bind (wpAny_setState_of ho hd hf ?_)
        dsimp only
        by_cases c : ks' = ks
        · subst c
          rw [decide_eq_true rfl]
          simp only [Bool.and_self, if_true]
          refine wpAny_pure (q1 ?_)
          exact T.perm.mem_iff.mp (List.mem_map.mpr ⟨_, hxm, tk_eq hb'⟩)
        · rw [decide_eq_false c]
          simp only [Bool.and_false, Bool.false_eq_true, if_false]
          rw [same_moves]
          dsimp only
          simp only [if_true]
          rw [slot_mem I.rise (hF.2 k k2)]
          dsimp only
          rw [hx]
          dsimp only
          refine wpAny_bind (wpAny_isSame_ref_self ?_)
          refine wpAny_bind (wpAny_pure ?_)
          simp only [if_true]
          refine search ho hd T hk hu hF he q1 q2 f (k + 1) _ k2 (by omega) rfl fun k' hk' y hy1 hy2 => ?_
          rcases Nat.lt_or_ge k' n with q | q
          · exact h4 k' q y hy1 hy2
          · rcases Nat.lt_or_ge k' k with q' | q'
            · exact absurd ((getHash hy1).trans hy2) (k5 k' q q')
            · have : k' = k := by omega
              subst this
              rw [hx] at hy1
              obtain rfl := Option.some.inj hy1
              rw [show tk s.heap (hsh prog w ks', Value.ref b').2 = ks' from tk_eq hb']
              exact c
      | false =>
        simp only [Bool.not_false, if_true]
        refine wpAny_bind (seen_tuple hk ?_ ?_)
        · intro y hy
          obtain ⟨z, hz, rfl⟩ := List.mem_map.mp hy
          have hz' : z ∈ es.toList := by
            have := (Array.mem_toList_iff).mp hz
            rw [Array.mem_toList_iff]
            exact (Array.mem_filter.mp this).1
          obtain ⟨b2, ks2, rfl, h2, _⟩ := T.ent z hz'
          exact ⟨b2, ks2, rfl, h2⟩
        · simp only [Bool.false_eq_true, if_false]
          rw [hx]
          dsimp only
          refine wpAny_bind (wpAny_holding (wpAny_eqBool_tuple hu hb' hk ?_))
          refine wpAny_bind (wpAny_setState_of ho hd hf ?_)
          dsimp only
          by_cases c : ks' = ks
          · subst c
            rw [decide_eq_true rfl]
            simp only [Bool.and_self, if_true]
            refine wpAny_pure (q1 ?_)
            exact T.perm.mem_iff.mp (List.mem_map.mpr ⟨_, hxm, tk_eq hb'⟩)
          · rw [decide_eq_false c]
            simp only [Bool.and_false, Bool.false_eq_true, if_false]
            rw [same_moves]
            dsimp only
            simp only [if_true]
            rw [slot_mem I.rise (hF.2 k k2)]
            dsimp only
            rw [hx]
            dsimp only
            refine wpAny_bind (wpAny_isSame_ref_self ?_)
            refine wpAny_bind (wpAny_pure ?_)
            simp only [if_true]
            refine search ho hd T hk hu hF he q1 q2 f (k + 1) _ k2 (by omega) rfl fun k' hk' y hy1 hy2 => ?_
            rcases Nat.lt_or_ge k' n with q | q
            · exact h4 k' q y hy1 hy2
            · rcases Nat.lt_or_ge k' k with q' | q'
              · exact absurd ((getHash hy1).trans hy2) (k5 k' q q')
              · have : k' = k := by omega
                subst this
                rw [hx] at hy1
                obtain rfl := Option.some.inj hy1
                rw [show tk s.heap (hsh prog w ks', Value.ref b').2 = ks' from tk_eq hb']
                exact c
end
end Stb
end
section
set_option Elab.async false
set_option linter.all false
set_option maxRecDepth 100000
namespace Stb
open PySem PyProof.Rows SetTable
section
variable {prog : Program} {w : World} {A : Around} {E : Value → Shared → Prop} {s : Shared}
def ins (S : List (List Int)) (k : List Int) : List (List Int) := if k ∈ S then S else S ++ [k]
theorem TSet.keep {B : Addr → Prop} {h h' : Heap} {t : SetTable} {es : Array (Int × Value)} {S : List (List Int)} (T : TSet prog w B h t es S) (k : ∀ b ks, TK prog w h ks b → TK prog w h' ks b) : TSet prog w B h' t es S := by
  refine ⟨T.inv, fun e he => ?_, T.nd, ?_⟩
  · obtain ⟨b, ks, e1, e2, e3⟩ := T.ent e he
    exact ⟨b, ks, e1, k b ks e2, e3⟩
  · have : es.toList.map (fun e => tk h' e.2) = es.toList.map (fun e => tk h e.2) := List.map_congr_left fun e he => by
      obtain ⟨b, ks, rfl, e2, _⟩ := T.ent e he
      rw [tk_eq e2, tk_eq (k b ks e2)]
    rw [this]; exact T.perm
theorem size_8192 : (8192 : Nat) ≤ sizeLine := by rw [sizeLine_eq]; decide
theorem add {B : Addr → Prop} {a b : Addr} {o : Obj} {es : Array (Int × Value)} {ep : Nat} {t : SetTable} {ks : List Int} {S : List (List Int)} {Q : Bool → Shared → Prop}
    {h0 : Heap} (ext : ∀ b ks, TK prog w h0 ks b → TK prog w s.heap ks b) (ho : s.heap.get? a = some o) (hd : o.data = .set es ep t) (T : TSet prog w B h0 t es S) (hk : TK prog w h0 ks b) (hB : B b) (hu : A.units < cLine) (hb : S.length < 4914)
    (h : ∀ r h' es' ep' t', Heap.SameBut a s.heap h' → h'.get? a = some { o with data := .set es' ep' t' } → TSet prog w B h0 t' es' (ins S ks) → t'.led = t.led → t'.plain = t.plain → Q r { s with heap := h' }) :
    wpAny (model prog w) A (setAddHashed a (.ref b) (hsh prog w ks)) Q E s := by
  have I := T.inv.toInv0
  have hf := Inv.fits I
  have hsz : es.size = S.length := by have := T.perm.length_eq; simpa using this
  unfold setAddHashed setAddHashedIn
  refine wpAny_holding (wpAny_bind (wpAny_setState_of ho hd hf ?_))
  dsimp only
  have hsc : byScan (.ref b) es = false := by unfold byScan; simp [Value.scannable]
  rw [hsc]
  simp only [Bool.false_eq_true, if_false]
  obtain ⟨kk, hm⟩ := I.msk.pow
  obtain ⟨e, he, hF⟩ := fst_ex hm (ps := t.place.toList) (by simpa using I.room) (hsh prog w ks)
  have hle := I.msk.le
  refine wpAny_bind (m := setSearch a (.ref b) (hsh prog w ks) true) (search ho hd (T.keep ext) (ext _ _ hk) hu hF he (fun hS => ?_) (fun hS => ?_) 100000 0 none (Nat.zero_le _) (by omega) rfl (fun k hk => absurd hk (Nat.not_lt_zero k)))
  · dsimp only
    refine wpAny_pure ?_
    have := h false s.heap es ep t (Heap.SameBut.refl a s.heap) (by rw [ho, ← hd]) (by unfold ins; rw [if_pos hS]; exact T) rfl rfl
    exact this
  · dsimp only
    refine wpAny_bind (wpAny_setState_of ho hd hf ?_)
    dsimp only
    rw [put_eq I.dum]
    dsimp only
    have I1 := inv_put T.inv (x := Value.ref b) hF
    generalize hp : below t.place (pt t.mask (hsh prog w ks) e) = p at I1 ⊢
    have hs1 : (insertAt es p (hsh prog w ks, Value.ref b)).size = es.size + 1 := size_insertAt _ _ _
    have step : ∀ t1, ({ t with place := insertAt t.place p (pt t.mask (hsh prog w ks) e) } : SetTable) = t1 → wpAny (model prog w) A (do
        storeSet a (insertAt es p (hsh prog w ks, Value.ref b)) t1
        if (!false && t1.tooFull) = true then do
            setRelay a (grown (es.size + 1))
            pure true
          else pure true) Q E s := by
      intro t1 ht
      have I1 := ht ▸ I1
      have hled : t1.led = t.led := by rw [← ht]
      have hpl : t1.plain = t.plain := by rw [← ht]
      have hmk : t1.mask = t.mask := by rw [← ht]
      have hperm1 : ((insertAt es p (hsh prog w ks, Value.ref b)).toList.map fun e => tk h0 e.2).Perm (ins S ks) := by
        refine ((perm_insertAt es p (hsh prog w ks, Value.ref b)).map _).trans ?_
        rw [List.map_cons, show tk h0 (hsh prog w ks, Value.ref b).2 = ks from tk_eq hk]
        unfold ins; rw [if_neg hS]
        exact (T.perm.cons ks).trans (List.perm_append_singleton ks S).symm
      have hent1 : ∀ x ∈ (insertAt es p (hsh prog w ks, Value.ref b)).toList, ∃ b' ks', x = (hsh prog w ks', Value.ref b') ∧ TK prog w h0 ks' b' ∧ B b' := fun x hx => by
        rcases (mem_insertAt _ _ _ _).mp hx with rfl | hx
        · exact ⟨b, ks, rfl, hk, hB⟩
        · exact T.ent x hx
      have hnd1 : (ins S ks).Nodup := by
        unfold ins; rw [if_neg hS]
        exact (List.perm_append_singleton ks S).nodup_iff.mpr (List.nodup_cons.mpr ⟨hS, T.nd⟩)
      refine wpAny_bind (wpAny_storeSet_of ho hd ?_ (by rw [hs1]; have := size_8192; omega))
      have hg : (s.heap.update a (Obj.putSet (insertAt es p (hsh prog w ks, Value.ref b)) t1)).get? a = some { o with data := .set (insertAt es p (hsh prog w ks, Value.ref b)) (ep + 1) t1 } := by
        have := Heap.get?_update_self (Obj.putSet (insertAt es p (hsh prog w ks, Value.ref b)) t1) ho (by rw [putSet_of _ t1 hd]; rfl)
        rw [putSet_of _ t1 hd] at this; exact this
      have hsb := Heap.SameBut.update s.heap a (Obj.putSet (insertAt es p (hsh prog w ks, Value.ref b)) t1)
      cases hfull : t1.tooFull with
      | false =>
        simp only [Bool.not_false, Bool.and_false, Bool.false_eq_true, if_false]
        refine wpAny_pure (h true _ _ (ep + 1) t1 hsb hg ?_ hled hpl)
        have T1 : TSet prog w B h0 t1 (insertAt es p (hsh prog w ks, Value.ref b)) (ins S ks) := by
          refine ⟨⟨I1, ?_⟩, hent1, hnd1, hperm1⟩
          have hfl := I1.fill
          unfold SetTable.tooFull at hfull
          rw [hfl] at hfull
          have := of_decide_eq_false hfull
          rw [I1.size]; omega
        exact T1
      | true =>
        simp only [Bool.not_false, Bool.and_self, if_true]
        have hpre : ((insertAt es p (hsh prog w ks, Value.ref b)).size - 1) * 5 < t1.mask * 3 := by
          rw [hs1, hmk]; have := T.inv.full; rw [I.size] at this; simpa using this
        obtain ⟨r0, t2, order, r1, r2, r3, r4, r5⟩ := relaid_spec I1 (by rw [hs1]; omega) hfull hpre
        unfold setRelay
        refine wpAny_bind (wpAny_bind (wpAny_setState_of hg rfl (Inv.fits I1) ?_))
        dsimp only
        rw [← hs1]
        rw [if_neg (by have := size_8192; omega)]
        rw [r1]
        have hz2 := r5.length_eq
        simp only [Array.length_toList] at hz2
        refine wpAny_bind ?_
        show wpAny _ _ (if ((order.filterMap ((insertAt es p (hsh prog w ks, Value.ref b))[·]?)).size != (insertAt es p (hsh prog w ks, Value.ref b)).size) = true then _ else _) _ _ _
        rw [if_neg (by rw [hz2]; simp)]
        refine wpAny_pure ?_
        dsimp only
        refine wpAny_storeSet_of hg rfl ?_ (by rw [hz2, hs1]; have := size_8192; omega)
        refine wpAny_pure ?_
        have hg2 : ((s.heap.update a (Obj.putSet (insertAt es p (hsh prog w ks, Value.ref b)) t1)).update a (Obj.putSet (order.filterMap ((insertAt es p (hsh prog w ks, Value.ref b))[·]?)) t2)).get? a = some { o with data := .set (order.filterMap ((insertAt es p (hsh prog w ks, Value.ref b))[·]?)) (ep + 1 + 1) t2 } := by
          have := Heap.get?_update_self (Obj.putSet (order.filterMap ((insertAt es p (hsh prog w ks, Value.ref b))[·]?)) t2) hg (by rw [putSet_of _ t2 rfl]; rfl)
          rw [putSet_of _ t2 rfl] at this; exact this
        have hsb2 := hsb.trans (Heap.SameBut.update (s.heap.update a (Obj.putSet (insertAt es p (hsh prog w ks, Value.ref b)) t1)) a (Obj.putSet (order.filterMap ((insertAt es p (hsh prog w ks, Value.ref b))[·]?)) t2))
        refine h true _ _ (ep + 1 + 1) t2 hsb2 hg2 ?_ (r2.trans hled) (r3.trans hpl)
        have T2 : TSet prog w B h0 t2 (order.filterMap ((insertAt es p (hsh prog w ks, Value.ref b))[·]?)) (ins S ks) :=
          ⟨r4, fun x hx => hent1 x (r5.mem_iff.mp hx), hnd1, (r5.map _).trans hperm1⟩
        exact T2
    cases hpv : t.plain with
    | true =>
      simp only [if_true]
      refine wpAny_bind (byValue_tuple (ext _ _ hk) ?_)
      simp only [if_true]
      exact step _ (by rw [hpv])
    | false =>
      simp only [Bool.false_eq_true, if_false]
      refine wpAny_bind (wpAny_pure ?_)
      simp only [if_true]
      exact step _ (by rw [hpv])
end
end Stb
end
section
set_option Elab.async false
set_option linter.all false
set_option maxRecDepth 100000
namespace Stb
open PySem PyProof.Rows SetTable
def dd (val : Nat → List Int) : Nat → List (List Int)
  | 0 => []
  | i + 1 => ins (dd val i) (val i)
section
variable {prog : Program} {w : World} {A : Around} {R : Result → Shared → Prop} {I : Addr} {fp wr : List Addr} {G : Array GenState → Array GenState → Prop} {n : Nat} {P : Nat → Value → Prop} {St : Nat → Shared → Prop}
theorem TK.at {h0 h : Heap} (k : ∀ b o, h0.get? b = some o → h.get? b = some o) {ks : List Int} {b : Addr} (x : TK prog w h0 ks b) : TK prog w h ks b := by
  obtain ⟨o', items, n, ho', hc, hd', hi⟩ := x
  exact ⟨o', items, n, k _ _ ho', hc, hd', hi⟩
end
end Stb
end
section
set_option Elab.async false
set_option linter.all false
set_option maxRecDepth 100000
namespace Stb
open PySem PyProof.Rows SetTable
section
variable {prog : Program} {w : World} {A : Around} {E : Value → Shared → Prop} {s : Shared}
abbrev setO (led : Bool) : Obj := { cls := .type "set", dict := none, data := .set #[] 0 (.fresh 0 0 led) }
end
end Stb
end
section
set_option Elab.async false
set_option linter.all false
set_option maxRecDepth 100000
namespace Stb
open PySem PyProof.Rows SetTable
section
variable {prog : Program} {w : World} {A : Around} {E : Value → Shared → Prop} {s : Shared}
end
end Stb
end
section
set_option Elab.async false
set_option linter.all false
set_option maxRecDepth 100000
namespace Stb
open PySem PyProof.Rows SetTable
section
variable {prog : Program} {w : World} {A : Around} {E : Value → Shared → Prop} {s : Shared}
end
end Stb
end
section
set_option Elab.async false
set_option linter.all false
set_option maxRecDepth 100000
namespace Stb
open PySem PyProof.Rows SetTable
section
variable {prog : Program} {w : World} {A : Around} {E : Value → Shared → Prop} {s : Shared}
end
end Stb
end
section
set_option Elab.async false
set_option linter.all false
set_option maxRecDepth 100000
namespace Stb
open PySem PyProof.Rows SetTable
section
variable {prog : Program} {w : World} {A : Around} {E : Value → Shared → Prop} {s : Shared}
end
end Stb
end
section
set_option Elab.async false
set_option linter.all false
set_option maxRecDepth 100000
namespace DL
open PySem L2 PyProof.Rows
variable {K : PySem.W.Frag}
theorem items_of {prog : Program} {w : World} : ∀ {vs : List Value} {ns : List Int}, IntsAre vs ns → ItemsAre (intKind prog w) ns vs
  | _, _, .nil => .nil
  | _, _, .cons _ _ h => .cons (by simp [intKind, Value.isInt]) (items_of h)
theorem key_at {X : Cx} {pins : List (Addr × Obj)} {σ : L2.St} {H : Hp} {s : Shared} (I : Inv X pins σ H s) {b : Addr} {k : List Int} (h : SqT X.K H b (k.map V.int)) : Stb.TK X.prog X.w s.heap k b := by
  obtain ⟨its, r1, ⟨o, e, c, n, q⟩, _⟩ := I.tuple h
  exact ⟨o, its.toArray, n, e, c, q, by simpa using items_of (intsAre_of r1)⟩
end DL
end
section
set_option Elab.async false
set_option linter.all false
set_option maxRecDepth 100000
namespace DL
open PySem L2 PyProof.Rows
variable {K : PySem.W.Frag}
end DL
end
section
set_option Elab.async false
set_option linter.all false
namespace DL
open PySem L2
end DL
end
section
set_option Elab.async false
set_option linter.all false
set_option maxRecDepth 100000
namespace Dwk
open PySem
variable {prog : Program} {w : World} {A : Around} {E : Value → Shared → Prop} {s : Shared}
def At (h : Heap) (d : Addr) (ks : List Value) (ep : Nat) : Prop := ∃ (o : Obj) (es : Array DictEntry), h.get? d = some o ∧ o.ExactDict ∧ o.data = .dict es ep ∧ es.toList.map (·.key) = ks
theorem At.type {d : Addr} {ks : List Value} {ep : Nat} (x : At s.heap d ks ep) : s.TypeIs (.ref d) "dict" := let ⟨o, _, h, c, _⟩ := x; ⟨o, h, c.1⟩
theorem At.lt {h : Heap} {d : Addr} {ks : List Value} {ep : Nat} (x : At h d ks ep) : d < h.objs.size := let ⟨_, _, e, _⟩ := x; Heap.lt_size e
theorem At.to {h h' : Heap} {d : Addr} {ks : List Value} {ep : Nat} (x : At h d ks ep) (k : ∀ o, h.get? d = some o → h'.get? d = some o) : At h' d ks ep := let ⟨o, es, e, r⟩ := x; ⟨o, es, k o e, r⟩
theorem sizeOf {es : Array DictEntry} {ks : List Value} (h : es.toList.map (·.key) = ks) : es.size = ks.length := by
  rw [← h, List.length_map, Array.length_toList]
theorem start {d : Addr} {ks : List Value} {ep : Nat} {Q : Value → Shared → Prop} (hd : (d == sysModules) = false) (x : At s.heap d ks ep)
    (q : Q (.ref s.heap.objs.size) { s with heap := s.heap.push { cls := .type "dict_keyiterator", data := .fields #[.ref d, .int 0 0, .int ks.length 0, .int ep 0] } }) : wpAny (model prog w) A (pyIter (.ref d)) Q E s := by
  have hT := x.type
  obtain ⟨o, es, ho, _, hdat, hk⟩ := x
  have hsz := sizeOf hk
  refine wpAny_pyIter_slot hT F.slot_dict_iter (wpAny_call_entry F.slot_dict_iter hT F.entry_dict_iter ?_ (F.args_dict_iter_1 _))
  unfold Builtin.«dict.__iter__» Builtin.Dict.dictSlotNone
  refine wpAny_bind (wpAny_bind (wpAny_notOrdered_dict hT ?_))
  refine (wpAny_pure ?_ : wpAny _ _ (pure (Value.ref d)) _ _ s)
  show wpAny _ _ (Builtin.Dict.showsAll d >>= _) _ _ s
  unfold Builtin.Dict.showsAll
  rw [if_neg (by rw [hd]; exact Bool.false_ne_true)]
  refine wpAny_bind (wpAny_pure (wpAny_bind (wpAny_dictEntries ho hdat (wpAny_bind (wpAny_dictEpoch ho hdat ?_)))))
  refine wpAny_bind (wpAny_newObj_type (wpAny_pure ⟨_, rfl, "dict_keyiterator", _, ⟨_, Heap.get?_push_size _ rfl, rfl⟩, F.slot_dict_keyiterator_next.lookup, ?_⟩))
  simpa [rawInt, hsz] using q
theorem step {J d : Addr} {i ep : Nat} {ks : List Value} {k : Value} {Q : Option Value → Shared → Prop} (hit : s.heap.IsKeyIter J d i ks.length ep) (x : At s.heap d ks ep) (hx : ks[i]? = some k)
    (q : ∀ h', h'.IsKeyIter J d (i + 1) ks.length ep → Heap.SameBut J s.heap h' → Q (some k) { s with heap := h' }) : wpAny (model prog w) A (pyNext (.ref J)) Q E s := by
  obtain ⟨o, ho, hc, hd⟩ := id hit
  obtain ⟨od, es, hod, _, hdd, hk⟩ := x
  have hsz := sizeOf hk
  have hlt : i < es.size := by rw [hsz]; exact (List.getElem?_eq_some_iff.mp hx).1
  have hkey : es[i].key = k := by
    have : (es.toList.map (·.key))[i]? = some k := by rw [hk]; exact hx
    simpa [hlt] using this
  unfold pyNext
  refine wpAny_bind (wpAny_attempt (wpAny_callSpecial?_slot (name := Str.ofString "__next__") hit.typeIs F.slot_dict_keyiterator_next
    (wpAny_call_entry F.slot_dict_keyiterator_next hit.typeIs F.entry_dict_keyiterator_next ?_ (F.args_dict_keyiterator_next_1 _))))
  refine wpAny_bind (wpAny_pure (wpAny_bind (wpAny_bind ?_)))
  first | refine wpAny_bind (wpAny_typeNameOfWhole_keyiter hit.typeIs (wpAny_pure ?_)) | refine wpAny_bind (wpAny_typeNameOf_keyiter hit.typeIs (wpAny_pure ?_))
  refine wpAny_bind (wpAny_fieldsOf ho hd ?_)
  simp only [show Builtin.Dict_items.ownsTuple "dict_keyiterator" = false by decide, Bool.false_eq_true, if_false]
  show wpAny _ _ (if (Value.ref d == Value.none) = true then _ else _) _ _ s
  rw [if_neg (show ¬ ((Value.ref d == Value.none) = true) from Bool.false_ne_true)]
  refine wpAny_bind (wpAny_pure (wpAny_bind (wpAny_dictEntries hod hdd ?_)))
  rw [if_neg (by rw [hsz]; simp)]
  refine wpAny_bind (wpAny_pure (wpAny_bind (wpAny_dictEpoch hod hdd ?_)))
  rw [if_neg (by simp)]
  refine wpAny_pure ?_
  simp only [show ¬ ((i : Int) < 0) from by omega, if_false, Int.toNat_natCast, Array.getElem?_eq_getElem hlt]
  refine wpAny_bind ?_
  first | refine wpAny_bind (wpAny_typeNameOfWhole_keyiter hit.typeIs (wpAny_pure ?_)) | refine wpAny_bind (wpAny_typeNameOf_keyiter hit.typeIs (wpAny_pure ?_))
  refine wpAny_bind (wpAny_isOneOf_keyiter hit.typeIs ?_)
  show wpAny _ _ (setField (.ref J) 1 (rawInt ((i : Int) + 1)) >>= _) _ _ s
  refine wpAny_bind (wpAny_setField ho hd (by simp) ?_)
  have hit' : (s.heap.update J (Obj.mapFields (·.setIfInBounds 1 (rawInt ((i : Int) + 1))))).IsKeyIter J d (i + 1) ks.length ep :=
    ⟨_, Heap.get?_update_self _ ho (Obj.isFreed_of_fields (Obj.data_mapFields hd _)), (Obj.cls_mapFields ..).trans hc, by rw [Obj.data_mapFields hd]; simp [rawInt]⟩
  refine wpAny_bind (wpAny_holding (wpAny_bind (wpAny_isOneOf_keyiter (s := { s with heap := s.heap.update J (Obj.mapFields (·.setIfInBounds 1 (rawInt ((i : Int) + 1)))) }) hit'.typeIs ?_)))
  show wpAny _ _ (pure es[i].key) _ _ _
  rw [hkey]
  exact wpAny_pure (wpAny_pure ⟨_, rfl, wpAny_pure (q _ hit' (Heap.SameBut.update ..))⟩)
theorem last {J d : Addr} {ep : Nat} {ks : List Value} {Q : Option Value → Shared → Prop} (hh : A.handled = none) (hit : s.heap.IsKeyIter J d ks.length ks.length ep) (x : At s.heap d ks ep)
    (q : ∀ h', Heap.ExtBut J s.heap h' → Q none { s with heap := h' }) : wpAny (model prog w) A (pyNext (.ref J)) Q E s := by
  obtain ⟨o, ho, hc, hd⟩ := id hit
  obtain ⟨od, es, hod, _, hdd, hk⟩ := x
  have hsz := sizeOf hk
  unfold pyNext
  refine wpAny_bind (wpAny_attempt (wpAny_callSpecial?_slot (name := Str.ofString "__next__") hit.typeIs F.slot_dict_keyiterator_next
    (wpAny_call_entry F.slot_dict_keyiterator_next hit.typeIs F.entry_dict_keyiterator_next ?_ (F.args_dict_keyiterator_next_1 _))))
  refine wpAny_bind (wpAny_pure (wpAny_bind (wpAny_bind ?_)))
  first | refine wpAny_bind (wpAny_typeNameOfWhole_keyiter hit.typeIs (wpAny_pure ?_)) | refine wpAny_bind (wpAny_typeNameOf_keyiter hit.typeIs (wpAny_pure ?_))
  refine wpAny_bind (wpAny_fieldsOf ho hd ?_)
  simp only [show Builtin.Dict_items.ownsTuple "dict_keyiterator" = false by decide, Bool.false_eq_true, if_false]
  show wpAny _ _ (if (Value.ref d == Value.none) = true then _ else _) _ _ s
  rw [if_neg (show ¬ ((Value.ref d == Value.none) = true) from Bool.false_ne_true)]
  refine wpAny_bind (wpAny_pure (wpAny_bind (wpAny_dictEntries hod hdd ?_)))
  rw [if_neg (by rw [hsz]; simp)]
  refine wpAny_bind (wpAny_pure (wpAny_bind (wpAny_dictEpoch hod hdd ?_)))
  rw [if_neg (by simp)]
  refine wpAny_pure ?_
  simp only [show ¬ ((ks.length : Int) < 0) from by omega, if_false, Int.toNat_natCast, Array.getElem?_eq_none (Nat.le_of_eq hsz)]
  refine wpAny_bind ?_
  first | refine wpAny_bind (wpAny_typeNameOfWhole_keyiter hit.typeIs (wpAny_pure ?_)) | refine wpAny_bind (wpAny_typeNameOf_keyiter hit.typeIs (wpAny_pure ?_))
  show wpAny _ _ (setField (.ref J) 0 .none >>= _) _ _ s
  refine wpAny_bind (wpAny_setField ho hd (by simp) ?_)
  show wpAny _ _ (newExc (.type "StopIteration") [] >>= _) _ _ _
  refine wpAny_bind ?_
  simp only [newExc, newTuple]
  refine wpAny_bind (wpAny_newObj_type ?_ (by size_fits))
  refine wpAny_bind (m := firstArgMember _ _) (wpAny_of_eq (a := Value.none) (by first | rfl | (simp only [firstArgMember]; rfl)) ?_)
  refine wpAny_newObj_type ?_ (by size_fits)
  simp only [raiseNew]
  refine wpAny_bind (wpAny_handled ?_)
  rw [show A.in1.handled = none from hh]
  refine wpAny_bind (wpAny_pure (wpAny_throw ?_))
  refine wpAny_bind (wpAny_isInstance (T := "StopIteration") (b := true) ⟨_, Heap.get?_push_size _ rfl, rfl⟩ isSubtype_stop ?_)
  exact wpAny_pure (q _ (((Heap.SameBut.update ..).extBut.push _).push _))
theorem walks (hh : A.handled = none) (J d : Addr) (hne : d ≠ J) (ks : List Value) (ep : Nat) :
    Walks prog w A J [J, d] [J] ks.length (fun i v => ks[i]? = some v) (fun i h => h.IsKeyIter J d i ks.length ep ∧ At h d ks ep) where
  sub := fun b hb => by simp at hb; simp [hb]
  frame := fun _ _ _ st hk => ⟨st.1.at fun o e => hk J (by simp) o e, st.2.to fun o e => hk d (by simp) o e⟩
  item := fun i s Q E hi st hQ => by
    obtain ⟨k, hx⟩ : ∃ p, ks[i]? = some p := ⟨ks[i], by simp [hi]⟩
    refine step st.1 st.2 hx fun h' hit' hs' => ?_
    exact hQ k h' s.toks hx ⟨hit', st.2.to fun o e => hs'.extBut d o hne e⟩ fun b o hb e => hs'.extBut b o (fun h => hb (by simp [h])) e
  done := fun s Q E st hQ => last hh st.1 st.2 fun h' he' => hQ h' s.toks fun b o hb e => he' b o (fun h => hb (by simp [h])) e
  self := fun _ _ _ _ st hQ => wpAny_pyIter_keyiter st.1 hQ
end Dwk
end
section
set_option Elab.async false
set_option linter.all false
set_option maxRecDepth 100000
namespace DL
open PySem L2 PyProof.Rows
variable {K : PySem.W.Frag}
abbrev TsV := List (List Int × Addr × V)
abbrev Rt : List Int × Addr × V → List Int × Addr × Value → Prop := fun t x => t.1 = x.1 ∧ t.2.1 = x.2.1 ∧ RelV t.2.2 x.2.2
def getT : TsV → List Int → Option V
  | [], _ => none
  | t :: r, k => if t.1 = k then some t.2.2 else getT r k
def putT : TsV → List Int → Addr → V → TsV
  | [], k, b, v => [(k, b, v)]
  | t :: r, k, b, v => if t.1 = k then (t.1, t.2.1, v) :: r else t :: putT r k b v
def KsOk (K : PySem.W.Frag) (H : Hp) (ts : TsV) : Prop := ∀ t ∈ ts, SqT K H t.2.1 (t.1.map V.int)
theorem getT_rel {k : List Int} : ∀ {ts : TsV} {xs : List (List Int × Addr × Value)}, Paired Rt ts xs → (match getT ts k with
    | some v => ∃ p, atKey xs k = some p ∧ RelV v p.2
    | none => atKey xs k = none)
  | _, _, .nil => rfl
  | _, _, .cons (a := t) (b := x) (l₁ := ts) (l₂ := xs) h r => by
    obtain ⟨h1, h2, h3⟩ := h
    have ih := getT_rel (k := k) r
    unfold getT
    by_cases e : t.1 = k
    · rw [if_pos e]
      exact ⟨x.2, by simp [atKey, List.find?_cons, h1 ▸ e], h3⟩
    · rw [if_neg e]
      have : atKey (x :: xs) k = atKey xs k := by simp [atKey, List.find?_cons, h1 ▸ e]
      rw [this]; exact ih
theorem put_id {k : List Int} {u : Value} : ∀ {xs : List (List Int × Addr × Value)}, k ∉ xs.map (·.1) → xs.map (putAt k u) = xs
  | [], _ => rfl
  | x :: xs, h => by
    rw [List.map_cons, List.mem_cons, not_or] at h
    rw [List.map_cons, put_id h.2]
    unfold putAt
    rw [if_neg (Ne.symm h.1)]
theorem pair_keys : ∀ {ts : TsV} {xs : List (List Int × Addr × Value)}, Paired Rt ts xs → ts.map (·.1) = xs.map (·.1)
  | _, _, .nil => rfl
  | _, _, .cons h r => by rw [List.map_cons, List.map_cons, h.1, pair_keys r]
theorem put_rel {k : List Int} {b : Addr} {v : V} {u : Value} (hv : RelV v u) : ∀ {ts : TsV} {xs : List (List Int × Addr × Value)}, Paired Rt ts xs → (ts.map (·.1)).Nodup → Paired Rt (putT ts k b v) (storedH xs k b u)
  | _, _, .nil, _ => .cons ⟨rfl, rfl, hv⟩ .nil
  | _, _, .cons (a := t) (b := x) (l₁ := ts) (l₂ := xs) h r, hn => by
    obtain ⟨h1, h2, h3⟩ := h
    rw [List.map_cons, List.nodup_cons] at hn
    have ih := put_rel (k := k) (b := b) hv r hn.2
    unfold putT
    by_cases e : t.1 = k
    · rw [if_pos e]
      have ex : x.1 = k := h1 ▸ e
      have a : atKey (x :: xs) k = some x.2 := by simp [atKey, List.find?_cons, ex]
      rw [storedH_old a, List.map_cons, put_id (by rw [← pair_keys r, ← e]; exact hn.1)]
      refine .cons ?_ r
      unfold putAt
      rw [if_pos ex]
      exact ⟨h1, h2, hv⟩
    · rw [if_neg e]
      have ex : ¬ x.1 = k := h1 ▸ e
      have a : atKey (x :: xs) k = atKey xs k := by simp [atKey, List.find?_cons, ex]
      cases q : atKey xs k with
      | none =>
        rw [storedH_new (a.trans q)]
        rw [storedH_new q] at ih
        exact .cons ⟨h1, h2, h3⟩ ih
      | some p =>
        rw [storedH_old (a.trans q), List.map_cons]
        rw [storedH_old q] at ih
        refine .cons ?_ ih
        unfold putAt
        rw [if_neg ex]
        exact ⟨h1, h2, h3⟩
theorem putT_len (ts : TsV) (k : List Int) (b : Addr) (v : V) : (putT ts k b v).length ≤ ts.length + 1 := by
  induction ts with
  | nil => exact Nat.le_refl _
  | cons t r ih =>
    unfold putT
    split
    · simp
    · simp only [List.length_cons]; omega
theorem putT_keys (ts : TsV) (k : List Int) (b : Addr) (v : V) : (putT ts k b v).map (·.1) = if k ∈ ts.map (·.1) then ts.map (·.1) else ts.map (·.1) ++ [k] := by
  induction ts with
  | nil => rfl
  | cons t r ih =>
    unfold putT
    by_cases e : t.1 = k
    · rw [if_pos e, if_pos (by simp [e])]; rfl
    · rw [if_neg e, List.map_cons, ih, List.map_cons]
      by_cases m : k ∈ r.map (·.1)
      · rw [if_pos m, if_pos (List.mem_cons_of_mem _ m)]
      · rw [if_neg m, if_neg (fun z => (List.mem_cons.mp z).elim (fun q => e q.symm) m)]; rfl
theorem putT_nodup {ts : TsV} {k : List Int} {b : Addr} {v : V} (h : (ts.map (·.1)).Nodup) : ((putT ts k b v).map (·.1)).Nodup := by
  rw [putT_keys]
  split
  · exact h
  · rename_i m
    refine List.nodup_append.mpr ⟨h, List.nodup_cons.mpr ⟨by simp, List.nodup_nil⟩, fun a ha c hc => ?_⟩
    rw [List.mem_singleton] at hc
    exact fun z => m (by rw [← hc, ← z]; exact ha)
section
variable {X : Cx} {pins : List (Addr × Obj)} {σ : L2.St} {H : Hp} {s : Shared}
theorem ts_at (I : Inv X pins σ H s) {a : Addr} {ts : TsV} (h : H a = some (.ext (phiD a ts))) (hk : KsOk X.K H ts) : (a == sysModules) = false ∧ ts.length ≤ sizeLine ∧ (ts.map (·.1)).Nodup ∧ ∃ xs, Paired Rt ts xs ∧ s.heap.DictOfH (tupleKind (intKind X.prog X.w)) a xs := by
  obtain ⟨⟨h1, h2, h3, xs, pr, o, es, ep, ho, he, hd, hes⟩, _, _⟩ := (show ObjOk X.prog X.w H s.heap a (.ext (phiD a ts)) from I.hok a _ h)
  refine ⟨h1, h2, h3, xs, pr, o, es, ep, ho, he, hd, hes, ?_, by rw [← pair_keys pr]; exact h3⟩
  have all : ∀ {ts : TsV} {xs : List (List Int × Addr × Value)}, Paired Rt ts xs → KsOk X.K H ts → ∀ x ∈ xs, (tupleKind (intKind X.prog X.w)).is s.heap x.1 x.2.1 := by
    intro ts xs q
    induction q with
    | nil => intro _ x hx; exact nomatch hx
    | @cons t x ts xs hq _ ih =>
      intro hk y hy
      rcases List.mem_cons.mp hy with e | hy
      · subst e
        have := key_at I (hk t List.mem_cons_self)
        rw [hq.1, hq.2.1] at this
        exact this
      · exact ih (fun t ht => hk t (List.mem_cons_of_mem _ ht)) y hy
  exact all pr hk
end
def rInD (K : PySem.W.Frag) (neg : Bool) : R2 := fun y x H Q => ∃ a b ts k, x = .ref a ∧ y = .ref b ∧ H a = some (.ext (phiD a ts)) ∧ KsOk K H ts ∧ SqT K H b (k.map V.int) ∧ Q (.bl (neg != (getT ts k).isSome)) H
theorem some_rel {k : List Int} {ts : TsV} {xs : List (List Int × Addr × Value)} (pr : Paired Rt ts xs) : (atKey xs k).isSome = (getT ts k).isSome := by
  have g := getT_rel (k := k) pr
  cases e : getT ts k with
  | none => rw [e] at g; rw [show atKey xs k = none from g]; rfl
  | some v => rw [e] at g; obtain ⟨p, hp, _⟩ := g; rw [hp]; rfl
theorem op_notInD {X : Cx} (hu : X.A.units + 64 < cLine) : OpR X (compareOp .NotIn) (rInD X.K true) := by
  intro pins s σ H y x u v Q I ry rx h
  obtain ⟨a, b, ts, k, rfl, rfl, hq, hk, hb, q⟩ := h
  cases rx; cases ry
  obtain ⟨h1, h2, h3, xs, pr, dd⟩ := ts_at I hq hk
  refine wpAny_notIn_heap (tupleKind_room_in1 (by omega)) (key_at I hb) h1 dd ?_
  rw [some_rel pr]
  exact ⟨.bl _, H, I.tok _, rfl, by simpa using q⟩
def rSetD (K : PySem.W.Frag) : V → V → V → Hp → (Hp → Prop) → Prop := fun o i v H Q => ∃ a b ts k, o = .ref a ∧ i = .ref b ∧ H a = some (.ext (phiD a ts)) ∧ KsOk K H ts ∧ SqT K H b (k.map V.int) ∧ ts.length < sizeLine ∧ Q (upd H a (.ext (phiD a (putT ts k b v))))
theorem set_dict {X : Cx} (hu : X.A.units + 64 < cLine) : PSet X (rSetD X.K) := by
  intro pins s σ H o i v ov iv u Q I ro ri rv h
  obtain ⟨a, b, ts, k, rfl, rfl, hq, hk, hb, hl, q⟩ := h
  cases ro; cases ri
  obtain ⟨h1, h2, h3, xs, pr, dd⟩ := ts_at I hq hk
  have hz : xs.length ≤ sizeLine := by have := congrArg List.length (pair_keys pr); simp at this; omega
  refine wpAny_setItem_heap (hsz := hz) (tupleKind_room_in1 (by omega)) (key_at I hb) dd fun h' dd' hs => ⟨_, ?_, q⟩
  obtain ⟨q, es, ep, hq', g2, g3, g4, _, g5⟩ := dd'
  refine I.write (x := a) (e := a) (by rw [hq]; exact True.intro) (.inl rfl) (fun c z hc e => (hs.2 c hc).trans e) ⟨q, hq'⟩ ?_
  have hp := put_rel (k := k) (b := b) rv pr h3
  have hl2 := putT_len ts k b v
  refine ⟨⟨h1, by omega, putT_nodup h3, _, hp, q, es, ep, hq', g2, g3, g4⟩, ⟨q, hq'⟩, fun m1 m2 f kk => ?_⟩
  obtain ⟨f1, f2, f3, xs', f4, o', es', ep', f5, f6⟩ := f
  exact ⟨f1, f2, f3, xs', f4, o', es', ep', kk _ f5, f6⟩
def tNewD : TE := fun _ H Q => ∀ p, H p = none → Q (.ref p) (upd H p (.ext (phiD p [])))
theorem pe_newD {X : Cx} {pos : Pos} : PE X (.Dict [] [] pos) tNewD := fun pins s σ H Q I h => by
  have hb : sysModules < s.heap.objs.size := Nat.lt_trans (by decide) (show mainGlobals < s.heap.objs.size from (I.mod.glob.keeps I.bk).lt)
  have e : (s.heap.push { cls := .type "dict", data := .dict #[] }).get? s.heap.objs.size = some { cls := .type "dict", data := .dict #[] } := Heap.get?_push_size _ rfl
  refine wpAny_Dict_empty ⟨.ref s.heap.objs.size, _, I.laid (a := s.heap.objs.size) (o := .ext (phiD s.heap.objs.size [])) (t' := s.toks) (fun _ _ q => Heap.get?_push_of_some _ q) (Nat.le_refl _) ?_, rfl, h _ (I.hok.fresh (Nat.le_refl _))⟩
  refine ⟨⟨beq_eq_false_iff_ne.mpr (Ne.symm (Nat.ne_of_lt hb)), Nat.zero_le _, List.nodup_nil, [], .nil, _, #[], 0, e, ⟨rfl, rfl, rfl⟩, rfl, rfl⟩, ⟨_, e⟩, fun m1 m2 f kk => ?_⟩
  obtain ⟨f1, f2, f3, xs', f4, o', es', ep', f5, f6⟩ := f
  exact ⟨f1, f2, f3, xs', f4, o', es', ep', kk _ f5, f6⟩
end DL
end
section
set_option Elab.async false
set_option linter.all false
set_option maxRecDepth 100000
namespace DL
open PySem L2 PyProof.Rows
variable {K : PySem.W.Frag}
def getP : List (List Int × PyData) → List Int → Option PyData
  | [], _ => none
  | t :: r, k => if t.1 = k then some t.2 else getP r k
def putP : List (List Int × PyData) → List Int → PyData → List (List Int × PyData)
  | [], k, d => [(k, d)]
  | t :: r, k, d => if t.1 = k then (t.1, d) :: r else t :: putP r k d
theorem tkI_is {H : Hp} : ∀ {ks : List PyData} {k : List Int} {vs : List V}, tkP.tkI ks = some k → IsL K H ks vs → vs = k.map V.int
  | [], _, _, e, l => by cases e; exact l
  | .int i :: ks, k, vs, e, ⟨x, xs, ev, h, l⟩ => by
    unfold tkP.tkI at e
    obtain ⟨k', e1, rfl⟩ := Option.map_eq_some_iff.mp e
    rw [ev, tkI_is e1 l, show x = V.int i from h]; rfl
  | .none :: _, _, _, e, _ => by cases e
  | .bool _ :: _, _, _, e, _ => by cases e
  | .str _ :: _, _, _, e, _ => by cases e
  | .list _ :: _, _, _, e, _ => by cases e
  | .tuple _ :: _, _, _, e, _ => by cases e
  | .dict _ :: _, _, _, e, _ => by cases e
theorem kv_ok {H : Hp} : ∀ {l : List (PyData × PyData)} {ts : TsV}, IsKV K H l ts → KsOk K H ts
  | [], _, h => by rw [show _ = [] from h]; exact fun t ht => nomatch ht
  | (k, d) :: l, _, ⟨t, tr, e, _, hk, _, r⟩ => by
    subst e
    intro y hy
    rcases List.mem_cons.mp hy with rfl | hy
    · exact hk
    · exact kv_ok r y hy
theorem int_inj : ∀ {a b : List Int}, a.map PyData.int = b.map PyData.int → a = b
  | [], [], _ => rfl
  | [], _ :: _, h => by cases h
  | _ :: _, [], h => by cases h
  | x :: a, y :: b, h => by
    rw [List.map_cons, List.map_cons] at h
    injection h with h1 h2
    injection h1 with h1
    rw [h1, int_inj h2]
theorem tkP_is {H : Hp} : ∀ {l : List (PyData × PyData)} {ts : TsV} {m : List (List Int × PyData)}, IsKV K H l ts → tkP l = some m → m.map (·.1) = ts.map (·.1) ∧ l = dctP m
  | [], _, _, h, e => by cases e; rw [show _ = [] from h]; exact ⟨rfl, rfl⟩
  | (k, d) :: l, _, m, ⟨t, tr, ev, ek, hk, h, r⟩, e => by
    subst ev ek
    unfold tkP at e
    obtain ⟨k', e1, e⟩ := Option.bind_eq_some_iff.mp e
    obtain ⟨m', e2, rfl⟩ := Option.map_eq_some_iff.mp e
    rw [tkI_map] at e1
    cases e1
    obtain ⟨a, b⟩ := tkP_is r e2
    exact ⟨by rw [List.map_cons, List.map_cons, a], by rw [b]; rfl⟩
theorem get_is {H : Hp} {k : List Int} : ∀ {m : List (List Int × PyData)} {ts : TsV}, IsKV K H (dctP m) ts → (match getP m k with
    | some d => ∃ v, getT ts k = some v ∧ Is K H d v
    | none => getT ts k = none)
  | [], _, h => by rw [show _ = [] from h]; rfl
  | (k', d) :: m, _, ⟨t, tr, ev, ek, hk, h, r⟩ => by
    subst ev
    have e1 : k' = t.1 := by
      injection ek with ek
      exact int_inj ek
    have ih := get_is (k := k) r
    unfold getP getT
    by_cases e : t.1 = k
    · rw [if_pos e, if_pos (show ((k', d) : List Int × PyData).1 = k from e1.trans e)]
      exact ⟨_, rfl, h⟩
    · rw [if_neg e, if_neg (show ¬ ((k', d) : List Int × PyData).1 = k from fun z => e (e1.symm.trans z))]
      exact ih
theorem put_is {H : Hp} {k : List Int} {b : Addr} {d : PyData} {v : V} (hb : SqT K H b (k.map V.int)) (hd : Is K H d v) : ∀ {m : List (List Int × PyData)} {ts : TsV}, IsKV K H (dctP m) ts → IsKV K H (dctP (putP m k d)) (putT ts k b v)
  | [], _, h => by rw [show _ = [] from h]; exact ⟨_, [], rfl, rfl, hb, hd, rfl⟩
  | (k', d') :: m, _, ⟨t, tr, ev, ek, hk, h, r⟩ => by
    subst ev
    have e1 : k' = t.1 := by
      injection ek with ek
      exact int_inj ek
    unfold putP putT
    by_cases e : t.1 = k
    · rw [if_pos e, if_pos (show ((k', d') : List Int × PyData).1 = k from e1.trans e)]
      exact ⟨_, tr, rfl, ek, hk, hd, r⟩
    · rw [if_neg e, if_neg (show ¬ ((k', d') : List Int × PyData).1 = k from fun z => e (e1.symm.trans z))]
      exact ⟨t, _, rfl, ek, hk, h, put_is hb hd r⟩
def fInD (neg : Bool) : PyData → PyData → Option PyData
  | .tuple ks, .dict l => (tkP l).bind fun m => (tkP.tkI ks).map fun k => .bool (neg != (getP m k).isSome)
  | _, _ => none
theorem get_some {H : Hp} {k : List Int} {m : List (List Int × PyData)} {ts : TsV} (h : IsKV K H (dctP m) ts) : (getT ts k).isSome = (getP m k).isSome := by
  have g := get_is (k := k) h
  cases e : getP m k with
  | none => rw [e] at g; rw [show getT ts k = none from g]; rfl
  | some d => rw [e] at g; obtain ⟨v, g1, _⟩ := g; rw [g1]; rfl
theorem o_inD {neg : Bool} : OR K false (rInD K neg) (fInD neg) := by
  intro S H y x dy dx d Q _ iy ix e q
  unfold fInD at e
  split at e
  · rename_i ks l
    obtain ⟨m, e1, e⟩ := Option.bind_eq_some_iff.mp e
    obtain ⟨k, e2, rfl⟩ := Option.map_eq_some_iff.mp e
    obtain ⟨a, ts, rfl, h, lv⟩ := ix
    obtain ⟨b, vs, rfl, hb, lb⟩ := iy
    obtain rfl := tkI_is e2 lb
    obtain ⟨_, rfl⟩ := tkP_is lv e1
    refine ⟨a, b, ts, k, rfl, rfl, (hid_iff.mp h).2, fun t ht => Same.tup same_hid (kv_ok lv t ht), Same.tup same_hid hb, ?_⟩
    rw [get_some lv]
    exact q _ H (fun _ _ e => e) rfl
  · cases e
def dNewK (np i : Nat) (τ : DS) : Option Out := if np ≤ i ∧ i < τ.length then some (.nx (τ.set i (some (.k [])))) else none
theorem b_newK {np : Nat} {fr : Bool} {i : Nat} : B K np (tAsg tNewD (gName i)) fr (dNewK np i) := by
  intro F S M τ σ H D out hnp f ee q
  unfold dNewK at ee
  split at ee
  · rename_i hi
    cases ee
    intro a ha
    have s := same_new ha (HO.ext (phiD a []))
    have f1 := f.hide s ha ⟨_, upd_same⟩
    have hM : ¬ M a := fun z => f.r.fresh ha (f.r.sub a z)
    exact q _ _ _ _ (f1.newM (xs := .t []) hi.2 (Nat.le_trans hnp hi.1) (.inr rfl) hM (f.hnone ha) upd_same ⟨[], rfl, rfl⟩) fun b o hn e => ⟨fun z => z.elim hn (ne_of_none e ha), s b o e⟩
  · cases ee
def dPutK (i : Nat) (e k : DX) (τ : DS) : Option Out := (e τ).bind fun p => (k p.2).bind fun q => match q.2[i]?, q.1 with
  | some (some (.k m)), .tuple ks => (tkP.tkI ks).bind fun c => if m.length < sizeLine then some (.nx (q.2.set i (some (.k (putP m c p.1))))) else none
  | _, _ => none
theorem kv_len {H : Hp} : ∀ {l : List (PyData × PyData)} {ts : TsV}, IsKV K H l ts → ts.length = l.length
  | [], _, h => by rw [show _ = [] from h]; rfl
  | (k, d) :: l, _, ⟨t, tr, e, _, _, _, r⟩ => by subst e; rw [List.length_cons, List.length_cons, kv_len r]
theorem b_putK {np : Nat} {fr f1 f2 : Bool} {i : Nat} {te tk : TE} {e k : DX} (he : E K te f1 e) (hk : E K tk f2 k) : B K np (tAsg te (gSub (tVar i) tk (rSetD K))) fr (dPutK i e k) := by
  intro F S M τ σ H D out hnp f ee q
  unfold dPutK at ee
  obtain ⟨⟨x, τ1⟩, e1, ee⟩ := Option.bind_eq_some_iff.mp ee
  obtain ⟨⟨y, τ2⟩, e2, ee⟩ := Option.bind_eq_some_iff.mp ee
  dsimp only at ee
  split at ee
  · rename_i m ks hx
    obtain ⟨c, e3, ee⟩ := Option.bind_eq_some_iff.mp ee
    split at ee
    · rename_i hml
      cases ee
      have lk1 := he.like _ _ _ e1
      have lk2 := hk.like _ _ _ e2
      refine he.weak.run S M τ σ H _ x τ1 f.r e1 fun v H1 r1 c1 i1 => ?_
      obtain ⟨zs, hz⟩ := lk2.kl hx
      obtain ⟨p, ho, hp, hM, _, _⟩ := r1.mt i (.t zs) hz
      refine ⟨.ref p, hp, hk.weak.run S M τ1 σ H1 _ _ τ2 r1 e2 fun w H2 r2 c2 i2 => ?_⟩
      obtain ⟨p', ho', hp', hM', hl, ts, rfl, lv⟩ := r2.mt i (.t m) hx
      rw [hp] at hp'; cases hp'
      have Sp := r2.sub p hM'
      obtain ⟨b, vs, rfl, hb, lb⟩ := i2
      obtain rfl := tkI_is e3 lb
      have lt : ts.length < sizeLine := by rw [kv_len lv]; unfold dctP; rw [List.length_map]; exact hml
      refine ⟨p, b, ts, c, rfl, rfl, hl, fun t ht => Same.tup same_hid (kv_ok lv t ht), Same.tup same_hid hb, lt, ?_⟩
      have cc : Chg (fun b => b = p) H2 (upd H2 p (.ext (phiD p (putT ts c b v)))) := fun b o hn e => by rw [upd_ne hn]; exact e
      have iv : Is K (hid S H2) x v := Is.mono (c2.keep r1.sub).same i1
      have f2 := f.step r2 (c1.trans c2) (lk1.trans lk2)
      have r3 := r2.setO (w := .t m) (w' := .t (putP m c x)) hx hp cc upd_same (by rw [hid_upd Sp]; exact ⟨_, rfl, put_is hb iv lv⟩)
      have c3 : Chg M H2 (upd H2 p (.ext (phiD p (putT ts c b v)))) := fun b o hn e => cc b o (fun z => hn (by subst z; exact hM')) e
      exact q S M σ _ (f2.step r3 c3 (like_setO (w := .t m) (w' := .t (putP m c x)) hx rfl)) (((c1.trans c2).trans c3).keep f.r.sub)
    · cases ee
  · cases ee
theorem inD_eq {neg : Bool} {m : List (List Int × PyData)} {k : List Int} : fInD neg (tupK k) (.dict (dctP m)) = some (.bool (neg != (getP m k).isSome)) := by
  unfold fInD tupK
  dsimp only
  rw [tkP_dct, tkI_map]; rfl
end DL
end
section
set_option Elab.async false
set_option linter.all false
set_option maxRecDepth 100000
namespace DL
open PySem L2
variable {K : PySem.W.Frag} {np : Nat}
end DL
end
section
set_option Elab.async false
set_option linter.all false
set_option maxRecDepth 100000
namespace DL
open PySem L2
variable {K : PySem.W.Frag}
def gPop : List PyData → List PyData → Option (PyData × List PyData)
  | xs, [] => match xs.getLast? with
    | some d => some (d, xs.dropLast)
    | none => none
  | _, _ => none
theorem isl_last {H : Hp} : ∀ {xs : List PyData} {vs : List V} {d : PyData}, IsL K H xs vs → xs.getLast? = some d → ∃ v, vs.getLast? = some v ∧ Is K H d v
  | [], _, _, _, e => by cases e
  | [x], _, _, ⟨v, us, e1, h, l⟩, e => by
    cases e
    cases (show us = [] from l)
    subst e1
    exact ⟨v, rfl, h⟩
  | x :: y :: xs, _, d, ⟨v, us, e1, h, l⟩, e => by
    obtain ⟨w, ws, e2, h2, l2⟩ := id l
    obtain ⟨u, g1, g2⟩ := isl_last (xs := y :: xs) l (by rw [List.getLast?_cons_cons] at e; exact e)
    subst e1
    rw [e2] at g1 ⊢
    exact ⟨u, by rw [List.getLast?_cons_cons]; exact g1, g2⟩
theorem isl_dropL {H : Hp} : ∀ {xs : List PyData} {vs : List V}, IsL K H xs vs → IsL K H xs.dropLast vs.dropLast
  | [], _, h => by rw [show _ = [] from h]; rfl
  | [x], _, ⟨v, us, e1, h, l⟩ => by
    cases (show us = [] from l)
    subst e1
    rfl
  | x :: y :: xs, _, ⟨v, us, e1, h, l⟩ => by
    obtain ⟨w, ws, e2, h2, l2⟩ := id l
    have := isl_dropL (xs := y :: xs) l
    subst e1
    rw [e2] at this ⊢
    exact ⟨v, _, rfl, h, this⟩
theorem m_pop : MR K rPop gPop := by
  intro S H a vs us xs ds d xs' Q Sa hl ll l e q
  unfold gPop at e
  split at e
  · split at e
    · rename_i d0 hd
      cases e
      cases (show us = [] from l)
      obtain ⟨v, h1, h2⟩ := isl_last ll hd
      exact ⟨a, vs, v, rfl, rfl, hl, by rw [← List.getLast?_eq_getElem?]; exact h1, q _ _ h2 (isl_dropL ll)⟩
    · cases e
  · cases e
end DL
end
section
set_option Elab.async false
set_option linter.all false
set_option maxRecDepth 100000
namespace L2
open PySem
def Itv (K : PySem.W.Frag) (a : Addr) (n : Nat) : It :=
  ⟨fun i H => ∃ xs x, SqL K H a xs ∧ xs.length = n ∧ i < n ∧ xs[n - 1 - i]? = some x, fun i H x H' => H' = H ∧ ∀ xs, SqL K H a xs → xs[n - 1 - i]? = some x, fun i _ => n ≤ i⟩
theorem turn_rev {P : Program} {w : World} {K : PySem.W.Frag} {tg : Expr} (a it : Addr) (n : Nat) : Turn P w K tg (Itv K a n) [it] it (fun i h => h.IsRevIter it a ((n : Int) - 1 - i) ∧ i ≤ n) where
  mem := by simp
  obj := fun i h st b hb => by
    have e : b = it := by simpa using hb
    subst e
    obtain ⟨⟨o, e, c, d⟩, _⟩ := st
    exact ⟨o, e, fun v z => by rw [d] at z; cases z⟩
  keep := fun i h h' st k => ⟨st.1.at fun o e => k it (by simp) o e, st.2⟩
  item := by
    intro X hP hw hK hc i pins s σ H E I hf st hg
    subst hP hw hK
    obtain ⟨xs, x, hq, hn, hi, hx⟩ := hg
    obtain ⟨its, rv, p, hz⟩ := I.list hq
    obtain ⟨u, hu, ru⟩ := rv.get hx
    obtain ⟨f0, f1, f2, f3, f4, f5⟩ := hf it (by simp)
    have e0 : ((n : Int) - 1 - i) = ((n - 1 - i : Nat) : Int) := by omega
    have st1 : s.heap.IsRevIter it a ((n - 1 - i : Nat) : Int) := by rw [← e0]; exact st.1
    refine wpAny_pyNext_rev_item st1 p.isList (x := u) (by simpa using hu) fun h' st' sb => ?_
    have st2 : h'.IsRevIter it a ((n : Int) - 1 - (i + 1 : Nat)) := by
      have e1 : ((n : Int) - 1 - (i + 1 : Nat)) = ((n - 1 - i : Nat) : Int) - 1 := by omega
      rw [e1]; exact st'
    have I1 : Inv X pins σ H { s with heap := h' } := I.turned (t' := s.toks) (fun b o hb e => (sb.2 b hb).trans e) f0 f1 f3 f4 f5
    obtain ⟨o, e, c, d⟩ := id st'
    exact ⟨u, rfl, go_of (s := { s with heap := h' }) e c d (by decide) ⟨x, H, I1, ru, ⟨rfl, fun ys hy => by rw [I.list_inj hy hq]; exact hx⟩, ⟨st2, hi⟩, fun b hb => (hf b hb).1⟩⟩
  done := by
    intro X hP hw hK hc i pins s σ H E I hf st hg
    subst hP hw hK
    have hg : n = i := Nat.le_antisymm hg st.2
    subst hg
    obtain ⟨f0, f1, f2, f3, f4, f5⟩ := hf it (by simp)
    have st1 : s.heap.IsRevIter it a (-1) := by
      have e : (-1 : Int) = (n : Int) - 1 - n := by omega
      rw [e]; exact st.1
    exact wpAny_pyNext_rev_end (I.ok.hd hc) st1 fun h' eb => ⟨rfl, I.turned (t' := s.toks) (fun b o hb e => eb b o hb e) f0 f1 f3 f4 f5⟩
  self := fun _ _ _ _ _ st h => wpAny_pyIter_revIter st.1 h
def iRev (K : PySem.W.Frag) (tl : TE) : TI := fun σ H R => tl σ H fun x H1 => ∃ a xs, x = .ref a ∧ SqL K H1 a xs ∧ R (Itv K a xs.length) H1
theorem pi_rev {X : Cx} {tg e : Expr} {te : TE} {p2 pos2 : Pos} (he : PE X e te) (hg2 : L2.Gl X "reversed") (hm2 : X.mg "reversed" = none) (hb2 : bootBuiltins "reversed" = some (.type "reversed"))
    (hn2 : ("reversed" : Str) ≠ "__name__") (hd2 : (("reversed" : Str) == ("__debug__" : Str)) = false) (hs : starEach [e] X.env = [(false, eval e X.env)] := by rfl) :
    PI X tg (.Call (.Name "reversed" p2) [e] [] pos2) (iRev X.K te) := by
  intro pins s σ H R I h
  refine wpAny_Call_Name_kw (ld_blt I hg2 hm2 hb2 ?_ hn2 hd2)
  refine PyProof.Rows.callWith_type1 ?_ (by rw [hs]; rfl) rfl
  rw [hs]
  show wpAny _ _ (spliced ((false, eval e X.env) :: backTo pos2 [])) _ _ s
  refine Calls.spliced_cons (thn (he pins s σ H _ I h) fun u s1 ⟨x, H1, I1, r1, q1⟩ => ?_)
  refine Calls.spliced_nil ?_
  obtain ⟨a, xs, rfl, hq, q⟩ := q1
  cases r1
  obtain ⟨its, rv, pl, hz⟩ := I1.list hq
  have hl := pl.isList
  refine call_reversed_list hl ?_
  have hit : (s1.heap.push (revObj a ((its.toArray.size : Int) - 1))).IsRevIter s1.heap.objs.size a ((its.toArray.size : Int) - 1) := ⟨_, Heap.get?_push_size _ rfl, rfl, rfl⟩
  refine wpAny_pyIter_revIter hit ?_
  have hlen := rv.length
  refine ⟨s1.heap.objs.size, [s1.heap.objs.size], _, _, H1, rfl, I1.kept (t' := s1.toks) fun b o e => Heap.get?_push_of_some _ e, turn_rev a _ xs.length, ?_, fun b hb => ?_, q⟩
  · have e : ((xs.length : Int) - 1 - (0 : Nat)) = (its.toArray.size : Int) - 1 := by rw [List.size_toArray]; omega
    exact ⟨by rw [e]; exact hit, Nat.zero_le _⟩
  · have e : b = s1.heap.objs.size := by simpa using hb
    subst e
    exact I1.fpOk (Nat.le_refl _) (I1.hok.fresh (Nat.le_refl _))
end L2
namespace DL
open PySem L2
variable {K : PySem.W.Frag}
def dIV (f : DX) (τ : DS) : Option (List PyData × DS) := (f τ).bind fun p => match p.1 with
  | .list ds => some (ds.reverse, p.2)
  | _ => none
theorem it_rev {fr : Bool} {t : TE} {f : DX} (h : E K t fr f) : IT K (iRev K t) (dIV f) := by
  refine ⟨fun τ d τ' e => ?_, ?_⟩
  · unfold dIV at e
    obtain ⟨⟨x, τ1⟩, e1, e⟩ := Option.bind_eq_some_iff.mp e
    dsimp only at e
    split at e
    · cases e; exact h.like _ _ _ e1
    · cases e
  intro S M τ σ H Q ds τ' r e q
  unfold dIV at e
  obtain ⟨⟨x, τ1⟩, e1, e⟩ := Option.bind_eq_some_iff.mp e
  dsimp only at e
  split at e
  · rename_i xs
    cases e
    refine h.weak.run S M τ σ H _ _ _ r e1 fun v H1 r1 c1 i1 => ?_
    have i1' : Is K (hid S H1) (.list xs) v := i1
    obtain ⟨a, vs, rfl, hl, ll⟩ := i1'
    have hlen := ll.length
    refine ⟨a, vs, rfl, SqL.of (hid_iff.mp hl).2, q _ H1 r1 c1 fun S2 H2 k => ?_⟩
    have hl2 := SqL.of (K := K) (hid_iff.mp (k.same _ _ hl)).2
    have ll2 := ll.mono k.same
    refine ⟨fun i d e => ?_, fun i hi => ?_⟩
    · have hi : i < xs.length := by
        have := (List.getElem?_eq_some_iff.mp e).1
        rwa [List.length_reverse] at this
      have e' : xs[xs.length - 1 - i]? = some d := by rw [List.getElem?_reverse hi] at e; exact e
      obtain ⟨u, h1, h2⟩ := ll2.get e'
      rw [← hlen] at h1
      refine ⟨⟨vs, u, hl2, rfl, by omega, h1⟩, fun y H3 z => ⟨z.1, ?_⟩⟩
      have := z.2 vs hl2
      rw [h1] at this; cases this
      exact h2
    · show vs.length ≤ i
      rw [List.length_reverse] at hi
      omega
  · cases e
end DL
end
set_option Elab.async false
set_option linter.all false
set_option maxRecDepth 100000
set_option maxHeartbeats 2000000
namespace My
open PySem L2 DL
local macro_rules | `(tactic| walk_at "zz") => `(tactic| first | rfl | (intro _; rfl) | exact .inl rfl | exact .inr rfl | with_unfolding_all rfl | decide | assumption)
local macro_rules | `(tactic| walk_at "dk") => `(tactic| decide +kernel)
def top (i : Nat) : Stmt := PySem.Challenge.pw_scenemend_k09_whole_boxes_parted.main.body.getD i (.Pass ⟨0, 0, 0, 0⟩)
theorem dbg__law_ahead : (("_law_ahead" : Str) == ("__debug__" : Str)) = false := by decide +kernel
theorem cls__law_ahead : (("_law_ahead" : Str) == ("__classdict__" : Str)) = false := by decide +kernel
theorem dbg__law_at : (("_law_at" : Str) == ("__debug__" : Str)) = false := by decide +kernel
theorem cls__law_at : (("_law_at" : Str) == ("__classdict__" : Str)) = false := by decide +kernel
theorem dbg__law_big : (("_law_big" : Str) == ("__debug__" : Str)) = false := by decide +kernel
theorem dbg__law_big_here : (("_law_big_here" : Str) == ("__debug__" : Str)) = false := by decide +kernel
theorem cls__law_big_here : (("_law_big_here" : Str) == ("__classdict__" : Str)) = false := by decide +kernel
theorem dbg__law_box : (("_law_box" : Str) == ("__debug__" : Str)) = false := by decide +kernel
theorem cls__law_box : (("_law_box" : Str) == ("__classdict__" : Str)) = false := by decide +kernel
theorem dbg__law_box_of : (("_law_box_of" : Str) == ("__debug__" : Str)) = false := by decide +kernel
theorem dbg__law_boxes : (("_law_boxes" : Str) == ("__debug__" : Str)) = false := by decide +kernel
theorem dbg__law_boxes_here : (("_law_boxes_here" : Str) == ("__debug__" : Str)) = false := by decide +kernel
theorem cls__law_boxes_here : (("_law_boxes_here" : Str) == ("__classdict__" : Str)) = false := by decide +kernel
theorem dbg__law_by : (("_law_by" : Str) == ("__debug__" : Str)) = false := by decide +kernel
theorem cls__law_by : (("_law_by" : Str) == ("__classdict__" : Str)) = false := by decide +kernel
theorem dbg__law_cell : (("_law_cell" : Str) == ("__debug__" : Str)) = false := by decide +kernel
theorem cls__law_cell : (("_law_cell" : Str) == ("__classdict__" : Str)) = false := by decide +kernel
theorem dbg__law_cell_at : (("_law_cell_at" : Str) == ("__debug__" : Str)) = false := by decide +kernel
theorem dbg__law_cells : (("_law_cells" : Str) == ("__debug__" : Str)) = false := by decide +kernel
theorem dbg__law_digit : (("_law_digit" : Str) == ("__debug__" : Str)) = false := by decide +kernel
theorem dbg__law_digit_here : (("_law_digit_here" : Str) == ("__debug__" : Str)) = false := by decide +kernel
theorem cls__law_digit_here : (("_law_digit_here" : Str) == ("__classdict__" : Str)) = false := by decide +kernel
theorem dbg__law_due : (("_law_due" : Str) == ("__debug__" : Str)) = false := by decide +kernel
theorem dbg__law_due_here : (("_law_due_here" : Str) == ("__debug__" : Str)) = false := by decide +kernel
theorem cls__law_due_here : (("_law_due_here" : Str) == ("__classdict__" : Str)) = false := by decide +kernel
theorem dbg__law_found : (("_law_found" : Str) == ("__debug__" : Str)) = false := by decide +kernel
theorem cls__law_found : (("_law_found" : Str) == ("__classdict__" : Str)) = false := by decide +kernel
theorem dbg__law_fresh : (("_law_fresh" : Str) == ("__debug__" : Str)) = false := by decide +kernel
theorem cls__law_fresh : (("_law_fresh" : Str) == ("__classdict__" : Str)) = false := by decide +kernel
theorem dbg__law_handed : (("_law_handed" : Str) == ("__debug__" : Str)) = false := by decide +kernel
theorem cls__law_handed : (("_law_handed" : Str) == ("__classdict__" : Str)) = false := by decide +kernel
theorem dbg__law_i : (("_law_i" : Str) == ("__debug__" : Str)) = false := by decide +kernel
theorem cls__law_i : (("_law_i" : Str) == ("__classdict__" : Str)) = false := by decide +kernel
theorem dbg__law_j : (("_law_j" : Str) == ("__debug__" : Str)) = false := by decide +kernel
theorem cls__law_j : (("_law_j" : Str) == ("__classdict__" : Str)) = false := by decide +kernel
theorem dbg__law_k : (("_law_k" : Str) == ("__debug__" : Str)) = false := by decide +kernel
theorem cls__law_k : (("_law_k" : Str) == ("__classdict__" : Str)) = false := by decide +kernel
theorem dbg__law_kept : (("_law_kept" : Str) == ("__debug__" : Str)) = false := by decide +kernel
theorem cls__law_kept : (("_law_kept" : Str) == ("__classdict__" : Str)) = false := by decide +kernel
theorem dbg__law_kind : (("_law_kind" : Str) == ("__debug__" : Str)) = false := by decide +kernel
theorem cls__law_kind : (("_law_kind" : Str) == ("__classdict__" : Str)) = false := by decide +kernel
theorem dbg__law_longer : (("_law_longer" : Str) == ("__debug__" : Str)) = false := by decide +kernel
theorem cls__law_longer : (("_law_longer" : Str) == ("__classdict__" : Str)) = false := by decide +kernel
theorem dbg__law_many : (("_law_many" : Str) == ("__debug__" : Str)) = false := by decide +kernel
theorem cls__law_many : (("_law_many" : Str) == ("__classdict__" : Str)) = false := by decide +kernel
theorem dbg__law_mine : (("_law_mine" : Str) == ("__debug__" : Str)) = false := by decide +kernel
theorem cls__law_mine : (("_law_mine" : Str) == ("__classdict__" : Str)) = false := by decide +kernel
theorem dbg__law_one : (("_law_one" : Str) == ("__debug__" : Str)) = false := by decide +kernel
theorem cls__law_one : (("_law_one" : Str) == ("__classdict__" : Str)) = false := by decide +kernel
theorem dbg__law_others : (("_law_others" : Str) == ("__debug__" : Str)) = false := by decide +kernel
theorem cls__law_others : (("_law_others" : Str) == ("__classdict__" : Str)) = false := by decide +kernel
theorem dbg__law_part : (("_law_part" : Str) == ("__debug__" : Str)) = false := by decide +kernel
theorem cls__law_part : (("_law_part" : Str) == ("__classdict__" : Str)) = false := by decide +kernel
theorem dbg__law_parts : (("_law_parts" : Str) == ("__debug__" : Str)) = false := by decide +kernel
theorem cls__law_parts : (("_law_parts" : Str) == ("__classdict__" : Str)) = false := by decide +kernel
theorem dbg__law_prime : (("_law_prime" : Str) == ("__debug__" : Str)) = false := by decide +kernel
theorem cls__law_prime : (("_law_prime" : Str) == ("__classdict__" : Str)) = false := by decide +kernel
theorem dbg__law_rest : (("_law_rest" : Str) == ("__debug__" : Str)) = false := by decide +kernel
theorem cls__law_rest : (("_law_rest" : Str) == ("__classdict__" : Str)) = false := by decide +kernel
theorem dbg__law_right : (("_law_right" : Str) == ("__debug__" : Str)) = false := by decide +kernel
theorem dbg__law_script : (("_law_script" : Str) == ("__debug__" : Str)) = false := by decide +kernel
theorem cls__law_script : (("_law_script" : Str) == ("__classdict__" : Str)) = false := by decide +kernel
theorem dbg__law_seen : (("_law_seen" : Str) == ("__debug__" : Str)) = false := by decide +kernel
theorem cls__law_seen : (("_law_seen" : Str) == ("__classdict__" : Str)) = false := by decide +kernel
theorem dbg__law_size : (("_law_size" : Str) == ("__debug__" : Str)) = false := by decide +kernel
theorem cls__law_size : (("_law_size" : Str) == ("__classdict__" : Str)) = false := by decide +kernel
theorem dbg__law_told : (("_law_told" : Str) == ("__debug__" : Str)) = false := by decide +kernel
theorem cls__law_told : (("_law_told" : Str) == ("__classdict__" : Str)) = false := by decide +kernel
theorem dbg__law_tuples : (("_law_tuples" : Str) == ("__debug__" : Str)) = false := by decide +kernel
theorem dbg__law_x : (("_law_x" : Str) == ("__debug__" : Str)) = false := by decide +kernel
theorem cls__law_x : (("_law_x" : Str) == ("__classdict__" : Str)) = false := by decide +kernel
theorem dbg__law_y : (("_law_y" : Str) == ("__debug__" : Str)) = false := by decide +kernel
theorem cls__law_y : (("_law_y" : Str) == ("__classdict__" : Str)) = false := by decide +kernel
theorem dbg_bool : (("bool" : Str) == ("__debug__" : Str)) = false := by decide +kernel
theorem nam_bool : ("bool" : Str) ≠ "__name__" := by decide +kernel
theorem dbg_bottom : (("bottom" : Str) == ("__debug__" : Str)) = false := by decide +kernel
theorem cls_bottom : (("bottom" : Str) == ("__classdict__" : Str)) = false := by decide +kernel
theorem dbg_bottom_of : (("bottom_of" : Str) == ("__debug__" : Str)) = false := by decide +kernel
theorem dbg_box : (("box" : Str) == ("__debug__" : Str)) = false := by decide +kernel
theorem cls_box : (("box" : Str) == ("__classdict__" : Str)) = false := by decide +kernel
theorem dbg_box_around : (("box_around" : Str) == ("__debug__" : Str)) = false := by decide +kernel
theorem dbg_box_less : (("box_less" : Str) == ("__debug__" : Str)) = false := by decide +kernel
theorem dbg_box_less_all : (("box_less_all" : Str) == ("__debug__" : Str)) = false := by decide +kernel
theorem dbg_box_meet : (("box_meet" : Str) == ("__debug__" : Str)) = false := by decide +kernel
theorem dbg_boxes : (("boxes" : Str) == ("__debug__" : Str)) = false := by decide +kernel
theorem cls_boxes : (("boxes" : Str) == ("__classdict__" : Str)) = false := by decide +kernel
theorem dbg_boxes_parted : (("boxes_parted" : Str) == ("__debug__" : Str)) = false := by decide +kernel
theorem dbg_enumerate : (("enumerate" : Str) == ("__debug__" : Str)) = false := by decide +kernel
theorem nam_enumerate : ("enumerate" : Str) ≠ "__name__" := by decide +kernel
theorem dbg_h : (("h" : Str) == ("__debug__" : Str)) = false := by decide +kernel
theorem cls_h : (("h" : Str) == ("__classdict__" : Str)) = false := by decide +kernel
theorem dbg_has_cells : (("has_cells" : Str) == ("__debug__" : Str)) = false := by decide +kernel
theorem dbg_inner : (("inner" : Str) == ("__debug__" : Str)) = false := by decide +kernel
theorem cls_inner : (("inner" : Str) == ("__classdict__" : Str)) = false := by decide +kernel
theorem dbg_int : (("int" : Str) == ("__debug__" : Str)) = false := by decide +kernel
theorem nam_int : ("int" : Str) ≠ "__name__" := by decide +kernel
theorem dbg_isinstance : (("isinstance" : Str) == ("__debug__" : Str)) = false := by decide +kernel
theorem nam_isinstance : ("isinstance" : Str) ≠ "__name__" := by decide +kernel
theorem dbg_last : (("last" : Str) == ("__debug__" : Str)) = false := by decide +kernel
theorem cls_last : (("last" : Str) == ("__classdict__" : Str)) = false := by decide +kernel
theorem dbg_left : (("left" : Str) == ("__debug__" : Str)) = false := by decide +kernel
theorem cls_left : (("left" : Str) == ("__classdict__" : Str)) = false := by decide +kernel
theorem dbg_len : (("len" : Str) == ("__debug__" : Str)) = false := by decide +kernel
theorem nam_len : ("len" : Str) ≠ "__name__" := by decide +kernel
theorem dbg_list : (("list" : Str) == ("__debug__" : Str)) = false := by decide +kernel
theorem nam_list : ("list" : Str) ≠ "__name__" := by decide +kernel
theorem dbg_max : (("max" : Str) == ("__debug__" : Str)) = false := by decide +kernel
theorem nam_max : ("max" : Str) ≠ "__name__" := by decide +kernel
theorem dbg_meet : (("meet" : Str) == ("__debug__" : Str)) = false := by decide +kernel
theorem cls_meet : (("meet" : Str) == ("__classdict__" : Str)) = false := by decide +kernel
theorem dbg_min : (("min" : Str) == ("__debug__" : Str)) = false := by decide +kernel
theorem nam_min : ("min" : Str) ≠ "__name__" := by decide +kernel
theorem dbg_near : (("near" : Str) == ("__debug__" : Str)) = false := by decide +kernel
theorem cls_near : (("near" : Str) == ("__classdict__" : Str)) = false := by decide +kernel
theorem dbg_next_meeting : (("next_meeting" : Str) == ("__debug__" : Str)) = false := by decide +kernel
theorem dbg_number : (("number" : Str) == ("__debug__" : Str)) = false := by decide +kernel
theorem cls_number : (("number" : Str) == ("__classdict__" : Str)) = false := by decide +kernel
theorem dbg_one : (("one" : Str) == ("__debug__" : Str)) = false := by decide +kernel
theorem cls_one : (("one" : Str) == ("__classdict__" : Str)) = false := by decide +kernel
theorem dbg_other : (("other" : Str) == ("__debug__" : Str)) = false := by decide +kernel
theorem cls_other : (("other" : Str) == ("__classdict__" : Str)) = false := by decide +kernel
theorem dbg_others : (("others" : Str) == ("__debug__" : Str)) = false := by decide +kernel
theorem cls_others : (("others" : Str) == ("__classdict__" : Str)) = false := by decide +kernel
theorem dbg_parted : (("parted" : Str) == ("__debug__" : Str)) = false := by decide +kernel
theorem cls_parted : (("parted" : Str) == ("__classdict__" : Str)) = false := by decide +kernel
theorem dbg_piece : (("piece" : Str) == ("__debug__" : Str)) = false := by decide +kernel
theorem cls_piece : (("piece" : Str) == ("__classdict__" : Str)) = false := by decide +kernel
theorem dbg_pieces : (("pieces" : Str) == ("__debug__" : Str)) = false := by decide +kernel
theorem cls_pieces : (("pieces" : Str) == ("__classdict__" : Str)) = false := by decide +kernel
theorem dbg_place : (("place" : Str) == ("__debug__" : Str)) = false := by decide +kernel
theorem cls_place : (("place" : Str) == ("__classdict__" : Str)) = false := by decide +kernel
theorem dbg_rest : (("rest" : Str) == ("__debug__" : Str)) = false := by decide +kernel
theorem cls_rest : (("rest" : Str) == ("__classdict__" : Str)) = false := by decide +kernel
theorem dbg_reversed : (("reversed" : Str) == ("__debug__" : Str)) = false := by decide +kernel
theorem nam_reversed : ("reversed" : Str) ≠ "__name__" := by decide +kernel
theorem dbg_right : (("right" : Str) == ("__debug__" : Str)) = false := by decide +kernel
theorem cls_right : (("right" : Str) == ("__classdict__" : Str)) = false := by decide +kernel
theorem dbg_right_of : (("right_of" : Str) == ("__debug__" : Str)) = false := by decide +kernel
theorem dbg_sorted : (("sorted" : Str) == ("__debug__" : Str)) = false := by decide +kernel
theorem nam_sorted : ("sorted" : Str) ≠ "__name__" := by decide +kernel
theorem dbg_top : (("top" : Str) == ("__debug__" : Str)) = false := by decide +kernel
theorem cls_top : (("top" : Str) == ("__classdict__" : Str)) = false := by decide +kernel
theorem dbg_tuple : (("tuple" : Str) == ("__debug__" : Str)) = false := by decide +kernel
theorem nam_tuple : ("tuple" : Str) ≠ "__name__" := by decide +kernel
theorem dbg_w : (("w" : Str) == ("__debug__" : Str)) = false := by decide +kernel
theorem cls_w : (("w" : Str) == ("__classdict__" : Str)) = false := by decide +kernel
theorem dbg_waiting : (("waiting" : Str) == ("__debug__" : Str)) = false := by decide +kernel
theorem cls_waiting : (("waiting" : Str) == ("__classdict__" : Str)) = false := by decide +kernel
theorem dbg_x : (("x" : Str) == ("__debug__" : Str)) = false := by decide +kernel
theorem cls_x : (("x" : Str) == ("__classdict__" : Str)) = false := by decide +kernel
theorem dbg_y : (("y" : Str) == ("__debug__" : Str)) = false := by decide +kernel
theorem cls_y : (("y" : Str) == ("__classdict__" : Str)) = false := by decide +kernel
abbrev s_L_digit : Stmt := top 13
theorem sc_L_digit : FnScope ["_law_rest", "_law_many", "_law_digit_here"] ["_law_rest", "_law_many"] (defScope s_L_digit) := ⟨rfl, rfl, rfl, by decide +kernel, rfl, by decide +kernel, by decide +kernel⟩
theorem n_L_digit_0 : L2.Loc (defScope s_L_digit) "_law_rest" := by unfold L2.Loc; decide +kernel
theorem v_L_digit_0 : Vis (defScope s_L_digit) "_law_rest" := n_L_digit_0.elim Or.inl fun h => Or.inr (Or.inl h)
theorem n_L_digit_1 : L2.Loc (defScope s_L_digit) "_law_many" := by unfold L2.Loc; decide +kernel
theorem v_L_digit_1 : Vis (defScope s_L_digit) "_law_many" := n_L_digit_1.elim Or.inl fun h => Or.inr (Or.inl h)
theorem n_L_digit_2 : L2.Loc (defScope s_L_digit) "_law_digit_here" := by unfold L2.Loc; decide +kernel
theorem v_L_digit_2 : Vis (defScope s_L_digit) "_law_digit_here" := n_L_digit_2.elim Or.inl fun h => Or.inr (Or.inl h)
abbrev s_L_box_of : Stmt := top 15
theorem sc_L_box_of : FnScope ["_law_rest", "_law_x", "_law_y"] ["_law_rest"] (defScope s_L_box_of) := ⟨rfl, rfl, rfl, by decide +kernel, rfl, by decide +kernel, by decide +kernel⟩
theorem n_L_box_of_0 : L2.Loc (defScope s_L_box_of) "_law_rest" := by unfold L2.Loc; decide +kernel
theorem v_L_box_of_0 : Vis (defScope s_L_box_of) "_law_rest" := n_L_box_of_0.elim Or.inl fun h => Or.inr (Or.inl h)
theorem n_L_box_of_1 : L2.Loc (defScope s_L_box_of) "_law_x" := by unfold L2.Loc; decide +kernel
theorem v_L_box_of_1 : Vis (defScope s_L_box_of) "_law_x" := n_L_box_of_1.elim Or.inl fun h => Or.inr (Or.inl h)
theorem n_L_box_of_2 : L2.Loc (defScope s_L_box_of) "_law_y" := by unfold L2.Loc; decide +kernel
theorem v_L_box_of_2 : Vis (defScope s_L_box_of) "_law_y" := n_L_box_of_2.elim Or.inl fun h => Or.inr (Or.inl h)
theorem g_L_box_of__law_digit : (defScope s_L_box_of).names.lookup ("_law_digit" : Str) = some NameKind.globalImplicit := by decide +kernel
abbrev s_L_boxes : Stmt := top 17
theorem sc_L_boxes : FnScope ["_law_rest", "_law_boxes_here", "_law_k", "_law_box", "_law_kind"] ["_law_rest"] (defScope s_L_boxes) := ⟨rfl, rfl, rfl, by decide +kernel, rfl, by decide +kernel, by decide +kernel⟩
theorem n_L_boxes_0 : L2.Loc (defScope s_L_boxes) "_law_rest" := by unfold L2.Loc; decide +kernel
theorem v_L_boxes_0 : Vis (defScope s_L_boxes) "_law_rest" := n_L_boxes_0.elim Or.inl fun h => Or.inr (Or.inl h)
theorem n_L_boxes_1 : L2.Loc (defScope s_L_boxes) "_law_boxes_here" := by unfold L2.Loc; decide +kernel
theorem v_L_boxes_1 : Vis (defScope s_L_boxes) "_law_boxes_here" := n_L_boxes_1.elim Or.inl fun h => Or.inr (Or.inl h)
theorem n_L_boxes_2 : L2.Loc (defScope s_L_boxes) "_law_k" := by unfold L2.Loc; decide +kernel
theorem n_L_boxes_3 : L2.Loc (defScope s_L_boxes) "_law_box" := by unfold L2.Loc; decide +kernel
theorem v_L_boxes_3 : Vis (defScope s_L_boxes) "_law_box" := n_L_boxes_3.elim Or.inl fun h => Or.inr (Or.inl h)
theorem n_L_boxes_4 : L2.Loc (defScope s_L_boxes) "_law_kind" := by unfold L2.Loc; decide +kernel
theorem v_L_boxes_4 : Vis (defScope s_L_boxes) "_law_kind" := n_L_boxes_4.elim Or.inl fun h => Or.inr (Or.inl h)
theorem g_L_boxes__law_digit : (defScope s_L_boxes).names.lookup ("_law_digit" : Str) = some NameKind.globalImplicit := by decide +kernel
theorem g_L_boxes_range : (defScope s_L_boxes).names.lookup ("range" : Str) = some NameKind.globalImplicit := by decide +kernel
theorem g_L_boxes__law_box_of : (defScope s_L_boxes).names.lookup ("_law_box_of" : Str) = some NameKind.globalImplicit := by decide +kernel
abbrev s_right_of : Stmt := top 1
theorem sc_right_of : FnScope ["box"] ["box"] (defScope s_right_of) := ⟨rfl, rfl, rfl, by decide +kernel, rfl, by decide +kernel, by decide +kernel⟩
theorem n_right_of_0 : L2.Loc (defScope s_right_of) "box" := by unfold L2.Loc; decide +kernel
theorem v_right_of_0 : Vis (defScope s_right_of) "box" := n_right_of_0.elim Or.inl fun h => Or.inr (Or.inl h)
abbrev s_bottom_of : Stmt := top 2
theorem sc_bottom_of : FnScope ["box"] ["box"] (defScope s_bottom_of) := ⟨rfl, rfl, rfl, by decide +kernel, rfl, by decide +kernel, by decide +kernel⟩
theorem n_bottom_of_0 : L2.Loc (defScope s_bottom_of) "box" := by unfold L2.Loc; decide +kernel
theorem v_bottom_of_0 : Vis (defScope s_bottom_of) "box" := n_bottom_of_0.elim Or.inl fun h => Or.inr (Or.inl h)
abbrev s_next_meeting : Stmt := top 7
theorem sc_next_meeting : FnScope ["box", "others", "place", "left", "top", "right", "bottom", "number", "other"] ["box", "others", "place"] (defScope s_next_meeting) := ⟨rfl, rfl, rfl, by decide +kernel, rfl, by decide +kernel, by decide +kernel⟩
theorem n_next_meeting_0 : L2.Loc (defScope s_next_meeting) "box" := by unfold L2.Loc; decide +kernel
theorem v_next_meeting_0 : Vis (defScope s_next_meeting) "box" := n_next_meeting_0.elim Or.inl fun h => Or.inr (Or.inl h)
theorem n_next_meeting_1 : L2.Loc (defScope s_next_meeting) "others" := by unfold L2.Loc; decide +kernel
theorem v_next_meeting_1 : Vis (defScope s_next_meeting) "others" := n_next_meeting_1.elim Or.inl fun h => Or.inr (Or.inl h)
theorem n_next_meeting_2 : L2.Loc (defScope s_next_meeting) "place" := by unfold L2.Loc; decide +kernel
theorem v_next_meeting_2 : Vis (defScope s_next_meeting) "place" := n_next_meeting_2.elim Or.inl fun h => Or.inr (Or.inl h)
theorem n_next_meeting_3 : L2.Loc (defScope s_next_meeting) "left" := by unfold L2.Loc; decide +kernel
theorem v_next_meeting_3 : Vis (defScope s_next_meeting) "left" := n_next_meeting_3.elim Or.inl fun h => Or.inr (Or.inl h)
theorem n_next_meeting_4 : L2.Loc (defScope s_next_meeting) "top" := by unfold L2.Loc; decide +kernel
theorem v_next_meeting_4 : Vis (defScope s_next_meeting) "top" := n_next_meeting_4.elim Or.inl fun h => Or.inr (Or.inl h)
theorem n_next_meeting_5 : L2.Loc (defScope s_next_meeting) "right" := by unfold L2.Loc; decide +kernel
theorem v_next_meeting_5 : Vis (defScope s_next_meeting) "right" := n_next_meeting_5.elim Or.inl fun h => Or.inr (Or.inl h)
theorem n_next_meeting_6 : L2.Loc (defScope s_next_meeting) "bottom" := by unfold L2.Loc; decide +kernel
theorem v_next_meeting_6 : Vis (defScope s_next_meeting) "bottom" := n_next_meeting_6.elim Or.inl fun h => Or.inr (Or.inl h)
theorem n_next_meeting_7 : L2.Loc (defScope s_next_meeting) "number" := by unfold L2.Loc; decide +kernel
theorem v_next_meeting_7 : Vis (defScope s_next_meeting) "number" := n_next_meeting_7.elim Or.inl fun h => Or.inr (Or.inl h)
theorem n_next_meeting_8 : L2.Loc (defScope s_next_meeting) "other" := by unfold L2.Loc; decide +kernel
theorem v_next_meeting_8 : Vis (defScope s_next_meeting) "other" := n_next_meeting_8.elim Or.inl fun h => Or.inr (Or.inl h)
theorem g_next_meeting_right_of : (defScope s_next_meeting).names.lookup ("right_of" : Str) = some NameKind.globalImplicit := by decide +kernel
theorem g_next_meeting_bottom_of : (defScope s_next_meeting).names.lookup ("bottom_of" : Str) = some NameKind.globalImplicit := by decide +kernel
theorem g_next_meeting_len : (defScope s_next_meeting).names.lookup ("len" : Str) = some NameKind.globalImplicit := by decide +kernel
theorem g_next_meeting_range : (defScope s_next_meeting).names.lookup ("range" : Str) = some NameKind.globalImplicit := by decide +kernel
abbrev s_has_cells : Stmt := top 3
theorem sc_has_cells : FnScope ["box"] ["box"] (defScope s_has_cells) := ⟨rfl, rfl, rfl, by decide +kernel, rfl, by decide +kernel, by decide +kernel⟩
theorem n_has_cells_0 : L2.Loc (defScope s_has_cells) "box" := by unfold L2.Loc; decide +kernel
theorem v_has_cells_0 : Vis (defScope s_has_cells) "box" := n_has_cells_0.elim Or.inl fun h => Or.inr (Or.inl h)
abbrev s_box_meet : Stmt := top 4
theorem sc_box_meet : FnScope ["one", "other", "x", "y", "w", "h", "meet"] ["one", "other"] (defScope s_box_meet) := ⟨rfl, rfl, rfl, by decide +kernel, rfl, by decide +kernel, by decide +kernel⟩
theorem n_box_meet_0 : L2.Loc (defScope s_box_meet) "one" := by unfold L2.Loc; decide +kernel
theorem v_box_meet_0 : Vis (defScope s_box_meet) "one" := n_box_meet_0.elim Or.inl fun h => Or.inr (Or.inl h)
theorem n_box_meet_1 : L2.Loc (defScope s_box_meet) "other" := by unfold L2.Loc; decide +kernel
theorem v_box_meet_1 : Vis (defScope s_box_meet) "other" := n_box_meet_1.elim Or.inl fun h => Or.inr (Or.inl h)
theorem n_box_meet_2 : L2.Loc (defScope s_box_meet) "x" := by unfold L2.Loc; decide +kernel
theorem v_box_meet_2 : Vis (defScope s_box_meet) "x" := n_box_meet_2.elim Or.inl fun h => Or.inr (Or.inl h)
theorem n_box_meet_3 : L2.Loc (defScope s_box_meet) "y" := by unfold L2.Loc; decide +kernel
theorem v_box_meet_3 : Vis (defScope s_box_meet) "y" := n_box_meet_3.elim Or.inl fun h => Or.inr (Or.inl h)
theorem n_box_meet_4 : L2.Loc (defScope s_box_meet) "w" := by unfold L2.Loc; decide +kernel
theorem v_box_meet_4 : Vis (defScope s_box_meet) "w" := n_box_meet_4.elim Or.inl fun h => Or.inr (Or.inl h)
theorem n_box_meet_5 : L2.Loc (defScope s_box_meet) "h" := by unfold L2.Loc; decide +kernel
theorem v_box_meet_5 : Vis (defScope s_box_meet) "h" := n_box_meet_5.elim Or.inl fun h => Or.inr (Or.inl h)
theorem n_box_meet_6 : L2.Loc (defScope s_box_meet) "meet" := by unfold L2.Loc; decide +kernel
theorem v_box_meet_6 : Vis (defScope s_box_meet) "meet" := n_box_meet_6.elim Or.inl fun h => Or.inr (Or.inl h)
theorem g_box_meet_max : (defScope s_box_meet).names.lookup ("max" : Str) = some NameKind.globalImplicit := by decide +kernel
theorem g_box_meet_right_of : (defScope s_box_meet).names.lookup ("right_of" : Str) = some NameKind.globalImplicit := by decide +kernel
theorem g_box_meet_min : (defScope s_box_meet).names.lookup ("min" : Str) = some NameKind.globalImplicit := by decide +kernel
theorem g_box_meet_bottom_of : (defScope s_box_meet).names.lookup ("bottom_of" : Str) = some NameKind.globalImplicit := by decide +kernel
theorem g_box_meet_has_cells : (defScope s_box_meet).names.lookup ("has_cells" : Str) = some NameKind.globalImplicit := by decide +kernel
abbrev s_box_around : Stmt := top 6
theorem sc_box_around : FnScope ["box", "inner", "right", "bottom", "pieces"] ["box", "inner"] (defScope s_box_around) := ⟨rfl, rfl, rfl, by decide +kernel, rfl, by decide +kernel, by decide +kernel⟩
theorem n_box_around_0 : L2.Loc (defScope s_box_around) "box" := by unfold L2.Loc; decide +kernel
theorem v_box_around_0 : Vis (defScope s_box_around) "box" := n_box_around_0.elim Or.inl fun h => Or.inr (Or.inl h)
theorem n_box_around_1 : L2.Loc (defScope s_box_around) "inner" := by unfold L2.Loc; decide +kernel
theorem v_box_around_1 : Vis (defScope s_box_around) "inner" := n_box_around_1.elim Or.inl fun h => Or.inr (Or.inl h)
theorem n_box_around_2 : L2.Loc (defScope s_box_around) "right" := by unfold L2.Loc; decide +kernel
theorem v_box_around_2 : Vis (defScope s_box_around) "right" := n_box_around_2.elim Or.inl fun h => Or.inr (Or.inl h)
theorem n_box_around_3 : L2.Loc (defScope s_box_around) "bottom" := by unfold L2.Loc; decide +kernel
theorem v_box_around_3 : Vis (defScope s_box_around) "bottom" := n_box_around_3.elim Or.inl fun h => Or.inr (Or.inl h)
theorem n_box_around_4 : L2.Loc (defScope s_box_around) "pieces" := by unfold L2.Loc; decide +kernel
theorem v_box_around_4 : Vis (defScope s_box_around) "pieces" := n_box_around_4.elim Or.inl fun h => Or.inr (Or.inl h)
theorem g_box_around_right_of : (defScope s_box_around).names.lookup ("right_of" : Str) = some NameKind.globalImplicit := by decide +kernel
theorem g_box_around_bottom_of : (defScope s_box_around).names.lookup ("bottom_of" : Str) = some NameKind.globalImplicit := by decide +kernel
abbrev s_box_less : Stmt := top 5
theorem sc_box_less : FnScope ["one", "other", "meet"] ["one", "other"] (defScope s_box_less) := ⟨rfl, rfl, rfl, by decide +kernel, rfl, by decide +kernel, by decide +kernel⟩
theorem n_box_less_0 : L2.Loc (defScope s_box_less) "one" := by unfold L2.Loc; decide +kernel
theorem v_box_less_0 : Vis (defScope s_box_less) "one" := n_box_less_0.elim Or.inl fun h => Or.inr (Or.inl h)
theorem n_box_less_1 : L2.Loc (defScope s_box_less) "other" := by unfold L2.Loc; decide +kernel
theorem v_box_less_1 : Vis (defScope s_box_less) "other" := n_box_less_1.elim Or.inl fun h => Or.inr (Or.inl h)
theorem n_box_less_2 : L2.Loc (defScope s_box_less) "meet" := by unfold L2.Loc; decide +kernel
theorem v_box_less_2 : Vis (defScope s_box_less) "meet" := n_box_less_2.elim Or.inl fun h => Or.inr (Or.inl h)
theorem g_box_less_box_meet : (defScope s_box_less).names.lookup ("box_meet" : Str) = some NameKind.globalImplicit := by decide +kernel
theorem g_box_less_box_around : (defScope s_box_less).names.lookup ("box_around" : Str) = some NameKind.globalImplicit := by decide +kernel
abbrev s_box_less_all : Stmt := top 8
theorem sc_box_less_all : FnScope ["box", "others", "rest", "waiting", "last", "place", "piece"] ["box", "others"] (defScope s_box_less_all) := ⟨rfl, rfl, rfl, by decide +kernel, rfl, by decide +kernel, by decide +kernel⟩
theorem n_box_less_all_0 : L2.Loc (defScope s_box_less_all) "box" := by unfold L2.Loc; decide +kernel
theorem v_box_less_all_0 : Vis (defScope s_box_less_all) "box" := n_box_less_all_0.elim Or.inl fun h => Or.inr (Or.inl h)
theorem n_box_less_all_1 : L2.Loc (defScope s_box_less_all) "others" := by unfold L2.Loc; decide +kernel
theorem v_box_less_all_1 : Vis (defScope s_box_less_all) "others" := n_box_less_all_1.elim Or.inl fun h => Or.inr (Or.inl h)
theorem n_box_less_all_2 : L2.Loc (defScope s_box_less_all) "rest" := by unfold L2.Loc; decide +kernel
theorem v_box_less_all_2 : Vis (defScope s_box_less_all) "rest" := n_box_less_all_2.elim Or.inl fun h => Or.inr (Or.inl h)
theorem n_box_less_all_3 : L2.Loc (defScope s_box_less_all) "waiting" := by unfold L2.Loc; decide +kernel
theorem v_box_less_all_3 : Vis (defScope s_box_less_all) "waiting" := n_box_less_all_3.elim Or.inl fun h => Or.inr (Or.inl h)
theorem n_box_less_all_4 : L2.Loc (defScope s_box_less_all) "last" := by unfold L2.Loc; decide +kernel
theorem v_box_less_all_4 : Vis (defScope s_box_less_all) "last" := n_box_less_all_4.elim Or.inl fun h => Or.inr (Or.inl h)
theorem n_box_less_all_5 : L2.Loc (defScope s_box_less_all) "place" := by unfold L2.Loc; decide +kernel
theorem v_box_less_all_5 : Vis (defScope s_box_less_all) "place" := n_box_less_all_5.elim Or.inl fun h => Or.inr (Or.inl h)
theorem n_box_less_all_6 : L2.Loc (defScope s_box_less_all) "piece" := by unfold L2.Loc; decide +kernel
theorem v_box_less_all_6 : Vis (defScope s_box_less_all) "piece" := n_box_less_all_6.elim Or.inl fun h => Or.inr (Or.inl h)
theorem g_box_less_all_len : (defScope s_box_less_all).names.lookup ("len" : Str) = some NameKind.globalImplicit := by decide +kernel
theorem g_box_less_all_next_meeting : (defScope s_box_less_all).names.lookup ("next_meeting" : Str) = some NameKind.globalImplicit := by decide +kernel
theorem g_box_less_all_box_less : (defScope s_box_less_all).names.lookup ("box_less" : Str) = some NameKind.globalImplicit := by decide +kernel
theorem g_box_less_all_reversed : (defScope s_box_less_all).names.lookup ("reversed" : Str) = some NameKind.globalImplicit := by decide +kernel
abbrev s_boxes_parted : Stmt := top 9
theorem sc_boxes_parted : FnScope ["boxes", "parted", "place", "box", "near"] ["boxes"] (defScope s_boxes_parted) := ⟨rfl, rfl, rfl, by decide +kernel, rfl, by decide +kernel, by decide +kernel⟩
theorem n_boxes_parted_0 : L2.Loc (defScope s_boxes_parted) "boxes" := by unfold L2.Loc; decide +kernel
theorem v_boxes_parted_0 : Vis (defScope s_boxes_parted) "boxes" := n_boxes_parted_0.elim Or.inl fun h => Or.inr (Or.inl h)
theorem n_boxes_parted_1 : L2.Loc (defScope s_boxes_parted) "parted" := by unfold L2.Loc; decide +kernel
theorem v_boxes_parted_1 : Vis (defScope s_boxes_parted) "parted" := n_boxes_parted_1.elim Or.inl fun h => Or.inr (Or.inl h)
theorem n_boxes_parted_2 : L2.Loc (defScope s_boxes_parted) "place" := by unfold L2.Loc; decide +kernel
theorem v_boxes_parted_2 : Vis (defScope s_boxes_parted) "place" := n_boxes_parted_2.elim Or.inl fun h => Or.inr (Or.inl h)
theorem n_boxes_parted_3 : L2.Loc (defScope s_boxes_parted) "box" := by unfold L2.Loc; decide +kernel
theorem v_boxes_parted_3 : Vis (defScope s_boxes_parted) "box" := n_boxes_parted_3.elim Or.inl fun h => Or.inr (Or.inl h)
theorem n_boxes_parted_4 : L2.Loc (defScope s_boxes_parted) "near" := by unfold L2.Loc; decide +kernel
theorem v_boxes_parted_4 : Vis (defScope s_boxes_parted) "near" := n_boxes_parted_4.elim Or.inl fun h => Or.inr (Or.inl h)
theorem l_boxes_parted_4 : (defScope s_boxes_parted).names.lookup ("near" : Str) = some NameKind.local := by decide +kernel
theorem g_boxes_parted_enumerate : (defScope s_boxes_parted).names.lookup ("enumerate" : Str) = some NameKind.globalImplicit := by decide +kernel
theorem g_boxes_parted_box_less_all : (defScope s_boxes_parted).names.lookup ("box_less_all" : Str) = some NameKind.globalImplicit := by decide +kernel
theorem nd0_boxes_parted : List.Nodup (["other", "box"] : List Str) := by decide +kernel
abbrev s_L_due : Stmt := top 18
theorem sc_L_due : FnScope ["_law_boxes_here", "_law_due_here", "_law_k", "_law_parts", "_law_ahead", "_law_longer", "_law_part"] ["_law_boxes_here"] (defScope s_L_due) := ⟨rfl, rfl, rfl, by decide +kernel, rfl, by decide +kernel, by decide +kernel⟩
theorem n_L_due_0 : L2.Loc (defScope s_L_due) "_law_boxes_here" := by unfold L2.Loc; decide +kernel
theorem v_L_due_0 : Vis (defScope s_L_due) "_law_boxes_here" := n_L_due_0.elim Or.inl fun h => Or.inr (Or.inl h)
theorem n_L_due_1 : L2.Loc (defScope s_L_due) "_law_due_here" := by unfold L2.Loc; decide +kernel
theorem v_L_due_1 : Vis (defScope s_L_due) "_law_due_here" := n_L_due_1.elim Or.inl fun h => Or.inr (Or.inl h)
theorem n_L_due_2 : L2.Loc (defScope s_L_due) "_law_k" := by unfold L2.Loc; decide +kernel
theorem v_L_due_2 : Vis (defScope s_L_due) "_law_k" := n_L_due_2.elim Or.inl fun h => Or.inr (Or.inl h)
theorem n_L_due_3 : L2.Loc (defScope s_L_due) "_law_parts" := by unfold L2.Loc; decide +kernel
theorem v_L_due_3 : Vis (defScope s_L_due) "_law_parts" := n_L_due_3.elim Or.inl fun h => Or.inr (Or.inl h)
theorem n_L_due_4 : L2.Loc (defScope s_L_due) "_law_ahead" := by unfold L2.Loc; decide +kernel
theorem v_L_due_4 : Vis (defScope s_L_due) "_law_ahead" := n_L_due_4.elim Or.inl fun h => Or.inr (Or.inl h)
theorem n_L_due_5 : L2.Loc (defScope s_L_due) "_law_longer" := by unfold L2.Loc; decide +kernel
theorem v_L_due_5 : Vis (defScope s_L_due) "_law_longer" := n_L_due_5.elim Or.inl fun h => Or.inr (Or.inl h)
theorem n_L_due_6 : L2.Loc (defScope s_L_due) "_law_part" := by unfold L2.Loc; decide +kernel
theorem v_L_due_6 : Vis (defScope s_L_due) "_law_part" := n_L_due_6.elim Or.inl fun h => Or.inr (Or.inl h)
theorem g_L_due_len : (defScope s_L_due).names.lookup ("len" : Str) = some NameKind.globalImplicit := by decide +kernel
theorem g_L_due_range : (defScope s_L_due).names.lookup ("range" : Str) = some NameKind.globalImplicit := by decide +kernel
theorem g_L_due_box_less : (defScope s_L_due).names.lookup ("box_less" : Str) = some NameKind.globalImplicit := by decide +kernel
abbrev s_L_cell_at : Stmt := top 11
theorem sc_L_cell_at : FnScope ["_law_script", "_law_k"] ["_law_script", "_law_k"] (defScope s_L_cell_at) := ⟨rfl, rfl, rfl, by decide +kernel, rfl, by decide +kernel, by decide +kernel⟩
theorem n_L_cell_at_0 : L2.Loc (defScope s_L_cell_at) "_law_script" := by unfold L2.Loc; decide +kernel
theorem v_L_cell_at_0 : Vis (defScope s_L_cell_at) "_law_script" := n_L_cell_at_0.elim Or.inl fun h => Or.inr (Or.inl h)
theorem n_L_cell_at_1 : L2.Loc (defScope s_L_cell_at) "_law_k" := by unfold L2.Loc; decide +kernel
theorem v_L_cell_at_1 : Vis (defScope s_L_cell_at) "_law_k" := n_L_cell_at_1.elim Or.inl fun h => Or.inr (Or.inl h)
theorem g_L_cell_at_len : (defScope s_L_cell_at).names.lookup ("len" : Str) = some NameKind.globalImplicit := by decide +kernel
abbrev s_L_big : Stmt := top 12
theorem sc_L_big : FnScope ["_law_script", "_law_at", "_law_by", "_law_prime", "_law_cell", "_law_big_here", "_law_k", "_law_one"] ["_law_script", "_law_at"] (defScope s_L_big) := ⟨rfl, rfl, rfl, by decide +kernel, rfl, by decide +kernel, by decide +kernel⟩
theorem n_L_big_0 : L2.Loc (defScope s_L_big) "_law_script" := by unfold L2.Loc; decide +kernel
theorem v_L_big_0 : Vis (defScope s_L_big) "_law_script" := n_L_big_0.elim Or.inl fun h => Or.inr (Or.inl h)
theorem n_L_big_1 : L2.Loc (defScope s_L_big) "_law_at" := by unfold L2.Loc; decide +kernel
theorem v_L_big_1 : Vis (defScope s_L_big) "_law_at" := n_L_big_1.elim Or.inl fun h => Or.inr (Or.inl h)
theorem n_L_big_2 : L2.Loc (defScope s_L_big) "_law_by" := by unfold L2.Loc; decide +kernel
theorem v_L_big_2 : Vis (defScope s_L_big) "_law_by" := n_L_big_2.elim Or.inl fun h => Or.inr (Or.inl h)
theorem n_L_big_3 : L2.Loc (defScope s_L_big) "_law_prime" := by unfold L2.Loc; decide +kernel
theorem v_L_big_3 : Vis (defScope s_L_big) "_law_prime" := n_L_big_3.elim Or.inl fun h => Or.inr (Or.inl h)
theorem n_L_big_4 : L2.Loc (defScope s_L_big) "_law_cell" := by unfold L2.Loc; decide +kernel
theorem v_L_big_4 : Vis (defScope s_L_big) "_law_cell" := n_L_big_4.elim Or.inl fun h => Or.inr (Or.inl h)
theorem n_L_big_5 : L2.Loc (defScope s_L_big) "_law_big_here" := by unfold L2.Loc; decide +kernel
theorem v_L_big_5 : Vis (defScope s_L_big) "_law_big_here" := n_L_big_5.elim Or.inl fun h => Or.inr (Or.inl h)
theorem n_L_big_6 : L2.Loc (defScope s_L_big) "_law_k" := by unfold L2.Loc; decide +kernel
theorem v_L_big_6 : Vis (defScope s_L_big) "_law_k" := n_L_big_6.elim Or.inl fun h => Or.inr (Or.inl h)
theorem n_L_big_7 : L2.Loc (defScope s_L_big) "_law_one" := by unfold L2.Loc; decide +kernel
theorem v_L_big_7 : Vis (defScope s_L_big) "_law_one" := n_L_big_7.elim Or.inl fun h => Or.inr (Or.inl h)
theorem g_L_big__law_cell_at : (defScope s_L_big).names.lookup ("_law_cell_at" : Str) = some NameKind.globalImplicit := by decide +kernel
theorem g_L_big_range : (defScope s_L_big).names.lookup ("range" : Str) = some NameKind.globalImplicit := by decide +kernel
abbrev s_L_tuples : Stmt := top 14
theorem sc_L_tuples : FnScope ["_law_found", "_law_size", "_law_one", "_law_part"] ["_law_found", "_law_size"] (defScope s_L_tuples) := ⟨rfl, rfl, rfl, by decide +kernel, rfl, by decide +kernel, by decide +kernel⟩
theorem n_L_tuples_0 : L2.Loc (defScope s_L_tuples) "_law_found" := by unfold L2.Loc; decide +kernel
theorem v_L_tuples_0 : Vis (defScope s_L_tuples) "_law_found" := n_L_tuples_0.elim Or.inl fun h => Or.inr (Or.inl h)
theorem n_L_tuples_1 : L2.Loc (defScope s_L_tuples) "_law_size" := by unfold L2.Loc; decide +kernel
theorem v_L_tuples_1 : Vis (defScope s_L_tuples) "_law_size" := n_L_tuples_1.elim Or.inl fun h => Or.inr (Or.inl h)
theorem n_L_tuples_2 : L2.Loc (defScope s_L_tuples) "_law_one" := by unfold L2.Loc; decide +kernel
theorem v_L_tuples_2 : Vis (defScope s_L_tuples) "_law_one" := n_L_tuples_2.elim Or.inl fun h => Or.inr (Or.inl h)
theorem n_L_tuples_3 : L2.Loc (defScope s_L_tuples) "_law_part" := by unfold L2.Loc; decide +kernel
theorem v_L_tuples_3 : Vis (defScope s_L_tuples) "_law_part" := n_L_tuples_3.elim Or.inl fun h => Or.inr (Or.inl h)
theorem g_L_tuples_list : (defScope s_L_tuples).names.lookup ("list" : Str) = some NameKind.globalImplicit := by decide +kernel
theorem g_L_tuples_isinstance : (defScope s_L_tuples).names.lookup ("isinstance" : Str) = some NameKind.globalImplicit := by decide +kernel
theorem g_L_tuples_len : (defScope s_L_tuples).names.lookup ("len" : Str) = some NameKind.globalImplicit := by decide +kernel
theorem g_L_tuples_tuple : (defScope s_L_tuples).names.lookup ("tuple" : Str) = some NameKind.globalImplicit := by decide +kernel
theorem g_L_tuples_bool : (defScope s_L_tuples).names.lookup ("bool" : Str) = some NameKind.globalImplicit := by decide +kernel
theorem g_L_tuples_int : (defScope s_L_tuples).names.lookup ("int" : Str) = some NameKind.globalImplicit := by decide +kernel
abbrev s_L_cells : Stmt := top 16
theorem sc_L_cells : FnScope ["_law_box", "_law_found", "_law_j", "_law_i"] ["_law_box"] (defScope s_L_cells) := ⟨rfl, rfl, rfl, by decide +kernel, rfl, by decide +kernel, by decide +kernel⟩
theorem n_L_cells_0 : L2.Loc (defScope s_L_cells) "_law_box" := by unfold L2.Loc; decide +kernel
theorem v_L_cells_0 : Vis (defScope s_L_cells) "_law_box" := n_L_cells_0.elim Or.inl fun h => Or.inr (Or.inl h)
theorem n_L_cells_1 : L2.Loc (defScope s_L_cells) "_law_found" := by unfold L2.Loc; decide +kernel
theorem v_L_cells_1 : Vis (defScope s_L_cells) "_law_found" := n_L_cells_1.elim Or.inl fun h => Or.inr (Or.inl h)
theorem n_L_cells_2 : L2.Loc (defScope s_L_cells) "_law_j" := by unfold L2.Loc; decide +kernel
theorem v_L_cells_2 : Vis (defScope s_L_cells) "_law_j" := n_L_cells_2.elim Or.inl fun h => Or.inr (Or.inl h)
theorem n_L_cells_3 : L2.Loc (defScope s_L_cells) "_law_i" := by unfold L2.Loc; decide +kernel
theorem v_L_cells_3 : Vis (defScope s_L_cells) "_law_i" := n_L_cells_3.elim Or.inl fun h => Or.inr (Or.inl h)
theorem g_L_cells_range : (defScope s_L_cells).names.lookup ("range" : Str) = some NameKind.globalImplicit := by decide +kernel
abbrev s_L_right : Stmt := top 19
theorem sc_L_right : FnScope ["_law_boxes_here", "_law_told", "_law_seen", "_law_at", "_law_box", "_law_fresh", "_law_mine", "_law_cell"] ["_law_boxes_here", "_law_told"] (defScope s_L_right) := ⟨rfl, rfl, rfl, by decide +kernel, rfl, by decide +kernel, by decide +kernel⟩
theorem n_L_right_0 : L2.Loc (defScope s_L_right) "_law_boxes_here" := by unfold L2.Loc; decide +kernel
theorem v_L_right_0 : Vis (defScope s_L_right) "_law_boxes_here" := n_L_right_0.elim Or.inl fun h => Or.inr (Or.inl h)
theorem n_L_right_1 : L2.Loc (defScope s_L_right) "_law_told" := by unfold L2.Loc; decide +kernel
theorem v_L_right_1 : Vis (defScope s_L_right) "_law_told" := n_L_right_1.elim Or.inl fun h => Or.inr (Or.inl h)
theorem n_L_right_2 : L2.Loc (defScope s_L_right) "_law_seen" := by unfold L2.Loc; decide +kernel
theorem v_L_right_2 : Vis (defScope s_L_right) "_law_seen" := n_L_right_2.elim Or.inl fun h => Or.inr (Or.inl h)
theorem n_L_right_3 : L2.Loc (defScope s_L_right) "_law_at" := by unfold L2.Loc; decide +kernel
theorem v_L_right_3 : Vis (defScope s_L_right) "_law_at" := n_L_right_3.elim Or.inl fun h => Or.inr (Or.inl h)
theorem n_L_right_4 : L2.Loc (defScope s_L_right) "_law_box" := by unfold L2.Loc; decide +kernel
theorem v_L_right_4 : Vis (defScope s_L_right) "_law_box" := n_L_right_4.elim Or.inl fun h => Or.inr (Or.inl h)
theorem n_L_right_5 : L2.Loc (defScope s_L_right) "_law_fresh" := by unfold L2.Loc; decide +kernel
theorem v_L_right_5 : Vis (defScope s_L_right) "_law_fresh" := n_L_right_5.elim Or.inl fun h => Or.inr (Or.inl h)
theorem l_L_right_5 : (defScope s_L_right).names.lookup ("_law_fresh" : Str) = some NameKind.local := by decide +kernel
theorem n_L_right_6 : L2.Loc (defScope s_L_right) "_law_mine" := by unfold L2.Loc; decide +kernel
theorem v_L_right_6 : Vis (defScope s_L_right) "_law_mine" := n_L_right_6.elim Or.inl fun h => Or.inr (Or.inl h)
theorem n_L_right_7 : L2.Loc (defScope s_L_right) "_law_cell" := by unfold L2.Loc; decide +kernel
theorem v_L_right_7 : Vis (defScope s_L_right) "_law_cell" := n_L_right_7.elim Or.inl fun h => Or.inr (Or.inl h)
theorem g_L_right__law_tuples : (defScope s_L_right).names.lookup ("_law_tuples" : Str) = some NameKind.globalImplicit := by decide +kernel
theorem g_L_right__law_cells : (defScope s_L_right).names.lookup ("_law_cells" : Str) = some NameKind.globalImplicit := by decide +kernel
theorem g_L_right_len : (defScope s_L_right).names.lookup ("len" : Str) = some NameKind.globalImplicit := by decide +kernel
theorem g_L_right_sorted : (defScope s_L_right).names.lookup ("sorted" : Str) = some NameKind.globalImplicit := by decide +kernel
theorem nd0_L_right : List.Nodup (["_law_cell", "_law_seen"] : List Str) := by decide +kernel
abbrev s_law : Stmt := top 20
theorem sc_law : FnScope ["_law_script", "_law_rest", "_law_boxes_here", "_law_others", "_law_handed", "_law_told", "_law_kept"] ["_law_script"] (defScope s_law) := ⟨rfl, rfl, rfl, by decide +kernel, rfl, by decide +kernel, by decide +kernel⟩
theorem n_law_0 : L2.Loc (defScope s_law) "_law_script" := by unfold L2.Loc; decide +kernel
theorem v_law_0 : Vis (defScope s_law) "_law_script" := n_law_0.elim Or.inl fun h => Or.inr (Or.inl h)
theorem n_law_1 : L2.Loc (defScope s_law) "_law_rest" := by unfold L2.Loc; decide +kernel
theorem v_law_1 : Vis (defScope s_law) "_law_rest" := n_law_1.elim Or.inl fun h => Or.inr (Or.inl h)
theorem n_law_2 : L2.Loc (defScope s_law) "_law_boxes_here" := by unfold L2.Loc; decide +kernel
theorem v_law_2 : Vis (defScope s_law) "_law_boxes_here" := n_law_2.elim Or.inl fun h => Or.inr (Or.inl h)
theorem n_law_3 : L2.Loc (defScope s_law) "_law_others" := by unfold L2.Loc; decide +kernel
theorem v_law_3 : Vis (defScope s_law) "_law_others" := n_law_3.elim Or.inl fun h => Or.inr (Or.inl h)
theorem n_law_4 : L2.Loc (defScope s_law) "_law_handed" := by unfold L2.Loc; decide +kernel
theorem v_law_4 : Vis (defScope s_law) "_law_handed" := n_law_4.elim Or.inl fun h => Or.inr (Or.inl h)
theorem n_law_5 : L2.Loc (defScope s_law) "_law_told" := by unfold L2.Loc; decide +kernel
theorem v_law_5 : Vis (defScope s_law) "_law_told" := n_law_5.elim Or.inl fun h => Or.inr (Or.inl h)
theorem n_law_6 : L2.Loc (defScope s_law) "_law_kept" := by unfold L2.Loc; decide +kernel
theorem v_law_6 : Vis (defScope s_law) "_law_kept" := n_law_6.elim Or.inl fun h => Or.inr (Or.inl h)
theorem g_law__law_big : (defScope s_law).names.lookup ("_law_big" : Str) = some NameKind.globalImplicit := by decide +kernel
theorem g_law__law_boxes : (defScope s_law).names.lookup ("_law_boxes" : Str) = some NameKind.globalImplicit := by decide +kernel
theorem g_law_list : (defScope s_law).names.lookup ("list" : Str) = some NameKind.globalImplicit := by decide +kernel
theorem g_law_boxes_parted : (defScope s_law).names.lookup ("boxes_parted" : Str) = some NameKind.globalImplicit := by decide +kernel
theorem g_law__law_due : (defScope s_law).names.lookup ("_law_due" : Str) = some NameKind.globalImplicit := by decide +kernel
theorem g_law__law_right : (defScope s_law).names.lookup ("_law_right" : Str) = some NameKind.globalImplicit := by decide +kernel
def m_L_digit : List L → Option (PyData × List L) := dFun false 2 1 (dSeq (dAsg (dBor 0 (dOp fMod (dOp fIxL (dVar 0) (dC (.int 0))) (dVar 1))) (dN 2)) (dSeq (dSetI 0 (dBor 0 (dOp fDiv (dOp fIxL (dVar 0) (dC (.int 0))) (dVar 1))) (dC (.int 0))) (dRet (dVar 2))))
def m_L_box_of : List L → Option (PyData × List L) := dFun false 1 2 (dSeq (dAsg (dOp fSub (dCallM 0 m_L_digit (dACons (dC (.int 15)) dANil)) (dC (.int 5))) (dN 1)) (dSeq (dAsg (dOp fSub (dCallM 0 m_L_digit (dACons (dC (.int 11)) dANil)) (dC (.int 4))) (dN 2)) (dRet (dTup (dACons (dVar 1) (dACons (dVar 2) (dACons (dOp fAdd (dC (.int 1)) (dCallM 0 m_L_digit (dACons (dC (.int 7)) dANil))) (dACons (dOp fAdd (dC (.int 1)) (dCallM 0 m_L_digit (dACons (dC (.int 6)) dANil))) dANil))))))))
def m_L_boxes : List L → Option (PyData × List L) := dFun true 1 4 (dSeq (dNew 1 1) (dSeq (dFor (dR1 (dACons (dCallM 0 m_L_digit (dACons (dC (.int 7)) dANil)) dANil)) (dN 2) (dSeq (dAsg (dCallM 0 m_L_box_of dANil) (dN 3)) (dSeq (dAsg (dCallM 0 m_L_digit (dACons (dC (.int 5)) dANil)) (dN 4)) (dSeq (dIfS (dTBor 1 (dTAnd (dTest (dOp fEq (dVar 4) (dC (.int 0)))) (dTest (dOp fNe (dVar 1) (dLst dANil))))) (dAsg (dBor 1 (dOp fIxL (dVar 1) (dC (.int 0)))) (dN 3)) dNil) (dSeq (dIfS (dTBor 1 (dTAnd (dTest (dOp fEq (dVar 4) (dC (.int 1)))) (dTest (dOp fNe (dVar 1) (dLst dANil))))) (dAsg (dBor 1 (dTup (dACons (dOp fAdd (dOp fIxT (dOp fIxL (dVar 1) (dUn fNeg (dC (.int 1)))) (dC (.int 0))) (dOp fIxT (dOp fIxL (dVar 1) (dUn fNeg (dC (.int 1)))) (dC (.int 2)))) (dACons (dOp fIxT (dVar 3) (dC (.int 1))) (dACons (dOp fIxT (dVar 3) (dC (.int 2))) (dACons (dOp fIxT (dVar 3) (dC (.int 3))) dANil)))))) (dN 3)) dNil) (dExpr (dMt 1 gAppend (dACons (dVar 3) dANil)))))))) (dRetM 1 1)))
def m_right_of : List L → Option (PyData × List L) := dFun false 1 0 (dRet (dOp fAdd (dOp fIxT (dVar 0) (dC (.int 0))) (dOp fIxT (dVar 0) (dC (.int 2)))))
def m_bottom_of : List L → Option (PyData × List L) := dFun false 1 0 (dRet (dOp fAdd (dOp fIxT (dVar 0) (dC (.int 1))) (dOp fIxT (dVar 0) (dC (.int 3)))))
def m_next_meeting : List L → Option (PyData × List L) := dFun false 3 6 (dSeq (dAsg (dOp fIxT (dVar 0) (dC (.int 0))) (dN 3)) (dSeq (dAsg (dOp fIxT (dVar 0) (dC (.int 1))) (dN 4)) (dSeq (dAsg (dCall m_right_of (dACons (dVar 0) dANil)) (dN 5)) (dSeq (dAsg (dCall m_bottom_of (dACons (dVar 0) dANil)) (dN 6)) (dSeq (dFor (dR2 (dACons (dVar 2) (dACons (dApp fLen (dACons (dVar 1) dANil)) dANil))) (dN 7) (dSeq (dAsg (dOp fIxL (dVar 1) (dVar 7)) (dN 8)) (dIfS (dTAnd (dTest (dOp fLt (dOp fIxT (dVar 8) (dC (.int 0))) (dVar 5))) (dTAnd (dTest (dOp fLt (dVar 3) (dOp fAdd (dOp fIxT (dVar 8) (dC (.int 0))) (dOp fIxT (dVar 8) (dC (.int 2)))))) (dTAnd (dTest (dOp fLt (dOp fIxT (dVar 8) (dC (.int 1))) (dVar 6))) (dTest (dOp fLt (dVar 4) (dOp fAdd (dOp fIxT (dVar 8) (dC (.int 1))) (dOp fIxT (dVar 8) (dC (.int 3))))))))) (dRet (dVar 7)) dNil))) (dRet (dApp fLen (dACons (dVar 1) dANil))))))))
def m_has_cells : List L → Option (PyData × List L) := dFun false 1 0 (dRet (dAnd (dOp fGt (dOp fIxT (dVar 0) (dC (.int 2))) (dC (.int 0))) (dOp fGt (dOp fIxT (dVar 0) (dC (.int 3))) (dC (.int 0)))))
def m_box_meet : List L → Option (PyData × List L) := dFun false 2 5 (dSeq (dAsg (dApp fMax2 (dACons (dOp fIxT (dVar 0) (dC (.int 0))) (dACons (dOp fIxT (dVar 1) (dC (.int 0))) dANil))) (dN 2)) (dSeq (dAsg (dApp fMax2 (dACons (dOp fIxT (dVar 0) (dC (.int 1))) (dACons (dOp fIxT (dVar 1) (dC (.int 1))) dANil))) (dN 3)) (dSeq (dAsg (dOp fSub (dApp fMin2 (dACons (dCall m_right_of (dACons (dVar 0) dANil)) (dACons (dCall m_right_of (dACons (dVar 1) dANil)) dANil))) (dVar 2)) (dN 4)) (dSeq (dAsg (dOp fSub (dApp fMin2 (dACons (dCall m_bottom_of (dACons (dVar 0) dANil)) (dACons (dCall m_bottom_of (dACons (dVar 1) dANil)) dANil))) (dVar 3)) (dN 5)) (dSeq (dAsg (dTup (dACons (dVar 2) (dACons (dVar 3) (dACons (dVar 4) (dACons (dVar 5) dANil))))) (dN 6)) (dRet (dIf (dTest (dCall m_has_cells (dACons (dVar 6) dANil))) (dVar 6) (dC .none))))))))
def m_box_around : List L → Option (PyData × List L) := dFun true 2 3 (dSeq (dAsg (dCall m_right_of (dACons (dVar 1) dANil)) (dN 2)) (dSeq (dAsg (dCall m_bottom_of (dACons (dVar 1) dANil)) (dN 3)) (dSeq (dNew 2 4) (dSeq (dIfS (dTest (dOp fLt (dOp fIxT (dVar 0) (dC (.int 1))) (dOp fIxT (dVar 1) (dC (.int 1))))) (dExpr (dMt 4 gAppend (dACons (dTup (dACons (dOp fIxT (dVar 0) (dC (.int 0))) (dACons (dOp fIxT (dVar 0) (dC (.int 1))) (dACons (dOp fIxT (dVar 0) (dC (.int 2))) (dACons (dOp fSub (dOp fIxT (dVar 1) (dC (.int 1))) (dOp fIxT (dVar 0) (dC (.int 1)))) dANil))))) dANil))) dNil) (dSeq (dIfS (dTest (dOp fLt (dOp fIxT (dVar 0) (dC (.int 0))) (dOp fIxT (dVar 1) (dC (.int 0))))) (dExpr (dMt 4 gAppend (dACons (dTup (dACons (dOp fIxT (dVar 0) (dC (.int 0))) (dACons (dOp fIxT (dVar 1) (dC (.int 1))) (dACons (dOp fSub (dOp fIxT (dVar 1) (dC (.int 0))) (dOp fIxT (dVar 0) (dC (.int 0)))) (dACons (dOp fIxT (dVar 1) (dC (.int 3))) dANil))))) dANil))) dNil) (dSeq (dIfS (dTest (dOp fLt (dVar 2) (dCall m_right_of (dACons (dVar 0) dANil)))) (dExpr (dMt 4 gAppend (dACons (dTup (dACons (dVar 2) (dACons (dOp fIxT (dVar 1) (dC (.int 1))) (dACons (dOp fSub (dCall m_right_of (dACons (dVar 0) dANil)) (dVar 2)) (dACons (dOp fIxT (dVar 1) (dC (.int 3))) dANil))))) dANil))) dNil) (dSeq (dIfS (dTest (dOp fLt (dVar 3) (dCall m_bottom_of (dACons (dVar 0) dANil)))) (dExpr (dMt 4 gAppend (dACons (dTup (dACons (dOp fIxT (dVar 0) (dC (.int 0))) (dACons (dVar 3) (dACons (dOp fIxT (dVar 0) (dC (.int 2))) (dACons (dOp fSub (dCall m_bottom_of (dACons (dVar 0) dANil)) (dVar 3)) dANil))))) dANil))) dNil) (dRetM 2 4))))))))
def m_box_less : List L → Option (PyData × List L) := dFun true 2 1 (dSeq (dAsg (dCall m_box_meet (dACons (dVar 0) (dACons (dVar 1) dANil))) (dN 2)) (dSeq (dIfS (dTest (dOp fIsN (dVar 2) (dC .none))) (dRet (dLst (dACons (dVar 0) dANil))) dNil) (dRet (dCall m_box_around (dACons (dVar 0) (dACons (dVar 2) dANil))))))
def m_box_less_all : List L → Option (PyData × List L) := dFun true 2 5 (dSeq (dNew 2 2) (dSeq (dSetM 2 3 (dLst (dACons (dTup (dACons (dVar 0) (dACons (dC (.int 0)) dANil))) dANil))) (dSeq (dWhile (fun _ => 100000) (dTBor 3 (dTest (dOp fGt (dApp fLen (dACons (dVar 3) dANil)) (dC (.int 0))))) (dSeq (dAsg (dMt 3 gPop dANil) (dN 4)) (dSeq (dAsg (dCall m_next_meeting (dACons (dOp fIxT (dVar 4) (dC (.int 0))) (dACons (dVar 1) (dACons (dOp fIxT (dVar 4) (dC (.int 1))) dANil)))) (dN 5)) (dIfS (dTest (dOp fEq (dVar 5) (dApp fLen (dACons (dVar 1) dANil)))) (dExpr (dMt 2 gAppend (dACons (dOp fIxT (dVar 4) (dC (.int 0))) dANil))) (dFor (dIV (dCall m_box_less (dACons (dOp fIxT (dVar 4) (dC (.int 0))) (dACons (dOp fIxL (dVar 1) (dVar 5)) dANil)))) (dN 6) (dExpr (dMt 3 gAppend (dACons (dTup (dACons (dVar 6) (dACons (dOp fAdd (dVar 5) (dC (.int 1))) dANil))) dANil)))))))) (dRetM 2 2))))
def m_boxes_parted : List L → Option (PyData × List L) := dFun true 1 4 (dSeq (dNew 1 1) (dSeq (dFor (dIE (dVar 0)) (dGT (dGCons (dN 2) (dGCons (dN 3) dGNil))) (dSeq (dAsg (dLC 1 [3] (dIL (dSl (dVar 0) dNoP (dPt (dVar 2)))) (dN 0) (dTest (dOp fNotN (dCall m_box_meet (dACons (dVar 1) (dACons (dVar 0) dANil))) (dC .none))) (dVar 0)) (dN 4)) (dExpr (dMt 1 gExtend (dACons (dCall m_box_less_all (dACons (dVar 3) (dACons (dVar 4) dANil))) dANil))))) (dRetM 1 1)))
def m_L_due : List L → Option (PyData × List L) := dFun false 1 6 (dSeq (dAsg (dLst dANil) (dN 1)) (dSeq (dFor (dR1 (dACons (dApp fLen (dACons (dVar 0) dANil)) dANil)) (dN 2) (dSeq (dAsg (dLst (dACons (dOp fIxL (dVar 0) (dVar 2)) dANil)) (dN 3)) (dSeq (dFor (dIL (dSl (dVar 0) dNoP (dPt (dVar 2)))) (dN 4) (dSeq (dAsg (dLst dANil) (dN 5)) (dSeq (dFor (dIL (dVar 3)) (dN 6) (dAsg (dOp fCat (dVar 5) (dCall m_box_less (dACons (dVar 6) (dACons (dVar 4) dANil)))) (dN 5))) (dAsg (dVar 5) (dN 3))))) (dAsg (dOp fCat (dVar 1) (dVar 3)) (dN 1))))) (dRet (dVar 1))))
def m_L_cell_at : List L → Option (PyData × List L) := dFun false 2 0 (dSeq (dIfS (dTest (dOp fLt (dVar 1) (dLenC 0))) (dRet (dIxC 0 (dVar 1))) dNil) (dRet (dC (.int 0))))
def m_L_big : List L → Option (PyData × List L) := dFun false 2 6 (dSeq (dAsg (dTup (dACons (dC (.int 48271)) (dACons (dC (.int 69621)) (dACons (dC (.int 16807)) (dACons (dC (.int 39373)) (dACons (dC (.int 21401)) (dACons (dC (.int 60493)) (dACons (dC (.int 87721)) (dACons (dC (.int 31337)) dANil))))))))) (dN 2)) (dSeq (dAsg (dTup (dACons (dC (.int 99991)) (dACons (dC (.int 99989)) (dACons (dC (.int 99971)) (dACons (dC (.int 99961)) (dACons (dC (.int 99929)) (dACons (dC (.int 99923)) (dACons (dC (.int 99907)) (dACons (dC (.int 99901)) dANil))))))))) (dN 3)) (dSeq (dAsg (dCallC 0 m_L_cell_at (dACons (dVar 1) dANil)) (dN 4)) (dSeq (dIfS (dTest (dOp fGe (dVar 4) (dOp fPow (dC (.int 10)) (dC (.int 18))))) (dRet (dVar 4)) dNil) (dSeq (dAsg (dC (.int 0)) (dN 5)) (dSeq (dFor (dR1 (dACons (dC (.int 60)) dANil)) (dN 6) (dSeq (dAsg (dOp fAdd (dOp fAdd (dOp fMod (dCallC 0 m_L_cell_at (dACons (dOp fAdd (dVar 1) (dOp fMod (dVar 6) (dC (.int 9)))) dANil)) (dOp fPow (dC (.int 10)) (dC (.int 18)))) (dC (.int 1))) (dOp fMul (dVar 6) (dVar 6))) (dN 7)) (dAsg (dOp fAdd (dOp fMul (dVar 5) (dC (.int 7919))) (dOp fMod (dOp fMod (dOp fMul (dVar 7) (dOp fIxT (dVar 2) (dOp fMod (dVar 6) (dC (.int 8))))) (dOp fIxT (dVar 3) (dOp fMod (dVar 6) (dC (.int 8))))) (dC (.int 7919)))) (dN 5)))) (dRet (dVar 5))))))))
def m_L_tuples : List L → Option (PyData × List L) := dFun false 2 2 (dSeq (dIfS (dTNot (dTest (dIsi "list" (dVar 0)))) (dRet (dC (.bool false))) dNil) (dSeq (dFor (dIL (dVar 0)) (dN 2) (dSeq (dIfS (dTOr (dTNot (dTest (dIsi "tuple" (dVar 2)))) (dTest (dOp fNe (dApp fLen (dACons (dVar 2) dANil)) (dVar 1)))) (dRet (dC (.bool false))) dNil) (dFor (dIT (dVar 2)) (dN 3) (dIfS (dTOr (dTNot (dTest (dIsi "int" (dVar 3)))) (dTest (dIsi "bool" (dVar 3)))) (dRet (dC (.bool false))) dNil)))) (dRet (dC (.bool true)))))
def m_L_cells : List L → Option (PyData × List L) := dFun true 1 3 (dSeq (dNew 1 1) (dSeq (dFor (dR1 (dACons (dOp fIxT (dVar 0) (dC (.int 3))) dANil)) (dN 2) (dFor (dR1 (dACons (dOp fIxT (dVar 0) (dC (.int 2))) dANil)) (dN 3) (dExpr (dMt 1 gAppend (dACons (dTup (dACons (dOp fAdd (dOp fIxT (dVar 0) (dC (.int 0))) (dVar 3)) (dACons (dOp fAdd (dOp fIxT (dVar 0) (dC (.int 1))) (dVar 2)) dANil))) dANil))))) (dRetM 1 1)))
def m_L_right : List L → Option (PyData × List L) := dFun false 2 6 (dSeq (dIfS (dTNot (dTest (dCall m_L_tuples (dACons (dVar 1) (dACons (dC (.int 4)) dANil))))) (dRet (dC (.bool false))) dNil) (dSeq (dNewK 2 2) (dSeq (dAsg (dC (.int 0)) (dN 3)) (dSeq (dFor (dIL (dVar 0)) (dN 4) (dSeq (dAsg (dBorF 2 (dLC 1 [2] (dIL (dCall m_L_cells (dACons (dVar 4) dANil))) (dN 0) (dTest (dOp (fInD true) (dVar 0) (dVar 1))) (dVar 0))) (dN 5)) (dSeq (dAsg (dLst dANil) (dN 6)) (dSeq (dWhile (fun _ => 100000) (dTAnd (dTest (dOp fLt (dApp fLen (dACons (dVar 6) dANil)) (dApp fLen (dACons (dVar 5) dANil)))) (dTest (dOp fLt (dVar 3) (dApp fLen (dACons (dVar 1) dANil))))) (dSeq (dAsg (dOp fCat (dVar 6) (dCall m_L_cells (dACons (dOp fIxL (dVar 1) (dVar 3)) dANil))) (dN 6)) (dAsg (dOp fAdd (dVar 3) (dC (.int 1))) (dN 3)))) (dSeq (dIfS (dTest (dOp fNe (dApp fSortT (dACons (dVar 6) dANil)) (dApp fSortT (dACons (dVar 5) dANil)))) (dRet (dC (.bool false))) dNil) (dFor (dIL (dVar 5)) (dN 7) (dPutK 2 (dC (.bool true)) (dVar 7)))))))) (dRet (dOp fEq (dVar 3) (dApp fLen (dACons (dVar 1) dANil))))))))
def m_law : List L → Option (PyData × List L) := dFun false 1 6 (dSeq (dSetM 1 1 (dLst (dACons (dCallC 0 m_L_big (dACons (dC (.int 0)) dANil)) dANil))) (dSeq (dAsg (dCallM 1 m_L_boxes dANil) (dN 2)) (dSeq (dAsg (dCallM 1 m_L_boxes dANil) (dN 3)) (dSeq (dAsg (dApp fListOf (dACons (dVar 2) dANil)) (dN 4)) (dSeq (dSetM 1 5 (dCall m_boxes_parted (dACons (dVar 4) dANil))) (dSeq (dAsg (dCall m_L_due (dACons (dVar 2) dANil)) (dN 6)) (dSeq (dIfS (dTBor 5 (dTOr (dTNot (dTest (dCall m_L_right (dACons (dVar 2) (dACons (dVar 5) dANil))))) (dTOr (dTest (dOp fNe (dVar 5) (dVar 6))) (dTest (dOp fNe (dVar 4) (dVar 2)))))) (dRet (dC (.bool false))) dNil) (dSeq (dIfS (dTBor 5 (dTOr (dTNot (dTest (dCall m_L_right (dACons (dVar 3) (dACons (dCall m_boxes_parted (dACons (dApp fListOf (dACons (dVar 3) dANil)) dANil)) dANil))))) (dTest (dOp fNe (dVar 5) (dVar 6))))) (dRet (dC (.bool false))) dNil) (dSeq (dExpr (dMt 5 gClear dANil)) (dRet (dOp fEq (dCall m_boxes_parted (dACons (dVar 4) dANil)) (dVar 6))))))))))))
theorem hu64 {k : Nat} {A : Around} (hr : Room k A) : A.units + 64 < cLine := hr.units
section
variable {P : Program} {w : World} {K : PySem.W.Frag} {mg : Str → Option Value} {base : Heap} {f : Addr} {fd : FuncData}
theorem ok_L_digit (F : Fun K "_law_digit" "_law_digit" s_L_digit f fd) : FnOk P w K mg base CX0 1 f fd ["_law_rest", "_law_many"] (spD K m_L_digit false) := by
  have nd := sc_L_digit.nd
  refine F.ok sc_L_digit (fun vs H Q E h => fn_len dFun_len h) (fun cdv A outer s H vs Q E hr h => ?_)
  exact ⟨_, (@pss_cons _ _ _ _ _ (@ps_set _ _ 2 _ _ _ _ nd rfl n_L_digit_2 (@pe_op _ _ _ _ _ _ _ _ (@op_mod _) (@pe_ix _ _ _ _ _ _ _ (@ix_list _) (@pv _ 0 _ _ rfl v_L_digit_0 dbg__law_rest cls__law_rest) (@pe_int _ _ _ _) (fun _ _ => rfl)) (@pv _ 1 _ _ rfl v_L_digit_1 dbg__law_many cls__law_many)) (by walk_at "zz") (by walk_at "zz")) (@pss_cons _ _ _ _ _ (@ps_asg _ _ _ _ _ _ (@pe_op _ _ _ _ _ _ _ _ (@op_fdivB _) (@pe_ix _ _ _ _ _ _ _ (@ix_list _) (@pv _ 0 _ _ rfl v_L_digit_0 dbg__law_rest cls__law_rest) (@pe_int _ _ _ _) (fun _ _ => rfl)) (@pv _ 1 _ _ rfl v_L_digit_1 dbg__law_many cls__law_many)) (@pg_sub _ _ _ _ _ _ _ (@pv _ 0 _ _ rfl v_L_digit_0 dbg__law_rest cls__law_rest) (@pe_int _ _ _ _) (@set_list _) (by walk_at "zz")) (by walk_at "zz") (by walk_at "zz") (by walk_at "zz")) (@pss_one _ _ _ (@ps_ret _ _ _ _ (@pv _ 2 _ _ rfl v_L_digit_2 dbg__law_digit_here cls__law_digit_here))))), fn_run (N := ["_law_rest", "_law_many", "_law_digit_here"]) (np := 2) (nl := 1) (b_seq (b_asg (e_bor (i := 0) (e_op o_mod (e_op o_ixL e_var e_int) e_var)) g_name) (b_seq (b_setI (i := 0) (e_bor (i := 0) (e_op o_div (e_op o_ixL e_var e_int) e_var)) e_int) (b_ret e_var (by decide)))) rfl h⟩
theorem ok_L_box_of (F : Fun K "_law_box_of" "_law_box_of" s_L_box_of f fd) (C_L_digit : Cal P w K mg base 1 "_law_digit" ["_law_rest", "_law_many"] (spD K m_L_digit false)) : FnOk P w K mg base CX0 2 f fd ["_law_rest"] (spD K m_L_box_of false) := by
  have nd := sc_L_box_of.nd
  refine F.ok sc_L_box_of (fun vs H Q E h => fn_len dFun_len h) (fun cdv A outer s H vs Q E hr h => ?_)
  exact ⟨_, (@pss_cons _ _ _ _ _ (@ps_set _ _ 1 _ _ _ _ nd rfl n_L_box_of_1 (@pe_op _ _ _ _ _ _ _ _ (@op_sub _) (@pe_callC _ _ _ _ _ _ _ _ _ _ C_L_digit hr g_L_box_of__law_digit (@pa_cons _ _ _ _ _ (@pv _ 0 _ _ rfl v_L_box_of_0 dbg__law_rest cls__law_rest) (@pa_cons _ _ _ _ _ (@pe_int _ _ _ _) (@pa_nil _) (by walk_at "zz")) (by walk_at "zz")) dbg__law_digit (by walk_at "zz") (by walk_at "zz")) (@pe_int _ _ _ _)) (by walk_at "zz") (by walk_at "zz")) (@pss_cons _ _ _ _ _ (@ps_set _ _ 2 _ _ _ _ nd rfl n_L_box_of_2 (@pe_op _ _ _ _ _ _ _ _ (@op_sub _) (@pe_callC _ _ _ _ _ _ _ _ _ _ C_L_digit hr g_L_box_of__law_digit (@pa_cons _ _ _ _ _ (@pv _ 0 _ _ rfl v_L_box_of_0 dbg__law_rest cls__law_rest) (@pa_cons _ _ _ _ _ (@pe_int _ _ _ _) (@pa_nil _) (by walk_at "zz")) (by walk_at "zz")) dbg__law_digit (by walk_at "zz") (by walk_at "zz")) (@pe_int _ _ _ _)) (by walk_at "zz") (by walk_at "zz")) (@pss_one _ _ _ (@ps_ret _ _ _ _ (@pe_tup _ _ _ _ _ (@pa_cons _ _ _ _ _ (@pv _ 1 _ _ rfl v_L_box_of_1 dbg__law_x cls__law_x) (@pa_cons _ _ _ _ _ (@pv _ 2 _ _ rfl v_L_box_of_2 dbg__law_y cls__law_y) (@pa_cons _ _ _ _ _ (@pe_op _ _ _ _ _ _ _ _ (@op_add _) (@pe_int _ _ _ _) (@pe_callC _ _ _ _ _ _ _ _ _ _ C_L_digit hr g_L_box_of__law_digit (@pa_cons _ _ _ _ _ (@pv _ 0 _ _ rfl v_L_box_of_0 dbg__law_rest cls__law_rest) (@pa_cons _ _ _ _ _ (@pe_int _ _ _ _) (@pa_nil _) (by walk_at "zz")) (by walk_at "zz")) dbg__law_digit (by walk_at "zz") (by walk_at "zz"))) (@pa_cons _ _ _ _ _ (@pe_op _ _ _ _ _ _ _ _ (@op_add _) (@pe_int _ _ _ _) (@pe_callC _ _ _ _ _ _ _ _ _ _ C_L_digit hr g_L_box_of__law_digit (@pa_cons _ _ _ _ _ (@pv _ 0 _ _ rfl v_L_box_of_0 dbg__law_rest cls__law_rest) (@pa_cons _ _ _ _ _ (@pe_int _ _ _ _) (@pa_nil _) (by walk_at "zz")) (by walk_at "zz")) dbg__law_digit (by walk_at "zz") (by walk_at "zz"))) (@pa_nil _) (by walk_at "zz")) (by walk_at "zz")) (by walk_at "zz")) (by walk_at "zz"))))))), fn_run (N := ["_law_rest", "_law_x", "_law_y"]) (np := 1) (nl := 2) (b_seq (b_asg (e_op o_sub (e_callM (i := 0) (a_cons e_int a_nil)) e_int) g_name) (b_seq (b_asg (e_op o_sub (e_callM (i := 0) (a_cons e_int a_nil)) e_int) g_name) (b_ret (e_tup (a_cons e_var (a_cons e_var (a_cons (e_op o_add e_int (e_callM (i := 0) (a_cons e_int a_nil))) (a_cons (e_op o_add e_int (e_callM (i := 0) (a_cons e_int a_nil))) a_nil))))) (by decide)))) rfl h⟩
theorem ok_L_boxes (F : Fun K "_law_boxes" "_law_boxes" s_L_boxes f fd) (C_L_digit : Cal P w K mg base 2 "_law_digit" ["_law_rest", "_law_many"] (spD K m_L_digit false)) (C_L_box_of : Cal P w K mg base 2 "_law_box_of" ["_law_rest"] (spD K m_L_box_of false)) (z_range : mg "range" = none) : FnOk P w K mg base CX0 3 f fd ["_law_rest"] (spD K m_L_boxes true) := by
  have nd := sc_L_boxes.nd
  refine F.ok sc_L_boxes (fun vs H Q E h => fn_len dFun_len h) (fun cdv A outer s H vs Q E hr h => ?_)
  exact ⟨_, (@pss_cons _ _ _ _ _ (@ps_set _ _ 1 _ _ _ _ nd rfl n_L_boxes_1 (@pe_lst _ _ _ _ (@pa_nil _)) (by walk_at "zz") (by walk_at "zz")) (@pss_cons _ _ _ _ _ (@ps_for _ _ _ _ _ _ _ _ PassesOwn.never rfl (@pi_range1 _ _ _ _ _ _ g_L_boxes_range z_range (@pa_cons _ _ _ _ _ (@pe_callC _ _ _ _ _ _ _ _ _ _ C_L_digit hr g_L_boxes__law_digit (@pa_cons _ _ _ _ _ (@pv _ 0 _ _ rfl v_L_boxes_0 dbg__law_rest cls__law_rest) (@pa_cons _ _ _ _ _ (@pe_int _ _ _ _) (@pa_nil _) (by walk_at "zz")) (by walk_at "zz")) dbg__law_digit (by walk_at "zz") (by walk_at "zz")) (@pa_nil _) (by walk_at "zz")) (by walk_at "zz")) (@pg_name _ _ 2 _ nd rfl n_L_boxes_2 (by walk_at "zz")) (@pss_cons _ _ _ _ _ (@ps_set _ _ 3 _ _ _ _ nd rfl n_L_boxes_3 (@pe_callC _ _ _ _ _ _ _ _ _ _ C_L_box_of hr g_L_boxes__law_box_of (@pa_cons _ _ _ _ _ (@pv _ 0 _ _ rfl v_L_boxes_0 dbg__law_rest cls__law_rest) (@pa_nil _) (by walk_at "zz")) dbg__law_box_of (by walk_at "zz") (by walk_at "zz")) (by walk_at "zz") (by walk_at "zz")) (@pss_cons _ _ _ _ _ (@ps_set _ _ 4 _ _ _ _ nd rfl n_L_boxes_4 (@pe_callC _ _ _ _ _ _ _ _ _ _ C_L_digit hr g_L_boxes__law_digit (@pa_cons _ _ _ _ _ (@pv _ 0 _ _ rfl v_L_boxes_0 dbg__law_rest cls__law_rest) (@pa_cons _ _ _ _ _ (@pe_int _ _ _ _) (@pa_nil _) (by walk_at "zz")) (by walk_at "zz")) dbg__law_digit (by walk_at "zz") (by walk_at "zz")) (by walk_at "zz") (by walk_at "zz")) (@pss_cons _ _ _ _ _ (@ps_if _ _ _ _ _ _ _ _ (@PW.pt _ _ _ (@pw_and _ _ _ _ _ _ _ (@pt_cmpR _ _ _ _ _ _ _ _ (@op_eqK _ (hu64 hr)) (@pv _ 4 _ _ rfl v_L_boxes_4 dbg__law_kind cls__law_kind) (@pe_int _ _ _ _) (nomark _)) (@pw_and1 _ _ _ _ (@pt_cmpR _ _ _ _ _ _ _ _ (@op_neK _ (hu64 hr)) (@pv _ 1 _ _ rfl v_L_boxes_1 dbg__law_boxes_here cls__law_boxes_here) (@pe_lst _ _ _ _ (@pa_nil _)) (nomark _))))) (@pss_one _ _ _ (@ps_set _ _ 3 _ _ _ _ nd rfl n_L_boxes_3 (@pe_ix _ _ _ _ _ _ _ (@ix_list _) (@pv _ 1 _ _ rfl v_L_boxes_1 dbg__law_boxes_here cls__law_boxes_here) (@pe_int _ _ _ _) (fun _ _ => rfl)) (by walk_at "zz") (by walk_at "zz"))) (@pss_nil _)) (@pss_cons _ _ _ _ _ (@ps_if _ _ _ _ _ _ _ _ (@PW.pt _ _ _ (@pw_and _ _ _ _ _ _ _ (@pt_cmpR _ _ _ _ _ _ _ _ (@op_eqK _ (hu64 hr)) (@pv _ 4 _ _ rfl v_L_boxes_4 dbg__law_kind cls__law_kind) (@pe_int _ _ _ _) (nomark _)) (@pw_and1 _ _ _ _ (@pt_cmpR _ _ _ _ _ _ _ _ (@op_neK _ (hu64 hr)) (@pv _ 1 _ _ rfl v_L_boxes_1 dbg__law_boxes_here cls__law_boxes_here) (@pe_lst _ _ _ _ (@pa_nil _)) (nomark _))))) (@pss_one _ _ _ (@ps_set _ _ 3 _ _ _ _ nd rfl n_L_boxes_3 (@pe_tup _ _ _ _ _ (@pa_cons _ _ _ _ _ (@pe_op _ _ _ _ _ _ _ _ (@op_add _) (@pe_ix _ _ _ _ _ _ _ (@ix_tup _) (@pe_ix _ _ _ _ _ _ _ (@ix_list _) (@pv _ 1 _ _ rfl v_L_boxes_1 dbg__law_boxes_here cls__law_boxes_here) (@pe_un _ _ _ _ _ _ (@un_neg _) (@pe_int _ _ _ _)) (fun _ _ => rfl)) (@pe_int _ _ _ _) (fun _ _ => rfl)) (@pe_ix _ _ _ _ _ _ _ (@ix_tup _) (@pe_ix _ _ _ _ _ _ _ (@ix_list _) (@pv _ 1 _ _ rfl v_L_boxes_1 dbg__law_boxes_here cls__law_boxes_here) (@pe_un _ _ _ _ _ _ (@un_neg _) (@pe_int _ _ _ _)) (fun _ _ => rfl)) (@pe_int _ _ _ _) (fun _ _ => rfl))) (@pa_cons _ _ _ _ _ (@pe_ix _ _ _ _ _ _ _ (@ix_tup _) (@pv _ 3 _ _ rfl v_L_boxes_3 dbg__law_box cls__law_box) (@pe_int _ _ _ _) (fun _ _ => rfl)) (@pa_cons _ _ _ _ _ (@pe_ix _ _ _ _ _ _ _ (@ix_tup _) (@pv _ 3 _ _ rfl v_L_boxes_3 dbg__law_box cls__law_box) (@pe_int _ _ _ _) (fun _ _ => rfl)) (@pa_cons _ _ _ _ _ (@pe_ix _ _ _ _ _ _ _ (@ix_tup _) (@pv _ 3 _ _ rfl v_L_boxes_3 dbg__law_box cls__law_box) (@pe_int _ _ _ _) (fun _ _ => rfl)) (@pa_nil _) (by walk_at "zz")) (by walk_at "zz")) (by walk_at "zz")) (by walk_at "zz"))) (by walk_at "zz") (by walk_at "zz"))) (@pss_nil _)) (@pss_one _ _ _ (@ps_expr _ _ _ _ (@pe_bm _ _ _ _ _ _ _ _ _ _ _ _ PySem.F.plainAttrs_list PySem.F.slot_list_append PySem.F.type_list_append (@mt_append _) (@pv _ 1 _ _ rfl v_L_boxes_1 dbg__law_boxes_here cls__law_boxes_here) (@pa_cons _ _ _ _ _ (@pv _ 3 _ _ rfl v_L_boxes_3 dbg__law_box cls__law_box) (@pa_nil _) (by walk_at "zz")) (by walk_at "zz") (by walk_at "zz") (by walk_at "zz") (by walk_at "zz") (by walk_at "zz")) (by walk_at "zz"))))))) (by walk_at "zz")) (@pss_one _ _ _ (@ps_ret _ _ _ _ (@pv _ 1 _ _ rfl v_L_boxes_1 dbg__law_boxes_here cls__law_boxes_here))))), fn_run (N := ["_law_rest", "_law_boxes_here", "_law_k", "_law_box", "_law_kind"]) (np := 1) (nl := 4) (b_seq b_new (b_seq (b_for (it_range1 (a_cons (e_callM (i := 0) (a_cons e_int a_nil)) a_nil)) g_name (b_seq (b_asg (e_callM (i := 0) a_nil) g_name) (b_seq (b_asg (e_callM (i := 0) (a_cons e_int a_nil)) g_name) (b_seq (b_if (t_bor (i := 1) (t_and (t_test (e_op o_eq e_var e_int)) (t_test (e_op o_ne e_var (e_lst a_nil))))) (b_asg (e_bor (i := 1) (e_op o_ixL e_var e_int)) g_name) b_nil) (b_seq (b_if (t_bor (i := 1) (t_and (t_test (e_op o_eq e_var e_int)) (t_test (e_op o_ne e_var (e_lst a_nil))))) (b_asg (e_bor (i := 1) (e_tup (a_cons (e_op o_add (e_op o_ixT (e_op o_ixL e_var (e_un u_neg e_int)) e_int) (e_op o_ixT (e_op o_ixL e_var (e_un u_neg e_int)) e_int)) (a_cons (e_op o_ixT e_var e_int) (a_cons (e_op o_ixT e_var e_int) (a_cons (e_op o_ixT e_var e_int) a_nil)))))) g_name) b_nil) (b_expr (e_mt (i := 1) m_append (a_cons e_var a_nil)))))))) (b_retM (i := 1)))) rfl h⟩
theorem ok_right_of (F : Fun K "right_of" "right_of" s_right_of f fd) : FnOk P w K mg base CX0 1 f fd ["box"] (spD K m_right_of false) := by
  have nd := sc_right_of.nd
  refine F.ok sc_right_of (fun vs H Q E h => fn_len dFun_len h) (fun cdv A outer s H vs Q E hr h => ?_)
  exact ⟨_, (@pss_one _ _ _ (@ps_ret _ _ _ _ (@pe_op _ _ _ _ _ _ _ _ (@op_add _) (@pe_ix _ _ _ _ _ _ _ (@ix_tup _) (@pv _ 0 _ _ rfl v_right_of_0 dbg_box cls_box) (@pe_int _ _ _ _) (fun _ _ => rfl)) (@pe_ix _ _ _ _ _ _ _ (@ix_tup _) (@pv _ 0 _ _ rfl v_right_of_0 dbg_box cls_box) (@pe_int _ _ _ _) (fun _ _ => rfl))))), fn_run (N := ["box"]) (np := 1) (nl := 0) (b_ret (e_op o_add (e_op o_ixT e_var e_int) (e_op o_ixT e_var e_int)) (by decide)) rfl h⟩
theorem ok_bottom_of (F : Fun K "bottom_of" "bottom_of" s_bottom_of f fd) : FnOk P w K mg base CX0 1 f fd ["box"] (spD K m_bottom_of false) := by
  have nd := sc_bottom_of.nd
  refine F.ok sc_bottom_of (fun vs H Q E h => fn_len dFun_len h) (fun cdv A outer s H vs Q E hr h => ?_)
  exact ⟨_, (@pss_one _ _ _ (@ps_ret _ _ _ _ (@pe_op _ _ _ _ _ _ _ _ (@op_add _) (@pe_ix _ _ _ _ _ _ _ (@ix_tup _) (@pv _ 0 _ _ rfl v_bottom_of_0 dbg_box cls_box) (@pe_int _ _ _ _) (fun _ _ => rfl)) (@pe_ix _ _ _ _ _ _ _ (@ix_tup _) (@pv _ 0 _ _ rfl v_bottom_of_0 dbg_box cls_box) (@pe_int _ _ _ _) (fun _ _ => rfl))))), fn_run (N := ["box"]) (np := 1) (nl := 0) (b_ret (e_op o_add (e_op o_ixT e_var e_int) (e_op o_ixT e_var e_int)) (by decide)) rfl h⟩
theorem ok_next_meeting (F : Fun K "next_meeting" "next_meeting" s_next_meeting f fd) (C_right_of : Cal P w K mg base 1 "right_of" ["box"] (spD K m_right_of false)) (C_bottom_of : Cal P w K mg base 1 "bottom_of" ["box"] (spD K m_bottom_of false)) (z_len : mg "len" = none) (z_range : mg "range" = none) : FnOk P w K mg base CX0 2 f fd ["box", "others", "place"] (spD K m_next_meeting false) := by
  have nd := sc_next_meeting.nd
  refine F.ok sc_next_meeting (fun vs H Q E h => fn_len dFun_len h) (fun cdv A outer s H vs Q E hr h => ?_)
  exact ⟨_, (@pss_cons _ _ _ _ _ (@ps_set _ _ 3 _ _ _ _ nd rfl n_next_meeting_3 (@pe_ix _ _ _ _ _ _ _ (@ix_tup _) (@pv _ 0 _ _ rfl v_next_meeting_0 dbg_box cls_box) (@pe_int _ _ _ _) (fun _ _ => rfl)) (by walk_at "zz") (by walk_at "zz")) (@pss_cons _ _ _ _ _ (@ps_set _ _ 4 _ _ _ _ nd rfl n_next_meeting_4 (@pe_ix _ _ _ _ _ _ _ (@ix_tup _) (@pv _ 0 _ _ rfl v_next_meeting_0 dbg_box cls_box) (@pe_int _ _ _ _) (fun _ _ => rfl)) (by walk_at "zz") (by walk_at "zz")) (@pss_cons _ _ _ _ _ (@ps_set _ _ 5 _ _ _ _ nd rfl n_next_meeting_5 (@pe_callC _ _ _ _ _ _ _ _ _ _ C_right_of hr g_next_meeting_right_of (@pa_cons _ _ _ _ _ (@pv _ 0 _ _ rfl v_next_meeting_0 dbg_box cls_box) (@pa_nil _) (by walk_at "zz")) dbg_right_of (by walk_at "zz") (by walk_at "zz")) (by walk_at "zz") (by walk_at "zz")) (@pss_cons _ _ _ _ _ (@ps_set _ _ 6 _ _ _ _ nd rfl n_next_meeting_6 (@pe_callC _ _ _ _ _ _ _ _ _ _ C_bottom_of hr g_next_meeting_bottom_of (@pa_cons _ _ _ _ _ (@pv _ 0 _ _ rfl v_next_meeting_0 dbg_box cls_box) (@pa_nil _) (by walk_at "zz")) dbg_bottom_of (by walk_at "zz") (by walk_at "zz")) (by walk_at "zz") (by walk_at "zz")) (@pss_cons _ _ _ _ _ (@ps_for _ _ _ _ _ _ _ _ PassesOwn.never rfl (@pi_range2 _ _ _ _ _ _ _ g_next_meeting_range z_range (@pa_cons _ _ _ _ _ (@pv _ 2 _ _ rfl v_next_meeting_2 dbg_place cls_place) (@pa_cons _ _ _ _ _ (@pe_callB _ _ _ _ _ _ _ _ _ (@call_len _) g_next_meeting_len z_len PySem.boot_len (@pa_cons _ _ _ _ _ (@pv _ 1 _ _ rfl v_next_meeting_1 dbg_others cls_others) (@pa_nil _) (by walk_at "zz")) nam_len dbg_len (by walk_at "zz") (by walk_at "zz")) (@pa_nil _) (by walk_at "zz")) (by walk_at "zz")) (by walk_at "zz") (by walk_at "zz")) (@pg_name _ _ 7 _ nd rfl n_next_meeting_7 (by walk_at "zz")) (@pss_cons _ _ _ _ _ (@ps_set _ _ 8 _ _ _ _ nd rfl n_next_meeting_8 (@pe_ix _ _ _ _ _ _ _ (@ix_list _) (@pv _ 1 _ _ rfl v_next_meeting_1 dbg_others cls_others) (@pv _ 7 _ _ rfl v_next_meeting_7 dbg_number cls_number) (fun _ _ => rfl)) (by walk_at "zz") (by walk_at "zz")) (@pss_one _ _ _ (@ps_if _ _ _ _ _ _ _ _ (@PW.pt _ _ _ (@pw_and _ _ _ _ _ _ _ (@pt_cmpR _ _ _ _ _ _ _ _ (@op_lt _) (@pe_ix _ _ _ _ _ _ _ (@ix_tup _) (@pv _ 8 _ _ rfl v_next_meeting_8 dbg_other cls_other) (@pe_int _ _ _ _) (fun _ _ => rfl)) (@pv _ 5 _ _ rfl v_next_meeting_5 dbg_right cls_right) (nomark _)) (@pw_and _ _ _ _ _ _ _ (@pt_cmpR _ _ _ _ _ _ _ _ (@op_lt _) (@pv _ 3 _ _ rfl v_next_meeting_3 dbg_left cls_left) (@pe_op _ _ _ _ _ _ _ _ (@op_add _) (@pe_ix _ _ _ _ _ _ _ (@ix_tup _) (@pv _ 8 _ _ rfl v_next_meeting_8 dbg_other cls_other) (@pe_int _ _ _ _) (fun _ _ => rfl)) (@pe_ix _ _ _ _ _ _ _ (@ix_tup _) (@pv _ 8 _ _ rfl v_next_meeting_8 dbg_other cls_other) (@pe_int _ _ _ _) (fun _ _ => rfl))) (nomark _)) (@pw_and _ _ _ _ _ _ _ (@pt_cmpR _ _ _ _ _ _ _ _ (@op_lt _) (@pe_ix _ _ _ _ _ _ _ (@ix_tup _) (@pv _ 8 _ _ rfl v_next_meeting_8 dbg_other cls_other) (@pe_int _ _ _ _) (fun _ _ => rfl)) (@pv _ 6 _ _ rfl v_next_meeting_6 dbg_bottom cls_bottom) (nomark _)) (@pw_and1 _ _ _ _ (@pt_cmpR _ _ _ _ _ _ _ _ (@op_lt _) (@pv _ 4 _ _ rfl v_next_meeting_4 dbg_top cls_top) (@pe_op _ _ _ _ _ _ _ _ (@op_add _) (@pe_ix _ _ _ _ _ _ _ (@ix_tup _) (@pv _ 8 _ _ rfl v_next_meeting_8 dbg_other cls_other) (@pe_int _ _ _ _) (fun _ _ => rfl)) (@pe_ix _ _ _ _ _ _ _ (@ix_tup _) (@pv _ 8 _ _ rfl v_next_meeting_8 dbg_other cls_other) (@pe_int _ _ _ _) (fun _ _ => rfl))) (nomark _))))))) (@pss_one _ _ _ (@ps_ret _ _ _ _ (@pv _ 7 _ _ rfl v_next_meeting_7 dbg_number cls_number))) (@pss_nil _)))) (by walk_at "zz")) (@pss_one _ _ _ (@ps_ret _ _ _ _ (@pe_callB _ _ _ _ _ _ _ _ _ (@call_len _) g_next_meeting_len z_len PySem.boot_len (@pa_cons _ _ _ _ _ (@pv _ 1 _ _ rfl v_next_meeting_1 dbg_others cls_others) (@pa_nil _) (by walk_at "zz")) nam_len dbg_len (by walk_at "zz") (by walk_at "zz"))))))))), fn_run (N := ["box", "others", "place", "left", "top", "right", "bottom", "number", "other"]) (np := 3) (nl := 6) (b_seq (b_asg (e_op o_ixT e_var e_int) g_name) (b_seq (b_asg (e_op o_ixT e_var e_int) g_name) (b_seq (b_asg (e_call (a_cons e_var a_nil)) g_name) (b_seq (b_asg (e_call (a_cons e_var a_nil)) g_name) (b_seq (b_for (it_range2 (a_cons e_var (a_cons (e_app c_len (a_cons e_var a_nil)) a_nil))) g_name (b_seq (b_asg (e_op o_ixL e_var e_var) g_name) (b_if (t_and (t_test (e_op o_lt (e_op o_ixT e_var e_int) e_var)) (t_and (t_test (e_op o_lt e_var (e_op o_add (e_op o_ixT e_var e_int) (e_op o_ixT e_var e_int)))) (t_and (t_test (e_op o_lt (e_op o_ixT e_var e_int) e_var)) (t_test (e_op o_lt e_var (e_op o_add (e_op o_ixT e_var e_int) (e_op o_ixT e_var e_int))))))) (b_ret e_var (by decide)) b_nil))) (b_ret (e_app c_len (a_cons e_var a_nil)) (by decide))))))) rfl h⟩
theorem ok_has_cells (F : Fun K "has_cells" "has_cells" s_has_cells f fd) : FnOk P w K mg base CX0 1 f fd ["box"] (spD K m_has_cells false) := by
  have nd := sc_has_cells.nd
  refine F.ok sc_has_cells (fun vs H Q E h => fn_len dFun_len h) (fun cdv A outer s H vs Q E hr h => ?_)
  exact ⟨_, (@pss_one _ _ _ (@ps_ret _ _ _ _ (@pe_and _ _ _ _ _ _ _ (@pe_cmpR _ _ _ _ _ _ _ _ (@op_gt _) (@pe_ix _ _ _ _ _ _ _ (@ix_tup _) (@pv _ 0 _ _ rfl v_has_cells_0 dbg_box cls_box) (@pe_int _ _ _ _) (fun _ _ => rfl)) (@pe_int _ _ _ _) (nomark _)) (@pe_one _ _ _ _ _ (@pe_cmpR _ _ _ _ _ _ _ _ (@op_gt _) (@pe_ix _ _ _ _ _ _ _ (@ix_tup _) (@pv _ 0 _ _ rfl v_has_cells_0 dbg_box cls_box) (@pe_int _ _ _ _) (fun _ _ => rfl)) (@pe_int _ _ _ _) (nomark _)))))), fn_run (N := ["box"]) (np := 1) (nl := 0) (b_ret (e_and (e_op o_gt (e_op o_ixT e_var e_int) e_int) (e_op o_gt (e_op o_ixT e_var e_int) e_int)) (by decide)) rfl h⟩
theorem ok_box_meet (F : Fun K "box_meet" "box_meet" s_box_meet f fd) (C_right_of : Cal P w K mg base 1 "right_of" ["box"] (spD K m_right_of false)) (C_bottom_of : Cal P w K mg base 1 "bottom_of" ["box"] (spD K m_bottom_of false)) (C_has_cells : Cal P w K mg base 1 "has_cells" ["box"] (spD K m_has_cells false)) (z_max : mg "max" = none) (z_min : mg "min" = none) : FnOk P w K mg base CX0 2 f fd ["one", "other"] (spD K m_box_meet false) := by
  have nd := sc_box_meet.nd
  refine F.ok sc_box_meet (fun vs H Q E h => fn_len dFun_len h) (fun cdv A outer s H vs Q E hr h => ?_)
  exact ⟨_, (@pss_cons _ _ _ _ _ (@ps_set _ _ 2 _ _ _ _ nd rfl n_box_meet_2 (@pe_callB _ _ _ _ _ _ _ _ _ (@call_max2 _ rfl) g_box_meet_max z_max PyProof.Rows.boot_max (@pa_cons _ _ _ _ _ (@pe_ix _ _ _ _ _ _ _ (@ix_tup _) (@pv _ 0 _ _ rfl v_box_meet_0 dbg_one cls_one) (@pe_int _ _ _ _) (fun _ _ => rfl)) (@pa_cons _ _ _ _ _ (@pe_ix _ _ _ _ _ _ _ (@ix_tup _) (@pv _ 1 _ _ rfl v_box_meet_1 dbg_other cls_other) (@pe_int _ _ _ _) (fun _ _ => rfl)) (@pa_nil _) (by walk_at "zz")) (by walk_at "zz")) nam_max dbg_max (by walk_at "zz") (by walk_at "zz")) (by walk_at "zz") (by walk_at "zz")) (@pss_cons _ _ _ _ _ (@ps_set _ _ 3 _ _ _ _ nd rfl n_box_meet_3 (@pe_callB _ _ _ _ _ _ _ _ _ (@call_max2 _ rfl) g_box_meet_max z_max PyProof.Rows.boot_max (@pa_cons _ _ _ _ _ (@pe_ix _ _ _ _ _ _ _ (@ix_tup _) (@pv _ 0 _ _ rfl v_box_meet_0 dbg_one cls_one) (@pe_int _ _ _ _) (fun _ _ => rfl)) (@pa_cons _ _ _ _ _ (@pe_ix _ _ _ _ _ _ _ (@ix_tup _) (@pv _ 1 _ _ rfl v_box_meet_1 dbg_other cls_other) (@pe_int _ _ _ _) (fun _ _ => rfl)) (@pa_nil _) (by walk_at "zz")) (by walk_at "zz")) nam_max dbg_max (by walk_at "zz") (by walk_at "zz")) (by walk_at "zz") (by walk_at "zz")) (@pss_cons _ _ _ _ _ (@ps_set _ _ 4 _ _ _ _ nd rfl n_box_meet_4 (@pe_op _ _ _ _ _ _ _ _ (@op_sub _) (@pe_callB _ _ _ _ _ _ _ _ _ (@call_min2 _ rfl) g_box_meet_min z_min PyProof.Rows.boot_min (@pa_cons _ _ _ _ _ (@pe_callC _ _ _ _ _ _ _ _ _ _ C_right_of hr g_box_meet_right_of (@pa_cons _ _ _ _ _ (@pv _ 0 _ _ rfl v_box_meet_0 dbg_one cls_one) (@pa_nil _) (by walk_at "zz")) dbg_right_of (by walk_at "zz") (by walk_at "zz")) (@pa_cons _ _ _ _ _ (@pe_callC _ _ _ _ _ _ _ _ _ _ C_right_of hr g_box_meet_right_of (@pa_cons _ _ _ _ _ (@pv _ 1 _ _ rfl v_box_meet_1 dbg_other cls_other) (@pa_nil _) (by walk_at "zz")) dbg_right_of (by walk_at "zz") (by walk_at "zz")) (@pa_nil _) (by walk_at "zz")) (by walk_at "zz")) nam_min dbg_min (by walk_at "zz") (by walk_at "zz")) (@pv _ 2 _ _ rfl v_box_meet_2 dbg_x cls_x)) (by walk_at "zz") (by walk_at "zz")) (@pss_cons _ _ _ _ _ (@ps_set _ _ 5 _ _ _ _ nd rfl n_box_meet_5 (@pe_op _ _ _ _ _ _ _ _ (@op_sub _) (@pe_callB _ _ _ _ _ _ _ _ _ (@call_min2 _ rfl) g_box_meet_min z_min PyProof.Rows.boot_min (@pa_cons _ _ _ _ _ (@pe_callC _ _ _ _ _ _ _ _ _ _ C_bottom_of hr g_box_meet_bottom_of (@pa_cons _ _ _ _ _ (@pv _ 0 _ _ rfl v_box_meet_0 dbg_one cls_one) (@pa_nil _) (by walk_at "zz")) dbg_bottom_of (by walk_at "zz") (by walk_at "zz")) (@pa_cons _ _ _ _ _ (@pe_callC _ _ _ _ _ _ _ _ _ _ C_bottom_of hr g_box_meet_bottom_of (@pa_cons _ _ _ _ _ (@pv _ 1 _ _ rfl v_box_meet_1 dbg_other cls_other) (@pa_nil _) (by walk_at "zz")) dbg_bottom_of (by walk_at "zz") (by walk_at "zz")) (@pa_nil _) (by walk_at "zz")) (by walk_at "zz")) nam_min dbg_min (by walk_at "zz") (by walk_at "zz")) (@pv _ 3 _ _ rfl v_box_meet_3 dbg_y cls_y)) (by walk_at "zz") (by walk_at "zz")) (@pss_cons _ _ _ _ _ (@ps_set _ _ 6 _ _ _ _ nd rfl n_box_meet_6 (@pe_tup _ _ _ _ _ (@pa_cons _ _ _ _ _ (@pv _ 2 _ _ rfl v_box_meet_2 dbg_x cls_x) (@pa_cons _ _ _ _ _ (@pv _ 3 _ _ rfl v_box_meet_3 dbg_y cls_y) (@pa_cons _ _ _ _ _ (@pv _ 4 _ _ rfl v_box_meet_4 dbg_w cls_w) (@pa_cons _ _ _ _ _ (@pv _ 5 _ _ rfl v_box_meet_5 dbg_h cls_h) (@pa_nil _) (by walk_at "zz")) (by walk_at "zz")) (by walk_at "zz")) (by walk_at "zz"))) (by walk_at "zz") (by walk_at "zz")) (@pss_one _ _ _ (@ps_ret _ _ _ _ (@pe_ifExp _ _ _ _ _ _ _ _ (@pt_val _ _ _ (@pe_callC _ _ _ _ _ _ _ _ _ _ C_has_cells hr g_box_meet_has_cells (@pa_cons _ _ _ _ _ (@pv _ 6 _ _ rfl v_box_meet_6 dbg_meet cls_meet) (@pa_nil _) (by walk_at "zz")) dbg_has_cells (by walk_at "zz") (by walk_at "zz")) (by walk_at "zz")) (@pv _ 6 _ _ rfl v_box_meet_6 dbg_meet cls_meet) (@pe_non _ _ _))))))))), fn_run (N := ["one", "other", "x", "y", "w", "h", "meet"]) (np := 2) (nl := 5) (b_seq (b_asg (e_app c_max2 (a_cons (e_op o_ixT e_var e_int) (a_cons (e_op o_ixT e_var e_int) a_nil))) g_name) (b_seq (b_asg (e_app c_max2 (a_cons (e_op o_ixT e_var e_int) (a_cons (e_op o_ixT e_var e_int) a_nil))) g_name) (b_seq (b_asg (e_op o_sub (e_app c_min2 (a_cons (e_call (a_cons e_var a_nil)) (a_cons (e_call (a_cons e_var a_nil)) a_nil))) e_var) g_name) (b_seq (b_asg (e_op o_sub (e_app c_min2 (a_cons (e_call (a_cons e_var a_nil)) (a_cons (e_call (a_cons e_var a_nil)) a_nil))) e_var) g_name) (b_seq (b_asg (e_tup (a_cons e_var (a_cons e_var (a_cons e_var (a_cons e_var a_nil))))) g_name) (b_ret (e_if (t_val (e_call (a_cons e_var a_nil))) e_var e_non) (by decide))))))) rfl h⟩
theorem ok_box_around (F : Fun K "box_around" "box_around" s_box_around f fd) (C_right_of : Cal P w K mg base 1 "right_of" ["box"] (spD K m_right_of false)) (C_bottom_of : Cal P w K mg base 1 "bottom_of" ["box"] (spD K m_bottom_of false)) : FnOk P w K mg base CX0 2 f fd ["box", "inner"] (spD K m_box_around true) := by
  have nd := sc_box_around.nd
  refine F.ok sc_box_around (fun vs H Q E h => fn_len dFun_len h) (fun cdv A outer s H vs Q E hr h => ?_)
  exact ⟨_, (@pss_cons _ _ _ _ _ (@ps_set _ _ 2 _ _ _ _ nd rfl n_box_around_2 (@pe_callC _ _ _ _ _ _ _ _ _ _ C_right_of hr g_box_around_right_of (@pa_cons _ _ _ _ _ (@pv _ 1 _ _ rfl v_box_around_1 dbg_inner cls_inner) (@pa_nil _) (by walk_at "zz")) dbg_right_of (by walk_at "zz") (by walk_at "zz")) (by walk_at "zz") (by walk_at "zz")) (@pss_cons _ _ _ _ _ (@ps_set _ _ 3 _ _ _ _ nd rfl n_box_around_3 (@pe_callC _ _ _ _ _ _ _ _ _ _ C_bottom_of hr g_box_around_bottom_of (@pa_cons _ _ _ _ _ (@pv _ 1 _ _ rfl v_box_around_1 dbg_inner cls_inner) (@pa_nil _) (by walk_at "zz")) dbg_bottom_of (by walk_at "zz") (by walk_at "zz")) (by walk_at "zz") (by walk_at "zz")) (@pss_cons _ _ _ _ _ (@ps_set _ _ 4 _ _ _ _ nd rfl n_box_around_4 (@pe_lst _ _ _ _ (@pa_nil _)) (by walk_at "zz") (by walk_at "zz")) (@pss_cons _ _ _ _ _ (@ps_if _ _ _ _ _ _ _ _ (@pt_cmpR _ _ _ _ _ _ _ _ (@op_lt _) (@pe_ix _ _ _ _ _ _ _ (@ix_tup _) (@pv _ 0 _ _ rfl v_box_around_0 dbg_box cls_box) (@pe_int _ _ _ _) (fun _ _ => rfl)) (@pe_ix _ _ _ _ _ _ _ (@ix_tup _) (@pv _ 1 _ _ rfl v_box_around_1 dbg_inner cls_inner) (@pe_int _ _ _ _) (fun _ _ => rfl)) (nomark _)) (@pss_one _ _ _ (@ps_expr _ _ _ _ (@pe_bm _ _ _ _ _ _ _ _ _ _ _ _ PySem.F.plainAttrs_list PySem.F.slot_list_append PySem.F.type_list_append (@mt_append _) (@pv _ 4 _ _ rfl v_box_around_4 dbg_pieces cls_pieces) (@pa_cons _ _ _ _ _ (@pe_tup _ _ _ _ _ (@pa_cons _ _ _ _ _ (@pe_ix _ _ _ _ _ _ _ (@ix_tup _) (@pv _ 0 _ _ rfl v_box_around_0 dbg_box cls_box) (@pe_int _ _ _ _) (fun _ _ => rfl)) (@pa_cons _ _ _ _ _ (@pe_ix _ _ _ _ _ _ _ (@ix_tup _) (@pv _ 0 _ _ rfl v_box_around_0 dbg_box cls_box) (@pe_int _ _ _ _) (fun _ _ => rfl)) (@pa_cons _ _ _ _ _ (@pe_ix _ _ _ _ _ _ _ (@ix_tup _) (@pv _ 0 _ _ rfl v_box_around_0 dbg_box cls_box) (@pe_int _ _ _ _) (fun _ _ => rfl)) (@pa_cons _ _ _ _ _ (@pe_op _ _ _ _ _ _ _ _ (@op_sub _) (@pe_ix _ _ _ _ _ _ _ (@ix_tup _) (@pv _ 1 _ _ rfl v_box_around_1 dbg_inner cls_inner) (@pe_int _ _ _ _) (fun _ _ => rfl)) (@pe_ix _ _ _ _ _ _ _ (@ix_tup _) (@pv _ 0 _ _ rfl v_box_around_0 dbg_box cls_box) (@pe_int _ _ _ _) (fun _ _ => rfl))) (@pa_nil _) (by walk_at "zz")) (by walk_at "zz")) (by walk_at "zz")) (by walk_at "zz"))) (@pa_nil _) (by walk_at "zz")) (by walk_at "zz") (by walk_at "zz") (by walk_at "zz") (by walk_at "zz") (by walk_at "zz")) (by walk_at "zz"))) (@pss_nil _)) (@pss_cons _ _ _ _ _ (@ps_if _ _ _ _ _ _ _ _ (@pt_cmpR _ _ _ _ _ _ _ _ (@op_lt _) (@pe_ix _ _ _ _ _ _ _ (@ix_tup _) (@pv _ 0 _ _ rfl v_box_around_0 dbg_box cls_box) (@pe_int _ _ _ _) (fun _ _ => rfl)) (@pe_ix _ _ _ _ _ _ _ (@ix_tup _) (@pv _ 1 _ _ rfl v_box_around_1 dbg_inner cls_inner) (@pe_int _ _ _ _) (fun _ _ => rfl)) (nomark _)) (@pss_one _ _ _ (@ps_expr _ _ _ _ (@pe_bm _ _ _ _ _ _ _ _ _ _ _ _ PySem.F.plainAttrs_list PySem.F.slot_list_append PySem.F.type_list_append (@mt_append _) (@pv _ 4 _ _ rfl v_box_around_4 dbg_pieces cls_pieces) (@pa_cons _ _ _ _ _ (@pe_tup _ _ _ _ _ (@pa_cons _ _ _ _ _ (@pe_ix _ _ _ _ _ _ _ (@ix_tup _) (@pv _ 0 _ _ rfl v_box_around_0 dbg_box cls_box) (@pe_int _ _ _ _) (fun _ _ => rfl)) (@pa_cons _ _ _ _ _ (@pe_ix _ _ _ _ _ _ _ (@ix_tup _) (@pv _ 1 _ _ rfl v_box_around_1 dbg_inner cls_inner) (@pe_int _ _ _ _) (fun _ _ => rfl)) (@pa_cons _ _ _ _ _ (@pe_op _ _ _ _ _ _ _ _ (@op_sub _) (@pe_ix _ _ _ _ _ _ _ (@ix_tup _) (@pv _ 1 _ _ rfl v_box_around_1 dbg_inner cls_inner) (@pe_int _ _ _ _) (fun _ _ => rfl)) (@pe_ix _ _ _ _ _ _ _ (@ix_tup _) (@pv _ 0 _ _ rfl v_box_around_0 dbg_box cls_box) (@pe_int _ _ _ _) (fun _ _ => rfl))) (@pa_cons _ _ _ _ _ (@pe_ix _ _ _ _ _ _ _ (@ix_tup _) (@pv _ 1 _ _ rfl v_box_around_1 dbg_inner cls_inner) (@pe_int _ _ _ _) (fun _ _ => rfl)) (@pa_nil _) (by walk_at "zz")) (by walk_at "zz")) (by walk_at "zz")) (by walk_at "zz"))) (@pa_nil _) (by walk_at "zz")) (by walk_at "zz") (by walk_at "zz") (by walk_at "zz") (by walk_at "zz") (by walk_at "zz")) (by walk_at "zz"))) (@pss_nil _)) (@pss_cons _ _ _ _ _ (@ps_if _ _ _ _ _ _ _ _ (@pt_cmpR _ _ _ _ _ _ _ _ (@op_lt _) (@pv _ 2 _ _ rfl v_box_around_2 dbg_right cls_right) (@pe_callC _ _ _ _ _ _ _ _ _ _ C_right_of hr g_box_around_right_of (@pa_cons _ _ _ _ _ (@pv _ 0 _ _ rfl v_box_around_0 dbg_box cls_box) (@pa_nil _) (by walk_at "zz")) dbg_right_of (by walk_at "zz") (by walk_at "zz")) (nomark _)) (@pss_one _ _ _ (@ps_expr _ _ _ _ (@pe_bm _ _ _ _ _ _ _ _ _ _ _ _ PySem.F.plainAttrs_list PySem.F.slot_list_append PySem.F.type_list_append (@mt_append _) (@pv _ 4 _ _ rfl v_box_around_4 dbg_pieces cls_pieces) (@pa_cons _ _ _ _ _ (@pe_tup _ _ _ _ _ (@pa_cons _ _ _ _ _ (@pv _ 2 _ _ rfl v_box_around_2 dbg_right cls_right) (@pa_cons _ _ _ _ _ (@pe_ix _ _ _ _ _ _ _ (@ix_tup _) (@pv _ 1 _ _ rfl v_box_around_1 dbg_inner cls_inner) (@pe_int _ _ _ _) (fun _ _ => rfl)) (@pa_cons _ _ _ _ _ (@pe_op _ _ _ _ _ _ _ _ (@op_sub _) (@pe_callC _ _ _ _ _ _ _ _ _ _ C_right_of hr g_box_around_right_of (@pa_cons _ _ _ _ _ (@pv _ 0 _ _ rfl v_box_around_0 dbg_box cls_box) (@pa_nil _) (by walk_at "zz")) dbg_right_of (by walk_at "zz") (by walk_at "zz")) (@pv _ 2 _ _ rfl v_box_around_2 dbg_right cls_right)) (@pa_cons _ _ _ _ _ (@pe_ix _ _ _ _ _ _ _ (@ix_tup _) (@pv _ 1 _ _ rfl v_box_around_1 dbg_inner cls_inner) (@pe_int _ _ _ _) (fun _ _ => rfl)) (@pa_nil _) (by walk_at "zz")) (by walk_at "zz")) (by walk_at "zz")) (by walk_at "zz"))) (@pa_nil _) (by walk_at "zz")) (by walk_at "zz") (by walk_at "zz") (by walk_at "zz") (by walk_at "zz") (by walk_at "zz")) (by walk_at "zz"))) (@pss_nil _)) (@pss_cons _ _ _ _ _ (@ps_if _ _ _ _ _ _ _ _ (@pt_cmpR _ _ _ _ _ _ _ _ (@op_lt _) (@pv _ 3 _ _ rfl v_box_around_3 dbg_bottom cls_bottom) (@pe_callC _ _ _ _ _ _ _ _ _ _ C_bottom_of hr g_box_around_bottom_of (@pa_cons _ _ _ _ _ (@pv _ 0 _ _ rfl v_box_around_0 dbg_box cls_box) (@pa_nil _) (by walk_at "zz")) dbg_bottom_of (by walk_at "zz") (by walk_at "zz")) (nomark _)) (@pss_one _ _ _ (@ps_expr _ _ _ _ (@pe_bm _ _ _ _ _ _ _ _ _ _ _ _ PySem.F.plainAttrs_list PySem.F.slot_list_append PySem.F.type_list_append (@mt_append _) (@pv _ 4 _ _ rfl v_box_around_4 dbg_pieces cls_pieces) (@pa_cons _ _ _ _ _ (@pe_tup _ _ _ _ _ (@pa_cons _ _ _ _ _ (@pe_ix _ _ _ _ _ _ _ (@ix_tup _) (@pv _ 0 _ _ rfl v_box_around_0 dbg_box cls_box) (@pe_int _ _ _ _) (fun _ _ => rfl)) (@pa_cons _ _ _ _ _ (@pv _ 3 _ _ rfl v_box_around_3 dbg_bottom cls_bottom) (@pa_cons _ _ _ _ _ (@pe_ix _ _ _ _ _ _ _ (@ix_tup _) (@pv _ 0 _ _ rfl v_box_around_0 dbg_box cls_box) (@pe_int _ _ _ _) (fun _ _ => rfl)) (@pa_cons _ _ _ _ _ (@pe_op _ _ _ _ _ _ _ _ (@op_sub _) (@pe_callC _ _ _ _ _ _ _ _ _ _ C_bottom_of hr g_box_around_bottom_of (@pa_cons _ _ _ _ _ (@pv _ 0 _ _ rfl v_box_around_0 dbg_box cls_box) (@pa_nil _) (by walk_at "zz")) dbg_bottom_of (by walk_at "zz") (by walk_at "zz")) (@pv _ 3 _ _ rfl v_box_around_3 dbg_bottom cls_bottom)) (@pa_nil _) (by walk_at "zz")) (by walk_at "zz")) (by walk_at "zz")) (by walk_at "zz"))) (@pa_nil _) (by walk_at "zz")) (by walk_at "zz") (by walk_at "zz") (by walk_at "zz") (by walk_at "zz") (by walk_at "zz")) (by walk_at "zz"))) (@pss_nil _)) (@pss_one _ _ _ (@ps_ret _ _ _ _ (@pv _ 4 _ _ rfl v_box_around_4 dbg_pieces cls_pieces)))))))))), fn_run (N := ["box", "inner", "right", "bottom", "pieces"]) (np := 2) (nl := 3) (b_seq (b_asg (e_call (a_cons e_var a_nil)) g_name) (b_seq (b_asg (e_call (a_cons e_var a_nil)) g_name) (b_seq b_new (b_seq (b_if (t_test (e_op o_lt (e_op o_ixT e_var e_int) (e_op o_ixT e_var e_int))) (b_expr (e_mt (i := 4) m_append (a_cons (e_tup (a_cons (e_op o_ixT e_var e_int) (a_cons (e_op o_ixT e_var e_int) (a_cons (e_op o_ixT e_var e_int) (a_cons (e_op o_sub (e_op o_ixT e_var e_int) (e_op o_ixT e_var e_int)) a_nil))))) a_nil))) b_nil) (b_seq (b_if (t_test (e_op o_lt (e_op o_ixT e_var e_int) (e_op o_ixT e_var e_int))) (b_expr (e_mt (i := 4) m_append (a_cons (e_tup (a_cons (e_op o_ixT e_var e_int) (a_cons (e_op o_ixT e_var e_int) (a_cons (e_op o_sub (e_op o_ixT e_var e_int) (e_op o_ixT e_var e_int)) (a_cons (e_op o_ixT e_var e_int) a_nil))))) a_nil))) b_nil) (b_seq (b_if (t_test (e_op o_lt e_var (e_call (a_cons e_var a_nil)))) (b_expr (e_mt (i := 4) m_append (a_cons (e_tup (a_cons e_var (a_cons (e_op o_ixT e_var e_int) (a_cons (e_op o_sub (e_call (a_cons e_var a_nil)) e_var) (a_cons (e_op o_ixT e_var e_int) a_nil))))) a_nil))) b_nil) (b_seq (b_if (t_test (e_op o_lt e_var (e_call (a_cons e_var a_nil)))) (b_expr (e_mt (i := 4) m_append (a_cons (e_tup (a_cons (e_op o_ixT e_var e_int) (a_cons e_var (a_cons (e_op o_ixT e_var e_int) (a_cons (e_op o_sub (e_call (a_cons e_var a_nil)) e_var) a_nil))))) a_nil))) b_nil) (b_retM (i := 4))))))))) rfl h⟩
theorem ok_box_less (F : Fun K "box_less" "box_less" s_box_less f fd) (C_box_meet : Cal P w K mg base 2 "box_meet" ["one", "other"] (spD K m_box_meet false)) (C_box_around : Cal P w K mg base 2 "box_around" ["box", "inner"] (spD K m_box_around true)) : FnOk P w K mg base CX0 3 f fd ["one", "other"] (spD K m_box_less true) := by
  have nd := sc_box_less.nd
  refine F.ok sc_box_less (fun vs H Q E h => fn_len dFun_len h) (fun cdv A outer s H vs Q E hr h => ?_)
  exact ⟨_, (@pss_cons _ _ _ _ _ (@ps_set _ _ 2 _ _ _ _ nd rfl n_box_less_2 (@pe_callC _ _ _ _ _ _ _ _ _ _ C_box_meet hr g_box_less_box_meet (@pa_cons _ _ _ _ _ (@pv _ 0 _ _ rfl v_box_less_0 dbg_one cls_one) (@pa_cons _ _ _ _ _ (@pv _ 1 _ _ rfl v_box_less_1 dbg_other cls_other) (@pa_nil _) (by walk_at "zz")) (by walk_at "zz")) dbg_box_meet (by walk_at "zz") (by walk_at "zz")) (by walk_at "zz") (by walk_at "zz")) (@pss_cons _ _ _ _ _ (@ps_if _ _ _ _ _ _ _ _ (@pt_cmpR _ _ _ _ _ _ _ _ (@op_isN _) (@pv _ 2 _ _ rfl v_box_less_2 dbg_meet cls_meet) (@pe_non _ _ _) (nomark _)) (@pss_one _ _ _ (@ps_ret _ _ _ _ (@pe_lst _ _ _ _ (@pa_cons _ _ _ _ _ (@pv _ 0 _ _ rfl v_box_less_0 dbg_one cls_one) (@pa_nil _) (by walk_at "zz"))))) (@pss_nil _)) (@pss_one _ _ _ (@ps_ret _ _ _ _ (@pe_callC _ _ _ _ _ _ _ _ _ _ C_box_around hr g_box_less_box_around (@pa_cons _ _ _ _ _ (@pv _ 0 _ _ rfl v_box_less_0 dbg_one cls_one) (@pa_cons _ _ _ _ _ (@pv _ 2 _ _ rfl v_box_less_2 dbg_meet cls_meet) (@pa_nil _) (by walk_at "zz")) (by walk_at "zz")) dbg_box_around (by walk_at "zz") (by walk_at "zz")))))), fn_run (N := ["one", "other", "meet"]) (np := 2) (nl := 1) (b_seq (b_asg (e_call (a_cons e_var (a_cons e_var a_nil))) g_name) (b_seq (b_if (t_test (e_op o_isN e_var e_non)) (b_ret (e_lst (a_cons e_var a_nil)) (by decide)) b_nil) (b_ret (e_call (a_cons e_var (a_cons e_var a_nil))) (by decide)))) rfl h⟩
theorem ok_box_less_all (F : Fun K "box_less_all" "box_less_all" s_box_less_all f fd) (C_next_meeting : Cal P w K mg base 3 "next_meeting" ["box", "others", "place"] (spD K m_next_meeting false)) (C_box_less : Cal P w K mg base 3 "box_less" ["one", "other"] (spD K m_box_less true)) (z_len : mg "len" = none) (z_reversed : mg "reversed" = none) : FnOk P w K mg base CX0 4 f fd ["box", "others"] (spD K m_box_less_all true) := by
  have nd := sc_box_less_all.nd
  refine F.ok sc_box_less_all (fun vs H Q E h => fn_len dFun_len h) (fun cdv A outer s H vs Q E hr h => ?_)
  exact ⟨_, (@pss_cons _ _ _ _ _ (@ps_set _ _ 2 _ _ _ _ nd rfl n_box_less_all_2 (@pe_lst _ _ _ _ (@pa_nil _)) (by walk_at "zz") (by walk_at "zz")) (@pss_cons _ _ _ _ _ (@ps_set _ _ 3 _ _ _ _ nd rfl n_box_less_all_3 (@pe_lst _ _ _ _ (@pa_cons _ _ _ _ _ (@pe_tup _ _ _ _ _ (@pa_cons _ _ _ _ _ (@pv _ 0 _ _ rfl v_box_less_all_0 dbg_box cls_box) (@pa_cons _ _ _ _ _ (@pe_int _ _ _ _) (@pa_nil _) (by walk_at "zz")) (by walk_at "zz"))) (@pa_nil _) (by walk_at "zz"))) (by walk_at "zz") (by walk_at "zz")) (@pss_cons _ _ _ _ _ (@ps_while _ _ _ _ _ _ PassesOwn.never (@pt_cmpR _ _ _ _ _ _ _ _ (@op_gt _) (@pe_callB _ _ _ _ _ _ _ _ _ (@call_len _) g_box_less_all_len z_len PySem.boot_len (@pa_cons _ _ _ _ _ (@pv _ 3 _ _ rfl v_box_less_all_3 dbg_waiting cls_waiting) (@pa_nil _) (by walk_at "zz")) nam_len dbg_len (by walk_at "zz") (by walk_at "zz")) (@pe_int _ _ _ _) (nomark _)) (@pss_cons _ _ _ _ _ (@ps_set _ _ 4 _ _ _ _ nd rfl n_box_less_all_4 (@pe_bm0 _ _ _ _ _ _ _ _ _ PySem.F.plainAttrs_list PySem.F.slot_list_pop PySem.F.type_list_pop (@mt_pop _) (@pv _ 3 _ _ rfl v_box_less_all_3 dbg_waiting cls_waiting) (by walk_at "zz") (by walk_at "zz")) (by walk_at "zz") (by walk_at "zz")) (@pss_cons _ _ _ _ _ (@ps_set _ _ 5 _ _ _ _ nd rfl n_box_less_all_5 (@pe_callC _ _ _ _ _ _ _ _ _ _ C_next_meeting hr g_box_less_all_next_meeting (@pa_cons _ _ _ _ _ (@pe_ix _ _ _ _ _ _ _ (@ix_tup _) (@pv _ 4 _ _ rfl v_box_less_all_4 dbg_last cls_last) (@pe_int _ _ _ _) (fun _ _ => rfl)) (@pa_cons _ _ _ _ _ (@pv _ 1 _ _ rfl v_box_less_all_1 dbg_others cls_others) (@pa_cons _ _ _ _ _ (@pe_ix _ _ _ _ _ _ _ (@ix_tup _) (@pv _ 4 _ _ rfl v_box_less_all_4 dbg_last cls_last) (@pe_int _ _ _ _) (fun _ _ => rfl)) (@pa_nil _) (by walk_at "zz")) (by walk_at "zz")) (by walk_at "zz")) dbg_next_meeting (by walk_at "zz") (by walk_at "zz")) (by walk_at "zz") (by walk_at "zz")) (@pss_one _ _ _ (@ps_if _ _ _ _ _ _ _ _ (@pt_cmpR _ _ _ _ _ _ _ _ (@op_eqK _ (hu64 hr)) (@pv _ 5 _ _ rfl v_box_less_all_5 dbg_place cls_place) (@pe_callB _ _ _ _ _ _ _ _ _ (@call_len _) g_box_less_all_len z_len PySem.boot_len (@pa_cons _ _ _ _ _ (@pv _ 1 _ _ rfl v_box_less_all_1 dbg_others cls_others) (@pa_nil _) (by walk_at "zz")) nam_len dbg_len (by walk_at "zz") (by walk_at "zz")) (nomark _)) (@pss_one _ _ _ (@ps_expr _ _ _ _ (@pe_bm _ _ _ _ _ _ _ _ _ _ _ _ PySem.F.plainAttrs_list PySem.F.slot_list_append PySem.F.type_list_append (@mt_append _) (@pv _ 2 _ _ rfl v_box_less_all_2 dbg_rest cls_rest) (@pa_cons _ _ _ _ _ (@pe_ix _ _ _ _ _ _ _ (@ix_tup _) (@pv _ 4 _ _ rfl v_box_less_all_4 dbg_last cls_last) (@pe_int _ _ _ _) (fun _ _ => rfl)) (@pa_nil _) (by walk_at "zz")) (by walk_at "zz") (by walk_at "zz") (by walk_at "zz") (by walk_at "zz") (by walk_at "zz")) (by walk_at "zz"))) (@pss_one _ _ _ (@ps_for _ _ _ _ _ _ _ _ PassesOwn.never rfl (@pi_rev _ _ _ _ _ _ (@pe_callC _ _ _ _ _ _ _ _ _ _ C_box_less hr g_box_less_all_box_less (@pa_cons _ _ _ _ _ (@pe_ix _ _ _ _ _ _ _ (@ix_tup _) (@pv _ 4 _ _ rfl v_box_less_all_4 dbg_last cls_last) (@pe_int _ _ _ _) (fun _ _ => rfl)) (@pa_cons _ _ _ _ _ (@pe_ix _ _ _ _ _ _ _ (@ix_list _) (@pv _ 1 _ _ rfl v_box_less_all_1 dbg_others cls_others) (@pv _ 5 _ _ rfl v_box_less_all_5 dbg_place cls_place) (fun _ _ => rfl)) (@pa_nil _) (by walk_at "zz")) (by walk_at "zz")) dbg_box_less (by walk_at "zz") (by walk_at "zz")) g_box_less_all_reversed z_reversed boot_rev nam_reversed dbg_reversed (by walk_at "zz")) (@pg_name _ _ 6 _ nd rfl n_box_less_all_6 (by walk_at "zz")) (@pss_one _ _ _ (@ps_expr _ _ _ _ (@pe_bm _ _ _ _ _ _ _ _ _ _ _ _ PySem.F.plainAttrs_list PySem.F.slot_list_append PySem.F.type_list_append (@mt_append _) (@pv _ 3 _ _ rfl v_box_less_all_3 dbg_waiting cls_waiting) (@pa_cons _ _ _ _ _ (@pe_tup _ _ _ _ _ (@pa_cons _ _ _ _ _ (@pv _ 6 _ _ rfl v_box_less_all_6 dbg_piece cls_piece) (@pa_cons _ _ _ _ _ (@pe_op _ _ _ _ _ _ _ _ (@op_add _) (@pv _ 5 _ _ rfl v_box_less_all_5 dbg_place cls_place) (@pe_int _ _ _ _)) (@pa_nil _) (by walk_at "zz")) (by walk_at "zz"))) (@pa_nil _) (by walk_at "zz")) (by walk_at "zz") (by walk_at "zz") (by walk_at "zz") (by walk_at "zz") (by walk_at "zz")) (by walk_at "zz"))) (by walk_at "zz")))))))) (@pss_one _ _ _ (@ps_ret _ _ _ _ (@pv _ 2 _ _ rfl v_box_less_all_2 dbg_rest cls_rest)))))), fn_run (N := ["box", "others", "rest", "waiting", "last", "place", "piece"]) (np := 2) (nl := 5) (b_seq b_new (b_seq (b_setM (e_lst (a_cons (e_tup (a_cons e_var (a_cons e_int a_nil))) a_nil))) (b_seq (b_while (t_bor (i := 3) (t_test (e_op o_gt (e_app c_len (a_cons e_var a_nil)) e_int))) (b_seq (b_asg (e_mt0 (i := 3) m_pop) g_name) (b_seq (b_asg (e_call (a_cons (e_op o_ixT e_var e_int) (a_cons e_var (a_cons (e_op o_ixT e_var e_int) a_nil)))) g_name) (b_if (t_test (e_op o_eq e_var (e_app c_len (a_cons e_var a_nil)))) (b_expr (e_mt (i := 2) m_append (a_cons (e_op o_ixT e_var e_int) a_nil))) (b_for (it_rev (e_call (a_cons (e_op o_ixT e_var e_int) (a_cons (e_op o_ixL e_var e_var) a_nil)))) g_name (b_expr (e_mt (i := 3) m_append (a_cons (e_tup (a_cons e_var (a_cons (e_op o_add e_var e_int) a_nil))) a_nil)))))))) (b_retM (i := 2))))) rfl h⟩
theorem ok_boxes_parted (F : Fun K "boxes_parted" "boxes_parted" s_boxes_parted f fd) (C_box_meet : Cal P w K mg base 4 "box_meet" ["one", "other"] (spD K m_box_meet false)) (C_box_less_all : Cal P w K mg base 4 "box_less_all" ["box", "others"] (spD K m_box_less_all true)) (z_enumerate : mg "enumerate" = none) : FnOk P w K mg base CX0 5 f fd ["boxes"] (spD K m_boxes_parted true) := by
  have nd := sc_boxes_parted.nd
  refine F.ok sc_boxes_parted (fun vs H Q E h => fn_len dFun_len h) (fun cdv A outer s H vs Q E hr h => ?_)
  exact ⟨_, (@pss_cons _ _ _ _ _ (@ps_set _ _ 1 _ _ _ _ nd rfl n_boxes_parted_1 (@pe_lst _ _ _ _ (@pa_nil _)) (by walk_at "zz") (by walk_at "zz")) (@pss_cons _ _ _ _ _ (@ps_for _ _ _ _ _ _ _ _ PassesOwn.never rfl (@pi_enum _ _ _ _ _ _ _ _ g_boxes_parted_enumerate z_enumerate (@pa_cons _ _ _ _ _ (@pv _ 0 _ _ rfl v_boxes_parted_0 dbg_boxes cls_boxes) (@pa_nil _) (by walk_at "zz")) nam_enumerate dbg_enumerate (by walk_at "zz")) (@pg_tup _ _ _ _ _ _ rfl (@pgs_cons _ _ _ _ _ (@pg_name _ _ 2 _ nd rfl n_boxes_parted_2 (by walk_at "zz")) (@pgs_cons _ _ _ _ _ (@pg_name _ _ 3 _ nd rfl n_boxes_parted_3 (by walk_at "zz")) (@pgs_nil _) (by walk_at "zz")) (by walk_at "zz")) (by walk_at "zz") (by walk_at "zz")) (@pss_cons _ _ _ _ _ (@ps_setLC _ ["other", "box"] 1 [3] _ _ _ _ _ _ _ _ _ _ 4 _ _ _ nd rfl l_boxes_parted_4 rfl (@lc_ok _ ["other", "box"] 1 [3] _ ["boxes", "parted", "place", "box", "near"] (defScope s_boxes_parted) rfl rfl (by walk_at "dk")) (@pi_list _ _ _ _ (@pe_slice _ _ _ _ _ _ _ _ _ _ (@sl_list _) (@pv _ 0 _ _ rfl v_boxes_parted_0 dbg_boxes cls_boxes) (@po_none _) (@po_some _ _ _ (@pv _ 2 _ _ rfl v_boxes_parted_2 dbg_place cls_place)))) (fun cl fp s3 H3 => (@pg_name _ _ 0 _ nd0_boxes_parted rfl (loc_local (by walk_at "dk")) (Or.inr (rl_local (by walk_at "dk"))))) (fun cl fp s3 H3 => (@pts_one _ _ _ (@pt_cmpR _ _ _ _ _ _ _ _ (@op_notN _) (@pe_callC _ _ _ _ _ _ _ _ _ _ C_box_meet hr (rl_glob (by walk_at "dk")) (@pa_cons _ _ _ _ _ (@pv _ 1 _ _ rfl (vis_free (by walk_at "dk")) dbg_box cls_box) (@pa_cons _ _ _ _ _ (@pv _ 0 _ _ rfl (vis_local (by walk_at "dk")) dbg_other cls_other) (@pa_nil _) (by walk_at "zz")) (by walk_at "zz")) dbg_box_meet (by walk_at "zz") (by walk_at "zz")) (@pe_non _ _ _) (nomark _)))) (fun cl fp s3 H3 => (@pv _ 0 _ _ rfl (vis_local (by walk_at "dk")) dbg_other cls_other)) (by walk_at "zz") (by walk_at "zz")) (@pss_one _ _ _ (@ps_expr _ _ _ _ (@pe_bm _ _ _ _ _ _ _ _ _ _ _ _ PySem.F.plainAttrs_list PySem.F.slot_list_extend PySem.F.type_list_extend (@mt_extend _) (@pv _ 1 _ _ rfl v_boxes_parted_1 dbg_parted cls_parted) (@pa_cons _ _ _ _ _ (@pe_callC _ _ _ _ _ _ _ _ _ _ C_box_less_all hr g_boxes_parted_box_less_all (@pa_cons _ _ _ _ _ (@pv _ 3 _ _ rfl v_boxes_parted_3 dbg_box cls_box) (@pa_cons _ _ _ _ _ (@pv _ 4 _ _ rfl v_boxes_parted_4 dbg_near cls_near) (@pa_nil _) (by walk_at "zz")) (by walk_at "zz")) dbg_box_less_all (by walk_at "zz") (by walk_at "zz")) (@pa_nil _) (by walk_at "zz")) (by walk_at "zz") (by walk_at "zz") (by walk_at "zz") (by walk_at "zz") (by walk_at "zz")) (by walk_at "zz")))) (by walk_at "zz")) (@pss_one _ _ _ (@ps_ret _ _ _ _ (@pv _ 1 _ _ rfl v_boxes_parted_1 dbg_parted cls_parted))))), fn_run (N := ["boxes", "parted", "place", "box", "near"]) (np := 1) (nl := 4) (b_seq b_new (b_seq (b_for2 (it_enum e_var) (g_tup (gs_cons g_name (gs_cons g_name gs_nil)) (len_cons (len_cons len_nil))) (b_seq (b_lcs (e_lc (it_list (e_sl e_var o_nop (o_pt e_var))) g_name (t_test (e_op o_notN (e_call (a_cons e_var (a_cons e_var a_nil))) e_non)) e_var)) (b_expr (e_mt (i := 1) m_extend (a_cons (e_call (a_cons e_var (a_cons e_var a_nil))) a_nil))))) (b_retM (i := 1)))) rfl h⟩
theorem ok_L_due (F : Fun K "_law_due" "_law_due" s_L_due f fd) (C_box_less : Cal P w K mg base 3 "box_less" ["one", "other"] (spD K m_box_less true)) (z_len : mg "len" = none) (z_range : mg "range" = none) : FnOk P w K mg base CX0 4 f fd ["_law_boxes_here"] (spD K m_L_due false) := by
  have nd := sc_L_due.nd
  refine F.ok sc_L_due (fun vs H Q E h => fn_len dFun_len h) (fun cdv A outer s H vs Q E hr h => ?_)
  exact ⟨_, (@pss_cons _ _ _ _ _ (@ps_set _ _ 1 _ _ _ _ nd rfl n_L_due_1 (@pe_lst _ _ _ _ (@pa_nil _)) (by walk_at "zz") (by walk_at "zz")) (@pss_cons _ _ _ _ _ (@ps_for _ _ _ _ _ _ _ _ PassesOwn.never rfl (@pi_range1 _ _ _ _ _ _ g_L_due_range z_range (@pa_cons _ _ _ _ _ (@pe_callB _ _ _ _ _ _ _ _ _ (@call_len _) g_L_due_len z_len PySem.boot_len (@pa_cons _ _ _ _ _ (@pv _ 0 _ _ rfl v_L_due_0 dbg__law_boxes_here cls__law_boxes_here) (@pa_nil _) (by walk_at "zz")) nam_len dbg_len (by walk_at "zz") (by walk_at "zz")) (@pa_nil _) (by walk_at "zz")) (by walk_at "zz")) (@pg_name _ _ 2 _ nd rfl n_L_due_2 (by walk_at "zz")) (@pss_cons _ _ _ _ _ (@ps_set _ _ 3 _ _ _ _ nd rfl n_L_due_3 (@pe_lst _ _ _ _ (@pa_cons _ _ _ _ _ (@pe_ix _ _ _ _ _ _ _ (@ix_list _) (@pv _ 0 _ _ rfl v_L_due_0 dbg__law_boxes_here cls__law_boxes_here) (@pv _ 2 _ _ rfl v_L_due_2 dbg__law_k cls__law_k) (fun _ _ => rfl)) (@pa_nil _) (by walk_at "zz"))) (by walk_at "zz") (by walk_at "zz")) (@pss_cons _ _ _ _ _ (@ps_for _ _ _ _ _ _ _ _ PassesOwn.never rfl (@pi_list _ _ _ _ (@pe_slice _ _ _ _ _ _ _ _ _ _ (@sl_list _) (@pv _ 0 _ _ rfl v_L_due_0 dbg__law_boxes_here cls__law_boxes_here) (@po_none _) (@po_some _ _ _ (@pv _ 2 _ _ rfl v_L_due_2 dbg__law_k cls__law_k)))) (@pg_name _ _ 4 _ nd rfl n_L_due_4 (by walk_at "zz")) (@pss_cons _ _ _ _ _ (@ps_set _ _ 5 _ _ _ _ nd rfl n_L_due_5 (@pe_lst _ _ _ _ (@pa_nil _)) (by walk_at "zz") (by walk_at "zz")) (@pss_cons _ _ _ _ _ (@ps_for _ _ _ _ _ _ _ _ PassesOwn.never rfl (@pi_list _ _ _ _ (@pv _ 3 _ _ rfl v_L_due_3 dbg__law_parts cls__law_parts)) (@pg_name _ _ 6 _ nd rfl n_L_due_6 (by walk_at "zz")) (@pss_one _ _ _ (@ps_set _ _ 5 _ _ _ _ nd rfl n_L_due_5 (@pe_op _ _ _ _ _ _ _ _ (@op_cat _) (@pv _ 5 _ _ rfl v_L_due_5 dbg__law_longer cls__law_longer) (@pe_callC _ _ _ _ _ _ _ _ _ _ C_box_less hr g_L_due_box_less (@pa_cons _ _ _ _ _ (@pv _ 6 _ _ rfl v_L_due_6 dbg__law_part cls__law_part) (@pa_cons _ _ _ _ _ (@pv _ 4 _ _ rfl v_L_due_4 dbg__law_ahead cls__law_ahead) (@pa_nil _) (by walk_at "zz")) (by walk_at "zz")) dbg_box_less (by walk_at "zz") (by walk_at "zz"))) (by walk_at "zz") (by walk_at "zz"))) (by walk_at "zz")) (@pss_one _ _ _ (@ps_set _ _ 3 _ _ _ _ nd rfl n_L_due_3 (@pv _ 5 _ _ rfl v_L_due_5 dbg__law_longer cls__law_longer) (by walk_at "zz") (by walk_at "zz"))))) (by walk_at "zz")) (@pss_one _ _ _ (@ps_set _ _ 1 _ _ _ _ nd rfl n_L_due_1 (@pe_op _ _ _ _ _ _ _ _ (@op_cat _) (@pv _ 1 _ _ rfl v_L_due_1 dbg__law_due_here cls__law_due_here) (@pv _ 3 _ _ rfl v_L_due_3 dbg__law_parts cls__law_parts)) (by walk_at "zz") (by walk_at "zz"))))) (by walk_at "zz")) (@pss_one _ _ _ (@ps_ret _ _ _ _ (@pv _ 1 _ _ rfl v_L_due_1 dbg__law_due_here cls__law_due_here))))), fn_run (N := ["_law_boxes_here", "_law_due_here", "_law_k", "_law_parts", "_law_ahead", "_law_longer", "_law_part"]) (np := 1) (nl := 6) (b_seq (b_asg (e_lst a_nil) g_name) (b_seq (b_for (it_range1 (a_cons (e_app c_len (a_cons e_var a_nil)) a_nil)) g_name (b_seq (b_asg (e_lst (a_cons (e_op o_ixL e_var e_var) a_nil)) g_name) (b_seq (b_for (it_list (e_sl e_var o_nop (o_pt e_var))) g_name (b_seq (b_asg (e_lst a_nil) g_name) (b_seq (b_for (it_list e_var) g_name (b_asg (e_op o_cat e_var (e_call (a_cons e_var (a_cons e_var a_nil)))) g_name)) (b_asg e_var g_name)))) (b_asg (e_op o_cat e_var e_var) g_name)))) (b_ret e_var (by decide)))) rfl h⟩
theorem ok_L_cell_at (F : Fun K "_law_cell_at" "_law_cell_at" s_L_cell_at f fd) (z_len : mg "len" = none) : FnOk P w K mg base CX0 1 f fd ["_law_script", "_law_k"] (spD K m_L_cell_at false) := by
  have nd := sc_L_cell_at.nd
  refine F.ok sc_L_cell_at (fun vs H Q E h => fn_len dFun_len h) (fun cdv A outer s H vs Q E hr h => ?_)
  exact ⟨_, (@pss_cons _ _ _ _ _ (@ps_if _ _ _ _ _ _ _ _ (@pt_cmpR _ _ _ _ _ _ _ _ (@op_lt _) (@pv _ 1 _ _ rfl v_L_cell_at_1 dbg__law_k cls__law_k) (@pe_callB _ _ _ _ _ _ _ _ _ (@call_len _) g_L_cell_at_len z_len PySem.boot_len (@pa_cons _ _ _ _ _ (@pv _ 0 _ _ rfl v_L_cell_at_0 dbg__law_script cls__law_script) (@pa_nil _) (by walk_at "zz")) nam_len dbg_len (by walk_at "zz") (by walk_at "zz")) (nomark _)) (@pss_one _ _ _ (@ps_ret _ _ _ _ (@pe_ix _ _ _ _ _ _ _ (@ix_list _) (@pv _ 0 _ _ rfl v_L_cell_at_0 dbg__law_script cls__law_script) (@pv _ 1 _ _ rfl v_L_cell_at_1 dbg__law_k cls__law_k) (fun _ _ => rfl)))) (@pss_nil _)) (@pss_one _ _ _ (@ps_ret _ _ _ _ (@pe_int _ _ _ _)))), fn_run (N := ["_law_script", "_law_k"]) (np := 2) (nl := 0) (b_seq (b_if (t_test (e_op o_lt e_var (e_lenC (i := 0)))) (b_ret (e_ixC (i := 0) e_var) (by decide)) b_nil) (b_ret e_int (by decide))) rfl h⟩
theorem ok_L_big (F : Fun K "_law_big" "_law_big" s_L_big f fd) (C_L_cell_at : Cal P w K mg base 1 "_law_cell_at" ["_law_script", "_law_k"] (spD K m_L_cell_at false)) (z_range : mg "range" = none) : FnOk P w K mg base CX0 2 f fd ["_law_script", "_law_at"] (spD K m_L_big false) := by
  have nd := sc_L_big.nd
  refine F.ok sc_L_big (fun vs H Q E h => fn_len dFun_len h) (fun cdv A outer s H vs Q E hr h => ?_)
  exact ⟨_, (@pss_cons _ _ _ _ _ (@ps_set _ _ 2 _ _ _ _ nd rfl n_L_big_2 (@pe_tup _ _ _ _ _ (@pa_cons _ _ _ _ _ (@pe_int _ _ _ _) (@pa_cons _ _ _ _ _ (@pe_int _ _ _ _) (@pa_cons _ _ _ _ _ (@pe_int _ _ _ _) (@pa_cons _ _ _ _ _ (@pe_int _ _ _ _) (@pa_cons _ _ _ _ _ (@pe_int _ _ _ _) (@pa_cons _ _ _ _ _ (@pe_int _ _ _ _) (@pa_cons _ _ _ _ _ (@pe_int _ _ _ _) (@pa_cons _ _ _ _ _ (@pe_int _ _ _ _) (@pa_nil _) (by walk_at "zz")) (by walk_at "zz")) (by walk_at "zz")) (by walk_at "zz")) (by walk_at "zz")) (by walk_at "zz")) (by walk_at "zz")) (by walk_at "zz"))) (by walk_at "zz") (by walk_at "zz")) (@pss_cons _ _ _ _ _ (@ps_set _ _ 3 _ _ _ _ nd rfl n_L_big_3 (@pe_tup _ _ _ _ _ (@pa_cons _ _ _ _ _ (@pe_int _ _ _ _) (@pa_cons _ _ _ _ _ (@pe_int _ _ _ _) (@pa_cons _ _ _ _ _ (@pe_int _ _ _ _) (@pa_cons _ _ _ _ _ (@pe_int _ _ _ _) (@pa_cons _ _ _ _ _ (@pe_int _ _ _ _) (@pa_cons _ _ _ _ _ (@pe_int _ _ _ _) (@pa_cons _ _ _ _ _ (@pe_int _ _ _ _) (@pa_cons _ _ _ _ _ (@pe_int _ _ _ _) (@pa_nil _) (by walk_at "zz")) (by walk_at "zz")) (by walk_at "zz")) (by walk_at "zz")) (by walk_at "zz")) (by walk_at "zz")) (by walk_at "zz")) (by walk_at "zz"))) (by walk_at "zz") (by walk_at "zz")) (@pss_cons _ _ _ _ _ (@ps_set _ _ 4 _ _ _ _ nd rfl n_L_big_4 (@pe_callC _ _ _ _ _ _ _ _ _ _ C_L_cell_at hr g_L_big__law_cell_at (@pa_cons _ _ _ _ _ (@pv _ 0 _ _ rfl v_L_big_0 dbg__law_script cls__law_script) (@pa_cons _ _ _ _ _ (@pv _ 1 _ _ rfl v_L_big_1 dbg__law_at cls__law_at) (@pa_nil _) (by walk_at "zz")) (by walk_at "zz")) dbg__law_cell_at (by walk_at "zz") (by walk_at "zz")) (by walk_at "zz") (by walk_at "zz")) (@pss_cons _ _ _ _ _ (@ps_if _ _ _ _ _ _ _ _ (@pt_cmpR _ _ _ _ _ _ _ _ (@op_ge _) (@pv _ 4 _ _ rfl v_L_big_4 dbg__law_cell cls__law_cell) (@pe_op _ _ _ _ _ _ _ _ (@op_pow _) (@pe_int _ _ _ _) (@pe_int _ _ _ _)) (nomark _)) (@pss_one _ _ _ (@ps_ret _ _ _ _ (@pv _ 4 _ _ rfl v_L_big_4 dbg__law_cell cls__law_cell))) (@pss_nil _)) (@pss_cons _ _ _ _ _ (@ps_set _ _ 5 _ _ _ _ nd rfl n_L_big_5 (@pe_int _ _ _ _) (by walk_at "zz") (by walk_at "zz")) (@pss_cons _ _ _ _ _ (@ps_for _ _ _ _ _ _ _ _ PassesOwn.never rfl (@pi_range1 _ _ _ _ _ _ g_L_big_range z_range (@pa_cons _ _ _ _ _ (@pe_int _ _ _ _) (@pa_nil _) (by walk_at "zz")) (by walk_at "zz")) (@pg_name _ _ 6 _ nd rfl n_L_big_6 (by walk_at "zz")) (@pss_cons _ _ _ _ _ (@ps_set _ _ 7 _ _ _ _ nd rfl n_L_big_7 (@pe_op _ _ _ _ _ _ _ _ (@op_add _) (@pe_op _ _ _ _ _ _ _ _ (@op_add _) (@pe_op _ _ _ _ _ _ _ _ (@op_mod _) (@pe_callC _ _ _ _ _ _ _ _ _ _ C_L_cell_at hr g_L_big__law_cell_at (@pa_cons _ _ _ _ _ (@pv _ 0 _ _ rfl v_L_big_0 dbg__law_script cls__law_script) (@pa_cons _ _ _ _ _ (@pe_op _ _ _ _ _ _ _ _ (@op_add _) (@pv _ 1 _ _ rfl v_L_big_1 dbg__law_at cls__law_at) (@pe_op _ _ _ _ _ _ _ _ (@op_mod _) (@pv _ 6 _ _ rfl v_L_big_6 dbg__law_k cls__law_k) (@pe_int _ _ _ _))) (@pa_nil _) (by walk_at "zz")) (by walk_at "zz")) dbg__law_cell_at (by walk_at "zz") (by walk_at "zz")) (@pe_op _ _ _ _ _ _ _ _ (@op_pow _) (@pe_int _ _ _ _) (@pe_int _ _ _ _))) (@pe_int _ _ _ _)) (@pe_op _ _ _ _ _ _ _ _ (@op_mulB _) (@pv _ 6 _ _ rfl v_L_big_6 dbg__law_k cls__law_k) (@pv _ 6 _ _ rfl v_L_big_6 dbg__law_k cls__law_k))) (by walk_at "zz") (by walk_at "zz")) (@pss_one _ _ _ (@ps_set _ _ 5 _ _ _ _ nd rfl n_L_big_5 (@pe_op _ _ _ _ _ _ _ _ (@op_add _) (@pe_op _ _ _ _ _ _ _ _ (@op_mulB _) (@pv _ 5 _ _ rfl v_L_big_5 dbg__law_big_here cls__law_big_here) (@pe_int _ _ _ _)) (@pe_op _ _ _ _ _ _ _ _ (@op_mod _) (@pe_op _ _ _ _ _ _ _ _ (@op_mod _) (@pe_op _ _ _ _ _ _ _ _ (@op_mulB _) (@pv _ 7 _ _ rfl v_L_big_7 dbg__law_one cls__law_one) (@pe_ix _ _ _ _ _ _ _ (@ix_tup _) (@pv _ 2 _ _ rfl v_L_big_2 dbg__law_by cls__law_by) (@pe_op _ _ _ _ _ _ _ _ (@op_mod _) (@pv _ 6 _ _ rfl v_L_big_6 dbg__law_k cls__law_k) (@pe_int _ _ _ _)) (fun _ _ => rfl))) (@pe_ix _ _ _ _ _ _ _ (@ix_tup _) (@pv _ 3 _ _ rfl v_L_big_3 dbg__law_prime cls__law_prime) (@pe_op _ _ _ _ _ _ _ _ (@op_mod _) (@pv _ 6 _ _ rfl v_L_big_6 dbg__law_k cls__law_k) (@pe_int _ _ _ _)) (fun _ _ => rfl))) (@pe_int _ _ _ _))) (by walk_at "zz") (by walk_at "zz")))) (by walk_at "zz")) (@pss_one _ _ _ (@ps_ret _ _ _ _ (@pv _ 5 _ _ rfl v_L_big_5 dbg__law_big_here cls__law_big_here))))))))), fn_run (N := ["_law_script", "_law_at", "_law_by", "_law_prime", "_law_cell", "_law_big_here", "_law_k", "_law_one"]) (np := 2) (nl := 6) (b_seq (b_asg (e_tup (a_cons e_int (a_cons e_int (a_cons e_int (a_cons e_int (a_cons e_int (a_cons e_int (a_cons e_int (a_cons e_int a_nil))))))))) g_name) (b_seq (b_asg (e_tup (a_cons e_int (a_cons e_int (a_cons e_int (a_cons e_int (a_cons e_int (a_cons e_int (a_cons e_int (a_cons e_int a_nil))))))))) g_name) (b_seq (b_asg (e_callC (i := 0) (a_cons e_var a_nil)) g_name) (b_seq (b_if (t_test (e_op o_ge e_var (e_op o_pow e_int e_int))) (b_ret e_var (by decide)) b_nil) (b_seq (b_asg e_int g_name) (b_seq (b_for (it_range1 (a_cons e_int a_nil)) g_name (b_seq (b_asg (e_op o_add (e_op o_add (e_op o_mod (e_callC (i := 0) (a_cons (e_op o_add e_var (e_op o_mod e_var e_int)) a_nil)) (e_op o_pow e_int e_int)) e_int) (e_op o_mul e_var e_var)) g_name) (b_asg (e_op o_add (e_op o_mul e_var e_int) (e_op o_mod (e_op o_mod (e_op o_mul e_var (e_op o_ixT e_var (e_op o_mod e_var e_int))) (e_op o_ixT e_var (e_op o_mod e_var e_int))) e_int)) g_name))) (b_ret e_var (by decide)))))))) rfl h⟩
theorem ok_L_tuples (F : Fun K "_law_tuples" "_law_tuples" s_L_tuples f fd) (z_list : mg "list" = none) (z_isinstance : mg "isinstance" = none) (z_len : mg "len" = none) (z_tuple : mg "tuple" = none) (z_bool : mg "bool" = none) (z_int : mg "int" = none) : FnOk P w K mg base CX0 1 f fd ["_law_found", "_law_size"] (spD K m_L_tuples false) := by
  have nd := sc_L_tuples.nd
  refine F.ok sc_L_tuples (fun vs H Q E h => fn_len dFun_len h) (fun cdv A outer s H vs Q E hr h => ?_)
  exact ⟨_, (@pss_cons _ _ _ _ _ (@ps_if _ _ _ _ _ _ _ _ (@pt_not _ _ _ _ (@pt_val _ _ _ (@pe_callB _ _ _ _ _ _ _ _ _ (@call_isiK _) g_L_tuples_isinstance z_isinstance PyProof.Rows.boot_isinstance (@pa_cons _ _ _ _ _ (@pv _ 0 _ _ rfl v_L_tuples_0 dbg__law_found cls__law_found) (@pa_cons _ _ _ _ _ (pe_ty g_L_tuples_list z_list PySem.Pv.boot_list nam_list dbg_list) (@pa_nil _) (by walk_at "zz")) (by walk_at "zz")) nam_isinstance dbg_isinstance (by walk_at "zz") (by walk_at "zz")) (by walk_at "zz"))) (@pss_one _ _ _ (@ps_ret _ _ _ _ (@pe_bl _ _ _ _))) (@pss_nil _)) (@pss_cons _ _ _ _ _ (@ps_for _ _ _ _ _ _ _ _ PassesOwn.never rfl (@pi_list _ _ _ _ (@pv _ 0 _ _ rfl v_L_tuples_0 dbg__law_found cls__law_found)) (@pg_name _ _ 2 _ nd rfl n_L_tuples_2 (by walk_at "zz")) (@pss_cons _ _ _ _ _ (@ps_if _ _ _ _ _ _ _ _ (@PW.pt _ _ _ (@pw_or _ _ _ _ _ _ _ (@pt_not _ _ _ _ (@pt_val _ _ _ (@pe_callB _ _ _ _ _ _ _ _ _ (@call_isiK _) g_L_tuples_isinstance z_isinstance PyProof.Rows.boot_isinstance (@pa_cons _ _ _ _ _ (@pv _ 2 _ _ rfl v_L_tuples_2 dbg__law_one cls__law_one) (@pa_cons _ _ _ _ _ (pe_ty g_L_tuples_tuple z_tuple PySem.Pv.boot_tuple nam_tuple dbg_tuple) (@pa_nil _) (by walk_at "zz")) (by walk_at "zz")) nam_isinstance dbg_isinstance (by walk_at "zz") (by walk_at "zz")) (by walk_at "zz"))) (@pw_or1 _ _ _ _ (@pt_cmpR _ _ _ _ _ _ _ _ (@op_neK _ (hu64 hr)) (@pe_callB _ _ _ _ _ _ _ _ _ (@call_len _) g_L_tuples_len z_len PySem.boot_len (@pa_cons _ _ _ _ _ (@pv _ 2 _ _ rfl v_L_tuples_2 dbg__law_one cls__law_one) (@pa_nil _) (by walk_at "zz")) nam_len dbg_len (by walk_at "zz") (by walk_at "zz")) (@pv _ 1 _ _ rfl v_L_tuples_1 dbg__law_size cls__law_size) (nomark _))))) (@pss_one _ _ _ (@ps_ret _ _ _ _ (@pe_bl _ _ _ _))) (@pss_nil _)) (@pss_one _ _ _ (@ps_for _ _ _ _ _ _ _ _ PassesOwn.never rfl (@pi_tup _ _ _ _ (@pv _ 2 _ _ rfl v_L_tuples_2 dbg__law_one cls__law_one)) (@pg_name _ _ 3 _ nd rfl n_L_tuples_3 (by walk_at "zz")) (@pss_one _ _ _ (@ps_if _ _ _ _ _ _ _ _ (@PW.pt _ _ _ (@pw_or _ _ _ _ _ _ _ (@pt_not _ _ _ _ (@pt_val _ _ _ (@pe_callB _ _ _ _ _ _ _ _ _ (@call_isiK _) g_L_tuples_isinstance z_isinstance PyProof.Rows.boot_isinstance (@pa_cons _ _ _ _ _ (@pv _ 3 _ _ rfl v_L_tuples_3 dbg__law_part cls__law_part) (@pa_cons _ _ _ _ _ (pe_ty g_L_tuples_int z_int PySem.Pv.boot_int nam_int dbg_int) (@pa_nil _) (by walk_at "zz")) (by walk_at "zz")) nam_isinstance dbg_isinstance (by walk_at "zz") (by walk_at "zz")) (by walk_at "zz"))) (@pw_or1 _ _ _ _ (@pt_val _ _ _ (@pe_callB _ _ _ _ _ _ _ _ _ (@call_isiK _) g_L_tuples_isinstance z_isinstance PyProof.Rows.boot_isinstance (@pa_cons _ _ _ _ _ (@pv _ 3 _ _ rfl v_L_tuples_3 dbg__law_part cls__law_part) (@pa_cons _ _ _ _ _ (pe_ty g_L_tuples_bool z_bool PySem.Pv.boot_bool nam_bool dbg_bool) (@pa_nil _) (by walk_at "zz")) (by walk_at "zz")) nam_isinstance dbg_isinstance (by walk_at "zz") (by walk_at "zz")) (by walk_at "zz"))))) (@pss_one _ _ _ (@ps_ret _ _ _ _ (@pe_bl _ _ _ _))) (@pss_nil _))) (by walk_at "zz")))) (by walk_at "zz")) (@pss_one _ _ _ (@ps_ret _ _ _ _ (@pe_bl _ _ _ _))))), fn_run (N := ["_law_found", "_law_size", "_law_one", "_law_part"]) (np := 2) (nl := 2) (b_seq (b_if (t_not (t_val (e_isi (T := "list") e_var))) (b_ret e_bl (by decide)) b_nil) (b_seq (b_for (it_list e_var) g_name (b_seq (b_if (t_or (t_not (t_val (e_isi (T := "tuple") e_var))) (t_test (e_op o_ne (e_app c_len (a_cons e_var a_nil)) e_var))) (b_ret e_bl (by decide)) b_nil) (b_for (it_tup e_var) g_name (b_if (t_or (t_not (t_val (e_isi (T := "int") e_var))) (t_val (e_isi (T := "bool") e_var))) (b_ret e_bl (by decide)) b_nil)))) (b_ret e_bl (by decide)))) rfl h⟩
theorem ok_L_cells (F : Fun K "_law_cells" "_law_cells" s_L_cells f fd) (z_range : mg "range" = none) : FnOk P w K mg base CX0 1 f fd ["_law_box"] (spD K m_L_cells true) := by
  have nd := sc_L_cells.nd
  refine F.ok sc_L_cells (fun vs H Q E h => fn_len dFun_len h) (fun cdv A outer s H vs Q E hr h => ?_)
  exact ⟨_, (@pss_cons _ _ _ _ _ (@ps_set _ _ 1 _ _ _ _ nd rfl n_L_cells_1 (@pe_lst _ _ _ _ (@pa_nil _)) (by walk_at "zz") (by walk_at "zz")) (@pss_cons _ _ _ _ _ (@ps_for _ _ _ _ _ _ _ _ PassesOwn.never rfl (@pi_range1 _ _ _ _ _ _ g_L_cells_range z_range (@pa_cons _ _ _ _ _ (@pe_ix _ _ _ _ _ _ _ (@ix_tup _) (@pv _ 0 _ _ rfl v_L_cells_0 dbg__law_box cls__law_box) (@pe_int _ _ _ _) (fun _ _ => rfl)) (@pa_nil _) (by walk_at "zz")) (by walk_at "zz")) (@pg_name _ _ 2 _ nd rfl n_L_cells_2 (by walk_at "zz")) (@pss_one _ _ _ (@ps_for _ _ _ _ _ _ _ _ PassesOwn.never rfl (@pi_range1 _ _ _ _ _ _ g_L_cells_range z_range (@pa_cons _ _ _ _ _ (@pe_ix _ _ _ _ _ _ _ (@ix_tup _) (@pv _ 0 _ _ rfl v_L_cells_0 dbg__law_box cls__law_box) (@pe_int _ _ _ _) (fun _ _ => rfl)) (@pa_nil _) (by walk_at "zz")) (by walk_at "zz")) (@pg_name _ _ 3 _ nd rfl n_L_cells_3 (by walk_at "zz")) (@pss_one _ _ _ (@ps_expr _ _ _ _ (@pe_bm _ _ _ _ _ _ _ _ _ _ _ _ PySem.F.plainAttrs_list PySem.F.slot_list_append PySem.F.type_list_append (@mt_append _) (@pv _ 1 _ _ rfl v_L_cells_1 dbg__law_found cls__law_found) (@pa_cons _ _ _ _ _ (@pe_tup _ _ _ _ _ (@pa_cons _ _ _ _ _ (@pe_op _ _ _ _ _ _ _ _ (@op_add _) (@pe_ix _ _ _ _ _ _ _ (@ix_tup _) (@pv _ 0 _ _ rfl v_L_cells_0 dbg__law_box cls__law_box) (@pe_int _ _ _ _) (fun _ _ => rfl)) (@pv _ 3 _ _ rfl v_L_cells_3 dbg__law_i cls__law_i)) (@pa_cons _ _ _ _ _ (@pe_op _ _ _ _ _ _ _ _ (@op_add _) (@pe_ix _ _ _ _ _ _ _ (@ix_tup _) (@pv _ 0 _ _ rfl v_L_cells_0 dbg__law_box cls__law_box) (@pe_int _ _ _ _) (fun _ _ => rfl)) (@pv _ 2 _ _ rfl v_L_cells_2 dbg__law_j cls__law_j)) (@pa_nil _) (by walk_at "zz")) (by walk_at "zz"))) (@pa_nil _) (by walk_at "zz")) (by walk_at "zz") (by walk_at "zz") (by walk_at "zz") (by walk_at "zz") (by walk_at "zz")) (by walk_at "zz"))) (by walk_at "zz"))) (by walk_at "zz")) (@pss_one _ _ _ (@ps_ret _ _ _ _ (@pv _ 1 _ _ rfl v_L_cells_1 dbg__law_found cls__law_found))))), fn_run (N := ["_law_box", "_law_found", "_law_j", "_law_i"]) (np := 1) (nl := 3) (b_seq b_new (b_seq (b_for (it_range1 (a_cons (e_op o_ixT e_var e_int) a_nil)) g_name (b_for (it_range1 (a_cons (e_op o_ixT e_var e_int) a_nil)) g_name (b_expr (e_mt (i := 1) m_append (a_cons (e_tup (a_cons (e_op o_add (e_op o_ixT e_var e_int) e_var) (a_cons (e_op o_add (e_op o_ixT e_var e_int) e_var) a_nil))) a_nil))))) (b_retM (i := 1)))) rfl h⟩
theorem ok_L_right (F : Fun K "_law_right" "_law_right" s_L_right f fd) (C_L_tuples : Cal P w K mg base 1 "_law_tuples" ["_law_found", "_law_size"] (spD K m_L_tuples false)) (C_L_cells : Cal P w K mg base 1 "_law_cells" ["_law_box"] (spD K m_L_cells true)) (z_len : mg "len" = none) (z_sorted : mg "sorted" = none) : FnOk P w K mg base CX0 2 f fd ["_law_boxes_here", "_law_told"] (spD K m_L_right false) := by
  have nd := sc_L_right.nd
  refine F.ok sc_L_right (fun vs H Q E h => fn_len dFun_len h) (fun cdv A outer s H vs Q E hr h => ?_)
  exact ⟨_, (@pss_cons _ _ _ _ _ (@ps_if _ _ _ _ _ _ _ _ (@pt_not _ _ _ _ (@pt_val _ _ _ (@pe_callC _ _ _ _ _ _ _ _ _ _ C_L_tuples hr g_L_right__law_tuples (@pa_cons _ _ _ _ _ (@pv _ 1 _ _ rfl v_L_right_1 dbg__law_told cls__law_told) (@pa_cons _ _ _ _ _ (@pe_int _ _ _ _) (@pa_nil _) (by walk_at "zz")) (by walk_at "zz")) dbg__law_tuples (by walk_at "zz") (by walk_at "zz")) (by walk_at "zz"))) (@pss_one _ _ _ (@ps_ret _ _ _ _ (@pe_bl _ _ _ _))) (@pss_nil _)) (@pss_cons _ _ _ _ _ (@ps_set _ _ 2 _ _ _ _ nd rfl n_L_right_2 (@pe_newD _ _) (by walk_at "zz") (by walk_at "zz")) (@pss_cons _ _ _ _ _ (@ps_set _ _ 3 _ _ _ _ nd rfl n_L_right_3 (@pe_int _ _ _ _) (by walk_at "zz") (by walk_at "zz")) (@pss_cons _ _ _ _ _ (@ps_for _ _ _ _ _ _ _ _ PassesOwn.never rfl (@pi_list _ _ _ _ (@pv _ 0 _ _ rfl v_L_right_0 dbg__law_boxes_here cls__law_boxes_here)) (@pg_name _ _ 4 _ nd rfl n_L_right_4 (by walk_at "zz")) (@pss_cons _ _ _ _ _ (@ps_setLC _ ["_law_cell", "_law_seen"] 1 [2] _ _ _ _ _ _ _ _ _ _ 5 _ _ _ nd rfl l_L_right_5 rfl (@lc_ok _ ["_law_cell", "_law_seen"] 1 [2] _ ["_law_boxes_here", "_law_told", "_law_seen", "_law_at", "_law_box", "_law_fresh", "_law_mine", "_law_cell"] (defScope s_L_right) rfl rfl (by walk_at "dk")) (@pi_list _ _ _ _ (@pe_callC _ _ _ _ _ _ _ _ _ _ C_L_cells hr g_L_right__law_cells (@pa_cons _ _ _ _ _ (@pv _ 4 _ _ rfl v_L_right_4 dbg__law_box cls__law_box) (@pa_nil _) (by walk_at "zz")) dbg__law_cells (by walk_at "zz") (by walk_at "zz"))) (fun cl fp s3 H3 => (@pg_name _ _ 0 _ nd0_L_right rfl (loc_local (by walk_at "dk")) (Or.inr (rl_local (by walk_at "dk"))))) (fun cl fp s3 H3 => (@pts_one _ _ _ (@pt_cmpR _ _ _ _ _ _ _ _ (@op_notInD _ (hu64 hr)) (@pv _ 0 _ _ rfl (vis_local (by walk_at "dk")) dbg__law_cell cls__law_cell) (@pv _ 1 _ _ rfl (vis_free (by walk_at "dk")) dbg__law_seen cls__law_seen) (by with_unfolding_all rfl)))) (fun cl fp s3 H3 => (@pv _ 0 _ _ rfl (vis_local (by walk_at "dk")) dbg__law_cell cls__law_cell)) (by walk_at "zz") (by walk_at "zz")) (@pss_cons _ _ _ _ _ (@ps_set _ _ 6 _ _ _ _ nd rfl n_L_right_6 (@pe_lst _ _ _ _ (@pa_nil _)) (by walk_at "zz") (by walk_at "zz")) (@pss_cons _ _ _ _ _ (@ps_while _ _ _ _ _ _ PassesOwn.never (@PW.pt _ _ _ (@pw_and _ _ _ _ _ _ _ (@pt_cmpR _ _ _ _ _ _ _ _ (@op_lt _) (@pe_callB _ _ _ _ _ _ _ _ _ (@call_len _) g_L_right_len z_len PySem.boot_len (@pa_cons _ _ _ _ _ (@pv _ 6 _ _ rfl v_L_right_6 dbg__law_mine cls__law_mine) (@pa_nil _) (by walk_at "zz")) nam_len dbg_len (by walk_at "zz") (by walk_at "zz")) (@pe_callB _ _ _ _ _ _ _ _ _ (@call_len _) g_L_right_len z_len PySem.boot_len (@pa_cons _ _ _ _ _ (@pv _ 5 _ _ rfl v_L_right_5 dbg__law_fresh cls__law_fresh) (@pa_nil _) (by walk_at "zz")) nam_len dbg_len (by walk_at "zz") (by walk_at "zz")) (nomark _)) (@pw_and1 _ _ _ _ (@pt_cmpR _ _ _ _ _ _ _ _ (@op_lt _) (@pv _ 3 _ _ rfl v_L_right_3 dbg__law_at cls__law_at) (@pe_callB _ _ _ _ _ _ _ _ _ (@call_len _) g_L_right_len z_len PySem.boot_len (@pa_cons _ _ _ _ _ (@pv _ 1 _ _ rfl v_L_right_1 dbg__law_told cls__law_told) (@pa_nil _) (by walk_at "zz")) nam_len dbg_len (by walk_at "zz") (by walk_at "zz")) (nomark _))))) (@pss_cons _ _ _ _ _ (@ps_set _ _ 6 _ _ _ _ nd rfl n_L_right_6 (@pe_op _ _ _ _ _ _ _ _ (@op_cat _) (@pv _ 6 _ _ rfl v_L_right_6 dbg__law_mine cls__law_mine) (@pe_callC _ _ _ _ _ _ _ _ _ _ C_L_cells hr g_L_right__law_cells (@pa_cons _ _ _ _ _ (@pe_ix _ _ _ _ _ _ _ (@ix_list _) (@pv _ 1 _ _ rfl v_L_right_1 dbg__law_told cls__law_told) (@pv _ 3 _ _ rfl v_L_right_3 dbg__law_at cls__law_at) (fun _ _ => rfl)) (@pa_nil _) (by walk_at "zz")) dbg__law_cells (by walk_at "zz") (by walk_at "zz"))) (by walk_at "zz") (by walk_at "zz")) (@pss_one _ _ _ (@ps_set _ _ 3 _ _ _ _ nd rfl n_L_right_3 (@pe_op _ _ _ _ _ _ _ _ (@op_add _) (@pv _ 3 _ _ rfl v_L_right_3 dbg__law_at cls__law_at) (@pe_int _ _ _ _)) (by walk_at "zz") (by walk_at "zz"))))) (@pss_cons _ _ _ _ _ (@ps_if _ _ _ _ _ _ _ _ (@pt_cmpR _ _ _ _ _ _ _ _ (@op_neK _ (hu64 hr)) (@pe_callB _ _ _ _ _ _ _ _ _ (@call_sortT _) g_L_right_sorted z_sorted PyProof.Rows.boot_sorted (@pa_cons _ _ _ _ _ (@pv _ 6 _ _ rfl v_L_right_6 dbg__law_mine cls__law_mine) (@pa_nil _) (by walk_at "zz")) nam_sorted dbg_sorted (by walk_at "zz") (by walk_at "zz")) (@pe_callB _ _ _ _ _ _ _ _ _ (@call_sortT _) g_L_right_sorted z_sorted PyProof.Rows.boot_sorted (@pa_cons _ _ _ _ _ (@pv _ 5 _ _ rfl v_L_right_5 dbg__law_fresh cls__law_fresh) (@pa_nil _) (by walk_at "zz")) nam_sorted dbg_sorted (by walk_at "zz") (by walk_at "zz")) (nomark _)) (@pss_one _ _ _ (@ps_ret _ _ _ _ (@pe_bl _ _ _ _))) (@pss_nil _)) (@pss_one _ _ _ (@ps_for _ _ _ _ _ _ _ _ PassesOwn.never rfl (@pi_list _ _ _ _ (@pv _ 5 _ _ rfl v_L_right_5 dbg__law_fresh cls__law_fresh)) (@pg_name _ _ 7 _ nd rfl n_L_right_7 (by walk_at "zz")) (@pss_one _ _ _ (@ps_asg _ _ _ _ _ _ (@pe_bl _ _ _ _) (@pg_sub _ _ _ _ _ _ _ (@pv _ 2 _ _ rfl v_L_right_2 dbg__law_seen cls__law_seen) (@pv _ 7 _ _ rfl v_L_right_7 dbg__law_cell cls__law_cell) (@set_dict _ (hu64 hr)) (by walk_at "zz")) (by walk_at "zz") (by walk_at "zz") (by walk_at "zz"))) (by walk_at "zz"))))))) (by walk_at "zz")) (@pss_one _ _ _ (@ps_ret _ _ _ _ (@pe_cmpR _ _ _ _ _ _ _ _ (@op_eqK _ (hu64 hr)) (@pv _ 3 _ _ rfl v_L_right_3 dbg__law_at cls__law_at) (@pe_callB _ _ _ _ _ _ _ _ _ (@call_len _) g_L_right_len z_len PySem.boot_len (@pa_cons _ _ _ _ _ (@pv _ 1 _ _ rfl v_L_right_1 dbg__law_told cls__law_told) (@pa_nil _) (by walk_at "zz")) nam_len dbg_len (by walk_at "zz") (by walk_at "zz")) (nomark _)))))))), fn_run (N := ["_law_boxes_here", "_law_told", "_law_seen", "_law_at", "_law_box", "_law_fresh", "_law_mine", "_law_cell"]) (np := 2) (nl := 6) (b_seq (b_if (t_not (t_val (e_call (a_cons e_var (a_cons e_int a_nil))))) (b_ret e_bl (by decide)) b_nil) (b_seq b_newK (b_seq (b_asg e_int g_name) (b_seq (b_for (it_list e_var) g_name (b_seq (b_lcs (e_borF (i := 2) (e_lc (it_list (e_call (a_cons e_var a_nil))) g_name (t_test (e_op o_inD e_var e_var)) e_var))) (b_seq (b_asg (e_lst a_nil) g_name) (b_seq (b_while (t_and (t_test (e_op o_lt (e_app c_len (a_cons e_var a_nil)) (e_app c_len (a_cons e_var a_nil)))) (t_test (e_op o_lt e_var (e_app c_len (a_cons e_var a_nil))))) (b_seq (b_asg (e_op o_cat e_var (e_call (a_cons (e_op o_ixL e_var e_var) a_nil))) g_name) (b_asg (e_op o_add e_var e_int) g_name))) (b_seq (b_if (t_test (e_op o_ne (e_app c_sortT (a_cons e_var a_nil)) (e_app c_sortT (a_cons e_var a_nil)))) (b_ret e_bl (by decide)) b_nil) (b_for (it_list e_var) g_name (b_putK (i := 2) e_bl e_var))))))) (b_ret (e_op o_eq e_var (e_app c_len (a_cons e_var a_nil))) (by decide)))))) rfl h⟩
theorem ok_law (F : Fun K "law" "law" s_law f fd) (C_L_big : Cal P w K mg base 5 "_law_big" ["_law_script", "_law_at"] (spD K m_L_big false)) (C_L_boxes : Cal P w K mg base 5 "_law_boxes" ["_law_rest"] (spD K m_L_boxes true)) (C_boxes_parted : Cal P w K mg base 5 "boxes_parted" ["boxes"] (spD K m_boxes_parted true)) (C_L_due : Cal P w K mg base 5 "_law_due" ["_law_boxes_here"] (spD K m_L_due false)) (C_L_right : Cal P w K mg base 5 "_law_right" ["_law_boxes_here", "_law_told"] (spD K m_L_right false)) (z_list : mg "list" = none) : FnOk P w K mg base CX0 6 f fd ["_law_script"] (spD K m_law false) := by
  have nd := sc_law.nd
  refine F.ok sc_law (fun vs H Q E h => fn_len dFun_len h) (fun cdv A outer s H vs Q E hr h => ?_)
  exact ⟨_, (@pss_cons _ _ _ _ _ (@ps_set _ _ 1 _ _ _ _ nd rfl n_law_1 (@pe_lst _ _ _ _ (@pa_cons _ _ _ _ _ (@pe_callC _ _ _ _ _ _ _ _ _ _ C_L_big hr g_law__law_big (@pa_cons _ _ _ _ _ (@pv _ 0 _ _ rfl v_law_0 dbg__law_script cls__law_script) (@pa_cons _ _ _ _ _ (@pe_int _ _ _ _) (@pa_nil _) (by walk_at "zz")) (by walk_at "zz")) dbg__law_big (by walk_at "zz") (by walk_at "zz")) (@pa_nil _) (by walk_at "zz"))) (by walk_at "zz") (by walk_at "zz")) (@pss_cons _ _ _ _ _ (@ps_set _ _ 2 _ _ _ _ nd rfl n_law_2 (@pe_callC _ _ _ _ _ _ _ _ _ _ C_L_boxes hr g_law__law_boxes (@pa_cons _ _ _ _ _ (@pv _ 1 _ _ rfl v_law_1 dbg__law_rest cls__law_rest) (@pa_nil _) (by walk_at "zz")) dbg__law_boxes (by walk_at "zz") (by walk_at "zz")) (by walk_at "zz") (by walk_at "zz")) (@pss_cons _ _ _ _ _ (@ps_set _ _ 3 _ _ _ _ nd rfl n_law_3 (@pe_callC _ _ _ _ _ _ _ _ _ _ C_L_boxes hr g_law__law_boxes (@pa_cons _ _ _ _ _ (@pv _ 1 _ _ rfl v_law_1 dbg__law_rest cls__law_rest) (@pa_nil _) (by walk_at "zz")) dbg__law_boxes (by walk_at "zz") (by walk_at "zz")) (by walk_at "zz") (by walk_at "zz")) (@pss_cons _ _ _ _ _ (@ps_set _ _ 4 _ _ _ _ nd rfl n_law_4 (@pe_callTy _ _ _ _ _ _ _ _ _ (@call_list_of _) g_law_list z_list PySem.Pv.boot_list (@pa_cons _ _ _ _ _ (@pv _ 2 _ _ rfl v_law_2 dbg__law_boxes_here cls__law_boxes_here) (@pa_nil _) (by walk_at "zz")) nam_list dbg_list (by walk_at "zz") (by walk_at "zz")) (by walk_at "zz") (by walk_at "zz")) (@pss_cons _ _ _ _ _ (@ps_set _ _ 5 _ _ _ _ nd rfl n_law_5 (@pe_callC _ _ _ _ _ _ _ _ _ _ C_boxes_parted hr g_law_boxes_parted (@pa_cons _ _ _ _ _ (@pv _ 4 _ _ rfl v_law_4 dbg__law_handed cls__law_handed) (@pa_nil _) (by walk_at "zz")) dbg_boxes_parted (by walk_at "zz") (by walk_at "zz")) (by walk_at "zz") (by walk_at "zz")) (@pss_cons _ _ _ _ _ (@ps_set _ _ 6 _ _ _ _ nd rfl n_law_6 (@pe_callC _ _ _ _ _ _ _ _ _ _ C_L_due hr g_law__law_due (@pa_cons _ _ _ _ _ (@pv _ 2 _ _ rfl v_law_2 dbg__law_boxes_here cls__law_boxes_here) (@pa_nil _) (by walk_at "zz")) dbg__law_due (by walk_at "zz") (by walk_at "zz")) (by walk_at "zz") (by walk_at "zz")) (@pss_cons _ _ _ _ _ (@ps_if _ _ _ _ _ _ _ _ (@PW.pt _ _ _ (@pw_or _ _ _ _ _ _ _ (@pt_not _ _ _ _ (@pt_val _ _ _ (@pe_callC _ _ _ _ _ _ _ _ _ _ C_L_right hr g_law__law_right (@pa_cons _ _ _ _ _ (@pv _ 2 _ _ rfl v_law_2 dbg__law_boxes_here cls__law_boxes_here) (@pa_cons _ _ _ _ _ (@pv _ 5 _ _ rfl v_law_5 dbg__law_told cls__law_told) (@pa_nil _) (by walk_at "zz")) (by walk_at "zz")) dbg__law_right (by walk_at "zz") (by walk_at "zz")) (by walk_at "zz"))) (@pw_or _ _ _ _ _ _ _ (@pt_cmpR _ _ _ _ _ _ _ _ (@op_neK _ (hu64 hr)) (@pv _ 5 _ _ rfl v_law_5 dbg__law_told cls__law_told) (@pv _ 6 _ _ rfl v_law_6 dbg__law_kept cls__law_kept) (nomark _)) (@pw_or1 _ _ _ _ (@pt_cmpR _ _ _ _ _ _ _ _ (@op_neK _ (hu64 hr)) (@pv _ 4 _ _ rfl v_law_4 dbg__law_handed cls__law_handed) (@pv _ 2 _ _ rfl v_law_2 dbg__law_boxes_here cls__law_boxes_here) (nomark _)))))) (@pss_one _ _ _ (@ps_ret _ _ _ _ (@pe_bl _ _ _ _))) (@pss_nil _)) (@pss_cons _ _ _ _ _ (@ps_if _ _ _ _ _ _ _ _ (@PW.pt _ _ _ (@pw_or _ _ _ _ _ _ _ (@pt_not _ _ _ _ (@pt_val _ _ _ (@pe_callC _ _ _ _ _ _ _ _ _ _ C_L_right hr g_law__law_right (@pa_cons _ _ _ _ _ (@pv _ 3 _ _ rfl v_law_3 dbg__law_others cls__law_others) (@pa_cons _ _ _ _ _ (@pe_callC _ _ _ _ _ _ _ _ _ _ C_boxes_parted hr g_law_boxes_parted (@pa_cons _ _ _ _ _ (@pe_callTy _ _ _ _ _ _ _ _ _ (@call_list_of _) g_law_list z_list PySem.Pv.boot_list (@pa_cons _ _ _ _ _ (@pv _ 3 _ _ rfl v_law_3 dbg__law_others cls__law_others) (@pa_nil _) (by walk_at "zz")) nam_list dbg_list (by walk_at "zz") (by walk_at "zz")) (@pa_nil _) (by walk_at "zz")) dbg_boxes_parted (by walk_at "zz") (by walk_at "zz")) (@pa_nil _) (by walk_at "zz")) (by walk_at "zz")) dbg__law_right (by walk_at "zz") (by walk_at "zz")) (by walk_at "zz"))) (@pw_or1 _ _ _ _ (@pt_cmpR _ _ _ _ _ _ _ _ (@op_neK _ (hu64 hr)) (@pv _ 5 _ _ rfl v_law_5 dbg__law_told cls__law_told) (@pv _ 6 _ _ rfl v_law_6 dbg__law_kept cls__law_kept) (nomark _))))) (@pss_one _ _ _ (@ps_ret _ _ _ _ (@pe_bl _ _ _ _))) (@pss_nil _)) (@pss_cons _ _ _ _ _ (@ps_expr _ _ _ _ (@pe_bm0 _ _ _ _ _ _ _ _ _ PySem.F.plainAttrs_list PySem.F.slot_list_clear PySem.F.type_list_clear (@mt_clear _) (@pv _ 5 _ _ rfl v_law_5 dbg__law_told cls__law_told) (by walk_at "zz") (by walk_at "zz")) (by walk_at "zz")) (@pss_one _ _ _ (@ps_ret _ _ _ _ (@pe_cmpR _ _ _ _ _ _ _ _ (@op_eqK _ (hu64 hr)) (@pe_callC _ _ _ _ _ _ _ _ _ _ C_boxes_parted hr g_law_boxes_parted (@pa_cons _ _ _ _ _ (@pv _ 4 _ _ rfl v_law_4 dbg__law_handed cls__law_handed) (@pa_nil _) (by walk_at "zz")) dbg_boxes_parted (by walk_at "zz") (by walk_at "zz")) (@pv _ 6 _ _ rfl v_law_6 dbg__law_kept cls__law_kept) (nomark _))))))))))))), fn_run (N := ["_law_script", "_law_rest", "_law_boxes_here", "_law_others", "_law_handed", "_law_told", "_law_kept"]) (np := 1) (nl := 6) (b_seq (b_setM (e_lst (a_cons (e_callC (i := 0) (a_cons e_int a_nil)) a_nil))) (b_seq (b_asg (e_callM (i := 1) a_nil) g_name) (b_seq (b_asg (e_callM (i := 1) a_nil) g_name) (b_seq (b_asg (e_app c_list (a_cons e_var a_nil)) g_name) (b_seq (b_setM (e_call (a_cons e_var a_nil))) (b_seq (b_asg (e_call (a_cons e_var a_nil)) g_name) (b_seq (b_if (t_bor (i := 5) (t_or (t_not (t_val (e_call (a_cons e_var (a_cons e_var a_nil))))) (t_or (t_test (e_op o_ne e_var e_var)) (t_test (e_op o_ne e_var e_var))))) (b_ret e_bl (by decide)) b_nil) (b_seq (b_if (t_bor (i := 5) (t_or (t_not (t_val (e_call (a_cons e_var (a_cons (e_call (a_cons (e_app c_list (a_cons e_var a_nil)) a_nil)) a_nil))))) (t_test (e_op o_ne e_var e_var)))) (b_ret e_bl (by decide)) b_nil) (b_seq (b_expr (e_mt0 (i := 5) m_clear)) (b_ret (e_op o_eq (e_call (a_cons e_var a_nil)) e_var) (by decide))))))))))) rfl h⟩
end
theorem modI {i j : Int} (h : 0 < j) : fMod (.int i) (.int j) = some (.int (i % j)) := if_pos h
theorem divI {i j : Int} (h : 0 < j) (h1 : j < 10 ^ 70) : fDiv (.int i) (.int j) = some (.int (i / j)) := if_pos ⟨h, bd_small h h1⟩
theorem mulI {i j : Int} (h : CMulB i j) : fMul (.int i) (.int j) = some (.int (i * j)) := if_pos h
theorem pow18 : fPow (.int 10) (.int 18) = some (.int 1000000000000000000) := rfl
theorem L_digit {v m : Int} (h0 : 0 < m) (h1 : m < 10 ^ 70) : m_L_digit [.m [.int v], .d (.int m)] = some (.int (v % m), [.m [.int (v / m)], .d (.int m)]) := by
  simp only [m_L_digit, modI h0, divI h0 h1, dFun, dSeq, dAsg, dN, dNew, dSetM, dRet, dRetM, dRetN, dExpr, dMt, gAppend, gExtend, gClear, dSetI, dNil, dIfS, dBrk, dCnt, dNever, dFor, dPar, dVar, dC, dOp, dUn, fI, fAdd, fSub, fLt, fLe, fGt, fGe, fNeg, isNo, fIsN, fNotN, fIxL, fIxT, dTest, dTAnd, dTOr, dTNot, dIf, dAnd, dOr, dNot, dChain, dANil, dACons, allD, dTup, dLst, dApp, dCall, dCallM, dCallC, dCallP, dAS, mkL, nMb, isM, isC, dBor, dBorF, dTBor, dYes, dIL, dIT, dR1, dR2, dGNil, dGCons, dGT, fin_nil, fin_d, fin_c, fin_m, fLen, f1, f2, fAbs, fMax2, fMin2, fInt1, fListOf, dRev, dIsi, dIxC, dLenC, atI, ixN, okM_none, okM_d, okM_c, okM_m, fixD, fixDs, sz', Option.bind_some, Option.bind_none, Option.map_some, Option.map_none, List.map_cons, List.map_nil, List.cons_append, List.nil_append, List.length_cons, List.length_nil, List.getElem?_cons_zero, List.getElem?_cons_succ, List.set_cons_zero, List.set_cons_succ, List.replicate_succ, List.replicate_zero, List.all_cons, List.all_nil, Bool.and_self, Bool.and_true, Bool.true_and, Bool.false_and, Bool.and_false, Bool.or_true, Bool.true_or, Bool.false_or, Bool.or_false, Bool.not_true, Bool.not_false, if_true, if_false, reduceIte, Bool.false_eq_true, Nat.reduceAdd, Nat.reduceLT, Nat.reduceSub, Nat.reduceMul, Int.reduceEq, Int.reduceSub, Int.reduceMul, Int.reducePow, Int.reduceDiv, Int.reduceMod, Nat.reduceLeDiff, Nat.reduceEqDiff, and_self, and_true, true_and, Int.natCast_add, Int.reduceAdd, Int.reduceLT, Int.reduceLE, Int.reduceToNat, Int.reduceNeg, Int.toNat_zero, Int.toNat_one, Int.zero_lt_one, Int.le_refl, Int.reduceNegSucc, Int.cast_ofNat_Int, Nat.zero_add, Nat.add_zero]
theorem L_dig {v m : Int} (h0 : 0 < m) (h1 : m < 1000000000) : m_L_digit [.m [.int v], .d (.int m)] = some (.int (v % m), [.m [.int (v / m)], .d (.int m)]) := L_digit h0 (by omega)
theorem L_cell_at {ns : List Int} {k : Int} (h0 : 0 ≤ k) : ∃ v : Int, m_L_cell_at [.c (ns.map .int), .d (.int k)] = some (.int v, [.c (ns.map .int), .d (.int k)]) := by
  by_cases h : k < (ns.length : Int)
  · have hk : k.toNat < ns.length := by omega
    have e : (ns.map PyData.int)[k.toNat]? = some (.int ns[k.toNat]) := by simp [hk]
    exact ⟨ns[k.toNat], by simp only [m_L_cell_at, List.length_map, h0, h, decide_true, e, dFun, dSeq, dAsg, dN, dNew, dSetM, dRet, dRetM, dRetN, dExpr, dMt, gAppend, gExtend, gClear, dSetI, dNil, dIfS, dBrk, dCnt, dNever, dFor, dPar, dVar, dC, dOp, dUn, fI, fAdd, fSub, fLt, fLe, fGt, fGe, fNeg, isNo, fIsN, fNotN, fIxL, fIxT, dTest, dTAnd, dTOr, dTNot, dIf, dAnd, dOr, dNot, dChain, dANil, dACons, allD, dTup, dLst, dApp, dCall, dCallM, dCallC, dCallP, dAS, mkL, nMb, isM, isC, dBor, dBorF, dTBor, dYes, dIL, dIT, dR1, dR2, dGNil, dGCons, dGT, fin_nil, fin_d, fin_c, fin_m, fLen, f1, f2, fAbs, fMax2, fMin2, fInt1, fListOf, dRev, dIsi, dIxC, dLenC, atI, ixN, okM_none, okM_d, okM_c, okM_m, fixD, fixDs, sz', Option.bind_some, Option.bind_none, Option.map_some, Option.map_none, List.map_cons, List.map_nil, List.cons_append, List.nil_append, List.length_cons, List.length_nil, List.getElem?_cons_zero, List.getElem?_cons_succ, List.set_cons_zero, List.set_cons_succ, List.replicate_succ, List.replicate_zero, List.all_cons, List.all_nil, Bool.and_self, Bool.and_true, Bool.true_and, Bool.false_and, Bool.and_false, Bool.or_true, Bool.true_or, Bool.false_or, Bool.or_false, Bool.not_true, Bool.not_false, if_true, if_false, reduceIte, Bool.false_eq_true, Nat.reduceAdd, Nat.reduceLT, Nat.reduceSub, Nat.reduceMul, Int.reduceEq, Int.reduceSub, Int.reduceMul, Int.reducePow, Int.reduceDiv, Int.reduceMod, Nat.reduceLeDiff, Nat.reduceEqDiff, and_self, and_true, true_and, Int.natCast_add, Int.reduceAdd, Int.reduceLT, Int.reduceLE, Int.reduceToNat, Int.reduceNeg, Int.toNat_zero, Int.toNat_one, Int.zero_lt_one, Int.le_refl, Int.reduceNegSucc, Int.cast_ofNat_Int, Nat.zero_add, Nat.add_zero]⟩
  · exact ⟨0, by simp only [m_L_cell_at, List.length_map, h0, h, decide_false, dFun, dSeq, dAsg, dN, dNew, dSetM, dRet, dRetM, dRetN, dExpr, dMt, gAppend, gExtend, gClear, dSetI, dNil, dIfS, dBrk, dCnt, dNever, dFor, dPar, dVar, dC, dOp, dUn, fI, fAdd, fSub, fLt, fLe, fGt, fGe, fNeg, isNo, fIsN, fNotN, fIxL, fIxT, dTest, dTAnd, dTOr, dTNot, dIf, dAnd, dOr, dNot, dChain, dANil, dACons, allD, dTup, dLst, dApp, dCall, dCallM, dCallC, dCallP, dAS, mkL, nMb, isM, isC, dBor, dBorF, dTBor, dYes, dIL, dIT, dR1, dR2, dGNil, dGCons, dGT, fin_nil, fin_d, fin_c, fin_m, fLen, f1, f2, fAbs, fMax2, fMin2, fInt1, fListOf, dRev, dIsi, dIxC, dLenC, atI, ixN, okM_none, okM_d, okM_c, okM_m, fixD, fixDs, sz', Option.bind_some, Option.bind_none, Option.map_some, Option.map_none, List.map_cons, List.map_nil, List.cons_append, List.nil_append, List.length_cons, List.length_nil, List.getElem?_cons_zero, List.getElem?_cons_succ, List.set_cons_zero, List.set_cons_succ, List.replicate_succ, List.replicate_zero, List.all_cons, List.all_nil, Bool.and_self, Bool.and_true, Bool.true_and, Bool.false_and, Bool.and_false, Bool.or_true, Bool.true_or, Bool.false_or, Bool.or_false, Bool.not_true, Bool.not_false, if_true, if_false, reduceIte, Bool.false_eq_true, Nat.reduceAdd, Nat.reduceLT, Nat.reduceSub, Nat.reduceMul, Int.reduceEq, Int.reduceSub, Int.reduceMul, Int.reducePow, Int.reduceDiv, Int.reduceMod, Nat.reduceLeDiff, Nat.reduceEqDiff, and_self, and_true, true_and, Int.natCast_add, Int.reduceAdd, Int.reduceLT, Int.reduceLE, Int.reduceToNat, Int.reduceNeg, Int.toNat_zero, Int.toNat_one, Int.zero_lt_one, Int.le_refl, Int.reduceNegSucc, Int.cast_ofNat_Int, Nat.zero_add, Nat.add_zero]⟩
theorem tabT {xs : List Int} {k : Int} (h0 : 0 ≤ k) (h : k < (xs.length : Int)) : ∃ v : Int, atI (xs.map PyData.int) k = some (.int v) ∧ v ∈ xs := by
  have hk : k.toNat < xs.length := by omega
  refine ⟨xs[k.toNat], ?_, List.getElem_mem hk⟩
  unfold atI ixN
  rw [List.length_map, if_pos h0, if_pos h]
  simp [hk]
def by8 : PyData := .tuple ([48271, 69621, 16807, 39373, 21401, 60493, 87721, 31337].map .int)
def pr8 : PyData := .tuple ([99991, 99989, 99971, 99961, 99929, 99923, 99907, 99901].map .int)
theorem L_big {ns : List Int} {k : Int} (h0 : 0 ≤ k) : ∃ (v : Int) (ls : List L), m_L_big [.c (ns.map .int), .d (.int k)] = some (.int v, ls) := by
  obtain ⟨cell, hc⟩ := L_cell_at (ns := ns) h0
  by_cases hb : (1000000000000000000 : Int) ≤ cell
  · exact ⟨cell, _, by simp only [m_L_big, hc, pow18, hb, decide_true, dFun, dSeq, dAsg, dN, dNew, dSetM, dRet, dRetM, dRetN, dExpr, dMt, gAppend, gExtend, gClear, dSetI, dNil, dIfS, dBrk, dCnt, dNever, dFor, dPar, dVar, dC, dOp, dUn, fI, fAdd, fSub, fLt, fLe, fGt, fGe, fNeg, isNo, fIsN, fNotN, fIxL, fIxT, dTest, dTAnd, dTOr, dTNot, dIf, dAnd, dOr, dNot, dChain, dANil, dACons, allD, dTup, dLst, dApp, dCall, dCallM, dCallC, dCallP, dAS, mkL, nMb, isM, isC, dBor, dBorF, dTBor, dYes, dIL, dIT, dR1, dR2, dGNil, dGCons, dGT, fin_nil, fin_d, fin_c, fin_m, fLen, f1, f2, fAbs, fMax2, fMin2, fInt1, fListOf, dRev, dIsi, dIxC, dLenC, atI, ixN, okM_none, okM_d, okM_c, okM_m, fixD, fixDs, sz', Option.bind_some, Option.bind_none, Option.map_some, Option.map_none, List.map_cons, List.map_nil, List.cons_append, List.nil_append, List.length_cons, List.length_nil, List.getElem?_cons_zero, List.getElem?_cons_succ, List.set_cons_zero, List.set_cons_succ, List.replicate_succ, List.replicate_zero, List.all_cons, List.all_nil, Bool.and_self, Bool.and_true, Bool.true_and, Bool.false_and, Bool.and_false, Bool.or_true, Bool.true_or, Bool.false_or, Bool.or_false, Bool.not_true, Bool.not_false, if_true, if_false, reduceIte, Bool.false_eq_true, Nat.reduceAdd, Nat.reduceLT, Nat.reduceSub, Nat.reduceMul, Int.reduceEq, Int.reduceSub, Int.reduceMul, Int.reducePow, Int.reduceDiv, Int.reduceMod, Nat.reduceLeDiff, Nat.reduceEqDiff, and_self, and_true, true_and, Int.natCast_add, Int.reduceAdd, Int.reduceLT, Int.reduceLE, Int.reduceToNat, Int.reduceNeg, Int.toNat_zero, Int.toNat_one, Int.zero_lt_one, Int.le_refl, Int.reduceNegSucc, Int.cast_ofNat_Int, Nat.zero_add, Nat.add_zero]; rfl⟩
  · have lp : ∃ τ', dLoop (dN 6) (dSeq (dAsg (dOp fAdd (dOp fAdd (dOp fMod (dCallC 0 m_L_cell_at (dACons (dOp fAdd (dVar 1) (dOp fMod (dVar 6) (dC (.int 9)))) dANil)) (dOp fPow (dC (.int 10)) (dC (.int 18)))) (dC (.int 1))) (dOp fMul (dVar 6) (dVar 6))) (dN 7)) (dAsg (dOp fAdd (dOp fMul (dVar 5) (dC (.int 7919))) (dOp fMod (dOp fMod (dOp fMul (dVar 7) (dOp fIxT (dVar 2) (dOp fMod (dVar 6) (dC (.int 8))))) (dOp fIxT (dVar 3) (dOp fMod (dVar 6) (dC (.int 8))))) (dC (.int 7919)))) (dN 5)))
        ((rng 0 60).map PyData.int) [some (.c (ns.map .int)), some (.d (.int k)), some (.d by8), some (.d pr8), some (.d (.int cell)), some (.d (.int 0)), none, none] = some (.nx τ') ∧
        ∃ (b : Int) (o1 o2 : Option L), nM o1 ∧ nM o2 ∧ τ' = [some (.c (ns.map .int)), some (.d (.int k)), some (.d by8), some (.d pr8), some (.d (.int cell)), some (.d (.int b)), o1, o2] := by
      refine loop_list (enc := PyData.int) (pre := []) (fun _ τ => ∃ (b : Int) (o1 o2 : Option L), nM o1 ∧ nM o2 ∧ τ = [some (.c (ns.map .int)), some (.d (.int k)), some (.d by8), some (.d pr8), some (.d (.int cell)), some (.d (.int b)), o1, o2]) ⟨0, none, none, nM_none, nM_none, rfl⟩ ?_
      rintro j _ τ hj ⟨b, o1, o2, n1, n2, rfl⟩
      have hj' := (mem_rng (n := 60)).mp hj
      have h9 : 0 ≤ j % 9 := Int.emod_nonneg _ (by decide)
      obtain ⟨c, hc⟩ := L_cell_at (ns := ns) (k := k + j % 9) (by omega)
      obtain ⟨u1, hu1, m1⟩ := tabT (xs := [48271, 69621, 16807, 39373, 21401, 60493, 87721, 31337]) (k := j % 8) (Int.emod_nonneg _ (by decide)) (Int.emod_lt_of_pos _ (by decide))
      obtain ⟨u2, hu2, m2⟩ := tabT (xs := [99991, 99989, 99971, 99961, 99929, 99923, 99907, 99901]) (k := j % 8) (Int.emod_nonneg _ (by decide)) (Int.emod_lt_of_pos _ (by decide))
      have hu1' : fIxT by8 (.int (j % 8)) = some (.int u1) := hu1
      have hu2' : fIxT pr8 (.int (j % 8)) = some (.int u2) := hu2
      have m1' : -(2 ^ 64) < u1 ∧ u1 < 2 ^ 64 := by
        simp only [List.mem_cons, List.not_mem_nil, or_false] at m1
        omega
      have m2' : 0 < u2 := by
        simp only [List.mem_cons, List.not_mem_nil, or_false] at m2
        omega
      have x1 : fMul (.int j) (.int j) = some (.int (j * j)) := mulI (.inl (.inl ⟨by omega, by omega⟩))
      have x2 : fMul (.int b) (.int 7919) = some (.int (b * 7919)) := mulI (.inl (.inr ⟨by decide, by decide⟩))
      have x3 : ∀ z : Int, fMul (.int z) (.int u1) = some (.int (z * u1)) := fun z => mulI (.inl (.inr m1'))
      have x4 : ∀ z : Int, fMod (.int z) (.int u2) = some (.int (z % u2)) := fun z => modI m2'
      have x5 : ∀ z : Int, fMod (.int z) (.int 7919) = some (.int (z % 7919)) := fun z => modI (by decide)
      have x6 : ∀ z : Int, fMod (.int z) (.int 9) = some (.int (z % 9)) := fun z => modI (by decide)
      have x7 : ∀ z : Int, fMod (.int z) (.int 8) = some (.int (z % 8)) := fun z => modI (by decide)
      have x8 : ∀ z : Int, fMod (.int z) (.int 1000000000000000000) = some (.int (z % 1000000000000000000)) := fun z => modI (by decide)
      refine ⟨_, [some (.c (ns.map .int)), some (.d (.int k)), some (.d by8), some (.d pr8), some (.d (.int cell)), some (.d (.int (b * 7919 + (c % 1000000000000000000 + 1 + j * j) * u1 % u2 % 7919))), some (.d (.int j)), some (.d (.int (c % 1000000000000000000 + 1 + j * j)))], dN_eq rfl n1, ?_, _, _, _, nM_d, nM_d, rfl⟩
      refine (seq_nx (τ1 := [some (.c (ns.map .int)), some (.d (.int k)), some (.d by8), some (.d pr8), some (.d (.int cell)), some (.d (.int b)), some (.d (.int j)), some (.d (.int (c % 1000000000000000000 + 1 + j * j)))]) (asg_nx (d := .int (c % 1000000000000000000 + 1 + j * j)) (τ1 := [some (.c (ns.map .int)), some (.d (.int k)), some (.d by8), some (.d pr8), some (.d (.int cell)), some (.d (.int b)), some (.d (.int j)), o2]) ?_ (dN_eq rfl n2))).trans ?_
      · simp only [dOp, dVar, dC, dCallC, dACons, dANil, allD, fAdd, fI, pow18, hc, x1, x6, x8, List.getElem?_cons_zero, List.getElem?_cons_succ, List.set_cons_zero, List.set_cons_succ, Option.bind_some, Option.map_some, List.map_cons, List.map_nil]
      · simp only [dAsg, dN, dOp, dVar, dC, fAdd, fI, hu1', hu2', x2, x3, x4, x5, x7, List.getElem?_cons_zero, List.getElem?_cons_succ, List.set_cons_zero, List.set_cons_succ, Option.bind_some, Option.map_some]
    obtain ⟨τ', e, b, o1, o2, n1, n2, rfl⟩ := lp
    refine ⟨b, [.c (ns.map .int), .d (.int k)], ?_⟩
    have hr : dR1 (dACons (dC (.int 60)) dANil) [some (.c (ns.map .int)), some (.d (.int k)), some (.d by8), some (.d pr8), some (.d (.int cell)), some (.d (.int 0)), none, none] = some ((rng 0 60).map PyData.int, [some (.c (ns.map .int)), some (.d (.int k)), some (.d by8), some (.d pr8), some (.d (.int cell)), some (.d (.int 0)), none, none]) := by
      rw [← rangeD_eq]; rfl
    refine fun_rt (τ := [some (.c (ns.map .int)), some (.d (.int k)), some (.d by8), some (.d pr8), some (.d (.int cell)), some (.d (.int b)), o1, o2]) ?_ rfl rfl
    refine (seq_nx rfl).trans ((seq_nx rfl).trans ((seq_nx (τ1 := [some (.c (ns.map .int)), some (.d (.int k)), some (.d by8), some (.d pr8), some (.d (.int cell)), none, none, none]) (asg_nx (callC_eq (xs := ns.map .int) rfl rfl rfl hc) rfl)).trans ?_))
    refine (seq_nx (τ1 := [some (.c (ns.map .int)), some (.d (.int k)), some (.d by8), some (.d pr8), some (.d (.int cell)), none, none, none]) ?_).trans ((seq_nx (τ1 := [some (.c (ns.map .int)), some (.d (.int k)), some (.d by8), some (.d pr8), some (.d (.int cell)), some (.d (.int 0)), none, none]) rfl).trans ((seq_nx ((for_eq hr).trans e)).trans rfl))
    simp only [pow18, hb, decide_false, dFun, dSeq, dAsg, dN, dNew, dSetM, dRet, dRetM, dRetN, dExpr, dMt, gAppend, gExtend, gClear, dSetI, dNil, dIfS, dBrk, dCnt, dNever, dFor, dPar, dVar, dC, dOp, dUn, fI, fAdd, fSub, fLt, fLe, fGt, fGe, fNeg, isNo, fIsN, fNotN, fIxL, fIxT, dTest, dTAnd, dTOr, dTNot, dIf, dAnd, dOr, dNot, dChain, dANil, dACons, allD, dTup, dLst, dApp, dCall, dCallM, dCallC, dCallP, dAS, mkL, nMb, isM, isC, dBor, dBorF, dTBor, dYes, dIL, dIT, dR1, dR2, dGNil, dGCons, dGT, fin_nil, fin_d, fin_c, fin_m, fLen, f1, f2, fAbs, fMax2, fMin2, fInt1, fListOf, dRev, dIsi, dIxC, dLenC, atI, ixN, okM_none, okM_d, okM_c, okM_m, fixD, fixDs, sz', Option.bind_some, Option.bind_none, Option.map_some, Option.map_none, List.map_cons, List.map_nil, List.cons_append, List.nil_append, List.length_cons, List.length_nil, List.getElem?_cons_zero, List.getElem?_cons_succ, List.set_cons_zero, List.set_cons_succ, List.replicate_succ, List.replicate_zero, List.all_cons, List.all_nil, Bool.and_self, Bool.and_true, Bool.true_and, Bool.false_and, Bool.and_false, Bool.or_true, Bool.true_or, Bool.false_or, Bool.or_false, Bool.not_true, Bool.not_false, if_true, if_false, reduceIte, Bool.false_eq_true, Nat.reduceAdd, Nat.reduceLT, Nat.reduceSub, Nat.reduceMul, Int.reduceEq, Int.reduceSub, Int.reduceMul, Int.reducePow, Int.reduceDiv, Int.reduceMod, Nat.reduceLeDiff, Nat.reduceEqDiff, and_self, and_true, true_and, Int.natCast_add, Int.reduceAdd, Int.reduceLT, Int.reduceLE, Int.reduceToNat, Int.reduceNeg, Int.toNat_zero, Int.toNat_one, Int.zero_lt_one, Int.le_refl, Int.reduceNegSucc, Int.cast_ofNat_Int, Nat.zero_add, Nat.add_zero]
def okB (b : Bx) : Prop := 1 ≤ b.w ∧ b.w ≤ 12 ∧ 1 ≤ b.h ∧ b.h ≤ 12
theorem L_box_of (v : Int) : ∃ (b : Bx) (v' : Int), m_L_box_of [.m [.int v]] = some (eb b, [.m [.int v']]) ∧ okB b ∧ -5 ≤ b.x ∧ b.x ≤ 9 ∧ -4 ≤ b.y ∧ b.y ≤ 6 ∧ b.w ≤ 7 ∧ b.h ≤ 6 := by
  refine ⟨⟨v % 15 - 5, v / 15 % 11 - 4, 1 + v / 15 / 11 % 7, 1 + v / 15 / 11 / 7 % 6⟩, v / 15 / 11 / 7 / 6, ?_, ?_, ?_⟩
  · simp only [m_L_box_of, L_dig, eb, dFun, dSeq, dAsg, dN, dNew, dSetM, dRet, dRetM, dRetN, dExpr, dMt, gAppend, gExtend, gClear, dSetI, dNil, dIfS, dBrk, dCnt, dNever, dFor, dPar, dVar, dC, dOp, dUn, fI, fAdd, fSub, fLt, fLe, fGt, fGe, fNeg, isNo, fIsN, fNotN, fIxL, fIxT, dTest, dTAnd, dTOr, dTNot, dIf, dAnd, dOr, dNot, dChain, dANil, dACons, allD, dTup, dLst, dApp, dCall, dCallM, dCallC, dCallP, dAS, mkL, nMb, isM, isC, dBor, dBorF, dTBor, dYes, dIL, dIT, dR1, dR2, dGNil, dGCons, dGT, fin_nil, fin_d, fin_c, fin_m, fLen, f1, f2, fAbs, fMax2, fMin2, fInt1, fListOf, dRev, dIsi, tyOk_int, isi_int_none, isi_int_bool, isi_int_int, isi_int_str, isi_int_list, isi_int_tuple, tyOk_bool, isi_bool_none, isi_bool_bool, isi_bool_int, isi_bool_str, isi_bool_list, isi_bool_tuple, tyOk_str, isi_str_none, isi_str_bool, isi_str_int, isi_str_str, isi_str_list, isi_str_tuple, tyOk_list, isi_list_none, isi_list_bool, isi_list_int, isi_list_str, isi_list_list, isi_list_tuple, tyOk_tuple, isi_tuple_none, isi_tuple_bool, isi_tuple_int, isi_tuple_str, isi_tuple_list, isi_tuple_tuple, dIxC, dLenC, atI, ixN, okM_none, okM_d, okM_c, okM_m, fixD, fixDs, sz', Option.bind_some, Option.bind_none, Option.map_some, Option.map_none, List.map_cons, List.map_nil, List.cons_append, List.nil_append, List.length_cons, List.length_nil, List.getElem?_cons_zero, List.getElem?_cons_succ, List.set_cons_zero, List.set_cons_succ, List.replicate_succ, List.replicate_zero, List.all_cons, List.all_nil, Bool.and_self, Bool.and_true, Bool.true_and, Bool.false_and, Bool.and_false, Bool.or_true, Bool.true_or, Bool.false_or, Bool.or_false, Bool.not_true, Bool.not_false, if_true, if_false, reduceIte, Bool.false_eq_true, Nat.reduceAdd, Nat.reduceLT, Nat.reduceSub, Nat.reduceMul, Int.reduceEq, Int.reduceSub, Int.reduceMul, Int.reducePow, Int.reduceDiv, Int.reduceMod, Nat.reduceLeDiff, Nat.reduceEqDiff, and_self, and_true, true_and, Int.natCast_add, Int.reduceAdd, Int.reduceLT, Int.reduceLE, Int.reduceToNat, Int.reduceNeg, Int.toNat_zero, Int.toNat_one, Int.zero_lt_one, Int.le_refl, Int.reduceNegSucc, Int.cast_ofNat_Int, Nat.zero_add, Nat.add_zero]
  · unfold okB
    dsimp only
    omega
  · dsimp only
    omega
def cellsBody : DB := dExpr (dMt 1 gAppend (dACons (dTup (dACons (dOp fAdd (dOp fIxT (dVar 0) (dC (.int 0))) (dVar 3)) (dACons (dOp fAdd (dOp fIxT (dVar 0) (dC (.int 1))) (dVar 2)) dANil))) dANil))
theorem cells_in {b : Bx} (j : Int) (acc : List PyData) (o : Option L) (ho : nM o) (ha : acc.length + b.w.toNat ≤ 800) : ∃ τ', dLoop (dN 3) cellsBody ((rng 0 b.w.toNat).map PyData.int) [some (.d (eb b)), some (.m acc), some (.d (.int j)), o] = some (.nx τ') ∧
    ∃ o', nM o' ∧ τ' = [some (.d (eb b)), some (.m (acc ++ (rowC b.x (b.y + j) b.w.toNat).map ec)), some (.d (.int j)), o'] := by
  have e2 : (rowC b.x (b.y + j) b.w.toNat).map ec = (rng 0 b.w.toNat).map fun i => ec (b.x + i, b.y + j) := by
    unfold rowC
    rw [rng_shift, List.map_map, List.map_map]
    rfl
  rw [e2]
  refine loop_pre (fun pre τ => ∃ o', nM o' ∧ τ = [some (.d (eb b)), some (.m (acc ++ pre.map fun i => ec (b.x + i, b.y + j))), some (.d (.int j)), o']) ⟨o, ho, by simp⟩ ?_
  rintro pre x post τ hx ⟨o', ho', rfl⟩
  have hl := split_len hx
  rw [rng_len] at hl
  refine ⟨_, [some (.d (eb b)), some (.m (acc ++ (pre ++ [x]).map fun i => ec (b.x + i, b.y + j))), some (.d (.int j)), some (.d (.int x))], dN_eq rfl ho', (apnd (d := ec (b.x + x, b.y + j)) (τ1 := [some (.d (eb b)), some (.m (acc ++ pre.map fun i => ec (b.x + i, b.y + j))), some (.d (.int j)), some (.d (.int x))]) rfl rfl rfl ?_).trans ?_, _, nM_d, rfl⟩
  · rw [List.length_append, List.length_map]; omega
  · simp [List.map_append]
theorem L_cells {b : Bx} (h : okB b) : m_L_cells [.d (eb b)] = some (.list ((cells b).map ec), [.d (eb b)]) := by
  obtain ⟨h1, h2, h3, h4⟩ := h
  have key : ∃ τ', dLoop (dN 2) (dFor (dR1 (dACons (dOp fIxT (dVar 0) (dC (.int 2))) dANil)) (dN 3) cellsBody) ((rng 0 b.h.toNat).map PyData.int) [some (.d (eb b)), some (.m []), none, none] = some (.nx τ') ∧
      ∃ o o', nM o ∧ nM o' ∧ τ' = [some (.d (eb b)), some (.m ((cells b).map ec)), o, o'] := by
    have e2 : (cells b).map ec = ((rng 0 b.h.toNat).flatMap fun j => rowC b.x (b.y + j) b.w.toNat).map ec := by
      unfold cells
      rw [rng_shift, List.flatMap_map]
    rw [e2]
    refine loop_pre (fun pre τ => ∃ o o', nM o ∧ nM o' ∧ τ = [some (.d (eb b)), some (.m ((pre.flatMap fun j => rowC b.x (b.y + j) b.w.toNat).map ec)), o, o']) ⟨none, none, nM_none, nM_none, by simp⟩ ?_
    rintro pre j post τ hx ⟨o, o', ho, ho', rfl⟩
    have hl := split_len hx
    rw [rng_len] at hl
    have hz : ((pre.flatMap fun j => rowC b.x (b.y + j) b.w.toNat).map ec).length = pre.length * b.w.toNat := by
      rw [List.length_map, List.length_flatMap]
      clear hx hl
      induction pre with
      | nil => simp
      | cons v l ih =>
        rw [List.map_cons, List.sum_cons, ih, List.length_cons, Nat.succ_mul]
        unfold rowC
        rw [List.length_map, rng_len]
        omega
    have hz2 : pre.length * b.w.toNat ≤ 12 * 12 := Nat.mul_le_mul (by omega) (by omega)
    obtain ⟨τ', e, o2, ho2, rfl⟩ := cells_in (b := b) j ((pre.flatMap fun j => rowC b.x (b.y + j) b.w.toNat).map ec) o' ho' (by rw [hz]; omega)
    refine ⟨_, _, dN_eq rfl ho, (for_eq (r1_eq (n := b.w) rfl (by omega) (by omega))).trans e, some (.d (.int j)), o2, nM_d, ho2, ?_⟩
    simp [List.flatMap_append]
  obtain ⟨τ', e, o, o', ho, ho', rfl⟩ := key
  unfold m_L_cells
  refine fun_rt (τ := [some (.d (eb b)), some (.m ((cells b).map ec)), o, o']) ?_ rfl rfl
  exact (seq_nx rfl).trans ((seq_nx ((for_eq (r1_eq (n := b.h) (τ1 := [some (.d (eb b)), some (.m []), none, none]) rfl (by omega) (by omega))).trans e)).trans rfl)
def tupI (n : Nat) (d : PyData) : Prop := ∃ is : List Int, d = .tuple (is.map .int) ∧ is.length = n
theorem tupI_eb (p : Bx) : tupI 4 (eb p) := ⟨[p.x, p.y, p.w, p.h], rfl, rfl⟩
theorem L_tuples {n : Nat} {ds : List PyData} (h : ∀ d ∈ ds, tupI n d) : m_L_tuples [.d (.list ds), .d (.int n)] = some (.bool true, [.d (.list ds), .d (.int n)]) := by
  have inner : ∀ (is : List Int) (o : Option L), nM o → ∃ τ', dLoop (dN 3) (dIfS (dTOr (dTNot (dTest (dIsi "int" (dVar 3)))) (dTest (dIsi "bool" (dVar 3)))) (dRet (dC (.bool false))) dNil) (is.map PyData.int) [some (.d (.list ds)), some (.d (.int n)), some (.d (.tuple (is.map .int))), o] = some (.nx τ') ∧
      ∃ o', nM o' ∧ τ' = [some (.d (.list ds)), some (.d (.int n)), some (.d (.tuple (is.map .int))), o'] := by
    intro is o ho
    refine loop_pre (fun _ τ => ∃ o', nM o' ∧ τ = [some (.d (.list ds)), some (.d (.int n)), some (.d (.tuple (is.map .int))), o']) ⟨o, ho, rfl⟩ ?_
    rintro pre x post τ hx ⟨o', ho', rfl⟩
    exact ⟨_, _, dN_eq rfl ho', rfl, some (.d (.int x)), nM_d, rfl⟩
  have key : ∃ τ', dLoop (dN 2) (dSeq (dIfS (dTOr (dTNot (dTest (dIsi "tuple" (dVar 2)))) (dTest (dOp fNe (dApp fLen (dACons (dVar 2) dANil)) (dVar 1)))) (dRet (dC (.bool false))) dNil) (dFor (dIT (dVar 2)) (dN 3) (dIfS (dTOr (dTNot (dTest (dIsi "int" (dVar 3)))) (dTest (dIsi "bool" (dVar 3)))) (dRet (dC (.bool false))) dNil))) (ds.map id) [some (.d (.list ds)), some (.d (.int n)), none, none] = some (.nx τ') ∧
      ∃ o o', nM o ∧ nM o' ∧ τ' = [some (.d (.list ds)), some (.d (.int n)), o, o'] := by
    refine loop_pre (fun _ τ => ∃ o o', nM o ∧ nM o' ∧ τ = [some (.d (.list ds)), some (.d (.int n)), o, o']) ⟨none, none, nM_none, nM_none, rfl⟩ ?_
    rintro pre x post τ hx ⟨o, o', ho, ho', rfl⟩
    obtain ⟨is, e, hn⟩ := h x (split_mem hx)
    obtain ⟨τ', e1, o2, ho2, rfl⟩ := inner is o' ho'
    refine ⟨_, _, dN_eq rfl ho, (seq_nx (τ1 := [some (.d (.list ds)), some (.d (.int n)), some (.d (.tuple (is.map .int))), o']) ?_).trans ((for_eq (τ1 := [some (.d (.list ds)), some (.d (.int n)), some (.d (.tuple (is.map .int))), o']) rfl).trans e1), some (.d (.tuple (is.map .int))), o2, nM_d, ho2, rfl⟩
    have ne : fNe (.int (is.length : Int)) (.int (n : Int)) = some (.bool false) := by
      rw [encI.fNe]; simp [hn]
    simp only [id_eq, e, List.length_map, ne, beq_self_eq_true, dFun, dSeq, dAsg, dN, dNew, dSetM, dRet, dRetM, dRetN, dExpr, dMt, gAppend, gExtend, gClear, dSetI, dNil, dIfS, dBrk, dCnt, dNever, dFor, dPar, dVar, dC, dOp, dUn, fI, fAdd, fSub, fLt, fLe, fGt, fGe, fNeg, isNo, fIsN, fNotN, fIxL, fIxT, dTest, dTAnd, dTOr, dTNot, dIf, dAnd, dOr, dNot, dChain, dANil, dACons, allD, dTup, dLst, dApp, dCall, dCallM, dCallC, dCallP, dAS, mkL, nMb, isM, isC, dBor, dBorF, dTBor, dYes, dIL, dIT, dR1, dR2, dGNil, dGCons, dGT, fin_nil, fin_d, fin_c, fin_m, fLen, f1, f2, fAbs, fMax2, fMin2, fInt1, fListOf, dRev, dIsi, tyOk_int, isi_int_none, isi_int_bool, isi_int_int, isi_int_str, isi_int_list, isi_int_tuple, tyOk_bool, isi_bool_none, isi_bool_bool, isi_bool_int, isi_bool_str, isi_bool_list, isi_bool_tuple, tyOk_str, isi_str_none, isi_str_bool, isi_str_int, isi_str_str, isi_str_list, isi_str_tuple, tyOk_list, isi_list_none, isi_list_bool, isi_list_int, isi_list_str, isi_list_list, isi_list_tuple, tyOk_tuple, isi_tuple_none, isi_tuple_bool, isi_tuple_int, isi_tuple_str, isi_tuple_list, isi_tuple_tuple, dIxC, dLenC, atI, ixN, okM_none, okM_d, okM_c, okM_m, fixD, fixDs, sz', Option.bind_some, Option.bind_none, Option.map_some, Option.map_none, List.map_cons, List.map_nil, List.cons_append, List.nil_append, List.length_cons, List.length_nil, List.getElem?_cons_zero, List.getElem?_cons_succ, List.set_cons_zero, List.set_cons_succ, List.replicate_succ, List.replicate_zero, List.all_cons, List.all_nil, Bool.and_self, Bool.and_true, Bool.true_and, Bool.false_and, Bool.and_false, Bool.or_true, Bool.true_or, Bool.false_or, Bool.or_false, Bool.not_true, Bool.not_false, if_true, if_false, reduceIte, Bool.false_eq_true, Nat.reduceAdd, Nat.reduceLT, Nat.reduceSub, Nat.reduceMul, Int.reduceEq, Int.reduceSub, Int.reduceMul, Int.reducePow, Int.reduceDiv, Int.reduceMod, Nat.reduceLeDiff, Nat.reduceEqDiff, and_self, and_true, true_and, Int.natCast_add, Int.reduceAdd, Int.reduceLT, Int.reduceLE, Int.reduceToNat, Int.reduceNeg, Int.toNat_zero, Int.toNat_one, Int.zero_lt_one, Int.le_refl, Int.reduceNegSucc, Int.cast_ofNat_Int, Nat.zero_add, Nat.add_zero]
  obtain ⟨τ', e, o, o', ho, ho', rfl⟩ := key
  rw [List.map_id] at e
  unfold m_L_tuples
  refine fun_rt (τ := [some (.d (.list ds)), some (.d (.int n)), o, o']) ?_ rfl rfl
  exact (seq_nx rfl).trans ((seq_nx ((for_eq (τ1 := [some (.d (.list ds)), some (.d (.int n)), none, none]) rfl).trans e)).trans rfl)
def mx (i j : Int) : Int := if j > i then j else i
def mn (i j : Int) : Int := if j < i then j else i
def hasB (b : Bx) : Bool := decide (0 < b.w) && decide (0 < b.h)
def meetB (b c : Bx) : Bx := ⟨mx b.x c.x, mx b.y c.y, mn (b.x + b.w) (c.x + c.w) - mx b.x c.x, mn (b.y + b.h) (c.y + c.h) - mx b.y c.y⟩
theorem mx_or (i j : Int) : (mx i j = i ∧ j ≤ i) ∨ (mx i j = j ∧ i ≤ j) := by unfold mx; split <;> omega
theorem mn_or (i j : Int) : (mn i j = i ∧ i ≤ j) ∨ (mn i j = j ∧ j ≤ i) := by unfold mn; split <;> omega
theorem meet_in {b c : Bx} {p : Cl} : inB (meetB b c) p ↔ inB b p ∧ inB c p := by
  have h1 := mx_or b.x c.x
  have h2 := mx_or b.y c.y
  have h3 := mn_or (b.x + b.w) (c.x + c.w)
  have h4 := mn_or (b.y + b.h) (c.y + c.h)
  unfold inB meetB
  dsimp only
  omega
theorem hasB_iff {b : Bx} : hasB b = true ↔ 0 < b.w ∧ 0 < b.h := by unfold hasB; simp
theorem hasB_cells {b : Bx} : hasB b = true ↔ cells b ≠ [] := by
  rw [hasB_iff, Ne, cells_nil, Classical.not_not]
def part (b c : Bx) (s : Int) : Bx := let m := meetB b c
  if s = 0 then ⟨b.x, b.y, b.w, m.y - b.y⟩ else if s = 1 then ⟨b.x, m.y, m.x - b.x, m.h⟩ else if s = 2 then ⟨m.x + m.w, m.y, b.x + b.w - (m.x + m.w), m.h⟩ else ⟨b.x, m.y + m.h, b.w, b.y + b.h - (m.y + m.h)⟩
def less4 (b c : Bx) : List Bx := ([0, 1, 2, 3].map (part b c)).filter hasB
def lessB (b c : Bx) : List Bx := if hasB (meetB b c) then less4 b c else [b]
def side (c : Bx) (p : Cl) : Int := if p.2 < c.y then 0 else if c.y + c.h ≤ p.2 then 3 else if c.x ≤ p.1 then 2 else 1
theorem part_in {b c : Bx} {p : Cl} {s : Int} (hb : 0 < b.w ∧ 0 < b.h) (hc : 0 < c.w ∧ 0 < c.h) (hm : hasB (meetB b c) = true) (hs : s = 0 ∨ s = 1 ∨ s = 2 ∨ s = 3) : (inB b p ∧ ¬ inB c p) ∧ side c p = s ↔ inB (part b c s) p := by
  rw [hasB_iff] at hm
  have h1 := mx_or b.x c.x
  have h2 := mx_or b.y c.y
  have h3 := mn_or (b.x + b.w) (c.x + c.w)
  have h4 := mn_or (b.y + b.h) (c.y + c.h)
  unfold meetB at hm
  dsimp only at hm
  have hsd : (side c p = 0 ∧ p.2 < c.y) ∨ (side c p = 3 ∧ c.y + c.h ≤ p.2) ∨ (side c p = 2 ∧ c.y ≤ p.2 ∧ p.2 < c.y + c.h ∧ c.x ≤ p.1) ∨ (side c p = 1 ∧ c.y ≤ p.2 ∧ p.2 < c.y + c.h ∧ p.1 < c.x) := by
    unfold side
    split
    · omega
    · split
      · omega
      · split <;> omega
  generalize side c p = sd at hsd ⊢
  generalize hX : mx b.x c.x = X at *
  generalize hY : mx b.y c.y = Y at *
  generalize hR : mn (b.x + b.w) (c.x + c.w) = R at *
  generalize hB : mn (b.y + b.h) (c.y + c.h) = B at *
  have e : part b c s = (if s = 0 then ⟨b.x, b.y, b.w, Y - b.y⟩ else if s = 1 then ⟨b.x, Y, X - b.x, B - Y⟩ else if s = 2 then ⟨X + (R - X), Y, b.x + b.w - (X + (R - X)), B - Y⟩ else ⟨b.x, Y + (B - Y), b.w, b.y + b.h - (Y + (B - Y))⟩) := by
    rw [← hX, ← hY, ← hR, ← hB]; rfl
  rw [e]
  obtain ⟨px, py⟩ := p
  obtain ⟨bx, by', bw, bh⟩ := b
  obtain ⟨cx, cy, cw, ch⟩ := c
  dsimp only at *
  clear hX hY hR hB e
  rcases hs with rfl | rfl | rfl | rfl
  · rw [if_pos rfl]; unfold inB; dsimp only
    constructor
    · rintro ⟨⟨⟨_, _, _, _⟩, _⟩, _⟩; omega
    · rintro ⟨_, _, _, _⟩; omega
  · rw [if_neg (by decide), if_pos rfl]; unfold inB; dsimp only
    constructor
    · rintro ⟨⟨⟨_, _, _, _⟩, _⟩, _⟩; omega
    · rintro ⟨_, _, _, _⟩; omega
  · rw [if_neg (by decide), if_neg (by decide), if_pos rfl]; unfold inB; dsimp only
    constructor
    · rintro ⟨⟨⟨_, _, _, _⟩, _⟩, _⟩; omega
    · rintro ⟨_, _, _, _⟩; omega
  · rw [if_neg (by decide), if_neg (by decide), if_neg (by decide)]; unfold inB; dsimp only
    constructor
    · rintro ⟨⟨⟨_, _, _, _⟩, _⟩, _⟩; omega
    · rintro ⟨_, _, _, _⟩; omega
theorem right_of_eq (b : Bx) : m_right_of [.d (eb b)] = some (.int (b.x + b.w), [.d (eb b)]) := rfl
theorem bottom_of_eq (b : Bx) : m_bottom_of [.d (eb b)] = some (.int (b.y + b.h), [.d (eb b)]) := rfl
theorem has_eq (b : Bx) : m_has_cells [.d (eb b)] = some (.bool (hasB b), [.d (eb b)]) := by
  by_cases h : 0 < b.w
  · simp only [m_has_cells, eb, hasB, h, decide_true, dFun, dSeq, dAsg, dN, dNew, dSetM, dRet, dRetM, dRetN, dExpr, dMt, gAppend, gExtend, gClear, dSetI, dNil, dIfS, dBrk, dCnt, dNever, dFor, dPar, dVar, dC, dOp, dUn, fI, fAdd, fSub, fLt, fLe, fGt, fGe, fNeg, isNo, fIsN, fNotN, fIxL, fIxT, dTest, dTAnd, dTOr, dTNot, dIf, dAnd, dOr, dNot, dChain, dANil, dACons, allD, dTup, dLst, dApp, dCall, dCallM, dCallC, dCallP, dAS, mkL, nMb, isM, isC, dBor, dBorF, dTBor, dYes, dIL, dIT, dR1, dR2, dGNil, dGCons, dGT, fin_nil, fin_d, fin_c, fin_m, fLen, f1, f2, fAbs, fMax2, fMin2, fInt1, fListOf, dRev, dIsi, tyOk_int, isi_int_none, isi_int_bool, isi_int_int, isi_int_str, isi_int_list, isi_int_tuple, tyOk_bool, isi_bool_none, isi_bool_bool, isi_bool_int, isi_bool_str, isi_bool_list, isi_bool_tuple, tyOk_str, isi_str_none, isi_str_bool, isi_str_int, isi_str_str, isi_str_list, isi_str_tuple, tyOk_list, isi_list_none, isi_list_bool, isi_list_int, isi_list_str, isi_list_list, isi_list_tuple, tyOk_tuple, isi_tuple_none, isi_tuple_bool, isi_tuple_int, isi_tuple_str, isi_tuple_list, isi_tuple_tuple, dIxC, dLenC, atI, ixN, okM_none, okM_d, okM_c, okM_m, fixD, fixDs, sz', Option.bind_some, Option.bind_none, Option.map_some, Option.map_none, List.map_cons, List.map_nil, List.cons_append, List.nil_append, List.length_cons, List.length_nil, List.getElem?_cons_zero, List.getElem?_cons_succ, List.set_cons_zero, List.set_cons_succ, List.replicate_succ, List.replicate_zero, List.all_cons, List.all_nil, Bool.and_self, Bool.and_true, Bool.true_and, Bool.false_and, Bool.and_false, Bool.or_true, Bool.true_or, Bool.false_or, Bool.or_false, Bool.not_true, Bool.not_false, if_true, if_false, reduceIte, Bool.false_eq_true, Nat.reduceAdd, Nat.reduceLT, Nat.reduceSub, Nat.reduceMul, Int.reduceEq, Int.reduceSub, Int.reduceMul, Int.reducePow, Int.reduceDiv, Int.reduceMod, Nat.reduceLeDiff, Nat.reduceEqDiff, and_self, and_true, true_and, Int.natCast_add, Int.reduceAdd, Int.reduceLT, Int.reduceLE, Int.reduceToNat, Int.reduceNeg, Int.toNat_zero, Int.toNat_one, Int.zero_lt_one, Int.le_refl, Int.reduceNegSucc, Int.cast_ofNat_Int, Nat.zero_add, Nat.add_zero]
  · simp only [m_has_cells, eb, hasB, h, decide_false, dFun, dSeq, dAsg, dN, dNew, dSetM, dRet, dRetM, dRetN, dExpr, dMt, gAppend, gExtend, gClear, dSetI, dNil, dIfS, dBrk, dCnt, dNever, dFor, dPar, dVar, dC, dOp, dUn, fI, fAdd, fSub, fLt, fLe, fGt, fGe, fNeg, isNo, fIsN, fNotN, fIxL, fIxT, dTest, dTAnd, dTOr, dTNot, dIf, dAnd, dOr, dNot, dChain, dANil, dACons, allD, dTup, dLst, dApp, dCall, dCallM, dCallC, dCallP, dAS, mkL, nMb, isM, isC, dBor, dBorF, dTBor, dYes, dIL, dIT, dR1, dR2, dGNil, dGCons, dGT, fin_nil, fin_d, fin_c, fin_m, fLen, f1, f2, fAbs, fMax2, fMin2, fInt1, fListOf, dRev, dIsi, tyOk_int, isi_int_none, isi_int_bool, isi_int_int, isi_int_str, isi_int_list, isi_int_tuple, tyOk_bool, isi_bool_none, isi_bool_bool, isi_bool_int, isi_bool_str, isi_bool_list, isi_bool_tuple, tyOk_str, isi_str_none, isi_str_bool, isi_str_int, isi_str_str, isi_str_list, isi_str_tuple, tyOk_list, isi_list_none, isi_list_bool, isi_list_int, isi_list_str, isi_list_list, isi_list_tuple, tyOk_tuple, isi_tuple_none, isi_tuple_bool, isi_tuple_int, isi_tuple_str, isi_tuple_list, isi_tuple_tuple, dIxC, dLenC, atI, ixN, okM_none, okM_d, okM_c, okM_m, fixD, fixDs, sz', Option.bind_some, Option.bind_none, Option.map_some, Option.map_none, List.map_cons, List.map_nil, List.cons_append, List.nil_append, List.length_cons, List.length_nil, List.getElem?_cons_zero, List.getElem?_cons_succ, List.set_cons_zero, List.set_cons_succ, List.replicate_succ, List.replicate_zero, List.all_cons, List.all_nil, Bool.and_self, Bool.and_true, Bool.true_and, Bool.false_and, Bool.and_false, Bool.or_true, Bool.true_or, Bool.false_or, Bool.or_false, Bool.not_true, Bool.not_false, if_true, if_false, reduceIte, Bool.false_eq_true, Nat.reduceAdd, Nat.reduceLT, Nat.reduceSub, Nat.reduceMul, Int.reduceEq, Int.reduceSub, Int.reduceMul, Int.reducePow, Int.reduceDiv, Int.reduceMod, Nat.reduceLeDiff, Nat.reduceEqDiff, and_self, and_true, true_and, Int.natCast_add, Int.reduceAdd, Int.reduceLT, Int.reduceLE, Int.reduceToNat, Int.reduceNeg, Int.toNat_zero, Int.toNat_one, Int.zero_lt_one, Int.le_refl, Int.reduceNegSucc, Int.cast_ofNat_Int, Nat.zero_add, Nat.add_zero]
theorem box_meet_eq (b c : Bx) : m_box_meet [.d (eb b), .d (eb c)] = some (if hasB (meetB b c) then eb (meetB b c) else .none, [.d (eb b), .d (eb c)]) := by
  have e : ∀ x y w h m : Option L, dIf (dTest (dCall m_has_cells (dACons (dVar 6) dANil))) (dVar 6) (dC .none) [some (.d (eb b)), some (.d (eb c)), x, y, w, h, some (.d (eb (meetB b c)))] = some (if hasB (meetB b c) then eb (meetB b c) else .none, [some (.d (eb b)), some (.d (eb c)), x, y, w, h, some (.d (eb (meetB b c)))]) := by
    intro x y w h m
    cases hh : hasB (meetB b c) with
    | true => simp only [has_eq, hh, dFun, dSeq, dAsg, dN, dNew, dSetM, dRet, dRetM, dRetN, dExpr, dMt, gAppend, gExtend, gClear, dSetI, dNil, dIfS, dBrk, dCnt, dNever, dFor, dPar, dVar, dC, dOp, dUn, fI, fAdd, fSub, fLt, fLe, fGt, fGe, fNeg, isNo, fIsN, fNotN, fIxL, fIxT, dTest, dTAnd, dTOr, dTNot, dIf, dAnd, dOr, dNot, dChain, dANil, dACons, allD, dTup, dLst, dApp, dCall, dCallM, dCallC, dCallP, dAS, mkL, nMb, isM, isC, dBor, dBorF, dTBor, dYes, dIL, dIT, dR1, dR2, dGNil, dGCons, dGT, fin_nil, fin_d, fin_c, fin_m, fLen, f1, f2, fAbs, fMax2, fMin2, fInt1, fListOf, dRev, dIsi, tyOk_int, isi_int_none, isi_int_bool, isi_int_int, isi_int_str, isi_int_list, isi_int_tuple, tyOk_bool, isi_bool_none, isi_bool_bool, isi_bool_int, isi_bool_str, isi_bool_list, isi_bool_tuple, tyOk_str, isi_str_none, isi_str_bool, isi_str_int, isi_str_str, isi_str_list, isi_str_tuple, tyOk_list, isi_list_none, isi_list_bool, isi_list_int, isi_list_str, isi_list_list, isi_list_tuple, tyOk_tuple, isi_tuple_none, isi_tuple_bool, isi_tuple_int, isi_tuple_str, isi_tuple_list, isi_tuple_tuple, dIxC, dLenC, atI, ixN, okM_none, okM_d, okM_c, okM_m, fixD, fixDs, sz', Option.bind_some, Option.bind_none, Option.map_some, Option.map_none, List.map_cons, List.map_nil, List.cons_append, List.nil_append, List.length_cons, List.length_nil, List.getElem?_cons_zero, List.getElem?_cons_succ, List.set_cons_zero, List.set_cons_succ, List.replicate_succ, List.replicate_zero, List.all_cons, List.all_nil, Bool.and_self, Bool.and_true, Bool.true_and, Bool.false_and, Bool.and_false, Bool.or_true, Bool.true_or, Bool.false_or, Bool.or_false, Bool.not_true, Bool.not_false, if_true, if_false, reduceIte, Bool.false_eq_true, Nat.reduceAdd, Nat.reduceLT, Nat.reduceSub, Nat.reduceMul, Int.reduceEq, Int.reduceSub, Int.reduceMul, Int.reducePow, Int.reduceDiv, Int.reduceMod, Nat.reduceLeDiff, Nat.reduceEqDiff, and_self, and_true, true_and, Int.natCast_add, Int.reduceAdd, Int.reduceLT, Int.reduceLE, Int.reduceToNat, Int.reduceNeg, Int.toNat_zero, Int.toNat_one, Int.zero_lt_one, Int.le_refl, Int.reduceNegSucc, Int.cast_ofNat_Int, Nat.zero_add, Nat.add_zero]
    | false => simp only [has_eq, hh, dFun, dSeq, dAsg, dN, dNew, dSetM, dRet, dRetM, dRetN, dExpr, dMt, gAppend, gExtend, gClear, dSetI, dNil, dIfS, dBrk, dCnt, dNever, dFor, dPar, dVar, dC, dOp, dUn, fI, fAdd, fSub, fLt, fLe, fGt, fGe, fNeg, isNo, fIsN, fNotN, fIxL, fIxT, dTest, dTAnd, dTOr, dTNot, dIf, dAnd, dOr, dNot, dChain, dANil, dACons, allD, dTup, dLst, dApp, dCall, dCallM, dCallC, dCallP, dAS, mkL, nMb, isM, isC, dBor, dBorF, dTBor, dYes, dIL, dIT, dR1, dR2, dGNil, dGCons, dGT, fin_nil, fin_d, fin_c, fin_m, fLen, f1, f2, fAbs, fMax2, fMin2, fInt1, fListOf, dRev, dIsi, tyOk_int, isi_int_none, isi_int_bool, isi_int_int, isi_int_str, isi_int_list, isi_int_tuple, tyOk_bool, isi_bool_none, isi_bool_bool, isi_bool_int, isi_bool_str, isi_bool_list, isi_bool_tuple, tyOk_str, isi_str_none, isi_str_bool, isi_str_int, isi_str_str, isi_str_list, isi_str_tuple, tyOk_list, isi_list_none, isi_list_bool, isi_list_int, isi_list_str, isi_list_list, isi_list_tuple, tyOk_tuple, isi_tuple_none, isi_tuple_bool, isi_tuple_int, isi_tuple_str, isi_tuple_list, isi_tuple_tuple, dIxC, dLenC, atI, ixN, okM_none, okM_d, okM_c, okM_m, fixD, fixDs, sz', Option.bind_some, Option.bind_none, Option.map_some, Option.map_none, List.map_cons, List.map_nil, List.cons_append, List.nil_append, List.length_cons, List.length_nil, List.getElem?_cons_zero, List.getElem?_cons_succ, List.set_cons_zero, List.set_cons_succ, List.replicate_succ, List.replicate_zero, List.all_cons, List.all_nil, Bool.and_self, Bool.and_true, Bool.true_and, Bool.false_and, Bool.and_false, Bool.or_true, Bool.true_or, Bool.false_or, Bool.or_false, Bool.not_true, Bool.not_false, if_true, if_false, reduceIte, Bool.false_eq_true, Nat.reduceAdd, Nat.reduceLT, Nat.reduceSub, Nat.reduceMul, Int.reduceEq, Int.reduceSub, Int.reduceMul, Int.reducePow, Int.reduceDiv, Int.reduceMod, Nat.reduceLeDiff, Nat.reduceEqDiff, and_self, and_true, true_and, Int.natCast_add, Int.reduceAdd, Int.reduceLT, Int.reduceLE, Int.reduceToNat, Int.reduceNeg, Int.toNat_zero, Int.toNat_one, Int.zero_lt_one, Int.le_refl, Int.reduceNegSucc, Int.cast_ofNat_Int, Nat.zero_add, Nat.add_zero]
  unfold m_box_meet
  refine fun_rt (τ := [some (.d (eb b)), some (.d (eb c)), some (.d (.int (meetB b c).x)), some (.d (.int (meetB b c).y)), some (.d (.int (meetB b c).w)), some (.d (.int (meetB b c).h)), some (.d (eb (meetB b c)))]) ?_ rfl rfl
  refine (seq_nx (τ1 := [some (.d (eb b)), some (.d (eb c)), some (.d (.int (meetB b c).x)), none, none, none, none]) rfl).trans ?_
  refine (seq_nx (τ1 := [some (.d (eb b)), some (.d (eb c)), some (.d (.int (meetB b c).x)), some (.d (.int (meetB b c).y)), none, none, none]) rfl).trans ?_
  refine (seq_nx (τ1 := [some (.d (eb b)), some (.d (eb c)), some (.d (.int (meetB b c).x)), some (.d (.int (meetB b c).y)), some (.d (.int (meetB b c).w)), none, none]) rfl).trans ?_
  refine (seq_nx (τ1 := [some (.d (eb b)), some (.d (eb c)), some (.d (.int (meetB b c).x)), some (.d (.int (meetB b c).y)), some (.d (.int (meetB b c).w)), some (.d (.int (meetB b c).h)), none]) rfl).trans ?_
  refine (seq_nx (τ1 := [some (.d (eb b)), some (.d (eb c)), some (.d (.int (meetB b c).x)), some (.d (.int (meetB b c).y)), some (.d (.int (meetB b c).w)), some (.d (.int (meetB b c).h)), some (.d (eb (meetB b c)))]) rfl).trans ?_
  exact ret_rt (e _ _ _ _ none)
def arnd (b m : Bx) : List Bx := (((if b.y < m.y then [⟨b.x, b.y, b.w, m.y - b.y⟩] else []) ++ (if b.x < m.x then [⟨b.x, m.y, m.x - b.x, m.h⟩] else [])) ++ (if m.x + m.w < b.x + b.w then [⟨m.x + m.w, m.y, b.x + b.w - (m.x + m.w), m.h⟩] else [])) ++ (if m.y + m.h < b.y + b.h then [⟨b.x, m.y + m.h, b.w, b.y + b.h - (m.y + m.h)⟩] else [])
theorem if_app {c : DT} {a : DA} {τ : DS} {q : Prop} [Decidable q] {acc : List Bx} {d : Bx} (hc : c τ = some (decide q, τ)) (ha : a τ = some ([.d (eb d)], τ)) (hm : τ[4]? = some (some (.m (acc.map eb)))) (hl : acc.length < 800) :
    dIfS c (dExpr (dMt 4 gAppend a)) dNil τ = some (.nx (τ.set 4 (some (.m ((acc ++ if q then [d] else []).map eb))))) := by
  by_cases h : q
  · rw [if_pos h, List.map_append]
    exact (ifs_t (hc.trans (by rw [decide_eq_true h]))).trans (apnd ha rfl hm (by rw [List.length_map]; omega))
  · rw [if_neg h, List.append_nil]
    refine (ifs_f (hc.trans (by rw [decide_eq_false h]))).trans ?_
    have es : τ.set 4 (some (.m (acc.map eb))) = τ := by
      refine List.ext_getElem? fun i => ?_
      by_cases e : i = 4
      · subst e; rw [List.getElem?_set_self (List.getElem?_eq_some_iff.mp hm).1, hm]
      · rw [List.getElem?_set_ne (fun z => e z.symm)]
    rw [es]
    rfl
theorem box_around_eq (b m : Bx) : m_box_around [.d (eb b), .d (eb m)] = some (.list ((arnd b m).map eb), [.d (eb b), .d (eb m)]) := by
  let st : List Bx → DS := fun t => [some (.d (eb b)), some (.d (eb m)), some (.d (.int (m.x + m.w))), some (.d (.int (m.y + m.h))), some (.m (t.map eb))]
  have ln : ∀ (q : Prop) [Decidable q] (d : Bx), (if q then [d] else []).length ≤ 1 := fun q _ d => by split <;> simp
  unfold m_box_around
  refine fun_rt (τ := st (arnd b m)) ?_ rfl rfl
  refine (seq_nx (τ1 := [some (.d (eb b)), some (.d (eb m)), some (.d (.int (m.x + m.w))), none, none]) (asg_nx (call_eq rfl rfl (right_of_eq m)) rfl)).trans ?_
  refine (seq_nx (τ1 := [some (.d (eb b)), some (.d (eb m)), some (.d (.int (m.x + m.w))), some (.d (.int (m.y + m.h))), none]) (asg_nx (call_eq rfl rfl (bottom_of_eq m)) rfl)).trans ?_
  refine (seq_nx (τ1 := st []) rfl).trans ?_
  have l1 := ln (b.y < m.y) ⟨b.x, b.y, b.w, m.y - b.y⟩
  have l2 := ln (b.x < m.x) ⟨b.x, m.y, m.x - b.x, m.h⟩
  have l3 := ln (m.x + m.w < b.x + b.w) ⟨m.x + m.w, m.y, b.x + b.w - (m.x + m.w), m.h⟩
  refine (seq_nx (if_app (acc := []) (d := ⟨b.x, b.y, b.w, m.y - b.y⟩) (q := b.y < m.y) rfl rfl rfl (by decide))).trans ?_
  refine (seq_nx (if_app (acc := _) (d := ⟨b.x, m.y, m.x - b.x, m.h⟩) (q := b.x < m.x) rfl rfl rfl (by rw [List.nil_append]; omega))).trans ?_
  refine (seq_nx (if_app (acc := _) (d := ⟨m.x + m.w, m.y, b.x + b.w - (m.x + m.w), m.h⟩) (q := m.x + m.w < b.x + b.w) rfl rfl rfl (by rw [List.nil_append, List.length_append]; omega))).trans ?_
  refine (seq_nx (if_app (acc := _) (d := ⟨b.x, m.y + m.h, b.w, b.y + b.h - (m.y + m.h)⟩) (q := m.y + m.h < b.y + b.h) rfl rfl rfl (by rw [List.nil_append, List.length_append, List.length_append]; omega))).trans ?_
  rfl
theorem arnd_less {b c : Bx} (hb : 0 < b.w) (hm : hasB (meetB b c) = true) : arnd b (meetB b c) = less4 b c := by
  have h := hasB_iff.mp hm
  have f : ∀ (q : Prop) [Decidable q] (d : Bx), (hasB d = true ↔ q) → (if q then [d] else []) = [d].filter hasB := fun q _ d e => by
    by_cases hq : q
    · rw [if_pos hq, List.filter_cons_of_pos (e.mpr hq)]; rfl
    · rw [if_neg hq, List.filter_cons_of_neg (fun z => hq (e.mp z))]; rfl
  unfold arnd
  rw [f (b.y < (meetB b c).y) _ (by rw [hasB_iff]; dsimp only; omega), f (b.x < (meetB b c).x) _ (by rw [hasB_iff]; dsimp only; omega), f ((meetB b c).x + (meetB b c).w < b.x + b.w) _ (by rw [hasB_iff]; dsimp only; omega), f ((meetB b c).y + (meetB b c).h < b.y + b.h) _ (by rw [hasB_iff]; dsimp only; omega)]
  rw [← List.filter_append, ← List.filter_append, ← List.filter_append]
  rfl
theorem box_less_eq (b c : Bx) (hb : 0 < b.w) : m_box_less [.d (eb b), .d (eb c)] = some (.list ((lessB b c).map eb), [.d (eb b), .d (eb c)]) := by
  unfold m_box_less
  cases hh : hasB (meetB b c) with
  | false =>
    refine fun_rt (τ := [some (.d (eb b)), some (.d (eb c)), some (.d .none)]) ?_ rfl rfl
    refine (seq_nx (τ1 := [some (.d (eb b)), some (.d (eb c)), some (.d .none)]) (asg_nx (call_eq rfl rfl (box_meet_eq b c)) (by rw [hh]; rfl))).trans ?_
    refine seq_rt ?_
    unfold lessB
    rw [hh]
    rfl
  | true =>
    refine fun_rt (τ := [some (.d (eb b)), some (.d (eb c)), some (.d (eb (meetB b c)))]) ?_ rfl rfl
    refine (seq_nx (τ1 := [some (.d (eb b)), some (.d (eb c)), some (.d (eb (meetB b c)))]) (asg_nx (call_eq rfl rfl (box_meet_eq b c)) (by rw [hh]; rfl))).trans ?_
    refine (seq_nx (τ1 := [some (.d (eb b)), some (.d (eb c)), some (.d (eb (meetB b c)))]) rfl).trans ?_
    have e := box_around_eq b (meetB b c)
    rw [arnd_less hb hh] at e
    unfold lessB
    rw [hh]
    exact ret_rt (call_eq rfl rfl e)
theorem acc {f : DX} {a : DA} {τ τ1 τ2 : DS} {d : PyData} {rs : List Ar} (h : f τ = some (d, τ1)) (k : a τ1 = some (rs, τ2)) : dACons f a τ = some (.d d :: rs, τ2) := by
  unfold dACons
  rw [h]
  show ((a τ1).map _) = _
  rw [k]; rfl
theorem tst {f : DX} {τ τ1 : DS} {b : Bool} (h : f τ = some (.bool b, τ1)) : dTest f τ = some (b, τ1) := by
  unfold dTest
  rw [h]; rfl
theorem tnot {t : DT} {τ τ1 : DS} {b : Bool} (h : t τ = some (b, τ1)) : dTNot t τ = some (!b, τ1) := by
  unfold dTNot
  rw [h]; rfl
theorem op2 {F : PyData → PyData → Option PyData} {f g : DX} {τ τ1 τ2 : DS} {x y r : PyData} (h : f τ = some (x, τ1)) (k : g τ1 = some (y, τ2)) (e : F x y = some r) : dOp F f g τ = some (r, τ2) := by
  unfold dOp
  rw [h]
  show ((g τ1).bind _) = _
  rw [k]
  show ((F x y).map _) = _
  rw [e]; rfl
theorem tbor_eq {i : Nat} {f : DT} {τ τ1 : DS} {b : Bool} {xs : List PyData} (hi : τ[i]? = some (some (.m xs))) (hf : f (τ.set i (some (.d (.list xs)))) = some (b, τ1)) (hx : τ1.all okM = true) : dTBor i f τ = some (b, τ1.set i (some (.m xs))) := by
  unfold dTBor
  rw [hi]
  dsimp only
  rw [hf]
  dsimp only [Option.bind]
  rw [if_pos hx]
theorem orFF {x y : DT} {τ τ1 τ2 : DS} (h1 : x τ = some (false, τ1)) (h2 : y τ1 = some (false, τ2)) : dTOr x y τ = some (false, τ2) := by
  unfold dTOr
  rw [h1]; exact h2
theorem setM_nx {np i : Nat} {e : DX} {τ τ1 : DS} {xs : List PyData} (h : e τ = some (.list xs, τ1)) (h1 : np ≤ i) (h2 : i < τ1.length) (h3 : τ1.all okM = true) : dSetM np i e τ = some (.nx (τ1.set i (some (.m xs)))) := by
  unfold dSetM
  rw [h]
  dsimp only [Option.bind]
  rw [if_pos ⟨h1, h2, h3⟩]
theorem tand {a b : DT} {τ : DS} {p q : Bool} (h1 : a τ = some (p, τ)) (h2 : b τ = some (q, τ)) : dTAnd a b τ = some (p && q, τ) := by
  unfold dTAnd
  rw [h1]
  cases p with
  | true => exact h2
  | false => rfl
theorem loop_find {α : Type} {enc : α → PyData} {g : DG} {b : DB} (p : α → Bool) (val : α → PyData) (J : DS → Prop) : ∀ {xs : List α} {τ : DS}, J τ → (∀ x ∈ xs, ∀ τ, J τ → ∃ τ1, g (enc x) τ = some τ1 ∧ ((p x = true → ∃ τ2, b τ1 = some (.rt (val x) τ2) ∧ J τ2) ∧ (p x = false → ∃ τ2, b τ1 = some (.nx τ2) ∧ J τ2))) →
    (match xs.find? p with
      | some x => ∃ τ2, dLoop g b (xs.map enc) τ = some (.rt (val x) τ2) ∧ J τ2
      | none => ∃ τ2, dLoop g b (xs.map enc) τ = some (.nx τ2) ∧ J τ2)
  | [], τ, hJ, _ => ⟨τ, rfl, hJ⟩
  | x :: xs, τ, hJ, h => by
    obtain ⟨τ1, e1, h1, h2⟩ := h x List.mem_cons_self τ hJ
    rw [List.find?_cons, List.map_cons]
    cases hp : p x with
    | true =>
      obtain ⟨τ2, e2, j2⟩ := h1 hp
      refine ⟨τ2, ?_, j2⟩
      rw [dLoop, e1]
      show ((b τ1).bind _) = _
      rw [e2]; rfl
    | false =>
      obtain ⟨τ2, e2, j2⟩ := h2 hp
      have ih := loop_find p val J (xs := xs) (τ := τ2) j2 fun y hy => h y (List.mem_cons_of_mem _ hy)
      have e : dLoop g b (enc x :: xs.map enc) τ = dLoop g b (xs.map enc) τ2 := by
        rw [dLoop, e1]
        show ((b τ1).bind _) = _
        rw [e2]; rfl
      rw [e]
      exact ih
def mtB (b c : Bx) : Bool := decide (c.x < b.x + b.w) && (decide (b.x < c.x + c.w) && (decide (c.y < b.y + b.h) && decide (b.y < c.y + c.h)))
theorem mtB_eq {b c : Bx} (hb : 0 < b.w ∧ 0 < b.h) (hc : 0 < c.w ∧ 0 < c.h) : mtB b c = hasB (meetB b c) := by
  have e : mtB b c = true ↔ hasB (meetB b c) = true := by
    rw [hasB_iff]
    unfold mtB meetB
    simp only [Bool.and_eq_true, decide_eq_true_eq]
    rcases mx_or b.x c.x with ⟨h1, g1⟩ | ⟨h1, g1⟩ <;> rcases mx_or b.y c.y with ⟨h2, g2⟩ | ⟨h2, g2⟩ <;> rcases mn_or (b.x + b.w) (c.x + c.w) with ⟨h3, g3⟩ | ⟨h3, g3⟩ <;> rcases mn_or (b.y + b.h) (c.y + c.h) with ⟨h4, g4⟩ | ⟨h4, g4⟩ <;> rw [h1, h2, h3, h4] <;> omega
  cases h1 : mtB b c <;> cases h2 : hasB (meetB b c) <;> simp_all
def bx0 : Bx := ⟨0, 0, 0, 0⟩
def nxtI (b : Bx) (cs : List Bx) (k : Int) : Int := match (rng k ((cs.length : Int) - k).toNat).find? fun i => mtB b (cs.getD i.toNat bx0) with
  | some i => i
  | none => cs.length
theorem tandS {a b : DT} {τ : DS} {p q : Bool} (h1 : a τ = some (p, τ)) (h2 : b τ = some (q, τ)) : dTAnd a b τ = some (p && q, τ) := by
  unfold dTAnd
  rw [h1]
  cases p with
  | true => exact h2
  | false => rfl
theorem next_meeting_eq {b : Bx} {cs : List Bx} {k : Int} (h0 : 0 ≤ k) (h1 : k ≤ 1000) (hz : cs.length ≤ 1000) : ∃ ls, m_next_meeting [.d (eb b), .d (.list (cs.map eb)), .d (.int k)] = some (.int (nxtI b cs k), ls) := by
  let I : Int → Option L := fun i => some (.d (.int i))
  let st : Option L → Option L → DS := fun o p => [some (.d (eb b)), some (.d (.list (cs.map eb))), I k, I b.x, I b.y, I (b.x + b.w), I (b.y + b.h), o, p]
  let B0 : DB := dSeq (dAsg (dOp fIxL (dVar 1) (dVar 7)) (dN 8)) (dIfS (dTAnd (dTest (dOp fLt (dOp fIxT (dVar 8) (dC (.int 0))) (dVar 5))) (dTAnd (dTest (dOp fLt (dVar 3) (dOp fAdd (dOp fIxT (dVar 8) (dC (.int 0))) (dOp fIxT (dVar 8) (dC (.int 2)))))) (dTAnd (dTest (dOp fLt (dOp fIxT (dVar 8) (dC (.int 1))) (dVar 6))) (dTest (dOp fLt (dVar 4) (dOp fAdd (dOp fIxT (dVar 8) (dC (.int 1))) (dOp fIxT (dVar 8) (dC (.int 3))))))))) (dRet (dVar 7)) dNil)
  have lp := loop_find (enc := PyData.int) (g := dN 7) (b := B0) (fun i => mtB b (cs.getD i.toNat bx0)) (fun i => .int i) (fun τ => ∃ o p, nM o ∧ nM p ∧ τ = st o p) (xs := rng k ((cs.length : Int) - k).toNat) (τ := st none none) ⟨none, none, nM_none, nM_none, rfl⟩ (by
    rintro i hi τ ⟨o, p, ho, hp, rfl⟩
    have hi := mem_rng.mp hi
    have hlt : i.toNat < cs.length := by omega
    let c := cs.getD i.toNat bx0
    have ec' : fIxL (.list (cs.map eb)) (.int i) = some (eb c) := by
      show atI (cs.map eb) i = _
      unfold atI ixN
      rw [List.length_map, if_pos (by omega), if_pos (by omega)]
      show (cs.map eb)[i.toNat]? = some (eb (cs.getD i.toNat bx0))
      rw [List.getElem?_map, List.getElem?_eq_getElem hlt, List.getD_eq_getElem?_getD, List.getElem?_eq_getElem hlt]; rfl
    let τ1 := st (I i) p
    let τ2 := st (I i) (some (.d (eb c)))
    have tt : dTAnd (dTest (dOp fLt (dOp fIxT (dVar 8) (dC (.int 0))) (dVar 5))) (dTAnd (dTest (dOp fLt (dVar 3) (dOp fAdd (dOp fIxT (dVar 8) (dC (.int 0))) (dOp fIxT (dVar 8) (dC (.int 2)))))) (dTAnd (dTest (dOp fLt (dOp fIxT (dVar 8) (dC (.int 1))) (dVar 6))) (dTest (dOp fLt (dVar 4) (dOp fAdd (dOp fIxT (dVar 8) (dC (.int 1))) (dOp fIxT (dVar 8) (dC (.int 3)))))))) τ2 = some (mtB b c, τ2) := tandS rfl (tandS rfl (tandS rfl rfl))
    have s1 : dAsg (dOp fIxL (dVar 1) (dVar 7)) (dN 8) τ1 = some (.nx τ2) := asg_nx (d := eb c) (τ1 := τ1) (by
      show ((fIxL (.list (cs.map eb)) (.int i)).map fun d => (d, τ1)) = _
      rw [ec']; rfl) (dN_eq rfl hp)
    refine ⟨τ1, dN_eq rfl ho, fun hm => ⟨τ2, ?_, _, _, nM_d, nM_d, rfl⟩, fun hm => ⟨τ2, ?_, _, _, nM_d, nM_d, rfl⟩⟩
    · have hm : mtB b c = true := hm
      rw [hm] at tt
      exact (seq_nx s1).trans ((ifs_t tt).trans rfl)
    · have hm : mtB b c = false := hm
      rw [hm] at tt
      exact (seq_nx s1).trans ((ifs_f tt).trans rfl))
  have pre : ∀ {o : Out}, dSeq (dFor (dR2 (dACons (dVar 2) (dACons (dApp fLen (dACons (dVar 1) dANil)) dANil))) (dN 7) B0) (dRet (dApp fLen (dACons (dVar 1) dANil))) (st none none) = some o → dSeq (dAsg (dOp fIxT (dVar 0) (dC (.int 0))) (dN 3)) (dSeq (dAsg (dOp fIxT (dVar 0) (dC (.int 1))) (dN 4)) (dSeq (dAsg (dCall m_right_of (dACons (dVar 0) dANil)) (dN 5)) (dSeq (dAsg (dCall m_bottom_of (dACons (dVar 0) dANil)) (dN 6)) (dSeq (dFor (dR2 (dACons (dVar 2) (dACons (dApp fLen (dACons (dVar 1) dANil)) dANil))) (dN 7) B0) (dRet (dApp fLen (dACons (dVar 1) dANil))))))) [some (.d (eb b)), some (.d (.list (cs.map eb))), I k, none, none, none, none, none, none] = some o := fun e => e
  have hr : dR2 (dACons (dVar 2) (dACons (dApp fLen (dACons (dVar 1) dANil)) dANil)) (st none none) = some ((rng k ((cs.length : Int) - k).toNat).map PyData.int, st none none) := r2_eq (m := k) (n := cs.length) (by
    show some ([Ar.d (.int k), Ar.d (.int ((cs.map eb).length : Nat))], st none none) = _
    rw [List.length_map]) (by omega) (by omega) (by omega) (by omega)
  unfold m_next_meeting nxtI
  cases hf : (rng k ((cs.length : Int) - k).toNat).find? fun i => mtB b (cs.getD i.toNat bx0) with
  | some i =>
    rw [hf] at lp
    obtain ⟨τ2, e, o, p, ho, hp, rfl⟩ := lp
    exact ⟨_, fun_rt (τ := st o p) (pre (seq_rt ((for_eq hr).trans e))) rfl rfl⟩
  | none =>
    rw [hf] at lp
    obtain ⟨τ2, e, o, p, ho, hp, rfl⟩ := lp
    refine ⟨_, fun_rt (τ := st o p) (pre ((seq_nx ((for_eq hr).trans e)).trans ?_)) rfl rfl⟩
    show some (Out.rt (.int ((cs.map eb).length : Nat)) (st o p)) = _
    rw [List.length_map]
def eachL (bs : List Bx) (c : Bx) : List Bx := bs.flatMap fun b => lessB b c
def allL (b : Bx) (cs : List Bx) : List Bx := cs.foldl eachL [b]
theorem fold_flat : ∀ (cs bs : List Bx), cs.foldl eachL bs = bs.flatMap fun b => allL b cs
  | [], bs => by
    show bs = bs.flatMap fun b => [b]
    induction bs with
    | nil => rfl
    | cons b bs ih => rw [List.flatMap_cons, ← ih]; rfl
  | c :: cs, bs => by
    rw [List.foldl_cons, fold_flat cs]
    unfold eachL
    rw [List.flatMap_assoc]
    congr 1
    funext b
    show ((lessB b c).flatMap fun b => allL b cs) = cs.foldl eachL (eachL [b] c)
    rw [fold_flat cs]
    unfold eachL
    simp
theorem allL_cons {b c : Bx} {cs : List Bx} : allL b (c :: cs) = (lessB b c).flatMap fun p => allL p cs := by
  show cs.foldl eachL (eachL [b] c) = _
  rw [fold_flat]
  unfold eachL
  simp
theorem allL_skip {b c : Bx} {cs : List Bx} (h : hasB (meetB b c) = false) : allL b (c :: cs) = allL b cs := by
  rw [allL_cons]
  unfold lessB
  rw [h]
  simp
def posB (b : Bx) : Prop := 0 < b.w ∧ 0 < b.h
theorem lessB_pos {b c : Bx} (hb : posB b) : ∀ p ∈ lessB b c, posB p := by
  intro p hp
  unfold lessB at hp
  split at hp
  · unfold less4 at hp
    exact hasB_iff.mp (List.mem_filter.mp hp).2
  · rw [List.mem_singleton.mp hp]; exact hb
theorem lessB_len (b c : Bx) : (lessB b c).length ≤ 4 := by
  unfold lessB
  split
  · unfold less4
    exact Nat.le_trans (List.length_filter_le _ _) (by simp)
  · simp
theorem nxt_spec {b : Bx} {cs : List Bx} (hb : posB b) (hc : ∀ c ∈ cs, posB c) : ∀ {m k : Nat}, cs.length - k = m → k ≤ cs.length → ∃ j : Nat, nxtI b cs k = j ∧ k ≤ j ∧ j ≤ cs.length ∧ allL b (cs.drop k) = allL b (cs.drop j) ∧ (j < cs.length → hasB (meetB b (cs.getD j bx0)) = true)
  | 0, k, e, hk => by
    have ek : k = cs.length := by omega
    subst ek
    refine ⟨cs.length, ?_, Nat.le_refl _, Nat.le_refl _, rfl, fun h => absurd h (Nat.lt_irrefl _)⟩
    unfold nxtI
    rw [show ((cs.length : Int) - (cs.length : Nat)).toNat = 0 by omega]; rfl
  | m + 1, k, e, hk => by
    have hlt : k < cs.length := by omega
    have em : ((cs.length : Int) - (k : Nat)).toNat = m + 1 := by omega
    have em' : ((cs.length : Int) - ((k + 1 : Nat) : Int)).toNat = m := by omega
    have er : rng (k : Int) (m + 1) = (k : Int) :: rng ((k + 1 : Nat) : Int) m := by
      unfold rng
      rw [List.range_succ_eq_map, List.map_cons, List.map_map]
      refine List.cons_eq_cons.mpr ⟨by simp, List.map_congr_left fun i _ => ?_⟩
      show (k : Int) + ((i + 1 : Nat) : Int) = ((k + 1 : Nat) : Int) + (i : Int)
      omega
    have gk : cs.getD k bx0 = cs[k] := by rw [List.getD_eq_getElem?_getD, List.getElem?_eq_getElem hlt]; rfl
    have pk : posB cs[k] := hc _ (List.getElem_mem hlt)
    have me := mtB_eq hb pk
    have dr : cs.drop k = cs[k] :: cs.drop (k + 1) := List.drop_eq_getElem_cons hlt
    cases hm : mtB b cs[k] with
    | true =>
      refine ⟨k, ?_, Nat.le_refl _, by omega, rfl, fun _ => by rw [gk, ← me]; exact hm⟩
      unfold nxtI
      rw [em, er, List.find?_cons]
      have : mtB b (cs.getD (k : Int).toNat bx0) = true := by rw [Int.toNat_natCast, gk]; exact hm
      rw [this]
    | false =>
      obtain ⟨j, e1, e2, e3, e4, e5⟩ := nxt_spec hb hc (m := m) (k := k + 1) (by omega) (by omega)
      refine ⟨j, ?_, by omega, e3, ?_, e5⟩
      · rw [← e1]
        unfold nxtI
        rw [em, er, List.find?_cons, em']
        have : mtB b (cs.getD (k : Int).toNat bx0) = false := by rw [Int.toNat_natCast, gk]; exact hm
        rw [this]
      · rw [dr, allL_skip (by rw [← me]; exact hm), e4]
def wgt : Nat → Nat
  | 0 => 1
  | n + 1 => 1 + 4 * wgt n
theorem wgt_mono : ∀ {m n : Nat}, m ≤ n → wgt m ≤ wgt n
  | 0, 0, _ => Nat.le_refl _
  | 0, n + 1, _ => by show 1 ≤ 1 + 4 * wgt n; omega
  | m + 1, 0, h => absurd h (by omega)
  | m + 1, n + 1, h => by
    have := wgt_mono (m := m) (n := n) (by omega)
    show 1 + 4 * wgt m ≤ 1 + 4 * wgt n; omega
abbrev Wt := List (Bx × Nat)
def ew (e : Bx × Nat) : PyData := .tuple [eb e.1, .int e.2]
def sumW (n : Nat) (wt : Wt) : Nat := (wt.map fun e => wgt (n - e.2)).sum
def outW (cs : List Bx) (wt : Wt) : List Bx := wt.reverse.flatMap fun e => allL e.1 (cs.drop e.2)
theorem apndS {i : Nat} {a : DA} {τ τ1 : DS} {rs : List Ar} {d : PyData} {xs : List PyData} (h : a τ = some (rs, τ1)) (k : allD rs = some [d]) (m : τ1[i]? = some (some (.m xs))) (hz : xs.length < 100000) : dExpr (dMt i gAppend a) τ = some (.nx (τ1.set i (some (.m (xs ++ [d]))))) := by
  have hs : xs.length < sizeLine := Nat.lt_of_lt_of_le hz (by decide)
  unfold dExpr dMt
  rw [h]
  show (((allD rs).bind _)).map _ = _
  rw [k]
  show ((match τ1[i]? with | some (some (.m xs)) => _ | _ => _) : Option (PyData × DS)).map _ = _
  rw [m]
  show ((if xs.length < sizeLine then some (PyData.none, xs ++ [d]) else none).map _).map _ = _
  rw [if_pos hs]
  rfl
def wcond : DT := dTBor 3 (dTest (dOp fGt (dApp fLen (dACons (dVar 3) dANil)) (dC (.int 0))))
def wbody : DB := dSeq (dAsg (dMt 3 gPop dANil) (dN 4)) (dSeq (dAsg (dCall m_next_meeting (dACons (dOp fIxT (dVar 4) (dC (.int 0))) (dACons (dVar 1) (dACons (dOp fIxT (dVar 4) (dC (.int 1))) dANil)))) (dN 5)) (dIfS (dTest (dOp fEq (dVar 5) (dApp fLen (dACons (dVar 1) dANil)))) (dExpr (dMt 2 gAppend (dACons (dOp fIxT (dVar 4) (dC (.int 0))) dANil))) (dFor (dIV (dCall m_box_less (dACons (dOp fIxT (dVar 4) (dC (.int 0))) (dACons (dOp fIxL (dVar 1) (dVar 5)) dANil)))) (dN 6) (dExpr (dMt 3 gAppend (dACons (dTup (dACons (dVar 6) (dACons (dOp fAdd (dVar 5) (dC (.int 1))) dANil))) dANil))))))
theorem fix_eb (l : List Bx) : fixDs (l.map eb) = true := encB.fixL l
theorem sumW_snoc {n : Nat} {wt : Wt} {e : Bx × Nat} : sumW n (wt ++ [e]) = sumW n wt + wgt (n - e.2) := by
  unfold sumW
  rw [List.map_append, List.sum_append]; simp
theorem wgt_pos (n : Nat) : 1 ≤ wgt n := by cases n <;> (unfold wgt; omega)
theorem sumW_len (n : Nat) : ∀ (wt : Wt), wt.length ≤ sumW n wt
  | [] => Nat.zero_le _
  | e :: wt => by
    have := sumW_len n wt
    have := wgt_pos (n - e.2)
    unfold sumW at *
    rw [List.map_cons, List.sum_cons, List.length_cons]; omega
theorem push_eq {cs : List Bx} {b0 : Bx} {rest : List Bx} {d4 : PyData} {j : Int} : ∀ {ps : List Bx} {wt : Wt} {o : Option L}, nM o → 0 ≤ j → wt.length + ps.length < 90000 → ∃ o', nM o' ∧ dLoop (dN 6) (dExpr (dMt 3 gAppend (dACons (dTup (dACons (dVar 6) (dACons (dOp fAdd (dVar 5) (dC (.int 1))) dANil))) dANil))) (ps.map eb) [some (.d (eb b0)), some (.d (.list (cs.map eb))), some (.m (rest.map eb)), some (.m (wt.map ew)), some (.d d4), some (.d (.int j)), o] = some (.nx [some (.d (eb b0)), some (.d (.list (cs.map eb))), some (.m (rest.map eb)), some (.m ((wt ++ ps.map fun p => (p, (j + 1).toNat)).map ew)), some (.d d4), some (.d (.int j)), o'])
  | [], wt, o, ho, _, _ => ⟨o, ho, by rw [List.map_nil, List.map_nil, List.append_nil]; rfl⟩
  | p :: ps, wt, o, ho, hj, hl => by
    rw [List.length_cons] at hl
    let st : Wt → Option L → DS := fun w o => [some (.d (eb b0)), some (.d (.list (cs.map eb))), some (.m (rest.map eb)), some (.m (w.map ew)), some (.d d4), some (.d (.int j)), o]
    obtain ⟨o', ho', e⟩ := push_eq (cs := cs) (b0 := b0) (rest := rest) (d4 := d4) (j := j) (ps := ps) (wt := wt ++ [(p, (j + 1).toNat)]) (o := some (.d (eb p))) nM_d hj (by rw [List.length_append, List.length_singleton]; omega)
    refine ⟨o', ho', ?_⟩
    have a := apndS (i := 3) (a := dACons (dTup (dACons (dVar 6) (dACons (dOp fAdd (dVar 5) (dC (.int 1))) dANil))) dANil) (d := .tuple [eb p, .int (j + 1)]) (τ := st wt (some (.d (eb p)))) (τ1 := st wt (some (.d (eb p)))) (xs := wt.map ew) rfl rfl rfl (by rw [List.length_map]; omega)
    have ee : ew (p, (j + 1).toNat) = .tuple [eb p, .int (j + 1)] := by
      show PyData.tuple [eb p, .int (((j + 1).toNat : Nat) : Int)] = _
      rw [Int.toNat_of_nonneg (by omega)]
    have em : (wt ++ [(p, (j + 1).toNat)]).map ew = wt.map ew ++ [.tuple [eb p, .int (j + 1)]] := by rw [List.map_append, ← ee]; rfl
    rw [List.map_cons, dLoop, show dN 6 (eb p) [some (.d (eb b0)), some (.d (.list (cs.map eb))), some (.m (rest.map eb)), some (.m (wt.map ew)), some (.d d4), some (.d (.int j)), o] = some (st wt (some (.d (eb p)))) from dN_eq rfl ho]
    show ((dExpr _ (st wt (some (.d (eb p))))).bind _) = _
    rw [a]
    show dLoop _ _ (ps.map eb) [some (.d (eb b0)), some (.d (.list (cs.map eb))), some (.m (rest.map eb)), some (.m (wt.map ew ++ [.tuple [eb p, .int (j + 1)]])), some (.d d4), some (.d (.int j)), some (.d (eb p))] = _
    rw [← em, e, List.map_cons, List.append_assoc]; rfl
theorem flat_rev {cs : List Bx} {ps : List Bx} {wt : Wt} {k : Nat} : outW cs (wt ++ ps.reverse.map fun p => (p, k)) = (ps.flatMap fun p => allL p (cs.drop k)) ++ outW cs wt := by
  unfold outW
  rw [List.reverse_append, List.flatMap_append, ← List.map_reverse, List.reverse_reverse, List.flatMap_map]
theorem sumW_push {n : Nat} {ps : List Bx} {wt : Wt} {k : Nat} : sumW n (wt ++ ps.map fun p => (p, k)) = sumW n wt + ps.length * wgt (n - k) := by
  unfold sumW
  rw [List.map_append, List.sum_append, List.map_map]
  congr 1
  induction ps with
  | nil => simp
  | cons p ps ih => rw [List.map_cons, List.sum_cons, ih, List.length_cons, Nat.succ_mul, Nat.add_comm]; rfl
theorem stack_eq {b0 : Bx} {cs : List Bx} (hc : ∀ c ∈ cs, posB c) (hcl : cs.length ≤ 6) : ∀ (n : Nat) (wt : Wt) (rest : List Bx) (o4 o5 o6 : Option L), nM o4 → nM o5 → nM o6 → sumW cs.length wt < n → (∀ e ∈ wt, posB e.1 ∧ e.2 ≤ cs.length) → rest.length + sumW cs.length wt ≤ 80000 →
    ∃ q4 q5 q6, nM q4 ∧ nM q5 ∧ nM q6 ∧ dWh wcond wbody n [some (.d (eb b0)), some (.d (.list (cs.map eb))), some (.m (rest.map eb)), some (.m (wt.map ew)), o4, o5, o6] = some (.nx [some (.d (eb b0)), some (.d (.list (cs.map eb))), some (.m ((rest ++ outW cs wt).map eb)), some (.m []), q4, q5, q6])
  | 0, _, _, _, _, _, _, _, _, h, _, _ => absurd h (Nat.not_lt_zero _)
  | n + 1, wt, rest, o4, o5, o6, n4, n5, n6, hs, hp, hr => by
    let st : List Bx → Wt → Option L → Option L → Option L → DS := fun r w a b c => [some (.d (eb b0)), some (.d (.list (cs.map eb))), some (.m (r.map eb)), some (.m (w.map ew)), a, b, c]
    have ok : (([some (.d (eb b0)), some (.d (.list (cs.map eb))), some (.m (rest.map eb)), some (.d (.list (wt.map ew))), o4, o5, o6] : DS)).all okM = true := by
      show (true && (true && (fixDs (rest.map eb) && (true && (okM o4 && (okM o5 && (okM o6 && true))))))) = true
      rw [fix_eb, okM_n n4, okM_n n5, okM_n n6]; rfl
    have tc : wcond (st rest wt o4 o5 o6) = some (decide ((wt.length : Int) > 0), st rest wt o4 o5 o6) := by
      refine tbor_eq (i := 3) (xs := wt.map ew) rfl (τ1 := [some (.d (eb b0)), some (.d (.list (cs.map eb))), some (.m (rest.map eb)), some (.d (.list (wt.map ew))), o4, o5, o6]) ?_ ok
      show some (decide ((((wt.map ew).length : Nat) : Int) > 0), _) = _
      rw [List.length_map]; rfl
    unfold dWh
    rw [show wcond [some (.d (eb b0)), some (.d (.list (cs.map eb))), some (.m (rest.map eb)), some (.m (wt.map ew)), o4, o5, o6] = some (decide ((wt.length : Int) > 0), st rest wt o4 o5 o6) from tc]
    rcases List.eq_nil_or_concat wt with rfl | ⟨ws, ⟨b, k⟩, rfl⟩
    · exact ⟨o4, o5, o6, n4, n5, n6, by
        rw [show outW cs [] = [] from rfl, List.append_nil]; rfl⟩
    · rw [List.concat_eq_append] at hs hp hr ok tc ⊢
      have hpos : decide ((((ws ++ [(b, k)]).length : Nat) : Int) > 0) = true := decide_eq_true (by rw [List.length_append, List.length_singleton]; omega)
      rw [hpos]
      have hbk := hp (b, k) (by simp)
      obtain ⟨pb, hk⟩ := hbk
      have pb : posB b := pb
      have hk : k ≤ cs.length := hk
      rw [sumW_snoc] at hs hr
      dsimp only at hs hr
      have hw1 := wgt_pos (cs.length - k)
      have hwl := sumW_len cs.length ws
      obtain ⟨j, ej, kj, jl, ea, em⟩ := nxt_spec pb hc (m := cs.length - k) rfl hk
      obtain ⟨ls, en⟩ := next_meeting_eq (b := b) (cs := cs) (k := (k : Int)) (by omega) (by omega) (by omega)
      rw [ej] at en
      let W : Option L := some (.d (ew (b, k)))
      let J : Option L := some (.d (.int j))
      have s1 : dAsg (dMt 3 gPop dANil) (dN 4) (st rest (ws ++ [(b, k)]) o4 o5 o6) = some (.nx (st rest ws W o5 o6)) := by
        refine asg_nx (d := ew (b, k)) (τ1 := st rest ws o4 o5 o6) ?_ (dN_eq rfl n4)
        show ((gPop ((ws ++ [(b, k)]).map ew) []).map fun q => (q.1, (st rest (ws ++ [(b, k)]) o4 o5 o6).set 3 (some (.m q.2)))) = _
        have : gPop ((ws ++ [(b, k)]).map ew) [] = some (ew (b, k), ws.map ew) := by
          unfold gPop
          rw [List.map_append]
          simp
        rw [this]; rfl
      have s2 : dAsg (dCall m_next_meeting (dACons (dOp fIxT (dVar 4) (dC (.int 0))) (dACons (dVar 1) (dACons (dOp fIxT (dVar 4) (dC (.int 1))) dANil)))) (dN 5) (st rest ws W o5 o6) = some (.nx (st rest ws W J o6)) :=
        asg_nx (call_eq (τ1 := st rest ws W o5 o6) (rs := [.d (eb b), .d (.list (cs.map eb)), .d (.int k)]) (ds := [eb b, .list (cs.map eb), .int k]) rfl rfl en) (dN_eq rfl n5)
      have t3 : dTest (dOp fEq (dVar 5) (dApp fLen (dACons (dVar 1) dANil))) (st rest ws W J o6) = some (decide ((j : Int) = (cs.length : Int)), st rest ws W J o6) := by
        refine tst (op2 (x := .int j) (y := .int (cs.length : Int)) rfl ?_ (encI.fEq _ _))
        show some (PyData.int (((cs.map eb).length : Nat) : Int), _) = _
        rw [List.length_map]
      by_cases hj : j = cs.length
      · -- nothing is met
        rw [decide_eq_true (by omega)] at t3
        have ea' : allL b (cs.drop k) = [b] := by rw [ea, hj, List.drop_length]; rfl
        have s3 := apndS (i := 2) (a := dACons (dOp fIxT (dVar 4) (dC (.int 0))) dANil) (d := eb b) (τ := st rest ws W J o6) (τ1 := st rest ws W J o6) (xs := rest.map eb) rfl rfl rfl (by rw [List.length_map]; omega)
        have sb : wbody (st rest (ws ++ [(b, k)]) o4 o5 o6) = some (.nx (st (rest ++ [b]) ws W J o6)) := by
          refine (seq_nx s1).trans ((seq_nx s2).trans ((ifs_t t3).trans ?_))
          rw [s3]
          show some (Out.nx [_, _, some (.m (rest.map eb ++ [eb b])), _, _, _, _]) = some (Out.nx (st (rest ++ [b]) ws W J o6))
          rw [show rest.map eb ++ [eb b] = (rest ++ [b]).map eb from by rw [List.map_append]; rfl]
        obtain ⟨q4, q5, q6, m4, m5, m6, e⟩ := stack_eq (b0 := b0) hc hcl n ws (rest ++ [b]) W J o6 nM_d nM_d n6 (by omega) (fun e he => hp e (by simp [he])) (by rw [List.length_append, List.length_singleton]; omega)
        refine ⟨q4, q5, q6, m4, m5, m6, ?_⟩
        have eo : outW cs (ws ++ [(b, k)]) = [b] ++ outW cs ws := by
          unfold outW
          rw [List.reverse_append, List.flatMap_append]
          show ((allL b (cs.drop k)) ++ []) ++ _ = _
          rw [ea', List.append_nil]
        rw [eo, ← List.append_assoc]
        show ((wbody (st rest (ws ++ [(b, k)]) o4 o5 o6)).bind _) = _
        rw [sb]
        exact e
      · rw [decide_eq_false (by omega)] at t3
        have jlt : j < cs.length := by omega
        let c := cs.getD j bx0
        have gj : c = cs[j] := by show cs.getD j bx0 = _; rw [List.getD_eq_getElem?_getD, List.getElem?_eq_getElem jlt]; rfl
        have hm := em jlt
        have dr : cs.drop j = c :: cs.drop (j + 1) := by rw [gj]; exact List.drop_eq_getElem_cons jlt
        have ec' : fIxL (.list (cs.map eb)) (.int j) = some (eb c) := by
          show atI (cs.map eb) (j : Int) = _
          unfold atI ixN
          rw [List.length_map, if_pos (by omega), if_pos (by omega), Int.toNat_natCast]
          show (cs.map eb)[j]? = _
          rw [List.getElem?_map, List.getElem?_eq_getElem jlt, gj]; rfl
        have le := lessB_len b c
        have it : dIV (dCall m_box_less (dACons (dOp fIxT (dVar 4) (dC (.int 0))) (dACons (dOp fIxL (dVar 1) (dVar 5)) dANil))) (st rest ws W J o6) = some ((lessB b c).reverse.map eb, st rest ws W J o6) := by
          unfold dIV
          rw [call_eq (τ1 := st rest ws W J o6) (rs := [.d (eb b), .d (eb c)]) (ds := [eb b, eb c]) (acc rfl (acc (op2 (x := .list (cs.map eb)) (y := .int j) rfl rfl ec') rfl)) rfl (box_less_eq b c pb.1)]
          show some (((lessB b c).map eb).reverse, _) = _
          rw [List.map_reverse]
        obtain ⟨o', ho', ep⟩ := push_eq (cs := cs) (b0 := b0) (rest := rest) (d4 := ew (b, k)) (j := (j : Int)) (ps := (lessB b c).reverse) (wt := ws) (o := o6) n6 (by omega) (by rw [List.length_reverse]; omega)
        let ws' := ws ++ (lessB b c).reverse.map fun p => (p, j + 1)
        have ej1 : ((j : Int) + 1).toNat = j + 1 := by omega
        rw [ej1] at ep
        have sb : wbody (st rest (ws ++ [(b, k)]) o4 o5 o6) = some (.nx (st rest ws' W J o')) :=
          (seq_nx s1).trans ((seq_nx s2).trans ((ifs_f t3).trans ((for_eq it).trans ep)))
        have sw' : sumW cs.length ws' = sumW cs.length ws + (lessB b c).length * wgt (cs.length - (j + 1)) := by
          show sumW cs.length (ws ++ (lessB b c).reverse.map fun p => (p, j + 1)) = _
          rw [sumW_push, List.length_reverse]
        have wk : 1 + 4 * wgt (cs.length - (j + 1)) ≤ wgt (cs.length - k) := by
          have := wgt_mono (m := cs.length - (j + 1) + 1) (n := cs.length - k) (by omega)
          exact this
        have wl : (lessB b c).length * wgt (cs.length - (j + 1)) ≤ 4 * wgt (cs.length - (j + 1)) := Nat.mul_le_mul_right _ le
        obtain ⟨q4, q5, q6, m4, m5, m6, e⟩ := stack_eq (b0 := b0) hc hcl n ws' rest W J o' nM_d nM_d ho' (by omega) (fun e he => by
          rcases List.mem_append.mp he with z | z
          · exact hp e (by simp [z])
          · obtain ⟨p, hp', rfl⟩ := List.mem_map.mp z
            exact ⟨lessB_pos pb p (List.mem_reverse.mp hp'), by show j + 1 ≤ cs.length; omega⟩) (by omega)
        refine ⟨q4, q5, q6, m4, m5, m6, ?_⟩
        have eo : outW cs (ws ++ [(b, k)]) = outW cs ws' := by
          rw [show outW cs ws' = ((lessB b c).flatMap fun p => allL p (cs.drop (j + 1))) ++ outW cs ws from flat_rev, ← allL_cons, ← dr, ← ea]
          unfold outW
          rw [List.reverse_append, List.flatMap_append]
          show ((allL b (cs.drop k)) ++ []) ++ _ = _
          rw [List.append_nil]
        rw [eo]
        show ((wbody (st rest (ws ++ [(b, k)]) o4 o5 o6)).bind _) = _
        rw [sb]
        exact e
theorem box_less_all_eq {b : Bx} {cs : List Bx} (hb : posB b) (hc : ∀ c ∈ cs, posB c) (hcl : cs.length ≤ 6) : m_box_less_all [.d (eb b), .d (.list (cs.map eb))] = some (.list ((allL b cs).map eb), [.d (eb b), .d (.list (cs.map eb))]) := by
  let st : List Bx → Wt → Option L → Option L → Option L → DS := fun r w x y z => [some (.d (eb b)), some (.d (.list (cs.map eb))), some (.m (r.map eb)), some (.m (w.map ew)), x, y, z]
  have hw : sumW cs.length [(b, 0)] = wgt cs.length := by unfold sumW; simp
  have h6 : wgt cs.length ≤ 5461 := Nat.le_trans (wgt_mono hcl) (by decide)
  obtain ⟨q4, q5, q6, m4, m5, m6, e⟩ := stack_eq (b0 := b) hc hcl 100000 [(b, 0)] [] none none none nM_none nM_none nM_none (by rw [hw]; omega) (fun e he => by rw [List.mem_singleton.mp he]; exact ⟨hb, Nat.zero_le _⟩) (by rw [hw, List.length_nil]; omega)
  have eo : outW cs [(b, 0)] = allL b cs := by
    unfold outW
    show allL b (cs.drop 0) ++ [] = _
    rw [List.append_nil, List.drop_zero]
  rw [eo, List.nil_append] at e
  unfold m_box_less_all
  refine fun_rt (τ := st (allL b cs) [] q4 q5 q6) ?_ rfl rfl
  refine (seq_nx (τ1 := [some (.d (eb b)), some (.d (.list (cs.map eb))), some (.m []), none, none, none, none]) rfl).trans ?_
  refine (seq_nx (τ1 := st [] [(b, 0)] none none none) rfl).trans ?_
  exact (seq_nx e).trans rfl
theorem lessB_sub {b c q : Bx} (hb : posB b) (hc : posB c) (hq : q ∈ lessB b c) : ∀ x, inB q x → inB b x := by
  unfold lessB at hq
  split at hq
  · rename_i hm
    unfold less4 at hq
    obtain ⟨s, hs, rfl⟩ := List.mem_map.mp (List.mem_filter.mp hq).1
    intro x hx
    have := (part_in (p := x) hb hc hm (by simpa using hs)).mpr hx
    exact this.1.1
  · rw [List.mem_singleton.mp hq]; exact fun _ h => h
theorem meet_none {p b c : Bx} (sub : ∀ x, inB p x → inB b x) (h : hasB (meetB b c) = false) : hasB (meetB p c) = false := by
  cases e : hasB (meetB p c) with
  | false => rfl
  | true =>
    exfalso
    obtain ⟨x, hx⟩ := List.exists_mem_of_ne_nil _ (hasB_cells.mp e)
    have hx := meet_in.mp (mem_cells.mp hx)
    have : cells (meetB b c) ≠ [] := List.ne_nil_of_mem (mem_cells.mpr (meet_in.mpr ⟨sub x hx.1, hx.2⟩))
    rw [hasB_cells.mpr this] at h
    cases h
theorem allL_filter {b : Bx} : ∀ {cs : List Bx} {p : Bx}, posB p → (∀ x, inB p x → inB b x) → (∀ c ∈ cs, posB c) → allL p (cs.filter fun c => hasB (meetB b c)) = allL p cs
  | [], _, _, _, _ => rfl
  | c :: cs, p, hp, sub, hc => by
    have pc := hc c List.mem_cons_self
    rw [List.filter_cons]
    cases e : hasB (meetB b c) with
    | true =>
      rw [if_pos rfl, allL_cons, allL_cons]
      have : ∀ q ∈ lessB p c, allL q (cs.filter fun c => hasB (meetB b c)) = allL q cs := fun q hq => allL_filter (lessB_pos hp q hq) (fun x hx => sub x (lessB_sub hp pc hq x hx)) fun c h => hc c (List.mem_cons_of_mem _ h)
      rw [List.flatMap_def, List.flatMap_def, List.map_congr_left this]
    | false =>
      rw [if_neg Bool.false_ne_true, allL_skip (meet_none sub e)]
      exact allL_filter hp sub fun c h => hc c (List.mem_cons_of_mem _ h)
theorem eachL_len (bs : List Bx) (c : Bx) : (eachL bs c).length ≤ 4 * bs.length := by
  unfold eachL
  induction bs with
  | nil => simp
  | cons b bs ih =>
    rw [List.flatMap_cons, List.length_append, List.length_cons]
    have := lessB_len b c
    omega
theorem allL_len : ∀ (cs bs : List Bx), (cs.foldl eachL bs).length ≤ 4 ^ cs.length * bs.length
  | [], bs => by simp
  | c :: cs, bs => by
    rw [List.foldl_cons, List.length_cons]
    refine Nat.le_trans (allL_len cs (eachL bs c)) ?_
    have := eachL_len bs c
    rw [Nat.pow_succ, Nat.mul_assoc]
    exact Nat.mul_le_mul_left _ this
theorem extS {i : Nat} {a : DA} {τ τ1 : DS} {rs : List Ar} {xs ys : List PyData} (h : a τ = some (rs, τ1)) (k : allD rs = some [.list ys]) (m : τ1[i]? = some (some (.m xs))) (hz : xs.length + ys.length ≤ 100000) : dExpr (dMt i gExtend a) τ = some (.nx (τ1.set i (some (.m (xs ++ ys))))) := by
  have hs : xs.length + ys.length ≤ sizeLine := Nat.le_trans hz (by decide)
  unfold dExpr dMt
  rw [h]
  show (((allD rs).bind _)).map _ = _
  rw [k]
  show ((match τ1[i]? with | some (some (.m xs)) => _ | _ => _) : Option (PyData × DS)).map _ = _
  rw [m]
  show ((if xs.length + ys.length ≤ sizeLine then some (PyData.none, xs ++ ys) else none).map _).map _ = _
  rw [if_pos hs]
  rfl
theorem pow4 {n : Nat} (h : n ≤ 6) : 4 ^ n ≤ 4096 := Nat.pow_le_pow_right (by decide) h
def partK (bs : List Bx) (k : Nat) : List Bx := allL (bs.getD k bx0) (bs.take k)
def partedL (bs : List Bx) : List Bx := (List.range bs.length).flatMap (partK bs)
def encP (bs : List Bx) (k : Nat) : PyData := .tuple [.int (k : Int), eb (bs.getD k bx0)]
theorem enumD_map : ∀ (k : Nat) (ds : List PyData) (f : Nat → PyData), (∀ i (h : i < ds.length), f (k + i) = .tuple [.int ((k + i : Nat) : Int), ds[i]]) → enumD k ds = (List.range ds.length).map fun i => f (k + i)
  | k, [], f, _ => rfl
  | k, d :: r, f, h => by
    rw [enumD, List.length_cons, List.range_succ_eq_map, List.map_cons, List.map_map]
    congr 1
    · have := h 0 (by simp)
      rw [this]; rfl
    · rw [enumD_map (k + 1) r f (fun i hi => by
        have := h (i + 1) (by simpa using hi)
        rw [show k + (i + 1) = k + 1 + i by omega] at this
        rw [this]; rfl)]
      refine List.map_congr_left fun i _ => ?_
      show f (k + 1 + i) = f (k + (i + 1))
      congr 1; omega
theorem enum_boxes (bs : List Bx) : enumD 0 (bs.map eb) = (List.range bs.length).map (encP bs) := by
  have := enumD_map 0 (bs.map eb) (encP bs) (fun i hi => by
    rw [List.length_map] at hi
    unfold encP
    rw [List.getD_eq_getElem?_getD, List.getElem?_eq_getElem (by omega)]
    simp)
  rw [this, List.length_map]
  refine List.map_congr_left fun i _ => ?_
  rw [Nat.zero_add]
theorem cut_take (bs : List Bx) (k : Nat) (hk : k ≤ bs.length) : cutD (bs.map eb) none (some (k : Int)) = (bs.take k).map eb := by
  unfold cutD
  rw [HT.sIx_none, HT.sIx_nat, List.length_map, List.drop_zero, Nat.sub_zero, ← List.map_take]
  congr 2
  omega
theorem partK_len (bs : List Bx) (hz : bs.length ≤ 6) (k : Nat) : (partK bs k).length ≤ 4096 := by
  have h1 : (partK bs k).length ≤ 4 ^ (bs.take k).length * 1 := allL_len (bs.take k) [bs.getD k bx0]
  have h2 := pow4 (n := (bs.take k).length) (by rw [List.length_take]; omega)
  omega
theorem parts_len (bs : List Bx) (hz : bs.length ≤ 6) : ∀ (pre : List Nat), (pre.flatMap (partK bs)).length ≤ 4096 * pre.length
  | [] => by simp
  | k :: pre => by
    rw [List.flatMap_cons, List.length_append, List.length_cons]
    have := parts_len bs hz pre
    have := partK_len bs hz k
    omega
theorem near_eq {bs : List Bx} {b : Bx} {τ : DS} {cs : List Bx} (hit : dIL (dSl (dVar 0) dNoP (dPt (dVar 2))) τ = some (cs.map eb, τ)) (h3 : τ[3]? = some (some (.d (eb b)))) (hz : cs.length ≤ 6) : dLC 1 [3] (dIL (dSl (dVar 0) dNoP (dPt (dVar 2)))) (dN 0) (dTest (dOp fNotN (dCall m_box_meet (dACons (dVar 1) (dACons (dVar 0) dANil))) (dC .none))) (dVar 0) τ = some (.list ((cs.filter fun c => hasB (meetB b c)).map eb), τ) := by
  let B : Option L := some (.d (eb b))
  have hb : blkD 1 [3] τ = [none, B] := by
    unfold blkD
    show [none, (τ[3]?).join] = _
    rw [h3]; rfl
  obtain ⟨τ', e⟩ := lc_list (enc := eb) (g := dN 0) (c := dTest (dOp fNotN (dCall m_box_meet (dACons (dVar 1) (dACons (dVar 0) dANil))) (dC .none))) (e := dVar 0) (fun τ => ∃ o, nM o ∧ τ = [o, B]) (fun c => hasB (meetB b c)) eb (xs := cs) (acc := []) (τ := [none, B]) ⟨none, nM_none, rfl⟩ (by
    rintro c τ _ ⟨o, ho, rfl⟩
    let C : Option L := some (.d (eb c))
    have e2 : dTest (dOp fNotN (dCall m_box_meet (dACons (dVar 1) (dACons (dVar 0) dANil))) (dC .none)) [C, B] = some (hasB (meetB b c), [C, B]) := by
      refine tst (op2 (x := if hasB (meetB b c) then eb (meetB b c) else .none) (y := .none) (τ1 := [C, B]) (call_eq (rs := [.d (eb b), .d (eb c)]) (ds := [eb b, eb c]) (τ1 := [C, B]) rfl rfl (box_meet_eq b c)) rfl ?_)
      cases hasB (meetB b c) <;> rfl
    exact ⟨[C, B], [C, B], dN_eq (o := o) rfl ho, e2, fun _ => ⟨C, nM_d, rfl⟩, fun _ => ⟨[C, B], rfl, C, nM_d, rfl⟩⟩)
  rw [← hb] at e
  refine dlc_eq (ds := cs.map eb) hit (sz (by rw [List.length_map]; omega)) ?_ e
  show (!(isM τ 3) && true) = true
  have : isM τ 3 = false := by
    unfold isM
    rw [h3]
  rw [this]; rfl
theorem boxes_parted_eq {bs : List Bx} (hp : ∀ b ∈ bs, posB b) (hz : bs.length ≤ 6) : m_boxes_parted [.d (.list (bs.map eb))] = some (.list ((partedL bs).map eb), [.d (.list (bs.map eb))]) := by
  let st : List Bx → Option L → Option L → Option L → DS := fun acc a b c => [some (.d (.list (bs.map eb))), some (.m (acc.map eb)), a, b, c]
  let B1 : DB := dSeq (dAsg (dLC 1 [3] (dIL (dSl (dVar 0) dNoP (dPt (dVar 2)))) (dN 0) (dTest (dOp fNotN (dCall m_box_meet (dACons (dVar 1) (dACons (dVar 0) dANil))) (dC .none))) (dVar 0)) (dN 4)) (dExpr (dMt 1 gExtend (dACons (dCall m_box_less_all (dACons (dVar 3) (dACons (dVar 4) dANil))) dANil)))
  have key : ∃ τ', dLoop (dGT (dGCons (dN 2) (dGCons (dN 3) dGNil))) B1 ((List.range bs.length).map (encP bs)) (st [] none none none) = some (.nx τ') ∧ ∃ o2 o3 o4, nM o2 ∧ nM o3 ∧ nM o4 ∧ τ' = st (partedL bs) o2 o3 o4 := by
    refine loop_pre (fun (pre : List Nat) τ => ∃ o2 o3 o4, nM o2 ∧ nM o3 ∧ nM o4 ∧ τ = st (pre.flatMap (partK bs)) o2 o3 o4) ⟨none, none, none, nM_none, nM_none, nM_none, rfl⟩ ?_
    rintro pre k post τ hpp ⟨o2, o3, o4, n2, n3, n4, rfl⟩
    have hk : k < bs.length := List.mem_range.mp (split_mem hpp)
    have hl := split_len hpp
    rw [List.length_range] at hl
    have h1 := parts_len bs hz pre
    have h2 := partK_len bs hz k
    have ct := cut_take bs k (by omega)
    let b := bs.getD k bx0
    have hb : posB b := by
      have : b = bs[k] := by show bs.getD k bx0 = _; rw [List.getD_eq_getElem?_getD, List.getElem?_eq_getElem hk]; rfl
      rw [this]; exact hp _ (List.getElem_mem hk)
    have hcs : ∀ c ∈ bs.take k, posB c := fun c h => hp c (List.mem_of_mem_take h)
    let N := (bs.take k).filter fun c => hasB (meetB b c)
    have hN : ∀ c ∈ N, posB c := fun c h => hcs c (List.mem_filter.mp h).1
    have hNl : N.length ≤ 6 := by
      have := List.length_filter_le (fun c => hasB (meetB b c)) (bs.take k)
      rw [List.length_take] at this
      show ((bs.take k).filter _).length ≤ 6
      omega
    have e1 := box_less_all_eq (b := b) (cs := N) hb hN hNl
    have e1' : allL b N = partK bs k := allL_filter hb (fun _ h => h) hcs
    rw [e1'] at e1
    let Ac := pre.flatMap (partK bs)
    let I : Option L := some (.d (.int k))
    let Bo : Option L := some (.d (eb b))
    let No : Option L := some (.d (.list (N.map eb)))
    have eg : dGT (dGCons (dN 2) (dGCons (dN 3) dGNil)) (encP bs k) (st Ac o2 o3 o4) = some (st Ac I Bo o4) := by
      show ((dN 2 (.int k) (st Ac o2 o3 o4)).bind fun τ1 => (dN 3 (eb b) τ1).bind fun τ2 => some τ2) = _
      rw [dN_eq (o := o2) rfl n2]
      show ((dN 3 (eb b) (st Ac I o3 o4)).bind fun τ2 => some τ2) = _
      rw [dN_eq (o := o3) rfl n3]
      rfl
    have hit : dIL (dSl (dVar 0) dNoP (dPt (dVar 2))) (st Ac I Bo o4) = some ((bs.take k).map eb, st Ac I Bo o4) := by rw [← ct]; rfl
    have s1 : dAsg (dLC 1 [3] (dIL (dSl (dVar 0) dNoP (dPt (dVar 2)))) (dN 0) (dTest (dOp fNotN (dCall m_box_meet (dACons (dVar 1) (dACons (dVar 0) dANil))) (dC .none))) (dVar 0)) (dN 4) (st Ac I Bo o4) = some (.nx (st Ac I Bo No)) :=
      asg_nx (d := .list (N.map eb)) (τ1 := st Ac I Bo o4) (near_eq (bs := bs) (b := b) hit rfl (by rw [List.length_take]; omega)) (dN_eq (o := o4) rfl n4)
    have e2 : dCall m_box_less_all (dACons (dVar 3) (dACons (dVar 4) dANil)) (st Ac I Bo No) = some (.list ((partK bs k).map eb), st Ac I Bo No) :=
      call_eq (rs := [.d (eb b), .d (.list (N.map eb))]) (ds := [eb b, .list (N.map eb)]) rfl rfl e1
    have e3 := extS (i := 1) (a := dACons (dCall m_box_less_all (dACons (dVar 3) (dACons (dVar 4) dANil))) dANil) (τ := st Ac I Bo No) (τ1 := st Ac I Bo No) (rs := [.d (.list ((partK bs k).map eb))]) (xs := Ac.map eb) (ys := (partK bs k).map eb) (acc e2 rfl) rfl rfl (by rw [List.length_map, List.length_map]; show (pre.flatMap (partK bs)).length + _ ≤ _; omega)
    refine ⟨st Ac I Bo o4, st (Ac ++ partK bs k) I Bo No, eg, (seq_nx s1).trans ?_, I, Bo, No, nM_d, nM_d, nM_d, ?_⟩
    · rw [e3]
      show some (Out.nx [_, some (.m (Ac.map eb ++ (partK bs k).map eb)), _, _, _]) = some (Out.nx (st (Ac ++ partK bs k) I Bo No))
      rw [← List.map_append]
    · show st (pre.flatMap (partK bs) ++ partK bs k) I Bo No = _
      rw [List.flatMap_append, List.flatMap_singleton]
  obtain ⟨τ', e, o2, o3, o4, n2, n3, n4, rfl⟩ := key
  rw [← enum_boxes] at e
  unfold m_boxes_parted
  refine fun_rt (τ := st (partedL bs) o2 o3 o4) ?_ rfl rfl
  exact (seq_nx (τ1 := st [] none none none) rfl).trans ((seq_nx ((for_eq (ds := enumD 0 (bs.map eb)) (τ1 := st [] none none none) rfl).trans e)).trans rfl)
theorem side_or (c : Bx) (p : Cl) : side c p = 0 ∨ side c p = 1 ∨ side c p = 2 ∨ side c p = 3 := by
  unfold side
  split
  · exact .inl rfl
  · split
    · exact .inr (.inr (.inr rfl))
    · split
      · exact .inr (.inr (.inl rfl))
      · exact .inr (.inl rfl)
theorem mem_less {b c : Bx} {p : Cl} (hb : posB b) (hc : posB c) : (∃ x ∈ lessB b c, inB x p) ↔ inB b p ∧ ¬ inB c p := by
  unfold lessB
  by_cases hm : hasB (meetB b c) = true
  · rw [if_pos hm]
    unfold less4
    constructor
    · rintro ⟨x, hx, hi⟩
      obtain ⟨hx, _⟩ := List.mem_filter.mp hx
      obtain ⟨s, hs, rfl⟩ := List.mem_map.mp hx
      have hs' : s = 0 ∨ s = 1 ∨ s = 2 ∨ s = 3 := by simpa using hs
      exact ((part_in hb hc hm hs').mpr hi).1
    · intro h
      have hs := side_or c p
      have hi := (part_in (s := side c p) hb hc hm hs).mp ⟨h, rfl⟩
      refine ⟨part b c (side c p), List.mem_filter.mpr ⟨List.mem_map.mpr ⟨side c p, by simpa using hs, rfl⟩, ?_⟩, hi⟩
      rw [hasB_iff]
      unfold inB at hi
      omega
  · rw [if_neg hm]
    constructor
    · rintro ⟨x, hx, hi⟩
      have e : x = b := by simpa using hx
      subst e
      refine ⟨hi, fun z => ?_⟩
      have := (meet_in (b := x) (c := c) (p := p)).mpr ⟨hi, z⟩
      rw [hasB_iff] at hm
      unfold inB at this
      omega
    · rintro ⟨h, _⟩
      exact ⟨b, by simp, h⟩
theorem pos_less {b c x : Bx} (hb : posB b) (hx : x ∈ lessB b c) : posB x := by
  unfold lessB at hx
  split at hx
  · unfold less4 at hx
    exact hasB_iff.mp (List.mem_filter.mp hx).2
  · have e : x = b := by simpa using hx
    rw [e]; exact hb
def Apart (bs : List Bx) : Prop := bs.Pairwise fun x y => ∀ p, inB x p → ¬ inB y p
theorem apart_less {b c : Bx} (hb : posB b) (hc : posB c) : Apart (lessB b c) := by
  unfold lessB
  by_cases hm : hasB (meetB b c) = true
  · rw [if_pos hm]
    unfold less4 Apart
    refine List.Pairwise.filter _ (List.pairwise_map.mpr ?_)
    have go : ∀ s t : Int, (s = 0 ∨ s = 1 ∨ s = 2 ∨ s = 3) → (t = 0 ∨ t = 1 ∨ t = 2 ∨ t = 3) → s ≠ t → ∀ p, inB (part b c s) p → ¬ inB (part b c t) p := fun s t hs ht ne p h1 h2 => by
      have a := ((part_in hb hc hm hs).mpr h1).2
      have b := ((part_in hb hc hm ht).mpr h2).2
      exact ne (a.symm.trans b)
    refine .cons (fun y hy => ?_) (.cons (fun y hy => ?_) (.cons (fun y hy => ?_) (.cons (fun y hy => ?_) .nil)))
    · have : y = 1 ∨ y = 2 ∨ y = 3 := by simpa using hy
      exact go 0 y (.inl rfl) (by omega) (by omega)
    · have : y = 2 ∨ y = 3 := by simpa using hy
      exact go 1 y (by omega) (by omega) (by omega)
    · have : y = 3 := by simpa using hy
      exact go 2 y (by omega) (by omega) (by omega)
    · simp at hy
  · rw [if_neg hm]
    exact List.pairwise_singleton _ _
theorem each_facts {bs : List Bx} {c : Bx} (hb : ∀ b ∈ bs, posB b) (hc : posB c) (ha : Apart bs) : (∀ x ∈ eachL bs c, posB x) ∧ Apart (eachL bs c) ∧ ∀ p, (∃ x ∈ eachL bs c, inB x p) ↔ (∃ x ∈ bs, inB x p) ∧ ¬ inB c p := by
  unfold eachL
  refine ⟨fun x hx => ?_, ?_, fun p => ?_⟩
  · obtain ⟨b, h1, h2⟩ := List.mem_flatMap.mp hx
    exact pos_less (hb b h1) h2
  · induction bs with
    | nil => exact .nil
    | cons b bs ih =>
      rw [List.flatMap_cons]
      obtain ⟨a1, a2⟩ := List.pairwise_cons.mp ha
      refine List.pairwise_append.mpr ⟨apart_less (hb b List.mem_cons_self) hc, ih (fun x hx => hb x (List.mem_cons_of_mem _ hx)) a2, fun x hx y hy p h1 h2 => ?_⟩
      obtain ⟨d, d1, d2⟩ := List.mem_flatMap.mp hy
      have e1 := (mem_less (p := p) (hb b List.mem_cons_self) hc).mp ⟨x, hx, h1⟩
      have e2 := (mem_less (p := p) (hb d (List.mem_cons_of_mem _ d1)) hc).mp ⟨y, d2, h2⟩
      exact a1 d d1 p e1.1 e2.1
  · constructor
    · rintro ⟨x, hx, hi⟩
      obtain ⟨b, h1, h2⟩ := List.mem_flatMap.mp hx
      have := (mem_less (hb b h1) hc).mp ⟨x, h2, hi⟩
      exact ⟨⟨b, h1, this.1⟩, this.2⟩
    · rintro ⟨⟨b, h1, h2⟩, h3⟩
      obtain ⟨x, h4, h5⟩ := (mem_less (hb b h1) hc).mpr ⟨h2, h3⟩
      exact ⟨x, List.mem_flatMap.mpr ⟨b, h1, h4⟩, h5⟩
theorem all_facts : ∀ {cs bs : List Bx}, (∀ b ∈ bs, posB b) → (∀ c ∈ cs, posB c) → Apart bs → (∀ x ∈ cs.foldl eachL bs, posB x) ∧ Apart (cs.foldl eachL bs) ∧ ∀ p, (∃ x ∈ cs.foldl eachL bs, inB x p) ↔ (∃ x ∈ bs, inB x p) ∧ ∀ c ∈ cs, ¬ inB c p
  | [], bs, hb, _, ha => ⟨hb, ha, fun p => by simp⟩
  | c :: cs, bs, hb, hc, ha => by
    obtain ⟨h1, h2, h3⟩ := each_facts hb (hc c List.mem_cons_self) ha
    obtain ⟨g1, g2, g3⟩ := all_facts (cs := cs) h1 (fun x hx => hc x (List.mem_cons_of_mem _ hx)) h2
    refine ⟨g1, g2, fun p => (g3 p).trans ?_⟩
    rw [h3 p]
    simp only [List.mem_cons, forall_eq_or_imp, and_assoc]
theorem allL_cells {b : Bx} {cs : List Bx} (hb : posB b) (hc : ∀ c ∈ cs, posB c) : ((allL b cs).flatMap cells).Nodup ∧ (∀ x ∈ allL b cs, posB x) ∧ ∀ p, p ∈ (allL b cs).flatMap cells ↔ inB b p ∧ ∀ c ∈ cs, ¬ inB c p := by
  obtain ⟨h1, h2, h3⟩ := all_facts (cs := cs) (bs := [b]) (fun x hx => by rw [show x = b by simpa using hx]; exact hb) hc (List.pairwise_singleton _ _)
  refine ⟨?_, h1, fun p => ?_⟩
  · have go : ∀ bs : List Bx, Apart bs → (bs.flatMap cells).Nodup := by
      intro bs
      induction bs with
      | nil => intro _; exact .nil
      | cons x xs ih =>
        intro ha
        obtain ⟨a1, a2⟩ := List.pairwise_cons.mp ha
        rw [List.flatMap_cons]
        refine List.nodup_append.mpr ⟨(cells_sorted x).imp fun {p q} h z => ?_, ih a2, fun p hp q hq z => ?_⟩
        · subst z; exact lt2_as p p h h
        · subst z
          obtain ⟨y, y1, y2⟩ := List.mem_flatMap.mp hq
          exact a1 y y1 p (mem_cells.mp hp) (mem_cells.mp y2)
    exact go _ h2
  · rw [List.mem_flatMap]
    simp only [mem_cells]
    rw [show allL b cs = cs.foldl eachL [b] from rfl, h3 p]
    simp
theorem cat_eq {xs ys : List PyData} (hz : xs.length + ys.length ≤ 100000) : fCat (.list xs) (.list ys) = some (.list (xs ++ ys)) := if_pos (Nat.le_trans hz (by decide))
theorem pre_mem {α : Type} {xs pre post : List α} {x y : α} (h : xs = pre ++ x :: post) (hy : y ∈ pre) : y ∈ xs := by rw [h]; exact List.mem_append_left _ hy
theorem L_due_eq {bs : List Bx} (hp0 : ∀ b ∈ bs, posB b) (hz : bs.length ≤ 6) : m_L_due [.d (.list (bs.map eb))] = some (.list ((partedL bs).map eb), [.d (.list (bs.map eb))]) := by
  let st := fun (due k parts ahead longer part : Option L) => [some (.d (.list (bs.map eb))), due, k, parts, ahead, longer, part]
  let dL := fun (xs : List Bx) => some (L.d (.list (xs.map eb)))
  let dI := fun (i : Nat) => some (L.d (.int (i : Int)))
  let dB := fun (b : Bx) => some (L.d (eb b))
  -- one part after the other
  have in1 : ∀ (due : List Bx) (k : Nat) (ps : List Bx) (c : Bx) (o6 : Option L), nM o6 → (∀ b ∈ ps, posB b) → ps.length ≤ 20000 → ∃ τ', dLoop (dN 6) (dAsg (dOp fCat (dVar 5) (dCall m_box_less (dACons (dVar 6) (dACons (dVar 4) dANil)))) (dN 5)) (ps.map eb) (st (dL due) (dI k) (dL ps) (dB c) (dL []) o6) = some (.nx τ') ∧ ∃ o, nM o ∧ τ' = st (dL due) (dI k) (dL ps) (dB c) (dL (eachL ps c)) o := by
    intro due k ps c o6 n6 hpos hp
    refine loop_pre (fun (pre : List Bx) τ => ∃ o, nM o ∧ τ = st (dL due) (dI k) (dL ps) (dB c) (dL (eachL pre c)) o) ⟨o6, n6, rfl⟩ ?_
    rintro pre b post τ hsp ⟨o, ho, rfl⟩
    have hl := split_len hsp
    have h1 := eachL_len pre c
    have h2 := lessB_len b c
    have e1 := box_less_eq b c (hpos b (split_mem hsp)).1
    have e2 := cat_eq (xs := (eachL pre c).map eb) (ys := (lessB b c).map eb) (by rw [List.length_map, List.length_map]; omega)
    refine ⟨st (dL due) (dI k) (dL ps) (dB c) (dL (eachL pre c)) (dB b), st (dL due) (dI k) (dL ps) (dB c) (dL (eachL (pre ++ [b]) c)) (dB b), dN_eq (o := o) rfl ho, asg_nx (d := .list ((eachL (pre ++ [b]) c).map eb)) (τ1 := st (dL due) (dI k) (dL ps) (dB c) (dL (eachL pre c)) (dB b)) ?_ rfl, dB b, nM_d, rfl⟩
    have e3 : (eachL (pre ++ [b]) c).map eb = (eachL pre c).map eb ++ (lessB b c).map eb := by simp [eachL, List.flatMap_append]
    rw [e3]
    simp only [st, dL, dI, dB, e1, e2, dFun, dSeq, dAsg, dN, dNew, dSetM, dRet, dRetM, dRetN, dExpr, dMt, gAppend, gExtend, gClear, dSetI, dNil, dIfS, dBrk, dCnt, dNever, dFor, dPar, dVar, dC, dOp, dUn, fI, fAdd, fSub, fLt, fLe, fGt, fGe, fNeg, isNo, fIsN, fNotN, fIxL, fIxT, dTest, dTAnd, dTOr, dTNot, dIf, dAnd, dOr, dNot, dChain, dANil, dACons, allD, dTup, dLst, dApp, dCall, dCallM, dCallC, dCallP, dAS, mkL, nMb, isM, isC, dBor, dBorF, dTBor, dYes, dIL, dIT, dR1, dR2, dGNil, dGCons, dGT, fin_nil, fin_d, fin_c, fin_m, fLen, f1, f2, fAbs, fMax2, fMin2, fInt1, fListOf, dRev, dIsi, tyOk_int, isi_int_none, isi_int_bool, isi_int_int, isi_int_str, isi_int_list, isi_int_tuple, tyOk_bool, isi_bool_none, isi_bool_bool, isi_bool_int, isi_bool_str, isi_bool_list, isi_bool_tuple, tyOk_str, isi_str_none, isi_str_bool, isi_str_int, isi_str_str, isi_str_list, isi_str_tuple, tyOk_list, isi_list_none, isi_list_bool, isi_list_int, isi_list_str, isi_list_list, isi_list_tuple, tyOk_tuple, isi_tuple_none, isi_tuple_bool, isi_tuple_int, isi_tuple_str, isi_tuple_list, isi_tuple_tuple, dIxC, dLenC, atI, ixN, okM_none, okM_d, okM_c, okM_m, fixD, fixDs, sz', Option.bind_some, Option.bind_none, Option.map_some, Option.map_none, List.map_cons, List.map_nil, List.cons_append, List.nil_append, List.length_cons, List.length_nil, List.getElem?_cons_zero, List.getElem?_cons_succ, List.set_cons_zero, List.set_cons_succ, List.replicate_succ, List.replicate_zero, List.all_cons, List.all_nil, Bool.and_self, Bool.and_true, Bool.true_and, Bool.false_and, Bool.and_false, Bool.or_true, Bool.true_or, Bool.false_or, Bool.or_false, Bool.not_true, Bool.not_false, if_true, if_false, reduceIte, Bool.false_eq_true, Nat.reduceAdd, Nat.reduceLT, Nat.reduceSub, Nat.reduceMul, Int.reduceEq, Int.reduceSub, Int.reduceMul, Int.reducePow, Int.reduceDiv, Int.reduceMod, Nat.reduceLeDiff, Nat.reduceEqDiff, and_self, and_true, true_and, Int.natCast_add, Int.reduceAdd, Int.reduceLT, Int.reduceLE, Int.reduceToNat, Int.reduceNeg, Int.toNat_zero, Int.toNat_one, Int.zero_lt_one, Int.le_refl, Int.reduceNegSucc, Int.cast_ofNat_Int, Nat.zero_add, Nat.add_zero]
  -- one box ahead after the other
  have in2 : ∀ (due : List Bx) (k : Nat) (b : Bx) (cs : List Bx) (o4 o5 o6 : Option L), nM o4 → nM o5 → nM o6 → posB b → (∀ c ∈ cs, posB c) → cs.length ≤ 6 → ∃ τ', dLoop (dN 4) (dSeq (dAsg (dLst dANil) (dN 5)) (dSeq (dFor (dIL (dVar 3)) (dN 6) (dAsg (dOp fCat (dVar 5) (dCall m_box_less (dACons (dVar 6) (dACons (dVar 4) dANil)))) (dN 5))) (dAsg (dVar 5) (dN 3)))) (cs.map eb) (st (dL due) (dI k) (dL [b]) o4 o5 o6) = some (.nx τ') ∧ ∃ o4 o5 o6, nM o4 ∧ nM o5 ∧ nM o6 ∧ τ' = st (dL due) (dI k) (dL (allL b cs)) o4 o5 o6 := by
    intro due k b cs o4 o5 o6 n4 n5 n6 hb hc hcs
    refine loop_pre (fun (pre : List Bx) τ => ∃ o4 o5 o6, nM o4 ∧ nM o5 ∧ nM o6 ∧ τ = st (dL due) (dI k) (dL (allL b pre)) o4 o5 o6) ⟨o4, o5, o6, n4, n5, n6, rfl⟩ ?_
    rintro pre c post τ hsp ⟨o4, o5, o6, n4, n5, n6, rfl⟩
    have hl := split_len hsp
    have h1 : (allL b pre).length ≤ 4 ^ pre.length * 1 := allL_len pre [b]
    have h2 := pow4 (n := pre.length) (by omega)
    obtain ⟨τ', e, o, ho, rfl⟩ := in1 due k (allL b pre) c o6 n6 (allL_cells hb (fun x hx => hc x (pre_mem hsp hx))).2.1 (by omega)
    have e5 : allL b (pre ++ [c]) = eachL (allL b pre) c := by unfold allL; rw [List.foldl_append]; rfl
    refine ⟨st (dL due) (dI k) (dL (allL b pre)) (dB c) o5 o6, st (dL due) (dI k) (dL (allL b (pre ++ [c]))) (dB c) (dL (eachL (allL b pre) c)) o, dN_eq (o := o4) rfl n4, ?_, dB c, dL (eachL (allL b pre) c), o, nM_d, nM_d, ho, rfl⟩
    refine (seq_nx (τ1 := st (dL due) (dI k) (dL (allL b pre)) (dB c) (dL []) o6) (asg_nx (d := .list []) (τ1 := st (dL due) (dI k) (dL (allL b pre)) (dB c) o5 o6) rfl (dN_eq (o := o5) rfl n5))).trans ?_
    refine (seq_nx ((for_eq (ds := (allL b pre).map eb) (τ1 := st (dL due) (dI k) (dL (allL b pre)) (dB c) (dL []) o6) rfl).trans e)).trans ?_
    rw [e5]
    rfl
  have key : ∃ τ', dLoop (dN 2) (dSeq (dAsg (dLst (dACons (dOp fIxL (dVar 0) (dVar 2)) dANil)) (dN 3)) (dSeq (dFor (dIL (dSl (dVar 0) dNoP (dPt (dVar 2)))) (dN 4) (dSeq (dAsg (dLst dANil) (dN 5)) (dSeq (dFor (dIL (dVar 3)) (dN 6) (dAsg (dOp fCat (dVar 5) (dCall m_box_less (dACons (dVar 6) (dACons (dVar 4) dANil)))) (dN 5))) (dAsg (dVar 5) (dN 3))))) (dAsg (dOp fCat (dVar 1) (dVar 3)) (dN 1)))) ((List.range bs.length).map fun (k : Nat) => PyData.int (k : Int)) (st (dL []) none none none none none) = some (.nx τ') ∧ ∃ o2 o3 o4 o5 o6, nM o2 ∧ nM o3 ∧ nM o4 ∧ nM o5 ∧ nM o6 ∧ τ' = st (dL (partedL bs)) o2 o3 o4 o5 o6 := by
    refine loop_pre (fun (pre : List Nat) τ => ∃ o2 o3 o4 o5 o6, nM o2 ∧ nM o3 ∧ nM o4 ∧ nM o5 ∧ nM o6 ∧ τ = st (dL (pre.flatMap (partK bs))) o2 o3 o4 o5 o6) ⟨none, none, none, none, none, nM_none, nM_none, nM_none, nM_none, nM_none, rfl⟩ ?_
    rintro pre k post τ hsp ⟨o2, o3, o4, o5, o6, n2, n3, n4, n5, n6, rfl⟩
    have hk : k < bs.length := List.mem_range.mp (split_mem hsp)
    have hl := split_len hsp
    rw [List.length_range] at hl
    have h1 := parts_len bs hz pre
    have h2 := partK_len bs hz k
    have ct := cut_take bs k (by omega)
    have hbk : posB (bs.getD k bx0) := by
      rw [List.getD_eq_getElem?_getD, List.getElem?_eq_getElem hk]; exact hp0 _ (List.getElem_mem hk)
    obtain ⟨τ', e, p4, p5, p6, q4, q5, q6, rfl⟩ := in2 (pre.flatMap (partK bs)) k (bs.getD k bx0) (bs.take k) o4 o5 o6 n4 n5 n6 hbk (fun c h => hp0 c (List.mem_of_mem_take h)) (by rw [List.length_take]; omega)
    have e2 := cat_eq (xs := (pre.flatMap (partK bs)).map eb) (ys := (partK bs k).map eb) (by rw [List.length_map, List.length_map]; omega)
    refine ⟨st (dL (pre.flatMap (partK bs))) (dI k) o3 o4 o5 o6, st (dL ((pre ++ [k]).flatMap (partK bs))) (dI k) (dL (partK bs k)) p4 p5 p6, dN_eq (o := o2) rfl n2, ?_, dI k, dL (partK bs k), p4, p5, p6, nM_d, nM_d, q4, q5, q6, rfl⟩
    have ix : fIxL (.list (bs.map eb)) (.int (k : Int)) = some (eb (bs.getD k bx0)) := by
      show atI (bs.map eb) (k : Int) = _
      unfold atI
      have : ixN (bs.map eb).length (k : Int) = some k := by
        unfold ixN
        rw [List.length_map]
        simp
        omega
      rw [this]
      simp [List.getD_eq_getElem?_getD, hk]
    have e0 : dOp fIxL (dVar 0) (dVar 2) (st (dL (pre.flatMap (partK bs))) (dI k) o3 o4 o5 o6) = some (eb (bs.getD k bx0), st (dL (pre.flatMap (partK bs))) (dI k) o3 o4 o5 o6) := by
      show (fIxL (.list (bs.map eb)) (.int (k : Int))).map _ = _
      rw [ix]
      rfl
    refine (seq_nx (τ1 := st (dL (pre.flatMap (partK bs))) (dI k) (dL [bs.getD k bx0]) o4 o5 o6) (asg_nx (d := .list [eb (bs.getD k bx0)]) (τ1 := st (dL (pre.flatMap (partK bs))) (dI k) o3 o4 o5 o6) ?_ (dN_eq (o := o3) rfl n3))).trans ?_
    · unfold dLst
      rw [acc e0 (show dANil _ = some ([], _) from rfl)]
      rfl
    refine (seq_nx ((for_eq (ds := (bs.take k).map eb) (τ1 := st (dL (pre.flatMap (partK bs))) (dI k) (dL [bs.getD k bx0]) o4 o5 o6) (by rw [← ct]; rfl)).trans e)).trans ?_
    refine asg_nx (d := .list (((pre ++ [k]).flatMap (partK bs)).map eb)) (τ1 := st (dL (pre.flatMap (partK bs))) (dI k) (dL (partK bs k)) p4 p5 p6) ?_ rfl
    have e3 : ((pre ++ [k]).flatMap (partK bs)).map eb = (pre.flatMap (partK bs)).map eb ++ (partK bs k).map eb := by simp [List.flatMap_append]
    rw [e3]
    exact (show (fCat (.list ((pre.flatMap (partK bs)).map eb)) (.list ((partK bs k).map eb))).map _ = _ by rw [e2]; rfl)
  obtain ⟨τ', e, o2, o3, o4, o5, o6, n2, n3, n4, n5, n6, rfl⟩ := key
  unfold m_L_due
  refine fun_rt (τ := st (dL (partedL bs)) o2 o3 o4 o5 o6) ?_ rfl rfl
  have er := r1_eq (n := (bs.length : Int)) (a := dACons (dApp fLen (dACons (dVar 0) dANil)) dANil) (τ := st (dL []) none none none none none) (τ1 := st (dL []) none none none none none) (by simp only [st, dL, List.length_map, dFun, dSeq, dAsg, dN, dNew, dSetM, dRet, dRetM, dRetN, dExpr, dMt, gAppend, gExtend, gClear, dSetI, dNil, dIfS, dBrk, dCnt, dNever, dFor, dPar, dVar, dC, dOp, dUn, fI, fAdd, fSub, fLt, fLe, fGt, fGe, fNeg, isNo, fIsN, fNotN, fIxL, fIxT, dTest, dTAnd, dTOr, dTNot, dIf, dAnd, dOr, dNot, dChain, dANil, dACons, allD, dTup, dLst, dApp, dCall, dCallM, dCallC, dCallP, dAS, mkL, nMb, isM, isC, dBor, dBorF, dTBor, dYes, dIL, dIT, dR1, dR2, dGNil, dGCons, dGT, fin_nil, fin_d, fin_c, fin_m, fLen, f1, f2, fAbs, fMax2, fMin2, fInt1, fListOf, dRev, dIsi, tyOk_int, isi_int_none, isi_int_bool, isi_int_int, isi_int_str, isi_int_list, isi_int_tuple, tyOk_bool, isi_bool_none, isi_bool_bool, isi_bool_int, isi_bool_str, isi_bool_list, isi_bool_tuple, tyOk_str, isi_str_none, isi_str_bool, isi_str_int, isi_str_str, isi_str_list, isi_str_tuple, tyOk_list, isi_list_none, isi_list_bool, isi_list_int, isi_list_str, isi_list_list, isi_list_tuple, tyOk_tuple, isi_tuple_none, isi_tuple_bool, isi_tuple_int, isi_tuple_str, isi_tuple_list, isi_tuple_tuple, dIxC, dLenC, atI, ixN, okM_none, okM_d, okM_c, okM_m, fixD, fixDs, sz', Option.bind_some, Option.bind_none, Option.map_some, Option.map_none, List.map_cons, List.map_nil, List.cons_append, List.nil_append, List.length_cons, List.length_nil, List.getElem?_cons_zero, List.getElem?_cons_succ, List.set_cons_zero, List.set_cons_succ, List.replicate_succ, List.replicate_zero, List.all_cons, List.all_nil, Bool.and_self, Bool.and_true, Bool.true_and, Bool.false_and, Bool.and_false, Bool.or_true, Bool.true_or, Bool.false_or, Bool.or_false, Bool.not_true, Bool.not_false, if_true, if_false, reduceIte, Bool.false_eq_true, Nat.reduceAdd, Nat.reduceLT, Nat.reduceSub, Nat.reduceMul, Int.reduceEq, Int.reduceSub, Int.reduceMul, Int.reducePow, Int.reduceDiv, Int.reduceMod, Nat.reduceLeDiff, Nat.reduceEqDiff, and_self, and_true, true_and, Int.natCast_add, Int.reduceAdd, Int.reduceLT, Int.reduceLE, Int.reduceToNat, Int.reduceNeg, Int.toNat_zero, Int.toNat_one, Int.zero_lt_one, Int.le_refl, Int.reduceNegSucc, Int.cast_ofNat_Int, Nat.zero_add, Nat.add_zero]) (by omega) (by omega)
  have ee : (rng 0 ((bs.length : Int)).toNat).map PyData.int = (List.range bs.length).map fun (k : Nat) => PyData.int (k : Int) := by
    unfold rng
    rw [List.map_map, Int.toNat_natCast]
    refine List.map_congr_left fun k _ => ?_
    show PyData.int (0 + (k : Int)) = _
    rw [Int.zero_add]
  rw [ee] at er
  exact (seq_nx (τ1 := st (dL []) none none none none none) rfl).trans ((seq_nx ((for_eq er).trans e)).trans rfl)
theorem bor_eq {i : Nat} {f : DX} {τ τ1 : DS} {d : PyData} {xs : List PyData} (hi : τ[i]? = some (some (.m xs))) (hf : f (τ.set i (some (.d (.list xs)))) = some (d, τ1)) (hx : (fixD d && τ1.all okM) = true) : dBor i f τ = some (d, τ1.set i (some (.m xs))) := by
  unfold dBor
  rw [hi]
  show (f _).bind _ = _
  rw [hf]
  show (if _ then _ else _) = _
  rw [if_pos hx]
theorem boxes_eq (v : Int) : ∃ (bs : List Bx) (v' : Int), m_L_boxes [.m [.int v]] = some (.list (bs.map eb), [.m [.int v']]) ∧ (∀ b ∈ bs, okB b ∧ b.w ≤ 7 ∧ b.h ≤ 6) ∧ bs.length ≤ 6 := by
  have key : ∃ τ', dLoop (dN 2) (dSeq (dAsg (dCallM 0 m_L_box_of dANil) (dN 3)) (dSeq (dAsg (dCallM 0 m_L_digit (dACons (dC (.int 5)) dANil)) (dN 4)) (dSeq (dIfS (dTBor 1 (dTAnd (dTest (dOp fEq (dVar 4) (dC (.int 0)))) (dTest (dOp fNe (dVar 1) (dLst dANil))))) (dAsg (dBor 1 (dOp fIxL (dVar 1) (dC (.int 0)))) (dN 3)) dNil) (dSeq (dIfS (dTBor 1 (dTAnd (dTest (dOp fEq (dVar 4) (dC (.int 1)))) (dTest (dOp fNe (dVar 1) (dLst dANil))))) (dAsg (dBor 1 (dTup (dACons (dOp fAdd (dOp fIxT (dOp fIxL (dVar 1) (dUn fNeg (dC (.int 1)))) (dC (.int 0))) (dOp fIxT (dOp fIxL (dVar 1) (dUn fNeg (dC (.int 1)))) (dC (.int 2)))) (dACons (dOp fIxT (dVar 3) (dC (.int 1))) (dACons (dOp fIxT (dVar 3) (dC (.int 2))) (dACons (dOp fIxT (dVar 3) (dC (.int 3))) dANil)))))) (dN 3)) dNil) (dExpr (dMt 1 gAppend (dACons (dVar 3) dANil))))))) ((rng 0 (v % 7).toNat).map PyData.int)
      [some (.m [.int (v / 7)]), some (.m []), none, none, none] = some (.nx τ') ∧ ∃ (bs : List Bx) (v' : Int) (o2 o3 o4 : Option L), bs.length = (rng 0 (v % 7).toNat).length ∧ (∀ b ∈ bs, okB b ∧ b.w ≤ 7 ∧ b.h ≤ 6) ∧ nM o2 ∧ nM o3 ∧ nM o4 ∧ τ' = [some (.m [.int v']), some (.m (bs.map eb)), o2, o3, o4] := by
    refine loop_pre (fun pre τ => ∃ (bs : List Bx) (v' : Int) (o2 o3 o4 : Option L), bs.length = pre.length ∧ (∀ b ∈ bs, okB b ∧ b.w ≤ 7 ∧ b.h ≤ 6) ∧ nM o2 ∧ nM o3 ∧ nM o4 ∧ τ = [some (.m [.int v']), some (.m (bs.map eb)), o2, o3, o4]) ⟨[], v / 7, none, none, none, rfl, (fun b hb => by simp at hb), nM_none, nM_none, nM_none, rfl⟩ ?_
    rintro pre k post τ hx ⟨bs, u, o2, o3, o4, hl, hok, n2, n3, n4, rfl⟩
    have hp := split_len hx
    rw [rng_len] at hp
    obtain ⟨b, u1, e1, ok1, _, _, _, _, hw, hh⟩ := L_box_of u
    have fx := encB.fixL bs
    have fxb : ∀ b : Bx, fixD (eb b) = true := fun _ => rfl
    -- the box that is put in
    have mid : ∃ c : Bx, (okB c ∧ c.w ≤ 7 ∧ c.h ≤ 6) ∧ ∀ rest : DB, dSeq (dIfS (dTBor 1 (dTAnd (dTest (dOp fEq (dVar 4) (dC (.int 0)))) (dTest (dOp fNe (dVar 1) (dLst dANil))))) (dAsg (dBor 1 (dOp fIxL (dVar 1) (dC (.int 0)))) (dN 3)) dNil) (dSeq (dIfS (dTBor 1 (dTAnd (dTest (dOp fEq (dVar 4) (dC (.int 1)))) (dTest (dOp fNe (dVar 1) (dLst dANil))))) (dAsg (dBor 1 (dTup (dACons (dOp fAdd (dOp fIxT (dOp fIxL (dVar 1) (dUn fNeg (dC (.int 1)))) (dC (.int 0))) (dOp fIxT (dOp fIxL (dVar 1) (dUn fNeg (dC (.int 1)))) (dC (.int 2)))) (dACons (dOp fIxT (dVar 3) (dC (.int 1))) (dACons (dOp fIxT (dVar 3) (dC (.int 2))) (dACons (dOp fIxT (dVar 3) (dC (.int 3))) dANil)))))) (dN 3)) dNil) rest) [some (.m [.int (u1 / 5)]), some (.m (bs.map eb)), some (.d (.int k)), some (.d (eb b)), some (.d (.int (u1 % 5)))] = rest [some (.m [.int (u1 / 5)]), some (.m (bs.map eb)), some (.d (.int k)), some (.d (eb c)), some (.d (.int (u1 % 5)))] := by
      have eN : fNe (.list (bs.map eb)) (.list []) = some (.bool (!decide (bs = []))) := encB.fNeL bs []
      by_cases k0 : u1 % 5 = 0
      · cases bs with
        | nil =>
          have eN0 : fNe (.list []) (.list []) = some (.bool false) := rfl
          exact ⟨b, ⟨ok1, hw, hh⟩, fun rest => by simp only [encI.fEq, eN0, k0, decide_true, decide_false, eb, dFun, dSeq, dAsg, dN, dNew, dSetM, dRet, dRetM, dRetN, dExpr, dMt, gAppend, gExtend, gClear, dSetI, dNil, dIfS, dBrk, dCnt, dNever, dFor, dPar, dVar, dC, dOp, dUn, fI, fAdd, fSub, fLt, fLe, fGt, fGe, fNeg, isNo, fIsN, fNotN, fIxL, fIxT, dTest, dTAnd, dTOr, dTNot, dIf, dAnd, dOr, dNot, dChain, dANil, dACons, allD, dTup, dLst, dApp, dCall, dCallM, dCallC, dCallP, dAS, mkL, nMb, isM, isC, dBor, dBorF, dTBor, dYes, dIL, dIT, dR1, dR2, dGNil, dGCons, dGT, fin_nil, fin_d, fin_c, fin_m, fLen, f1, f2, fAbs, fMax2, fMin2, fInt1, fListOf, dRev, dIsi, tyOk_int, isi_int_none, isi_int_bool, isi_int_int, isi_int_str, isi_int_list, isi_int_tuple, tyOk_bool, isi_bool_none, isi_bool_bool, isi_bool_int, isi_bool_str, isi_bool_list, isi_bool_tuple, tyOk_str, isi_str_none, isi_str_bool, isi_str_int, isi_str_str, isi_str_list, isi_str_tuple, tyOk_list, isi_list_none, isi_list_bool, isi_list_int, isi_list_str, isi_list_list, isi_list_tuple, tyOk_tuple, isi_tuple_none, isi_tuple_bool, isi_tuple_int, isi_tuple_str, isi_tuple_list, isi_tuple_tuple, dIxC, dLenC, atI, ixN, okM_none, okM_d, okM_c, okM_m, fixD, fixDs, sz', Option.bind_some, Option.bind_none, Option.map_some, Option.map_none, List.map_cons, List.map_nil, List.cons_append, List.nil_append, List.length_cons, List.length_nil, List.getElem?_cons_zero, List.getElem?_cons_succ, List.set_cons_zero, List.set_cons_succ, List.replicate_succ, List.replicate_zero, List.all_cons, List.all_nil, Bool.and_self, Bool.and_true, Bool.true_and, Bool.false_and, Bool.and_false, Bool.or_true, Bool.true_or, Bool.false_or, Bool.or_false, Bool.not_true, Bool.not_false, if_true, if_false, reduceIte, Bool.false_eq_true, Nat.reduceAdd, Nat.reduceLT, Nat.reduceSub, Nat.reduceMul, Int.reduceEq, Int.reduceSub, Int.reduceMul, Int.reducePow, Int.reduceDiv, Int.reduceMod, Nat.reduceLeDiff, Nat.reduceEqDiff, and_self, and_true, true_and, Int.natCast_add, Int.reduceAdd, Int.reduceLT, Int.reduceLE, Int.reduceToNat, Int.reduceNeg, Int.toNat_zero, Int.toNat_one, Int.zero_lt_one, Int.le_refl, Int.reduceNegSucc, Int.cast_ofNat_Int, Nat.zero_add, Nat.add_zero]⟩
        | cons c cs =>
          refine ⟨c, hok c List.mem_cons_self, fun rest => ?_⟩
          have eN' : fNe (.list (eb c :: cs.map eb)) (.list []) = some (.bool true) := by
            have := eN
            simpa using this
          have fx' : fixD (eb c) = true := rfl
          have fx2 : fixDs (cs.map eb) = true := encB.fixL cs
          have hlt : (0 : Int) < ((cs.map eb).length : Int) + 1 := by omega
          simp only [encI.fEq, eN', k0, decide_true, decide_false, fx', fx2, hlt, dFun, dSeq, dAsg, dN, dNew, dSetM, dRet, dRetM, dRetN, dExpr, dMt, gAppend, gExtend, gClear, dSetI, dNil, dIfS, dBrk, dCnt, dNever, dFor, dPar, dVar, dC, dOp, dUn, fI, fAdd, fSub, fLt, fLe, fGt, fGe, fNeg, isNo, fIsN, fNotN, fIxL, fIxT, dTest, dTAnd, dTOr, dTNot, dIf, dAnd, dOr, dNot, dChain, dANil, dACons, allD, dTup, dLst, dApp, dCall, dCallM, dCallC, dCallP, dAS, mkL, nMb, isM, isC, dBor, dBorF, dTBor, dYes, dIL, dIT, dR1, dR2, dGNil, dGCons, dGT, fin_nil, fin_d, fin_c, fin_m, fLen, f1, f2, fAbs, fMax2, fMin2, fInt1, fListOf, dRev, dIsi, tyOk_int, isi_int_none, isi_int_bool, isi_int_int, isi_int_str, isi_int_list, isi_int_tuple, tyOk_bool, isi_bool_none, isi_bool_bool, isi_bool_int, isi_bool_str, isi_bool_list, isi_bool_tuple, tyOk_str, isi_str_none, isi_str_bool, isi_str_int, isi_str_str, isi_str_list, isi_str_tuple, tyOk_list, isi_list_none, isi_list_bool, isi_list_int, isi_list_str, isi_list_list, isi_list_tuple, tyOk_tuple, isi_tuple_none, isi_tuple_bool, isi_tuple_int, isi_tuple_str, isi_tuple_list, isi_tuple_tuple, dIxC, dLenC, atI, ixN, okM_none, okM_d, okM_c, okM_m, fixD, fixDs, sz', Option.bind_some, Option.bind_none, Option.map_some, Option.map_none, List.map_cons, List.map_nil, List.cons_append, List.nil_append, List.length_cons, List.length_nil, List.getElem?_cons_zero, List.getElem?_cons_succ, List.set_cons_zero, List.set_cons_succ, List.replicate_succ, List.replicate_zero, List.all_cons, List.all_nil, Bool.and_self, Bool.and_true, Bool.true_and, Bool.false_and, Bool.and_false, Bool.or_true, Bool.true_or, Bool.false_or, Bool.or_false, Bool.not_true, Bool.not_false, if_true, if_false, reduceIte, Bool.false_eq_true, Nat.reduceAdd, Nat.reduceLT, Nat.reduceSub, Nat.reduceMul, Int.reduceEq, Int.reduceSub, Int.reduceMul, Int.reducePow, Int.reduceDiv, Int.reduceMod, Nat.reduceLeDiff, Nat.reduceEqDiff, and_self, and_true, true_and, Int.natCast_add, Int.reduceAdd, Int.reduceLT, Int.reduceLE, Int.reduceToNat, Int.reduceNeg, Int.toNat_zero, Int.toNat_one, Int.zero_lt_one, Int.le_refl, Int.reduceNegSucc, Int.cast_ofNat_Int, Nat.zero_add, Nat.add_zero]
      · by_cases k1 : u1 % 5 = 1
        · cases bs with
          | nil =>
            have eN0 : fNe (.list []) (.list []) = some (.bool false) := rfl
            exact ⟨b, ⟨ok1, hw, hh⟩, fun rest => by simp only [encI.fEq, eN0, k0, k1, decide_true, decide_false, eb, dFun, dSeq, dAsg, dN, dNew, dSetM, dRet, dRetM, dRetN, dExpr, dMt, gAppend, gExtend, gClear, dSetI, dNil, dIfS, dBrk, dCnt, dNever, dFor, dPar, dVar, dC, dOp, dUn, fI, fAdd, fSub, fLt, fLe, fGt, fGe, fNeg, isNo, fIsN, fNotN, fIxL, fIxT, dTest, dTAnd, dTOr, dTNot, dIf, dAnd, dOr, dNot, dChain, dANil, dACons, allD, dTup, dLst, dApp, dCall, dCallM, dCallC, dCallP, dAS, mkL, nMb, isM, isC, dBor, dBorF, dTBor, dYes, dIL, dIT, dR1, dR2, dGNil, dGCons, dGT, fin_nil, fin_d, fin_c, fin_m, fLen, f1, f2, fAbs, fMax2, fMin2, fInt1, fListOf, dRev, dIsi, tyOk_int, isi_int_none, isi_int_bool, isi_int_int, isi_int_str, isi_int_list, isi_int_tuple, tyOk_bool, isi_bool_none, isi_bool_bool, isi_bool_int, isi_bool_str, isi_bool_list, isi_bool_tuple, tyOk_str, isi_str_none, isi_str_bool, isi_str_int, isi_str_str, isi_str_list, isi_str_tuple, tyOk_list, isi_list_none, isi_list_bool, isi_list_int, isi_list_str, isi_list_list, isi_list_tuple, tyOk_tuple, isi_tuple_none, isi_tuple_bool, isi_tuple_int, isi_tuple_str, isi_tuple_list, isi_tuple_tuple, dIxC, dLenC, atI, ixN, okM_none, okM_d, okM_c, okM_m, fixD, fixDs, sz', Option.bind_some, Option.bind_none, Option.map_some, Option.map_none, List.map_cons, List.map_nil, List.cons_append, List.nil_append, List.length_cons, List.length_nil, List.getElem?_cons_zero, List.getElem?_cons_succ, List.set_cons_zero, List.set_cons_succ, List.replicate_succ, List.replicate_zero, List.all_cons, List.all_nil, Bool.and_self, Bool.and_true, Bool.true_and, Bool.false_and, Bool.and_false, Bool.or_true, Bool.true_or, Bool.false_or, Bool.or_false, Bool.not_true, Bool.not_false, if_true, if_false, reduceIte, Bool.false_eq_true, Nat.reduceAdd, Nat.reduceLT, Nat.reduceSub, Nat.reduceMul, Int.reduceEq, Int.reduceSub, Int.reduceMul, Int.reducePow, Int.reduceDiv, Int.reduceMod, Nat.reduceLeDiff, Nat.reduceEqDiff, and_self, and_true, true_and, Int.natCast_add, Int.reduceAdd, Int.reduceLT, Int.reduceLE, Int.reduceToNat, Int.reduceNeg, Int.toNat_zero, Int.toNat_one, Int.zero_lt_one, Int.le_refl, Int.reduceNegSucc, Int.cast_ofNat_Int, Nat.zero_add, Nat.add_zero]⟩
          | cons c0 cs0 =>
            generalize hbs : (c0 :: cs0 : List Bx) = bs' at *
            have hne : bs' ≠ [] := by rw [← hbs]; simp
            have eN' : fNe (.list (bs'.map eb)) (.list []) = some (.bool true) := by rw [eN]; simp [hne]
            have hpos : 0 < bs'.length := List.length_pos_iff.mpr hne
            have ixl : fIxL (.list (bs'.map eb)) (.int (-1)) = some (eb (bs'.getD (bs'.length - 1) ⟨0, 0, 0, 0⟩)) := by
              show atI (bs'.map eb) (-1) = _
              unfold atI
              have : ixN (bs'.map eb).length (-1) = some (bs'.length - 1) := by
                unfold ixN
                rw [List.length_map]
                simp
                omega
              rw [this]
              have h' : bs'.length - 1 < bs'.length := by omega
              show (bs'.map eb)[bs'.length - 1]? = _
              rw [List.getElem?_map, List.getD_eq_getElem?_getD, List.getElem?_eq_getElem h']
              rfl
            generalize hlast : bs'.getD (bs'.length - 1) ⟨0, 0, 0, 0⟩ = l at ixl
            have ixn : dOp fIxL (dVar 1) (dUn fNeg (dC (.int 1))) [some (.m [.int (u1 / 5)]), some (.d (.list (bs'.map eb))), some (.d (.int k)), some (.d (eb b)), some (.d (.int (u1 % 5)))] = some (eb l, [some (.m [.int (u1 / 5)]), some (.d (.list (bs'.map eb))), some (.d (.int k)), some (.d (eb b)), some (.d (.int (u1 % 5)))]) := by
              show (fIxL (.list (bs'.map eb)) (.int (-1))).map _ = _
              rw [ixl]
              rfl
            refine ⟨⟨l.x + l.w, b.y, b.w, b.h⟩, ⟨ok1, hw, hh⟩, fun rest => ?_⟩
            refine (seq_nx ((ifs_f (τ1 := [some (.m [.int (u1 / 5)]), some (.m (bs'.map eb)), some (.d (.int k)), some (.d (eb b)), some (.d (.int (u1 % 5)))]) ?_).trans rfl)).trans ?_
            · simp only [encI.fEq, k0, decide_false, fx, dFun, dSeq, dAsg, dN, dNew, dSetM, dRet, dRetM, dRetN, dExpr, dMt, gAppend, gExtend, gClear, dSetI, dNil, dIfS, dBrk, dCnt, dNever, dFor, dPar, dVar, dC, dOp, dUn, fI, fAdd, fSub, fLt, fLe, fGt, fGe, fNeg, isNo, fIsN, fNotN, fIxL, fIxT, dTest, dTAnd, dTOr, dTNot, dIf, dAnd, dOr, dNot, dChain, dANil, dACons, allD, dTup, dLst, dApp, dCall, dCallM, dCallC, dCallP, dAS, mkL, nMb, isM, isC, dBor, dBorF, dTBor, dYes, dIL, dIT, dR1, dR2, dGNil, dGCons, dGT, fin_nil, fin_d, fin_c, fin_m, fLen, f1, f2, fAbs, fMax2, fMin2, fInt1, fListOf, dRev, dIsi, tyOk_int, isi_int_none, isi_int_bool, isi_int_int, isi_int_str, isi_int_list, isi_int_tuple, tyOk_bool, isi_bool_none, isi_bool_bool, isi_bool_int, isi_bool_str, isi_bool_list, isi_bool_tuple, tyOk_str, isi_str_none, isi_str_bool, isi_str_int, isi_str_str, isi_str_list, isi_str_tuple, tyOk_list, isi_list_none, isi_list_bool, isi_list_int, isi_list_str, isi_list_list, isi_list_tuple, tyOk_tuple, isi_tuple_none, isi_tuple_bool, isi_tuple_int, isi_tuple_str, isi_tuple_list, isi_tuple_tuple, dIxC, dLenC, atI, ixN, okM_none, okM_d, okM_c, okM_m, fixD, fixDs, sz', Option.bind_some, Option.bind_none, Option.map_some, Option.map_none, List.map_cons, List.map_nil, List.cons_append, List.nil_append, List.length_cons, List.length_nil, List.getElem?_cons_zero, List.getElem?_cons_succ, List.set_cons_zero, List.set_cons_succ, List.replicate_succ, List.replicate_zero, List.all_cons, List.all_nil, Bool.and_self, Bool.and_true, Bool.true_and, Bool.false_and, Bool.and_false, Bool.or_true, Bool.true_or, Bool.false_or, Bool.or_false, Bool.not_true, Bool.not_false, if_true, if_false, reduceIte, Bool.false_eq_true, Nat.reduceAdd, Nat.reduceLT, Nat.reduceSub, Nat.reduceMul, Int.reduceEq, Int.reduceSub, Int.reduceMul, Int.reducePow, Int.reduceDiv, Int.reduceMod, Nat.reduceLeDiff, Nat.reduceEqDiff, and_self, and_true, true_and, Int.natCast_add, Int.reduceAdd, Int.reduceLT, Int.reduceLE, Int.reduceToNat, Int.reduceNeg, Int.toNat_zero, Int.toNat_one, Int.zero_lt_one, Int.le_refl, Int.reduceNegSucc, Int.cast_ofNat_Int, Nat.zero_add, Nat.add_zero]
            refine (seq_nx (τ1 := [some (.m [.int (u1 / 5)]), some (.m (bs'.map eb)), some (.d (.int k)), some (.d (eb ⟨l.x + l.w, b.y, b.w, b.h⟩)), some (.d (.int (u1 % 5)))]) ((ifs_t (τ1 := [some (.m [.int (u1 / 5)]), some (.m (bs'.map eb)), some (.d (.int k)), some (.d (eb b)), some (.d (.int (u1 % 5)))]) ?_).trans ?_)).trans rfl
            · simp only [encI.fEq, eN', k1, decide_true, fx, dFun, dSeq, dAsg, dN, dNew, dSetM, dRet, dRetM, dRetN, dExpr, dMt, gAppend, gExtend, gClear, dSetI, dNil, dIfS, dBrk, dCnt, dNever, dFor, dPar, dVar, dC, dOp, dUn, fI, fAdd, fSub, fLt, fLe, fGt, fGe, fNeg, isNo, fIsN, fNotN, fIxL, fIxT, dTest, dTAnd, dTOr, dTNot, dIf, dAnd, dOr, dNot, dChain, dANil, dACons, allD, dTup, dLst, dApp, dCall, dCallM, dCallC, dCallP, dAS, mkL, nMb, isM, isC, dBor, dBorF, dTBor, dYes, dIL, dIT, dR1, dR2, dGNil, dGCons, dGT, fin_nil, fin_d, fin_c, fin_m, fLen, f1, f2, fAbs, fMax2, fMin2, fInt1, fListOf, dRev, dIsi, tyOk_int, isi_int_none, isi_int_bool, isi_int_int, isi_int_str, isi_int_list, isi_int_tuple, tyOk_bool, isi_bool_none, isi_bool_bool, isi_bool_int, isi_bool_str, isi_bool_list, isi_bool_tuple, tyOk_str, isi_str_none, isi_str_bool, isi_str_int, isi_str_str, isi_str_list, isi_str_tuple, tyOk_list, isi_list_none, isi_list_bool, isi_list_int, isi_list_str, isi_list_list, isi_list_tuple, tyOk_tuple, isi_tuple_none, isi_tuple_bool, isi_tuple_int, isi_tuple_str, isi_tuple_list, isi_tuple_tuple, dIxC, dLenC, atI, ixN, okM_none, okM_d, okM_c, okM_m, fixD, fixDs, sz', Option.bind_some, Option.bind_none, Option.map_some, Option.map_none, List.map_cons, List.map_nil, List.cons_append, List.nil_append, List.length_cons, List.length_nil, List.getElem?_cons_zero, List.getElem?_cons_succ, List.set_cons_zero, List.set_cons_succ, List.replicate_succ, List.replicate_zero, List.all_cons, List.all_nil, Bool.and_self, Bool.and_true, Bool.true_and, Bool.false_and, Bool.and_false, Bool.or_true, Bool.true_or, Bool.false_or, Bool.or_false, Bool.not_true, Bool.not_false, if_true, if_false, reduceIte, Bool.false_eq_true, Nat.reduceAdd, Nat.reduceLT, Nat.reduceSub, Nat.reduceMul, Int.reduceEq, Int.reduceSub, Int.reduceMul, Int.reducePow, Int.reduceDiv, Int.reduceMod, Nat.reduceLeDiff, Nat.reduceEqDiff, and_self, and_true, true_and, Int.natCast_add, Int.reduceAdd, Int.reduceLT, Int.reduceLE, Int.reduceToNat, Int.reduceNeg, Int.toNat_zero, Int.toNat_one, Int.zero_lt_one, Int.le_refl, Int.reduceNegSucc, Int.cast_ofNat_Int, Nat.zero_add, Nat.add_zero]
            · have tup : dTup (dACons (dOp fAdd (dOp fIxT (dOp fIxL (dVar 1) (dUn fNeg (dC (.int 1)))) (dC (.int 0))) (dOp fIxT (dOp fIxL (dVar 1) (dUn fNeg (dC (.int 1)))) (dC (.int 2)))) (dACons (dOp fIxT (dVar 3) (dC (.int 1))) (dACons (dOp fIxT (dVar 3) (dC (.int 2))) (dACons (dOp fIxT (dVar 3) (dC (.int 3))) dANil)))) [some (.m [.int (u1 / 5)]), some (.d (.list (bs'.map eb))), some (.d (.int k)), some (.d (eb b)), some (.d (.int (u1 % 5)))] = some (eb ⟨l.x + l.w, b.y, b.w, b.h⟩, [some (.m [.int (u1 / 5)]), some (.d (.list (bs'.map eb))), some (.d (.int k)), some (.d (eb b)), some (.d (.int (u1 % 5)))]) := by
                have g : ∀ (f : DX) (τ : DS), f τ = some (eb l, τ) → dOp fAdd (dOp fIxT f (dC (.int 0))) (dOp fIxT f (dC (.int 2))) τ = some (.int (l.x + l.w), τ) := fun f τ h => by
                  unfold dOp
                  rw [h]
                  show ((f τ).bind _).bind _ = _
                  rw [h]
                  rfl
                have g1 := g _ _ ixn
                unfold dTup dACons
                rw [g1]
                rfl
              refine asg_nx (d := eb ⟨l.x + l.w, b.y, b.w, b.h⟩) (τ1 := [some (.m [.int (u1 / 5)]), some (.m (bs'.map eb)), some (.d (.int k)), some (.d (eb b)), some (.d (.int (u1 % 5)))]) ?_ rfl
              exact bor_eq (xs := bs'.map eb) (τ1 := [some (.m [.int (u1 / 5)]), some (.d (.list (bs'.map eb))), some (.d (.int k)), some (.d (eb b)), some (.d (.int (u1 % 5)))]) rfl tup rfl
        · refine ⟨b, ⟨ok1, hw, hh⟩, fun rest => ?_⟩
          simp only [encI.fEq, k0, k1, decide_true, decide_false, fx, dFun, dSeq, dAsg, dN, dNew, dSetM, dRet, dRetM, dRetN, dExpr, dMt, gAppend, gExtend, gClear, dSetI, dNil, dIfS, dBrk, dCnt, dNever, dFor, dPar, dVar, dC, dOp, dUn, fI, fAdd, fSub, fLt, fLe, fGt, fGe, fNeg, isNo, fIsN, fNotN, fIxL, fIxT, dTest, dTAnd, dTOr, dTNot, dIf, dAnd, dOr, dNot, dChain, dANil, dACons, allD, dTup, dLst, dApp, dCall, dCallM, dCallC, dCallP, dAS, mkL, nMb, isM, isC, dBor, dBorF, dTBor, dYes, dIL, dIT, dR1, dR2, dGNil, dGCons, dGT, fin_nil, fin_d, fin_c, fin_m, fLen, f1, f2, fAbs, fMax2, fMin2, fInt1, fListOf, dRev, dIsi, tyOk_int, isi_int_none, isi_int_bool, isi_int_int, isi_int_str, isi_int_list, isi_int_tuple, tyOk_bool, isi_bool_none, isi_bool_bool, isi_bool_int, isi_bool_str, isi_bool_list, isi_bool_tuple, tyOk_str, isi_str_none, isi_str_bool, isi_str_int, isi_str_str, isi_str_list, isi_str_tuple, tyOk_list, isi_list_none, isi_list_bool, isi_list_int, isi_list_str, isi_list_list, isi_list_tuple, tyOk_tuple, isi_tuple_none, isi_tuple_bool, isi_tuple_int, isi_tuple_str, isi_tuple_list, isi_tuple_tuple, dIxC, dLenC, atI, ixN, okM_none, okM_d, okM_c, okM_m, fixD, fixDs, sz', Option.bind_some, Option.bind_none, Option.map_some, Option.map_none, List.map_cons, List.map_nil, List.cons_append, List.nil_append, List.length_cons, List.length_nil, List.getElem?_cons_zero, List.getElem?_cons_succ, List.set_cons_zero, List.set_cons_succ, List.replicate_succ, List.replicate_zero, List.all_cons, List.all_nil, Bool.and_self, Bool.and_true, Bool.true_and, Bool.false_and, Bool.and_false, Bool.or_true, Bool.true_or, Bool.false_or, Bool.or_false, Bool.not_true, Bool.not_false, if_true, if_false, reduceIte, Bool.false_eq_true, Nat.reduceAdd, Nat.reduceLT, Nat.reduceSub, Nat.reduceMul, Int.reduceEq, Int.reduceSub, Int.reduceMul, Int.reducePow, Int.reduceDiv, Int.reduceMod, Nat.reduceLeDiff, Nat.reduceEqDiff, and_self, and_true, true_and, Int.natCast_add, Int.reduceAdd, Int.reduceLT, Int.reduceLE, Int.reduceToNat, Int.reduceNeg, Int.toNat_zero, Int.toNat_one, Int.zero_lt_one, Int.le_refl, Int.reduceNegSucc, Int.cast_ofNat_Int, Nat.zero_add, Nat.add_zero]
    obtain ⟨c, hc, hm⟩ := mid
    refine ⟨[some (.m [.int u]), some (.m (bs.map eb)), some (.d (.int k)), o3, o4], [some (.m [.int (u1 / 5)]), some (.m ((bs ++ [c]).map eb)), some (.d (.int k)), some (.d (eb c)), some (.d (.int (u1 % 5)))], dN_eq (o := o2) rfl n2, ?_, bs ++ [c], u1 / 5, some (.d (.int k)), some (.d (eb c)), some (.d (.int (u1 % 5))), by simp [hl], ?_, nM_d, nM_d, nM_d, rfl⟩
    · refine (seq_nx (τ1 := [some (.m [.int u1]), some (.m (bs.map eb)), some (.d (.int k)), some (.d (eb b)), o4]) (asg_nx (d := eb b) (τ1 := [some (.m [.int u1]), some (.m (bs.map eb)), some (.d (.int k)), o3, o4]) (callM_eq (rs := []) (ds := []) (xs := [.int u]) (ls := []) (τ1 := [some (.m [.int u]), some (.m (bs.map eb)), some (.d (.int k)), o3, o4]) rfl rfl rfl e1) (dN_eq rfl n3))).trans ?_
      refine (seq_nx (τ1 := [some (.m [.int (u1 / 5)]), some (.m (bs.map eb)), some (.d (.int k)), some (.d (eb b)), some (.d (.int (u1 % 5)))]) (asg_nx (d := .int (u1 % 5)) (τ1 := [some (.m [.int (u1 / 5)]), some (.m (bs.map eb)), some (.d (.int k)), some (.d (eb b)), o4]) (callM_eq (rs := [.d (.int 5)]) (ds := [.int 5]) (xs := [.int u1]) (τ1 := [some (.m [.int u1]), some (.m (bs.map eb)), some (.d (.int k)), some (.d (eb b)), o4]) rfl rfl rfl (L_dig (by decide) (by decide))) (dN_eq rfl n4))).trans ?_
      refine (hm _).trans ?_
      refine (apnd (i := 1) (a := dACons (dVar 3) dANil) (rs := [.d (eb c)]) (d := eb c) (xs := bs.map eb) (τ1 := [some (.m [.int (u1 / 5)]), some (.m (bs.map eb)), some (.d (.int k)), some (.d (eb c)), some (.d (.int (u1 % 5)))]) rfl rfl rfl ?_).trans (by simp)
      rw [List.length_map]; omega
    · intro x hx
      rcases List.mem_append.mp hx with h | h
      · exact hok x h
      · simp at h; rw [h]; exact hc
  obtain ⟨τ', e, bs, v', o2, o3, o4, hl, hok, n2, n3, n4, rfl⟩ := key
  refine ⟨bs, v', ?_, hok, by rw [hl, rng_len]; omega⟩
  unfold m_L_boxes
  refine fun_rt (τ := [some (.m [.int v']), some (.m (bs.map eb)), o2, o3, o4]) ?_ rfl rfl
  have ha : dACons (dCallM 0 m_L_digit (dACons (dC (.int 7)) dANil)) dANil [some (.m [.int v]), some (.m []), none, none, none] = some ([.d (.int (v % 7))], [some (.m [.int (v / 7)]), some (.m []), none, none, none]) := by simp only [L_dig, dFun, dSeq, dAsg, dN, dNew, dSetM, dRet, dRetM, dRetN, dExpr, dMt, gAppend, gExtend, gClear, dSetI, dNil, dIfS, dBrk, dCnt, dNever, dFor, dPar, dVar, dC, dOp, dUn, fI, fAdd, fSub, fLt, fLe, fGt, fGe, fNeg, isNo, fIsN, fNotN, fIxL, fIxT, dTest, dTAnd, dTOr, dTNot, dIf, dAnd, dOr, dNot, dChain, dANil, dACons, allD, dTup, dLst, dApp, dCall, dCallM, dCallC, dCallP, dAS, mkL, nMb, isM, isC, dBor, dBorF, dTBor, dYes, dIL, dIT, dR1, dR2, dGNil, dGCons, dGT, fin_nil, fin_d, fin_c, fin_m, fLen, f1, f2, fAbs, fMax2, fMin2, fInt1, fListOf, dRev, dIsi, tyOk_int, isi_int_none, isi_int_bool, isi_int_int, isi_int_str, isi_int_list, isi_int_tuple, tyOk_bool, isi_bool_none, isi_bool_bool, isi_bool_int, isi_bool_str, isi_bool_list, isi_bool_tuple, tyOk_str, isi_str_none, isi_str_bool, isi_str_int, isi_str_str, isi_str_list, isi_str_tuple, tyOk_list, isi_list_none, isi_list_bool, isi_list_int, isi_list_str, isi_list_list, isi_list_tuple, tyOk_tuple, isi_tuple_none, isi_tuple_bool, isi_tuple_int, isi_tuple_str, isi_tuple_list, isi_tuple_tuple, dIxC, dLenC, atI, ixN, okM_none, okM_d, okM_c, okM_m, fixD, fixDs, sz', Option.bind_some, Option.bind_none, Option.map_some, Option.map_none, List.map_cons, List.map_nil, List.cons_append, List.nil_append, List.length_cons, List.length_nil, List.getElem?_cons_zero, List.getElem?_cons_succ, List.set_cons_zero, List.set_cons_succ, List.replicate_succ, List.replicate_zero, List.all_cons, List.all_nil, Bool.and_self, Bool.and_true, Bool.true_and, Bool.false_and, Bool.and_false, Bool.or_true, Bool.true_or, Bool.false_or, Bool.or_false, Bool.not_true, Bool.not_false, if_true, if_false, reduceIte, Bool.false_eq_true, Nat.reduceAdd, Nat.reduceLT, Nat.reduceSub, Nat.reduceMul, Int.reduceEq, Int.reduceSub, Int.reduceMul, Int.reducePow, Int.reduceDiv, Int.reduceMod, Nat.reduceLeDiff, Nat.reduceEqDiff, and_self, and_true, true_and, Int.natCast_add, Int.reduceAdd, Int.reduceLT, Int.reduceLE, Int.reduceToNat, Int.reduceNeg, Int.toNat_zero, Int.toNat_one, Int.zero_lt_one, Int.le_refl, Int.reduceNegSucc, Int.cast_ofNat_Int, Nat.zero_add, Nat.add_zero]
  refine (seq_nx (τ1 := [some (.m [.int v]), some (.m []), none, none, none]) rfl).trans ((seq_nx ((for_eq (r1_eq (n := v % 7) (τ1 := [some (.m [.int (v / 7)]), some (.m []), none, none, none]) ha (by omega) (by omega))).trans e)).trans rfl)
def ek (S : List Cl) : List (List Int × PyData) := S.map fun p => ([p.1, p.2], .bool true)
def kx (p : Cl) : List Int := [p.1, p.2]
theorem kx_inj {p q : Cl} (h : kx p = kx q) : p = q := by
  unfold kx at h
  injection h with h1 h2
  injection h2 with h2 _
  exact Prod.ext h1 h2
theorem get_ek {p : Cl} : ∀ {S : List Cl}, (getP (ek S) (kx p)).isSome = decide (p ∈ S)
  | [] => by simp [ek, getP]
  | q :: S => by
    have ih := get_ek (p := p) (S := S)
    show (if kx q = kx p then some (PyData.bool true) else getP (ek S) (kx p)).isSome = _
    by_cases e : q = p
    · rw [if_pos (by rw [e]), decide_eq_true (by rw [e]; exact List.mem_cons_self)]; rfl
    · rw [if_neg (fun z => e (kx_inj z)), ih]
      have : (p ∈ q :: S) ↔ p ∈ S := by
        rw [List.mem_cons]
        exact ⟨fun h => h.elim (fun z => absurd z.symm e) id, .inr⟩
      simp only [this]
theorem put_ek {p : Cl} : ∀ {S : List Cl}, p ∉ S → putP (ek S) (kx p) (.bool true) = ek (S ++ [p])
  | [], _ => rfl
  | q :: S, h => by
    have ih := put_ek (p := p) (S := S) (fun z => h (List.mem_cons_of_mem _ z))
    show (if kx q = kx p then (kx q, PyData.bool true) :: ek S else (kx q, PyData.bool true) :: putP (ek S) (kx p) (.bool true)) = _
    rw [if_neg (fun z => h (by rw [kx_inj z]; exact List.mem_cons_self)), ih]; rfl
theorem put_nx {i : Nat} {e k : DX} {τ τ1 τ2 : DS} {m : List (List Int × PyData)} {c : List Int} {d : PyData} (h1 : e τ = some (d, τ1)) (h2 : k τ1 = some (tupK c, τ2)) (hm : τ2[i]? = some (some (.k m))) (hl : m.length ≤ 900) : dPutK i e k τ = some (.nx (τ2.set i (some (.k (putP m c d))))) := by
  have hz : m.length < sizeLine := Nat.lt_of_le_of_lt hl (by decide)
  unfold dPutK
  rw [h1]
  dsimp only [Option.bind]
  rw [h2]
  dsimp only
  rw [hm]
  unfold tupK
  dsimp only
  rw [tkI_map]
  dsimp only [Option.bind]
  rw [if_pos hz]
theorem ek_len (S : List Cl) : (ek S).length = S.length := List.length_map _
theorem kx_nodup {l : List Cl} (h : l.Nodup) : (l.map kx).Nodup := List.pairwise_map.mpr (h.imp fun n z => n (kx_inj z))
def ux : List Int → Cl
  | [a, b] => (a, b)
  | _ => (0, 0)
theorem keys_ec (l : List Cl) : keysD (l.map ec) = some (l.map kx) := by
  induction l with
  | nil => rfl
  | cons p l ih =>
    show (some (kx p)).bind (fun k => (keysD (l.map ec)).map (k :: ·)) = _
    rw [ih]; rfl
theorem sort_ec {l : List Cl} (hn : l.Nodup) (hl : l.length < 64) : fSortT [.list (l.map ec)] = some (.list (((srtK (l.map kx)).map ux).map ec)) := by
  have e1 : (srtK (l.map kx)).map tupK = ((srtK (l.map kx)).map ux).map ec := by
    rw [List.map_map]
    refine List.map_congr_left fun k hk => ?_
    obtain ⟨p, _, rfl⟩ := List.mem_map.mp ((srtK_perm _).mem_iff.mp hk)
    rfl
  unfold fSortT
  dsimp only
  rw [keys_ec]
  show (if _ then _ else _) = _
  rw [if_pos, e1]
  refine ⟨(kx_nodup hn), by rw [List.length_map]; omega, ?_, ?_⟩
  · intro k hk
    obtain ⟨p, hp, rfl⟩ := List.mem_map.mp hk
    cases l with
    | nil => cases hp
    | cons q l => rfl
  · cases l with
    | nil => exact Nat.le_refl _
    | cons q l => exact (by decide : 1 ≤ 2)
theorem sort_same {l m : List Cl} (hl : l.Nodup) (hm : m.Nodup) (h : ∀ p, p ∈ l ↔ p ∈ m) : srtK (l.map kx) = srtK (m.map kx) := by
  refine srtK_eq (kx_nodup hl) (srtK_sorted (kx_nodup hm)) fun x => ?_
  rw [(srtK_perm _).mem_iff, List.mem_map, List.mem_map]
  exact ⟨fun ⟨p, a, b⟩ => ⟨p, (h p).mpr a, b⟩, fun ⟨p, a, b⟩ => ⟨p, (h p).mp a, b⟩⟩
def mBody : DB := dSeq (dAsg (dOp fCat (dVar 6) (dCall m_L_cells (dACons (dOp fIxL (dVar 1) (dVar 3)) dANil))) (dN 6)) (dAsg (dOp fAdd (dVar 3) (dC (.int 1))) (dN 3))
def mCond : DT := dTAnd (dTest (dOp fLt (dApp fLen (dACons (dVar 6) dANil)) (dApp fLen (dACons (dVar 5) dANil)))) (dTest (dOp fLt (dVar 3) (dApp fLen (dACons (dVar 1) dANil))))
theorem mine_eq {d0 : PyData} {told T1 T2 : List Bx} {S fresh : List Cl} {o4 o7 : Option L} : ∀ (n : Nat) (P1 P2 : List Bx), told = T1 ++ (P1 ++ P2) ++ T2 → P2.length < n → (∀ x ∈ P1 ++ P2, okB x) → fresh.length = ((P1 ++ P2).flatMap cells).length → fresh.length ≤ 900 →
    dWh mCond mBody n [some (.d d0), some (.d (.list (told.map eb))), some (.k (ek S)), some (.d (.int ((T1.length + P1.length : Nat) : Int))), o4, some (.d (.list (fresh.map ec))), some (.d (.list ((P1.flatMap cells).map ec))), o7] =
      some (.nx [some (.d d0), some (.d (.list (told.map eb))), some (.k (ek S)), some (.d (.int ((T1.length + (P1 ++ P2).length : Nat) : Int))), o4, some (.d (.list (fresh.map ec))), some (.d (.list (((P1 ++ P2).flatMap cells).map ec))), o7])
  | 0, _, _, _, h, _, _, _ => absurd h (Nat.not_lt_zero _)
  | n + 1, P1, P2, ht, hn, hok, hf, hz => by
    let st : Nat → List Cl → DS := fun a m => [some (.d d0), some (.d (.list (told.map eb))), some (.k (ek S)), some (.d (.int (a : Int))), o4, some (.d (.list (fresh.map ec))), some (.d (.list (m.map ec))), o7]
    have t1 : dTest (dOp fLt (dApp fLen (dACons (dVar 6) dANil)) (dApp fLen (dACons (dVar 5) dANil))) (st (T1.length + P1.length) (P1.flatMap cells)) = some (decide (((P1.flatMap cells).length : Int) < (fresh.length : Int)), st (T1.length + P1.length) (P1.flatMap cells)) := by
      refine tst (op2 (x := .int ((P1.flatMap cells).length : Int)) (y := .int (fresh.length : Int)) (τ1 := st (T1.length + P1.length) (P1.flatMap cells)) ?_ ?_ rfl)
      · show some (PyData.int (((P1.flatMap cells).map ec).length : Int), _) = _
        rw [List.length_map]
      · show some (PyData.int ((fresh.map ec).length : Int), _) = _
        rw [List.length_map]
    have t2 : dTest (dOp fLt (dVar 3) (dApp fLen (dACons (dVar 1) dANil))) (st (T1.length + P1.length) (P1.flatMap cells)) = some (decide (((T1.length + P1.length : Nat) : Int) < (told.length : Int)), st (T1.length + P1.length) (P1.flatMap cells)) := by
      refine tst (op2 (x := .int ((T1.length + P1.length : Nat) : Int)) (y := .int (told.length : Int)) (τ1 := st (T1.length + P1.length) (P1.flatMap cells)) rfl ?_ rfl)
      show some (PyData.int ((told.map eb).length : Int), _) = _
      rw [List.length_map]
    have tc := tand t1 t2
    show dWh mCond mBody (n + 1) (st (T1.length + P1.length) (P1.flatMap cells)) = some (.nx (st (T1.length + (P1 ++ P2).length) ((P1 ++ P2).flatMap cells)))
    unfold dWh
    rw [show mCond (st (T1.length + P1.length) (P1.flatMap cells)) = _ from tc]
    cases P2 with
    | nil =>
      rw [List.append_nil] at hf ⊢
      rw [decide_eq_false (by omega : ¬ ((P1.flatMap cells).length : Int) < (fresh.length : Int))]
      rfl
    | cons q P2 =>
      have okq : okB q := hok q (by simp)
      have L1 : ((P1 ++ q :: P2).flatMap cells).length = (P1.flatMap cells).length + ((cells q).length + (P2.flatMap cells).length) := by
        rw [List.flatMap_append, List.flatMap_cons, List.length_append, List.length_append]
      have pq : 0 < (cells q).length := by
        refine List.length_pos_iff.mpr (List.ne_nil_of_mem ((mem_cells (b := q) (p := (q.x, q.y))).mpr ?_))
        unfold okB at okq
        unfold inB
        dsimp only
        omega
      have tl : told.length = T1.length + (P1.length + (P2.length + 1)) + T2.length := by
        rw [ht, List.length_append, List.length_append, List.length_append, List.length_cons]
      rw [decide_eq_true (by omega : ((P1.flatMap cells).length : Int) < (fresh.length : Int)), decide_eq_true (by omega : ((T1.length + P1.length : Nat) : Int) < (told.length : Int))]
      have ix : fIxL (.list (told.map eb)) (.int ((T1.length + P1.length : Nat) : Int)) = some (eb q) := by
        show atI (told.map eb) _ = _
        unfold atI ixN
        rw [List.length_map, if_pos (by omega), if_pos (by omega), Int.toNat_natCast]
        show (told.map eb)[T1.length + P1.length]? = _
        rw [List.getElem?_map, ht, List.append_assoc, List.getElem?_append_right (by omega), Nat.add_sub_cancel_left, List.append_assoc, List.getElem?_append_right (by omega), Nat.sub_self]
        rfl
      have s1 : dAsg (dOp fCat (dVar 6) (dCall m_L_cells (dACons (dOp fIxL (dVar 1) (dVar 3)) dANil))) (dN 6) (st (T1.length + P1.length) (P1.flatMap cells)) = some (.nx (st (T1.length + P1.length) ((P1 ++ [q]).flatMap cells))) := by
        refine asg_nx (d := .list (((P1 ++ [q]).flatMap cells).map ec)) (τ1 := st (T1.length + P1.length) (P1.flatMap cells)) ?_ rfl
        refine op2 (x := .list ((P1.flatMap cells).map ec)) (y := .list ((cells q).map ec)) (τ1 := st (T1.length + P1.length) (P1.flatMap cells)) rfl (call_eq (rs := [.d (eb q)]) (ds := [eb q]) (acc (op2 (x := .list (told.map eb)) (y := .int ((T1.length + P1.length : Nat) : Int)) (τ1 := st (T1.length + P1.length) (P1.flatMap cells)) rfl rfl ix) rfl) rfl (L_cells okq)) ?_
        rw [cat_eq (by rw [List.length_map, List.length_map]; omega), ← List.map_append, List.flatMap_append, List.flatMap_singleton]
      have s2 : dAsg (dOp fAdd (dVar 3) (dC (.int 1))) (dN 3) (st (T1.length + P1.length) ((P1 ++ [q]).flatMap cells)) = some (.nx (st (T1.length + (P1 ++ [q]).length) ((P1 ++ [q]).flatMap cells))) := by
        refine asg_nx (d := .int ((T1.length + (P1 ++ [q]).length : Nat) : Int)) (τ1 := st (T1.length + P1.length) ((P1 ++ [q]).flatMap cells)) ?_ rfl
        refine op2 (x := .int ((T1.length + P1.length : Nat) : Int)) (y := .int 1) (τ1 := st (T1.length + P1.length) ((P1 ++ [q]).flatMap cells)) rfl rfl ?_
        show some (PyData.int _) = some (PyData.int _)
        congr 2
        rw [List.length_append, List.length_singleton]
        omega
      have sb : mBody (st (T1.length + P1.length) (P1.flatMap cells)) = some (.nx (st (T1.length + (P1 ++ [q]).length) ((P1 ++ [q]).flatMap cells))) := (seq_nx s1).trans s2
      have e : P1 ++ q :: P2 = P1 ++ [q] ++ P2 := by simp
      have ih := mine_eq (d0 := d0) (told := told) (T1 := T1) (T2 := T2) (S := S) (fresh := fresh) (o4 := o4) (o7 := o7) n (P1 ++ [q]) P2 (by rw [← e]; exact ht) (by rw [List.length_cons] at hn; omega) (by rw [← e]; exact hok) (by rw [← e]; exact hf) hz
      rw [← e] at ih
      show ((mBody (st (T1.length + P1.length) (P1.flatMap cells))).bind _) = _
      rw [sb]
      exact ih
theorem fresh_eq {d0 d1 : PyData} {a : Int} {b : Bx} {S : List Cl} {o5 o6 o7 : Option L} (n5 : nM o5) (n6 : nM o6) (n7 : nM o7) (ok : okB b) :
    dBorF 2 (dLC 1 [2] (dIL (dCall m_L_cells (dACons (dVar 4) dANil))) (dN 0) (dTest (dOp (fInD true) (dVar 0) (dVar 1))) (dVar 0)) [some (.d d0), some (.d d1), some (.k (ek S)), some (.d (.int a)), some (.d (eb b)), o5, o6, o7] = some (.list (((cells b).filter fun p => !decide (p ∈ S)).map ec), [some (.d d0), some (.d d1), some (.k (ek S)), some (.d (.int a)), some (.d (eb b)), o5, o6, o7]) := by
  let D : Option L := some (.d (.dict (dctP (ek S))))
  let τ1 : DS := [some (.d d0), some (.d d1), D, some (.d (.int a)), some (.d (eb b)), o5, o6, o7]
  have hlen : (cells b).length ≤ 144 := by
    rw [cells_len]
    unfold okB at ok
    have : b.h.toNat * b.w.toNat ≤ 12 * 12 := Nat.mul_le_mul (by omega) (by omega)
    omega
  obtain ⟨τ', e⟩ := lc_list (enc := ec) (g := dN 0) (c := dTest (dOp (fInD true) (dVar 0) (dVar 1))) (e := dVar 0) (fun τ => ∃ o, nM o ∧ τ = [o, D]) (fun p => !decide (p ∈ S)) ec (xs := cells b) (acc := []) (τ := [none, D]) ⟨none, nM_none, rfl⟩ (by
    rintro p τ _ ⟨o, ho, rfl⟩
    let C : Option L := some (.d (ec p))
    have e2 : dTest (dOp (fInD true) (dVar 0) (dVar 1)) [C, D] = some (!decide (p ∈ S), [C, D]) := by
      refine tst (op2 (x := ec p) (y := .dict (dctP (ek S))) (τ1 := [C, D]) rfl rfl ?_)
      rw [show ec p = tupK (kx p) from rfl, inD_eq, get_ek]
      cases decide (p ∈ S) <;> rfl
    exact ⟨[C, D], [C, D], dN_eq (o := o) rfl ho, e2, fun _ => ⟨C, nM_d, rfl⟩, fun _ => ⟨[C, D], rfl, C, nM_d, rfl⟩⟩)
  have lc : dLC 1 [2] (dIL (dCall m_L_cells (dACons (dVar 4) dANil))) (dN 0) (dTest (dOp (fInD true) (dVar 0) (dVar 1))) (dVar 0) τ1 = some (.list (((cells b).filter fun p => !decide (p ∈ S)).map ec), τ1) := by
    refine dlc_eq (ds := (cells b).map ec) ?_ (sz (by rw [List.length_map]; omega)) rfl e
    unfold dIL
    rw [call_eq (rs := [.d (eb b)]) (ds := [eb b]) (τ := τ1) (τ1 := τ1) rfl rfl (L_cells ok)]
    rfl
  unfold dBorF
  show ((dLC 1 [2] (dIL (dCall m_L_cells (dACons (dVar 4) dANil))) (dN 0) (dTest (dOp (fInD true) (dVar 0) (dVar 1))) (dVar 0) τ1).bind _) = _
  rw [lc]
  show (if (fixDs (((cells b).filter fun p => !decide (p ∈ S)).map ec) && τ1.all okM) = true then _ else _) = _
  have ok : τ1.all okM = true := by
    show (true && (true && (true && (true && (true && (okM o5 && (okM o6 && (okM o7 && true)))))))) = true
    rw [okM_n n5, okM_n n6, okM_n n7]; rfl
  rw [show fixDs (((cells b).filter fun p => !decide (p ∈ S)).map ec) = true from encC.fixL _, ok]
  rfl
theorem seen_eq {d0 d1 : PyData} {a : Int} {S F : List Cl} {o4 o5 o6 o7 : Option L} (n7 : nM o7) (hn : F.Nodup) (hd : ∀ p ∈ F, p ∉ S) (hl : S.length + F.length ≤ 900) :
    ∃ q7, nM q7 ∧ dLoop (dN 7) (dPutK 2 (dC (.bool true)) (dVar 7)) (F.map ec) [some (.d d0), some (.d d1), some (.k (ek S)), some (.d (.int a)), o4, o5, o6, o7] = some (.nx [some (.d d0), some (.d d1), some (.k (ek (S ++ F))), some (.d (.int a)), o4, o5, o6, q7]) := by
  let st : List Cl → Option L → DS := fun S o => [some (.d d0), some (.d d1), some (.k (ek S)), some (.d (.int a)), o4, o5, o6, o]
  obtain ⟨τ', e, q7, m7, rfl⟩ := loop_pre (enc := ec) (g := dN 7) (b := dPutK 2 (dC (.bool true)) (dVar 7)) (xs := F) (τ := st S o7) (fun pre τ => ∃ o, nM o ∧ τ = st (S ++ pre) o) ⟨o7, n7, by rw [List.append_nil]⟩ (by
    rintro pre p post τ hp ⟨o, ho, rfl⟩
    have hl' := split_len hp
    have np : p ∉ S ++ pre := by
      intro z
      rcases List.mem_append.mp z with z | z
      · exact hd p (split_mem hp) z
      · rw [hp] at hn
        exact (List.nodup_append.mp hn).2.2 p z p List.mem_cons_self rfl
    have e := put_nx (i := 2) (e := dC (.bool true)) (k := dVar 7) (τ := st (S ++ pre) (some (.d (ec p)))) (τ1 := st (S ++ pre) (some (.d (ec p)))) (τ2 := st (S ++ pre) (some (.d (ec p)))) (m := ek (S ++ pre)) (c := kx p) (d := .bool true) rfl rfl rfl (by rw [ek_len, List.length_append]; omega)
    rw [put_ek np, List.append_assoc] at e
    exact ⟨_, _, dN_eq (o := o) rfl ho, e, some (.d (ec p)), nM_d, rfl⟩)
  exact ⟨q7, m7, e⟩
theorem app1 {F : List PyData → Option PyData} {f : DX} {τ τ1 : DS} {d r : PyData} (h : f τ = some (d, τ1)) (e : F [d] = some r) : dApp F (dACons f dANil) τ = some (r, τ1) := by
  unfold dApp
  rw [acc h rfl]
  show ((F [d]).map _) = _
  rw [e]; rfl
theorem part_ok {b x : Bx} {pre : List Bx} (hb : okB b ∧ b.w ≤ 7 ∧ b.h ≤ 6) (hp : ∀ c ∈ pre, posB c) (hx : x ∈ allL b pre) : okB x := by
  obtain ⟨⟨w1, w2, h1, h2⟩, w7, h6⟩ := hb
  obtain ⟨_, ps, mm⟩ := allL_cells (b := b) (cs := pre) ⟨by omega, by omega⟩ hp
  obtain ⟨xw, xh⟩ := ps x hx
  have a1 := (mm (x.x, x.y)).mp (List.mem_flatMap.mpr ⟨x, hx, mem_cells.mpr (by unfold inB; dsimp only; omega)⟩)
  have a2 := (mm (x.x + x.w - 1, x.y + x.h - 1)).mp (List.mem_flatMap.mpr ⟨x, hx, mem_cells.mpr (by unfold inB; dsimp only; omega)⟩)
  have a1 := a1.1
  have a2 := a2.1
  unfold inB at a1 a2
  dsimp only at a1 a2
  unfold okB
  omega
def freshD : DX := dBorF 2 (dLC 1 [2] (dIL (dCall m_L_cells (dACons (dVar 4) dANil))) (dN 0) (dTest (dOp (fInD true) (dVar 0) (dVar 1))) (dVar 0))
def rBody : DB := dSeq (dAsg freshD (dN 5)) (dSeq (dAsg (dLst dANil) (dN 6)) (dSeq (dWhile (fun _ => 100000) mCond mBody) (dSeq (dIfS (dTest (dOp fNe (dApp fSortT (dACons (dVar 6) dANil)) (dApp fSortT (dACons (dVar 5) dANil)))) (dRet (dC (.bool false))) dNil) (dFor (dIL (dVar 5)) (dN 7) (dPutK 2 (dC (.bool true)) (dVar 7))))))
theorem right_step {d0 : PyData} {told T1 T2 pre : List Bx} {b : Bx} {S : List Cl} (ht : told = T1 ++ allL b pre ++ T2) (hb : okB b ∧ b.w ≤ 7 ∧ b.h ≤ 6) (hp : ∀ c ∈ pre, posB c) (hl6 : pre.length ≤ 6) (hS : ∀ p, p ∈ S ↔ ∃ c ∈ pre, inB c p) (hSl : S.length ≤ 300) {o5 o6 o7 : Option L} (n5 : nM o5) (n6 : nM o6) (n7 : nM o7) :
    ∃ S' q5 q6 q7, nM q5 ∧ nM q6 ∧ nM q7 ∧ (∀ p, p ∈ S' ↔ ∃ c ∈ pre ++ [b], inB c p) ∧ S'.length ≤ S.length + 42 ∧
      rBody [some (.d d0), some (.d (.list (told.map eb))), some (.k (ek S)), some (.d (.int ((T1.length : Nat) : Int))), some (.d (eb b)), o5, o6, o7] = some (.nx [some (.d d0), some (.d (.list (told.map eb))), some (.k (ek S')), some (.d (.int (((T1 ++ allL b pre).length : Nat) : Int))), some (.d (eb b)), q5, q6, q7]) := by
  let st : List Cl → Nat → Option L → Option L → Option L → DS := fun S a x y z => [some (.d d0), some (.d (.list (told.map eb))), some (.k (ek S)), some (.d (.int (a : Int))), some (.d (eb b)), x, y, z]
  let F := (cells b).filter fun p => !decide (p ∈ S)
  let M := (allL b pre).flatMap cells
  have pb : posB b := by obtain ⟨⟨_, _, _, _⟩, _, _⟩ := hb; exact ⟨by omega, by omega⟩
  obtain ⟨mn, mp, mm⟩ := allL_cells (b := b) (cs := pre) pb hp
  have cn : (cells b).Nodup := (cells_sorted b).imp fun {p q} h z => by subst z; exact lt2_as p p h h
  have fn : F.Nodup := List.Pairwise.filter _ cn
  have fm : ∀ p, p ∈ F ↔ p ∈ M := by
    intro p
    show p ∈ (cells b).filter _ ↔ _
    rw [mm p, List.mem_filter, mem_cells]
    have := hS p
    constructor
    · rintro ⟨h1, h2⟩
      refine ⟨h1, fun c hc z => ?_⟩
      have : p ∈ S := this.mpr ⟨c, hc, z⟩
      rw [decide_eq_true this] at h2
      cases h2
    · rintro ⟨h1, h2⟩
      refine ⟨h1, ?_⟩
      have : p ∉ S := fun z => by
        obtain ⟨c, hc, z⟩ := this.mp z
        exact h2 c hc z
      rw [decide_eq_false this]; rfl
  have ss := sort_same mn fn (fun p => (fm p).symm)
  have fl : F.length = M.length := by
    have h1 := (srtK_perm (F.map kx)).length_eq
    have h2 := (srtK_perm (M.map kx)).length_eq
    rw [List.length_map] at h1 h2
    have : srtK (M.map kx) = srtK (F.map kx) := ss
    rw [this] at h2
    omega
  have fl42 : F.length ≤ 42 := by
    have := List.length_filter_le (fun p => !decide (p ∈ S)) (cells b)
    rw [cells_len] at this
    obtain ⟨⟨_, _, _, _⟩, _, _⟩ := hb
    have h3 : b.h.toNat * b.w.toNat ≤ 6 * 7 := Nat.mul_le_mul (by omega) (by omega)
    show ((cells b).filter _).length ≤ 42
    omega
  have pl : (allL b pre).length ≤ 4096 := by
    have h1 : (allL b pre).length ≤ 4 ^ pre.length * 1 := allL_len pre [b]
    have h2 := pow4 (n := pre.length) hl6
    omega
  let FO : Option L := some (.d (.list (F.map ec)))
  let MO : Option L := some (.d (.list (M.map ec)))
  let EO : Option L := some (.d (.list []))
  have s1 : dAsg freshD (dN 5) (st S T1.length o5 o6 o7) = some (.nx (st S T1.length FO o6 o7)) :=
    asg_nx (d := .list (F.map ec)) (τ1 := st S T1.length o5 o6 o7) (fresh_eq n5 n6 n7 hb.1) (dN_eq rfl n5)
  have s2 : dAsg (dLst dANil) (dN 6) (st S T1.length FO o6 o7) = some (.nx (st S T1.length FO EO o7)) :=
    asg_nx (d := .list []) (τ1 := st S T1.length FO o6 o7) rfl (dN_eq rfl n6)
  have s3 : dWhile (fun _ => 100000) mCond mBody (st S T1.length FO EO o7) = some (.nx (st S (T1 ++ allL b pre).length FO MO o7)) := by
    have := mine_eq (d0 := d0) (told := told) (T1 := T1) (T2 := T2) (S := S) (fresh := F) (o4 := some (.d (eb b))) (o7 := o7) 100000 [] (allL b pre) (by rw [List.nil_append]; exact ht) (by omega) (fun x hx => part_ok hb hp hx) (by rw [List.nil_append]; exact fl) (by omega)
    rw [List.nil_append, List.length_nil, Nat.add_zero, List.flatMap_nil, List.map_nil, ← List.length_append] at this
    exact this
  have s4 : dTest (dOp fNe (dApp fSortT (dACons (dVar 6) dANil)) (dApp fSortT (dACons (dVar 5) dANil))) (st S (T1 ++ allL b pre).length FO MO o7) = some (false, st S (T1 ++ allL b pre).length FO MO o7) := by
    refine tst (op2 (τ1 := st S (T1 ++ allL b pre).length FO MO o7) (app1 (d := .list (M.map ec)) rfl (sort_ec mn (by omega))) (app1 (d := .list (F.map ec)) rfl (sort_ec fn (by omega))) ?_)
    rw [encC.fNeL, show srtK (M.map kx) = srtK (F.map kx) from ss, decide_eq_true rfl]; rfl
  obtain ⟨q7, m7, s5⟩ := seen_eq (d0 := d0) (d1 := .list (told.map eb)) (a := (((T1 ++ allL b pre).length : Nat) : Int)) (S := S) (F := F) (o4 := some (.d (eb b))) (o5 := FO) (o6 := MO) n7 fn (fun p h => by
    have := (List.mem_filter.mp h).2
    intro z
    rw [decide_eq_true z] at this
    cases this) (by omega)
  refine ⟨S ++ F, FO, MO, q7, nM_d, nM_d, m7, fun p => ?_, by rw [List.length_append]; omega, ?_⟩
  · rw [List.mem_append, hS p, fm p, mm p]
    constructor
    · rintro (⟨c, h1, h2⟩ | ⟨h1, _⟩)
      · exact ⟨c, List.mem_append_left _ h1, h2⟩
      · exact ⟨b, by simp, h1⟩
    · rintro ⟨c, h1, h2⟩
      by_cases z : ∃ c ∈ pre, inB c p
      · exact .inl z
      · refine .inr ⟨?_, fun c hc y => z ⟨c, hc, y⟩⟩
        rcases List.mem_append.mp h1 with h | h
        · exact absurd ⟨c, h, h2⟩ z
        · rw [List.mem_singleton.mp h] at h2; exact h2
  · unfold rBody
    refine (seq_nx s1).trans ((seq_nx s2).trans ((seq_nx s3).trans ((seq_nx (ifs_f s4)).trans ((for_eq (ds := F.map ec) (τ1 := st S (T1 ++ allL b pre).length FO MO o7) rfl).trans s5))))
theorem parted_split {bs pre post : List Bx} {b : Bx} (h : bs = pre ++ b :: post) : ∃ T2, partedL bs = (List.range pre.length).flatMap (partK bs) ++ allL b pre ++ T2 := by
  have e : bs.length = pre.length + (post.length + 1) := by rw [h]; simp
  have pk : partK bs pre.length = allL b pre := by
    unfold partK
    rw [h, List.getD_eq_getElem?_getD, List.getElem?_append_right (Nat.le_refl _), Nat.sub_self, List.take_left]
    rfl
  refine ⟨((List.range post.length).map fun i => pre.length + (i + 1)).flatMap (partK bs), ?_⟩
  unfold partedL
  rw [e, List.range_add, List.range_succ_eq_map, List.map_cons, List.map_map, List.flatMap_append, List.flatMap_cons, Nat.add_zero, pk, List.append_assoc]
  rfl
theorem parted_snoc {bs pre post : List Bx} {b : Bx} (h : bs = pre ++ b :: post) : (List.range (pre ++ [b]).length).flatMap (partK bs) = (List.range pre.length).flatMap (partK bs) ++ allL b pre := by
  have pk : partK bs pre.length = allL b pre := by
    unfold partK
    rw [h, List.getD_eq_getElem?_getD, List.getElem?_append_right (Nat.le_refl _), Nat.sub_self, List.take_left]
    rfl
  rw [List.length_append, List.length_singleton, List.range_succ, List.flatMap_append, List.flatMap_singleton, pk]
theorem right_eq {bs : List Bx} (hok : ∀ b ∈ bs, okB b ∧ b.w ≤ 7 ∧ b.h ≤ 6) (hz : bs.length ≤ 6) : ∃ ls, m_L_right [.d (.list (bs.map eb)), .d (.list ((partedL bs).map eb))] = some (.bool true, ls) := by
  let st : List Cl → Nat → Option L → Option L → Option L → Option L → DS := fun S a w x y z => [some (.d (.list (bs.map eb))), some (.d (.list ((partedL bs).map eb))), some (.k (ek S)), some (.d (.int (a : Int))), w, x, y, z]
  have hp : ∀ b ∈ bs, posB b := fun b h => by obtain ⟨⟨_, _, _, _⟩, _, _⟩ := hok b h; exact ⟨by omega, by omega⟩
  obtain ⟨τ', e, S, o4, o5, o6, o7, n4, n5, n6, n7, _, _, rfl⟩ := loop_pre (enc := eb) (g := dN 4) (b := rBody) (xs := bs) (τ := st [] 0 none none none none)
    (fun pre τ => ∃ S o4 o5 o6 o7, nM o4 ∧ nM o5 ∧ nM o6 ∧ nM o7 ∧ (∀ p, p ∈ S ↔ ∃ c ∈ pre, inB c p) ∧ S.length ≤ 42 * pre.length ∧ τ = st S ((List.range pre.length).flatMap (partK bs)).length o4 o5 o6 o7)
    ⟨[], none, none, none, none, nM_none, nM_none, nM_none, nM_none, fun p => by simp, Nat.zero_le _, rfl⟩ (by
    rintro pre b post τ hsp ⟨S, o4, o5, o6, o7, n4, n5, n6, n7, hS, hSl, rfl⟩
    have hl := split_len hsp
    obtain ⟨T2, ht⟩ := parted_split hsp
    obtain ⟨S', q5, q6, q7, m5, m6, m7, hS', hSl', eb'⟩ := right_step (d0 := .list (bs.map eb)) ht (hok b (split_mem hsp)) (fun c h => hp c (pre_mem hsp h)) (by omega) hS (by omega) n5 n6 n7
    rw [← parted_snoc hsp] at eb'
    exact ⟨st S ((List.range pre.length).flatMap (partK bs)).length (some (.d (eb b))) o5 o6 o7, _, dN_eq (o := o4) rfl n4, eb', S', some (.d (eb b)), q5, q6, q7, nM_d, m5, m6, m7, hS', by rw [List.length_append, List.length_singleton]; omega, rfl⟩)
  have tp : m_L_tuples [.d (.list ((partedL bs).map eb)), .d (.int 4)] = some (.bool true, [.d (.list ((partedL bs).map eb)), .d (.int 4)]) := L_tuples (n := 4) fun d hd => by
    obtain ⟨x, _, rfl⟩ := List.mem_map.mp hd
    exact tupI_eb x
  let s0 : DS := [some (.d (.list (bs.map eb))), some (.d (.list ((partedL bs).map eb))), none, none, none, none, none, none]
  have t0 : dTNot (dTest (dCall m_L_tuples (dACons (dVar 1) (dACons (dC (.int 4)) dANil)))) s0 = some (false, s0) := tnot (tst (call_eq (rs := [.d (.list ((partedL bs).map eb)), .d (.int 4)]) (ds := [.list ((partedL bs).map eb), .int 4]) (τ1 := s0) rfl rfl tp))
  unfold m_L_right
  refine ⟨_, fun_rt (τ := st S (partedL bs).length o4 o5 o6 o7) ?_ rfl rfl⟩
  refine (seq_nx (ifs_f t0)).trans ?_
  refine (seq_nx (τ1 := [some (.d (.list (bs.map eb))), some (.d (.list ((partedL bs).map eb))), some (.k []), none, none, none, none, none]) rfl).trans ?_
  refine (seq_nx (τ1 := st [] 0 none none none none) rfl).trans ?_
  refine (seq_nx ((for_eq (ds := bs.map eb) (τ1 := st [] 0 none none none none) rfl).trans e)).trans ?_
  have er : dOp fEq (dVar 3) (dApp fLen (dACons (dVar 1) dANil)) (st S (partedL bs).length o4 o5 o6 o7) = some (.bool true, st S (partedL bs).length o4 o5 o6 o7) := by
    refine op2 (x := .int ((partedL bs).length : Int)) (y := .int ((partedL bs).length : Int)) (τ1 := st S (partedL bs).length o4 o5 o6 o7) rfl (app1 (d := .list ((partedL bs).map eb)) rfl ?_) (by rw [encI.fEq, decide_eq_true rfl])
    show some (PyData.int (((partedL bs).map eb).length : Int)) = _
    rw [List.length_map]
  show dRet (dOp fEq (dVar 3) (dApp fLen (dACons (dVar 1) dANil))) (st S (partedL bs).length o4 o5 o6 o7) = _
  unfold dRet
  rw [er]; rfl
theorem m_law_holds (ns : List Int) (_ : ns.length ≤ 63) : ∃ ls, m_law [.c (ns.map .int)] = some (.bool true, ls) := by
  obtain ⟨v, lv, ev⟩ := L_big (ns := ns) (k := 0) (by decide)
  obtain ⟨bs, v1, e1, ok1, l1⟩ := boxes_eq v
  obtain ⟨cs, v2, e2, ok2, l2⟩ := boxes_eq v1
  have pos : ∀ {ds : List Bx}, (∀ b ∈ ds, okB b ∧ b.w ≤ 7 ∧ b.h ≤ 6) → ∀ b ∈ ds, posB b := fun h b hb => by obtain ⟨⟨_, _, _, _⟩, _, _⟩ := h b hb; exact ⟨by omega, by omega⟩
  have p1 := boxes_parted_eq (bs := bs) (pos ok1) l1
  have p2 := boxes_parted_eq (bs := cs) (pos ok2) l2
  have du := L_due_eq (bs := bs) (pos ok1) l1
  obtain ⟨r1, er1⟩ := right_eq ok1 l1
  obtain ⟨r2, er2⟩ := right_eq ok2 l2
  let Lb : PyData := .list (bs.map eb)
  let Lc : PyData := .list (cs.map eb)
  let T : PyData := .list ((partedL bs).map eb)
  let s0 : DS := [some (.c (ns.map .int)), none, none, none, none, none, none]
  let st : Int → Option L → Option L → Option L → Option L → Option L → DS := fun v a b c d e => [some (.c (ns.map .int)), some (.m [.int v]), a, b, c, d, e]
  let B : Option L := some (.d Lb)
  let C : Option L := some (.d Lc)
  let TM : Option L := some (.m ((partedL bs).map eb))
  let TD : Option L := some (.d T)
  have nT : fNe T T = some (.bool false) := by rw [show T = .list ((partedL bs).map eb) from rfl, encB.fNeL, decide_eq_true rfl]; rfl
  have nB : fNe Lb Lb = some (.bool false) := by rw [show Lb = .list (bs.map eb) from rfl, encB.fNeL, decide_eq_true rfl]; rfl
  have qT : fEq T T = some (.bool true) := by rw [show T = .list ((partedL bs).map eb) from rfl, encB.fEqL, decide_eq_true rfl]
  have s1 : dSetM 1 1 (dLst (dACons (dCallC 0 m_L_big (dACons (dC (.int 0)) dANil)) dANil)) s0 = some (.nx (st v none none none none none)) := by
    simp only [s0, st, ev, dFun, dSeq, dAsg, dN, dNew, dSetM, dRet, dRetM, dRetN, dExpr, dMt, gAppend, gExtend, gClear, dSetI, dNil, dIfS, dBrk, dCnt, dNever, dFor, dPar, dVar, dC, dOp, dUn, fI, fAdd, fSub, fLt, fLe, fGt, fGe, fNeg, isNo, fIsN, fNotN, fIxL, fIxT, dTest, dTAnd, dTOr, dTNot, dIf, dAnd, dOr, dNot, dChain, dANil, dACons, allD, dTup, dLst, dApp, dCall, dCallM, dCallC, dCallP, dAS, mkL, nMb, isM, isC, dBor, dBorF, dTBor, dYes, dIL, dIT, dR1, dR2, dGNil, dGCons, dGT, fin_nil, fin_d, fin_c, fin_m, fLen, f1, f2, fAbs, fMax2, fMin2, fInt1, fListOf, dRev, dIsi, tyOk_int, isi_int_none, isi_int_bool, isi_int_int, isi_int_str, isi_int_list, isi_int_tuple, tyOk_bool, isi_bool_none, isi_bool_bool, isi_bool_int, isi_bool_str, isi_bool_list, isi_bool_tuple, tyOk_str, isi_str_none, isi_str_bool, isi_str_int, isi_str_str, isi_str_list, isi_str_tuple, tyOk_list, isi_list_none, isi_list_bool, isi_list_int, isi_list_str, isi_list_list, isi_list_tuple, tyOk_tuple, isi_tuple_none, isi_tuple_bool, isi_tuple_int, isi_tuple_str, isi_tuple_list, isi_tuple_tuple, dIxC, dLenC, atI, ixN, okM_none, okM_d, okM_c, okM_m, fixD, fixDs, sz', Option.bind_some, Option.bind_none, Option.map_some, Option.map_none, List.map_cons, List.map_nil, List.cons_append, List.nil_append, List.length_cons, List.length_nil, List.getElem?_cons_zero, List.getElem?_cons_succ, List.set_cons_zero, List.set_cons_succ, List.replicate_succ, List.replicate_zero, List.all_cons, List.all_nil, Bool.and_self, Bool.and_true, Bool.true_and, Bool.false_and, Bool.and_false, Bool.or_true, Bool.true_or, Bool.false_or, Bool.or_false, Bool.not_true, Bool.not_false, if_true, if_false, reduceIte, Bool.false_eq_true, Nat.reduceAdd, Nat.reduceLT, Nat.reduceSub, Nat.reduceMul, Int.reduceEq, Int.reduceSub, Int.reduceMul, Int.reducePow, Int.reduceDiv, Int.reduceMod, Nat.reduceLeDiff, Nat.reduceEqDiff, and_self, and_true, true_and, Int.natCast_add, Int.reduceAdd, Int.reduceLT, Int.reduceLE, Int.reduceToNat, Int.reduceNeg, Int.toNat_zero, Int.toNat_one, Int.zero_lt_one, Int.le_refl, Int.reduceNegSucc, Int.cast_ofNat_Int, Nat.zero_add, Nat.add_zero]
  have s2 : dAsg (dCallM 1 m_L_boxes dANil) (dN 2) (st v none none none none none) = some (.nx (st v1 B none none none none)) :=
    asg_nx (d := Lb) (τ1 := st v1 none none none none none) (callM_eq (rs := []) (ds := []) (xs := [.int v]) (ls := []) (τ1 := st v none none none none none) rfl rfl rfl e1) rfl
  have s3 : dAsg (dCallM 1 m_L_boxes dANil) (dN 3) (st v1 B none none none none) = some (.nx (st v2 B C none none none)) :=
    asg_nx (d := Lc) (τ1 := st v2 B none none none none) (callM_eq (rs := []) (ds := []) (xs := [.int v1]) (ls := []) (τ1 := st v1 B none none none none) rfl rfl rfl e2) rfl
  have s4 : dAsg (dApp fListOf (dACons (dVar 2) dANil)) (dN 4) (st v2 B C none none none) = some (.nx (st v2 B C B none none)) := rfl
  have c5 : ∀ o5 o6, dCall m_boxes_parted (dACons (dVar 4) dANil) (st v2 B C B o5 o6) = some (T, st v2 B C B o5 o6) := fun o5 o6 =>
    call_eq (rs := [.d Lb]) (ds := [Lb]) (τ1 := st v2 B C B o5 o6) rfl rfl p1
  have s5 : dSetM 1 5 (dCall m_boxes_parted (dACons (dVar 4) dANil)) (st v2 B C B none none) = some (.nx (st v2 B C B TM none)) :=
    setM_nx (xs := (partedL bs).map eb) (c5 none none) (by decide) (by show 5 < 7; decide) rfl
  have s6 : dAsg (dCall m_L_due (dACons (dVar 2) dANil)) (dN 6) (st v2 B C B TM none) = some (.nx (st v2 B C B TM TD)) :=
    asg_nx (d := T) (τ1 := st v2 B C B TM none) (call_eq (rs := [.d Lb]) (ds := [Lb]) rfl rfl du) rfl
  have t7 : dTBor 5 (dTOr (dTNot (dTest (dCall m_L_right (dACons (dVar 2) (dACons (dVar 5) dANil))))) (dTOr (dTest (dOp fNe (dVar 5) (dVar 6))) (dTest (dOp fNe (dVar 4) (dVar 2))))) (st v2 B C B TM TD) = some (false, st v2 B C B TM TD) := by
    refine tbor_eq (i := 5) (xs := (partedL bs).map eb) rfl (τ1 := st v2 B C B TD TD) ?_ rfl
    refine orFF (τ1 := st v2 B C B TD TD) (tnot (b := true) (tst (call_eq (rs := [.d Lb, .d T]) (ds := [Lb, T]) (τ1 := st v2 B C B TD TD) rfl rfl er1))) ?_
    exact orFF (τ1 := st v2 B C B TD TD) (tst (op2 (x := T) (y := T) rfl rfl nT)) (tst (op2 (x := Lb) (y := Lb) rfl rfl nB))
  have c8 : dCall m_boxes_parted (dACons (dApp fListOf (dACons (dVar 3) dANil)) dANil) (st v2 B C B TD TD) = some (.list ((partedL cs).map eb), st v2 B C B TD TD) :=
    call_eq (rs := [.d Lc]) (ds := [Lc]) (τ1 := st v2 B C B TD TD) rfl rfl p2
  have t8 : dTBor 5 (dTOr (dTNot (dTest (dCall m_L_right (dACons (dVar 3) (dACons (dCall m_boxes_parted (dACons (dApp fListOf (dACons (dVar 3) dANil)) dANil)) dANil))))) (dTest (dOp fNe (dVar 5) (dVar 6)))) (st v2 B C B TM TD) = some (false, st v2 B C B TM TD) := by
    refine tbor_eq (i := 5) (xs := (partedL bs).map eb) rfl (τ1 := st v2 B C B TD TD) ?_ rfl
    exact orFF (τ1 := st v2 B C B TD TD) (tnot (b := true) (tst (call_eq (rs := [.d Lc, .d (.list ((partedL cs).map eb))]) (ds := [Lc, .list ((partedL cs).map eb)]) (τ1 := st v2 B C B TD TD) (acc rfl (acc c8 rfl)) rfl er2))) (tst (op2 (x := T) (y := T) rfl rfl nT))
  have s9 : dExpr (dMt 5 gClear dANil) (st v2 B C B TM TD) = some (.nx (st v2 B C B (some (.m [])) TD)) := rfl
  unfold m_law
  refine ⟨_, fun_rt (τ := st v2 B C B (some (.m [])) TD) ?_ rfl rfl⟩
  refine (seq_nx s1).trans ((seq_nx s2).trans ((seq_nx s3).trans ((seq_nx s4).trans ((seq_nx s5).trans ((seq_nx s6).trans ((seq_nx (ifs_f t7)).trans ((seq_nx (ifs_f t8)).trans ((seq_nx s9).trans ?_))))))))
  exact ret_rt (op2 (c5 _ _) rfl qT)
theorem all_mk {l : PySem.W.OpenLaw} {w : World} {K : PySem.W.Frag} {h : Heap} {mg : Str → Option Value} {fa : Addr} (X : K.In h) (G : h.Ns mainGlobals mg) (hfa : mg "law" = some (.ref fa))
    {f0 : Addr} {od0 an0 : Option Addr} {sl0 : Array (Option Value)} {oc0 kV0 dc0 pm0 cd0 ct0 : Value}
    (a0 : PySem.W.nsIn K mainGlobals "_law_digit" = some (some (.ref f0))) (l0 : K.lookup f0 = some ⟨oc0, od0, .func (PySem.W.fnOf "_law_digit" "_law_digit" (defArgs s_L_digit) (defBody s_L_digit) (defScope s_L_digit) .none kV0 dc0 pm0 an0 cd0 ct0), sl0⟩) (c0 : PySem.W.codeIn K cd0 "_law_digit" = true) (k0 : PySem.W.keepIn K (.ref f0) = true)
    {f1 : Addr} {od1 an1 : Option Addr} {sl1 : Array (Option Value)} {oc1 kV1 dc1 pm1 cd1 ct1 : Value}
    (a1 : PySem.W.nsIn K mainGlobals "_law_box_of" = some (some (.ref f1))) (l1 : K.lookup f1 = some ⟨oc1, od1, .func (PySem.W.fnOf "_law_box_of" "_law_box_of" (defArgs s_L_box_of) (defBody s_L_box_of) (defScope s_L_box_of) .none kV1 dc1 pm1 an1 cd1 ct1), sl1⟩) (c1 : PySem.W.codeIn K cd1 "_law_box_of" = true) (k1 : PySem.W.keepIn K (.ref f1) = true)
    {f2 : Addr} {od2 an2 : Option Addr} {sl2 : Array (Option Value)} {oc2 kV2 dc2 pm2 cd2 ct2 : Value}
    (a2 : PySem.W.nsIn K mainGlobals "_law_boxes" = some (some (.ref f2))) (l2 : K.lookup f2 = some ⟨oc2, od2, .func (PySem.W.fnOf "_law_boxes" "_law_boxes" (defArgs s_L_boxes) (defBody s_L_boxes) (defScope s_L_boxes) .none kV2 dc2 pm2 an2 cd2 ct2), sl2⟩) (c2 : PySem.W.codeIn K cd2 "_law_boxes" = true) (k2 : PySem.W.keepIn K (.ref f2) = true)
    {f3 : Addr} {od3 an3 : Option Addr} {sl3 : Array (Option Value)} {oc3 kV3 dc3 pm3 cd3 ct3 : Value}
    (a3 : PySem.W.nsIn K mainGlobals "right_of" = some (some (.ref f3))) (l3 : K.lookup f3 = some ⟨oc3, od3, .func (PySem.W.fnOf "right_of" "right_of" (defArgs s_right_of) (defBody s_right_of) (defScope s_right_of) .none kV3 dc3 pm3 an3 cd3 ct3), sl3⟩) (c3 : PySem.W.codeIn K cd3 "right_of" = true) (k3 : PySem.W.keepIn K (.ref f3) = true)
    {f4 : Addr} {od4 an4 : Option Addr} {sl4 : Array (Option Value)} {oc4 kV4 dc4 pm4 cd4 ct4 : Value}
    (a4 : PySem.W.nsIn K mainGlobals "bottom_of" = some (some (.ref f4))) (l4 : K.lookup f4 = some ⟨oc4, od4, .func (PySem.W.fnOf "bottom_of" "bottom_of" (defArgs s_bottom_of) (defBody s_bottom_of) (defScope s_bottom_of) .none kV4 dc4 pm4 an4 cd4 ct4), sl4⟩) (c4 : PySem.W.codeIn K cd4 "bottom_of" = true) (k4 : PySem.W.keepIn K (.ref f4) = true)
    {f5 : Addr} {od5 an5 : Option Addr} {sl5 : Array (Option Value)} {oc5 kV5 dc5 pm5 cd5 ct5 : Value}
    (a5 : PySem.W.nsIn K mainGlobals "next_meeting" = some (some (.ref f5))) (l5 : K.lookup f5 = some ⟨oc5, od5, .func (PySem.W.fnOf "next_meeting" "next_meeting" (defArgs s_next_meeting) (defBody s_next_meeting) (defScope s_next_meeting) .none kV5 dc5 pm5 an5 cd5 ct5), sl5⟩) (c5 : PySem.W.codeIn K cd5 "next_meeting" = true) (k5 : PySem.W.keepIn K (.ref f5) = true)
    {f6 : Addr} {od6 an6 : Option Addr} {sl6 : Array (Option Value)} {oc6 kV6 dc6 pm6 cd6 ct6 : Value}
    (a6 : PySem.W.nsIn K mainGlobals "has_cells" = some (some (.ref f6))) (l6 : K.lookup f6 = some ⟨oc6, od6, .func (PySem.W.fnOf "has_cells" "has_cells" (defArgs s_has_cells) (defBody s_has_cells) (defScope s_has_cells) .none kV6 dc6 pm6 an6 cd6 ct6), sl6⟩) (c6 : PySem.W.codeIn K cd6 "has_cells" = true) (k6 : PySem.W.keepIn K (.ref f6) = true)
    {f7 : Addr} {od7 an7 : Option Addr} {sl7 : Array (Option Value)} {oc7 kV7 dc7 pm7 cd7 ct7 : Value}
    (a7 : PySem.W.nsIn K mainGlobals "box_meet" = some (some (.ref f7))) (l7 : K.lookup f7 = some ⟨oc7, od7, .func (PySem.W.fnOf "box_meet" "box_meet" (defArgs s_box_meet) (defBody s_box_meet) (defScope s_box_meet) .none kV7 dc7 pm7 an7 cd7 ct7), sl7⟩) (c7 : PySem.W.codeIn K cd7 "box_meet" = true) (k7 : PySem.W.keepIn K (.ref f7) = true)
    {f8 : Addr} {od8 an8 : Option Addr} {sl8 : Array (Option Value)} {oc8 kV8 dc8 pm8 cd8 ct8 : Value}
    (a8 : PySem.W.nsIn K mainGlobals "box_around" = some (some (.ref f8))) (l8 : K.lookup f8 = some ⟨oc8, od8, .func (PySem.W.fnOf "box_around" "box_around" (defArgs s_box_around) (defBody s_box_around) (defScope s_box_around) .none kV8 dc8 pm8 an8 cd8 ct8), sl8⟩) (c8 : PySem.W.codeIn K cd8 "box_around" = true) (k8 : PySem.W.keepIn K (.ref f8) = true)
    {f9 : Addr} {od9 an9 : Option Addr} {sl9 : Array (Option Value)} {oc9 kV9 dc9 pm9 cd9 ct9 : Value}
    (a9 : PySem.W.nsIn K mainGlobals "box_less" = some (some (.ref f9))) (l9 : K.lookup f9 = some ⟨oc9, od9, .func (PySem.W.fnOf "box_less" "box_less" (defArgs s_box_less) (defBody s_box_less) (defScope s_box_less) .none kV9 dc9 pm9 an9 cd9 ct9), sl9⟩) (c9 : PySem.W.codeIn K cd9 "box_less" = true) (k9 : PySem.W.keepIn K (.ref f9) = true)
    {f10 : Addr} {od10 an10 : Option Addr} {sl10 : Array (Option Value)} {oc10 kV10 dc10 pm10 cd10 ct10 : Value}
    (a10 : PySem.W.nsIn K mainGlobals "box_less_all" = some (some (.ref f10))) (l10 : K.lookup f10 = some ⟨oc10, od10, .func (PySem.W.fnOf "box_less_all" "box_less_all" (defArgs s_box_less_all) (defBody s_box_less_all) (defScope s_box_less_all) .none kV10 dc10 pm10 an10 cd10 ct10), sl10⟩) (c10 : PySem.W.codeIn K cd10 "box_less_all" = true) (k10 : PySem.W.keepIn K (.ref f10) = true)
    {f11 : Addr} {od11 an11 : Option Addr} {sl11 : Array (Option Value)} {oc11 kV11 dc11 pm11 cd11 ct11 : Value}
    (a11 : PySem.W.nsIn K mainGlobals "boxes_parted" = some (some (.ref f11))) (l11 : K.lookup f11 = some ⟨oc11, od11, .func (PySem.W.fnOf "boxes_parted" "boxes_parted" (defArgs s_boxes_parted) (defBody s_boxes_parted) (defScope s_boxes_parted) .none kV11 dc11 pm11 an11 cd11 ct11), sl11⟩) (c11 : PySem.W.codeIn K cd11 "boxes_parted" = true) (k11 : PySem.W.keepIn K (.ref f11) = true)
    {f12 : Addr} {od12 an12 : Option Addr} {sl12 : Array (Option Value)} {oc12 kV12 dc12 pm12 cd12 ct12 : Value}
    (a12 : PySem.W.nsIn K mainGlobals "_law_due" = some (some (.ref f12))) (l12 : K.lookup f12 = some ⟨oc12, od12, .func (PySem.W.fnOf "_law_due" "_law_due" (defArgs s_L_due) (defBody s_L_due) (defScope s_L_due) .none kV12 dc12 pm12 an12 cd12 ct12), sl12⟩) (c12 : PySem.W.codeIn K cd12 "_law_due" = true) (k12 : PySem.W.keepIn K (.ref f12) = true)
    {f13 : Addr} {od13 an13 : Option Addr} {sl13 : Array (Option Value)} {oc13 kV13 dc13 pm13 cd13 ct13 : Value}
    (a13 : PySem.W.nsIn K mainGlobals "_law_cell_at" = some (some (.ref f13))) (l13 : K.lookup f13 = some ⟨oc13, od13, .func (PySem.W.fnOf "_law_cell_at" "_law_cell_at" (defArgs s_L_cell_at) (defBody s_L_cell_at) (defScope s_L_cell_at) .none kV13 dc13 pm13 an13 cd13 ct13), sl13⟩) (c13 : PySem.W.codeIn K cd13 "_law_cell_at" = true) (k13 : PySem.W.keepIn K (.ref f13) = true)
    {f14 : Addr} {od14 an14 : Option Addr} {sl14 : Array (Option Value)} {oc14 kV14 dc14 pm14 cd14 ct14 : Value}
    (a14 : PySem.W.nsIn K mainGlobals "_law_big" = some (some (.ref f14))) (l14 : K.lookup f14 = some ⟨oc14, od14, .func (PySem.W.fnOf "_law_big" "_law_big" (defArgs s_L_big) (defBody s_L_big) (defScope s_L_big) .none kV14 dc14 pm14 an14 cd14 ct14), sl14⟩) (c14 : PySem.W.codeIn K cd14 "_law_big" = true) (k14 : PySem.W.keepIn K (.ref f14) = true)
    {f15 : Addr} {od15 an15 : Option Addr} {sl15 : Array (Option Value)} {oc15 kV15 dc15 pm15 cd15 ct15 : Value}
    (a15 : PySem.W.nsIn K mainGlobals "_law_tuples" = some (some (.ref f15))) (l15 : K.lookup f15 = some ⟨oc15, od15, .func (PySem.W.fnOf "_law_tuples" "_law_tuples" (defArgs s_L_tuples) (defBody s_L_tuples) (defScope s_L_tuples) .none kV15 dc15 pm15 an15 cd15 ct15), sl15⟩) (c15 : PySem.W.codeIn K cd15 "_law_tuples" = true) (k15 : PySem.W.keepIn K (.ref f15) = true)
    {f16 : Addr} {od16 an16 : Option Addr} {sl16 : Array (Option Value)} {oc16 kV16 dc16 pm16 cd16 ct16 : Value}
    (a16 : PySem.W.nsIn K mainGlobals "_law_cells" = some (some (.ref f16))) (l16 : K.lookup f16 = some ⟨oc16, od16, .func (PySem.W.fnOf "_law_cells" "_law_cells" (defArgs s_L_cells) (defBody s_L_cells) (defScope s_L_cells) .none kV16 dc16 pm16 an16 cd16 ct16), sl16⟩) (c16 : PySem.W.codeIn K cd16 "_law_cells" = true) (k16 : PySem.W.keepIn K (.ref f16) = true)
    {f17 : Addr} {od17 an17 : Option Addr} {sl17 : Array (Option Value)} {oc17 kV17 dc17 pm17 cd17 ct17 : Value}
    (a17 : PySem.W.nsIn K mainGlobals "_law_right" = some (some (.ref f17))) (l17 : K.lookup f17 = some ⟨oc17, od17, .func (PySem.W.fnOf "_law_right" "_law_right" (defArgs s_L_right) (defBody s_L_right) (defScope s_L_right) .none kV17 dc17 pm17 an17 cd17 ct17), sl17⟩) (c17 : PySem.W.codeIn K cd17 "_law_right" = true) (k17 : PySem.W.keepIn K (.ref f17) = true)
    {f18 : Addr} {od18 an18 : Option Addr} {sl18 : Array (Option Value)} {oc18 kV18 dc18 pm18 cd18 ct18 : Value}
    (a18 : PySem.W.nsIn K mainGlobals "law" = some (some (.ref f18))) (l18 : K.lookup f18 = some ⟨oc18, od18, .func (PySem.W.fnOf "law" "law" (defArgs s_law) (defBody s_law) (defScope s_law) .none kV18 dc18 pm18 an18 cd18 ct18), sl18⟩) (c18 : PySem.W.codeIn K cd18 "law" = true) (k18 : PySem.W.keepIn K (.ref f18) = true)
    (z_bool : PySem.W.nsIn K mainGlobals "bool" = some none)
    (z_enumerate : PySem.W.nsIn K mainGlobals "enumerate" = some none)
    (z_int : PySem.W.nsIn K mainGlobals "int" = some none)
    (z_isinstance : PySem.W.nsIn K mainGlobals "isinstance" = some none)
    (z_len : PySem.W.nsIn K mainGlobals "len" = some none)
    (z_list : PySem.W.nsIn K mainGlobals "list" = some none)
    (z_max : PySem.W.nsIn K mainGlobals "max" = some none)
    (z_min : PySem.W.nsIn K mainGlobals "min" = some none)
    (z_range : PySem.W.nsIn K mainGlobals "range" = some none)
    (z_reversed : PySem.W.nsIn K mainGlobals "reversed" = some none)
    (z_sorted : PySem.W.nsIn K mainGlobals "sorted" = some none)
    (z_tuple : PySem.W.nsIn K mainGlobals "tuple" = some none)
    : ∃ fd : FuncData, (∀ (s : Shared) (v : Value), BindsTo s fd ⟨[v], []⟩ [("_law_script", v)]) ∧ ∀ base : Heap, K.In base → base.Ns mainGlobals mg → FnOk l.prog w K mg base CX0 6 fa fd ["_law_script"] (spD K m_law false) := by
  have e := hfa.symm.trans (PySem.W.mg_of X G a18)
  cases e
  have F0 := fun_mk (st := s_L_digit) l0 c0 k0
  have F1 := fun_mk (st := s_L_box_of) l1 c1 k1
  have F2 := fun_mk (st := s_L_boxes) l2 c2 k2
  have F3 := fun_mk (st := s_right_of) l3 c3 k3
  have F4 := fun_mk (st := s_bottom_of) l4 c4 k4
  have F5 := fun_mk (st := s_next_meeting) l5 c5 k5
  have F6 := fun_mk (st := s_has_cells) l6 c6 k6
  have F7 := fun_mk (st := s_box_meet) l7 c7 k7
  have F8 := fun_mk (st := s_box_around) l8 c8 k8
  have F9 := fun_mk (st := s_box_less) l9 c9 k9
  have F10 := fun_mk (st := s_box_less_all) l10 c10 k10
  have F11 := fun_mk (st := s_boxes_parted) l11 c11 k11
  have F12 := fun_mk (st := s_L_due) l12 c12 k12
  have F13 := fun_mk (st := s_L_cell_at) l13 c13 k13
  have F14 := fun_mk (st := s_L_big) l14 c14 k14
  have F15 := fun_mk (st := s_L_tuples) l15 c15 k15
  have F16 := fun_mk (st := s_L_cells) l16 c16 k16
  have F17 := fun_mk (st := s_L_right) l17 c17 k17
  have F18 := fun_mk (st := s_law) l18 c18 k18
  have b0 := F0.binds (ps := ["_law_rest", "_law_many"]) fun _ _ _ _ _ _ us hl => match us, hl with | [_, _], _ => rfl
  have b1 := F1.binds (ps := ["_law_rest"]) fun _ _ _ _ _ _ us hl => match us, hl with | [_], _ => rfl
  have b2 := F2.binds (ps := ["_law_rest"]) fun _ _ _ _ _ _ us hl => match us, hl with | [_], _ => rfl
  have b3 := F3.binds (ps := ["box"]) fun _ _ _ _ _ _ us hl => match us, hl with | [_], _ => rfl
  have b4 := F4.binds (ps := ["box"]) fun _ _ _ _ _ _ us hl => match us, hl with | [_], _ => rfl
  have b5 := F5.binds (ps := ["box", "others", "place"]) fun _ _ _ _ _ _ us hl => match us, hl with | [_, _, _], _ => rfl
  have b6 := F6.binds (ps := ["box"]) fun _ _ _ _ _ _ us hl => match us, hl with | [_], _ => rfl
  have b7 := F7.binds (ps := ["one", "other"]) fun _ _ _ _ _ _ us hl => match us, hl with | [_, _], _ => rfl
  have b8 := F8.binds (ps := ["box", "inner"]) fun _ _ _ _ _ _ us hl => match us, hl with | [_, _], _ => rfl
  have b9 := F9.binds (ps := ["one", "other"]) fun _ _ _ _ _ _ us hl => match us, hl with | [_, _], _ => rfl
  have b10 := F10.binds (ps := ["box", "others"]) fun _ _ _ _ _ _ us hl => match us, hl with | [_, _], _ => rfl
  have b11 := F11.binds (ps := ["boxes"]) fun _ _ _ _ _ _ us hl => match us, hl with | [_], _ => rfl
  have b12 := F12.binds (ps := ["_law_boxes_here"]) fun _ _ _ _ _ _ us hl => match us, hl with | [_], _ => rfl
  have b13 := F13.binds (ps := ["_law_script", "_law_k"]) fun _ _ _ _ _ _ us hl => match us, hl with | [_, _], _ => rfl
  have b14 := F14.binds (ps := ["_law_script", "_law_at"]) fun _ _ _ _ _ _ us hl => match us, hl with | [_, _], _ => rfl
  have b15 := F15.binds (ps := ["_law_found", "_law_size"]) fun _ _ _ _ _ _ us hl => match us, hl with | [_, _], _ => rfl
  have b16 := F16.binds (ps := ["_law_box"]) fun _ _ _ _ _ _ us hl => match us, hl with | [_], _ => rfl
  have b17 := F17.binds (ps := ["_law_boxes_here", "_law_told"]) fun _ _ _ _ _ _ us hl => match us, hl with | [_, _], _ => rfl
  have y_bool := PySem.W.mg_none_of X G z_bool
  have y_enumerate := PySem.W.mg_none_of X G z_enumerate
  have y_int := PySem.W.mg_none_of X G z_int
  have y_isinstance := PySem.W.mg_none_of X G z_isinstance
  have y_len := PySem.W.mg_none_of X G z_len
  have y_list := PySem.W.mg_none_of X G z_list
  have y_max := PySem.W.mg_none_of X G z_max
  have y_min := PySem.W.mg_none_of X G z_min
  have y_range := PySem.W.mg_none_of X G z_range
  have y_reversed := PySem.W.mg_none_of X G z_reversed
  have y_sorted := PySem.W.mg_none_of X G z_sorted
  have y_tuple := PySem.W.mg_none_of X G z_tuple
  refine ⟨PySem.W.fnOf "law" "law" (defArgs s_law) (defBody s_law) (defScope s_law) .none kV18 dc18 pm18 an18 cd18 ct18, fun s v => .of_eq rfl, fun base _ _ => ?_⟩
  have R_L_digit : Cal l.prog w K mg base 1 "_law_digit" ["_law_rest", "_law_many"] (spD K m_L_digit false) := Cal.of F0 (ok_L_digit F0) b0 (PySem.W.mg_of X G a0)
  have R_right_of : Cal l.prog w K mg base 1 "right_of" ["box"] (spD K m_right_of false) := Cal.of F3 (ok_right_of F3) b3 (PySem.W.mg_of X G a3)
  have R_bottom_of : Cal l.prog w K mg base 1 "bottom_of" ["box"] (spD K m_bottom_of false) := Cal.of F4 (ok_bottom_of F4) b4 (PySem.W.mg_of X G a4)
  have R_has_cells : Cal l.prog w K mg base 1 "has_cells" ["box"] (spD K m_has_cells false) := Cal.of F6 (ok_has_cells F6) b6 (PySem.W.mg_of X G a6)
  have R_L_cell_at : Cal l.prog w K mg base 1 "_law_cell_at" ["_law_script", "_law_k"] (spD K m_L_cell_at false) := Cal.of F13 (ok_L_cell_at F13 y_len) b13 (PySem.W.mg_of X G a13)
  have R_L_tuples : Cal l.prog w K mg base 1 "_law_tuples" ["_law_found", "_law_size"] (spD K m_L_tuples false) := Cal.of F15 (ok_L_tuples F15 y_list y_isinstance y_len y_tuple y_bool y_int) b15 (PySem.W.mg_of X G a15)
  have R_L_cells : Cal l.prog w K mg base 1 "_law_cells" ["_law_box"] (spD K m_L_cells true) := Cal.of F16 (ok_L_cells F16 y_range) b16 (PySem.W.mg_of X G a16)
  have R_L_box_of : Cal l.prog w K mg base 2 "_law_box_of" ["_law_rest"] (spD K m_L_box_of false) := Cal.of F1 (ok_L_box_of F1 (R_L_digit.mono (by decide))) b1 (PySem.W.mg_of X G a1)
  have R_next_meeting : Cal l.prog w K mg base 2 "next_meeting" ["box", "others", "place"] (spD K m_next_meeting false) := Cal.of F5 (ok_next_meeting F5 (R_right_of.mono (by decide)) (R_bottom_of.mono (by decide)) y_len y_range) b5 (PySem.W.mg_of X G a5)
  have R_box_meet : Cal l.prog w K mg base 2 "box_meet" ["one", "other"] (spD K m_box_meet false) := Cal.of F7 (ok_box_meet F7 (R_right_of.mono (by decide)) (R_bottom_of.mono (by decide)) (R_has_cells.mono (by decide)) y_max y_min) b7 (PySem.W.mg_of X G a7)
  have R_box_around : Cal l.prog w K mg base 2 "box_around" ["box", "inner"] (spD K m_box_around true) := Cal.of F8 (ok_box_around F8 (R_right_of.mono (by decide)) (R_bottom_of.mono (by decide))) b8 (PySem.W.mg_of X G a8)
  have R_L_big : Cal l.prog w K mg base 2 "_law_big" ["_law_script", "_law_at"] (spD K m_L_big false) := Cal.of F14 (ok_L_big F14 (R_L_cell_at.mono (by decide)) y_range) b14 (PySem.W.mg_of X G a14)
  have R_L_right : Cal l.prog w K mg base 2 "_law_right" ["_law_boxes_here", "_law_told"] (spD K m_L_right false) := Cal.of F17 (ok_L_right F17 (R_L_tuples.mono (by decide)) (R_L_cells.mono (by decide)) y_len y_sorted) b17 (PySem.W.mg_of X G a17)
  have R_L_boxes : Cal l.prog w K mg base 3 "_law_boxes" ["_law_rest"] (spD K m_L_boxes true) := Cal.of F2 (ok_L_boxes F2 (R_L_digit.mono (by decide)) (R_L_box_of.mono (by decide)) y_range) b2 (PySem.W.mg_of X G a2)
  have R_box_less : Cal l.prog w K mg base 3 "box_less" ["one", "other"] (spD K m_box_less true) := Cal.of F9 (ok_box_less F9 (R_box_meet.mono (by decide)) (R_box_around.mono (by decide))) b9 (PySem.W.mg_of X G a9)
  have R_box_less_all : Cal l.prog w K mg base 4 "box_less_all" ["box", "others"] (spD K m_box_less_all true) := Cal.of F10 (ok_box_less_all F10 (R_next_meeting.mono (by decide)) (R_box_less.mono (by decide)) y_len y_reversed) b10 (PySem.W.mg_of X G a10)
  have R_L_due : Cal l.prog w K mg base 4 "_law_due" ["_law_boxes_here"] (spD K m_L_due false) := Cal.of F12 (ok_L_due F12 (R_box_less.mono (by decide)) y_len y_range) b12 (PySem.W.mg_of X G a12)
  have R_boxes_parted : Cal l.prog w K mg base 5 "boxes_parted" ["boxes"] (spD K m_boxes_parted true) := Cal.of F11 (ok_boxes_parted F11 (R_box_meet.mono (by decide)) (R_box_less_all.mono (by decide)) y_enumerate) b11 (PySem.W.mg_of X G a11)
  exact ok_law F18 (R_L_big.mono (by decide)) (R_L_boxes.mono (by decide)) (R_boxes_parted.mono (by decide)) (R_L_due.mono (by decide)) (R_L_right.mono (by decide)) y_list
theorem entry {K : PySem.W.Frag} {H : Hp} {a : Addr} {ns : List Int} {Q : VK} {X : XK} (hS : SqL K H a (ns.map V.int)) (h63 : ns.length ≤ 63) (q : ∀ H', Q (.bl true) H') : spD K m_law false [.ref a] H Q X := by
  obtain ⟨ls, e⟩ := m_law_holds ns h63
  refine ⟨fun _ => False, fun _ => False, [.c (ns.map PyData.int)], .bool true, ls, ⟨rfl, fun i x e => ?_, fun i x e => ?_, fun i x e => ?_, fun i j xs ys b e => ?_, fun _ h => h.elim, fun _ h => h.elim⟩, e, fun v H' _ _ res => ?_⟩
  · match i, e with
    | 0, e => cases e
    | i + 1, e => cases e
  · match i, e with
    | 0, e => exact absurd (Option.some.inj (Option.some.inj e)).symm Ow.not_c
    | i + 1, e => cases e
  · match i, e with
    | 0, e =>
      cases e
      exact ⟨a, ns.map V.int, rfl, cst_same hS, isl_ints ns⟩
    | i + 1, e => cases e
  · match i, e with
    | 0, e => exact absurd (Option.some.inj (Option.some.inj e)).symm Ow.not_c
    | i + 1, e => cases e
  · cases (show v = .bl true from res)
    exact q H'
theorem walk {l : PySem.W.OpenLaw} {q : Program} {loose : List Str} {XP : (Str → Option Value) → Heap → Prop} {YP : World → Heap → Prop} {d : DefRec} {K : Params → PySem.W.Frag} (hn : l.most = some 63) (hdf : d.params.defaults = [])
    (hY : ∀ (w : World) (h : Heap), YP w h → (K w.params).In h)
    (F : ∀ (w : World) (mg : Str → Option Value) (fa : Addr) (h : Heap), (K w.params).In h → h.Ns mainGlobals mg → mg d.name = some (.ref fa) →
      ∃ fd : FuncData, (∀ (s : Shared) (u : Value), BindsTo s fd ⟨[u], []⟩ [("_law_script", u)]) ∧ ∀ base : Heap, (K w.params).In base → base.Ns mainGlobals mg → FnOk l.prog w (K w.params) mg base CX0 6 fa fd ["_law_script"] (spD (K w.params) m_law false)) :
    PySem.W.WalkO q loose XP YP l.row.toRowW d [] (fun f vs => PySem.call f vs) :=
  L2.walk_of (n := 63) (k := 6) (x := "_law_script") (CX := fun _ => CX0) (sp := fun w => spD (K w.params) m_law false) hn (by decide) hdf ⟨rfl, by decide, by decide⟩ hY F (fun _ _ a ns hl _ hS => entry hS hl fun _ => rfl) fun _ _ _ _ _ z => z
end My
open PySem PySem.W PyProof.Rows
set_option maxRecDepth 100000 in
set_option maxHeartbeats 0 in
theorem PySem.Challenge.cw_scenemend_k09_whole_boxes_parted_holds : PySem.Challenge.rw_scenemend_k09_whole_boxes_parted.Holds := by
  w_on; o_law; k_head; (case hw => w_witness2)
  k_fill
  refine My.walk (l := PySem.Challenge.rw_scenemend_k09_whole_boxes_parted) rfl rfl (fun w h Y => PySem.W.kIn_of Y) ?F
  case F =>
    intro w mg fa h KX G hmg
    refine' My.all_mk KX G hmg ?a0 ?l0 ?c0 ?k0 ?a1 ?l1 ?c1 ?k1 ?a2 ?l2 ?c2 ?k2 ?a3 ?l3 ?c3 ?k3 ?a4 ?l4 ?c4 ?k4 ?a5 ?l5 ?c5 ?k5 ?a6 ?l6 ?c6 ?k6 ?a7 ?l7 ?c7 ?k7 ?a8 ?l8 ?c8 ?k8 ?a9 ?l9 ?c9 ?k9 ?a10 ?l10 ?c10 ?k10 ?a11 ?l11 ?c11 ?k11 ?a12 ?l12 ?c12 ?k12 ?a13 ?l13 ?c13 ?k13 ?a14 ?l14 ?c14 ?k14 ?a15 ?l15 ?c15 ?k15 ?a16 ?l16 ?c16 ?k16 ?a17 ?l17 ?c17 ?k17 ?a18 ?l18 ?c18 ?k18 ?z_bool ?z_enumerate ?z_int ?z_isinstance ?z_len ?z_list ?z_max ?z_min ?z_range ?z_reversed ?z_sorted ?z_tuple
    (case a0 => k_is)
    (case l0 => k_is)
    (case c0 => k_is)
    (case k0 => k_is)
    (case a1 => k_is)
    (case l1 => k_is)
    (case c1 => k_is)
    (case k1 => k_is)
    (case a2 => k_is)
    (case l2 => k_is)
    (case c2 => k_is)
    (case k2 => k_is)
    (case a3 => k_is)
    (case l3 => k_is)
    (case c3 => k_is)
    (case k3 => k_is)
    (case a4 => k_is)
    (case l4 => k_is)
    (case c4 => k_is)
    (case k4 => k_is)
    (case a5 => k_is)
    (case l5 => k_is)
    (case c5 => k_is)
    (case k5 => k_is)
    (case a6 => k_is)
    (case l6 => k_is)
    (case c6 => k_is)
    (case k6 => k_is)
    (case a7 => k_is)
    (case l7 => k_is)
    (case c7 => k_is)
    (case k7 => k_is)
    (case a8 => k_is)
    (case l8 => k_is)
    (case c8 => k_is)
    (case k8 => k_is)
    (case a9 => k_is)
    (case l9 => k_is)
    (case c9 => k_is)
    (case k9 => k_is)
    (case a10 => k_is)
    (case l10 => k_is)
    (case c10 => k_is)
    (case k10 => k_is)
    (case a11 => k_is)
    (case l11 => k_is)
    (case c11 => k_is)
    (case k11 => k_is)
    (case a12 => k_is)
    (case l12 => k_is)
    (case c12 => k_is)
    (case k12 => k_is)
    (case a13 => k_is)
    (case l13 => k_is)
    (case c13 => k_is)
    (case k13 => k_is)
    (case a14 => k_is)
    (case l14 => k_is)
    (case c14 => k_is)
    (case k14 => k_is)
    (case a15 => k_is)
    (case l15 => k_is)
    (case c15 => k_is)
    (case k15 => k_is)
    (case a16 => k_is)
    (case l16 => k_is)
    (case c16 => k_is)
    (case k16 => k_is)
    (case a17 => k_is)
    (case l17 => k_is)
    (case c17 => k_is)
    (case k17 => k_is)
    (case a18 => k_is)
    (case l18 => k_is)
    (case c18 => k_is)
    (case k18 => k_is)
    (case z_bool => k_is)
    (case z_enumerate => k_is)
    (case z_int => k_is)
    (case z_isinstance => k_is)
    (case z_len => k_is)
    (case z_list => k_is)
    (case z_max => k_is)
    (case z_min => k_is)
    (case z_range => k_is)
    (case z_reversed => k_is)
    (case z_sorted => k_is)
    (case z_tuple => k_is)
