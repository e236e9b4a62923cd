import PyProof.Rows.All
import Wide.All
import OpenK.AllK
import Wide.FinOn
import Lean
import PyProof.EqAt
import PyProof.EqKinds
import PyProof.TupleCall
import PyProof.WalkInts
import PyProof.NeKinds
import KE.KSortTup
import KE.KLam
import PyProof.ListRange
import KE.KDictOf
import PyProof.AttrMissSeq
import KE.KTryOn
import PyProof.NsDelKeeps
import PyProof.ExcAttrAll.ValueError
import KE.KMinKey
import PyProof.SumAny
import PyProof.ListMulRoad
import PyProof.FactsAll.tuple
import PyProof.FactsAll.tuple_2
import PyProof.FitsBits
import PySem.Challenge.RW_upwords_k48_words_in_nets
set_option Elab.async false
set_option linter.all false
set_option maxRecDepth 100000
namespace L2
open PySem PySem.Spec PyProof.Rows
abbrev Key := Sum Int Str
def keyIs : Key → Value → Bool
  | .inl k, v => Value.isInt k v
  | .inr x, v => Value.isStrOf x v
def keyH (w : World) : Key → Int
  | .inl k => hashInt k
  | .inr x => hashStr w x
theorem keyIs_shape : ∀ {k : Key} {v : Value}, keyIs k v = true → (∃ i t, k = Sum.inl i ∧ v = Value.int i t) ∨ (∃ x t, k = Sum.inr x ∧ v = Value.str x t)
  | .inl i, v, h => by
    obtain ⟨t, e⟩ := Value.isInt_shape (k := i) (v := v) h
    exact .inl ⟨i, t, rfl, e⟩
  | .inr x, v, h => by
    obtain ⟨t, e⟩ := Value.isStrOf_shape (x := x) (v := v) h
    exact .inr ⟨x, t, rfl, e⟩
theorem key_ll (a b : Int) : decide ((Sum.inl a : Key) = Sum.inl b) = (a == b) := by
  by_cases e : a = b
  · subst e; simp
  · have h : ¬ (Sum.inl a : Key) = Sum.inl b := fun q => e (Sum.inl.inj q)
    rw [decide_eq_false h]
    exact (beq_eq_false_iff_ne.mpr e).symm
theorem key_rr (a b : Str) : decide ((Sum.inr a : Key) = Sum.inr b) = decide (a = b) := by
  by_cases e : a = b
  · subst e; simp
  · have h : ¬ (Sum.inr a : Key) = Sum.inr b := fun q => e (Sum.inr.inj q)
    rw [decide_eq_false h, decide_eq_false e]
theorem key_lr (a : Int) (b : Str) : decide ((Sum.inl a : Key) = Sum.inr b) = false := decide_eq_false (fun q => nomatch q)
theorem key_rl (a : Str) (b : Int) : decide ((Sum.inr a : Key) = Sum.inl b) = false := decide_eq_false (fun q => nomatch q)
def mixKind (prog : Program) (w : World) : PySem.KeyKind prog w Key where
  is := keyIs
  hash := keyH w
  inj := fun v a b ha hb => by
    rcases keyIs_shape ha with ⟨i, t, rfl, rfl⟩ | ⟨x, t, rfl, rfl⟩
    · rcases keyIs_shape hb with ⟨j, u, rfl, e⟩ | ⟨y, u, rfl, e⟩
      · injection e with e1 _; rw [e1]
      · exact nomatch e
    · rcases keyIs_shape hb with ⟨j, u, rfl, e⟩ | ⟨y, u, rfl, e⟩
      · exact nomatch e
      · injection e with e1 _; rw [e1]
  byValue := fun k v h => by
    rcases keyIs_shape h with ⟨i, t, rfl, rfl⟩ | ⟨x, t, rfl, rfl⟩ <;> rfl
  pyHash := fun hv h => by
    rcases keyIs_shape hv with ⟨i, t, rfl, rfl⟩ | ⟨x, t, rfl, rfl⟩
    · exact wpAny_pyHash_int h
    · exact wpAny_pyHash_str h
  eqBool := fun hu hv h => by
    rcases keyIs_shape hu with ⟨i, t, rfl, rfl⟩ | ⟨x, t, rfl, rfl⟩
    · rcases keyIs_shape hv with ⟨j, u, rfl, rfl⟩ | ⟨y, u, rfl, rfl⟩
      · rw [key_ll] at h; exact wpAny_eqBool_int h
      · rw [key_lr] at h; exact SeqAt.EqAt.int_str i t y u _ _ _ _ h
    · rcases keyIs_shape hv with ⟨j, u, rfl, rfl⟩ | ⟨y, u, rfl, rfl⟩
      · rw [key_rl] at h; exact SeqAt.EqAt.str_int x t j u _ _ _ _ h
      · rw [key_rr] at h; exact wpAny_eqBool_str h
  «strs» := fun k x t v h => by
    rcases keyIs_shape h with ⟨i, u, rfl, e⟩ | ⟨y, u, rfl, e⟩
    · exact nomatch e
    · injection e with e1 _
      subst e1
      cases v <;> rfl
end L2
namespace L2
open PySem PySem.Spec PyProof.Rows
inductive V where
  | non | bl (b : Bool) | int (i : Int) | str (x : Str) | byt (b : Array UInt8) | flt (b : UInt64) | ref (a : Addr) | ty (n : String)
  deriving DecidableEq
def RelV : V → Value → Prop
  | .non, u => u = Value.none
  | .bl b, u => u = Value.bool b
  | .int i, u => ∃ t, u = Value.int i t
  | .str x, u => ∃ t, u = Value.str x t
  | .byt b, u => ∃ t, u = Value.bytes b t
  | .flt b, u => ∃ t, u = Value.float b t
  | .ref a, u => u = Value.ref a
  | .ty n, u => u = Value.type n
abbrev Vals : List V → List Value → Prop := Paired RelV
theorem Vals.length {xs : List V} {us : List Value} (r : Vals xs us) : xs.length = us.length := Paired.length r
theorem Vals.get : ∀ {xs : List V} {us : List Value} {i : Nat} {x : V}, Vals xs us → xs[i]? = some x → ∃ u, us[i]? = some u ∧ RelV x u
  | _, _, _, _, .nil, e => by simp at e
  | _, _, 0, _, .cons r _, e => by simp at e; subst e; exact ⟨_, rfl, r⟩
  | _, _, i + 1, x, .cons _ t, e => by
    obtain ⟨u, h1, h2⟩ := Vals.get (i := i) (x := x) t (by simpa using e)
    exact ⟨u, by simpa using h1, h2⟩
theorem Vals.set {x : V} {u : Value} (r : RelV x u) : ∀ {xs : List V} {us : List Value} (i : Nat), Vals xs us → Vals (xs.set i x) (us.set i u)
  | _, _, _, .nil => .nil
  | _, _, 0, .cons _ t => .cons r t
  | _, _, i + 1, .cons q t => .cons q (Vals.set r i t)
theorem Vals.append : ∀ {xs ys : List V} {us ws : List Value}, Vals xs us → Vals ys ws → Vals (xs ++ ys) (us ++ ws)
  | _, _, _, _, .nil, s => s
  | _, _, _, _, .cons r t, s => .cons r (Vals.append t s)
theorem Vals.take : ∀ {xs : List V} {us : List Value} (n : Nat), Vals xs us → Vals (xs.take n) (us.take n)
  | _, _, 0, _ => .nil
  | _, _, _ + 1, .nil => .nil
  | _, _, n + 1, .cons r t => .cons r (Vals.take n t)
theorem Vals.drop : ∀ {xs : List V} {us : List Value} (n : Nat), Vals xs us → Vals (xs.drop n) (us.drop n)
  | _, _, 0, r => r
  | _, _, _ + 1, .nil => .nil
  | _, _, n + 1, .cons _ t => Vals.drop n t
def RelO : Option V → Option Value → Prop
  | some v, some u => RelV v u
  | none, none => True
  | _, _ => False
def KV {κ : Type} : List (κ × V) → List (κ × Value) → Prop := Paired fun (p : κ × V) (q : κ × Value) => p.1 = q.1 ∧ RelV p.2 q.2
def kV : Key → V
  | .inl i => .int i
  | .inr x => .str x
inductive HO where
    | lst (xs : List V)
    | tup (xs : List V)
    | dK (kvs : List (Key × V)) | dT (kvs : List (List Key × V))
    | set (S : Int → Bool) (n : Nat)
    | ins (C dx : Addr) (fs : List (Str × V))
    | own (x : Addr)
    | xd (fs : List (Str × V))
    | met (f x : Addr)
    | rng (lo hi : Int)
    | frz (o : Obj) (u : HO)
    | tbl (ps : Array Value)
    | ext (φ : Heap → Prop)
abbrev Hp := Addr → Option HO
def upd (H : Hp) (a : Addr) (o : HO) : Hp := fun b => if b = a then some o else H b
theorem upd_same {H : Hp} {a : Addr} {o : HO} : upd H a o a = some o := by unfold upd; rw [if_pos rfl]
theorem upd_ne {H : Hp} {a b : Addr} {o : HO} (h : b ≠ a) : upd H a o b = H b := by unfold upd; rw [if_neg h]
theorem ne_of {H : Hp} {a b : Addr} {o u : HO} (h : H a = some o) (h' : H b = some u) (d : o ≠ u) : a ≠ b := by
  intro e; subst e; rw [h] at h'; exact d (Option.some.inj h')
theorem ne_of_none {H : Hp} {a b : Addr} {o : HO} (h : H a = some o) (h' : H b = none) : a ≠ b := by
  intro e; subst e; rw [h] at h'; cases h'
section
variable (P : Program) (w : World)
def ObjOk (H : Hp) (h : Heap) (a : Addr) : HO → Prop
  | .lst xs => xs.length ≤ sizeLine ∧ ∃ (its : List Value) (n : Nat), Vals xs its ∧ h.get? a = some { cls := .type "list", data := .seq its.toArray n }
  | .tup xs => (xs.length ≤ sizeLine ∧ ∃ o, h.get? a = some o ∧ o.dict = none) ∧ ∃ its : List Value, Vals xs its ∧ IsTup h a its.toArray
  | .dK kvs => kvs.length ≤ sizeLine ∧ (a == sysModules) = false ∧ ∃ vs, KV kvs vs ∧ h.DictOf (mixKind P w) a vs
  | .dT kvs => kvs.length ≤ sizeLine ∧ (a == sysModules) = false ∧ ∃ xs : List (List Key × Addr × Value),
      Paired (fun (p : List Key × V) (q : List Key × Addr × Value) => p.1 = q.1 ∧ H q.2.1 = some (.tup (p.1.map kV)) ∧ RelV p.2 q.2.2) kvs xs ∧
      ∃ o es ep, h.get? a = some o ∧ o.ExactDict ∧ o.data = .dict es ep ∧ es.toList = xs.map (entryOfKey (tupleKind (mixKind P w))) ∧ (xs.map (·.1)).Nodup
  | .set S n => h.SetOf (intKind P w) a S n
  | .ins C dx fs => H dx = some (.own a) ∧ fs.length ≤ 1000 ∧ dx ≠ a ∧ h.get? a = some (PySem.W.instObj C dx) ∧
      ∃ mA, h.Ns1 dx mA ∧ (∀ f, RelO (fs.lookup f) (mA f)) ∧ PySem.Within mA (fs.map (·.1))
  | .own _ => ∃ o, h.get? a = some o
  | .xd fs => ∃ mA, h.Ns1 a mA ∧ ∀ f, RelO (fs.lookup f) (mA f)
  | .rng lo hi => ∃ t u v, h.get? a = some { cls := .type "range", data := .fields #[.int lo t, .int hi u, .int 1 v] }
  | .frz o u => h.get? a = some o ∧ ObjOk H h a u
  | .tbl ps => h.get? a = some { cls := .none, data := .fields ps }
  | .met f x => h.get? a = some (PySem.W.methodObj (.ref f) (.ref x))
  | .ext φ => φ h ∧ (∃ o, h.get? a = some o) ∧ ∀ h1 h2 : Heap, φ h1 → (∀ o, h1.get? a = some o → h2.get? a = some o) → φ h2
def HOk (H : Hp) (h : Heap) : Prop := ∀ a o, H a = some o → ObjOk P w H h a o
end
section
variable {P : Program} {w : World} {H H' : Hp} {h h' : Heap} {a : Addr} {o : HO}
theorem ObjOk.lt (x : ObjOk P w H h a o) : a < h.objs.size := by
  cases o with
  | lst xs => obtain ⟨_, _, _, _, e⟩ := x; exact Heap.lt_size e
  | tup xs => obtain ⟨_, _, _, p⟩ := x; exact p.lt
  | dK kvs => obtain ⟨_, _, _, _, o, _, _, e, _⟩ := x; exact Heap.lt_size e
  | dT kvs => obtain ⟨_, _, _, _, o, _, _, e, _⟩ := x; exact Heap.lt_size e
  | set S n => obtain ⟨o, _, _, _, e, _⟩ := x; exact Heap.lt_size e
  | ins C dx fs => obtain ⟨_, _, _, e, _⟩ := x; exact Heap.lt_size e
  | own y => obtain ⟨_, e⟩ := x; exact Heap.lt_size e
  | xd fs => obtain ⟨_, ⟨_, _, _, e, _⟩, _⟩ := x; exact Heap.lt_size e
  | rng lo hi => obtain ⟨_, _, _, e⟩ := x; exact Heap.lt_size e
  | frz ob u => obtain ⟨e, _⟩ := x; exact Heap.lt_size e
  | tbl ps => exact Heap.lt_size (show h.get? a = some _ from x)
  | met f y => exact Heap.lt_size (show h.get? a = some _ from x)
  | ext φ => obtain ⟨_, ⟨_, e⟩, _⟩ := x; exact Heap.lt_size e
theorem Paired.mapP {α β : Type} {F G : α → β → Prop} : ∀ {l₁ : List α} {l₂ : List β}, Paired F l₁ l₂ → (∀ a b, F a b → G a b) → Paired G l₁ l₂
  | _, _, .nil, _ => .nil
  | _, _, .cons r t, f => .cons (f _ _ r) (Paired.mapP t f)
theorem ObjOk.stay (x : ObjOk P w H h a o) (k : ∀ b u, (b = a ∨ H b = some (.own a)) → h.get? b = some u → h'.get? b = some u)
    (ho : ∀ b, H b = some (.own a) → H' b = some (.own a)) (ht : ∀ b xs, H b = some (.tup xs) → H' b = some (.tup xs)) : ObjOk P w H' h' a o := by
  induction o with
  | lst xs => obtain ⟨z, its, n, r, e⟩ := x; exact ⟨z, its, n, r, k _ _ (.inl rfl) e⟩
  | tup xs => obtain ⟨⟨z, o1, e1, c1⟩, its, r, ob, e, c⟩ := x; exact ⟨⟨z, o1, k _ _ (.inl rfl) e1, c1⟩, its, r, ob, k _ _ (.inl rfl) e, c⟩
  | dK kvs => obtain ⟨z, y, vs, r, ob, es, ep, e, c⟩ := x; exact ⟨z, y, vs, r, ob, es, ep, k _ _ (.inl rfl) e, c⟩
  | dT kvs =>
    obtain ⟨z, y, xs, r, ob, es, ep, e, c⟩ := x
    exact ⟨z, y, xs, Paired.mapP r fun p q z => ⟨z.1, ht _ _ z.2.1, z.2.2⟩, ob, es, ep, k _ _ (.inl rfl) e, c⟩
  | set S n => obtain ⟨ob, es, ep, t, e, c⟩ := x; exact ⟨ob, es, ep, t, k _ _ (.inl rfl) e, c⟩
  | ins C dx fs =>
    obtain ⟨d, z, ne, e, mA, ⟨od, es, ep, e2, c⟩, r⟩ := x
    exact ⟨ho _ d, z, ne, k _ _ (.inl rfl) e, mA, ⟨od, es, ep, k _ _ (.inr d) e2, c⟩, r⟩
  | own y => obtain ⟨ob, e⟩ := x; exact ⟨ob, k _ _ (.inl rfl) e⟩
  | xd fs => obtain ⟨mA, ⟨od, es, ep, e, c⟩, r⟩ := x; exact ⟨mA, ⟨od, es, ep, k _ _ (.inl rfl) e, c⟩, r⟩
  | rng lo hi => obtain ⟨t, u, v, e⟩ := x; exact ⟨t, u, v, k _ _ (.inl rfl) e⟩
  | frz ob u ih => obtain ⟨e, q⟩ := x; exact ⟨k _ _ (.inl rfl) e, ih q⟩
  | tbl ps =>
    have e : h.get? a = some { cls := .none, data := .fields ps } := x
    show h'.get? a = some { cls := .none, data := .fields ps }
    exact k a _ (.inl rfl) e
  | met f y =>
    have e : h.get? a = some (PySem.W.methodObj (.ref f) (.ref y)) := x
    show h'.get? a = some (PySem.W.methodObj (.ref f) (.ref y))
    exact k a _ (.inl rfl) e
  | ext φ => obtain ⟨p, ⟨o, e⟩, st⟩ := x; exact ⟨st _ _ p fun o q => k _ _ (.inl rfl) q, ⟨o, k _ _ (.inl rfl) e⟩, st⟩
theorem HOk.lt (x : HOk P w H h) (e : H a = some o) : a < h.objs.size := (x a o e).lt
theorem HOk.fresh (x : HOk P w H h) (e : h.objs.size ≤ a) : H a = none := by
  cases q : H a with
  | none => rfl
  | some u => exact absurd (Nat.lt_of_lt_of_le (x.lt q) e) (Nat.lt_irrefl _)
theorem HOk.kept (x : HOk P w H h) (k : ∀ b u, h.get? b = some u → h'.get? b = some u) : HOk P w H h' := fun a o e =>
  (x a o e).stay (fun b u _ q => k b u q) (fun _ q => q) fun _ _ q => q
theorem HOk.laid (x : HOk P w H h) (k : ∀ b u, h.get? b = some u → h'.get? b = some u) (hp : h.objs.size ≤ a) (new : ObjOk P w (upd H a o) h' a o) : HOk P w (upd H a o) h' := fun b u e => by
  have hn := x.fresh hp
  by_cases hb : b = a
  · subst hb; rw [upd_same] at e; cases e; exact new
  · rw [upd_ne hb] at e
    exact (x b u e).stay (fun c v _ q => k c v q) (fun c q => by rw [upd_ne (ne_of_none q hn)]; exact q) fun c xs q => by rw [upd_ne (ne_of_none q hn)]; exact q
end
def Rd (H : Hp) (a : Addr) (u : HO) : Prop := H a = some u ∨ ∃ o, H a = some (.frz o u)
theorem Rd.of {H : Hp} {a : Addr} {u : HO} (h : H a = some u) : Rd H a u := .inl h
theorem Rd.ok {P : Program} {w : World} {H : Hp} {h : Heap} {a : Addr} {u : HO} (r : Rd H a u) (x : HOk P w H h) : ObjOk P w H h a u := by
  rcases r with r | ⟨o, r⟩
  · exact x a u r
  · obtain ⟨_, q⟩ := x a _ r
    exact q
def Mut : Option HO → Prop
  | some (.lst _) => True
  | some (.dK _) => True
  | some (.dT _) => True
  | some (.set _ _) => True
  | some (.ins _ _ _) => True
  | some (.ext _) => True
  | _ => False
section
variable {P : Program} {w : World} {H : Hp} {h h' : Heap} {x e : Addr} {o' : HO}
theorem HOk.write (ok : HOk P w H h) (mu : Mut (H x)) (he : e = x ∨ H e = some (.own x)) (k : ∀ b u, b ≠ e → h.get? b = some u → h'.get? b = some u) (heo : ∃ u, h'.get? e = some u)
    (new : ObjOk P w (upd H x o') h' x o') : HOk P w (upd H x o') h' := fun b u q => by
  have nown : ∀ c y, H c = some (.own y) → c ≠ x := fun c y r z => by subst z; rw [r] at mu; exact mu
  have ntup : ∀ c xs, H c = some (.tup xs) → c ≠ x := fun c xs r z => by subst z; rw [r] at mu; exact mu
  by_cases hb : b = x
  · subst hb; rw [upd_same] at q; cases q; exact new
  · rw [upd_ne hb] at q
    by_cases hbe : b = e
    · have q' : H b = some (.own x) := by
        rcases he with z | z
        · exact absurd (hbe.trans z) hb
        · rw [hbe]; exact z
      rw [q] at q'; cases q'
      obtain ⟨v, hv⟩ := heo
      exact ⟨v, by rw [hbe]; exact hv⟩
    · refine (ok b u q).stay (fun c v hc r => k c v ?_ r) (fun c r => by rw [upd_ne (nown c b r)]; exact r) fun c xs r => by rw [upd_ne (ntup c xs r)]; exact r
      rcases hc with rfl | hc
      · exact hbe
      · rintro rfl
        rcases he with z | z
        · exact nown c b hc z
        · rw [hc] at z; cases z; exact hb rfl
end
structure Un (fs ex : List Addr) (H H' : Hp) (h h' : Heap) : Prop where
  keep : ∀ b o, h.get? b = some o → H b = none → b ∉ fs → b ∉ ex → h'.get? b = some o
  slot : ∀ b o, h.get? b = some o → H b = none → b ∈ fs → b ∉ ex → ∃ sl, h'.get? b = some { o with slots := sl }
  free : ∀ b o, h.get? b = some o → H b = none → b ∉ ex → H' b = none
  there : ∀ b o, h.get? b = some o → b ∉ ex → ∃ o', h'.get? b = some o'
  tups : ∀ b xs, H b = some (.tup xs) → H' b = some (.tup xs)
  frzs : ∀ b o u, H b = some (.frz o u) → H' b = some (.frz o u)
  tbls : ∀ b ps, H b = some (.tbl ps) → ∃ more, H' b = some (.tbl (ps ++ more))
section
variable {fs fs' ex ex' : List Addr} {H H1 H2 : Hp} {h h1 h2 h' : Heap} {a x e : Addr} {o : HO}
theorem Un.any (u : Un fs ex H H1 h h1) {b : Addr} {ob : Obj} (q : h.get? b = some ob) (n : H b = none) (hx : b ∉ ex) : ∃ sl, h1.get? b = some { ob with slots := sl } := by
  by_cases hb : b ∈ fs
  · exact u.slot b ob q n hb hx
  · exact ⟨ob.slots, u.keep b ob q n hb hx⟩
theorem Un.trans (a : Un fs ex H H1 h h1) (b : Un fs ex H1 H2 h1 h2) : Un fs ex H H2 h h2 where
  keep := fun c ob q n hc hx => b.keep c ob (a.keep c ob q n hc hx) (a.free c ob q n hx) hc hx
  slot := fun c ob q n hc hx => by
    obtain ⟨sl, e1⟩ := a.slot c ob q n hc hx
    obtain ⟨sl', e2⟩ := b.slot c _ e1 (a.free c ob q n hx) hc hx
    exact ⟨sl', e2⟩
  free := fun c ob q n hx => by
    obtain ⟨o', e1⟩ := a.there c ob q hx
    exact b.free c o' e1 (a.free c ob q n hx) hx
  there := fun c ob q hx => by
    obtain ⟨o', e1⟩ := a.there c ob q hx
    exact b.there c o' e1 hx
  tups := fun c xs q => b.tups c xs (a.tups c xs q)
  frzs := fun c ob xs q => b.frzs c ob xs (a.frzs c ob xs q)
  tbls := fun c ps q => by
    obtain ⟨m1, e1⟩ := a.tbls c ps q
    obtain ⟨m2, e2⟩ := b.tbls c _ e1
    exact ⟨m1 ++ m2, by rw [e2, Array.append_assoc]⟩
theorem Un.kept (k : ∀ b u, h.get? b = some u → h'.get? b = some u) : Un fs ex H H h h' :=
  ⟨fun b ob q _ _ _ => k b ob q, fun b ob q _ _ _ => ⟨ob.slots, k b ob q⟩, fun _ _ _ n _ => n, fun b ob q _ => ⟨ob, k b ob q⟩, fun _ _ q => q, fun _ _ _ q => q, fun _ ps q => ⟨#[], by rw [q]; simp⟩⟩
theorem Un.refl : Un fs ex H H h h := Un.kept fun _ _ q => q
theorem Un.laid (k : ∀ b u, h.get? b = some u → h'.get? b = some u) (hp : h.objs.size ≤ a) (hn : H a = none) : Un fs ex H (upd H a o) h h' where
  keep := fun b u q _ _ _ => k b u q
  slot := fun b u q _ _ _ => ⟨u.slots, k b u q⟩
  free := fun b u q n _ => by rw [upd_ne (Nat.ne_of_lt (Nat.lt_of_lt_of_le (Heap.lt_size q) hp))]; exact n
  there := fun b u q _ => ⟨u, k b u q⟩
  tups := fun b xs q => by rw [upd_ne (ne_of_none q hn)]; exact q
  frzs := fun b u xs q => by rw [upd_ne (ne_of_none q hn)]; exact q
  tbls := fun b ps q => ⟨#[], by rw [upd_ne (ne_of_none q hn), q]; simp⟩
theorem Un.write (mu : Mut (H x)) (he : e = x ∨ H e = some (.own x)) (k : ∀ b u, b ≠ e → h.get? b = some u → h'.get? b = some u) (heo : ∃ u, h'.get? e = some u) : Un fs ex H (upd H x o) h h' := by
  have hx : ∀ b, H b = none → b ≠ x := fun b n z => by subst z; rw [n] at mu; exact mu
  have hb : ∀ b, H b = none → b ≠ e := fun b n z => by
    subst z
    rcases he with r | r
    · exact hx b n r
    · rw [n] at r; cases r
  have hm : ∀ b u, H b = some u → ¬ Mut (some u) → b ≠ x := fun b u q nm z => by subst z; rw [q] at mu; exact nm mu
  refine ⟨fun b u q n _ _ => k b u (hb b n) q, fun b u q n _ _ => ⟨u.slots, k b u (hb b n) q⟩, fun b u q n _ => by rw [upd_ne (hx b n)]; exact n, fun b u q _ => ?_,
    fun b xs q => by rw [upd_ne (hm b _ q fun z => z)]; exact q, fun b u xs q => by rw [upd_ne (hm b _ q fun z => z)]; exact q, fun b ps q => ⟨#[], by rw [upd_ne (hm b _ q fun z => z), q]; simp⟩⟩
  by_cases hbe : b = e
  · subst hbe; exact heo
  · exact ⟨u, k b u hbe q⟩
theorem Un.mono (u : Un fs ex H H1 h h1) (hs : ∀ b ∈ fs, b ∈ fs') (hx : ∀ b ∈ ex, b ∈ ex') : Un fs' ex' H H1 h h1 :=
  ⟨fun b ob q n hb he => u.keep b ob q n (fun z => hb (hs b z)) fun z => he (hx b z), fun _ _ q n _ he => u.any q n fun z => he (hx _ z), fun b ob q n he => u.free b ob q n fun z => he (hx b z), fun b ob q he => u.there b ob q fun z => he (hx b z), u.tups, u.frzs, u.tbls⟩
end
def trk (h : Heap) (H : Hp) : List Addr := (List.range h.objs.size).filter fun a => (H a).isSome
def hidT (h : Heap) (H : Hp) : Heap := PySem.W.hideAll h (trk h H)
theorem hidT_size (h : Heap) (H : Hp) : (hidT h H).objs.size = h.objs.size := PySem.W.hideAll_size _ _
theorem hidT_get {h : Heap} {H : Hp} {b : Addr} {o : Obj} (e : h.get? b = some o) (n : H b = none) : (hidT h H).get? b = some o :=
  PySem.W.hideAll_get _ e fun hm => by
    have q : (H b).isSome = true := (List.mem_filter.mp hm).2
    rw [n] at q; simp at q
theorem of_hidT {h : Heap} {H : Hp} {b : Addr} {o : Obj} (e : (hidT h H).get? b = some o) : h.get? b = some o ∧ H b = none := by
  have e' : h.get? b = some o := PySem.W.of_hideAll (trk h H) e
  refine ⟨e', ?_⟩
  cases q : H b with
  | none => rfl
  | some x =>
    have hm : b ∈ trk h H := List.mem_filter.mpr ⟨List.mem_range.mpr (Heap.lt_size e'), by simp [q]⟩
    have z : (hidT h H).get? b = none := PySem.W.hideAll_none (trk h H) hm
    rw [z] at e; cases e
def allNews (g h : Heap) (L : Addr) : List (Addr × Obj) := (List.range h.objs.size).filterMap fun a => if a = L ∨ (g.get? a).isSome = true then none else (h.get? a).map fun o => (a, o)
def rest (g h : Heap) (L d : Addr) : List (Addr × Obj) := (allNews g h L).filter fun p => decide (p.1 ≠ d)
end L2
namespace L2
open PySem PySem.Spec PyProof.Rows
structure Mod (K : PySem.W.Frag) (mg : Str → Option Value) (base : Heap) : Prop where
  kin : K.In base
  glob : base.Ns mainGlobals mg
  blt : ∃ mb, base.Ns builtinsNs mb ∧ ∀ x : Str, x ≠ "__name__" → mb x = bootBuiltins x
  nolimit : base.NoLimit
structure Cx where
  prog : Program
  w : World
  K : PySem.W.Frag
  mg : Str → Option Value
  base : Heap
  A : Around
  N : List Str
  s₀ : Shared
  H₀ : Hp
  env : Env
  outer : List Env
  stack : List Env
  ex : List Addr
  fn : Str → Bool
  calm : Bool
  pn : List (Addr × Obj)
  xe : Value → Shared → Prop
def frs (l : List Env) : List Addr := l.filterMap (·.frame)
abbrev Cx.fs (X : Cx) : List Addr := frs X.outer
def Vis (sc : Scope) (x : Str) : Prop := sc.names.lookup x = some .local ∨ sc.names.lookup x = some .cell ∨ sc.names.lookup x = some .free
def Loc (sc : Scope) (x : Str) : Prop := sc.names.lookup x = some .local ∨ sc.names.lookup x = some .cell
def Look (env : Env) (h : Heap) (m : Str → Option Value) (x : Str) (u : Value) : Prop :=
  (env.kindOf x = some .local ∧ m x = some u) ∨ ((env.kindOf x = some .cell ∨ env.kindOf x = some .free) ∧ ∃ c, env.cells.lookup x = some c ∧ h.IsCell c (some u))
structure Cx.Ok (X : Cx) : Prop where
  mod : Mod X.K X.mg X.base
  kind : X.env.scope.kind = .function
  glob : X.env.globals = mainGlobals
  blt : X.env.builtins = builtinsNs
  above : X.s₀.heap.objs.size ≤ X.env.locals
  inj : ∀ x y c, X.env.cells.lookup x = some c → X.env.cells.lookup y = some c → x = y
  has : ∀ x, (X.env.kindOf x = some .cell ∨ X.env.kindOf x = some .free) → ∃ c, X.env.cells.lookup x = some c
  cab : ∀ x c, X.fn x = true → X.env.cells.lookup x = some c → X.s₀.heap.objs.size ≤ c
  hd : X.calm = true → X.A.handled = none
  frames : X.A.frames = some X.stack
  stk : X.stack = X.outer ∨ (X.stack = X.env :: X.outer ∧ X.env.frame = some X.env.locals)
  exf : ∀ b ∈ X.ex, b ≠ X.env.locals ∧ ∀ x c, X.env.cells.lookup x = some c → c ≠ b
  bs : ∀ b o, X.base.get? b = some o → X.s₀.heap.get? b = some o ∧ X.H₀ b = none
  bsz : X.base.objs.size ≤ X.s₀.heap.objs.size
  noex : ∀ b o, X.base.get? b = some o → b ∉ X.ex
  exfs : ∀ b ∈ X.ex, b ∉ X.fs
  funs : X.s₀.heap.FunFrames X.base X.outer
  frf : ∀ b ∈ X.fs, X.H₀ b = none
structure Inv (X : Cx) (pins : List (Addr × Obj)) (σ : List (Option V)) (H : Hp) (s : Shared) : Prop where
  ok : X.Ok
  os : s.os = X.s₀.os
  bare : AllBare s.gens
  base : Un X.fs X.ex X.H₀ H X.s₀.heap s.heap
  loc : ∃ m, s.heap.Ns X.env.locals m ∧ ∀ (i : Nat) (x : Str) (v : V), X.N[i]? = some x → σ[i]? = some (some v) → Vis X.env.scope x → ∃ u, RelV v u ∧ Look X.env s.heap m x u
  cell : ∀ x c, X.env.cells.lookup x = some c → ∃ v, s.heap.IsCell c v
  free : H X.env.locals = none
  freeC : ∀ x c, X.env.cells.lookup x = some c → H c = none
  pin : ∀ p ∈ X.pn ++ pins, s.heap.get? p.1 = some p.2 ∧ H p.1 = none ∧ p.1 ≠ X.env.locals ∧ p.1 ∉ X.fs ∧ ∀ v, p.2.data ≠ .cell v
  hok : HOk X.prog X.w H s.heap
  len : σ.length = X.N.length
section
variable {X : Cx} {pins : List (Addr × Obj)} {σ : List (Option V)} {H H' : Hp} {s : Shared} {h' : Heap}
theorem Cx.Ok.nofr (ok : X.Ok) {b : Addr} {o : Obj} (e : X.base.get? b = some o) : b ∉ X.fs := fun hb => by
  have := (ok.funs.mem hb).1
  rw [e] at this; cases this
theorem Inv.bs (I : Inv X pins σ H s) : ∀ b o, X.base.get? b = some o → s.heap.get? b = some o ∧ H b = none := fun b o e =>
  ⟨I.base.keep b o (I.ok.bs b o e).1 (I.ok.bs b o e).2 (I.ok.nofr e) (I.ok.noex b o e), I.base.free b o (I.ok.bs b o e).1 (I.ok.bs b o e).2 (I.ok.noex b o e)⟩
theorem Inv.bk (I : Inv X pins σ H s) : ∀ b o, X.base.get? b = some o → s.heap.get? b = some o := fun b o e => (I.bs b o e).1
theorem Inv.mod (I : Inv X pins σ H s) : Mod X.K X.mg X.base := I.ok.mod
theorem Inv.kIn (I : Inv X pins σ H s) : X.K.In s.heap := I.ok.mod.kin.keeps I.bk
theorem Inv.nolimit (I : Inv X pins σ H s) : s.heap.NoLimit := I.ok.mod.nolimit.keeps I.bk
theorem Inv.fr (I : Inv X pins σ H s) : ∃ m, Fr X.base X.env.locals s.heap m :=
  let ⟨m, hn, _⟩ := I.loc
  ⟨m, hn, I.bk, Nat.le_trans I.ok.bsz I.ok.above⟩
theorem Inv.lt (I : Inv X pins σ H s) : X.env.locals < s.heap.objs.size := let ⟨_, hn, _⟩ := I.loc; hn.lt
theorem Inv.sz (I : Inv X pins σ H s) : X.s₀.heap.objs.size ≤ s.heap.objs.size := Nat.le_trans I.ok.above (Nat.le_of_lt I.lt)
theorem Inv.nofs (I : Inv X pins σ H s) {a : Addr} (h : s.heap.objs.size ≤ a) : a ∉ X.fs := fun hb => by
  obtain ⟨_, o, ho, _⟩ := I.ok.funs.mem hb
  exact absurd (Nat.lt_of_lt_of_le (Heap.lt_size ho) (Nat.le_trans I.sz h)) (Nat.lt_irrefl _)
theorem Inv.cne (I : Inv X pins σ H s) : ∀ x c, X.env.cells.lookup x = some c → c ≠ X.env.locals := fun x c e z => by
  obtain ⟨v, o, ho, hd⟩ := I.cell x c e
  obtain ⟨m, ⟨o', es, ep, ho', hd', _⟩, _⟩ := I.loc
  rw [z, ho'] at ho; cases ho; rw [hd'] at hd; cases hd
theorem Inv.funs (I : Inv X pins σ H s) : s.heap.FunFrames X.base X.outer := by
  have all : ∀ (l : List Env), (∀ b ∈ frs l, b ∈ X.fs) → X.s₀.heap.FunFrames X.base l → s.heap.FunFrames X.base l := by
    intro l
    induction l with
    | nil => intro _ _; trivial
    | cons env r ih =>
      intro hs hl
      obtain ⟨hk, ⟨L, o, hf, hn, ho, hd⟩, hr⟩ := hl
      have hL : L ∈ X.fs := hs L (by unfold frs; rw [List.filterMap_cons, hf]; exact List.mem_cons_self)
      obtain ⟨sl, e⟩ := I.base.slot L o ho (I.ok.frf L hL) hL fun z => I.ok.exfs L z hL
      exact ⟨hk, ⟨L, _, hf, hn, e, hd⟩, ih (fun b hb => hs b (by unfold frs; rw [List.filterMap_cons, hf]; exact List.mem_cons_of_mem _ hb)) hr⟩
  exact all X.outer (fun _ hb => hb) I.ok.funs
theorem Inv.stack (I : Inv X pins σ H s) : s.heap.FunFrames X.base X.stack := by
  rcases I.ok.stk with e | ⟨e, hf⟩
  · rw [e]; exact I.funs
  · rw [e]
    obtain ⟨m, hn, _⟩ := I.loc
    refine .cons (by rw [I.ok.kind]; decide) hf hn ?_ I.funs
    exact Heap.get?_none_of_le (Nat.le_trans I.ok.bsz I.ok.above)
theorem Inv.stkSub (I : Inv X pins σ H s) : ∀ b ∈ frs X.stack, b ∈ X.env.locals :: X.fs := fun b hb => by
  rcases I.ok.stk with e | ⟨e, hf⟩
  · rw [e] at hb; exact List.mem_cons_of_mem _ hb
  · rw [e] at hb
    unfold frs at hb
    rw [List.filterMap_cons, hf] at hb
    exact hb
theorem Inv.stkFree (I : Inv X pins σ H s) : ∀ b ∈ frs X.stack, H b = none := fun b hb => by
  rcases List.mem_cons.mp (I.stkSub b hb) with e | hb
  · rw [e]; exact I.free
  · obtain ⟨_, o, ho, _⟩ := I.ok.funs.mem hb
    exact I.base.free b o ho (I.ok.frf b hb) fun z => I.ok.exfs b z hb
theorem Inv.step {g' : Array GenState} {t' : Nat} {d' : Drawn} {ch : List Addr} (I : Inv X pins σ H s)
    (hch : ∀ b ∈ ch, (b ∈ X.ex ∨ X.s₀.heap.objs.size ≤ b) ∧ b ≠ X.env.locals ∧ (∀ x c, X.env.cells.lookup x = some c → c ≠ b) ∧ ∀ p ∈ X.pn ++ pins, p.1 ≠ b)
    (keep : ∀ b o, b ≠ X.env.locals → b ∉ X.fs → b ∉ ch → s.heap.get? b = some o → H b = none → h'.get? b = some o)
    (slot : ∀ b o, b ≠ X.env.locals → b ∈ X.fs → b ∉ ch → s.heap.get? b = some o → H b = none → ∃ sl, h'.get? b = some { o with slots := sl }) (free : ∀ b o, b ∉ ch → s.heap.get? b = some o → H b = none → H' b = none)
    (there : ∀ b o, b ∉ ch → s.heap.get? b = some o → ∃ o', h'.get? b = some o')
    (tups : ∀ b xs, H b = some (.tup xs) → H' b = some (.tup xs)) (frzs : ∀ b o u, H b = some (.frz o u) → H' b = some (.frz o u)) (tbls : ∀ b ps, H b = some (.tbl ps) → ∃ more, H' b = some (.tbl (ps ++ more)))
    (ns : ∀ m, s.heap.Ns X.env.locals m → h'.Ns X.env.locals m) (hok : HOk X.prog X.w H' h') (hg : AllBare g') :
    Inv X pins σ H' { s with heap := h', gens := g', drawn := d', toks := t' } := by
  have neL : ∀ b o, X.s₀.heap.get? b = some o → b ≠ X.env.locals := fun b o e => Nat.ne_of_lt (Nat.lt_of_lt_of_le (Heap.lt_size e) I.ok.above)
  have neC : ∀ b o, X.s₀.heap.get? b = some o → b ∉ X.ex → b ∉ ch := fun b o e hx hb => by
    rcases (hch b hb).1 with z | z
    · exact hx z
    · exact absurd (Nat.lt_of_lt_of_le (Heap.lt_size e) z) (Nat.lt_irrefl _)
  have cellK : ∀ x c, X.env.cells.lookup x = some c → ∀ v, s.heap.IsCell c v → h'.IsCell c v := fun x c e v ⟨o, ho, hd⟩ => by
    have nch : c ∉ ch := fun z => (hch c z).2.2.1 x c e rfl
    by_cases hc : c ∈ X.fs
    · obtain ⟨sl, q⟩ := slot c o (I.cne x c e) hc nch ho (I.freeC x c e)
      exact ⟨_, q, hd⟩
    · exact ⟨o, keep c o (I.cne x c e) hc nch ho (I.freeC x c e), hd⟩
  refine ⟨I.ok, I.os, hg, ⟨fun b o e n hb hx => ?_, fun b o e n hb hx => ?_, fun b o e n hx => ?_, fun b o e hx => ?_, fun b xs e => tups b xs (I.base.tups b xs e), fun b o xs e => frzs b o xs (I.base.frzs b o xs e), fun b ps e => ?_⟩, ?_, fun x c e => ?_, ?_, fun x c e => ?_, fun p hp => ?_, hok, I.len⟩
  · exact keep b o (neL b o e) hb (neC b o e hx) (I.base.keep b o e n hb hx) (I.base.free b o e n hx)
  · obtain ⟨sl, e1⟩ := I.base.slot b o e n hb hx
    obtain ⟨sl', e2⟩ := slot b _ (neL b o e) hb (neC b o e hx) e1 (I.base.free b o e n hx)
    exact ⟨sl', e2⟩
  · obtain ⟨o', e1⟩ := I.base.there b o e hx
    exact free b o' (neC b o e hx) e1 (I.base.free b o e n hx)
  · obtain ⟨o', e1⟩ := I.base.there b o e hx
    exact there b o' (neC b o e hx) e1
  · obtain ⟨m1, e1⟩ := I.base.tbls b ps e
    obtain ⟨m2, e2⟩ := tbls b _ e1
    exact ⟨m1 ++ m2, by rw [e2, Array.append_assoc]⟩
  · obtain ⟨m, hn, hl⟩ := I.loc
    refine ⟨m, ns m hn, fun i x v e1 e2 e3 => ?_⟩
    obtain ⟨u, r, l⟩ := hl i x v e1 e2 e3
    refine ⟨u, r, ?_⟩
    rcases l with l | ⟨k, c, e, z⟩
    · exact .inl l
    · exact .inr ⟨k, c, e, cellK x c e _ z⟩
  · obtain ⟨v, z⟩ := I.cell x c e
    exact ⟨v, cellK x c e v z⟩
  · obtain ⟨m, ⟨o, _, _, ho, _⟩, _⟩ := I.loc
    exact free _ o (fun z => (hch _ z).2.1 rfl) ho I.free
  · obtain ⟨v, o, ho, hd⟩ := I.cell x c e
    exact free c o (fun z => (hch c z).2.2.1 x c e rfl) ho (I.freeC x c e)
  · obtain ⟨e, n, ne, nf, d⟩ := I.pin p hp
    have nch : p.1 ∉ ch := fun z => (hch p.1 z).2.2.2 p hp rfl
    exact ⟨keep p.1 p.2 ne nf nch e n, free p.1 p.2 nch e n, ne, nf, d⟩
theorem Inv.un {t' : Nat} (I : Inv X pins σ H s) (u : Un X.fs [] H H' s.heap h') (hok : HOk X.prog X.w H' h') : Inv X pins σ H' { s with heap := h', toks := t' } := by
  obtain ⟨m, ⟨o, es, ep, ho, r⟩, _⟩ := id I.loc
  obtain ⟨sl, hL⟩ := u.any ho I.free (by simp)
  exact I.step (g' := s.gens) (d' := s.drawn) (ch := []) (fun _ z => nomatch z) (fun b o _ hb _ e n => u.keep b o e n hb (by simp)) (fun b o _ hb _ e n => u.slot b o e n hb (by simp)) (fun b o _ e n => u.free b o e n (by simp)) (fun b o _ e => u.there b o e (by simp)) u.tups u.frzs u.tbls (fun m' hm => by
    obtain ⟨o', es', ep', ho', r'⟩ := hm
    rw [ho] at ho'; cases ho'
    exact ⟨_, es', ep', hL, r'⟩) hok I.bare
theorem Inv.call {g' : Array GenState} {t' : Nat} {d' : Drawn} {ch : List Addr} (I : Inv X pins σ H s) (u : Un (frs X.stack) ch H H' s.heap h') (hok : HOk X.prog X.w H' h') (hg : AllBare g')
    (hch : ∀ b ∈ ch, (b ∈ X.ex ∨ X.s₀.heap.objs.size ≤ b) ∧ b ≠ X.env.locals ∧ (∀ x c, X.env.cells.lookup x = some c → c ≠ b) ∧ ∀ p ∈ X.pn ++ pins, p.1 ≠ b) :
    Inv X pins σ H' { s with heap := h', gens := g', drawn := d', toks := t' } := by
  obtain ⟨m, ⟨o, es, ep, ho, r⟩, _⟩ := id I.loc
  obtain ⟨sl, hL⟩ := u.any ho I.free fun z => (hch _ z).2.1 rfl
  exact I.step (ch := ch) hch (fun b o hL hb hc e n => u.keep b o e n (fun z => (List.mem_cons.mp (I.stkSub b z)).elim hL hb) hc) (fun b o _ _ hc e n => u.any e n hc) (fun b o hc e n => u.free b o e n hc) (fun b o hc e => u.there b o e hc) u.tups u.frzs u.tbls (fun m' hm => by
    obtain ⟨o', es', ep', ho', r'⟩ := hm
    rw [ho] at ho'; cases ho'
    exact ⟨_, es', ep', hL, r'⟩) hok hg
theorem Inv.turned {t' : Nat} {it : Addr} (I : Inv X pins σ H s) (k : ∀ b o, b ≠ it → s.heap.get? b = some o → h'.get? b = some o) (hn : H it = none) (hL : it ≠ X.env.locals)
    (h1 : it ∈ X.ex ∨ X.s₀.heap.objs.size ≤ it) (h2 : ∀ x c, X.env.cells.lookup x = some c → c ≠ it) (h3 : ∀ p ∈ X.pn ++ pins, p.1 ≠ it) : Inv X pins σ H { s with heap := h', toks := t' } := by
  have nit : ∀ b u, H b = some u → b ≠ it := fun b u e z => by rw [z, hn] at e; cases e
  refine I.step (g' := s.gens) (d' := s.drawn) (ch := [it]) (fun b hb => ?_) (fun b o _ _ hc e _ => k b o (fun z => hc (by simp [z])) e) (fun b o _ _ hc e _ => ⟨o.slots, k b o (fun z => hc (by simp [z])) e⟩) (fun _ _ _ _ n => n)
    (fun b o hc e => ⟨o, k b o (fun z => hc (by simp [z])) e⟩) (fun _ _ e => e) (fun _ _ _ e => e) (fun b ps e => ⟨#[], by rw [e]; simp⟩) (fun m hm => ?_) (fun b u e => ?_) I.bare
  · have e : b = it := by simpa using hb
    subst e
    exact ⟨h1, hL, h2, h3⟩
  · obtain ⟨o, es, ep, ho, r⟩ := hm
    exact ⟨o, es, ep, k _ o (Ne.symm hL) ho, r⟩
  · refine (I.hok b u e).stay (fun c v hc q => k c v ?_ q) (fun _ q => q) fun _ _ q => q
    rcases hc with z | z
    · rw [z]; exact nit b u e
    · exact nit c _ z
theorem Inv.tok (I : Inv X pins σ H s) (t : Nat) : Inv X pins σ H { s with toks := t } := I.un (h' := s.heap) (t' := t) Un.refl I.hok
theorem Inv.kept {t' : Nat} (I : Inv X pins σ H s) (k : ∀ b u, s.heap.get? b = some u → h'.get? b = some u) : Inv X pins σ H { s with heap := h', toks := t' } := I.un (Un.kept k) (I.hok.kept k)
theorem Inv.laid {a : Addr} {o : HO} {t' : Nat} (I : Inv X pins σ H s) (k : ∀ b u, s.heap.get? b = some u → h'.get? b = some u) (hp : s.heap.objs.size ≤ a) (new : ObjOk X.prog X.w (upd H a o) h' a o) :
    Inv X pins σ (upd H a o) { s with heap := h', toks := t' } := I.un (Un.laid k hp (I.hok.fresh hp)) (I.hok.laid k hp new)
theorem Inv.write {x e : Addr} {o : HO} {t' : Nat} (I : Inv X pins σ H s) (mu : Mut (H x)) (he : e = x ∨ H e = some (.own x)) (k : ∀ b u, b ≠ e → s.heap.get? b = some u → h'.get? b = some u) (heo : ∃ u, h'.get? e = some u)
    (new : ObjOk X.prog X.w (upd H x o) h' x o) : Inv X pins σ (upd H x o) { s with heap := h', toks := t' } := I.un (Un.write mu he k heo) (I.hok.write mu he k heo new)
theorem Inv.weak {σ' : List (Option V)} (I : Inv X pins σ H s) (hl : σ'.length = σ.length) (w : ∀ (i : Nat) v, σ'[i]? = some (some v) → σ[i]? = some (some v)) : Inv X pins σ' H s :=
  ⟨I.ok, I.os, I.bare, I.base, let ⟨m, hn, hl'⟩ := I.loc; ⟨m, hn, fun i x v e1 e2 e3 => hl' i x v e1 (w i v e2) e3⟩, I.cell, I.free, I.freeC, I.pin, I.hok, hl.trans I.len⟩
theorem Inv.pins_of {pins' : List (Addr × Obj)} (I : Inv X pins σ H s) (h : ∀ p ∈ pins', s.heap.get? p.1 = some p.2 ∧ H p.1 = none ∧ p.1 ≠ X.env.locals ∧ p.1 ∉ X.fs ∧ ∀ v, p.2.data ≠ .cell v) : Inv X pins' σ H s :=
  ⟨I.ok, I.os, I.bare, I.base, I.loc, I.cell, I.free, I.freeC, fun p hp => (List.mem_append.mp hp).elim (fun z => I.pin p (List.mem_append_left _ z)) (h p), I.hok, I.len⟩
theorem nodup_ix {N : List Str} (hN : N.Nodup) {i j : Nat} {x : Str} (a : N[i]? = some x) (b : N[j]? = some x) : i = j := by
  obtain ⟨h1, e1⟩ := List.getElem?_eq_some_iff.mp a
  obtain ⟨h2, e2⟩ := List.getElem?_eq_some_iff.mp b
  exact (List.getElem_inj hN).mp (e1.trans e2.symm)
theorem store_ok2 {M : Model} {A : Around} {E : Value → Shared → Prop} {i : Nat} {x : Str} {v : V} {u : Value} {Q : Unit → Shared → Prop} (I : Inv X pins σ H s) (hN : X.N.Nodup) (hi : X.N[i]? = some x) (hx : Loc X.env.scope x) (r : RelV v u)
    (h : ∀ s', Inv X pins (σ.set i (some v)) H s' → (∃ a, Heap.SameBut a s.heap s'.heap ∧ (a = X.env.locals ∨ X.env.cells.lookup x = some a)) → Q () s') (hf : X.fn x = true ∨ X.env.scope.names.lookup x = some .local := by first | exact .inl rfl | exact .inr rfl | assumption) : wpAny M A (storeName X.env x u) Q E s := by
  obtain ⟨m, hn, hl⟩ := id I.loc
  have hcls : (X.env.scope.kind == .class || (X.env.scope.kind == .module && X.env.locals != X.env.globals)) = false := by rw [I.ok.kind]; rfl
  have hiσ : i < σ.length := by rw [I.len]; exact (List.getElem?_eq_some_iff.mp hi).1
  have cne := I.cne
  have tracked : ∀ {a : Addr} {h' : Heap}, (∃ o, s.heap.get? a = some o ∧ H a = none) → Heap.SameBut a s.heap h' → HOk X.prog X.w H h' := fun {a h'} ha hs b ob e => by
    obtain ⟨_, _, hfree⟩ := ha
    refine (I.hok b ob e).stay (fun c w' hc q => (hs.2 c ?_).trans q) (fun _ q => q) fun _ _ q => q
    rintro rfl
    rcases hc with rfl | hc
    · rw [hfree] at e; cases e
    · rw [hfree] at hc; cases hc
  rcases hx with hk | hk
  · refine wpAny_storeName_local hk hn (fun h' hn' hs => ?_) hcls
    obtain ⟨oL, _, _, hoL, _⟩ := id hn
    refine h _ ⟨I.ok, I.os, I.bare, ⟨fun b o e n hb hx => ?_, fun b o e n hb hx => ?_, I.base.free, fun b o e hx => ?_, I.base.tups, I.base.frzs, I.base.tbls⟩, ⟨_, hn', fun j y v' e1 e2 e3 => ?_⟩, fun y c e => ?_, I.free, I.freeC, fun p hp => ?_, tracked ⟨oL, hoL, I.free⟩ hs, by simpa using I.len⟩ ⟨_, hs, .inl rfl⟩
    · exact (hs.2 b (Nat.ne_of_lt (Nat.lt_of_lt_of_le (Heap.lt_size e) I.ok.above))).trans (I.base.keep b o e n hb hx)
    · obtain ⟨sl, e1⟩ := I.base.slot b o e n hb hx
      exact ⟨sl, (hs.2 b (Nat.ne_of_lt (Nat.lt_of_lt_of_le (Heap.lt_size e) I.ok.above))).trans e1⟩
    · obtain ⟨o', e1⟩ := I.base.there b o e hx
      exact ⟨o', (hs.2 b (Nat.ne_of_lt (Nat.lt_of_lt_of_le (Heap.lt_size e) I.ok.above))).trans e1⟩
    · by_cases hj : j = i
      · subst hj
        rw [hi] at e1; cases e1
        rw [List.getElem?_set_self hiσ] at e2
        cases e2
        exact ⟨u, r, .inl ⟨hk, by simp⟩⟩
      · rw [List.getElem?_set_ne (Ne.symm hj)] at e2
        obtain ⟨u', r', q⟩ := hl j y v' e1 e2 e3
        refine ⟨u', r', ?_⟩
        rcases q with ⟨k, e⟩ | ⟨k, c, e, z⟩
        · refine .inl ⟨k, ?_⟩
          have : y ≠ x := fun e => hj (nodup_ix hN e1 (e ▸ hi))
          simp [this, e]
        · exact .inr ⟨k, c, e, z.sameBut hs (cne y c e)⟩
    · obtain ⟨w', z⟩ := I.cell y c e
      exact ⟨w', z.sameBut hs (cne y c e)⟩
    · obtain ⟨e, n, ne, nf, d⟩ := I.pin p hp
      exact ⟨(hs.2 p.1 ne).trans e, n, ne, nf, d⟩
  · have hfn : X.fn x = true := by
      rcases hf with z | z
      · exact z
      · rw [z] at hk; cases hk
    obtain ⟨c, hc⟩ := I.ok.has x (.inl hk)
    obtain ⟨w', z⟩ := I.cell x c hc
    refine wpAny_storeName_cell I.ok.kind hk hc z (fun h' hc' hs => ?_)
    obtain ⟨oc, hoc, hocd⟩ := id z
    refine h { s with heap := h' } ⟨I.ok, I.os, I.bare, ⟨fun b o e n hb hx => ?_, fun b o e n hb hx => ?_, I.base.free, fun b o e hx => ?_, I.base.tups, I.base.frzs, I.base.tbls⟩, ⟨m, hn.sameBut hs (Ne.symm (cne x c hc)), fun j y v' e1 e2 e3 => ?_⟩, fun y c' e => ?_, I.free, I.freeC, fun p hp => ?_, tracked ⟨oc, hoc, I.freeC x c hc⟩ hs, by simpa using I.len⟩ ⟨c, hs, .inr hc⟩
    · exact (hs.2 b (Nat.ne_of_lt (Nat.lt_of_lt_of_le (Heap.lt_size e) (I.ok.cab x c hfn hc)))).trans (I.base.keep b o e n hb hx)
    · obtain ⟨sl, e1⟩ := I.base.slot b o e n hb hx
      exact ⟨sl, (hs.2 b (Nat.ne_of_lt (Nat.lt_of_lt_of_le (Heap.lt_size e) (I.ok.cab x c hfn hc)))).trans e1⟩
    · obtain ⟨o', e1⟩ := I.base.there b o e hx
      exact ⟨o', (hs.2 b (Nat.ne_of_lt (Nat.lt_of_lt_of_le (Heap.lt_size e) (I.ok.cab x c hfn hc)))).trans e1⟩
    · by_cases hj : j = i
      · subst hj
        rw [hi] at e1; cases e1
        rw [List.getElem?_set_self hiσ] at e2
        cases e2
        exact ⟨u, r, .inr ⟨.inl hk, c, hc, hc'⟩⟩
      · rw [List.getElem?_set_ne (Ne.symm hj)] at e2
        obtain ⟨u', r', q⟩ := hl j y v' e1 e2 e3
        refine ⟨u', r', ?_⟩
        rcases q with q | ⟨k, c', e, z'⟩
        · exact .inl q
        · refine .inr ⟨k, c', e, z'.sameBut hs ?_⟩
          rintro rfl
          exact hj (nodup_ix hN e1 (I.ok.inj _ _ _ e hc ▸ hi))
    · by_cases hcc : c' = c
      · subst hcc; exact ⟨_, hc'⟩
      · obtain ⟨w2, z2⟩ := I.cell y c' e
        exact ⟨w2, z2.sameBut hs hcc⟩
    · obtain ⟨e, n, ne, nf, d⟩ := I.pin p hp
      refine ⟨(hs.2 p.1 ?_).trans e, n, ne, nf, d⟩
      intro q
      rw [q, hoc] at e
      have q' : oc = p.2 := Option.some.inj e
      exact d w' (by rw [← q']; exact hocd)
theorem store_ok {M : Model} {A : Around} {E : Value → Shared → Prop} {i : Nat} {x : Str} {v : V} {u : Value} {Q : Unit → Shared → Prop} (I : Inv X pins σ H s) (hN : X.N.Nodup) (hi : X.N[i]? = some x) (hx : Loc X.env.scope x) (r : RelV v u)
    (h : ∀ s', Inv X pins (σ.set i (some v)) H s' → Q () s') (hf : X.fn x = true ∨ X.env.scope.names.lookup x = some .local := by first | exact .inl rfl | exact .inr rfl | assumption) : wpAny M A (storeName X.env x u) Q E s :=
  store_ok2 I hN hi hx r (fun s' I' _ => h s' I') hf
theorem Inv.call' {s' : Shared} {ch : List Addr} (I : Inv X pins σ H s) (ho : s'.os = s.os) (u : Un (frs X.stack) ch H H' s.heap s'.heap) (hok : HOk X.prog X.w H' s'.heap) (hg : AllBare s'.gens)
    (hch : ∀ b ∈ ch, (b ∈ X.ex ∨ X.s₀.heap.objs.size ≤ b) ∧ b ≠ X.env.locals ∧ (∀ x c, X.env.cells.lookup x = some c → c ≠ b) ∧ ∀ p ∈ X.pn ++ pins, p.1 ≠ b) : Inv X pins σ H' s' := by
  obtain ⟨h', g', d', t', o'⟩ := s'
  have e : o' = s.os := ho
  subst e
  exact I.call (g' := g') (t' := t') (d' := d') u hok hg hch
end
abbrev XK := Value → Option Addr → Hp → Prop
abbrev St := List (Option V)
abbrev VK := V → Hp → Prop
abbrev TE := St → Hp → VK → Prop
abbrev TT := St → Hp → (Bool → Hp → Prop) → Prop
abbrev TA := St → Hp → (List V → Hp → Prop) → Prop
structure Ends where
  nx : St → Hp → Prop
  rt : VK
  bk : St → Hp → Prop := fun _ _ => False
  ct : St → Hp → Prop := fun _ _ => False
abbrev TS := Ends → St → Hp → Prop
def EP (X : Cx) (pins : List (Addr × Obj)) (σ : St) (Q : VK) (u : Value) (s' : Shared) : Prop := ∃ v H', Inv X pins σ H' s' ∧ RelV v u ∧ Q v H'
def TP (X : Cx) (pins : List (Addr × Obj)) (σ : St) (Q : Bool → Hp → Prop) (b : Bool) (s' : Shared) : Prop := ∃ H', Inv X pins σ H' s' ∧ Q b H'
def AP (X : Cx) (pins : List (Addr × Obj)) (σ : St) (Q : List V → Hp → Prop) (us : List Value) (s' : Shared) : Prop := ∃ vs H', Inv X pins σ H' s' ∧ Vals vs us ∧ Q vs H'
def SP (X : Cx) (pins : List (Addr × Obj)) (D : Ends) (f : Flow) (s' : Shared) : Prop :=
  match f with
  | .next => ∃ σ' H', Inv X pins σ' H' s' ∧ D.nx σ' H'
  | .brk => ∃ σ' H', Inv X pins σ' H' s' ∧ D.bk σ' H'
  | .cont => ∃ σ' H', Inv X pins σ' H' s' ∧ D.ct σ' H'
  | .ret u => ∃ v σ' H', Inv X pins σ' H' s' ∧ RelV v u ∧ D.rt v H'
def PE (X : Cx) (e : Expr) (t : TE) : Prop :=
  ∀ (pins : List (Addr × Obj)) (s : Shared) (σ : St) (H : Hp) (Q : VK), Inv X pins σ H s → t σ H Q → wpAny (model X.prog X.w) X.A (eval e X.env) (EP X pins σ Q) X.xe s
def PT (X : Cx) (e : Expr) (t : TT) : Prop :=
  ∀ (pins : List (Addr × Obj)) (s : Shared) (σ : St) (H : Hp) (Q : Bool → Hp → Prop), Inv X pins σ H s → t σ H Q → wpAny (model X.prog X.w) X.A (isTrue e X.env (eval e X.env)) (TP X pins σ Q) X.xe s
def PW (X : Cx) (e : Expr) (t : TT) : Prop :=
  ∀ (whole : Sem Value) (pins : List (Addr × Obj)) (s : Shared) (σ : St) (H : Hp) (Q : Bool → Hp → Prop), Inv X pins σ H s → t σ H Q → wpAny (model X.prog X.w) X.A (isTrue e X.env whole) (TP X pins σ Q) X.xe s
theorem PW.pt {X : Cx} {e : Expr} {t : TT} (h : PW X e t) : PT X e t := h _
def PA (X : Cx) (es : List Expr) (t : TA) : Prop :=
  ∀ (pos : Pos) (pins : List (Addr × Obj)) (s : Shared) (σ : St) (H : Hp) (Q : List V → Hp → Prop), Inv X pins σ H s → t σ H Q → wpAny (model X.prog X.w) X.A (spliced (backTo pos (starEach es X.env))) (AP X pins σ Q) X.xe s
def PS (X : Cx) (st : Stmt) (t : TS) : Prop :=
  ∀ (pins : List (Addr × Obj)) (s : Shared) (σ : St) (H : Hp) (D : Ends), Inv X pins σ H s → t D σ H → wpAny (model X.prog X.w) X.A (exec st X.env) (SP X pins D) X.xe s
def PSs (X : Cx) (st : List Stmt) (t : TS) : Prop :=
  ∀ (pins : List (Addr × Obj)) (s : Shared) (σ : St) (H : Hp) (D : Ends), Inv X pins σ H s → t D σ H → wpAny (model X.prog X.w) X.A (execs st X.env) (SP X pins D) X.xe s
theorem thn {α : Type} {t : Sem α} {Q Q' : α → Shared → Prop} {M : Model} {A : Around} {E : Value → Shared → Prop} {s : Shared} (h : wpAny M A t Q E s) (hQ : ∀ a s, Q a s → Q' a s) : wpAny M A t Q' E s := wpAny_mono h hQ fun _ _ x => x
end L2
namespace L2
open PySem PySem.Spec PyProof.Rows
section
variable {X : Cx}
def tVar (i : Nat) : TE := fun σ H Q => ∃ v, σ[i]? = some (some v) ∧ Q v H
def tC (v : V) : TE := fun _ H Q => Q v H
theorem pe_var {i : Nat} {x : Str} {pos : Pos} (hN : X.N[i]? = some x) (hv : Vis X.env.scope x) (hd : (x == ("__debug__" : Str)) = false := by decide) (hcd : (x == ("__classdict__" : Str)) = false := by decide) : PE X (.Name x pos) (tVar i) := by
  intro pins s σ H Q I h
  obtain ⟨v, e, h⟩ := h
  obtain ⟨m, hn, hl⟩ := I.loc
  obtain ⟨u, r, l⟩ := hl i x v hN e hv
  have fin : EP X pins σ Q u s := ⟨v, H, I, r, h⟩
  rcases l with ⟨hk, hm⟩ | ⟨hk, c, hc, hcell⟩
  · exact wpAny_Name (wpAny_loadName_local I.ok.kind hk hn hm fin) hd
  · rcases hk with hk | hk
    · exact wpAny_Name (wpAny_loadName_cell I.ok.kind hk hc hcell fin) hd
    · exact wpAny_Name (wpAny_loadName_free I.ok.kind hk hc hcell fin hcd) hd
theorem pe_int {i j pos} : PE X (.Constant (.int i) j pos) (tC (.int i)) := fun _ _ _ H _ I h => wpAny_Constant_int ⟨.int i, H, I.tok _, ⟨_, rfl⟩, h⟩
theorem pe_bl {b j pos} : PE X (.Constant (.bool b) j pos) (tC (.bl b)) := fun _ _ _ H _ I h => Constant_bool ⟨.bl b, H, I, rfl, h⟩
theorem pe_non {j pos} : PE X (.Constant .none j pos) (tC .non) := fun _ _ _ H _ I h => Constant_none ⟨.non, H, I, rfl, h⟩
theorem pe_str {x j pos} : PE X (.Constant (.str x) j pos) (tC (.str x)) := fun _ _ _ H _ I h => Calls.Constant_str ⟨.str x, H, I.tok _, ⟨_, rfl⟩, h⟩
def Gl (X : Cx) (x : Str) : Prop := X.env.kindOf x = some .globalImplicit
theorem ld_glob {E : Value → Shared → Prop} {pins : List (Addr × Obj)} {s : Shared} {σ : St} {H : Hp} {x : Str} {u : Value} {pos : Pos} {Q : Value → Shared → Prop} (I : Inv X pins σ H s) (hg : Gl X x) (hm : X.mg x = some u) (h : Q u s)
    (hd : (x == ("__debug__" : Str)) = false := by decide) : wpAny (model X.prog X.w) X.A (eval (.Name x pos) X.env) Q E s :=
  Calls.Name_function_global I.ok.kind hg (Calls.loadGlobal_global (by rw [I.ok.glob]; exact I.mod.glob.keeps I.bk) hm h) hd
theorem ld_blt {E : Value → Shared → Prop} {pins : List (Addr × Obj)} {s : Shared} {σ : St} {H : Hp} {x : Str} {u : Value} {pos : Pos} {Q : Value → Shared → Prop} (I : Inv X pins σ H s) (hg : Gl X x) (hm : X.mg x = none) (hv : bootBuiltins x = some u) (h : Q u s)
    (hn : x ≠ "__name__" := by decide) (hd : (x == ("__debug__" : Str)) = false := by decide) : wpAny (model X.prog X.w) X.A (eval (.Name x pos) X.env) Q E s := by
  obtain ⟨mb, h1, h2⟩ := I.mod.blt
  exact Calls.Name_function_global I.ok.kind hg (Calls.loadGlobal_builtin (by rw [I.ok.glob]; exact I.mod.glob.keeps I.bk) hm (by rw [I.ok.blt]; exact h1.keeps I.bk) ((h2 x hn).trans hv) h) hd
theorem pe_glob {x : Str} {v : V} {u : Value} {pos : Pos} (hg : Gl X x) (hm : X.mg x = some u) (r : RelV v u) (hd : (x == ("__debug__" : Str)) = false := by decide) : PE X (.Name x pos) (tC v) :=
  fun _ _ _ H _ I h => ld_glob I hg hm ⟨v, H, I, r, h⟩ hd
theorem pe_bltn {x : Str} {v : V} {u : Value} {pos : Pos} (hg : Gl X x) (hm : X.mg x = none) (hv : bootBuiltins x = some u) (r : RelV v u) (hn : x ≠ "__name__" := by decide) (hd : (x == ("__debug__" : Str)) = false := by decide) : PE X (.Name x pos) (tC v) :=
  fun _ _ _ H _ I h => ld_blt I hg hm hv ⟨v, H, I, r, h⟩ hn hd
variable {a b : Expr} {ta tb : TE} {pos : Pos}
def tB (t : TE) : TT := fun σ H Q => t σ H fun x H1 => ∃ c, x = .bl c ∧ Q c H1
theorem pt_val {e : Expr} {t : TE} (h : PE X e t) (he : ∀ whole, isTrue e X.env whole = (do let v ← whole; standAt e.pos; holding [v] (truthy v)) := by intro _; rfl) : PT X e (tB t) := by
  intro pins s σ H Q I hw
  refine isTrue_plain (thn (h pins s σ H _ I hw) fun v s1 ⟨x, H1, I1, r1, q1⟩ => ?_) (he _)
  obtain ⟨d, rfl, q⟩ := q1
  cases r1
  exact wpAny_truthy_bool ⟨H1, I1, q⟩
variable {tA tB' : TT} {rest : List Expr}
def tAnd (t u : TT) : TT := fun σ H Q => t σ H fun c H1 => if c = true then u σ H1 Q else Q false H1
def tOr (t u : TT) : TT := fun σ H Q => t σ H fun c H1 => if c = true then Q true H1 else u σ H1 Q
def tNot (t : TT) : TT := fun σ H Q => t σ H fun c H1 => Q (!c) H1
theorem pw_and1 (ha : PT X a tA) : PW X (.BoolOp .And [a] pos) tA := by
  intro wh pins s σ H Q I h
  refine isTrue_and (thn (ha pins s σ H Q I h) fun c s1 e => ?_)
  cases c with
  | true => exact isTrue_and_nil e
  | false => exact e
theorem pw_or1 (ha : PT X a tA) : PW X (.BoolOp .Or [a] pos) tA := by
  intro wh pins s σ H Q I h
  refine isTrue_or (thn (ha pins s σ H Q I h) fun c s1 e => ?_)
  cases c with
  | false => exact isTrue_or_nil e
  | true => exact e
theorem pw_and (ha : PT X a tA) (hb : PW X (.BoolOp .And (b :: rest) pos) tB') : PW X (.BoolOp .And (a :: b :: rest) pos) (tAnd tA tB') := by
  intro wh pins s σ H Q I h
  refine isTrue_and (thn (ha pins s σ H _ I h) fun c s1 ⟨H1, I1, q1⟩ => ?_)
  cases c with
  | true => exact hb wh pins s1 σ H1 Q I1 q1
  | false => exact ⟨H1, I1, q1⟩
theorem pw_or (ha : PT X a tA) (hb : PW X (.BoolOp .Or (b :: rest) pos) tB') : PW X (.BoolOp .Or (a :: b :: rest) pos) (tOr tA tB') := by
  intro wh pins s σ H Q I h
  refine isTrue_or (thn (ha pins s σ H _ I h) fun c s1 ⟨H1, I1, q1⟩ => ?_)
  cases c with
  | true => exact ⟨H1, I1, q1⟩
  | false => exact hb wh pins s1 σ H1 Q I1 q1
theorem pt_not (ha : PT X a tA) : PT X (.UnaryOp .Not a pos) (tNot tA) := by
  intro pins s σ H Q I h
  exact isTrue_not (ha pins s σ H (fun c H1 => Q (!c) H1) I h)
def tAndV (ta tb : TE) : TE := fun σ H Q => ta σ H fun x H1 => ∃ c, x = .bl c ∧ if c = true then tb σ H1 Q else Q (.bl false) H1
def tNotV (ta : TE) : TE := fun σ H Q => ta σ H fun x H1 => ∃ c, x = .bl c ∧ Q (.bl (!c)) H1
theorem pe_one {op} {t : TE} (h : PE X a t) : PE X (.BoolOp op [a] pos) t := fun pins s σ H Q I hw => BoolOp_one (h pins s σ H Q I hw)
theorem pe_and (ha : PE X a ta) (hb : PE X (.BoolOp .And (b :: rest) pos) tb) : PE X (.BoolOp .And (a :: b :: rest) pos) (tAndV ta tb) := by
  intro pins s σ H Q I h
  refine BoolOp_and (thn (ha pins s σ H _ I h) fun v s1 ⟨x, H1, I1, r1, q1⟩ => ?_)
  obtain ⟨c, rfl, q1⟩ := q1
  cases r1
  refine wpAny_truthy_bool ?_
  cases c with
  | true => exact hb pins s1 σ H1 Q I1 q1
  | false => exact ⟨.bl false, H1, I1, rfl, q1⟩
theorem pe_not (ha : PE X a ta) : PE X (.UnaryOp .Not a pos) (tNotV ta) := by
  intro pins s σ H Q I h
  refine UnaryOp_ (thn (ha pins s σ H _ I h) fun v s1 ⟨x, H1, I1, r1, q1⟩ => ?_)
  obtain ⟨c, rfl, q1⟩ := q1
  cases r1
  exact not_of (wpAny_truthy_bool ⟨.bl (!c), H1, I1, rfl, q1⟩)
def tIf (t : TT) (ta tb : TE) : TE := fun σ H Q => t σ H fun c H1 => if c = true then ta σ H1 Q else tb σ H1 Q
theorem pe_ifExp {c : Expr} (hc : PT X c tA) (ha : PE X a ta) (hb : PE X b tb) : PE X (.IfExp c a b pos) (tIf tA ta tb) := by
  intro pins s σ H Q I h
  refine wpAny_IfExp (thn (hc pins s σ H _ I h) fun d s1 ⟨H1, I1, q1⟩ => ?_)
  cases d with
  | true => exact ha pins s1 σ H1 Q I1 q1
  | false => exact hb pins s1 σ H1 Q I1 q1
end
end L2
namespace L2
open PySem PySem.Spec PyProof.Rows
def SqL (K : PySem.W.Frag) (H : Hp) (a : Addr) (xs : List V) : Prop :=
  Rd H a (.lst xs) ∨
    ∃ (o : Obj) (its : Array Value) (n : Nat), K.lookup a = some o ∧ o.cls = .type "list" ∧ o.dict = none ∧ o.data = .seq its n ∧ its.size ≤ sizeLine ∧ Vals xs its.toList
def SqT (K : PySem.W.Frag) (H : Hp) (a : Addr) (xs : List V) : Prop :=
  Rd H a (.tup xs) ∨
    ∃ (o : Obj) (its : Array Value) (n : Nat), K.lookup a = some o ∧ o.cls = .type "tuple" ∧ o.data = .seq its n ∧ its.size ≤ sizeLine ∧ Vals xs its.toList
def absV : Value → Option V
  | .none => some .non
  | .bool b => some (.bl b)
  | .int i _ => some (.int i)
  | .str x _ => some (.str x)
  | .bytes b _ => some (.byt b)
  | .float b _ => some (.flt b)
  | .ref a => some (.ref a)
  | .type n => some (.ty n)
  | _ => none
theorem RelV.abs {x : V} {u : Value} (r : RelV x u) : absV u = some x := by
  cases x with
  | non => cases r; rfl
  | bl _ => cases r; rfl
  | int _ => obtain ⟨t, rfl⟩ := r; rfl
  | str _ => obtain ⟨t, rfl⟩ := r; rfl
  | byt _ => obtain ⟨t, rfl⟩ := r; rfl
  | flt _ => obtain ⟨t, rfl⟩ := r; rfl
  | ref _ => cases r; rfl
  | ty _ => cases r; rfl
theorem RelV.inj {x y : V} {u : Value} (r : RelV x u) (q : RelV y u) : x = y := Option.some.inj (r.abs.symm.trans q.abs)
theorem Vals.inj : ∀ {xs ys : List V} {us : List Value}, Vals xs us → Vals ys us → xs = ys
  | _, _, _, .nil, .nil => rfl
  | _, _, _, .cons r t, .cons r' t' => by rw [r.inj r', Vals.inj t t']
section
variable {X : Cx} {pins : List (Addr × Obj)} {σ : St} {H : Hp} {s : Shared} {a : Addr} {xs ys : List V}
theorem SqL.of {K : PySem.W.Frag} (h : H a = some (.lst xs)) : SqL K H a xs := .inl (.inl h)
theorem SqT.of {K : PySem.W.Frag} (h : H a = some (.tup xs)) : SqT K H a xs := .inl (.inl h)
theorem Inv.list (I : Inv X pins σ H s) (h : SqL X.K H a xs) : ∃ its : List Value, Vals xs its ∧ PlainL s.heap a its.toArray ∧ xs.length ≤ sizeLine := by
  rcases h with h | ⟨o, its, n, hk, hc, hd, hs, hz, r⟩
  · obtain ⟨z, its, n, r, e⟩ := h.ok I.hok
    exact ⟨its, r, ⟨_, n, e, rfl, rfl, rfl⟩, z⟩
  · refine ⟨its.toList, r, ⟨o, n, I.kIn a o hk, hc, hd, by simpa using hs⟩, ?_⟩
    have e := r.length
    simp only [Array.length_toList] at e
    omega
theorem Inv.tuple (I : Inv X pins σ H s) (h : SqT X.K H a xs) : ∃ its : List Value, Vals xs its ∧ IsTup s.heap a its.toArray ∧ xs.length ≤ sizeLine := by
  rcases h with h | ⟨o, its, n, hk, hc, hs, hz, r⟩
  · obtain ⟨z, its, r, p⟩ := h.ok I.hok
    exact ⟨its, r, p, z.1⟩
  · refine ⟨its.toList, r, ⟨o, I.kIn a o hk, hc, n, by simpa using hs⟩, ?_⟩
    have e := r.length
    simp only [Array.length_toList] at e
    omega
theorem Inv.list_inj (I : Inv X pins σ H s) (h : SqL X.K H a xs) (h' : SqL X.K H a ys) : xs = ys := by
  obtain ⟨its, r, ⟨o, n, e, _, _, d⟩, _⟩ := I.list h
  obtain ⟨its', r', ⟨o', n', e', _, _, d'⟩, _⟩ := I.list h'
  rw [e] at e'; cases e'
  rw [d] at d'
  injection d' with d1 _
  have : its = its' := by simpa using congrArg Array.toList d1
  subst this
  exact r.inj r'
theorem Inv.tuple_inj (I : Inv X pins σ H s) (h : SqT X.K H a xs) (h' : SqT X.K H a ys) : xs = ys := by
  obtain ⟨its, r, ⟨o, e, _, n, d⟩, _⟩ := I.tuple h
  obtain ⟨its', r', ⟨o', e', _, n', d'⟩, _⟩ := I.tuple h'
  rw [e] at e'; cases e'
  rw [d] at d'
  injection d' with d1 _
  have : its = its' := by simpa using congrArg Array.toList d1
  subst this
  exact r.inj r'
end
abbrev Cx.wish (X : Cx) (E : Value → Shared → Prop) : Cx := { X with xe := E }
abbrev Cx.nox (X : Cx) : Cx := X.wish fun _ _ => False
theorem Cx.Ok.wish {X : Cx} (ok : X.Ok) (E : Value → Shared → Prop) : (X.wish E).Ok :=
  ⟨ok.mod, ok.kind, ok.glob, ok.blt, ok.above, ok.inj, ok.has, ok.cab, ok.hd, ok.frames, ok.stk, ok.exf, ok.bs, ok.bsz, ok.noex, ok.exfs, ok.funs, ok.frf⟩
theorem Cx.Ok.unwish {X : Cx} {E : Value → Shared → Prop} (ok : (X.wish E).Ok) : X.Ok :=
  ⟨ok.mod, ok.kind, ok.glob, ok.blt, ok.above, ok.inj, ok.has, ok.cab, ok.hd, ok.frames, ok.stk, ok.exf, ok.bs, ok.bsz, ok.noex, ok.exfs, ok.funs, ok.frf⟩
section
variable {X : Cx} {pins : List (Addr × Obj)} {σ : St} {H : Hp} {s : Shared} {E : Value → Shared → Prop}
theorem Inv.wish (I : Inv X pins σ H s) (E : Value → Shared → Prop) : Inv (X.wish E) pins σ H s := ⟨I.ok.wish E, I.os, I.bare, I.base, I.loc, I.cell, I.free, I.freeC, I.pin, I.hok, I.len⟩
theorem Inv.unwish (I : Inv (X.wish E) pins σ H s) : Inv X pins σ H s := ⟨I.ok.unwish, I.os, I.bare, I.base, I.loc, I.cell, I.free, I.freeC, I.pin, I.hok, I.len⟩
theorem SP.unwish {D : Ends} {f : Flow} {s' : Shared} (h : SP (X.wish E) pins D f s') : SP X pins D f s' := by
  cases f with
  | next => obtain ⟨σ', H', I, q⟩ := h; exact ⟨σ', H', I.unwish, q⟩
  | brk => obtain ⟨σ', H', I, q⟩ := h; exact ⟨σ', H', I.unwish, q⟩
  | cont => obtain ⟨σ', H', I, q⟩ := h; exact ⟨σ', H', I.unwish, q⟩
  | ret u => obtain ⟨v, σ', H', I, r, q⟩ := h; exact ⟨v, σ', H', I.unwish, r, q⟩
theorem PE.nox {e : Expr} {t : TE} (h : PE X.nox e t) : PE X e t := fun pins s σ H Q I hw =>
  wpAny_mono (h pins s σ H Q (I.wish _) hw) (fun _ _ ⟨v, H', I', r, q⟩ => ⟨v, H', I'.unwish, r, q⟩) fun _ _ z => False.elim z
theorem PT.nox {e : Expr} {t : TT} (h : PT X.nox e t) : PT X e t := fun pins s σ H Q I hw =>
  wpAny_mono (h pins s σ H Q (I.wish _) hw) (fun _ _ ⟨H', I', q⟩ => ⟨H', I'.unwish, q⟩) fun _ _ z => False.elim z
theorem PSs.nox {st : List Stmt} {t : TS} (h : PSs X.nox st t) : PSs X st t := fun pins s σ H D I hw =>
  wpAny_mono (h pins s σ H D (I.wish _) hw) (fun _ _ q => q.unwish) fun _ _ z => False.elim z
end
section
variable {X : Cx} {st : Stmt} {rest : List Stmt} {t u : TS} {e : Expr} {te : TE} {pos : Pos}
def tNext : TS := fun D σ H => D.nx σ H
def tSeq (t u : TS) : TS := fun D σ H => t { D with nx := u D } σ H
theorem pss_nil : PSs X [] tNext := fun _ _ σ H _ I h => wpAny_execs_nil ⟨σ, H, I, h⟩
theorem pss_cons (h1 : PS X st t) (h2 : PSs X rest u) : PSs X (st :: rest) (tSeq t u) := by
  intro pins s σ H D I h
  refine wpAny_execs_cons (thn (h1 pins s σ H { D with nx := u D } I h) fun f s1 q => ?_)
  cases f with
  | next =>
    obtain ⟨σ', H', I', q⟩ := q
    exact h2 pins s1 σ' H' D I' q
  | ret v => exact q
  | brk => exact q
  | cont => exact q
theorem pss_one (h1 : PS X st t) : PSs X [st] t := by
  intro pins s σ H D I h
  refine wpAny_execs_cons (thn (h1 pins s σ H D I h) fun f s1 q => ?_)
  cases f with
  | next => exact wpAny_execs_nil q
  | ret v => exact q
  | brk => exact q
  | cont => exact q
def tBreak : TS := fun D σ H => D.bk σ H
theorem ps_break : PS X (.Break pos) tBreak := fun _ _ σ H _ I h => wpAny_Break ⟨σ, H, I, h⟩
theorem Inv.quiet {pins : List (Addr × Obj)} {σ : St} {H : Hp} {s : Shared} (I : Inv X pins σ H s) : interactive X.env = false := by simp [interactive, I.ok.kind]
def tDrop (te : TE) : TS := fun D σ H => te σ H fun _ H1 => D.nx σ H1
theorem ps_expr (he : PE X e te) (hs : swapsWith e none pos.line X.env = pure false := by rfl) : PS X (.Expr e pos) (tDrop te) := by
  intro pins s σ H D I h
  exact wpAny_Expr_any (thn (he pins s σ H _ I h) fun v s1 ⟨x, H1, I1, r1, q1⟩ => ⟨σ, H1, I1, q1⟩) I.quiet hs
def tRet (te : TE) : TS := fun D σ H => te σ H D.rt
theorem ps_ret (he : PE X e te) : PS X (.Return (some e) pos) (tRet te) := by
  intro pins s σ H D I h
  exact wpAny_Return_some (thn (he pins s σ H _ I h) fun v s1 ⟨x, H1, I1, r1, q1⟩ => ⟨x, σ, H1, I1, r1, q1⟩)
def tIfS (c : TT) (t u : TS) : TS := fun D σ H => c σ H fun b H1 => if b = true then t D σ H1 else u D σ H1
theorem ps_if {c : Expr} {a b : List Stmt} {tc : TT} (hc : PT X c tc) (ha : PSs X a t) (hb : PSs X b u) : PS X (.If c a b pos) (tIfS tc t u) := by
  intro pins s σ H D I h
  refine wpAny_If (thn (hc pins s σ H _ I h) fun d s1 ⟨H1, I1, q1⟩ => ?_)
  cases d with
  | true => exact ha pins s1 σ H1 D I1 q1
  | false => exact hb pins s1 σ H1 D I1 q1
end
abbrev TG := V → St → Hp → (St → Hp → Prop) → Prop
abbrev TGs := List V → St → Hp → (St → Hp → Prop) → Prop
def PG (X : Cx) (target : Expr) (t : TG) : Prop :=
  ∀ (pins : List (Addr × Obj)) (s : Shared) (σ : St) (H : Hp) (v : V) (u : Value) (Q : St → Hp → Prop), Inv X pins σ H s → RelV v u → t v σ H Q →
    wpAny (model X.prog X.w) X.A (assign target X.env u) (fun _ s' => ∃ σ' H', Inv X pins σ' H' s' ∧ Q σ' H') X.xe s
def PGs (X : Cx) (ts : List Expr) (t : TGs) : Prop :=
  ∀ (pins : List (Addr × Obj)) (s : Shared) (σ : St) (H : Hp) (vs : List V) (us : List Value) (Q : St → Hp → Prop), Inv X pins σ H s → Vals vs us → t vs σ H Q →
    wpAny (model X.prog X.w) X.A (assignInOrder ((assignEach ts X.env).map (·.2)) us) (fun _ s' => ∃ σ' H', Inv X pins σ' H' s' ∧ Q σ' H') X.xe s
abbrev TSet := V → V → V → Hp → (Hp → Prop) → Prop
def PSet (X : Cx) (t : TSet) : Prop :=
  ∀ (pins : List (Addr × Obj)) (s : Shared) (σ : St) (H : Hp) (o i v : V) (ov iv u : Value) (Q : Hp → Prop), Inv X pins σ H s → RelV o ov → RelV i iv → RelV v u → t o i v H Q →
    wpAny (model X.prog X.w) X.A (setItem ov iv u) (fun _ s' => ∃ H', Inv X pins σ H' s' ∧ Q H') X.xe s
abbrev TIp := V → V → Hp → VK → Prop
def PIp (X : Cx) (op : Operator) (t : TIp) : Prop :=
  ∀ (pins : List (Addr × Obj)) (s : Shared) (σ : St) (H : Hp) (x y : V) (v u : Value) (Q : VK), Inv X pins σ H s → RelV x v → RelV y u → t x y H Q →
    wpAny (model X.prog X.w) X.A (inplaceOp op v u) (EP X pins σ Q) X.xe s
section
variable {X : Cx} {pos : Pos}
def gName (i : Nat) : TG := fun v σ H Q => Q (σ.set i (some v)) H
theorem pg_name {i : Nat} {x : Str} (hN : X.N.Nodup) (hi : X.N[i]? = some x) (hx : Loc X.env.scope x) (hf : X.fn x = true ∨ X.env.scope.names.lookup x = some .local := by first | exact .inl rfl | exact .inr rfl | assumption) : PG X (.Name x pos) (gName i) := by
  intro pins s σ H v u Q I r h
  exact wpAny_assign_Name (store_ok I hN hi hx r (fun s' I' => ⟨_, H, I', h⟩) hf)
def gNil : TGs := fun vs σ H Q => vs = [] ∧ Q σ H
def gCons (t : TG) (u : TGs) : TGs := fun vs σ H Q => ∃ v r, vs = v :: r ∧ t v σ H fun σ' H' => u r σ' H' Q
theorem pgs_nil : PGs X [] gNil := by
  intro pins s σ H vs us Q I r h
  obtain ⟨e, h⟩ := h
  subst e
  cases r
  exact assignInOrder_nil ⟨σ, H, I, h⟩
theorem pgs_cons {e : Expr} {es : List Expr} {t : TG} {u : TGs} (h1 : PG X e t) (h2 : PGs X es u)
    (hs : (assignEach (e :: es) X.env).map (·.2) = assign e X.env :: (assignEach es X.env).map (·.2) := by rfl) : PGs X (e :: es) (gCons t u) := by
  intro pins s σ H vs us Q I r h
  obtain ⟨v, vr, e1, h⟩ := h
  subst e1
  cases r with
  | cons r rr =>
    rw [hs]
    refine assignInOrder_cons (thn (h1 pins s σ H _ _ _ I r h) fun _ s1 ⟨σ1, H1, I1, q1⟩ => ?_)
    exact h2 pins s1 σ1 H1 _ _ Q I1 rr q1
def gTup (K : PySem.W.Frag) (n : Nat) (t : TGs) : TG := fun v σ H Q => ∃ a xs, v = .ref a ∧ SqT K H a xs ∧ xs.length = n ∧ t xs σ H Q
theorem pg_tup {es : List Expr} {k : Nat} {t : TGs} {n : Nat} (hc : X.calm = true) (h : PGs X es t)
    (hn : (assignEach es X.env).length = n := by rfl) (hst : (assignEach es X.env).findIdx? (·.1) = none := by rfl) : PG X (.Tuple es k pos) (gTup X.K n t) := by
  intro pins s σ H v u Q I r hw
  obtain ⟨a, xs, e1, hq, hl, hw⟩ := hw
  subst e1
  cases r
  obtain ⟨its, rv, ht, hz⟩ := I.tuple hq
  refine assign_Tuple_tuple (I.ok.hd hc) ht (by simp [hn, ← hl, rv.length]) hst fun h' hx => ?_
  have I1 : Inv X pins σ H { s with heap := h' } := I.kept (t' := s.toks) fun b o e => hx b o (Nat.ne_of_lt (Heap.lt_size e)) e
  exact h pins _ σ H xs _ Q I1 (by simpa using rv) hw
def gSub (to ti : TE) (t : TSet) : TG := fun v σ H Q => to σ H fun o H1 => ti σ H1 fun i H2 => t o i v H2 fun H3 => Q σ H3
theorem pg_sub {o i : Expr} {to ti : TE} {t : TSet} (ho : PE X o to) (hi : PE X i ti) (hs : PSet X t)
    (ha : ∀ v, assign (.Subscript o i pos) X.env v = (do
      let ov ← holding [v] (eval o X.env)
      let iv ← holding [v, ov] (eval i X.env)
      standAt pos
      holding [v, ov, iv] (setItem ov iv v)
      release [v, ov, iv] []) := by intro _; rfl) : PG X (.Subscript o i pos) (gSub to ti t) := by
  intro pins s σ H v u Q I r h
  rw [ha]
  refine wpAny_bind (wpAny_holding (thn (ho pins s σ H _ I h) fun ov s1 ⟨x, H1, I1, r1, q1⟩ => ?_))
  refine wpAny_bind (wpAny_holding (thn (hi pins s1 σ H1 _ I1 q1) fun iv s2 ⟨y, H2, I2, r2, q2⟩ => ?_))
  refine wpAny_bind (wpAny_standAt (wpAny_bind (wpAny_holding (thn (hs pins s2 σ H2 x y v ov iv u _ I2 r1 r2 r q2) fun _ s3 ⟨H3, I3, q3⟩ => ?_))))
  exact wpAny_release ⟨σ, H3, I3, q3⟩
def tAsg (te : TE) (g : TG) : TS := fun D σ H => te σ H fun x H1 => g x σ H1 D.nx
theorem ps_asg {tg e : Expr} {te : TE} {g : TG} (he : PE X e te) (hg : PG X tg g) (hs : swapsWithSole [tg] e pos.line X.env = pure false := by rfl) (hw : swappedStores [tg] e X.env = pure none := by rfl)
    (h1 : (assignEach [tg] X.env).map (·.2) = [assign tg X.env] := by rfl) : PS X (.Assign [tg] e pos) (tAsg te g) := by
  intro pins s σ H D I h
  refine wpAny_Assign_stores (thn (he pins s σ H _ I h) fun v s1 ⟨x, H1, I1, r1, q1⟩ => ?_) hs hw
  rw [h1]
  exact thn (hg pins s1 σ H1 x v _ I1 r1 q1) fun _ s2 q => q
theorem ps_set {i : Nat} {x : Str} {e : Expr} {te : TE} {pos' : Pos} (hN : X.N.Nodup) (hi : X.N[i]? = some x) (hx : Loc X.env.scope x) (he : PE X e te) (hs : swapsWith e (some (.Name x pos')) pos.line X.env = pure false := by rfl) (hf : X.fn x = true ∨ X.env.scope.names.lookup x = some .local := by first | exact .inl rfl | exact .inr rfl | assumption) :
    PS X (.Assign [.Name x pos'] e pos) (tAsg te (gName i)) := by
  intro pins s σ H D I h
  refine wpAny_Assign_Name (thn (he pins s σ H _ I h) fun v s1 ⟨y, H1, I1, r1, q1⟩ => ?_) hs
  exact store_ok I1 hN hi hx r1 (fun s2 I2 => ⟨_, H1, I2, q1⟩) hf
def tAug (i : Nat) (te : TE) (ti : TIp) : TS := fun D σ H => ∃ x, σ[i]? = some (some x) ∧ te σ H fun y H1 => ti x y H1 fun z H2 => D.nx (σ.set i (some z)) H2
theorem ps_aug {i : Nat} {x : Str} {e : Expr} {te : TE} {op : Operator} {ti : TIp} {pos' : Pos} (hN : X.N.Nodup) (hi : X.N[i]? = some x) (hx : Loc X.env.scope x) (he : PE X e te) (ho : PIp X op ti) (hf : X.fn x = true ∨ X.env.scope.names.lookup x = some .local := by first | exact .inl rfl | exact .inr rfl | assumption) :
    PS X (.AugAssign (.Name x pos') op e pos) (tAug i te ti) := by
  intro pins s σ H D I h
  obtain ⟨v, e1, h⟩ := h
  obtain ⟨m, hn, hl⟩ := I.loc
  have vis : Vis X.env.scope x := by rcases hx with k | k; exact .inl k; exact .inr (.inl k)
  obtain ⟨u, r, l⟩ := hl i x v hi e1 vis
  refine wpAny_AugAssign_Name ?_
  have go : wpAny (model X.prog X.w) X.A (eval e X.env) (fun w s₂ => wpAny (model X.prog X.w) X.A (inplaceOp op u w) (fun r s₃ => wpAny (model X.prog X.w) X.A (storeName X.env x r) (fun _ => SP X pins D .next) X.xe s₃) X.xe s₂) X.xe s := by
    refine thn (he pins s σ H _ I h) fun w s1 ⟨y, H1, I1, r1, q1⟩ => ?_
    refine thn (ho pins s1 σ H1 v y u w _ I1 r r1 q1) fun z s2 ⟨zv, H2, I2, r2, q2⟩ => ?_
    exact store_ok I2 hN hi hx r2 (fun s3 I3 => ⟨_, H2, I3, q2⟩) hf
  rcases l with ⟨hk, hm⟩ | ⟨hk, c, hc, hcell⟩
  · exact wpAny_loadName_local I.ok.kind hk hn hm go
  · rcases hk with hk | hk
    · exact wpAny_loadName_cell I.ok.kind hk hc hcell go
    · rcases hx with k | k
      · have : X.env.scope.names.lookup x = some .free := hk
        rw [k] at this; cases this
      · have : X.env.scope.names.lookup x = some .free := hk
        rw [k] at this; cases this
def ipI (f : Int → Int → Int) : TIp := fun x y H Q => ∃ i j, x = .int i ∧ y = .int j ∧ Q (.int (f i j)) H
theorem ip_sub : PIp X .Sub (ipI fun i j => i - j) := by
  intro pins s σ H x y v u Q I r1 r2 h
  obtain ⟨i, j, e1, e2, q⟩ := h
  subst e1; subst e2
  obtain ⟨t, rfl⟩ := r1
  obtain ⟨t', rfl⟩ := r2
  exact isub_int ⟨.int _, H, I.tok _, ⟨_, rfl⟩, q⟩
end
section
variable {X : Cx} {pos : Pos}
def tWhile (c : TT) (tb : TS) : TS := fun D σ H => ∃ W : Nat → St → Hp → Prop, (∃ m, W m σ H) ∧ ∀ m σ H, W m σ H →
  c σ H fun b H1 => if b = true then ∃ N : St → Hp → Prop, (∀ σ' H', N σ' H' → ∃ m', m' < m ∧ W m' σ' H') ∧ tb { D with nx := N, ct := N, bk := D.nx } σ H1 else D.nx σ H1
theorem ps_while {c : Expr} {body : List Stmt} {tc : TT} {tb : TS} (hp : PassesOwn (model X.prog X.w) X.A X.env X.xe) (hc : PT X c tc) (hb : PSs X body tb) : PS X (.While c body [] pos) (tWhile tc tb) := by
  intro pins s σ H D I h
  obtain ⟨W, ⟨m0, w0⟩, turn⟩ := h
  refine wpAny_While (codeAny_whileLoop (fun n s' => ∃ σ' H', Inv X pins σ' H' s' ∧ W n σ' H') ?_ m0 ⟨σ, H, I, w0⟩)
  rintro n s1 ⟨σ1, H1, I1, w1⟩
  refine wpAny_passesOwn hp (thn (hc pins s1 σ1 H1 _ I1 (turn n σ1 H1 w1)) fun b s2 ⟨H2, I2, q2⟩ => ?_)
  cases b with
  | true =>
    obtain ⟨N, hN, q2⟩ := q2
    rw [if_pos rfl]
    refine wpAny_passesOwn hp (thn (hb pins s2 σ1 H2 _ I2 q2) fun f s3 q3 => ?_)
    cases f with
    | next =>
      obtain ⟨σ3, H3, I3, n3⟩ := q3
      obtain ⟨m', hm, w3⟩ := hN σ3 H3 n3
      exact ⟨m', hm, σ3, H3, I3, w3⟩
    | cont =>
      obtain ⟨σ3, H3, I3, n3⟩ := q3
      obtain ⟨m', hm, w3⟩ := hN σ3 H3 n3
      exact ⟨m', hm, σ3, H3, I3, w3⟩
    | brk => exact q3
    | ret v => exact q3
  | false =>
    rw [if_neg Bool.false_ne_true]
    exact wpAny_execs_nil ⟨σ1, H2, I2, q2⟩
end
structure It where
  go : Nat → Hp → Prop
  yld : Nat → Hp → V → Hp → Prop
  stop : Nat → Hp → Prop
def FpOk (X : Cx) (pins : List (Addr × Obj)) (H : Hp) (b : Addr) : Prop :=
  H b = none ∧ b ≠ X.env.locals ∧ b ∉ X.fs ∧ (b ∈ X.ex ∨ X.s₀.heap.objs.size ≤ b) ∧ (∀ x c, X.env.cells.lookup x = some c → c ≠ b) ∧ ∀ p ∈ X.pn ++ pins, p.1 ≠ b
theorem Inv.fpOk {X : Cx} {pins : List (Addr × Obj)} {σ : St} {H H' : Hp} {s : Shared} {b : Addr} (I : Inv X pins σ H s) (hb : s.heap.objs.size ≤ b) (hn : H' b = none) : FpOk X pins H' b := by
  refine ⟨hn, Nat.ne_of_gt (Nat.lt_of_lt_of_le I.lt hb), I.nofs hb, .inr (Nat.le_trans I.sz hb), fun x c e z => ?_, fun p hp z => ?_⟩
  · obtain ⟨v, q⟩ := I.cell x c e
    exact absurd (Nat.lt_of_lt_of_le q.lt (by rw [z]; exact hb)) (Nat.lt_irrefl _)
  · exact absurd (Nat.lt_of_lt_of_le (Heap.lt_size (I.pin p hp).1) (by rw [z]; exact hb)) (Nat.lt_irrefl _)
structure Turn (P : Program) (w : World) (K : PySem.W.Frag) (tg : Expr) (J : It) (fp : List Addr) (it : Addr) (tn : Nat → Heap → Prop) : Prop where
  mem : it ∈ fp
  obj : ∀ i h, tn i h → ∀ b ∈ fp, ∃ o, h.get? b = some o ∧ ∀ v, o.data ≠ .cell v
  keep : ∀ i h h', tn i h → (∀ b ∈ fp, ∀ o, h.get? b = some o → h'.get? b = some o) → tn i h'
  item : ∀ (X : Cx), X.prog = P → X.w = w → X.K = K → X.calm = true → ∀ (i : Nat) (pins : List (Addr × Obj)) (s : Shared) (σ : St) (H : Hp) (E : Value → Shared → Prop), Inv X pins σ H s → (∀ b ∈ fp, FpOk X pins H b) → tn i s.heap → J.go i H →
    wpAny (model P w) X.A (pyNext (.ref it)) (fun r s1 => ∃ u, r = some u ∧
      wpAny (model P w) X.A (letOwnedTupleGo tg (.ref it) u) (fun _ s2 => ∃ x H', Inv X pins σ H' s2 ∧ RelV x u ∧ J.yld i H x H' ∧ tn (i + 1) s2.heap ∧ ∀ b ∈ fp, H' b = none) E s1) E s
  done : ∀ (X : Cx), X.prog = P → X.w = w → X.K = K → X.calm = true → ∀ (i : Nat) (pins : List (Addr × Obj)) (s : Shared) (σ : St) (H : Hp) (E : Value → Shared → Prop), Inv X pins σ H s → (∀ b ∈ fp, FpOk X pins H b) → tn i s.heap → J.stop i H →
    wpAny (model P w) X.A (pyNext (.ref it)) (fun r s1 => r = none ∧ Inv X pins σ H s1) E s
  self : ∀ (A : Around) (i : Nat) (s : Shared) (Q : Value → Shared → Prop) (E : Value → Shared → Prop), tn i s.heap → Q (.ref it) s → wpAny (model P w) A (pyIter (.ref it)) Q E s
abbrev TI := St → Hp → (It → Hp → Prop) → Prop
def PIE (X : Cx) (pins : List (Addr × Obj)) (σ : St) (tg : Expr) (R : It → Hp → Prop) (itv : Value) (s2 : Shared) : Prop :=
  ∃ (it : Addr) (fp : List Addr) (tn : Nat → Heap → Prop) (J : It) (H' : Hp), itv = .ref it ∧ Inv X pins σ H' s2 ∧ Turn X.prog X.w X.K tg J fp it tn ∧ tn 0 s2.heap ∧ (∀ b ∈ fp, FpOk X pins H' b) ∧ R J H'
def PI (X : Cx) (tg iter : Expr) (wi : TI) : Prop :=
  ∀ (pins : List (Addr × Obj)) (s : Shared) (σ : St) (H : Hp) (R : It → Hp → Prop), Inv X pins σ H s → wi σ H R →
    wpAny (model X.prog X.w) X.A (eval iter X.env) (fun v s1 => wpAny (model X.prog X.w) X.A (pyIter v) (PIE X pins σ tg R) X.xe s1) X.xe s
theorem go_of {M : Model} {A : Around} {E : Value → Shared → Prop} {s : Shared} {tg : Expr} {it : Addr} {u : Value} {o : Obj} {n : String} {vs : Array Value} {Q : Unit → Shared → Prop} (ho : s.heap.get? it = some o) (hc : o.cls = .type n) (hd : o.data = .fields vs)
    (hn : ["enumerate", "zip", "dict_itemiterator", "dict_reverseitemiterator", "odict_iterator", "itertools.zip_longest", "itertools.pairwise"].contains n = false) (hQ : Q () s) : wpAny M A (letOwnedTupleGo tg (.ref it) u) Q E s := by
  unfold letOwnedTupleGo
  cases tg <;> first
    | exact wpAny_pure hQ
    | (cases u <;> first
        | exact wpAny_pure hQ
        | (refine wpAny_bind (wpAny_load ho ?_)
           rw [hc, hd]
           show wpAny M A (if (["enumerate", "zip", "dict_itemiterator", "dict_reverseitemiterator", "odict_iterator", "itertools.zip_longest", "itertools.pairwise"].contains n && vs[0]? == some (rawInt _)) = true then _ else _) Q E s
           rw [if_neg (by intro h; rw [hn, Bool.false_and] at h; cases h)]
           exact wpAny_pure hQ))
def Itl (K : PySem.W.Frag) (a : Addr) : It :=
  ⟨fun i H => ∃ xs x, SqL K H a xs ∧ xs[i]? = some x, fun i H x H' => H' = H ∧ ∀ xs, SqL K H a xs → xs[i]? = some x, fun i H => ∃ xs, SqL K H a xs ∧ xs.length ≤ i⟩
def Itt (K : PySem.W.Frag) (a : Addr) : It :=
  ⟨fun i H => ∃ xs x, SqT K H a xs ∧ xs[i]? = some x, fun i H x H' => H' = H ∧ ∀ xs, SqT K H a xs → xs[i]? = some x, fun i H => ∃ xs, SqT K H a xs ∧ xs.length ≤ i⟩
def Itr (lo : Int) (n : Nat) : It := ⟨fun i _ => i < n, fun i H x H' => H' = H ∧ x = .int (lo + i), fun i _ => n ≤ i⟩
theorem turn_list {P : Program} {w : World} {K : PySem.W.Frag} {tg : Expr} (a it : Addr) : Turn P w K tg (Itl K a) [it] it (fun i h => h.IsListIter it a i) where
  mem := by simp
  obj := fun i h st b hb => by
    have e : b = it := by simpa using hb
    subst e
    obtain ⟨o, e, c, d⟩ := st
    exact ⟨o, e, fun v z => by rw [d] at z; cases z⟩
  keep := fun i h h' st k => st.at fun o e => k it (by simp) o e
  item := by
    intro X hP hw hK hc i pins s σ H E I hf st hg
    subst hP hw hK
    obtain ⟨xs, x, hq, hx⟩ := hg
    obtain ⟨its, rv, p, hz⟩ := I.list hq
    obtain ⟨u, hu, ru⟩ := rv.get hx
    obtain ⟨f0, f1, f2, f3, f4, f5⟩ := hf it (by simp)
    refine wpAny_pyNext_list_item st p.isList (x := u) (by simpa using hu) fun h' st' sb => ?_
    have I1 : Inv X pins σ H { s with heap := h' } := I.turned (t' := s.toks) (fun b o hb e => (sb.2 b hb).trans e) f0 f1 f3 f4 f5
    obtain ⟨o, e, c, d⟩ := id st'
    exact ⟨u, rfl, go_of (s := { s with heap := h' }) e c d (by decide) ⟨x, H, I1, ru, ⟨rfl, fun ys hy => by rw [I.list_inj hy hq]; exact hx⟩, st', fun b hb => (hf b hb).1⟩⟩
  done := by
    intro X hP hw hK hc i pins s σ H E I hf st hg
    subst hP hw hK
    obtain ⟨xs, hq, hx⟩ := hg
    obtain ⟨its, rv, p, hz⟩ := I.list hq
    obtain ⟨f0, f1, f2, f3, f4, f5⟩ := hf it (by simp)
    have hl := rv.length
    exact wpAny_pyNext_list_end (I.ok.hd hc) st p.isList (by simp; omega) fun h' eb => ⟨rfl, I.turned (t' := s.toks) (fun b o hb e => eb b o hb e) f0 f1 f3 f4 f5⟩
  self := fun _ _ _ _ _ st h => wpAny_pyIter_listiter st h
theorem turn_tuple {P : Program} {w : World} {K : PySem.W.Frag} {tg : Expr} (a it : Addr) : Turn P w K tg (Itt K a) [it] it (fun i h => h.IsTupleIter it a i) where
  mem := by simp
  obj := fun i h st b hb => by
    have e : b = it := by simpa using hb
    subst e
    obtain ⟨o, e, c, d⟩ := st
    exact ⟨o, e, fun v z => by rw [d] at z; cases z⟩
  keep := fun i h h' st k => st.at fun o e => k it (by simp) o e
  item := by
    intro X hP hw hK hc i pins s σ H E I hf st hg
    subst hP hw hK
    obtain ⟨xs, x, hq, hx⟩ := hg
    obtain ⟨its, rv, p, hz⟩ := I.tuple hq
    obtain ⟨u, hu, ru⟩ := rv.get hx
    obtain ⟨f0, f1, f2, f3, f4, f5⟩ := hf it (by simp)
    refine wpAny_pyNext_tuple_item st (show s.heap.IsTuple a its.toArray from p) (x := u) (by simpa using hu) fun h' st' sb => ?_
    have I1 : Inv X pins σ H { s with heap := h' } := I.turned (t' := s.toks) (fun b o hb e => (sb.2 b hb).trans e) f0 f1 f3 f4 f5
    obtain ⟨o, e, c, d⟩ := id st'
    exact ⟨u, rfl, go_of (s := { s with heap := h' }) e c d (by decide) ⟨x, H, I1, ru, ⟨rfl, fun ys hy => by rw [I.tuple_inj hy hq]; exact hx⟩, st', fun b hb => (hf b hb).1⟩⟩
  done := by
    intro X hP hw hK hc i pins s σ H E I hf st hg
    subst hP hw hK
    obtain ⟨xs, hq, hx⟩ := hg
    obtain ⟨its, rv, p, hz⟩ := I.tuple hq
    obtain ⟨f0, f1, f2, f3, f4, f5⟩ := hf it (by simp)
    have hl := rv.length
    exact wpAny_pyNext_tuple_end (I.ok.hd hc) st (show s.heap.IsTuple a its.toArray from p) (by simp; omega) fun h' eb => ⟨rfl, I.turned (t' := s.toks) (fun b o hb e => eb b o hb e) f0 f1 f3 f4 f5⟩
  self := fun _ _ _ _ _ st h => wpAny_pyIter_tupleiter st h
theorem turn_range {P : Program} {w : World} {K : PySem.W.Frag} {tg : Expr} (it : Addr) (lo : Int) (n : Nat) : Turn P w K tg (Itr lo n) [it] it (fun i h => IsRangeIter h it (lo + (i : Nat) * 1) ((n : Int) - (i : Nat)) 1) where
  mem := by simp
  obj := fun i h st b hb => by
    have e : b = it := by simpa using hb
    subst e
    exact ⟨_, st, fun v z => by
      have z' : Data.fields _ = Data.cell v := z
      cases z'⟩
  keep := fun i h h' st k => k it (by simp) _ st
  item := by
    intro X hP hw hK hc i pins s σ H E I hf st hg
    subst hP hw hK
    obtain ⟨f0, f1, f2, f3, f4, f5⟩ := hf it (by simp)
    have W := Walks.range (prog := X.prog) (w := X.w) (I.ok.hd hc) it lo 1 n
    refine W.item i s _ _ hg st fun v h' tk hv st' kk => ?_
    obtain ⟨t, rfl⟩ := hv
    have I1 : Inv X pins σ H { s with heap := h', toks := tk } := I.turned (fun b o hb e => kk b o (by simpa using hb) e) f0 f1 f3 f4 f5
    refine ⟨_, rfl, go_of (s := { s with heap := h', toks := tk }) (n := "range_iterator") st' rfl rfl (by decide) ⟨.int (lo + i), H, I1, ⟨t, ?_⟩, ⟨rfl, rfl⟩, st', fun b hb => (hf b hb).1⟩⟩
    rw [Int.mul_one]
  done := by
    intro X hP hw hK hc i pins s σ H E I hf st hg
    subst hP hw hK
    obtain ⟨f0, f1, f2, f3, f4, f5⟩ := hf it (by simp)
    exact wpAny_pyNext_range_end (I.ok.hd hc) st (by have : n ≤ i := hg; omega) fun h' eb => ⟨rfl, I.turned (t' := s.toks) (fun b o hb e => eb b o hb e) f0 f1 f3 f4 f5⟩
  self := fun _ _ _ _ _ st h => wpAny_pyIter_rangeiter st h
end L2
namespace L2
open PySem PySem.Spec PyProof.Rows
section
variable {X : Cx} {tg : Expr}
def iList (K : PySem.W.Frag) (tl : TE) : TI := fun σ H R => tl σ H fun x H1 => ∃ a, x = .ref a ∧ (∃ xs, SqL K H1 a xs) ∧ R (Itl K a) H1
def iTup (K : PySem.W.Frag) (tl : TE) : TI := fun σ H R => tl σ H fun x H1 => ∃ a, x = .ref a ∧ (∃ xs, SqT K H1 a xs) ∧ R (Itt K a) H1
theorem pi_list {l : Expr} {tl : TE} (hl : PE X l tl) : PI X tg l (iList X.K tl) := by
  intro pins s σ H R I h
  refine thn (hl pins s σ H _ I h) fun v s1 ⟨x, H1, I1, r1, q1⟩ => ?_
  obtain ⟨a, e, ⟨xs, hq⟩, q⟩ := q1
  subst e
  cases r1
  obtain ⟨its, rv, p, hz⟩ := I1.list hq
  refine wpAny_pyIter_list p.isList ?_
  refine ⟨s1.heap.objs.size, [s1.heap.objs.size], _, _, H1, rfl, I1.kept (t' := s1.toks) fun b o e => Heap.get?_push_of_some _ e, turn_list a _, ⟨_, Heap.get?_push_size _ rfl, rfl, rfl⟩, fun b hb => ?_, q⟩
  have e : b = s1.heap.objs.size := by simpa using hb
  subst e
  exact I1.fpOk (Nat.le_refl _) (I1.hok.fresh (Nat.le_refl _))
theorem pi_tup {l : Expr} {tl : TE} (hl : PE X l tl) : PI X tg l (iTup X.K tl) := by
  intro pins s σ H R I h
  refine thn (hl pins s σ H _ I h) fun v s1 ⟨x, H1, I1, r1, q1⟩ => ?_
  obtain ⟨a, e, ⟨xs, hq⟩, q⟩ := q1
  subst e
  cases r1
  obtain ⟨its, rv, p, hz⟩ := I1.tuple hq
  refine wpAny_pyIter_tuple (show s1.heap.IsTuple a its.toArray from p) ?_
  refine ⟨s1.heap.objs.size, [s1.heap.objs.size], _, _, H1, rfl, I1.kept (t' := s1.toks) fun b o e => Heap.get?_push_of_some _ e, turn_tuple a _, ⟨_, Heap.get?_push_size _ rfl, rfl, rfl⟩, fun b hb => ?_, q⟩
  have e : b = s1.heap.objs.size := by simpa using hb
  subst e
  exact I1.fpOk (Nat.le_refl _) (I1.hok.fresh (Nat.le_refl _))
theorem range_it {pins : List (Addr × Obj)} {σ : St} {H : Hp} {s : Shared} {R : It → Hp → Prop} {E : Value → Shared → Prop} {lo hi : Int} {t u v : Tok} {tk : Nat} (I : Inv X pins σ H s) (h1 : -(2 ^ 62) ≤ lo) (h2 : lo < 2 ^ 62) (h3 : -(2 ^ 62) ≤ hi) (h4 : hi < 2 ^ 62)
    (q : R (Itr lo (hi - lo).toNat) H) : wpAny (model X.prog X.w) X.A (pyIter (.ref s.heap.objs.size)) (PIE X pins σ tg R) E { s with heap := s.heap.push { cls := .type "range", data := .fields #[.int lo t, .int hi u, .int 1 v] }, toks := tk } := by
  refine wpAny_pyIter_range (IsRange.new ..) (small_one h1 h2 h3 h4) ?_
  have I1 : Inv X pins σ H { s with heap := s.heap.push { cls := .type "range", data := .fields #[.int lo t, .int hi u, .int 1 v] }, toks := tk } := I.kept fun b o e => Heap.get?_push_of_some _ e
  refine ⟨(s.heap.push { cls := .type "range", data := .fields #[.int lo t, .int hi u, .int 1 v] }).objs.size, [(s.heap.push { cls := .type "range", data := .fields #[.int lo t, .int hi u, .int 1 v] }).objs.size], _, _, H, rfl,
    I1.kept (t' := tk) fun b o e => Heap.get?_push_of_some _ e, turn_range _ lo (hi - lo).toNat, ?_, fun b hb => ?_, q⟩
  · have e1 : lo + ((0 : Nat) : Int) * 1 = lo := by simp
    have e2 : (((hi - lo).toNat : Nat) : Int) - ((0 : Nat) : Int) = Builtin.Range.rangeSize lo hi 1 := by rw [rangeSize_one]; split <;> omega
    show IsRangeIter _ _ (lo + ((0 : Nat) : Int) * 1) ((((hi - lo).toNat : Nat) : Int) - ((0 : Nat) : Int)) 1
    rw [e1, e2]
    exact Heap.get?_push_size _ rfl
  · have e : b = (s.heap.push { cls := .type "range", data := .fields #[.int lo t, .int hi u, .int 1 v] }).objs.size := by simpa using hb
    subst e
    exact I1.fpOk (Nat.le_refl _) (I1.hok.fresh (Nat.le_refl _))
def iRng1 (ta : TA) : TI := fun σ H R => ta σ H fun vs H1 => ∃ j : Int, vs = [.int j] ∧ -(2 ^ 62) ≤ j ∧ j < 2 ^ 62 ∧ R (Itr 0 j.toNat) H1
theorem pi_range1 {a : Expr} {ta : TA} {p pos : Pos} (hg : Gl X "range") (hm : X.mg "range" = none) (ha : PA X [a] ta) (hs : starEach [a] X.env = [(false, eval a X.env)] := by rfl) : PI X tg (.Call (.Name "range" p) [a] [] pos) (iRng1 ta) := by
  intro pins s σ H R I h
  refine Call_ (ld_blt I hg hm boot_range (PyProof.Rows.callWith_type1 (thn (ha pos pins s σ H _ I h) fun us s1 ⟨vs, H1, I1, r1, q1⟩ => ?_) hs rfl))
  obtain ⟨j, e, q1, q2, q⟩ := q1
  subst e
  cases r1 with
  | cons r rr =>
    cases rr
    obtain ⟨t, rfl⟩ := r
    exact call_range_1 (range_it I1 (by omega) (by omega) q1 q2 (by simpa using q))
def tFor (wi : TI) (g : TG) (tb : TS) : TS := fun D σ H => wi σ H fun J H1 => ∃ W : Nat → Nat → St → Hp → Prop, (∃ m, W 0 m σ H1) ∧ ∀ i m σ H, W i m σ H →
  (J.stop i H ∧ D.nx σ H) ∨ (J.go i H ∧ ∃ N : St → Hp → Prop, (∀ σ' H', N σ' H' → ∃ m', m' < m ∧ W (i + 1) m' σ' H') ∧ ∀ x H', J.yld i H x H' → g x σ H' fun σ2 H2 => tb { D with nx := N, ct := N, bk := D.nx } σ2 H2)
def pinsAt (fp : List Addr) (h : Heap) : List (Addr × Obj) := fp.filterMap fun b => (h.get? b).map fun o => (b, o)
theorem mem_pinsAt {fp : List Addr} {h : Heap} {b : Addr} {o : Obj} (hb : b ∈ fp) (e : h.get? b = some o) : (b, o) ∈ pinsAt fp h := List.mem_filterMap.mpr ⟨b, hb, by rw [e]; rfl⟩
theorem of_pinsAt {fp : List Addr} {h : Heap} {p : Addr × Obj} (hp : p ∈ pinsAt fp h) : p.1 ∈ fp ∧ h.get? p.1 = some p.2 := by
  obtain ⟨b, hb, e⟩ := List.mem_filterMap.mp hp
  cases q : h.get? b with
  | none => rw [q] at e; cases e
  | some o =>
    rw [q] at e
    have e' : (b, o) = p := Option.some.inj e
    subst e'
    exact ⟨hb, q⟩
theorem Inv.pinned {pins : List (Addr × Obj)} {σ : St} {H : Hp} {s : Shared} {fp : List Addr} (I : Inv X pins σ H s) (hf : ∀ b ∈ fp, FpOk X pins H b) (ho : ∀ b ∈ fp, ∃ o, s.heap.get? b = some o ∧ ∀ v, o.data ≠ .cell v) : Inv X (pins ++ pinsAt fp s.heap) σ H s :=
  I.pins_of fun p hp => (List.mem_append.mp hp).elim (fun z => I.pin p (List.mem_append_right _ z)) fun z => by
    obtain ⟨hb, e⟩ := of_pinsAt z
    obtain ⟨f0, f1, f2, _⟩ := hf p.1 hb
    obtain ⟨o, e', d⟩ := ho p.1 hb
    rw [e] at e'; cases e'
    exact ⟨e, f0, f1, f2, d⟩
theorem Inv.unpinned {pins pl : List (Addr × Obj)} {σ : St} {H : Hp} {s : Shared} (I : Inv X (pins ++ pl) σ H s) : Inv X pins σ H s := I.pins_of fun p hp => I.pin p (List.mem_append_right _ (List.mem_append_left _ hp))
theorem ps_for {iter : Expr} {body : List Stmt} {wi : TI} {g : TG} {tb : TS} {pos : Pos} (hp : PassesOwn (model X.prog X.w) X.A X.env X.xe) (hc : X.calm = true) (hi : PI X tg iter wi) (hg : PG X tg g) (hb : PSs X body tb)
    (hs : ∀ x, foldedSetIterable iter X.env x = pure x := by intro _; rfl) : PS X (.For tg iter body [] pos) (tFor wi g tb) := by
  intro pins s σ H D I h
  refine wpAny_For (thn (hi pins s σ H _ I h) fun v s1 h1 => thn h1 fun itv s2 h2 => ?_) hs
  obtain ⟨it, fp, tn, J, H2, e, I2, T, st2, f2, W, ⟨m0, w0⟩, turn⟩ := h2
  subst e
  have stat : ∀ {H' : Hp}, (∀ b ∈ fp, H' b = none) → ∀ b ∈ fp, FpOk X pins H' b := fun hn b hb => ⟨hn b hb, (f2 b hb).2⟩
  refine codeAny_forLoop_any (fun n s' => ∃ i σ' H', Inv X pins σ' H' s' ∧ tn i s'.heap ∧ (∀ b ∈ fp, H' b = none) ∧ W i n σ' H') ?_ m0 ⟨0, σ, H2, I2, st2, fun b hb => (f2 b hb).1, w0⟩
  rintro n s3 ⟨i, σ3, H3, I3, st3, fr3, w3⟩
  rcases turn i n σ3 H3 w3 with ⟨stop, qn⟩ | ⟨go, N, hN, step⟩
  · refine wpAny_passesOwn hp (thn (T.done X rfl rfl rfl hc i pins s3 σ3 H3 X.xe I3 (stat fr3) st3 stop) fun r s4 ⟨hr, I4⟩ => ?_)
    subst hr
    exact wpAny_execs_nil ⟨σ3, H3, I4, qn⟩
  · refine wpAny_passesOwn hp (thn (T.item X rfl rfl rfl hc i pins s3 σ3 H3 X.xe I3 (stat fr3) st3 go) fun r s4 ⟨u, hr, h4⟩ => ?_)
    subst hr
    refine wpAny_passesOwn hp (thn h4 fun _ s5 ⟨x, H5, I5, r5, y5, st5, fr5⟩ => ?_)
    have I5' := I5.pinned (stat fr5) (T.obj _ _ st5)
    refine wpAny_passesOwn hp (thn (hg _ s5 σ3 H5 x u _ I5' r5 (step x H5 y5)) fun _ s6 ⟨σ6, H6, I6, q6⟩ => ?_)
    refine wpAny_passesOwn hp (thn (hb _ s6 σ6 H6 _ I6 q6) fun f s7 q7 => ?_)
    have again : ∀ {σ7 : St} {H7 : Hp}, Inv X (pins ++ pinsAt fp s5.heap) σ7 H7 s7 → N σ7 H7 → ∃ m, m < n ∧ ∃ i σ' H', Inv X pins σ' H' s7 ∧ tn i s7.heap ∧ (∀ b ∈ fp, H' b = none) ∧ W i m σ' H' := fun {σ7 H7} I7 n7 => by
      obtain ⟨m', hm, w7⟩ := hN σ7 H7 n7
      refine ⟨m', hm, i + 1, σ7, H7, I7.unpinned, T.keep _ _ _ st5 fun b hb o e => (I7.pin (b, o) (List.mem_append_right _ (List.mem_append_right _ (mem_pinsAt hb e)))).1, fun b hb => ?_, w7⟩
      obtain ⟨o, e, d⟩ := T.obj _ _ st5 b hb
      exact (I7.pin (b, o) (List.mem_append_right _ (List.mem_append_right _ (mem_pinsAt hb e)))).2.1
    cases f with
    | next => obtain ⟨σ7, H7, I7, n7⟩ := q7; exact again I7 n7
    | cont => obtain ⟨σ7, H7, I7, n7⟩ := q7; exact again I7 n7
    | brk => obtain ⟨σ7, H7, I7, q7⟩ := q7; exact ⟨σ7, H7, I7.unpinned, q7⟩
    | ret v => obtain ⟨x7, σ7, H7, I7, r7, q7⟩ := q7; exact ⟨x7, σ7, H7, I7.unpinned, r7, q7⟩
end
theorem for_list {K : PySem.W.Frag} {a : Addr} {xs : List V} {g : TG} {tb : TS} {D : Ends} {σ : St} {H : Hp} (Pv : Nat → St → Hp → Prop) (h0 : Pv 0 σ H) (hl : ∀ i σ H, i ≤ xs.length → Pv i σ H → SqL K H a xs)
    (hs : ∀ i x σ H, xs[i]? = some x → Pv i σ H → g x σ H fun σ2 H2 => tb { D with nx := Pv (i + 1), ct := Pv (i + 1), bk := D.nx } σ2 H2) (hd : ∀ σ H, Pv xs.length σ H → D.nx σ H) :
    ∃ W : Nat → Nat → St → Hp → Prop, (∃ m, W 0 m σ H) ∧ ∀ i m σ H, W i m σ H →
      ((Itl K a).stop i H ∧ D.nx σ H) ∨ ((Itl K a).go i H ∧ ∃ N : St → Hp → Prop, (∀ σ' H', N σ' H' → ∃ m', m' < m ∧ W (i + 1) m' σ' H') ∧ ∀ x H', (Itl K a).yld i H x H' → g x σ H' fun σ2 H2 => tb { D with nx := N, ct := N, bk := D.nx } σ2 H2) := by
  refine ⟨fun i m σ H => m = xs.length - i ∧ i ≤ xs.length ∧ Pv i σ H, ⟨xs.length, by simp, Nat.zero_le _, h0⟩, ?_⟩
  rintro i m σ H ⟨rfl, hi, p⟩
  have q := hl i σ H hi p
  by_cases hlt : i < xs.length
  · refine .inr ⟨⟨xs, xs[i], q, by simp [hlt]⟩, Pv (i + 1), fun σ' H' p' => ⟨xs.length - (i + 1), by omega, rfl, hlt, p'⟩, fun x H' y => ?_⟩
    obtain ⟨e, y⟩ := y
    subst e
    exact hs i x σ _ (y xs q) p
  · have e : i = xs.length := by omega
    subst e
    exact .inl ⟨⟨xs, q, Nat.le_refl _⟩, hd σ H p⟩
theorem for_tup {K : PySem.W.Frag} {a : Addr} {xs : List V} {g : TG} {tb : TS} {D : Ends} {σ : St} {H : Hp} (Pv : Nat → St → Hp → Prop) (h0 : Pv 0 σ H) (hl : ∀ i σ H, i ≤ xs.length → Pv i σ H → SqT K H a xs)
    (hs : ∀ i x σ H, xs[i]? = some x → Pv i σ H → g x σ H fun σ2 H2 => tb { D with nx := Pv (i + 1), ct := Pv (i + 1), bk := D.nx } σ2 H2) (hd : ∀ σ H, Pv xs.length σ H → D.nx σ H) :
    ∃ W : Nat → Nat → St → Hp → Prop, (∃ m, W 0 m σ H) ∧ ∀ i m σ H, W i m σ H →
      ((Itt K a).stop i H ∧ D.nx σ H) ∨ ((Itt K a).go i H ∧ ∃ N : St → Hp → Prop, (∀ σ' H', N σ' H' → ∃ m', m' < m ∧ W (i + 1) m' σ' H') ∧ ∀ x H', (Itt K a).yld i H x H' → g x σ H' fun σ2 H2 => tb { D with nx := N, ct := N, bk := D.nx } σ2 H2) := by
  refine ⟨fun i m σ H => m = xs.length - i ∧ i ≤ xs.length ∧ Pv i σ H, ⟨xs.length, by simp, Nat.zero_le _, h0⟩, ?_⟩
  rintro i m σ H ⟨rfl, hi, p⟩
  have q := hl i σ H hi p
  by_cases hlt : i < xs.length
  · refine .inr ⟨⟨xs, xs[i], q, by simp [hlt]⟩, Pv (i + 1), fun σ' H' p' => ⟨xs.length - (i + 1), by omega, rfl, hlt, p'⟩, fun x H' y => ?_⟩
    obtain ⟨e, y⟩ := y
    subst e
    exact hs i x σ _ (y xs q) p
  · have e : i = xs.length := by omega
    subst e
    exact .inl ⟨⟨xs, q, Nat.le_refl _⟩, hd σ H p⟩
theorem for_range {lo : Int} {n : Nat} {g : TG} {tb : TS} {D : Ends} {σ : St} {H : Hp} (Pv : Nat → St → Hp → Prop) (h0 : Pv 0 σ H)
    (hs : ∀ i σ H, i < n → Pv i σ H → g (.int (lo + i)) σ H fun σ2 H2 => tb { D with nx := Pv (i + 1), ct := Pv (i + 1), bk := D.nx } σ2 H2) (hd : ∀ σ H, Pv n σ H → D.nx σ H) :
    ∃ W : Nat → Nat → St → Hp → Prop, (∃ m, W 0 m σ H) ∧ ∀ i m σ H, W i m σ H →
      ((Itr lo n).stop i H ∧ D.nx σ H) ∨ ((Itr lo n).go i H ∧ ∃ N : St → Hp → Prop, (∀ σ' H', N σ' H' → ∃ m', m' < m ∧ W (i + 1) m' σ' H') ∧ ∀ x H', (Itr lo n).yld i H x H' → g x σ H' fun σ2 H2 => tb { D with nx := N, ct := N, bk := D.nx } σ2 H2) := by
  refine ⟨fun i m σ H => m = n - i ∧ i ≤ n ∧ Pv i σ H, ⟨n, by simp, Nat.zero_le _, h0⟩, ?_⟩
  rintro i m σ H ⟨rfl, hi, p⟩
  by_cases hlt : i < n
  · refine .inr ⟨hlt, Pv (i + 1), fun σ' H' p' => ⟨n - (i + 1), by omega, rfl, hlt, p'⟩, fun x H' y => ?_⟩
    obtain ⟨e, y⟩ := y
    subst e y
    exact hs i σ _ hlt p
  · have e : i = n := by omega
    subst e
    exact .inl ⟨Nat.le_refl _, hd σ H p⟩
theorem while_by {c : TT} {tb : TS} {D : Ends} {σ : St} {H : Hp} (Pv : St → Hp → Prop) (μ : St → Hp → Nat) (h0 : Pv σ H)
    (hs : ∀ σ H, Pv σ H → c σ H fun b H1 => if b = true then tb { D with nx := fun σ' H' => Pv σ' H' ∧ μ σ' H' < μ σ H, ct := fun σ' H' => Pv σ' H' ∧ μ σ' H' < μ σ H, bk := D.nx } σ H1 else D.nx σ H1)
    (mono : ∀ σ H Q Q', (∀ b H1, Q b H1 → Q' b H1) → c σ H Q → c σ H Q') : tWhile c tb D σ H := by
  refine ⟨fun m σ H => m = μ σ H ∧ Pv σ H, ⟨_, rfl, h0⟩, ?_⟩
  rintro m σ H ⟨rfl, p⟩
  refine mono σ H _ _ (fun b H1 q => ?_) (hs σ H p)
  cases b with
  | true => exact ⟨_, fun σ' H' ⟨p', l⟩ => ⟨_, l, rfl, p'⟩, q⟩
  | false => exact q
end L2
namespace L2
open PySem PySem.Spec PyProof.Rows
abbrev R2 := V → V → Hp → VK → Prop
def OpR (X : Cx) (f : Value → Value → Sem Value) (r : R2) : Prop :=
  ∀ (pins : List (Addr × Obj)) (s : Shared) (σ : St) (H : Hp) (x y : V) (v u : Value) (Q : VK), Inv X pins σ H s → RelV x v → RelV y u → r x y H Q →
    wpAny (model X.prog X.w) X.A (f v u) (EP X pins σ Q) X.xe s
def UnR (X : Cx) (f : Value → Sem Value) (r : V → Hp → VK → Prop) : Prop :=
  ∀ (pins : List (Addr × Obj)) (s : Shared) (σ : St) (H : Hp) (x : V) (v : Value) (Q : VK), Inv X pins σ H s → RelV x v → r x H Q →
    wpAny (model X.prog X.w) X.A (f v) (EP X pins σ Q) X.xe s
def CallR (X : Cx) (f : Value) (r : List V → Hp → VK → Prop) : Prop :=
  ∀ (pins : List (Addr × Obj)) (s : Shared) (σ : St) (H : Hp) (xs : List V) (us : List Value) (Q : VK), Inv X pins σ H s → Vals xs us → r xs H Q →
    wpAny (model X.prog X.w) X.A (call f us) (EP X pins σ Q) X.xe s
def tOp (r : R2) (ta tb : TE) : TE := fun σ H Q => ta σ H fun x H1 => tb σ H1 fun y H2 => r x y H2 Q
def tUn (r : V → Hp → VK → Prop) (ta : TE) : TE := fun σ H Q => ta σ H fun x H1 => r x H1 Q
def rI (C : Int → Int → Prop) (g : Int → Int → V) : R2 := fun x y H Q => ∃ i j, x = .int i ∧ y = .int j ∧ C i j ∧ Q (g i j) H
def rI0 (g : Int → Int → V) : R2 := fun x y H Q => ∃ i j, x = .int i ∧ y = .int j ∧ Q (g i j) H
def rU (g : Int → V) : V → Hp → VK → Prop := fun x H Q => ∃ i, x = .int i ∧ Q (g i) H
section
variable {X : Cx} {a b c : Expr} {ta tb tc : TE} {pos : Pos}
theorem binT (ha : PE X a ta) (hb : PE X b tb) {pins : List (Addr × Obj)} {s : Shared} {σ : St} {H : Hp} {R : V → V → Hp → Prop} (I : Inv X pins σ H s)
    (h : ta σ H fun x H1 => tb σ H1 fun y H2 => R x y H2) {Q : Value → Shared → Prop} {f : Value → Value → Sem Value}
    (hf : ∀ v u s2 x y H2, Inv X pins σ H2 s2 → RelV x v → RelV y u → R x y H2 → wpAny (model X.prog X.w) X.A (f v u) Q X.xe s2) :
    wpAny (model X.prog X.w) X.A (eval a X.env) (fun v s₁ => wpAny (model X.prog X.w) X.A (eval b X.env) (fun u s₂ => wpAny (model X.prog X.w) X.A (f v u) Q X.xe s₂) X.xe s₁) X.xe s := by
  refine thn (ha pins s σ H _ I h) fun v s1 ⟨x, H1, I1, r1, q1⟩ => ?_
  refine thn (hb pins s1 σ H1 _ I1 q1) fun u s2 ⟨y, H2, I2, r2, q2⟩ => ?_
  exact hf v u s2 x y H2 I2 r1 r2 q2
theorem pe_op {op : Operator} {r : R2} (ho : OpR X (binaryOp op) r) (ha : PE X a ta) (hb : PE X b tb) : PE X (.BinOp a op b pos) (tOp r ta tb) := by
  intro pins s σ H Q I h
  exact wpAny_BinOp (binT ha hb I h fun v u s2 x y H2 I2 rx ry q => ho pins s2 σ H2 x y v u Q I2 rx ry q)
theorem pe_un {op : UnaryOp} {r : V → Hp → VK → Prop} (ho : UnR X (unaryOp op) r) (ha : PE X a ta) : PE X (.UnaryOp op a pos) (tUn r ta) := by
  intro pins s σ H Q I h
  exact UnaryOp_ (thn (ha pins s σ H _ I h) fun v s1 ⟨x, H1, I1, r1, q1⟩ => ho pins s1 σ H1 x v Q I1 r1 q1)
theorem opI {f : Value → Value → Sem Value} {C : Int → Int → Prop} {g : Int → Int → Int}
    (rule : ∀ (i j : Int) (t u : Tok) (s : Shared) (Q : Value → Shared → Prop) (E : Value → Shared → Prop), C i j → Q (.int (g i j) s.toks) { s with toks := s.toks + 1 } → wpAny (model X.prog X.w) X.A (f (.int i t) (.int j u)) Q E s) :
    OpR X f (rI C fun i j => .int (g i j)) := by
  intro pins s σ H x y v u Q I rx ry h
  obtain ⟨i, j, rfl, rfl, hc, q⟩ := h
  obtain ⟨t, rfl⟩ := rx
  obtain ⟨t', rfl⟩ := ry
  exact rule i j t t' s _ _ hc ⟨.int (g i j), H, I.tok _, ⟨_, rfl⟩, q⟩
theorem opI0 {f : Value → Value → Sem Value} {g : Int → Int → Int}
    (rule : ∀ (i j : Int) (t u : Tok) (s : Shared) (Q : Value → Shared → Prop) (E : Value → Shared → Prop), Q (.int (g i j) s.toks) { s with toks := s.toks + 1 } → wpAny (model X.prog X.w) X.A (f (.int i t) (.int j u)) Q E s) :
    OpR X f (rI0 fun i j => .int (g i j)) := by
  intro pins s σ H x y v u Q I rx ry h
  obtain ⟨i, j, rfl, rfl, q⟩ := h
  obtain ⟨t, rfl⟩ := rx
  obtain ⟨t', rfl⟩ := ry
  exact rule i j t t' s _ _ ⟨.int (g i j), H, I.tok _, ⟨_, rfl⟩, q⟩
theorem opB0 {f : Value → Value → Sem Value} {g : Int → Int → Bool}
    (rule : ∀ (i j : Int) (t u : Tok) (s : Shared) (Q : Value → Shared → Prop) (E : Value → Shared → Prop), Q (.bool (g i j)) s → wpAny (model X.prog X.w) X.A (f (.int i t) (.int j u)) Q E s) :
    OpR X f (rI0 fun i j => .bl (g i j)) := by
  intro pins s σ H x y v u Q I rx ry h
  obtain ⟨i, j, rfl, rfl, q⟩ := h
  obtain ⟨t, rfl⟩ := rx
  obtain ⟨t', rfl⟩ := ry
  exact rule i j t t' s _ _ ⟨.bl (g i j), H, I, rfl, q⟩
def CPow (i j : Int) : Prop := 0 ≤ j ∧ j ≤ 1000000 ∧ i.natAbs < 2 ^ 64
def CMul (i j : Int) : Prop := (-(2 ^ 64) < i ∧ i < 2 ^ 64) ∨ (-(2 ^ 64) < j ∧ j < 2 ^ 64)
theorem CMul.ok {i j : Int} (h : CMul i j) : IntMulOk i j := by
  rcases h with ⟨h1, h2⟩ | ⟨h1, h2⟩
  · exact .of_left (intBits_le_64 h1 h2)
  · exact .of_right (intBits_le_64 h1 h2)
theorem op_add : OpR X (binaryOp .Add) (rI0 fun i j => .int (i + j)) := opI0 fun _ _ _ _ _ _ _ q => add_int q
theorem op_sub : OpR X (binaryOp .Sub) (rI0 fun i j => .int (i - j)) := opI0 fun _ _ _ _ _ _ _ q => sub_int q
theorem op_mul : OpR X (binaryOp .Mult) (rI CMul fun i j => .int (i * j)) := opI fun _ _ _ _ _ _ _ hc q => mul_int q hc.ok
theorem op_mod : OpR X (binaryOp .Mod) (rI (fun _ j => 0 < j) fun i j => .int (i % j)) := opI fun i j _ _ _ _ _ hc q => by
  have h1 : (0 : Int) < j := hc
  exact mod_int' (by omega) (by rw [Int.fmod_eq_emod_of_nonneg i (by omega)]; exact q)
theorem op_pow : OpR X (binaryOp .Pow) (rI CPow fun i j => .int (i ^ j.toNat)) := opI fun _ _ _ _ _ _ _ hc q => pow_int_small hc.1 hc.2.1 hc.2.2 q
theorem unI {f : Value → Sem Value} {g : Int → Int}
    (rule : ∀ (i : Int) (t : Tok) (s : Shared) (Q : Value → Shared → Prop) (E : Value → Shared → Prop), Q (.int (g i) s.toks) { s with toks := s.toks + 1 } → wpAny (model X.prog X.w) X.A (f (.int i t)) Q E s) :
    UnR X f (rU fun i => .int (g i)) := by
  intro pins s σ H x v Q I rx h
  obtain ⟨i, rfl, q⟩ := h
  obtain ⟨t, rfl⟩ := rx
  exact rule i t s _ _ ⟨.int (g i), H, I.tok _, ⟨_, rfl⟩, q⟩
theorem un_neg : UnR X (unaryOp .USub) (rU fun i => .int (-i)) := unI fun _ _ _ _ _ q => neg_int q
end
def scal : V → V → Bool
  | .non, .non => true | .non, .int _ => true | .int _, .non => true | .non, .bl _ => true | .bl _, .non => true | .non, .str _ => true | .str _, .non => true
  | .int _, .int _ => true | .bl _, .bl _ => true | .str _, .str _ => true | .byt _, .byt _ => true
  | .int _, .str _ => true | .str _, .int _ => true | .bl _, .str _ => true | .str _, .bl _ => true
  | _, _ => false
def rEq : R2 := fun x y H Q => scal x y = true ∧ Q (.bl (decide (x = y))) H
def rNe : R2 := fun x y H Q => scal x y = true ∧ Q (.bl (!decide (x = y))) H
theorem dec_int {i j : Int} : decide (V.int i = V.int j) = (i == j) := by
  rw [Bool.eq_iff_iff]
  simp
theorem dec_bl {i j : Bool} : decide (V.bl i = V.bl j) = (i == j) := by
  rw [Bool.eq_iff_iff]
  simp
theorem dec_str {i j : Str} : decide (V.str i = V.str j) = (i == j) := by
  rw [Bool.eq_iff_iff]
  simp
theorem dec_byt {i j : Array UInt8} : decide (V.byt i = V.byt j) = (i.toList == j.toList) := by
  rw [Bool.eq_iff_iff]
  cases i
  cases j
  simp
section
variable {X : Cx} {a b c : Expr} {ta tb tc : TE} {pos : Pos}
theorem fin_bl {pins : List (Addr × Obj)} {σ : St} {H : Hp} {s : Shared} {Q : VK} {k k' : Bool} (I : Inv X pins σ H s) (q : Q (.bl k) H) (e : k = k') : EP X pins σ Q (.bool k') s := by
  subst e
  exact ⟨.bl k, H, I, rfl, q⟩
theorem op_eq : OpR X (compareOp .Eq) rEq := by
  intro pins s σ H x y v u Q I rx ry h
  obtain ⟨hs, q⟩ := h
  cases x with
  | non =>
    cases rx
    cases y with
    | non => cases ry; exact PySem.EqNone.eq_none_none (fin_bl I q (by simp))
    | bl j => cases ry; exact PySem.EqNone.eq_none_bool (fin_bl I q (by simp))
    | int j => obtain ⟨t', rfl⟩ := ry; exact PySem.EqNone.eq_none_int (fin_bl I q (by simp))
    | str j => obtain ⟨t', rfl⟩ := ry; exact PySem.EqNone.eq_none_str (fin_bl I q (by simp))
    | _ => exact absurd (show false = true from hs) Bool.false_ne_true
  | bl i =>
    cases rx
    cases y with
    | non => cases ry; exact PySem.EqNone.eq_bool_none (fin_bl I q (by simp))
    | bl j => cases ry; exact eq_bool (fin_bl I q dec_bl)
    | str j => obtain ⟨t', rfl⟩ := ry; exact PySem.EqMixed.eq_bool_str (fin_bl I q (by simp))
    | _ => exact absurd (show false = true from hs) Bool.false_ne_true
  | int i =>
    obtain ⟨t, rfl⟩ := rx
    cases y with
    | non => cases ry; exact PySem.EqNone.eq_int_none (fin_bl I q (by simp))
    | int j => obtain ⟨t', rfl⟩ := ry; exact eq_int (fin_bl I q dec_int)
    | str j => obtain ⟨t', rfl⟩ := ry; exact PySem.EqMixed.eq_int_str (fin_bl I q (by simp))
    | _ => exact absurd (show false = true from hs) Bool.false_ne_true
  | str i =>
    obtain ⟨t, rfl⟩ := rx
    cases y with
    | non => cases ry; exact PySem.EqNone.eq_str_none (fin_bl I q (by simp))
    | bl j => cases ry; exact PySem.EqMixed.eq_str_bool (fin_bl I q (by simp))
    | int j => obtain ⟨t', rfl⟩ := ry; exact PySem.EqMixed.eq_str_int (fin_bl I q (by simp))
    | str j => obtain ⟨t', rfl⟩ := ry; exact eq_str (fin_bl I q dec_str)
    | _ => exact absurd (show false = true from hs) Bool.false_ne_true
  | byt i =>
    obtain ⟨t, rfl⟩ := rx
    cases y with
    | byt j => obtain ⟨t', rfl⟩ := ry; exact PySem.W.eq_bytes (fin_bl I q dec_byt)
    | _ => exact absurd (show false = true from hs) Bool.false_ne_true
  | _ => cases y <;> exact absurd (show false = true from hs) Bool.false_ne_true
theorem op_ne : OpR X (compareOp .NotEq) rNe := by
  intro pins s σ H x y v u Q I rx ry h
  obtain ⟨hs, q⟩ := h
  cases x with
  | non =>
    cases rx
    cases y with
    | non => cases ry; exact PySem.EqNone.ne_none_none (fin_bl I q (by simp))
    | bl j => cases ry; exact PySem.EqNone.ne_none_bool (fin_bl I q (by simp))
    | int j => obtain ⟨t', rfl⟩ := ry; exact PySem.EqNone.ne_none_int (fin_bl I q (by simp))
    | str j => obtain ⟨t', rfl⟩ := ry; exact PySem.EqNone.ne_none_str (fin_bl I q (by simp))
    | _ => exact absurd (show false = true from hs) Bool.false_ne_true
  | bl i =>
    cases rx
    cases y with
    | non => cases ry; exact PySem.EqNone.ne_bool_none (fin_bl I q (by simp))
    | bl j => cases ry; exact ne_bool (fin_bl I q (congrArg not dec_bl))
    | str j => obtain ⟨t', rfl⟩ := ry; exact PySem.EqMixed.ne_bool_str (fin_bl I q (by simp))
    | _ => exact absurd (show false = true from hs) Bool.false_ne_true
  | int i =>
    obtain ⟨t, rfl⟩ := rx
    cases y with
    | non => cases ry; exact PySem.EqNone.ne_int_none (fin_bl I q (by simp))
    | int j => obtain ⟨t', rfl⟩ := ry; exact ne_int (fin_bl I q (congrArg not dec_int))
    | str j => obtain ⟨t', rfl⟩ := ry; exact PySem.EqMixed.ne_int_str (fin_bl I q (by simp))
    | _ => exact absurd (show false = true from hs) Bool.false_ne_true
  | str i =>
    obtain ⟨t, rfl⟩ := rx
    cases y with
    | non => cases ry; exact PySem.EqNone.ne_str_none (fin_bl I q (by simp))
    | bl j => cases ry; exact PySem.EqMixed.ne_str_bool (fin_bl I q (by simp))
    | int j => obtain ⟨t', rfl⟩ := ry; exact PySem.EqMixed.ne_str_int (fin_bl I q (by simp))
    | str j => obtain ⟨t', rfl⟩ := ry; exact ne_str (fin_bl I q (congrArg not dec_str))
    | _ => exact absurd (show false = true from hs) Bool.false_ne_true
  | byt i =>
    obtain ⟨t, rfl⟩ := rx
    cases y with
    | byt j => obtain ⟨t', rfl⟩ := ry; exact PySem.W.ne_bytes (fin_bl I q (congrArg not dec_byt))
    | _ => exact absurd (show false = true from hs) Bool.false_ne_true
  | _ => cases y <;> exact absurd (show false = true from hs) Bool.false_ne_true
theorem op_lt : OpR X (compareOp .Lt) (rI0 fun i j => .bl (decide (i < j))) := opB0 fun _ _ _ _ _ _ _ q => lt_int q
theorem op_le : OpR X (compareOp .LtE) (rI0 fun i j => .bl (decide (i ≤ j))) := opB0 fun _ _ _ _ _ _ _ q => le_int q
theorem op_gt : OpR X (compareOp .Gt) (rI0 fun i j => .bl (decide (j < i))) := opB0 fun _ _ _ _ _ _ _ q => gt_int q
theorem op_ge : OpR X (compareOp .GtE) (rI0 fun i j => .bl (decide (j ≤ i))) := opB0 fun _ _ _ _ _ _ _ q => ge_int q
theorem op_isN : OpR X (compareOp .Is) (fun x y H Q => y = .non ∧ Q (.bl (decide (x = .non))) H) := by
  intro pins s σ H x y v u Q I rx ry h
  obtain ⟨rfl, q⟩ := h
  cases ry
  refine is_none_gen (fin_bl I q ?_)
  cases x <;> first
    | (cases rx; rfl)
    | (obtain ⟨t, rfl⟩ := rx; rfl)
theorem OpR.or {f : Value → Value → Sem Value} {r r' : R2} (h : OpR X f r) (h' : OpR X f r') : OpR X f (fun x y H Q => r x y H Q ∨ r' x y H Q) := by
  intro pins s σ H x y v u Q I rx ry q
  rcases q with q | q
  · exact h pins s σ H x y v u Q I rx ry q
  · exact h' pins s σ H x y v u Q I rx ry q
theorem nomark (b : Expr) {op : CmpOp} (h : op ≠ .In := by decide) (h2 : op ≠ .NotIn := by decide) : behindInMarks op b = false := by
  have e1 : (op == CmpOp.In) = false := by cases op <;> first | rfl | exact absurd rfl h
  have e2 : (op == CmpOp.NotIn) = false := by cases op <;> first | rfl | exact absurd rfl h2
  cases b <;> simp [behindInMarks, e1, e2]
theorem pe_cmpR {op : CmpOp} {r : R2} (ho : OpR X (compareOp op) r) (ha : PE X a ta) (hb : PE X b tb) (hm : behindInMarks op b = false) : PE X (.Compare a [op] [b] pos) (tOp r ta tb) := by
  intro pins s σ H Q I h
  exact wpAny_Compare1 (binT ha hb I h fun v u s2 x y H2 I2 rx ry q => ho pins s2 σ H2 x y v u Q I2 rx ry q) hm
def tTest (t : TE) : TT := fun σ H Q => t σ H fun x H' => ∃ k, x = .bl k ∧ Q k H'
theorem pt_cmpR {op : CmpOp} {r : R2} (ho : OpR X (compareOp op) r) (ha : PE X a ta) (hb : PE X b tb) (hm : behindInMarks op b = false) : PT X (.Compare a [op] [b] pos) (tTest (tOp r ta tb)) := by
  intro pins s σ H Q I h
  refine wpAny_isTrue_Compare1 (thn (ha pins s σ H _ I h) fun v s1 ⟨x, H1, I1, r1, q1⟩ => thn (hb pins s1 σ H1 _ I1 q1) fun u s2 ⟨y, H2, I2, r2, q2⟩ =>
    thn (ho pins s2 σ H2 x y v u _ I2 r1 r2 q2) fun c s3 ⟨z, H3, I3, r3, k, e, q3⟩ => ?_) hm
  subst e
  cases r3
  exact wpAny_truthy_bool ⟨H3, I3, q3⟩
def tChain (r r' : R2) (ta tb tc : TE) : TE := fun σ H Q => ta σ H fun x H1 => tb σ H1 fun y H2 => r x y H2 fun z H3 => ∃ k, z = .bl k ∧
  (if k = true then tc σ H3 fun w' H4 => r' y w' H4 Q else Q (.bl false) H3)
theorem pe_chain {op op' : CmpOp} {r r' : R2} (ho : OpR X (compareOp op) r) (ho' : OpR X (compareOp op') r') (ha : PE X a ta) (hb : PE X b tb) (hc : PE X c tc)
    (hm : lastMarks [op, op'] [b, c] = false := by with_unfolding_all rfl) : PE X (.Compare a [op, op'] [b, c] pos) (tChain r r' ta tb tc) := by
  intro pins s σ H Q I h
  refine Compare_chain (thn (ha pins s σ H _ I h) fun v s1 ⟨x, H1, I1, r1, q1⟩ => chain_link (thn (hb pins s1 σ H1 _ I1 q1) fun u s2 ⟨y, H2, I2, r2, q2⟩ =>
    thn (ho pins s2 σ H2 x y v u _ I2 r1 r2 q2) fun d s3 ⟨z, H3, I3, r3, k, e, q3⟩ => ?_)) hm
  subst e
  cases r3
  refine wpAny_truthy_bool ?_
  cases k with
  | false => exact ite_ff ⟨.bl false, H3, I3, rfl, q3⟩
  | true => exact ite_tt (chain_last (thn (hc pins s3 σ H3 _ I3 q3) fun w' s4 ⟨z', H4, I4, r4, q4⟩ => ho' pins s4 σ H4 y z' u w' Q I4 r2 r4 q4))
theorem line63 : (sizeLine : Nat) < 2 ^ 63 := by rw [sizeLine_eq]; decide
theorem op_add_str : OpR X (binaryOp .Add) (fun x y H Q => ∃ i j, x = .str i ∧ y = .str j ∧ i.length + j.length ≤ sizeLine ∧ Q (.str (i ++ j)) H) := by
  intro pins s σ H x y v u Q I rx ry h
  obtain ⟨i, j, rfl, rfl, hz, q⟩ := h
  obtain ⟨t, rfl⟩ := rx
  obtain ⟨t', rfl⟩ := ry
  exact add_str (fun t' tk => ⟨.str (i ++ j), H, I.tok _, ⟨_, rfl⟩, q⟩) hz
theorem vals1 {x : V} {us : List Value} (r : Vals [x] us) : ∃ u, us = [u] ∧ RelV x u := by
  cases r with
  | cons r1 r2 => cases r2; exact ⟨_, rfl, r1⟩
theorem vals2 {x y : V} {us : List Value} (r : Vals [x, y] us) : ∃ u w', us = [u, w'] ∧ RelV x u ∧ RelV y w' := by
  cases r with
  | cons r1 r2 =>
    cases r2 with
    | cons r3 r4 => cases r4; exact ⟨_, _, rfl, r1, r3⟩
theorem call_max2 (hc : X.calm = true) : CallR X (.builtin "max") (fun xs H Q => ∃ i j, xs = [.int i, .int j] ∧ Q (.int (if j > i then j else i)) H) := by
  intro pins s σ H xs us Q I r h
  obtain ⟨i, j, rfl, q⟩ := h
  obtain ⟨u, w', rfl, ⟨t, rfl⟩, ⟨t', rfl⟩⟩ := vals2 r
  refine max_two_ints (I.ok.hd hc) fun h' tk k => ⟨_, H, I.kept k, ?_, q⟩
  by_cases hj : j > i
  · rw [if_pos hj, if_pos hj]; exact ⟨_, rfl⟩
  · rw [if_neg hj, if_neg hj]; exact ⟨_, rfl⟩
theorem call_min2 (hc : X.calm = true) : CallR X (.builtin "min") (fun xs H Q => ∃ i j, xs = [.int i, .int j] ∧ Q (.int (if j < i then j else i)) H) := by
  intro pins s σ H xs us Q I r h
  obtain ⟨i, j, rfl, q⟩ := h
  obtain ⟨u, w', rfl, ⟨t, rfl⟩, ⟨t', rfl⟩⟩ := vals2 r
  refine min_two_ints (I.ok.hd hc) fun h' tk k => ⟨_, H, I.kept k, ?_, q⟩
  by_cases hj : j < i
  · rw [if_pos hj, if_pos hj]; exact ⟨_, rfl⟩
  · rw [if_neg hj, if_neg hj]; exact ⟨_, rfl⟩
theorem call_int1 : CallR X (.type "int") (fun xs H Q => (∃ i, xs = [.int i] ∧ Q (.int i) H) ∨ ∃ k, xs = [.bl k] ∧ Q (.int (if k then 1 else 0)) H) := by
  intro pins s σ H xs us Q I r h
  rcases h with ⟨i, rfl, q⟩ | ⟨k, rfl, q⟩
  · obtain ⟨u, rfl, t, rfl⟩ := vals1 r
    exact call_int_int ⟨.int i, H, I, ⟨_, rfl⟩, q⟩
  · obtain ⟨u, rfl, r1⟩ := vals1 r
    cases r1
    exact call_int_bool ⟨.int (if k then 1 else 0), H, I.tok _, ⟨_, rfl⟩, q⟩
end
end L2
namespace L2
open PySem PySem.Spec PyProof.Rows
structure ObjM (h : Heap) (x dx C : Addr) (mA : Str → Option Value) : Prop where
  obj : h.get? x = some (PySem.W.instObj C dx)
  ns : h.Ns1 dx mA
  ne : dx ≠ x
theorem lookIn_ns {h : Heap} {dx : Addr} {mA : Str → Option Value} (n : h.Ns1 dx mA) : ∃ od, h.get? dx = some od ∧ ∀ name, PySem.W.lookIn name od = some (mA name) := by
  obtain ⟨o, es, ep, ho, hd, hk, _, hm⟩ := n
  refine ⟨o, ho, fun name => ?_⟩
  have e := hm name
  unfold nsFind findBy at e
  rw [← Array.find?_toList] at e
  unfold PySem.W.lookIn
  rw [hd]
  dsimp only
  split
  · rename_i y q
    rw [q] at e
    exact congrArg some e
  · rename_i q
    rw [q] at e
    have a : es.toList.any (·.refKey) = false := by
      rw [List.any_eq_false]
      intro y hy
      obtain ⟨z, t, hkey⟩ := hk y (Array.mem_toList_iff.mp hy)
      simp [DictEntry.refKey, hkey]
    have a' : ¬ es.toList.any (·.refKey) = true := by rw [a]; exact Bool.false_ne_true
    rw [if_neg a']
    exact congrArg some e
theorem ObjM.look {h : Heap} {x dx C : Addr} {mA : Str → Option Value} (I : ObjM h x dx C mA) : ∃ od, PySem.W.InstAt h x (PySem.W.instObj C dx) C (some od) ∧ ∀ name, PySem.W.lookIn name od = some (mA name) :=
  let ⟨od, ho, hl⟩ := lookIn_ns I.ns
  ⟨od, ⟨I.obj, rfl, rfl, ho⟩, hl⟩
section
variable {prog : Program} {w : World} {A : Around} {E : Value → Shared → Prop} {s : Shared} {K : PySem.W.Frag} {x dx C f : Addr} {mA : Str → Option Value} {name : Str} {v : Value}
end
section
variable {P : Program} {w : World} {H H' : Hp} {h h' : Heap} {a C dx : Addr} {fs fs' : List (Str × V)}
theorem ins_get (hok : HOk P w H h) (e : H a = some (.ins C dx fs)) : ∃ mA, ObjM h a dx C mA ∧ (∀ f, RelO (fs.lookup f) (mA f)) ∧ PySem.Within mA (fs.map (·.1)) ∧ fs.length ≤ 1000 ∧ H dx = some (.own a) := by
  obtain ⟨d, z, ne, ob, mA, n, r, q⟩ := (show ObjOk P w H h a (.ins C dx fs) from hok a _ e)
  exact ⟨mA, ⟨ob, n, ne⟩, r, q, z, d⟩
end
structure Cls (K : PySem.W.Frag) (C : Addr) : Prop where
  pg : PySem.W.plainGet K C Str.empty = true
  hd : PySem.W.hasDictIn K C = true
  po : PySem.W.plainOver K C = true
  sa : PySem.W.findIn K (.ref C) "__setattr__" = some (some (.builtin "object.__setattr__"))
theorem Cls.get {K : PySem.W.Frag} {C : Addr} (c : Cls K C) (f : Str) : PySem.W.plainGet K C f = true := c.pg
structure Con (K : PySem.W.Frag) (C : Addr) (f : Str) (v : V) (u : Value) : Prop where
  at_ : PySem.W.findIn K (.ref C) f = some (some u)
  rel : RelV v u
  get : PySem.W.specialIn K u "__get__" = some none
  cp : PySem.W.copiedNames.contains f = false
structure Meth (K : PySem.W.Frag) (C : Addr) (m : Str) (f : Addr) : Prop where
  at_ : PySem.W.findIn K (.ref C) m = some (some (.ref f))
  fn : PySem.W.isFn K (.ref f) = true
  kp : PySem.W.keepIn K (.ref f) = true
section
variable {X : Cx} {pins : List (Addr × Obj)} {σ : St} {H : Hp} {s : Shared} {a C dx : Addr} {fs : List (Str × V)} {f : Str} {v : V} {A : Around} {E : Value → Shared → Prop}
theorem Inv.made (I : Inv X pins σ H s) : Inv X pins σ (upd (upd H s.heap.objs.size (.own (s.heap.objs.size + 1))) (s.heap.objs.size + 1) (.ins C s.heap.objs.size []))
    { s with heap := (s.heap.push PySem.W.emptyDict).push (PySem.W.instObj C s.heap.objs.size) } := by
  have e1 : (s.heap.push PySem.W.emptyDict).get? s.heap.objs.size = some PySem.W.emptyDict := Heap.get?_push_size s.heap rfl
  have e2 : ((s.heap.push PySem.W.emptyDict).push (PySem.W.instObj C s.heap.objs.size)).get? (s.heap.objs.size + 1) = some (PySem.W.instObj C s.heap.objs.size) := by
    have := Heap.get?_push_size (s.heap.push PySem.W.emptyDict) (o := PySem.W.instObj C s.heap.objs.size) rfl
    rwa [Heap.size_push] at this
  have e3 : (s.heap.push PySem.W.emptyDict).Ns s.heap.objs.size (fun _ => none) := ⟨PySem.W.emptyDict, #[], _, e1, rfl, (fun e he => absurd he (by simp)), fun _ => rfl⟩
  have I1 := I.laid (a := s.heap.objs.size) (o := .own (s.heap.objs.size + 1)) (h' := s.heap.push PySem.W.emptyDict) (t' := s.toks) (fun b u q => Heap.get?_push_of_some _ q) (Nat.le_refl _) ⟨_, e1⟩
  refine I1.laid (a := s.heap.objs.size + 1) (o := .ins C s.heap.objs.size []) (t' := s.toks) (fun b u q => Heap.get?_push_of_some _ q) (Nat.le_of_eq (Heap.size_push _ _)) ?_
  have ne : s.heap.objs.size ≠ s.heap.objs.size + 1 := Nat.ne_of_lt (Nat.lt_succ_self _)
  refine ⟨by rw [upd_ne ne, upd_same], Nat.zero_le _, ne, e2, fun _ => none, (Heap.Ns1.of_empty e3).at fun o q => Heap.get?_push_of_some _ q, fun _ => True.intro, fun y hy => absurd rfl hy⟩
end
section
variable {X : Cx} {o e value : Expr} {f : Str} {pos pos' tpos : Pos} {ta tv : TE}
end
section
variable {X : Cx} {pins : List (Addr × Obj)} {σ : St} {H : Hp} {s : Shared} {A : Around} {E : Value → Shared → Prop} {Q : Value → Shared → Prop} {c : Value} {b : Bool}
inductive TyOf (K : PySem.W.Frag) (H : Hp) : V → Value → Prop where
  | non : TyOf K H .non (.type "NoneType")
  | bl (x : Bool) : TyOf K H (.bl x) (.type "bool")
  | int (i : Int) : TyOf K H (.int i) (.type "int")
  | str (x : Str) : TyOf K H (.str x) (.type "str")
  | flt (x : UInt64) : TyOf K H (.flt x) (.type "float")
  | lst {a : Addr} {xs : List V} (e : H a = some (.lst xs)) : TyOf K H (.ref a) (.type "list")
  | frz {a : Addr} {o : Obj} {xs : List V} (e : H a = some (.frz o (.lst xs))) : TyOf K H (.ref a) (.type "list")
  | tup {a : Addr} {xs : List V} (e : H a = some (.tup xs)) : TyOf K H (.ref a) (.type "tuple")
  | dK {a : Addr} {kvs : List (Key × V)} (e : H a = some (.dK kvs)) : TyOf K H (.ref a) (.type "dict")
  | dT {a : Addr} {kvs : List (List Key × V)} (e : H a = some (.dT kvs)) : TyOf K H (.ref a) (.type "dict")
  | ins {a C dx : Addr} {fs : List (Str × V)} (e : H a = some (.ins C dx fs)) (cl : Cls K C) (ha : PySem.W.findIn K (.ref C) "__class__" = some (some (.builtin "object.__class__")))
      (hn : PySem.W.specialIn K (.builtin "object.__class__") "__get__" = some (some (.builtin "getset_descriptor.__get__"))) (htk : PySem.W.takesIn K (.builtin "object.__class__") = some true)
      (hm : PySem.W.mroIn K C (.type "object") = some true) : TyOf K H (.ref a) (.ref C)
theorem isinst_ok {x : V} {u t : Value} (I : Inv X pins σ H s) (rx : RelV x u) (ty : TyOf X.K H x t) (e : PySem.W.kitOne X.K t c = some b) (h : ∀ tk, Q (.bool b) { s with toks := tk }) :
    wpAny (model X.prog X.w) A (call (.builtin "isinstance") [u, c]) Q E s := by
  cases ty with
  | non => cases (show u = Value.none from rx); exact PySem.W.kia_one PySem.W.kitx_none I.kIn True.intro e (fun z => nomatch z) h
  | bl y => cases (show u = Value.bool y from rx); exact PySem.W.kia_one PySem.W.kitx_bool I.kIn True.intro e (fun z => nomatch z) h
  | int i => obtain ⟨t, q⟩ := (show ∃ t, u = Value.int i t from rx); cases q; exact PySem.W.kia_one PySem.W.kitx_int I.kIn True.intro e (fun z => nomatch z) h
  | str y => obtain ⟨t, q⟩ := (show ∃ t, u = Value.str y t from rx); cases q; exact PySem.W.kia_one PySem.W.kitx_str I.kIn True.intro e (fun z => nomatch z) h
  | flt y => obtain ⟨t, q⟩ := (show ∃ t, u = Value.float y t from rx); cases q; exact PySem.W.kia_one PySem.W.kitx_float I.kIn True.intro e (fun z => nomatch z) h
  | @lst a xs ea =>
    cases (show u = Value.ref a from rx)
    obtain ⟨_, _, n, _, h1⟩ := (show ObjOk X.prog X.w H s.heap a (.lst xs) from I.hok a _ ea)
    exact PySem.W.kia_one PySem.W.kitx_list I.kIn ⟨_, h1, rfl⟩ e (fun z => nomatch z) h
  | @frz a ob xs ea =>
    cases (show u = Value.ref a from rx)
    obtain ⟨_, _, _, n, _, h1⟩ := (show ObjOk X.prog X.w H s.heap a (.frz ob (.lst xs)) from I.hok a _ ea)
    exact PySem.W.kia_one PySem.W.kitx_list I.kIn ⟨_, h1, rfl⟩ e (fun z => nomatch z) h
  | @tup a xs ea =>
    cases (show u = Value.ref a from rx)
    obtain ⟨_, _, _, p⟩ := (show ObjOk X.prog X.w H s.heap a (.tup xs) from I.hok a _ ea)
    obtain ⟨o, h1, h2, _⟩ := p
    exact PySem.W.kia_one PySem.W.kitx_tuple I.kIn ⟨o, h1, h2⟩ e (fun z => nomatch z) h
  | @dK a kvs ea =>
    cases (show u = Value.ref a from rx)
    obtain ⟨_, _, vs, _, p⟩ := (show ObjOk X.prog X.w H s.heap a (.dK kvs) from I.hok a _ ea)
    obtain ⟨o, es, ep, h1, h2, _⟩ := p
    exact PySem.W.kia_one PySem.W.kitx_dict I.kIn ⟨o, h1, h2.1⟩ e (fun z => nomatch z) h
  | @dT a kvs ea =>
    cases (show u = Value.ref a from rx)
    obtain ⟨_, _, xs, _, o, es, ep, h1, h2, _⟩ := (show ObjOk X.prog X.w H s.heap a (.dT kvs) from I.hok a _ ea)
    exact PySem.W.kia_one PySem.W.kitx_dict I.kIn ⟨o, h1, h2.1⟩ e (fun z => nomatch z) h
  | @ins a C dx fs ea cl ha hn htk hm =>
    cases (show u = Value.ref a from rx)
    obtain ⟨mA, O, _⟩ := ins_get I.hok ea
    obtain ⟨od, J, _⟩ := O.look
    exact PySem.W.kia_one (PySem.W.kitx_own (cl.get _) cl.hd ha hn htk hm) I.kIn J e (fun z => nomatch z) h
end
end L2
namespace L2
open PySem PySem.Spec PyProof.Rows
structure Room (k : Nat) (A : Around) : Prop where
  hd : A.handled = none
  dp : A.depth + 3 * k + 5 < recursionLimit
  un : A.units + 16 * k + 200 < cLine
  gd : A.guards = some []
theorem Room.mono {j k : Nat} {A : Around} (r : Room k A) (h : j ≤ k) : Room j A := ⟨r.hd, by have := r.dp; omega, by have := r.un; omega, by first | exact r.gd | (simpa [Around.under, Code.isGuard, guardIds] using r.gd)⟩
theorem Room.deeper {k : Nat} {A : Around} (r : Room (k + 1) A) (env : Env) : Room k (A.deeper env) :=
  ⟨r.hd, by have := r.dp; show A.depth + 1 + 3 * k + 5 < _; omega, by have := r.un; show A.units + 3 + 16 * k + 200 < _; omega, by first | exact r.gd | (simpa [Around.under, Code.isGuard, guardIds] using r.gd)⟩
theorem Room.in1 {k : Nat} {A : Around} (r : Room (k + 1) A) : Room k A.in1 :=
  ⟨r.hd, by have := r.dp; show A.depth + 3 * k + 5 < _; omega, by have := r.un; show A.units + 1 + 16 * k + 200 < _; omega, by first | exact r.gd | (simpa [Around.under, Code.isGuard, guardIds] using r.gd)⟩
theorem Room.depth {k : Nat} {A : Around} (r : Room k A) : A.depth < recursionLimit := by have := r.dp; omega
theorem Room.units {k : Nat} {A : Around} (r : Room k A) : A.units + 64 < cLine := by have := r.un; omega
theorem Room.units0 {k : Nat} {A : Around} (r : Room k A) : A.units < cLine := by have := r.un; omega
def tNil : TA := fun _ H Q => Q [] H
def tCons (ta : TE) (tr : TA) : TA := fun σ H Q => ta σ H fun x H1 => tr σ H1 fun xs H2 => Q (x :: xs) H2
section
variable {X : Cx} {e : Expr} {es : List Expr} {te : TE} {t : TA} {pos : Pos}
theorem pa_nil : PA X [] tNil := fun _ _ _ _ H Q I h => Calls.spliced_nil ⟨[], H, I, .nil, h⟩
theorem pa_cons (ha : PE X e te) (hr : PA X es t) (hs : starEach (e :: es) X.env = (false, eval e X.env) :: starEach es X.env := by rfl) : PA X (e :: es) (tCons te t) := by
  intro pos pins s σ H Q I h
  rw [hs]
  show wpAny _ _ (spliced ((false, eval e X.env) :: backTo pos (starEach es X.env))) _ _ s
  refine Calls.spliced_cons (thn (ha pins s σ H _ I h) fun u s1 ⟨x, H1, I1, r1, q1⟩ => ?_)
  exact thn (hr pos pins s1 σ H1 _ I1 q1) fun us s2 ⟨xs, H2, I2, r2, q2⟩ => ⟨x :: xs, H2, I2, .cons r1 r2, q2⟩
def tTup (t : TA) : TE := fun σ H Q => t σ H fun xs H1 => xs.length ≤ sizeLine ∧ ∀ p, H1 p = none → Q (.ref p) (upd H1 p (.tup xs))
def tLst (t : TA) : TE := fun σ H Q => t σ H fun xs H1 => xs.length ≤ sizeLine ∧ ∀ p, H1 p = none → Q (.ref p) (upd H1 p (.lst xs))
theorem pe_tup {x1} (h : PA X es t) : PE X (.Tuple es x1 pos) (tTup t) := by
  intro pins s σ H Q I hq
  refine wpAny_Tuple_spliced (thn (h pos pins s σ H _ I hq) fun us s1 ⟨xs, H1, I1, r, z, q⟩ => ⟨by rw [← r.length]; exact z, ?_⟩)
  have hf : H1 s1.heap.objs.size = none := I1.hok.fresh (Nat.le_refl _)
  refine ⟨.ref s1.heap.objs.size, upd H1 s1.heap.objs.size (.tup xs), I1.laid (t' := s1.toks) (fun b u e => Heap.get?_push_of_some _ e) (Nat.le_refl _) ?_, rfl, q _ hf⟩
  exact ⟨⟨z, _, Heap.get?_push_size _ rfl, rfl⟩, us, r, ⟨_, Heap.get?_push_size _ rfl, rfl, _, rfl⟩⟩
theorem pe_lst (h : PA X es t) : PE X (.List es pos) (tLst t) := by
  intro pins s σ H Q I hq
  refine wpAny_List_spliced (thn (h pos pins s σ H _ I hq) fun us s1 ⟨xs, H1, I1, r, z, q⟩ => ⟨by rw [← r.length]; exact z, ?_⟩)
  have hf : H1 s1.heap.objs.size = none := I1.hok.fresh (Nat.le_refl _)
  refine ⟨.ref s1.heap.objs.size, upd H1 s1.heap.objs.size (.lst xs), I1.laid (t' := s1.toks) (fun b u e => Heap.get?_push_of_some _ e) (Nat.le_refl _) ?_, rfl, q _ hf⟩
  exact ⟨z, us, 0, r, Heap.get?_push_size _ rfl⟩
end
abbrev Sp := List V → Hp → VK → XK → Prop
abbrev CXT := List Env → Hp → Shared → XK → Value → Shared → Prop
structure Env0 (P : Program) (w : World) (K : PySem.W.Frag) (mg : Str → Option Value) (base : Heap) (A : Around) (outer : List Env) (s : Shared) (H : Hp) : Prop where
  frames : A.frames = some outer
  mod : Mod K mg base
  bs : ∀ b o, base.get? b = some o → s.heap.get? b = some o ∧ H b = none
  bsz : base.objs.size ≤ s.heap.objs.size
  funs : s.heap.FunFrames base outer
  frf : ∀ b ∈ frs outer, H b = none
  hok : HOk P w H s.heap
  bare : AllBare s.gens
def CE (outer : List Env) (P : Program) (w : World) (H : Hp) (s : Shared) (Q : VK) (u : Value) (s' : Shared) : Prop :=
  ∃ v H', s'.os = s.os ∧ AllBare s'.gens ∧ Un (frs outer) [] H H' s.heap s'.heap ∧ HOk P w H' s'.heap ∧ RelV v u ∧ Q v H'
def CR (CX : CXT) (outer : List Env) (P : Program) (w : World) (H : Hp) (s : Shared) (Q : VK) (E : XK) (r : Result) (s' : Shared) : Prop :=
  match r with
  | .ok (.ret u) => CE outer P w H s Q u s'
  | .ok _ => False
  | .error e => CX outer H s E e s'
structure FnOk (P : Program) (w : World) (K : PySem.W.Frag) (mg : Str → Option Value) (base : Heap) (CX : CXT) (k : Nat) (f : Addr) (fd : FuncData) (ps : List Str) (sp : Sp) : Prop where
  len : ∀ vs H Q E, sp vs H Q E → vs.length = ps.length
  run : ∀ (A : Around) (outer : List Env) (s : Shared) (H : Hp) (args : Args) (us : List Value) (vs : List V) (Q : VK) (E : XK), Room k A → Env0 P w K mg base A outer s H → BindsTo s fd args (ps.zip us) → Vals vs us → sp vs H Q E →
    codeAny (model P w) A (.call (.ref f) args) (CR CX outer P w H s Q E) s
theorem FnOk.mono {P : Program} {w : World} {K : PySem.W.Frag} {mg : Str → Option Value} {base : Heap} {CX : CXT} {j k : Nat} {f : Addr} {fd : FuncData} {ps : List Str} {sp : Sp} (F : FnOk P w K mg base CX j f fd ps sp) (h : j ≤ k) :
    FnOk P w K mg base CX k f fd ps sp := ⟨F.len, fun A outer s H args us vs Q E hr => F.run A outer s H args us vs Q E (hr.mono h)⟩
theorem FnOk.imp {P : Program} {w : World} {K : PySem.W.Frag} {mg : Str → Option Value} {base : Heap} {CX : CXT} {k : Nat} {f : Addr} {fd : FuncData} {ps : List Str} {sp sp' : Sp} (F : FnOk P w K mg base CX k f fd ps sp)
    (h : ∀ vs H Q E, sp' vs H Q E → sp vs H Q E) : FnOk P w K mg base CX k f fd ps sp' :=
  ⟨fun vs H Q E q => F.len vs H Q E (h _ _ _ _ q), fun A outer s H args us vs Q E hr he hb hv hs => F.run A outer s H args us vs Q E hr he hb hv (h _ _ _ _ hs)⟩
theorem Env0.in1 {P : Program} {w : World} {K : PySem.W.Frag} {mg : Str → Option Value} {base : Heap} {A : Around} {outer : List Env} {s : Shared} {H : Hp} (e : Env0 P w K mg base A outer s H) :
    Env0 P w K mg base A.in1 outer s H := ⟨e.frames, e.mod, e.bs, e.bsz, e.funs, e.frf, e.hok, e.bare⟩
section
variable {X : Cx} {pins : List (Addr × Obj)} {σ : St} {H : Hp} {s s' : Shared}
theorem Inv.env0 (I : Inv X pins σ H s) : Env0 X.prog X.w X.K X.mg X.base X.A X.stack s H :=
  ⟨I.ok.frames, I.ok.mod, I.bs, Nat.le_trans I.ok.bsz I.sz, I.stack, I.stkFree, I.hok, I.bare⟩
theorem Inv.after {Q : VK} {u : Value} (I : Inv X pins σ H s) (h : CE X.stack X.prog X.w H s Q u s') : EP X pins σ Q u s' := by
  obtain ⟨v, H', os, bare, un, hok, r, q⟩ := h
  obtain ⟨hh, g, d, t, os'⟩ := s'
  obtain rfl : os' = s.os := os
  exact ⟨v, H', I.call (h' := hh) (g' := g) (d' := d) (t' := t) (ch := []) un hok bare (fun b z => absurd z (by simp)), r, q⟩
end
def tCall (sp : Sp) (dvs : List V) (E : XK) (t : TA) : TE := fun σ H Q => t σ H fun vs H1 => sp (vs ++ dvs) H1 Q E
def Binds (K : PySem.W.Frag) (fd : FuncData) (ps : List Str) (ds : List Value) : Prop :=
  ∀ (s : Shared) (us : List Value), K.In s.heap → (us ++ ds).length = ps.length → BindsTo s fd ⟨us, []⟩ (ps.zip (us ++ ds))
theorem Binds.all {K : PySem.W.Frag} {fd : FuncData} {ps : List Str} (h : ∀ us : List Value, us.length = ps.length → bindArgs fd ⟨us, []⟩ = pure (ps.zip us)) : Binds K fd ps [] := fun s us _ hl => by
  rw [List.append_nil] at hl ⊢
  exact .of_eq (h us hl)
def Passes (CX : CXT) (X : Cx) (E : XK) : Prop := ∀ (pins : List (Addr × Obj)) (σ : St) (H : Hp) (s : Shared) (e : Value) (s' : Shared), Inv X pins σ H s → CX X.stack H s E e s' → X.xe e s'
section
variable {X : Cx} {CX : CXT} {k : Nat} {f C : Addr} {fd : FuncData} {ps : List Str} {sp : Sp} {dvs : List V} {ds : List Value} {E : XK} {x m : Str} {p pos apos : Pos} {e o : Expr} {es : List Expr} {ta : TE} {t : TA}
theorem run_fn {pins : List (Addr × Obj)} {σ : St} {H : Hp} {s : Shared} {Q : VK} {us : List Value} {vs : List V} (F : FnOk X.prog X.w X.K X.mg X.base CX k f fd ps sp) (hr : Room k X.A) (hb : Binds X.K fd ps ds) (hd : Vals dvs ds) (hx : Passes CX X E)
    (I : Inv X pins σ H s) (r : Vals vs us) (h : sp (vs ++ dvs) H Q E) : wpAny (model X.prog X.w) X.A (call (.ref f) us) (EP X pins σ Q) X.xe s := by
  have r2 : Vals (vs ++ dvs) (us ++ ds) := r.append hd
  have hl : (us ++ ds).length = ps.length := by rw [← r2.length]; exact F.len _ _ _ _ h
  refine wpAny_call (codeAny_mono (F.run X.A X.stack s H ⟨us, []⟩ (us ++ ds) (vs ++ dvs) Q E hr I.env0 (hb s us I.kIn hl) r2 h) fun r s' hq => ?_)
  cases r with
  | error e => exact hx pins σ H s e s' I hq
  | ok fl =>
    cases fl with
    | ret u => exact I.after hq
    | next => exact False.elim hq
    | brk => exact False.elim hq
    | cont => exact False.elim hq
theorem pe_call (F : FnOk X.prog X.w X.K X.mg X.base CX k f fd ps sp) (hr : Room k X.A) (hg : Gl X x) (hm : X.mg x = some (.ref f)) (hk : PySem.W.keepIn X.K (.ref f) = true) (hb : Binds X.K fd ps ds) (hd : Vals dvs ds) (hx : Passes CX X E)
    (ha : PA X (e :: es) t) (hdb : (x == ("__debug__" : Str)) = false := by decide) (he : starEach (e :: es) X.env = (false, eval e X.env) :: starEach es X.env := by rfl) (hpl : (backTo pos (starEach es X.env)).any (·.1) = false := by rfl) :
    PE X (.Call (.Name x p) (e :: es) [] pos) (tCall sp dvs E t) := by
  intro pins s σ H Q I h
  refine wpAny_Call_Name_kw (ld_glob I hg hm ?_ hdb)
  refine PySem.W.callWith_K (h₀ := X.base) I.ok.mod.kin hk (thn (ha pos pins s σ H _ I h) fun us s1 ⟨vs, H1, I1, r, q⟩ => ⟨I1.kIn, ?_⟩) he hpl
  exact run_fn F hr hb hd hx I1 r q
structure Mk (K : PySem.W.Frag) (C f : Addr) : Prop where
  makes : PySem.W.makesIn K C = true
  init : PySem.W.findIn K (.ref C) "__init__" = some (some (.ref f))
  fn : PySem.W.isFn K (.ref f) = true
  kp : PySem.W.keepIn K (.ref C) = true
end
section
variable {X : Cx} {CX : CXT} {k : Nat} {f C : Addr} {fd : FuncData} {ps ks : List Str} {sp : Sp} {E : XK} {x m : Str} {p pos apos kpos : Pos} {e o : Expr} {es : List Expr} {kws : List Keyword} {te ta : TE} {t tk : TA} {nm : Option Str}
structure KBinds (K : PySem.W.Frag) (fd : FuncData) (ps ks : List Str) (g : List Value → List Value → List Value) (gV : List V → List V → List V) : Prop where
  to : ∀ (s : Shared) (us ws : List Value), K.In s.heap → (g us ws).length = ps.length → BindsTo s fd ⟨us, ks.zip ws⟩ (ps.zip (g us ws))
  rel : ∀ {vs : List V} {us : List Value} {zs : List V} {ws : List Value}, Vals vs us → Vals zs ws → Vals (gV vs zs) (g us ws)
variable {g : List Value → List Value → List Value} {gV : List V → List V → List V}
end
structure FnScope (N P : List Str) (sc : Scope) : Prop where
  kind : sc.kind = .function
  co : sc.isCoroutine = false
  gen : sc.isGenerator = false
  nd : N.Nodup
  pre : N.take P.length = P
  par : ∀ x ∈ P, sc.names.lookup x = some .local ∨ sc.names.lookup x = some .cell
  nofree : ∀ y ∈ sc.names, y.2 ≠ .free
theorem bindL_out {kindOf : Str → Option NameKind} {x : Str} : ∀ {binds : List (Str × Value)} {m : Str → Option Value}, (∀ v, (x, v) ∉ binds) → bindL kindOf binds m x = m x
  | [], _, _ => rfl
  | (n, v) :: r, m, h => by
    unfold bindL
    rw [bindL_out fun w hw => h w (List.mem_cons_of_mem _ hw)]
    split
    · have : x ≠ n := by rintro rfl; exact h v List.mem_cons_self
      simp [this]
    · rfl
theorem bindC_out {kindOf : Str → Option NameKind} {x : Str} : ∀ {binds : List (Str × Value)} {m : Str → Option Value}, (∀ v, (x, v) ∉ binds) → bindC kindOf binds m x = m x
  | [], _, _ => rfl
  | (n, v) :: r, m, h => by
    unfold bindC
    rw [bindC_out fun w hw => h w (List.mem_cons_of_mem _ hw)]
    split
    · rfl
    · have : x ≠ n := by rintro rfl; exact h v List.mem_cons_self
      simp [this]
theorem bindL_get {kindOf : Str → Option NameKind} {x : Str} {v : Value} : ∀ {P : List Str} {vs : List Value} {i : Nat} {m : Str → Option Value}, P.Nodup → P[i]? = some x → vs[i]? = some v → kindOf x = some .local →
    bindL kindOf (P.zip vs) m x = some v
  | [], _, _, _, _, h, _, _ => by simp at h
  | _ :: _, [], _, _, _, _, h, _ => by simp at h
  | p :: P, w :: vs, 0, m, nd, h1, h2, hk => by
    simp at h1 h2; subst h1; subst h2
    show bindL kindOf ((p, w) :: P.zip vs) m p = _
    unfold bindL
    rw [bindL_out fun v hv => (List.nodup_cons.mp nd).1 (List.of_mem_zip hv).1, if_pos hk]
    simp
  | p :: P, w :: vs, i + 1, m, nd, h1, h2, hk => by
    show bindL kindOf ((p, w) :: P.zip vs) m x = _
    unfold bindL
    exact bindL_get (i := i) (List.nodup_cons.mp nd).2 (by simpa using h1) (by simpa using h2) hk
theorem bindC_get {kindOf : Str → Option NameKind} {x : Str} {v : Value} : ∀ {P : List Str} {vs : List Value} {i : Nat} {m : Str → Option Value}, P.Nodup → P[i]? = some x → vs[i]? = some v → kindOf x ≠ some .local →
    bindC kindOf (P.zip vs) m x = some v
  | [], _, _, _, _, h, _, _ => by simp at h
  | _ :: _, [], _, _, _, _, h, _ => by simp at h
  | p :: P, w :: vs, 0, m, nd, h1, h2, hk => by
    simp at h1 h2; subst h1; subst h2
    show bindC kindOf ((p, w) :: P.zip vs) m p = _
    unfold bindC
    rw [bindC_out fun v hv => (List.nodup_cons.mp nd).1 (List.of_mem_zip hv).1, if_neg hk]
    simp
  | p :: P, w :: vs, i + 1, m, nd, h1, h2, hk => by
    show bindC kindOf ((p, w) :: P.zip vs) m x = _
    unfold bindC
    exact bindC_get (i := i) (List.nodup_cons.mp nd).2 (by simpa using h1) (by simpa using h2) hk
def start (N : List Str) (vs : List V) : St := vs.map some ++ List.replicate (N.length - vs.length) none
def cxOf (CX : CXT) (P : Program) (w : World) (K : PySem.W.Frag) (mg : Str → Option Value) (base : Heap) (N : List Str) (qual : Str) (scope : Scope) (f : Addr) (cd : Value) (A : Around) (outer : List Env) (s : Shared) (H : Hp) (E : XK) : Cx where
  prog := P
  w := w
  K := K
  mg := mg
  base := base
  A := A.deeper (envOfC qual scope s.heap.objs.size f cd)
  N := N
  s₀ := s
  H₀ := H
  env := envOfC qual scope s.heap.objs.size f cd
  outer := outer
  stack := envOfC qual scope s.heap.objs.size f cd :: outer
  ex := []
  calm := true
  fn := fun _ => true
  pn := []
  xe := fun e s' => wpAny (model P w) (A.deeper (envOfC qual scope s.heap.objs.size f cd)) (leaving (envOfC qual scope s.heap.objs.size f cd) e) (fun _ s'' => CX outer H s E e s'') (fun e' s'' => CX outer H s E e' s'') s'
theorem cell_has {sc : Scope} {n : Nat} {x : Str} (h : sc.names.lookup x = some .cell) : ∃ c, (cellsFrom n sc.names []).lookup x = some c := by
  have q := PySem.W.cellsFrom_some sc.names n [] (.inl h)
  exact Option.isSome_iff_exists.mp q
theorem inv_start {CX : CXT} {P : Program} {w : World} {K : PySem.W.Frag} {mg : Str → Option Value} {base : Heap} {N ps : List Str} {qual : Str} {scope : Scope} {f : Addr} {cd : Value} {A : Around} {outer : List Env} {s s1 : Shared} {H : Hp} {E : XK} {us : List Value} {vs : List V}
    (S : FnScope N ps scope) (hd : A.handled = none) (e0 : Env0 P w K mg base A outer s H) (hl : vs.length = ps.length) (r : Vals vs us)
    (x : InCallC s s.heap.objs.size (bindL (envOfC qual scope s.heap.objs.size f cd).kindOf (ps.zip us) fun _ => none) (cellsFrom (s.heap.objs.size + 1) scope.names []) (bindC (envOfC qual scope s.heap.objs.size f cd).kindOf (ps.zip us) fun _ => none) s1) :
    Inv (cxOf CX P w K mg base N qual scope f cd A outer s H E) [] (start N vs) H s1 := by
  have hpl : ps.length ≤ N.length := by have := congrArg List.length S.pre; rw [List.length_take] at this; omega
  obtain ⟨h1, tk, rfl, hk⟩ := x.done
  have noA : ∀ b : Addr, b ∉ (cxOf CX P w K mg base N qual scope f cd A outer s H E).ex := fun b z => absurd (show b ∈ ([] : List Addr) from z) (by simp)
  refine ⟨⟨e0.mod, S.kind, rfl, rfl, Nat.le_refl _, fun y z c h1 h2 => ?_, fun y hy => ?_, fun y c _ h => ?_, fun _ => hd, Around.frames_deeper e0.frames, .inr ⟨rfl, rfl⟩, fun b z => absurd z (noA b), e0.bs, e0.bsz, fun b _ _ => noA b, fun b z => absurd z (noA b), e0.funs, e0.frf⟩,
    rfl, e0.bare, Un.kept hk, ⟨_, x.toInCall.ns, fun i y v h1 h2 h3 => ?_⟩, fun y c h => ⟨_, x.cell y c h⟩, e0.hok.fresh (Nat.le_refl _), fun y c h => ?_, fun p hp => absurd (show p ∈ ([] : List (Addr × Obj)) from hp) (by simp), e0.hok.kept hk, ?_⟩
  · exact name_of_addr x.apart (PySem.mem_of_lookup h1) (PySem.mem_of_lookup h2)
  · have hy : scope.names.lookup y = some .cell ∨ scope.names.lookup y = some .free := hy
    rcases hy with hy | hy
    · exact cell_has hy
    · exact absurd rfl (S.nofree _ (PySem.mem_of_lookup hy))
  · exact Nat.le_of_lt (x.above y c (PySem.mem_of_lookup h))
  · have hi : i < vs.length := by
      unfold start at h2
      by_cases hi : i < vs.length
      · exact hi
      · rw [List.getElem?_append_right (by simpa using hi)] at h2
        rw [List.getElem?_replicate] at h2
        split at h2 <;> cases h2
    have ha : vs[i]? = some v := by
      unfold start at h2
      rw [List.getElem?_append_left (by simpa using hi), List.getElem?_map] at h2
      cases e : vs[i]? with
      | none => rw [e] at h2; cases h2
      | some a => rw [e] at h2; cases h2; rfl
    obtain ⟨u, hu, rv⟩ := r.get ha
    have hp : ps[i]? = some y := by
      rw [← S.pre, List.getElem?_take_of_lt (by omega)]; exact h1
    have ndP : ps.Nodup := by rw [← S.pre]; exact S.nd.sublist (List.take_sublist _ _)
    refine ⟨u, rv, ?_⟩
    rcases S.par y (List.mem_of_getElem? hp) with k | k
    · exact .inl ⟨k, bindL_get ndP hp hu k⟩
    · obtain ⟨c, e⟩ := cell_has (n := s.heap.objs.size + 1) k
      refine .inr ⟨.inl k, c, e, ?_⟩
      have q := x.cell y c e
      rw [bindC_get ndP hp hu (by show scope.names.lookup y ≠ _; rw [k]; decide)] at q
      exact q
  · exact e0.hok.fresh (Nat.le_of_lt (x.above y c (PySem.mem_of_lookup h)))
  · unfold start
    show _ = N.length
    rw [List.length_append, List.length_map, List.length_replicate]
    omega
theorem fn_of {CX : CXT} {P : Program} {w : World} {K : PySem.W.Frag} {mg : Str → Option Value} {base : Heap} {k : Nat} {f : Addr} {name qual : Str} {params : Arguments} {body : List Stmt} {scope : Scope} {dV kV doc pm cdv ct oc : Value} {an od : Option Addr}
    {osl : Array (Option Value)} {N ps : List Str} {sp : Sp} (lk : K.lookup f = some ⟨oc, od, .func (PySem.W.fnOf name qual params body scope dV kV doc pm an cdv ct), osl⟩) (hcd : PySem.W.codeIn K cdv qual = true) (S : FnScope N ps scope)
    (len : ∀ vs H Q E, sp vs H Q E → vs.length = ps.length)
    (hbody : ∀ (A : Around) (outer : List Env) (s : Shared) (H : Hp) (vs : List V) (Q : VK) (E : XK), Room k (A.deeper (envOfC qual scope s.heap.objs.size f cdv)) → sp vs H Q E →
      ∃ t, PSs (cxOf CX P w K mg base N qual scope f cdv A outer s H E) body t ∧ t { nx := fun _ H' => Q .non H', rt := Q } (start N vs) H) :
    FnOk P w K mg base CX (k + 1) f (PySem.W.fnOf name qual params body scope dV kV doc pm an cdv ct) ps sp := by
  refine ⟨len, fun A outer s H args us vs Q E hr e0 hb r hsp => ?_⟩
  have hl := len _ _ _ _ hsp
  have KX : K.In s.heap := e0.mod.kin.keeps fun b o e => (e0.bs b o e).1
  have lim : s.heap.NoLimit := e0.mod.nolimit.keeps fun b o e => (e0.bs b o e).1
  have hkind : ∀ y ∈ ps.zip us, scope.names.lookup y.1 = some .local ∨ (scope.names.lookup y.1 = some .cell ∧ ((cellsFrom (s.heap.objs.size + 1) scope.names []).lookup y.1).isSome = true) := fun ⟨n, v⟩ hy => by
    rcases S.par n (List.of_mem_zip hy).1 with q | q
    · exact .inl q
    · exact .inr ⟨q, PySem.W.cellsFrom_some _ _ _ (.inl q)⟩
  refine codeAny_call_function hr.depth (KX _ _ lk) rfl S.co S.gen rfl (PySem.W.codeRec_of KX hcd) (hb _ _ _ _ ?_)
  refine wpAny_newFunctionEnv_cells S.kind hkind fun env he s1 x => ?_
  subst he
  refine ⟨lim.keeps x.toInCall.keep, codeAny_func ?_⟩
  obtain ⟨t, ht, hq⟩ := hbody A outer s H vs Q E (hr.deeper _) hsp
  have I : Inv (cxOf CX P w K mg base N qual scope f cdv A outer s H E) [] (start N vs) H s1 := inv_start S hr.hd e0 hl r x
  refine wpAny_mono (ht [] s1 (start N vs) H _ I hq) (fun fl s' hs => ?_) fun e s' hs => hs
  have fin : ∀ {σ' : St} {H' : Hp} {v : V} {u : Value}, Inv (cxOf CX P w K mg base N qual scope f cdv A outer s H E) [] σ' H' s' → RelV v u → Q v H' → CE outer P w H s Q u s' :=
    fun {σ' H' v u} J rv q => ⟨v, H', J.os, J.bare, J.base, J.hok, rv, q⟩
  cases fl with
  | ret u =>
    obtain ⟨v, σ', H', J, rv, q⟩ := hs
    exact fin J rv q
  | next =>
    obtain ⟨σ', H', J, q⟩ := hs
    exact fin (v := V.non) (u := Value.none) J rfl q
  | brk =>
    obtain ⟨_, _, _, q⟩ := hs
    exact False.elim q
  | cont =>
    obtain ⟨_, _, _, q⟩ := hs
    exact False.elim q
end L2
namespace L2
open PySem PySem.Spec PyProof.Rows
section
variable {X : Cx} {x : Str} {p pos : Pos} {e : Expr} {es : List Expr} {t : TA} {id T : String} {r : List V → Hp → VK → Prop}
def tCB (r : List V → Hp → VK → Prop) (t : TA) : TE := fun σ H Q => t σ H fun vs H1 => r vs H1 Q
theorem pe_callB (hc : CallR X (.builtin id) r) (hg : Gl X x) (hm : X.mg x = none) (hv : bootBuiltins x = some (.builtin id)) (ha : PA X (e :: es) t) (hn : x ≠ "__name__" := by decide) (hdb : (x == ("__debug__" : Str)) = false := by decide)
    (he : starEach (e :: es) X.env = (false, eval e X.env) :: starEach es X.env := by rfl) (hpl : (backTo pos (starEach es X.env)).any (·.1) = false := by rfl) : PE X (.Call (.Name x p) (e :: es) [] pos) (tCB r t) := by
  intro pins s σ H Q I h
  refine wpAny_Call_Name_kw (ld_blt I hg hm hv ?_ hn hdb)
  exact PyProof.Rows.callWith_builtin1 (thn (ha pos pins s σ H _ I h) fun us s1 ⟨vs, H1, I1, r1, q1⟩ => hc pins s1 σ H1 vs us Q I1 r1 q1) he hpl
theorem pe_callTy (hc : CallR X (.type T) r) (hg : Gl X x) (hm : X.mg x = none) (hv : bootBuiltins x = some (.type T)) (ha : PA X (e :: es) t) (hn : x ≠ "__name__" := by decide) (hdb : (x == ("__debug__" : Str)) = false := by decide)
    (he : starEach (e :: es) X.env = (false, eval e X.env) :: starEach es X.env := by rfl) (hpl : (backTo pos (starEach es X.env)).any (·.1) = false := by rfl) : PE X (.Call (.Name x p) (e :: es) [] pos) (tCB r t) := by
  intro pins s σ H Q I h
  refine wpAny_Call_Name_kw (ld_blt I hg hm hv ?_ hn hdb)
  exact PyProof.Rows.callWith_type1 (thn (ha pos pins s σ H _ I h) fun us s1 ⟨vs, H1, I1, r1, q1⟩ => hc pins s1 σ H1 vs us Q I1 r1 q1) he hpl
end
end L2
namespace HT
open PySem PyProof.Rows
section
open PySem.SeqAt
open PySem.AutoSeq1 (wpAny_loadPart')
open PySem.MeetsSeq PySem.MeetsSeq2 PySem.MeetsSeq3
end
section
variable {prog : Program} {w : World} {A : Around} {E : Value → Shared → Prop} {s : Shared}
def sIx (n d : Nat) : Option Int → Nat
  | none => d
  | some v => if v < 0 then (v + (n : Int)).toNat else min v.toNat n
theorem sIx_le (n d : Nat) (hd : d ≤ n) (o : Option Int) : sIx n d o ≤ n := by
  cases o with
  | none => exact hd
  | some v =>
    show (if v < 0 then (v + (n : Int)).toNat else min v.toNat n) ≤ n
    by_cases hv : v < 0
    · rw [if_pos hv]; omega
    · rw [if_neg hv]; exact Nat.min_le_right _ _
theorem clip_eq (v : Int) (n d : Nat) : (if v < 0 then max (v + (n : Int)) 0 else min v (n : Int)) = ((sIx n d (some v) : Nat) : Int) := by
  show (if v < 0 then max (v + (n : Int)) 0 else min v (n : Int)) = (((if v < 0 then (v + (n : Int)).toNat else min v.toNat n) : Nat) : Int)
  by_cases hv : v < 0
  · simp only [if_pos hv]; omega
  · simp only [if_neg hv]; omega
theorem adjust_gen (lo hi : Option Int) (n : Nat) : Builtin.Slice.sliceAdjust lo hi 1 (n : Int) = (((sIx n 0 lo : Nat) : Int), ((sIx n n hi : Nat) : Int)) := by
  have h1 : ¬ ((1 : Int) < 0) := by omega
  unfold Builtin.Slice.sliceAdjust
  simp only [h1, if_false]
  refine Prod.ext ?_ ?_
  · cases lo with
    | none => rfl
    | some v => exact clip_eq v n 0
  · cases hi with
    | none => rfl
    | some v => exact clip_eq v n n
theorem places_gen (i j : Nat) : Builtin.Slice.slicePlaces (i : Int) (j : Int) 1 = j - i := by
  unfold Builtin.Slice.slicePlaces
  have h1 : (1 : Int) > 0 := by omega
  simp only [h1, if_true, Int.ediv_one]
  split <;> omega
theorem slicePart_ {v : Value} {o : Option Int} {Q : Option Int → Shared → Prop} (p : IsPart v o) (h : Q o s) : wpAny (model prog w) A (Builtin.Slice.slicePartIndex v) Q E s := by
  cases p with
  | none => exact slicePart_none h
  | int i t => exact slicePart_int h
theorem sliceApplied_gen {sl : Addr} {vl vu : Value} {lo hi : Option Int} {n : Nat} {Q : Int × Int × Nat → Shared → Prop} (hs : s.heap.IsSliceOf sl vl vu .none) (pl : IsPart vl lo) (pu : IsPart vu hi)
    (h : Q (((sIx n 0 lo : Nat) : Int), 1, sIx n n hi - sIx n 0 lo) s) : wpAny (model prog w) A (Builtin.Slice.sliceApplied (.ref sl) (pure (n : Int))) Q E s := by
  obtain ⟨os, hos, hcs, hds⟩ := id hs
  unfold Builtin.Slice.sliceApplied Builtin.Slice.sliceFields
  refine wpAny_bind (wpAny_bind (wpAny_field hos hds (x := vl) rfl (wpAny_bind (wpAny_field hos hds (x := vu) rfl (wpAny_bind (wpAny_field hos hds (x := .none) rfl (wpAny_pure ?_)))))))
  refine wpAny_bind (slicePart_none ?_)
  show wpAny _ _ (if ((1 : Int) == 0) = true then _ else _) _ _ s
  rw [if_neg (by decide)]
  refine wpAny_bind (slicePart_ pl (wpAny_bind (slicePart_ pu (wpAny_bind (wpAny_pure ?_)))))
  show wpAny _ _ (match Builtin.Slice.sliceAdjust lo hi 1 (n : Int) with | (lo, hi) => pure (lo, (1 : Int), Builtin.Slice.slicePlaces lo hi 1)) _ _ s
  rw [adjust_gen lo hi n]
  show wpAny _ _ (pure (((sIx n 0 lo : Nat) : Int), (1 : Int), Builtin.Slice.slicePlaces ((sIx n 0 lo : Nat) : Int) ((sIx n n hi : Nat) : Int) 1)) _ _ s
  rw [places_gen]
  exact wpAny_pure h
theorem pick_gen (xs : Array Value) (i k : Nat) : ((List.range k).filterMap fun (m : Nat) => xs[((i : Int) + (m : Int) * 1).toNat]?).toArray = ((xs.toList.drop i).take k).toArray := by
  have e : (fun (m : Nat) => xs[((i : Int) + (m : Int) * 1).toNat]?) = fun m => xs[i + m]? := by
    funext m
    have : ((i : Int) + (m : Int) * 1).toNat = i + m := by omega
    rw [this]
  rw [e]
  have := pick_run xs i k
  rw [List.filterMap_map] at this
  have e2 : ((fun x => xs[x]?) ∘ fun x => i + x) = fun m => xs[i + m]? := rfl
  rw [e2] at this
  rw [this]
theorem getItem_tuple_cut {t sl : Addr} {items : Array Value} {vl vu : Value} {lo hi : Option Int} {Q : Value → Shared → Prop} (ht : IsTup s.heap t items) (hs : s.heap.IsSliceOf sl vl vu .none) (pl : IsPart vl lo) (pu : IsPart vu hi)
    (hw : ¬ (sIx items.size 0 lo = 0 ∧ sIx items.size items.size hi = items.size))
    (h : Q (.ref s.heap.objs.size) { s with heap := s.heap.push { cls := .type "tuple", data := .seq ((items.toList.drop (sIx items.size 0 lo)).take (sIx items.size items.size hi - sIx items.size 0 lo)).toArray } })
    (hsz : items.size ≤ sizeLine) : wpAny (model prog w) A (getItem (.ref t) (.ref sl)) Q E s := by
  have htake : sizeOk (.seq ((items.toList.drop (sIx items.size 0 lo)).take (sIx items.size items.size hi - sIx items.size 0 lo)).toArray) := by
    show ((items.toList.drop (sIx items.size 0 lo)).take (sIx items.size items.size hi - sIx items.size 0 lo)).toArray.size ≤ sizeLine
    rw [List.size_toArray, List.length_take, List.length_drop, Array.length_toList]
    omega
  have hj : sIx items.size items.size hi ≤ items.size := sIx_le _ _ (Nat.le_refl _) hi
  obtain ⟨os, hos, hcs, hds⟩ := id hs
  have hTs : s.TypeIs (.ref sl) "slice" := ⟨os, hos, hcs⟩
  unfold getItem
  try with_reducible refine wpAny_holding ?_
  first | refine wpAny_bind (wpAny_pure ?_) | skip
  refine wpAny_bind (wpAny_sequenceKey ht.typeIs (by decide) ?_)
  refine wpAny_bind (wpAny_callSpecial?_slot (name := Str.ofString "__getitem__") ht.typeIs PyProof.Rows.slot_tuple_getitem
    (wpAny_call_entry PyProof.Rows.slot_tuple_getitem ht.typeIs entry_tuple_getitem ?_ (args_tuple_getitem _ _)))
  show wpAny _ _ (Builtin.Tuple.tupleItemsOf (.ref t) >>= _) _ _ s
  refine wpAny_bind (tupleItemsOf_ ht ?_)
  refine wpAny_bind (wpAny_typeOf hTs ?_)
  rw [if_pos (by decide)]
  refine wpAny_bind (sliceApplied_gen hs pl pu ?_)
  have hno : ¬ ((((sIx items.size 0 lo : Nat) : Int) == 0 && (1 : Int) == 1 && (sIx items.size items.size hi - sIx items.size 0 lo) == items.size) = true) := by
    intro q
    rw [Bool.and_eq_true, Bool.and_eq_true] at q
    have q1 : ((sIx items.size 0 lo : Nat) : Int) = 0 := eq_of_beq q.1.1
    have q2 : sIx items.size items.size hi - sIx items.size 0 lo = items.size := eq_of_beq q.2
    exact hw ⟨by omega, by omega⟩
  show wpAny _ _ (if (((sIx items.size 0 lo : Nat) : Int) == 0 && (1 : Int) == 1 && (sIx items.size items.size hi - sIx items.size 0 lo) == items.size) = true then _ else _) _ _ s
  rw [if_neg hno, pick_gen]
  first
    | exact wpAny_bind (m := Builtin.Tuple.tupleExact _) (wpAny_newObj_type (wpAny_pure ⟨_, rfl, wpAny_pure h⟩) htake)
    | exact wpAny_bind (m := Builtin.Tuple.tupleExact _) (wpAny_newObj_type (wpAny_bind (wpAny_pure (wpAny_pure ⟨_, rfl, wpAny_pure h⟩))) htake)
    | exact wpAny_bind (wpAny_bind (m := Builtin.Tuple.tupleExact _) (wpAny_newObj_type (wpAny_pure (wpAny_pure ⟨_, rfl, wpAny_pure h⟩)) htake))
    | exact wpAny_bind (wpAny_bind (m := Builtin.Tuple.tupleExact _) (wpAny_newObj_type (wpAny_pure ⟨_, rfl, wpAny_pure h⟩) htake))
end
end HT
namespace L2
open PySem PySem.Spec PyProof.Rows
abbrev TO := St → Hp → (Option Int → Hp → Prop) → Prop
def PO (X : Cx) (e : Option Expr) (t : TO) : Prop :=
  ∀ (pins : List (Addr × Obj)) (s : Shared) (σ : St) (H : Hp) (Q : Option Int → Hp → Prop), Inv X pins σ H s → t σ H Q →
    wpAny (model X.prog X.w) X.A (evalPart e X.env) (fun u s' => ∃ o H', Inv X pins σ H' s' ∧ IsPart u o ∧ Q o H') X.xe s
def tNoPart : TO := fun _ H Q => Q none H
def tPart (t : TE) : TO := fun σ H Q => t σ H fun x H1 => ∃ i, x = .int i ∧ Q (some i) H1
section
variable {X : Cx} {e : Expr} {te : TE} {lo hi : Option Expr} {tl th : TO} {pos p2 : Pos}
theorem po_none : PO X none tNoPart := by
  intro pins s σ H Q I h
  rw [evalPart_none]
  exact wpAny_pure ⟨none, H, I, .none, h⟩
theorem po_some (h : PE X e te) : PO X (some e) (tPart te) := by
  intro pins s σ H Q I hw
  rw [evalPart_some]
  refine thn (h pins s σ H _ I hw) fun u s1 ⟨x, H1, I1, r1, q1⟩ => ?_
  obtain ⟨i, rfl, q⟩ := q1
  obtain ⟨t, rfl⟩ := r1
  exact ⟨some i, H1, I1, .int i t, q⟩
def SlR (X : Cx) (r : V → Option Int → Option Int → Hp → VK → Prop) : Prop :=
  ∀ (pins : List (Addr × Obj)) (s : Shared) (σ : St) (H : Hp) (x : V) (v vl vu : Value) (lo hi : Option Int) (sl : Addr) (Q : VK), Inv X pins σ H s → RelV x v → s.heap.IsSliceOf sl vl vu .none → IsPart vl lo → IsPart vu hi → r x lo hi H Q →
    ∃ T id, typeLookup (.type T) "__getitem__" = pure (some (.builtin id)) ∧ s.TypeIs v T ∧ wpAny (model X.prog X.w) X.A (getItem v (.ref sl)) (EP X pins σ Q) X.xe s
theorem SlR.or {r r' : V → Option Int → Option Int → Hp → VK → Prop} (h : SlR X r) (h' : SlR X r') : SlR X (fun x lo hi H Q => r x lo hi H Q ∨ r' x lo hi H Q) := by
  intro pins s σ H x v vl vu lo hi sl Q I rx hs pl pu q
  rcases q with q | q
  · exact h pins s σ H x v vl vu lo hi sl Q I rx hs pl pu q
  · exact h' pins s σ H x v vl vu lo hi sl Q I rx hs pl pu q
def tSl (r : V → Option Int → Option Int → Hp → VK → Prop) (te : TE) (tl th : TO) : TE := fun σ H Q => te σ H fun x H1 => tl σ H1 fun l H2 => th σ H2 fun u H3 => r x l u H3 Q
theorem pe_slice {r : V → Option Int → Option Int → Hp → VK → Prop} (hr : SlR X r) (he : PE X e te) (hl : PO X lo tl) (hu : PO X hi th) : PE X (.Subscript e (.Slice lo hi none p2) pos) (tSl r te tl th) := by
  intro pins s σ H Q I h
  refine Subscript_ (thn (he pins s σ H _ I h) fun v s1 ⟨x, H1, I1, r1, q1⟩ => ?_)
  refine wpAny_Slice (thn (hl pins s1 σ H1 _ I1 q1) fun vl s2 ⟨l, H2, I2, pl, q2⟩ => thn (hu pins s2 σ H2 _ I2 q2) fun vu s3 ⟨u, H3, I3, pu, q3⟩ => ?_)
  rw [evalPart_none]
  refine wpAny_pure ?_
  have I4 : Inv X pins σ H3 { s3 with heap := s3.heap.push { cls := .type "slice", data := .fields #[vl, vu, .none] } } := I3.kept (t' := s3.toks) fun b ob q => Heap.get?_push_of_some _ q
  obtain ⟨T, id, hT, ht, hg⟩ := hr pins { s3 with heap := s3.heap.push { cls := .type "slice", data := .fields #[vl, vu, .none] } } σ H3 x v vl vu l u s3.heap.objs.size Q I4 r1 (Heap.IsSliceOf.new ..) pl pu q3
  show wpAny (model X.prog X.w) X.A (subscriptTail e (.Slice lo hi none p2) v (.ref s3.heap.objs.size)) (EP X pins σ Q) X.xe { s3 with heap := s3.heap.push { cls := .type "slice", data := .fields #[vl, vu, .none] } }
  exact tail_any (ops := [.ref s3.heap.objs.size, v]) ht hT hg (by with_unfolding_all rfl)
def cutV (xs : List V) (lo hi : Option Int) : List V := (xs.drop (HT.sIx xs.length 0 lo)).take (HT.sIx xs.length xs.length hi - HT.sIx xs.length 0 lo)
theorem cutV_length (xs : List V) (lo hi : Option Int) : (cutV xs lo hi).length ≤ xs.length := by
  unfold cutV
  rw [List.length_take, List.length_drop]
  omega
def rSlT (K : PySem.W.Frag) : V → Option Int → Option Int → Hp → VK → Prop := fun x lo hi H Q => ∃ a xs, x = .ref a ∧ SqT K H a xs ∧
  ¬ (HT.sIx xs.length 0 lo = 0 ∧ HT.sIx xs.length xs.length hi = xs.length) ∧ ∀ p, H p = none → Q (.ref p) (upd H p (.tup (cutV xs lo hi)))
theorem sl_tup : SlR X (rSlT X.K) := by
  intro pins s σ H x v vl vu lo hi sl Q I rx hs pl pu h
  obtain ⟨a, xs, rfl, hx, hw, q⟩ := h
  cases rx
  obtain ⟨its, r, ht, hz⟩ := I.tuple hx
  have hlen : its.toArray.size = xs.length := by rw [List.size_toArray]; exact r.length.symm
  refine ⟨"tuple", _, PyProof.Rows.slot_tuple_getitem.lookup, ht.typeIs, ?_⟩
  refine HT.getItem_tuple_cut ht hs pl pu (by rw [hlen]; exact hw) ?_ (by rw [hlen]; exact hz)
  rw [hlen]
  refine ⟨.ref s.heap.objs.size, _, I.laid (t' := s.toks) (o := .tup (cutV xs lo hi)) (fun b ob q => Heap.get?_push_of_some _ q) (Nat.le_refl _) ?_, rfl, q _ (I.hok.fresh (Nat.le_refl _))⟩
  exact ⟨⟨Nat.le_trans (cutV_length xs lo hi) hz, _, Heap.get?_push_size _ rfl, rfl⟩, _, (r.drop (HT.sIx xs.length 0 lo)).take (HT.sIx xs.length xs.length hi - HT.sIx xs.length 0 lo), IsTup.new _ _⟩
end
end L2
namespace L2
open PySem PySem.Spec PyProof.Rows
def ixN (n : Nat) (i : Int) : Option Nat := if 0 ≤ i then (if i < n then some i.toNat else none) else if -(n : Int) ≤ i then some (i + n).toNat else none
def atI {α : Type} (xs : List α) (i : Int) : Option α := (ixN xs.length i).bind fun j => xs[j]?
theorem ixN_seq {n : Nat} {i : Int} {j : Nat} (h : ixN n i = some j) : seqIndex? i n = some j ∧ j < n ∧ -(n : Int) ≤ i ∧ i < n := by
  unfold ixN at h
  by_cases h0 : 0 ≤ i
  · rw [if_pos h0] at h
    by_cases h1 : i < n
    · rw [if_pos h1] at h
      have e : i.toNat = j := Option.some.inj h
      exact ⟨by rw [seqIndex_of h0 h1, e], by omega, by omega, h1⟩
    · rw [if_neg h1] at h; cases h
  · rw [if_neg h0] at h
    by_cases h1 : -(n : Int) ≤ i
    · rw [if_pos h1] at h
      have e : (i + n).toNat = j := Option.some.inj h
      exact ⟨by rw [seqIndex_neg (by omega) h1, e], by omega, h1, by omega⟩
    · rw [if_neg h1] at h; cases h
theorem atI_get {α : Type} {xs : List α} {i : Int} {v : α} (h : atI xs i = some v) : ∃ j, seqIndex? i xs.length = some j ∧ xs[j]? = some v ∧ j < xs.length ∧ -(xs.length : Int) ≤ i ∧ i < xs.length := by
  unfold atI at h
  cases e : ixN xs.length i with
  | none => rw [e] at h; cases h
  | some j =>
    rw [e] at h
    obtain ⟨h1, h2, h3, h4⟩ := ixN_seq e
    exact ⟨j, h1, h, h2, h3, h4⟩
theorem atI_nat {α : Type} {xs : List α} {j : Nat} {v : α} (h : xs[j]? = some v) : atI xs (j : Int) = some v := by
  have hj : j < xs.length := (List.getElem?_eq_some_iff.mp h).1
  have e : ixN xs.length (j : Int) = some j := by
    unfold ixN
    rw [if_pos (by omega), if_pos (by omega)]; simp
  unfold atI; rw [e]; exact h
def PlainIx (b : Expr) : Prop := ∀ o i, subscripted b false o i = operate [o, i] (getItem o i)
def IxR (X : Cx) (r : R2) : Prop :=
  ∀ (value slice : Expr) (pins : List (Addr × Obj)) (s : Shared) (σ : St) (H : Hp) (x y : V) (v u : Value) (Q : VK), Inv X pins σ H s → RelV x v → RelV y u → r x y H Q →
    subscripted slice false v u = operate [v, u] (getItem v u) → wpAny (model X.prog X.w) X.A (subscriptTail value slice v u) (EP X pins σ Q) X.xe s
def MtR (X : Cx) (id : String) (r : V → List V → Hp → VK → Prop) : Prop :=
  ∀ (pins : List (Addr × Obj)) (s : Shared) (σ : St) (H : Hp) (x : V) (xs : List V) (v : Value) (us : List Value) (Q : VK), Inv X pins σ H s → RelV x v → Vals xs us → r x xs H Q →
    wpAny (model X.prog X.w) X.A (call (.builtin id) (v :: us)) (EP X pins σ Q) X.xe s
section
variable {X : Cx} {a b : Expr} {ta tb : TE} {pos : Pos}
theorem IxR.or {r r' : R2} (h : IxR X r) (h' : IxR X r') : IxR X (fun x y H Q => r x y H Q ∨ r' x y H Q) := by
  intro value slice pins s σ H x y v u Q I rx ry q hs
  rcases q with q | q
  · exact h value slice pins s σ H x y v u Q I rx ry q hs
  · exact h' value slice pins s σ H x y v u Q I rx ry q hs
theorem MtR.or {id : String} {r r' : V → List V → Hp → VK → Prop} (h : MtR X id r) (h' : MtR X id r') : MtR X id (fun x xs H Q => r x xs H Q ∨ r' x xs H Q) := by
  intro pins s σ H x xs v us Q I rx rs q
  rcases q with q | q
  · exact h pins s σ H x xs v us Q I rx rs q
  · exact h' pins s σ H x xs v us Q I rx rs q
theorem pe_ix {r : R2} (hr : IxR X r) (ha : PE X a ta) (hb : PE X b tb) (hs : PlainIx b) : PE X (.Subscript a b pos) (tOp r ta tb) := by
  intro pins s σ H Q I h
  exact Subscript_ (binT ha hb I h fun v u s2 x y H2 I2 rx ry q => hr a b pins s2 σ H2 x y v u Q I2 rx ry q (hs _ _))
def rIxL (K : PySem.W.Frag) : R2 := fun x y H Q => ∃ p xs i v, x = .ref p ∧ y = .int i ∧ SqL K H p xs ∧ atI xs i = some v ∧ Q v H
def rIxT (K : PySem.W.Frag) : R2 := fun x y H Q => ∃ p xs i v, x = .ref p ∧ y = .int i ∧ SqT K H p xs ∧ atI xs i = some v ∧ Q v H
def rIxS : R2 := fun x y H Q => ∃ z i c, x = .str z ∧ y = .int i ∧ z.length ≤ sizeLine ∧ atI z.cps.toList i = some c ∧ Q (.str ⟨#[c]⟩) H
theorem ix_list : IxR X (rIxL X.K) := by
  intro value slice pins s σ H x y v u Q I rx ry h hs
  obtain ⟨p, xs, i, z, rfl, rfl, hq, he, q⟩ := h
  cases rx
  obtain ⟨t, rfl⟩ := ry
  obtain ⟨its, r, pl, hz⟩ := I.list hq
  obtain ⟨j, h1, h2, h3, h4, h5⟩ := atI_get he
  obtain ⟨w, ew, rw'⟩ := r.get h2
  have hl := r.length
  have hn := line63
  have fin : EP X pins σ Q w s := ⟨z, H, I, rw', q⟩
  by_cases h0 : 0 ≤ i
  · have hj : i.toNat = j := by
      rw [seqIndex_of h0 h5] at h1
      exact Option.some.inj h1
    exact item_listR pl.isList h0 (by omega) (by rw [hj]; simpa using ew) fin hs
  · have hj : (i + (its.toArray.size : Int)).toNat = j := by
      rw [seqIndex_neg (by omega) h4] at h1
      rw [List.size_toArray, ← hl]
      exact Option.some.inj h1
    exact subscriptTail_builtinR (x := w) pl.isList.typeIs slot_list_getitem.lookup
      (wpAny_getItem_list_neg (Q := fun r s' => r = w ∧ EP X pins σ Q r s') pl.isList (by omega) (by rw [List.size_toArray] <;> omega) (by omega) (by rw [hj]; simpa using ew) ⟨rfl, fin⟩) hs
theorem ix_tup : IxR X (rIxT X.K) := by
  intro value slice pins s σ H x y v u Q I rx ry h hs
  obtain ⟨p, xs, i, z, rfl, rfl, hq, he, q⟩ := h
  cases rx
  obtain ⟨t, rfl⟩ := ry
  obtain ⟨its, r, pl, hz⟩ := I.tuple hq
  obtain ⟨j, h1, h2, h3, h4, h5⟩ := atI_get he
  obtain ⟨w, ew, rw'⟩ := r.get h2
  have hl := r.length
  have hn := line63
  have fin : EP X pins σ Q w s := ⟨z, H, I, rw', q⟩
  exact subscriptTail_builtinR (x := w) pl.typeIs slot_tuple_getitem.lookup
    (getItem_tuple (j := j) (Q := fun r s' => r = w ∧ EP X pins σ Q r s') pl (by omega) (by omega) (by rw [List.size_toArray, ← hl]; exact h1) (by simpa using ew) ⟨rfl, fin⟩) hs
theorem ix_str : IxR X rIxS := by
  intro value slice pins s σ H x y v u Q I rx ry h hs
  obtain ⟨z, i, c, rfl, rfl, hz, he, q⟩ := h
  obtain ⟨t, rfl⟩ := rx
  obtain ⟨t', rfl⟩ := ry
  obtain ⟨j, h1, h2, h3, h4, h5⟩ := atI_get he
  have hl : z.cps.toList.length = z.length := by simp [Str.length]
  rw [hl] at h1 h4 h5
  have hn := line63
  exact tail_any (typeIs_str s z t) slot_str_getitem.lookup (getItem_str (c := c) (by
    have e1 : decide (i < -(2 ^ 63 : Int)) = false := decide_eq_false (by omega)
    have e2 : decide (i ≥ 2 ^ 63) = false := decide_eq_false (by omega)
    rw [e1, e2, Bool.or_false]) (by rw [h1]; simpa using h2) ⟨.str ⟨#[c]⟩, H, I.tok _, ⟨_, rfl⟩, q⟩) hs
theorem mapSeq_set (its : List Value) (n j : Nat) (u : Value) : Obj.mapSeq (·.setIfInBounds j u) { cls := .type "list", data := .seq its.toArray n } = { cls := .type "list", data := .seq (its.set j u).toArray n } := by
  simp [Obj.mapSeq]
theorem Inv.lst {pins : List (Addr × Obj)} {σ : St} {H : Hp} {s : Shared} {p : Addr} {xs : List V} (I : Inv X pins σ H s) (h : H p = some (.lst xs)) :
    ∃ (its : List Value) (n : Nat), Vals xs its ∧ s.heap.get? p = some { cls := .type "list", data := .seq its.toArray n } ∧ xs.length ≤ sizeLine := by
  obtain ⟨z, its, n, r, e⟩ := I.hok p _ h
  exact ⟨its, n, r, e, z⟩
theorem Inv.lstUpd {pins : List (Addr × Obj)} {σ : St} {H : Hp} {s : Shared} {p : Addr} {xs ys : List V} {its its' : List Value} {n n' : Nat} {f : Obj → Obj} (I : Inv X pins σ H s) (h : H p = some (.lst xs))
    (ho : s.heap.get? p = some { cls := .type "list", data := .seq its.toArray n }) (hf : f { cls := .type "list", data := .seq its.toArray n } = { cls := .type "list", data := .seq its'.toArray n' }) (r : Vals ys its') (hz : ys.length ≤ sizeLine) (t : Nat) :
    Inv X pins σ (upd H p (.lst ys)) { s with heap := s.heap.update p f, toks := t } := by
  have e : (s.heap.update p f).get? p = some { cls := .type "list", data := .seq its'.toArray n' } := by
    rw [Heap.get?_update_self f ho (by rw [hf] <;> rfl), hf]
  refine I.write (x := p) (e := p) (by rw [h]; trivial) (.inl rfl) (fun b u hb q => (Heap.get?_update_other _ _ (Ne.symm hb)).trans q) ⟨_, e⟩ ?_
  exact ⟨hz, its', n', r, e⟩
def rSetL : V → V → V → Hp → (Hp → Prop) → Prop := fun o i v H Q => ∃ p xs k j, o = .ref p ∧ i = .int k ∧ H p = some (.lst xs) ∧ ixN xs.length k = some j ∧ Q (upd H p (.lst (xs.set j v)))
theorem set_list : PSet X rSetL := by
  intro pins s σ H o i v ov iv u Q I ro ri rv h
  obtain ⟨p, xs, k, j, rfl, rfl, hp, hj, q⟩ := h
  cases ro
  obtain ⟨t, rfl⟩ := ri
  obtain ⟨its, n, r, ho, hz⟩ := I.lst hp
  obtain ⟨h1, h2, h3, h4⟩ := ixN_seq hj
  have hl := r.length
  have hn := line63
  have I' : Inv X pins σ (upd H p (.lst (xs.set j v))) { s with heap := s.heap.update p (Obj.mapSeq (·.setIfInBounds j u)) } :=
    I.lstUpd hp ho (mapSeq_set its n j u) (r.set rv j) (by rw [List.length_set]; exact hz) s.toks
  by_cases h0 : 0 ≤ k
  · have hk : k.toNat = j := by
      rw [seqIndex_of h0 h4] at h1
      exact Option.some.inj h1
    exact PySem.W.ki_setAt ho h0 (by omega) (by rw [List.size_toArray, ← hl]; exact h4) (by rw [hk]; exact ⟨_, I', q⟩)
  · have hk : (k + (its.toArray.size : Int)).toNat = j := by
      rw [seqIndex_neg (by omega) h3] at h1
      rw [List.size_toArray, ← hl]
      exact Option.some.inj h1
    exact PySem.W.ki_setBack ho (by omega) (by rw [List.size_toArray, ← hl]; exact h3) (by omega) (by rw [hk]; exact ⟨_, I', q⟩)
theorem slice_bounds (lo hi : Option Int) (n : Nat) : (sliceBounds lo hi none n).1 = ((HT.sIx n 0 lo : Nat) : Int) ∧ (sliceBounds lo hi none n).2.1 = ((HT.sIx n n hi : Nat) : Int) ∧ (sliceBounds lo hi none n).2.2 = 1 := by
  refine ⟨?_, ?_, rfl⟩
  · cases lo with
    | none => simp [sliceBounds, HT.sIx]
    | some i =>
      simp only [sliceBounds, HT.sIx, Option.getD_none, show (1 : Int) > 0 by decide, if_true]
      by_cases h : i < 0
      · simp only [h, if_true] <;> omega
      · simp only [h, if_false] <;> omega
  · cases hi with
    | none => simp [sliceBounds, HT.sIx]
    | some i =>
      simp only [sliceBounds, HT.sIx, Option.getD_none, show (1 : Int) > 0 by decide, if_true]
      by_cases h : i < 0
      · simp only [h, if_true] <;> omega
      · simp only [h, if_false] <;> omega
theorem slicePick_cut (its : List Value) (lo hi : Option Int) : slicePick its.toArray lo hi none = ((its.drop (HT.sIx its.length 0 lo)).take (HT.sIx its.length its.length hi - HT.sIx its.length 0 lo)).toArray := by
  obtain ⟨h1, h2, h3⟩ := slice_bounds lo hi its.toArray.size
  unfold slicePick
  rw [h1, h2, h3]
  simp only [sliceRange_one, pick_run, List.size_toArray] <;> rfl
def rSlL (K : PySem.W.Frag) : V → Option Int → Option Int → Hp → VK → Prop := fun x lo hi H Q => ∃ a xs, x = .ref a ∧ SqL K H a xs ∧ ∀ p, H p = none → Q (.ref p) (upd H p (.lst (cutV xs lo hi)))
theorem sl_list : SlR X (rSlL X.K) := by
  intro pins s σ H x v vl vu lo hi sl Q I rx hs pl pu h
  obtain ⟨a, xs, rfl, hx, q⟩ := h
  cases rx
  obtain ⟨its, r, ht, hz⟩ := I.list hx
  have hlen := r.length
  refine ⟨"list", _, slot_list_getitem.lookup, ht.isList.typeIs, ?_⟩
  refine wpAny_getItem_list_slice ht.isList hs pl pu .none (by simp) ?_ (by rw [List.size_toArray] <;> omega)
  rw [slicePick_cut, ← hlen]
  refine ⟨.ref s.heap.objs.size, _, I.laid (t' := s.toks) (o := .lst (cutV xs lo hi)) (fun b ob q => Heap.get?_push_of_some _ q) (Nat.le_refl _) ?_, rfl, q _ (I.hok.fresh (Nat.le_refl _))⟩
  exact ⟨Nat.le_trans (cutV_length xs lo hi) hz, _, 0, (r.drop (HT.sIx xs.length 0 lo)).take (HT.sIx xs.length xs.length hi - HT.sIx xs.length 0 lo), Heap.get?_push_size _ rfl⟩
def flatV : V → Bool
  | .non => true
  | .bl _ => true
  | .int _ => true
  | .str _ => true
  | _ => false
def eqV : V → V → Bool
  | .non, .non => true
  | .bl a, .bl b => a == b
  | .bl a, .int b => (if a then 1 else 0) == b
  | .int a, .bl b => a == (if b then 1 else 0)
  | .int a, .int b => a == b
  | .str a, .str b => a == b
  | _, _ => false
theorem eqAt_V {A : Around} {s : Shared} {y x : V} {u v : Value} (ry : RelV y u) (rx : RelV x v) (fy : flatV y = true) (fx : flatV x = true) : SeqAt.EqAt A s u v (eqV y x) := by
  cases y with
  | non =>
    cases ry
    cases x with
    | non => cases rx; exact SeqAt.EqAt.same _
    | bl b => cases rx; exact SeqAt.EqAt.none_bool b
    | int b => obtain ⟨t, rfl⟩ := rx; exact SeqAt.EqAt.none_int b t
    | str b => obtain ⟨t, rfl⟩ := rx; exact SeqAt.EqAt.none_str b t
    | _ => exact absurd (show false = true from fx) Bool.false_ne_true
  | bl a =>
    cases ry
    cases x with
    | non => cases rx; exact SeqAt.EqAt.bool_none a
    | bl b => cases rx; exact SeqAt.EqAt.bool_bool a b
    | int b => obtain ⟨t, rfl⟩ := rx; exact SeqAt.EqAt.bool_int a b t
    | str b => obtain ⟨t, rfl⟩ := rx; exact SeqAt.EqAt.bool_str a b t
    | _ => exact absurd (show false = true from fx) Bool.false_ne_true
  | int a =>
    obtain ⟨t', rfl⟩ := ry
    cases x with
    | non => cases rx; exact SeqAt.EqAt.int_none a t'
    | bl b => cases rx; exact SeqAt.EqAt.int_bool a t' b
    | int b => obtain ⟨t, rfl⟩ := rx; exact SeqAt.EqAt.int_int a t' b t
    | str b => obtain ⟨t, rfl⟩ := rx; exact SeqAt.EqAt.int_str a t' b t
    | _ => exact absurd (show false = true from fx) Bool.false_ne_true
  | str a =>
    obtain ⟨t', rfl⟩ := ry
    cases x with
    | non => cases rx; exact SeqAt.EqAt.str_none a t'
    | bl b => cases rx; exact SeqAt.EqAt.str_bool a t' b
    | int b => obtain ⟨t, rfl⟩ := rx; exact SeqAt.EqAt.str_int a t' b t
    | str b => obtain ⟨t, rfl⟩ := rx; exact SeqAt.EqAt.str_str a t' b t
    | _ => exact absurd (show false = true from fx) Bool.false_ne_true
  | _ => exact absurd (show false = true from fy) Bool.false_ne_true
def eqU (x : V) (u : Value) : Bool := match u with
  | .none => eqV .non x
  | .bool b => eqV (.bl b) x
  | .int i _ => eqV (.int i) x
  | .str z _ => eqV (.str z) x
  | _ => false
theorem eqU_of {x y : V} {u : Value} (r : RelV y u) (f : flatV y = true) : eqU x u = eqV y x := by
  cases y with
  | non => cases r; rfl
  | bl b => cases r; rfl
  | int i => obtain ⟨t, rfl⟩ := r; rfl
  | str z => obtain ⟨t, rfl⟩ := r; rfl
  | _ => exact absurd (show false = true from f) Bool.false_ne_true
theorem mem_eqAt {A : Around} {s : Shared} {x : V} {v : Value} (rx : RelV x v) (fx : flatV x = true) : ∀ {xs : List V} {us : List Value}, Vals xs us → xs.all flatV = true → ∀ u ∈ us, SeqAt.EqAt A s u v (eqU x u)
  | _, _, .nil, _ => fun u hu => by cases hu
  | y :: xs, u :: us, .cons r t, f => fun u' hu => by
    rw [List.all_cons, Bool.and_eq_true] at f
    rcases List.mem_cons.mp hu with rfl | hu
    · rw [eqU_of r f.1]; exact eqAt_V r rx f.1 fx
    · exact mem_eqAt rx fx t f.2 u' hu
theorem call_len_seq : CallR X (.builtin "len") (fun xs H Q => ∃ p ys, xs = [.ref p] ∧ (SqL X.K H p ys ∨ SqT X.K H p ys) ∧ Q (.int ys.length) H) := by
  intro pins s σ H xs us Q I r h
  obtain ⟨p, ys, rfl, hq, q⟩ := h
  obtain ⟨u, rfl, rx⟩ := vals1 r
  cases rx
  have hn := line63
  rcases hq with hq | hq
  · obtain ⟨its, r', pl, hz⟩ := I.list hq
    have hlen := r'.length
    exact Calls.call_len_list pl.isList (by simp only [List.size_toArray] <;> omega) ⟨.int ys.length, H, I.tok _, ⟨s.toks + 1, by rw [List.size_toArray, hlen]⟩, q⟩
  · obtain ⟨its, r', pl, hz⟩ := I.tuple hq
    have hlen := r'.length
    exact len_tuple pl (by simp only [List.size_toArray] <;> omega) ⟨.int ys.length, H, I.tok _, ⟨s.toks + 1, by rw [List.size_toArray, hlen]⟩, q⟩
theorem call_len_str : CallR X (.builtin "len") (fun xs H Q => ∃ z, xs = [.str z] ∧ z.length ≤ sizeLine ∧ Q (.int z.length) H) := by
  intro pins s σ H xs us Q I r h
  obtain ⟨z, rfl, hz, q⟩ := h
  obtain ⟨u, rfl, t, rfl⟩ := vals1 r
  have hn := line63
  exact len_str (by omega) ⟨.int z.length, H, I.tok _, ⟨_, rfl⟩, q⟩
theorem CallR.or {f : Value} {r r' : List V → Hp → VK → Prop} (h : CallR X f r) (h' : CallR X f r') : CallR X f (fun xs H Q => r xs H Q ∨ r' xs H Q) := by
  intro pins s σ H xs us Q I rs q
  rcases q with q | q
  · exact h pins s σ H xs us Q I rs q
  · exact h' pins s σ H xs us Q I rs q
theorem call_tuple_of : CallR X (.type "tuple") (fun xs H Q => ∃ p ys, xs = [.ref p] ∧ ((SqL X.K H p ys ∧ ∀ l, H l = none → Q (.ref l) (upd H l (.tup ys))) ∨ (SqT X.K H p ys ∧ Q (.ref p) H))) := by
  intro pins s σ H xs us Q I r h
  obtain ⟨p, ys, rfl, h⟩ := h
  obtain ⟨u, rfl, rx⟩ := vals1 r
  cases rx
  rcases h with ⟨hq, q⟩ | ⟨hq, q⟩
  · obtain ⟨its, r', pl, hz⟩ := I.list hq
    have hlen := r'.length
    refine call_tuple_list pl.isList (fun h' kp => ?_) (by simp only [List.size_toArray] <;> omega)
    have I1 : Inv X pins σ H { s with heap := h' } := I.kept (t' := s.toks) kp
    have I2 : Inv X pins σ (upd H h'.objs.size (.tup ys)) { s with heap := h'.push { cls := .type "tuple", data := .seq its.toArray } } :=
      I1.laid (t' := s.toks) (fun b o e => Heap.get?_push_of_some _ e) (Nat.le_refl _) (show ObjOk X.prog X.w _ _ _ (.tup ys) from ⟨⟨hz, _, Heap.get?_push_size _ rfl, rfl⟩, its, r', IsTup.new _ _⟩)
    exact ⟨.ref h'.objs.size, _, I2, rfl, q _ (I1.hok.fresh (Nat.le_refl _))⟩
  · obtain ⟨its, r', pl, hz⟩ := I.tuple hq
    exact call_tuple_same pl ⟨.ref p, H, I, rfl, q⟩
def tyV (K : PySem.W.Frag) (T : String) (x : V) (H : Hp) : Prop := match x with
  | .str _ => T = "str"
  | .int _ => T = "int"
  | .ref p => (T = "list" ∧ ∃ xs, SqL K H p xs) ∨ (T = "tuple" ∧ ∃ o, K.lookup p = some o ∧ o.cls = .type "tuple" ∧ o.dict = none) ∨
      (T = "dict" ∧ ((∃ kvs, H p = some (.dK kvs)) ∨ ∃ kvs, H p = some (.dT kvs))) ∨ (T = "set" ∧ ∃ S n, H p = some (.set S n))
  | _ => False
theorem tyV_is {pins : List (Addr × Obj)} {σ : St} {H : Hp} {s : Shared} {T : String} {x : V} {v : Value} (I : Inv X pins σ H s) (r : RelV x v) (ty : tyV X.K T x H) :
    s.TypeIs v T ∧ ∀ a, v = .ref a → ∃ ob, s.heap.get? a = some ob ∧ ob.dict = none := by
  cases x with
  | str z =>
    obtain ⟨t, rfl⟩ := r
    cases (show T = "str" from ty)
    exact ⟨typeIs_str s z t, fun _ e => nomatch e⟩
  | int i =>
    obtain ⟨t, rfl⟩ := r
    cases (show T = "int" from ty)
    exact ⟨typeIs_int s i t, fun _ e => nomatch e⟩
  | ref p =>
    cases r
    rcases ty with ⟨rfl, xs, hq⟩ | ⟨rfl, o, hk, hc, hd⟩ | ⟨rfl, hk⟩ | ⟨rfl, S, n, hk⟩
    · obtain ⟨its, _, pl, _⟩ := I.list hq
      refine ⟨pl.isList.typeIs, fun a e => ?_⟩
      cases e
      obtain ⟨o, n, e, c, hd, _⟩ := pl
      exact ⟨o, e, hd⟩
    · refine ⟨⟨o, I.kIn p o hk, hc⟩, fun a e => ?_⟩
      cases e
      exact ⟨o, I.kIn _ o hk, hd⟩
    · have z : ∃ o, s.heap.get? p = some o ∧ o.ExactDict := by
        rcases hk with ⟨kvs, hk⟩ | ⟨kvs, hk⟩
        · obtain ⟨_, _, _, _, o, _, _, e, ex, _⟩ := I.hok p _ hk
          exact ⟨o, e, ex⟩
        · obtain ⟨_, _, _, _, o, _, _, e, ex, _⟩ := I.hok p _ hk
          exact ⟨o, e, ex⟩
      obtain ⟨o, e, ex⟩ := z
      refine ⟨⟨o, e, ex.1⟩, fun a e2 => ?_⟩
      cases e2
      exact ⟨o, e, ex.2.1⟩
    · obtain ⟨o, _, _, _, e, ex, _⟩ := I.hok p _ hk
      refine ⟨⟨o, e, ex.1⟩, fun a e2 => ?_⟩
      cases e2
      exact ⟨o, e, ex.2.1⟩
  | _ => exact False.elim ty
def tBM0 (K : PySem.W.Frag) (T : String) (r : V → List V → Hp → VK → Prop) (to : TE) : TE := fun σ H Q => to σ H fun x H1 => tyV K T x H1 ∧ r x [] H1 Q
def tBM (K : PySem.W.Frag) (T : String) (r : V → List V → Hp → VK → Prop) (to : TE) (t : TA) : TE := fun σ H Q => to σ H fun x H1 => tyV K T x H1 ∧ t σ H1 fun xs H2 => r x xs H2 Q
variable {o e : Expr} {es : List Expr} {to : TE} {t : TA} {name : Str} {apos cpos : Pos} {T id : String} {r : V → List V → Hp → VK → Prop}
theorem pe_bm0 (pa : PlainAttrs T) (slot : Slot T name id) (hty : typeOf (.builtin id) = pure (.type "method_descriptor")) (hm : MtR X id r) (ho : PE X o to)
    (hbase : attributeBase o name X.env (eval o X.env) = eval o X.env := by rfl) (hline : (apos.endLine == cpos.line) = true := by rfl) : PE X (.Call (.Attribute o name apos) [] [] cpos) (tBM0 X.K T r to) := by
  intro pins s σ H Q I h
  refine wpAny_Call_method0_late hbase hline (thn (ho pins s σ H _ I h) fun v s1 ⟨x, H1, I1, r1, ty, q1⟩ => ?_)
  obtain ⟨h1, h2⟩ := tyV_is I1 r1 ty
  exact ⟨T, id, pa, slot, hty, h1, h2, Calls.callWith_builtin rfl (PySem.evalArgs_none (hm pins s1 σ H1 x [] v [] Q I1 r1 .nil q1))⟩
theorem pe_bm (pa : PlainAttrs T) (slot : Slot T name id) (hty : typeOf (.builtin id) = pure (.type "method_descriptor")) (hm : MtR X id r) (ho : PE X o to) (ha : PA X (e :: es) t)
    (hbase : attributeBase o name X.env (eval o X.env) = eval o X.env := by rfl)
    (hfew : ((backTo cpos (starEach (e :: es) X.env)).all (fun x => !x.1) && (backToKw cpos (keywordEach [] X.env)).all (fun x => x.1.isSome)
      && decide ((e :: es).length + ([] : List Keyword).length + (if ([] : List Keyword).isEmpty then 0 else 1) < 30)) = true := by rfl)
    (hline : (apos.endLine == cpos.line) = true := by rfl) (hs : starEach (e :: es) X.env = (false, eval e X.env) :: starEach es X.env := by rfl) (hplain : (backTo cpos (starEach es X.env)).any (·.1) = false := by rfl) :
    PE X (.Call (.Attribute o name apos) (e :: es) [] cpos) (tBM X.K T r to t) := by
  intro pins s σ H Q I h
  refine wpAny_Call_method_late hbase hfew hline rfl (thn (ho pins s σ H _ I h) fun v s1 ⟨x, H1, I1, r1, ty, q1⟩ => ?_)
  obtain ⟨h1, h2⟩ := tyV_is I1 r1 ty
  refine ⟨T, id, pa, slot, hty, h1, h2, ?_⟩
  have hA := ha cpos pins s1 σ H1 _ I1 q1
  rw [hs] at hA ⊢
  refine Calls.callWith_builtin (by show (false || (backTo cpos (starEach es X.env)).any (·.1)) = false; rw [hplain] <;> rfl) (Calls.evalArgs_plain ?_)
  exact thn hA fun us s2 ⟨vs, H2, I2, r2, q2⟩ => hm pins s2 σ H2 x vs v us Q I2 r1 r2 q2
/- xs.append(e), list.index on a module's tuple .. are MtR facts of 06m -/
end
end L2
namespace L2
open PySem PySem.Spec PyProof.Rows
def MtM (X : Cx) (id : String) (r : V → List V → Hp → VK → Prop) : Prop :=
  ∀ (pins : List (Addr × Obj)) (s : Shared) (σ : St) (H : Hp) (x : V) (xs : List V) (v : Value) (us : List Value) (Q : VK), Inv X pins σ H s → RelV x v → Vals xs us → r x xs H Q →
    wpAny (model X.prog X.w) X.A (call (.builtin id) (v :: us)) (EP X pins σ Q) X.xe s
theorem Vals.one : ∀ {x : V} {us : List Value}, Vals [x] us → ∃ u, us = [u] ∧ RelV x u
  | _, _, .cons r .nil => ⟨_, rfl, r⟩
theorem Vals.two : ∀ {x y : V} {us : List Value}, Vals [x, y] us → ∃ u v, us = [u, v] ∧ RelV x u ∧ RelV y v
  | _, _, _, .cons r (.cons q .nil) => ⟨_, _, rfl, r, q⟩
theorem Vals.zero : ∀ {us : List Value}, Vals [] us → us = []
  | _, .nil => rfl
theorem Vals.dropLast {xs : List V} {us : List Value} (h : Vals xs us) : Vals xs.dropLast us.dropLast := by
  induction h with
  | nil => exact .nil
  | cons r t ih =>
    cases t with
    | nil => exact .nil
    | cons q t' => exact .cons r ih
theorem Vals.eraseIdx : ∀ {xs : List V} {us : List Value} (i : Nat), Vals xs us → Vals (xs.eraseIdx i) (us.eraseIdx i)
  | _, _, _, .nil => .nil
  | _, _, 0, .cons _ t => t
  | _, _, i + 1, .cons r t => .cons r (Vals.eraseIdx i t)
theorem Vals.reverse {xs : List V} {us : List Value} (h : Vals xs us) : Vals xs.reverse us.reverse := by
  induction h with
  | nil => exact .nil
  | cons r t ih => rw [List.reverse_cons, List.reverse_cons]; exact Vals.append ih (.cons r .nil)
theorem erase_last {α : Type} (l : List α) : l.eraseIdx (l.length - 1) = l.dropLast := by
  induction l with
  | nil => rfl
  | cons a r ih =>
    cases r with
    | nil => rfl
    | cons b r =>
      have e : (a :: b :: r).length - 1 = ((b :: r).length - 1) + 1 := by
        have h1 : (a :: b :: r).length = r.length + 2 := rfl
        have h2 : (b :: r).length = r.length + 1 := rfl
        omega
      rw [e, List.eraseIdx_cons_succ, ih]
      all_goals rfl
section
variable {X : Cx} {pins : List (Addr × Obj)} {σ : St} {H : Hp} {s : Shared} {l b : Addr} {xs ys zs : List V}
theorem Inv.lset {its its' : List Value} {n : Nat} {f : Array Value → Array Value} {t' : Nat} (I : Inv X pins σ H s) (hH : H l = some (.lst xs))
    (e : s.heap.get? l = some { cls := .type "list", data := .seq its.toArray n }) (hf : f its.toArray = its'.toArray) (hv : Vals ys its') (hz : ys.length ≤ sizeLine) :
    Inv X pins σ (upd H l (.lst ys)) { s with heap := s.heap.update l (Obj.mapSeq f), toks := t' } := by
  have q := PySem.IsL.update e f
  rw [hf] at q
  refine I.write (x := l) (e := l) (by rw [hH]; exact trivial) (.inl rfl) (fun b' u hb hu => (Heap.get?_update_other s.heap (Obj.mapSeq f) (Ne.symm hb)).trans hu) ⟨_, q⟩ ?_
  exact ⟨hz, its', _, hv, q⟩
theorem Inv.lnew {its : List Value} {t' : Nat} (I : Inv X pins σ H s) (hv : Vals ys its) (hz : ys.length ≤ sizeLine) :
    Inv X pins σ (upd H s.heap.objs.size (.lst ys)) { s with heap := s.heap.push { cls := .type "list", data := .seq its.toArray }, toks := t' } :=
  I.laid (fun _ _ q => Heap.get?_push_of_some _ q) (Nat.le_refl _) ⟨hz, its, 0, hv, Heap.get?_push_size _ rfl⟩
theorem Inv.fresh (I : Inv X pins σ H s) : H s.heap.objs.size = none := I.hok.fresh (Nat.le_refl _)
theorem Inv.lstM (I : Inv X pins σ H s) (hH : H l = some (.lst xs)) : xs.length ≤ sizeLine ∧ ∃ (its : List Value) (n : Nat), Vals xs its ∧ xs.length = its.length ∧ s.heap.get? l = some { cls := .type "list", data := .seq its.toArray n } := by
  obtain ⟨z, its, n, r, e⟩ := I.hok l _ hH
  exact ⟨z, its, n, r, r.length, e⟩
end
section
variable {X : Cx}
def rAppend : V → List V → Hp → VK → Prop := fun x vs H Q => ∃ l xs y, x = .ref l ∧ vs = [y] ∧ H l = some (.lst xs) ∧ xs.length < sizeLine ∧ Q .non (upd H l (.lst (xs ++ [y])))
theorem mt_append : MtM X "list.append" rAppend := by
  intro pins s σ H x vs v us Q I rx rv h
  obtain ⟨l, xs, y, rfl, rfl, hH, hz, q⟩ := h
  cases rx
  obtain ⟨u, rfl, ru⟩ := rv.one
  obtain ⟨z, its, n, r, hl, e⟩ := I.lstM hH
  refine call_meets F.slot_list_append ⟨_, e, rfl⟩ F.entry_list_append (F.args_list_append_2 _ _) (PySem.list_append l its.toArray n u (by rw [List.size_toArray]; omega)) ⟨e, ?_⟩
  refine ⟨.non, _, I.lset (its' := its ++ [u]) hH e (by simp) (r.append (.cons ru .nil)) ?_, rfl, q⟩
  rw [List.length_append, List.length_singleton]
  omega
def rPop : V → List V → Hp → VK → Prop := fun x vs H Q => ∃ l xs y, x = .ref l ∧ vs = [] ∧ H l = some (.lst xs) ∧ xs[xs.length - 1]? = some y ∧ Q y (upd H l (.lst xs.dropLast))
theorem mt_pop : MtM X "list.pop" rPop := by
  intro pins s σ H x vs v us Q I rx rv h
  obtain ⟨l, xs, y, rfl, rfl, hH, hy, q⟩ := h
  cases rx
  have hus := rv.zero
  subst hus
  obtain ⟨z, its, n, r, hl, e⟩ := I.lstM hH
  obtain ⟨u, hu, ru⟩ := r.get hy
  have hy' : its.toArray[its.toArray.size - 1]? = some u := by
    show its.toArray[its.length - 1]? = some u
    rw [← Array.getElem?_toList, ← hl]
    exact hu
  refine call_meets F.slot_list_pop ⟨_, e, rfl⟩ F.entry_list_pop (F.args_list_pop_1 _) (MeetsSeq.list_pop_last l its.toArray n u hy' (by rw [List.size_toArray]; omega)) ⟨e, ?_⟩
  refine ⟨y, _, I.lset (its' := its.dropLast) hH e ?_ r.dropLast ?_, ru, q⟩
  · show its.toArray.eraseIdxIfInBounds (its.toArray.size - 1) = its.dropLast.toArray
    rw [List.size_toArray, List.eraseIdxIfInBounds_toArray, erase_last]
  · rw [List.length_dropLast]
    omega
def rCat : R2 := fun x y H Q => ∃ l b xs zs, x = .ref l ∧ y = .ref b ∧ H l = some (.lst xs) ∧ H b = some (.lst zs) ∧ xs.length + zs.length ≤ sizeLine ∧ ∀ p, H p = none → Q (.ref p) (upd H p (.lst (xs ++ zs)))
theorem op_cat : OpR X (binaryOp .Add) rCat := by
  intro pins s σ H x y v u Q I rx ry h
  obtain ⟨l, b, xs, zs, rfl, rfl, hH, hB, hz, q⟩ := h
  cases rx
  cases ry
  obtain ⟨z, its, n, r, hl, e⟩ := I.lstM hH
  obtain ⟨z2, its2, n2, r2, hl2, e2⟩ := I.lstM hB
  refine PySem.P.add_list e e2 ?_ (by rw [List.size_toArray, List.size_toArray]; omega)
  have ea : its.toArray ++ its2.toArray = (its ++ its2).toArray := by simp
  rw [ea]
  exact ⟨.ref _, _, I.lnew (t' := s.toks) (r.append r2) (by rw [List.length_append]; omega), rfl, q _ I.fresh⟩
end
section
variable {prog : Program} {w : World} {A : Around} {E : Value → Shared → Prop} {s : Shared}
end
section
variable {X : Cx}
end
end L2
namespace Att
open PySem PySem.W PySem.Calls PyProof.Rows
theorem ints_of_wellAll {P : Params} {h : Heap} : ∀ (ns : List Int) (vs : List Value), WellAll P h vs (ns.map WData.int) → IntsAre vs ns := by
  intro ns
  induction ns with
  | nil =>
    intro vs w
    rw [List.map_nil] at w
    cases w
    exact .nil
  | cons n ns ih =>
    intro vs w
    rw [List.map_cons] at w
    cases w with
    | cons a b =>
      cases a
      exact .cons _ _ (ih _ b)
theorem script_of {l : OpenLaw} {n : Nat} (hn : l.most = some n) {P : Params} {h : Heap} {args : List WData} {vals : List Value}
    (hpre : l.row.toRowW.claim.pre args = true) (hwl : WellAll P h vals args) :
    ∃ a vs ns, vals = [Value.ref a] ∧ args = [WData.list (ns.map WData.int)] ∧ h.get? a = some { cls := .type "list", data := .seq vs.toArray } ∧ IntsAre vs ns ∧ ns.length ≤ n := by
  have hsh : WShape.hasAll [] args [.list .int] = true := (pre_splitW hpre).1
  have hc : l.pre.holds [] { args := args } = true := (pre_splitW hpre).2
  obtain ⟨d, r, rfl, h1, h2⟩ := hasAllW_cons hsh
  obtain rfl := hasAllW_nil h2
  obtain ⟨xs, rfl, h3⟩ := hasW_list h1
  obtain ⟨ns, rfl⟩ := items_int h3
  have hlen : ns.length ≤ n := by
    unfold OpenLaw.pre at hc
    have h4 : (WTm.not (.lt (.lit (.int (n : Int))) (.len (.arg 0)))).holds [] { args := [.list (ns.map .int)] } = true := by
      have h4 := (holds_andW hc).1
      rw [hn] at h4
      exact h4
    have h5 := condW_of h4 (w_not (w_lt w_lit (w_len_list (w_arg rfl))))
    rw [List.length_map] at h5
    refine Nat.le_of_not_lt fun q => ?_
    have q' : (n : Int) < ((ns.length : Nat) : Int) := by omega
    first
      | (rw [decide_eq_true q'] at h5; exact absurd h5 (by decide))
      | (simp at h5; omega)
  cases hwl with
  | cons w1 w2 =>
    cases w2
    cases w1 with
    | list ho hall => exact ⟨_, _, ns, rfl, rfl, ho, ints_of_wellAll ns _ hall, hlen⟩
theorem post_true (l : OpenLaw) (args : List WData) : l.row.toRowW.claim.post args (.bool true) args = true :=
  postW_of (r := l.row.toRowW) (X := (true == true))
    (show WShape.has [] (.bool true) .bool = true by first | rfl | decide | simp [WShape.has, WShape.arms, WShape.armsAll])
    (show (WTm.eq .res (.lit (.bool true))).value [] { args := args, res := some (.bool true), after := args } = some (.bool (true == true)) from w_eq_bool (w_res rfl) w_lit) rfl
theorem attach_call {l : OpenLaw} {n : Nat} {q : Program} {loose : List Str} {XP : (Str → Option Value) → Heap → Prop} {YP : World → Heap → Prop} {d : DefRec}
    (hn : l.most = some n) (hdf : d.params.defaults = [])
    (call : ∀ (w : World) (s₀ s₁ : Shared) (mg mb : Str → Option Value) (fa : Addr) (o : Obj) (pm cd doc : Value) (a : Addr) (vs : List Value) (ns : List Int),
      Ground q loose [] XP w s₀ mg mb s₁.heap → YP w s₁.heap →
      s₁.heap.get? fa = some o → o.data = .func (docDef d.name d.params d.body d.scope pm cd doc) → s₁.heap.CodeRec cd d.name → mg d.name = some (.ref fa) →
      s₁.heap.get? a = some { cls := .type "list", data := .seq vs.toArray } → IntsAre vs ns → ns.length ≤ n → s₁.gens = #[] →
      codeAny (model l.prog w) callerA (.call (.ref fa) ⟨[.ref a], []⟩) (fun r s' => r = .ok (.ret (.bool true)) ∧ OldK s₁.heap s'.heap ∧ s'.os = s₁.os ∧ AllBare s'.gens) s₁) :
    WalkO q loose XP YP l.row.toRowW d [] (fun f vs => PySem.call f vs) := by
  intro w s₀ s₁ mg mb G Y fa o pm cd doc dV kV ho hd hcd hD hmg hg args vals as hpre hlay hrd hwl hlo
  obtain rfl : dV = .none := Dflts.none hD hdf
  obtain rfl : kV = .none := Dflts.noKw hD
  obtain ⟨a, vs, ns, rfl, rfl, hobj, hints, hlen⟩ := script_of hn hpre hwl
  refine enter_call (codeAny_mono (call w s₀ s₁ mg mb fa o pm cd doc a vs ns G Y ho (fd_plain hd) hcd hmg hobj hints hlen hg) fun r s' hq => ?_)
  obtain ⟨rfl, h2, h3, h4⟩ := hq
  exact ⟨.inl ⟨.bool true, .bool true, [], rfl, fun _ => rfl, .bool true, post_true l _, fun _ => ⟨List.Pairwise.nil, fun _ hm => (nomatch hm)⟩⟩, h2, h3, h4⟩
section
variable {prog : Program} {w : World} {A : Around} {E : Value → Shared → Prop} {s : Shared} {K : Frag}
def ledger (h : Heap) (L d : Addr) : List (Addr × Obj) := (List.range h.objs.size).filterMap fun a => if a = L ∨ a = d then none else (h.get? a).map fun o => (a, o)
end
end Att
namespace L2
open PySem PySem.Spec PyProof.Rows
theorem vals_ints : ∀ {vs : List Value} {ns : List Int}, IntsAre vs ns → Vals (ns.map V.int) vs
  | _, _, .nil => .nil
  | _, _, .cons n t h => .cons ⟨t, rfl⟩ (vals_ints h)
def Only (H : Hp) : Prop := ∀ b, H b = none ∨ ∃ o xs, H b = some (.frz o (.lst xs))
theorem law_call {P : Program} {w : World} {K : PySem.W.Frag} {mg mb : Str → Option Value} {CX : CXT} {k : Nat} {fa a : Addr} {fd : FuncData} {x : Str} {sp : Sp} {s₁ : Shared} {vs : List Value} {ns : List Int}
    (KX : K.In s₁.heap) (hns : s₁.heap.Ns mainGlobals mg) (hb : s₁.heap.Ns builtinsNs mb) (hbb : ∀ x : Str, x ≠ "__name__" → mb x = bootBuiltins x) (hlim : s₁.heap.NoLimit) (hg : s₁.gens = #[])
    (ha : s₁.heap.get? a = some { cls := .type "list", data := .seq vs.toArray }) (hi : IntsAre vs ns) (hl : ns.length ≤ sizeLine) (hr : Room k callerA)
    (F : ∀ base : Heap, K.In base → base.Ns mainGlobals mg → FnOk P w K mg base CX k fa fd [x] sp) (hbind : ∀ (s : Shared) (u : Value), BindsTo s fd ⟨[u], []⟩ [(x, u)])
    (hsp : ∀ H : Hp, Only H → SqL K H a (ns.map V.int) → sp [.ref a] H (fun v _ => v = .bl true) fun _ _ _ => False)
    (hCX : ∀ H e s', CX [] H s₁ (fun _ _ _ => False) e s' → False) :
    codeAny (model P w) callerA (.call (.ref fa) ⟨[.ref a], []⟩) (fun r s' => r = .ok (.ret (.bool true)) ∧ OldK s₁.heap s'.heap ∧ s'.os = s₁.os ∧ AllBare s'.gens) s₁ := by
  have rv := vals_ints hi
  have lenV := hi.length
  have core : ∀ H : Hp, Only H → SqL K H a (ns.map V.int) → HOk P w H s₁.heap → (∀ b, H b ≠ none → b = a) → (H a ≠ none → K.lookup a = none) →
      codeAny (model P w) callerA (.call (.ref fa) ⟨[.ref a], []⟩) (fun r s' => r = .ok (.ret (.bool true)) ∧ OldK s₁.heap s'.heap ∧ s'.os = s₁.os ∧ AllBare s'.gens) s₁ := by
    intro H hO hS hok hA hK
    have base_of : ∀ {b : Addr} {o : Obj}, s₁.heap.get? b = some o → H b = none → (hidT s₁.heap H).get? b = some o := fun e n => hidT_get e n
    have noA : ∀ {b : Addr} {o : Obj} {es : Array DictEntry} {ep : Nat}, s₁.heap.get? b = some o → o.data = .dict es ep → H b = none := fun {b o es ep} e d => by
      cases q : H b with
      | none => rfl
      | some u =>
        have e' : b = a := hA b (by rw [q]; simp)
        subst e'
        rw [ha] at e; cases e
        have d' : Data.seq vs.toArray _ = Data.dict es ep := d
        cases d'
    have nsK : ∀ {b : Addr} {m : Str → Option Value}, s₁.heap.Ns b m → (hidT s₁.heap H).Ns b m := fun {b m} ⟨o, es, ep, e, d, r⟩ => ⟨o, es, ep, base_of e (noA e d), d, r⟩
    have hKb : K.In (hidT s₁.heap H) := fun b o e => base_of (KX b o e) (by
      cases q : H b with
      | none => rfl
      | some u =>
        have e' : b = a := hA b (by rw [q]; simp)
        subst e'
        rw [hK (by rw [q]; simp)] at e; cases e)
    have hM : Mod K mg (hidT s₁.heap H) := ⟨hKb, nsK hns, ⟨mb, nsK hb, hbb⟩, let ⟨mc, h1, h2⟩ := hlim; ⟨mc, nsK h1, h2⟩⟩
    have e0 : Env0 P w K mg (hidT s₁.heap H) callerA [] s₁ H := ⟨rfl, hM, fun b o e => of_hidT e, Nat.le_of_eq (hidT_size _ _), trivial, fun b hb => absurd (show b ∈ ([] : List Addr) from hb) (by simp), hok, .of_eq hg⟩
    refine codeAny_mono ((F _ hKb (nsK hns)).run callerA [] s₁ H ⟨[.ref a], []⟩ [.ref a] [.ref a] _ _ hr e0 (hbind s₁ (.ref a)) (.cons rfl .nil) (hsp H hO hS)) fun r s' h => ?_
    cases r with
    | error e => exact (hCX H e s' h).elim
    | ok fl =>
      cases fl with
      | next => exact False.elim h
      | brk => exact False.elim h
      | cont => exact False.elim h
      | ret u =>
        obtain ⟨v, H', os, bare, un, hok', r', q⟩ := h
        have q' : v = .bl true := q
        subst q'
        obtain rfl : u = Value.bool true := r'
        refine ⟨rfl, OldK.of_keep fun b o e => ?_, os, bare⟩
        cases q : H b with
        | none => exact un.keep b o e q (by intro z; exact absurd (show b ∈ ([] : List Addr) from z) (by simp)) (by simp)
        | some u =>
          rcases hO b with z | ⟨ob, xs, z⟩
          · rw [q] at z; cases z
          · have z2 := un.frzs b ob _ z
            obtain ⟨e1, _⟩ := hok b _ z
            obtain ⟨e2, _⟩ := hok' b _ z2
            rw [e] at e1; cases e1
            exact e2
  cases hk : K.lookup a with
  | some o =>
    have e := KX a o hk
    rw [ha] at e
    cases e
    refine core (fun _ => none) (fun _ => .inl rfl) (.inr ⟨_, vs.toArray, _, hk, rfl, rfl, rfl, by rw [List.size_toArray, lenV]; exact hl, by simpa using rv⟩) (fun b u z => by have z' : (none : Option HO) = some u := z; cases z') (fun b z => absurd rfl z) fun z => absurd rfl z
  | none =>
    refine core (fun b => if b = a then some (.frz { cls := .type "list", data := .seq vs.toArray } (.lst (ns.map V.int))) else none) (fun b => ?_) (.inl (.inr ⟨{ cls := .type "list", data := .seq vs.toArray }, if_pos rfl⟩)) (fun b u z => ?_) (fun b z => ?_) fun _ => hk
    · by_cases hb : b = a
      · exact .inr ⟨_, _, if_pos hb⟩
      · exact .inl (if_neg hb)
    · by_cases hb : b = a
      · have z' := (if_pos hb).symm.trans z
        cases z'
        subst hb
        exact ⟨ha, by rw [List.length_map]; exact hl, vs, _, rv, ha⟩
      · have z' := (if_neg hb).symm.trans z
        cases z'
    · by_cases hb : b = a
      · exact hb
      · exact absurd (if_neg hb) z
end L2
namespace L2
open PySem PySem.Spec PyProof.Rows
abbrev KOf {K : PySem.W.Frag} {h : Heap} (_ : K.In h) : PySem.W.Frag := K
theorem walk_of {l : PySem.W.OpenLaw} {n k : Nat} {q : Program} {loose : List Str} {XP : (Str → Option Value) → Heap → Prop} {YP : World → Heap → Prop} {d : DefRec} {K : Params → PySem.W.Frag} {CX : World → CXT} {sp : World → Sp} {x : Str}
    (hn : l.most = some n) (hn2 : n ≤ sizeLine) (hdf : d.params.defaults = []) (hr : Room k callerA)
    (hY : ∀ (w : World) (h : Heap), YP w h → (K w.params).In h)
    (F : ∀ (w : World) (mg : Str → Option Value) (fa : Addr) (h : Heap), (K w.params).In h → h.Ns mainGlobals mg → mg d.name = some (.ref fa) →
      ∃ fd : FuncData, (∀ (s : Shared) (u : Value), BindsTo s fd ⟨[u], []⟩ [(x, u)]) ∧
        ∀ base : Heap, (K w.params).In base → base.Ns mainGlobals mg → FnOk l.prog w (K w.params) mg base (CX w) k fa fd [x] (sp w))
    (hsp : ∀ (w : World) (H : Hp) (a : Addr) (ns : List Int), ns.length ≤ n → Only H → SqL (K w.params) H a (ns.map V.int) → sp w [.ref a] H (fun v _ => v = .bl true) fun _ _ _ => False)
    (hCX : ∀ (w : World) (H : Hp) (s : Shared) (e : Value) (s' : Shared), CX w [] H s (fun _ _ _ => False) e s' → False) :
    PySem.W.WalkO q loose XP YP l.row.toRowW d [] (fun f vs => PySem.call f vs) := by
  refine Att.attach_call hn hdf fun w s₀ s₁ mg mb fa o pm cd doc a vs ns G Y ho hd hcd hmg hobj hints hlen hg => ?_
  have KX := hY w _ Y
  obtain ⟨fd, hb, hF⟩ := F w mg fa _ KX G.T.g hmg
  exact law_call KX G.T.g G.T.b G.T.builtins G.T.nolimit hg hobj hints (Nat.le_trans hlen hn2) hr hF hb (fun H hO hS => hsp w H a ns hlen hO hS) fun H e s' => hCX w H s₁ e s'
theorem walk_ofK {l : PySem.W.OpenLaw} {n k : Nat} {q : Program} {loose : List Str} {XP : (Str → Option Value) → Heap → Prop} {YP : World → Heap → Prop} {d : DefRec} {K : Params → PySem.W.Frag} {CX : CXT} {sp : PySem.W.Frag → Sp} {x : Str}
    (hn : l.most = some n) (hn2 : n ≤ sizeLine) (hdf : d.params.defaults = []) (hr : Room k callerA)
    (hY : ∀ (w : World) (h : Heap), YP w h → (K w.params).In h)
    (F : ∀ (w : World) (mg : Str → Option Value) (fa : Addr) (h : Heap), (K w.params).In h → h.Ns mainGlobals mg → mg d.name = some (.ref fa) →
      ∃ fd : FuncData, (∀ (s : Shared) (u : Value), BindsTo s fd ⟨[u], []⟩ [(x, u)]) ∧
        ∀ base : Heap, (K w.params).In base → base.Ns mainGlobals mg → FnOk l.prog w (K w.params) mg base CX k fa fd [x] (sp (K w.params)))
    (hsp : ∀ (K : PySem.W.Frag) (H : Hp) (a : Addr) (ns : List Int), ns.length ≤ n → Only H → SqL K H a (ns.map V.int) → sp K [.ref a] H (fun v _ => v = .bl true) fun _ _ _ => False)
    (hCX : ∀ (H : Hp) (s : Shared) (e : Value) (s' : Shared), CX [] H s (fun _ _ _ => False) e s' → False) :
    PySem.W.WalkO q loose XP YP l.row.toRowW d [] (fun f vs => PySem.call f vs) :=
  walk_of (K := K) (CX := fun _ => CX) (sp := fun w => sp (K w.params)) hn hn2 hdf hr hY F (fun w H a ns h1 h2 h3 => hsp (K w.params) H a ns h1 h2 h3) fun _ H s e s' => hCX H s e s'
end L2
namespace L2
open PySem PySem.Spec PyProof.Rows
def defArgs (s : Stmt) : Arguments := match s with
  | .FunctionDef _ a _ _ _ _ _ _ _ _ => a
  | _ => { posonlyargs := [], args := [], vararg := none, kwonlyargs := [], kw_defaults := [], kwarg := none, defaults := [] }
def defBody (s : Stmt) : List Stmt := match s with
  | .FunctionDef _ _ b _ _ _ _ _ _ _ => b
  | _ => []
def defScope (s : Stmt) : Scope := match s with
  | .FunctionDef _ _ _ _ _ _ sc _ _ _ => sc
  | _ => { kind := .function, names := [], isGenerator := false, isCoroutine := false }
abbrev CX0 : CXT := fun _ _ _ _ _ _ => False
abbrev E0 : XK := fun _ _ _ => False
theorem pass0 {X : Cx} : Passes CX0 X E0 := fun _ _ _ _ _ _ _ h => h.elim
structure Fun (K : PySem.W.Frag) (x qual : Str) (st : Stmt) (f : Addr) (fd : FuncData) : Prop where
  ex : ∃ (oc : Value) (od : Option Addr) (kV doc pm : Value) (an : Option Addr) (cdv ct : Value) (osl : Array (Option Value)),
    fd = PySem.W.fnOf x qual (defArgs st) (defBody st) (defScope st) .none kV doc pm an cdv ct ∧ K.lookup f = some ⟨oc, od, .func fd, osl⟩ ∧ PySem.W.codeIn K cdv qual = true
  kp : PySem.W.keepIn K (.ref f) = true
section
variable {P : Program} {w : World} {K : PySem.W.Frag} {mg : Str → Option Value} {base : Heap}
theorem Fun.ok {x qual : Str} {st : Stmt} {f : Addr} {fd : FuncData} {N ps : List Str} {k : Nat} {sp : Sp} (F : Fun K x qual st f fd) (S : FnScope N ps (defScope st)) (len : ∀ vs H Q E, sp vs H Q E → vs.length = ps.length)
    (hbody : ∀ (cdv : Value) (A : Around) (outer : List Env) (s : Shared) (H : Hp) (vs : List V) (Q : VK) (E : XK), Room k (A.deeper (envOfC qual (defScope st) s.heap.objs.size f cdv)) → sp vs H Q E →
      ∃ t, PSs (cxOf CX0 P w K mg base N qual (defScope st) f cdv A outer s H E).nox (defBody st) t ∧ t { nx := fun _ H' => Q .non H', rt := Q } (start N vs) H) : FnOk P w K mg base CX0 (k + 1) f fd ps sp := by
  obtain ⟨oc, od, kV, doc, pm, an, cdv, ct, osl, rfl, lk, hcd⟩ := F.ex
  refine fn_of lk hcd S len fun A outer s H vs Q E hr hsp => ?_
  obtain ⟨t, h, q⟩ := hbody cdv A outer s H vs Q E hr hsp
  exact ⟨t, h.nox, q⟩
theorem Fun.binds {x qual : Str} {st : Stmt} {f : Addr} {fd : FuncData} {ps : List Str} (F : Fun K x qual st f fd)
    (h : ∀ (kV doc pm : Value) (an : Option Addr) (cdv ct : Value) (us : List Value), us.length = ps.length → bindArgs (PySem.W.fnOf x qual (defArgs st) (defBody st) (defScope st) .none kV doc pm an cdv ct) ⟨us, []⟩ = pure (ps.zip us)) : Binds K fd ps [] := by
  obtain ⟨oc, od, kV, doc, pm, an, cdv, ct, osl, rfl, lk, hcd⟩ := F.ex
  exact .all (h kV doc pm an cdv ct)
theorem fun_mk {x qual : Str} {st : Stmt} {f : Addr} {oc : Value} {od an : Option Addr} {osl : Array (Option Value)} {kV doc pm cdv ct : Value} (l : K.lookup f = some ⟨oc, od, .func (PySem.W.fnOf x qual (defArgs st) (defBody st) (defScope st) .none kV doc pm an cdv ct), osl⟩)
    (c : PySem.W.codeIn K cdv qual = true) (k : PySem.W.keepIn K (.ref f) = true) : Fun K x qual st f (PySem.W.fnOf x qual (defArgs st) (defBody st) (defScope st) .none kV doc pm an cdv ct) := ⟨⟨oc, od, kV, doc, pm, an, cdv, ct, osl, rfl, l, c⟩, k⟩
end
theorem small1000 {n : Nat} (h : n ≤ 1000) : n < sizeLine := Nat.lt_of_le_of_lt h (by decide)
section
variable {X : Cx}
theorem pv (i : Nat) {x : Str} {pos : Pos} (hN : X.N[i]? = some x := by rfl) (hv : Vis X.env.scope x := by first | exact Or.inl rfl | exact Or.inr (Or.inl rfl) | exact Or.inr (Or.inr rfl)) (hd : (x == ("__debug__" : Str)) = false := by decide)
    (hcd : (x == ("__classdict__" : Str)) = false := by decide) : PE X (.Name x pos) (tVar i) := pe_var hN hv hd hcd
end
theorem iteF {A B : Prop} (h : B) : if false = true then A else B := by
  rw [if_neg Bool.false_ne_true]
  exact h
theorem iteT {A B : Prop} (h : A) : if true = true then A else B := by
  rw [if_pos rfl]
  exact h
theorem ite2 {c A B : Prop} [Decidable c] (h1 : c → A) (h2 : ¬ c → B) : if c then A else B := by
  by_cases h : c
  · rw [if_pos h]
    exact h1 h
  · rw [if_neg h]
    exact h2 h
theorem iteNS {c A B : Prop} [Decidable c] (hc : c) (h : B) : if (!decide c) = true then A else B := by
  rw [decide_eq_true hc]
  exact iteF h
def Same (H H' : Hp) : Prop := ∀ b o, H b = some o → H' b = some o
theorem Same.refl (H : Hp) : Same H H := fun _ _ h => h
theorem Same.trans {H H1 H2 : Hp} (a : Same H H1) (b : Same H1 H2) : Same H H2 := fun c o h => b c o (a c o h)
theorem Same.free {H H' : Hp} (e : Same H H') {l : Addr} (h : H' l = Option.none) : H l = Option.none := by
  cases q : H l with
  | none => rfl
  | some o =>
    rw [e l o q] at h
    cases h
theorem Same.seq {K : PySem.W.Frag} {H H' : Hp} {a : Addr} {xs : List V} (e : Same H H') (h : SqL K H a xs) : SqL K H' a xs := by
  rcases h with (h | ⟨o, h⟩) | h
  · exact .inl (.inl (e _ _ h))
  · exact .inl (.inr ⟨o, e _ _ h⟩)
  · exact .inr h
end L2
set_option maxHeartbeats 16000000
namespace L2
open PySem PySem.Spec PyProof.Rows
theorem lookup_mem {α : Type} : ∀ {cl : List (Str × α)} {x : Str} {c : α}, cl.lookup x = some c → (x, c) ∈ cl
  | [], _, _, h => by simp at h
  | (y, d) :: r, x, c, h => by
    rw [List.lookup_cons] at h
    cases e : x == y with
    | true =>
      rw [e] at h
      have e' : x = y := eq_of_beq e
      cases h
      rw [e']; exact List.mem_cons_self
    | false =>
      rw [e] at h
      exact List.mem_cons_of_mem _ (lookup_mem h)
theorem lookup_of_mem {α : Type} : ∀ {cl : List (Str × α)} {x : Str} {c : α}, (x, c) ∈ cl → ∃ c', cl.lookup x = some c'
  | [], _, _, h => nomatch h
  | (y, d) :: r, x, c, h => by
    rw [List.lookup_cons]
    cases e : x == y with
    | true => exact ⟨d, rfl⟩
    | false =>
      rcases List.mem_cons.mp h with h | h
      · cases h
        simp at e
      · exact lookup_of_mem h
theorem closure_go {env : Env} {f : (Str × NameKind) → List (Str × Addr) → Sem (ForInStep (List (Str × Addr)))}
    (h1 : ∀ x k cs, k ≠ NameKind.free → f (x, k) cs = pure (.yield cs)) (h2 : ∀ x cs c, env.cells.lookup x = some c → f (x, NameKind.free) cs = pure (.yield ((x, c) :: cs))) :
    ∀ (names : List (Str × NameKind)) (acc : List (Str × Addr)), (∀ x, (x, NameKind.free) ∈ names → ∃ c, env.cells.lookup x = some c) →
      ∃ cl, forIn names acc f = pure cl ∧ (∀ p ∈ cl, p ∈ acc ∨ env.cells.lookup p.1 = some p.2) ∧ (∀ p ∈ acc, p ∈ cl) ∧ ∀ x, (x, NameKind.free) ∈ names → ∃ c, (x, c) ∈ cl
  | [], acc, _ => ⟨acc, rfl, fun _ h => .inl h, fun _ h => h, fun _ h => nomatch h⟩
  | (x, k) :: r, acc, h => by
    by_cases hk : k = NameKind.free
    · subst hk
      obtain ⟨c, hc⟩ := h x List.mem_cons_self
      obtain ⟨cl, e, a, b, d⟩ := closure_go h1 h2 r ((x, c) :: acc) fun y hy => h y (List.mem_cons_of_mem _ hy)
      refine ⟨cl, ?_, fun p hp => ?_, fun p hp => b p (List.mem_cons_of_mem _ hp), fun y hy => ?_⟩
      · rw [List.forIn_cons, h2 x acc c hc, pure_bind]; exact e
      · rcases a p hp with q | q
        · rcases List.mem_cons.mp q with q | q
          · subst q; exact .inr hc
          · exact .inl q
        · exact .inr q
      · rcases List.mem_cons.mp hy with q | q
        · cases q; exact ⟨c, b _ List.mem_cons_self⟩
        · exact d y q
    · obtain ⟨cl, e, a, b, d⟩ := closure_go h1 h2 r acc fun y hy => h y (List.mem_cons_of_mem _ hy)
      refine ⟨cl, ?_, a, b, fun y hy => ?_⟩
      · rw [List.forIn_cons, h1 x k acc hk, pure_bind]; exact e
      · rcases List.mem_cons.mp hy with q | q
        · cases q; exact absurd rfl hk
        · exact d y q
theorem closure_ok {scope : Scope} {env : Env} (h : ∀ x, (x, NameKind.free) ∈ scope.names → ∃ c, env.cells.lookup x = some c) :
    ∃ cl, closureFor scope env = pure cl ∧ (∀ x c, cl.lookup x = some c → env.cells.lookup x = some c) ∧ ∀ x, (x, NameKind.free) ∈ scope.names → ∃ c, cl.lookup x = some c := by
  have go := closure_go (env := env) (f := fun x cs => match x with | (name, kind) => if (kind == NameKind.free) = true then do let a ← cellOf env name; pure (.yield ((name, a) :: cs)) else pure (.yield cs))
    (fun x k cs hk => by
      have : (k == NameKind.free) = false := by simpa using hk
      simp only [this, Bool.false_eq_true, if_false])
    (fun x cs c hc => by
      simp only [beq_self_eq_true, if_true]
      unfold cellOf
      rw [hc, pure_bind])
    scope.names [] h
  obtain ⟨cl, e, a, _, d⟩ := go
  refine ⟨cl, ?_, fun x c hx => ?_, fun x hx => ?_⟩
  · unfold closureFor
    simp only [bind_pure]
    exact e
  · rcases a _ (lookup_mem hx) with q | q
    · exact nomatch q
    · exact q
  · obtain ⟨c, hc⟩ := d x hx
    exact lookup_of_mem hc
theorem relabel_lookup {env : Env} {x : Str} {k : NameKind} : ∀ {names : List (Str × NameKind)},
    (names.map fun (n, k) => if (k == NameKind.free && env.scope.kind == .function && env.kindOf n == some .cell) then (n, NameKind.cell) else (n, k)).lookup x = some k →
      names.lookup x = some k ∨ (k = .cell ∧ names.lookup x = some .free)
  | [], h => by simp at h
  | (n, j) :: r, h => by
    have ih := @relabel_lookup env x k r
    rw [List.lookup_cons]
    change List.lookup x ((if (j == NameKind.free && env.scope.kind == .function && env.kindOf n == some .cell) = true then (n, NameKind.cell) else (n, j)) :: _) = _ at h
    by_cases hc : (j == NameKind.free && env.scope.kind == .function && env.kindOf n == some .cell) = true
    · rw [if_pos hc, List.lookup_cons] at h
      have hj : j = NameKind.free := by
        simp only [Bool.and_eq_true] at hc
        exact eq_of_beq hc.1.1
      cases hx : x == n with
      | true => rw [hx] at h; cases h; exact .inr ⟨rfl, by rw [hj]⟩
      | false => rw [hx] at h; exact ih h
    · rw [if_neg hc, List.lookup_cons] at h
      cases hx : x == n with
      | true => rw [hx] at h; exact .inl h
      | false => rw [hx] at h; exact ih h
def cxComp (X : Cx) (scope : Scope) (NL : List Str) (ix : List Nat) (cl : List (Str × Addr)) (C : Addr) (s₃ : Shared) (H₃ : Hp) (fp : List Addr) (pins : List (Addr × Obj)) : Cx where
  prog := X.prog
  w := X.w
  K := X.K
  mg := X.mg
  base := X.base
  A := X.A
  N := NL ++ ix.map fun j => X.N.getD j ""
  s₀ := s₃
  H₀ := H₃
  env := compEnvC scope cl C X.env
  outer := X.stack
  stack := X.stack
  ex := fp
  fn := fun _ => false
  calm := X.calm
  pn := X.pn ++ pins
  xe := fun _ _ => False
def comp0 (NL : List Str) (ix : List Nat) (σ : St) : St := NL.map (fun _ => none) ++ ix.map fun j => σ.getD j none
def PIfs (X : Cx) (ifs : List Expr) (t : TT) : Prop :=
  ∀ (pins : List (Addr × Obj)) (s : Shared) (σ : St) (H : Hp) (Q : Bool → Hp → Prop), Inv X pins σ H s → t σ H Q →
    wpAny (model X.prog X.w) X.A (forIn ifs true fun c r => if r = true then do let ok ← isTrue c X.env (eval c X.env); pure (ForInStep.yield ok) else pure (ForInStep.yield r)) (TP X pins σ Q) X.xe s
def tYes : TT := fun _ H Q => Q true H
theorem pifs_nil {X : Cx} : PIfs X [] tYes := fun _ _ _ H _ I h => wpAny_tests_nil ⟨H, I, h⟩
theorem pifs_one {X : Cx} {c : Expr} {t : TT} (h : PT X c t) : PIfs X [c] t := fun pins s σ H Q I q => wpAny_tests_one (h pins s σ H Q I q)
def tComp (NL : List Str) (ix : List Nat) (wi : TI) (g : TG) (tt : TT) (te : TE) : TE := fun σ H Q =>
  wi σ H fun J H1 => ∀ acc, H1 acc = none → ∃ W : Nat → Nat → List V → Hp → Prop, (∃ m, W 0 m [] (upd H1 acc (.lst []))) ∧
    ∀ i m ys H2, W i m ys H2 → H2 acc = some (.lst ys) ∧ ys.length < sizeLine ∧
      ((J.stop i H2 ∧ Q (.ref acc) H2) ∨ (J.go i H2 ∧ ∃ N : List V → Hp → Prop, (∀ ys' H', N ys' H' → ∃ m', m' < m ∧ W (i + 1) m' ys' H') ∧
        ∀ x H3, J.yld i H2 x H3 → g x (comp0 NL ix σ) H3 fun σ' H4 => σ'.drop NL.length = ix.map (fun j => σ.getD j none) ∧ tt σ' H4 fun b H5 =>
          if b = true then te σ' H5 fun v H6 => H6 acc = some (.lst ys) ∧ N (ys ++ [v]) (upd H6 acc (.lst (ys ++ [v]))) else N ys H5))
section
variable {X : Cx} {pins : List (Addr × Obj)} {σ : St} {H : Hp} {s : Shared}
structure CompScope (X : Cx) (scope : Scope) (NL : List Str) (ix : List Nat) : Prop where
  kind : scope.kind = .function
  cell : ∀ y ∈ scope.names, y.2 ≠ .cell
  names : ∀ y ∈ scope.names, y.2 = .local → scope.names.lookup y.1 = some .local
  free : ∀ y ∈ scope.names, y.2 = .free → X.env.kindOf y.1 = some .cell ∨ X.env.kindOf y.1 = some .free
  cap : ∀ j ∈ ix, ∃ x, X.N[j]? = some x ∧ scope.names.lookup x = some .free
theorem comp_inv {scope : Scope} {NL : List Str} {ix : List Nat} {cl : List (Str × Addr)} {fp : List Addr} {tn : Nat → Heap → Prop} {s₃ : Shared} {h₁ : Heap} {m : Str → Option Value} {tk : Nat}
    (S : CompScope X scope NL ix) (I : Inv X pins σ H s₃) (c1 : ∀ x c, cl.lookup x = some c → X.env.cells.lookup x = some c) (c2 : ∀ x, (x, NameKind.free) ∈ scope.names → ∃ c, cl.lookup x = some c)
    (hf : ∀ b ∈ fp, FpOk X pins H b) (ho : ∀ b ∈ fp, ∃ o, s₃.heap.get? b = some o) (hn : h₁.Ns s₃.heap.objs.size m) (old : ∀ b o, s₃.heap.get? b = some o → h₁.get? b = some o) :
    Inv (cxComp X scope NL ix cl s₃.heap.objs.size s₃ H fp pins) [] (comp0 NL ix σ) H { s₃ with heap := h₁, toks := tk } := by
  have e0 := I.env0
  have lt : ∀ b o, s₃.heap.get? b = some o → b ≠ s₃.heap.objs.size := fun b o e => Nat.ne_of_lt (Heap.lt_size e)
  have nst : ∀ b, b ≠ X.env.locals → b ∉ X.fs → b ∉ frs X.stack := fun b h1 h2 h3 => (List.mem_cons.mp (I.stkSub b h3)).elim h1 h2
  have ok : (cxComp X scope NL ix cl s₃.heap.objs.size s₃ H fp pins).Ok :=
    { mod := I.ok.mod
      kind := S.kind
      glob := I.ok.glob
      blt := I.ok.blt
      above := Nat.le_refl _
      inj := fun x y c h1 h2 => I.ok.inj x y c (c1 x c h1) (c1 y c h2)
      has := fun x hx => by
        have hfree : scope.names.lookup x = some .free := by
          rcases hx with hx | hx
          · rcases relabel_lookup hx with q | ⟨_, q⟩
            · exact absurd rfl (S.cell _ (lookup_mem q))
            · exact q
          · rcases relabel_lookup hx with q | ⟨z, _⟩
            · exact q
            · cases z
        exact c2 x (lookup_mem hfree)
      cab := fun _ _ z => nomatch z
      hd := I.ok.hd
      frames := I.ok.frames
      stk := .inl rfl
      exf := fun b hb => ⟨let ⟨o, e⟩ := ho b hb; lt b o e, fun x c hx => (hf b hb).2.2.2.2.1 x c (c1 x c hx)⟩
      bs := I.bs
      bsz := e0.bsz
      noex := fun b o e hb => by
        rcases (hf b hb).2.2.2.1 with z | z
        · exact I.ok.noex b o e z
        · exact absurd (Nat.lt_of_lt_of_le (Heap.lt_size e) (Nat.le_trans I.ok.bsz z)) (Nat.lt_irrefl _)
      exfs := fun b hb => nst b (hf b hb).2.1 (hf b hb).2.2.1
      funs := e0.funs
      frf := e0.frf }
  refine ⟨ok, rfl, I.bare, Un.kept old, ⟨m, hn, fun i x v e1 e2 e3 => ?_⟩, fun x c e => ?_, I.hok.fresh (Nat.le_refl _), fun x c e => I.freeC x c (c1 x c e), fun p hp => ?_, I.hok.kept old, ?_⟩
  · have hl : NL.length ≤ i := by
      rcases Nat.lt_or_ge i NL.length with z | z
      · exfalso
        unfold comp0 at e2
        rw [List.getElem?_append_left (by simpa using z), List.getElem?_map] at e2
        cases q : NL[i]? with
        | none => rw [q] at e2; cases e2
        | some y => rw [q] at e2; cases e2
      · exact z
    unfold comp0 at e2
    rw [List.getElem?_append_right (by simpa using hl), List.length_map, List.getElem?_map] at e2
    change (NL ++ ix.map fun j => X.N.getD j "")[i]? = some x at e1
    rw [List.getElem?_append_right hl, List.getElem?_map] at e1
    cases q : ix[i - NL.length]? with
    | none => rw [q] at e1; cases e1
    | some j =>
      rw [q] at e1 e2
      have e1' : X.N.getD j "" = x := Option.some.inj e1
      have e2' : σ.getD j none = some v := Option.some.inj e2
      obtain ⟨x', hx', hfr⟩ := S.cap j (List.mem_of_getElem? q)
      have exx : x' = x := by
        rw [← e1', List.getD_eq_getElem?_getD, hx']; rfl
      subst exx
      have hσ : σ[j]? = some (some v) := by
        rw [List.getD_eq_getElem?_getD] at e2'
        cases z : σ[j]? with
        | none => rw [z] at e2'; cases e2'
        | some o => rw [z] at e2'; exact congrArg some e2'
      have kd := S.free _ (lookup_mem hfr) rfl
      have vis : Vis X.env.scope x' := by
        rcases kd with z | z
        · exact .inr (.inl z)
        · exact .inr (.inr z)
      obtain ⟨m', hn', hl'⟩ := I.loc
      obtain ⟨u, r, l⟩ := hl' j x' v hx' hσ vis
      refine ⟨u, r, .inr ?_⟩
      have hk' : (compEnvC scope cl s₃.heap.objs.size X.env).kindOf x' = some .cell ∨ (compEnvC scope cl s₃.heap.objs.size X.env).kindOf x' = some .free := by
        rcases e3 with z | z | z
        · rcases relabel_lookup z with w | ⟨w, _⟩
          · rw [hfr] at w; cases w
          · cases w
        · exact .inl z
        · exact .inr z
      refine ⟨hk', ?_⟩
      obtain ⟨c, hc⟩ := c2 x' (lookup_mem hfr)
      rcases l with ⟨k, _⟩ | ⟨k, c', ec, o, ho', hd⟩
      · rcases kd with z | z
        · rw [k] at z; cases z
        · rw [k] at z; cases z
      · have : c' = c := by
          have := c1 x' c hc
          rw [ec] at this
          exact Option.some.inj this
        subst this
        exact ⟨c', hc, o, old _ _ ho', hd⟩
  · obtain ⟨v, o, ho', hd⟩ := I.cell x c (c1 x c e)
    exact ⟨v, o, old _ _ ho', hd⟩
  · have hp' : p ∈ X.pn ++ pins := by
      rcases List.mem_append.mp hp with z | z
      · exact z
      · exact nomatch z
    obtain ⟨e, n, ne, nf, d⟩ := I.pin p hp'
    exact ⟨old _ _ e, n, lt _ _ e, nst _ ne nf, d⟩
  · show (NL.map (fun _ => (none : Option V)) ++ ix.map fun j => σ.getD j none).length = (NL ++ ix.map fun j => X.N.getD j "").length
    simp
theorem comp_run {scope : Scope} {NL : List Str} {ix : List Nat} {elt tg iter : Expr} {ifs : List Expr} {pos : Pos} {g : TG} {tt : TT} {te : TE} {cl : List (Str × Addr)} {fp : List Addr} {it : Addr} {tn : Nat → Heap → Prop} {J : It} {Q : VK}
    {E : Value → Shared → Prop} {RR : Value → Addr → Result → Shared → Prop}
    (hc : X.calm = true) (S : CompScope X scope NL ix) (c1 : ∀ x c, cl.lookup x = some c → X.env.cells.lookup x = some c) (c2 : ∀ x, (x, NameKind.free) ∈ scope.names → ∃ c, cl.lookup x = some c)
    (hb : ∀ (cl : List (Str × Addr)) (C : Addr) (s₃ : Shared) (H₃ : Hp) (fp : List Addr) (pins : List (Addr × Obj)), PG (cxComp X scope NL ix cl C s₃ H₃ fp pins) tg g ∧ PIfs (cxComp X scope NL ix cl C s₃ H₃ fp pins) ifs tt ∧ PE (cxComp X scope NL ix cl C s₃ H₃ fp pins) elt te)
    (I : Inv X pins σ H s) (T : Turn X.prog X.w X.K tg J fp it tn) (st : tn 0 s.heap) (hf : ∀ b ∈ fp, FpOk X pins H b)
    (q : ∀ acc, H acc = none → ∃ W : Nat → Nat → List V → Hp → Prop, (∃ m, W 0 m [] (upd H acc (.lst []))) ∧
      ∀ i m ys H2, W i m ys H2 → H2 acc = some (.lst ys) ∧ ys.length < sizeLine ∧
      ((J.stop i H2 ∧ Q (.ref acc) H2) ∨ (J.go i H2 ∧ ∃ N : List V → Hp → Prop, (∀ ys' H', N ys' H' → ∃ m', m' < m ∧ W (i + 1) m' ys' H') ∧
        ∀ x H3, J.yld i H2 x H3 → g x (comp0 NL ix σ) H3 fun σ' H4 => σ'.drop NL.length = ix.map (fun j => σ.getD j none) ∧ tt σ' H4 fun b H5 =>
          if b = true then te σ' H5 fun v H6 => H6 acc = some (.lst ys) ∧ N (ys ++ [v]) (upd H6 acc (.lst (ys ++ [v]))) else N ys H5)))
    (hRR : ∀ (acc C : Addr) (H' : Hp) (s' : Shared) (m' : Str → Option Value), Inv X pins σ H' s' → s'.heap.Ns C m' → FpOk X pins H' C → Q (.ref acc) H' → RR (.ref acc) C (.ok .next) s') :
    wpAny (model X.prog X.w) X.A (newList []) (fun acc s₃ => wpAny (model X.prog X.w) X.A (newFunctionEnv scope X.env.globals cl [] X.env.qual none .none (some X.env)) (fun cenv s₄ =>
      codeAny (model X.prog X.w) X.A (.compStart (.ListComp elt [⟨tg, iter, ifs, 0⟩] scope pos) 0 (.ref it) acc { cenv with scope := relabel scope X.env }) (RR acc cenv.locals) s₄) E s₃) E s := by
  refine wpAny_newObj_type (wpAny_newFunctionEnv S.cell (by intro y hy; simp at hy) (fun h₁ hns₁ hsb₁ => ?_) S.kind)
  have I3 : Inv X pins σ (upd H s.heap.objs.size (.lst [])) { s with heap := s.heap.push { cls := .type "list", data := .seq ([] : List Value).toArray }, toks := s.toks } := I.lnew (its := []) .nil (Nat.zero_le _)
  have hfr : H s.heap.objs.size = none := I.hok.fresh (Nat.le_refl _)
  generalize hs3 : ({ s with heap := s.heap.push { cls := .type "list", data := .seq ([] : List Value).toArray }, toks := s.toks } : Shared) = s₃ at I3
  have hsz : s₃.heap.objs.size = s.heap.objs.size + 1 := by rw [← hs3]; exact Heap.size_push ..
  have old1 : ∀ b o, s.heap.get? b = some o → s₃.heap.get? b = some o := fun b o e => by rw [← hs3]; exact Heap.get?_push_of_some _ e
  have key : codeAny (model X.prog X.w) X.A (.compStart (.ListComp elt [⟨tg, iter, ifs, 0⟩] scope pos) 0 (.ref it) (.ref s.heap.objs.size) (compEnvC scope cl s₃.heap.objs.size X.env))
      (RR (.ref s.heap.objs.size) s₃.heap.objs.size) { s₃ with heap := h₁, toks := s₃.toks + 0 } := by
    have hns : h₁.Ns s₃.heap.objs.size (fun _ => none) := by
      have := hns₁
      rw [← hs3]
      exact this
    have hsb : Heap.SameBut s₃.heap.objs.size (s₃.heap.push { cls := .type "dict", data := .dict #[] }) h₁ := by
      have := hsb₁
      rw [← hs3]
      exact this
    have old : ∀ b o, s₃.heap.get? b = some o → h₁.get? b = some o := fun b o e => hsb.extBut b o (Nat.ne_of_lt (Heap.lt_size e)) (Heap.get?_push_of_some _ e)
    have hf3 : ∀ b ∈ fp, FpOk X pins (upd H s.heap.objs.size (.lst [])) b := fun b hb' => by
      obtain ⟨o, e, _⟩ := T.obj 0 _ st b hb'
      have ne : b ≠ s.heap.objs.size := Nat.ne_of_lt (Heap.lt_size e)
      exact ⟨by rw [upd_ne ne]; exact (hf b hb').1, (hf b hb').2⟩
    have ho3 : ∀ b ∈ fp, ∃ o, s₃.heap.get? b = some o := fun b hb' => by
      obtain ⟨o, e, _⟩ := T.obj 0 _ st b hb'
      exact ⟨o, old1 b o e⟩
    have st1 : tn 0 h₁ := T.keep 0 _ _ st fun b hb' o e => old b o (old1 b o e)
    have I4 := comp_inv (tn := tn) (tk := s₃.toks + 0) S I3 c1 c2 hf3 ho3 hns old
    obtain ⟨W, ⟨m0, w0⟩, turn⟩ := q s.heap.objs.size hfr
    obtain ⟨hg, ht, he⟩ := hb cl s₃.heap.objs.size s₃ (upd H s.heap.objs.size (.lst [])) fp pins
    generalize hX' : cxComp X scope NL ix cl s₃.heap.objs.size s₃ (upd H s.heap.objs.size (.lst [])) fp pins = X' at I4 hg ht he
    have p1 : X'.prog = X.prog := by rw [← hX']; rfl
    have p2 : X'.w = X.w := by rw [← hX']; rfl
    have p3 : X'.K = X.K := by rw [← hX']; rfl
    have p4 : X'.A = X.A := by rw [← hX']; rfl
    have p5 : X'.env = compEnvC scope cl s₃.heap.objs.size X.env := by rw [← hX']; rfl
    have p6 : X'.calm = true := by rw [← hX']; exact hc
    have p7 : X'.xe = fun _ _ => False := by rw [← hX']; rfl
    have stat : ∀ {H' : Hp}, (∀ b ∈ fp, H' b = none) → ∀ b ∈ fp, FpOk X' [] H' b := fun {H'} hn b hb' => by
      have z := hf3 b hb'
      obtain ⟨o, eo⟩ := ho3 b hb'
      rw [← hX']
      refine ⟨hn b hb', Nat.ne_of_lt (Heap.lt_size eo), fun q => (List.mem_cons.mp (I3.stkSub b q)).elim z.2.1 z.2.2.1, .inl hb', fun x c hx => z.2.2.2.2.1 x c (c1 x c hx), fun p hp => ?_⟩
      rcases List.mem_append.mp hp with w | w
      · exact z.2.2.2.2.2 p w
      · exact nomatch w
    have fin : ∀ i n ys H' s', Inv X' [] (comp0 NL ix σ) H' s' → W i n ys H' → Q (.ref s.heap.objs.size) H' → RR (.ref s.heap.objs.size) s₃.heap.objs.size (.ok .next) s' := fun i n ys H' s' I' w' q' => by
      obtain ⟨m', hn', _⟩ := I'.loc
      have hos : s'.os = s₃.os := by have := I'.os; rw [← hX'] at this; exact this
      have hu : Un (frs X.stack) fp (upd H s.heap.objs.size (.lst [])) H' s₃.heap s'.heap := by have := I'.base; rw [← hX'] at this; exact this
      have hk : HOk X.prog X.w H' s'.heap := by have := I'.hok; rw [← hX'] at this; exact this
      have hfC : H' s₃.heap.objs.size = none := by have := I'.free; rw [← hX'] at this; exact this
      have hnC : s'.heap.Ns s₃.heap.objs.size m' := by rw [p5] at hn'; exact hn'
      exact hRR _ _ H' s' m' (I3.call' hos hu hk I'.bare fun b hb' => ⟨(hf3 b hb').2.2.2.1, (hf3 b hb').2.1, (hf3 b hb').2.2.2.2.1, (hf3 b hb').2.2.2.2.2⟩) hnC (I3.fpOk (Nat.le_refl _) hfC) q'
    have loop : ∀ s₄ : Shared, Inv X' [] (comp0 NL ix σ) (upd H s.heap.objs.size (.lst [])) s₄ → tn 0 s₄.heap → codeAny (model X.prog X.w) X.A (.compLoop (.ListComp elt [⟨tg, iter, ifs, 0⟩] scope pos) 0 (.ref it) (.ref s.heap.objs.size) (compEnvC scope cl s₃.heap.objs.size X.env))
        (RR (.ref s.heap.objs.size) s₃.heap.objs.size) s₄ := fun s₄ I4 st1 => by
      refine codeAny_loop rfl (fun n s' => ∃ i ys H', Inv X' [] (comp0 NL ix σ) H' s' ∧ tn i s'.heap ∧ (∀ b ∈ fp, H' b = none) ∧ W i n ys H') (fun n s' hI => ?_) m0 ⟨0, [], _, I4, st1, fun b hb' => (hf3 b hb').1, w0⟩
      obtain ⟨i, ys, H', I', st', fr', w'⟩ := hI
      show wpAny _ X.A ((compTurn (.ListComp elt [⟨tg, iter, ifs, 0⟩] scope pos) 0 (.ref it) (.ref s.heap.objs.size) (compEnvC scope cl s₃.heap.objs.size X.env)).onRaise (fun x => do noteFrame x (compEnvC scope cl s₃.heap.objs.size X.env); theTreesLotGoes x)) _ _ s'
      refine wpAny_noted ?_
      rw [compTurn_list]
      obtain ⟨hacc, hz8, alt⟩ := turn i n ys H' w'
      rcases alt with ⟨stop, qn⟩ | ⟨go, N, hN, step⟩
      · have d := T.done X' p1 p2 p3 p6 i [] s' (comp0 NL ix σ) H' (notedBy (model X.prog X.w) X.A (compEnvC scope cl s₃.heap.objs.size X.env) fun e s' => RR (.ref s.heap.objs.size) s₃.heap.objs.size (.error e) s') I' (stat fr') st' stop
        rw [p4] at d
        refine wpAny_bind (wpAny_standAt (wpAny_bind (thn d fun r s1 ⟨hr, I1⟩ => ?_)))
        subst hr
        exact wpAny_pure (fin i n ys H' s1 I1 w' qn)
      · have d := T.item X' p1 p2 p3 p6 i [] s' (comp0 NL ix σ) H' (notedBy (model X.prog X.w) X.A (compEnvC scope cl s₃.heap.objs.size X.env) fun e s' => RR (.ref s.heap.objs.size) s₃.heap.objs.size (.error e) s') I' (stat fr') st' go
        rw [p4] at d
        refine wpAny_bind (wpAny_standAt (wpAny_bind (thn d fun r s1 ⟨u, hr, h4⟩ => ?_)))
        subst hr
        refine wpAny_bind (thn h4 fun _ s5 ⟨x, H5, I5, r5, y5, st5, fr5⟩ => ?_)
        have I5' := I5.pinned (stat fr5) (T.obj _ _ st5)
        have nofail : ∀ {α : Type} {t : Sem α} {R : α → Shared → Prop} {sx : Shared}, wpAny (model X'.prog X'.w) X'.A t R X'.xe sx → wpAny (model X.prog X.w) X.A t R (notedBy (model X.prog X.w) X.A (compEnvC scope cl s₃.heap.objs.size X.env) fun e s' => RR (.ref s.heap.objs.size) s₃.heap.objs.size (.error e) s') sx := fun {α t R sx} hh => by
          rw [p1, p2, p4, p7] at hh
          exact wpAny_mono hh (fun _ _ z => z) fun _ _ z => z.elim
        have again : ∀ {σ7 : St} {H7 : Hp} {s7 : Shared} {ys' : List V}, σ7.drop NL.length = ix.map (fun j => σ.getD j none) → Inv X' ([] ++ pinsAt fp s5.heap) σ7 H7 s7 → (∃ m', m' < n ∧ W (i + 1) m' ys' H7) → ∃ m, m < n ∧ ∃ i ys H', Inv X' [] (comp0 NL ix σ) H' s7 ∧ tn i s7.heap ∧ (∀ b ∈ fp, H' b = none) ∧ W i m ys H' := fun {σ7 H7 s7 ys'} hσ I7 n7 => by
          obtain ⟨m', hm, w7⟩ := n7
          have Iw : Inv X' ([] ++ pinsAt fp s5.heap) (comp0 NL ix σ) H7 s7 := I7.weak (by rw [I7.len, I'.len]) fun j v hj => by
            have hlj : NL.length ≤ j := by
              rcases Nat.lt_or_ge j NL.length with z | z
              · exfalso
                unfold comp0 at hj
                rw [List.getElem?_append_left (by simpa using z), List.getElem?_map] at hj
                cases q : NL[j]? with
                | none => rw [q] at hj; cases hj
                | some y => rw [q] at hj; cases hj
              · exact z
            unfold comp0 at hj
            rw [List.getElem?_append_right (by simpa using hlj), List.length_map, ← hσ, List.getElem?_drop] at hj
            rw [← hj]
            congr 1
            omega
          refine ⟨m', hm, i + 1, ys', H7, Iw.unpinned, T.keep _ _ _ st5 fun b hb' o e => (I7.pin (b, o) (List.mem_append_right _ (List.mem_append_right _ (mem_pinsAt hb' e)))).1, fun b hb' => ?_, w7⟩
          obtain ⟨o, e, d⟩ := T.obj _ _ st5 b hb'
          exact (I7.pin (b, o) (List.mem_append_right _ (List.mem_append_right _ (mem_pinsAt hb' e)))).2.1
        have hg' := nofail (hg _ s5 (comp0 NL ix σ) H5 x u _ I5' r5 (step x H5 y5))
        rw [p5] at hg'
        refine wpAny_bind (thn hg' fun _ s6 ⟨σ6, H6, I6, hσ6, q6⟩ => ?_)
        have ht' := nofail (ht _ s6 σ6 H6 _ I6 q6)
        rw [p5] at ht'
        refine wpAny_bind (thn ht' fun ok s7 ⟨H7, I7, q7⟩ => ?_)
        cases ok with
        | false =>
          have q7' : N ys H7 := by simpa using q7
          exact wpAny_pure ⟨rfl, again hσ6 I7 (hN _ _ q7')⟩
        | true =>
          have q7' := (if_pos rfl).mp q7
          have he' := nofail (he _ s7 σ6 H7 _ I7 q7')
          rw [p5] at he'
          refine wpAny_bind (wpAny_bind (thn he' fun v s8 ⟨y, H8, I8, r8, ha8, q8⟩ => ?_))
          have ap := nofail (mt_append _ s8 σ6 H8 (.ref s.heap.objs.size) [y] (.ref s.heap.objs.size) [v] (fun _ H9 => H9 = upd H8 s.heap.objs.size (.lst (ys ++ [y]))) I8 rfl (.cons r8 .nil) ⟨_, ys, y, rfl, rfl, ha8, hz8, rfl⟩)
          refine wpAny_bind (thn ap fun _ s9 ⟨z, H9, I9, r9, e9⟩ => wpAny_pure (wpAny_pure ⟨rfl, ?_⟩))
          subst e9
          exact again hσ6 I9 (hN _ _ q8)
    exact codeAny_compStart_list (loop _ I4 st1) (T.self X.A 0 _ _ _ st1 (loop _ I4 st1))
  exact key
theorem pe_comp {scope : Scope} {NL : List Str} {ix : List Nat} {elt tg iter : Expr} {ifs : List Expr} {pos : Pos} {wi : TI} {g : TG} {tt : TT} {te : TE}
    (hc : X.calm = true) (hi : PI X tg iter wi) (S : CompScope X scope NL ix)
    (hb : ∀ (cl : List (Str × Addr)) (C : Addr) (s₃ : Shared) (H₃ : Hp) (fp : List Addr) (pins : List (Addr × Obj)), PG (cxComp X scope NL ix cl C s₃ H₃ fp pins) tg g ∧ PIfs (cxComp X scope NL ix cl C s₃ H₃ fp pins) ifs tt ∧ PE (cxComp X scope NL ix cl C s₃ H₃ fp pins) elt te)
    (hs : ∀ x, foldedSetIterable iter X.env x = pure x := by intro _; rfl) : PE X (.ListComp elt [⟨tg, iter, ifs, 0⟩] scope pos) (tComp NL ix wi g tt te) := by
  intro pins s σ H Q I h
  obtain ⟨cl, hcl, c1, c2⟩ := closure_ok (scope := scope) (env := X.env) fun x hx => by
    rcases S.free _ hx rfl with z | z
    · exact I.ok.has x (.inl z)
    · exact I.ok.has x (.inr z)
  rw [eval_ListComp]
  refine wpAny_comprehension_free (use := none) rfl hs hcl S.kind S.names (thn (hi pins s σ H _ I h) fun xv s1 h1 => thn h1 fun itv s2 h2 => ?_)
  obtain ⟨it, fp, tn, J, H2, rfl, I2, T, st2, f2, q⟩ := h2
  refine comp_run (RR := fun acc C => compPost (model X.prog X.w) X.A X.xe none (EP X pins σ Q) acc C) hc S c1 c2 hb I2 T st2 f2 q ?_
  intro acc C H' s' m' I' hn fC q'
  refine ⟨m', hn, fun h' sb => ⟨.ref acc, H', ?_, rfl, q'⟩⟩
  exact I'.turned (t' := s'.toks) (fun b o hb e => sb.extBut b o hb e) fC.1 fC.2.1 fC.2.2.2.1 fC.2.2.2.2.1 fC.2.2.2.2.2
theorem ps_comp {i : Nat} {y : Str} {py spos : Pos} {scope : Scope} {NL : List Str} {ix : List Nat} {elt tg iter : Expr} {ifs : List Expr} {pos : Pos} {wi : TI} {g : TG} {tt : TT} {te : TE}
    (hN : X.N.Nodup) (hiy : X.N[i]? = some y) (hy : Loc X.env.scope y)
    (hc : X.calm = true) (hi : PI X tg iter wi) (S : CompScope X scope NL ix)
    (hb : ∀ (cl : List (Str × Addr)) (C : Addr) (s₃ : Shared) (H₃ : Hp) (fp : List Addr) (pins : List (Addr × Obj)), PG (cxComp X scope NL ix cl C s₃ H₃ fp pins) tg g ∧ PIfs (cxComp X scope NL ix cl C s₃ H₃ fp pins) ifs tt ∧ PE (cxComp X scope NL ix cl C s₃ H₃ fp pins) elt te)
    (hsw : swapsWith (.ListComp elt [⟨tg, iter, ifs, 0⟩] scope pos) (some (.Name y py)) spos.line X.env = pure true := by rfl)
    (hs : ∀ x, foldedSetIterable iter X.env x = pure x := by intro _; rfl)
    (hf : X.fn y = true ∨ X.env.scope.names.lookup y = some .local := by first | exact .inl rfl | exact .inr rfl | assumption) :
    PS X (.Assign [.Name y py] (.ListComp elt [⟨tg, iter, ifs, 0⟩] scope pos) spos) (tAsg (tComp NL ix wi g tt te) (gName i)) := by
  intro pins s σ H D I h
  obtain ⟨cl, hcl, c1, c2⟩ := closure_ok (scope := scope) (env := X.env) fun x hx => by
    rcases S.free _ hx rfl with z | z
    · exact I.ok.has x (.inl z)
    · exact I.ok.has x (.inr z)
  rw [exec_Assign_Name_used _ _ _ _ hsw]
  refine wpAny_bind (wpAny_standAt (wpAny_bind ?_))
  show wpAny _ X.A (do let _ ← comprehension (.ListComp elt [⟨tg, iter, ifs, 0⟩] scope pos) scope X.env _ (newList []) false (eval iter X.env) (some (assign (.Name y py) X.env))) _ _ s
  refine wpAny_bind (thn (wpAny_comprehension_free (use := some (assign (.Name y py) X.env)) (Q := fun _ s' => SP X pins D .next s') rfl hs hcl S.kind S.names
    (thn (hi pins s σ H _ I h) fun xv s1 h1 => thn h1 fun itv s2 h2 => ?_)) fun _ s' hq => wpAny_pure (wpAny_pure hq))
  obtain ⟨it, fp, tn, J, H2, rfl, I2, T, st2, f2, q⟩ := h2
  refine comp_run (RR := fun acc C => compPost (model X.prog X.w) X.A X.xe (some (assign (.Name y py) X.env)) (fun _ s' => SP X pins D .next s') acc C) (Q := fun x H1 => gName i x σ H1 D.nx) hc S c1 c2 hb I2 T st2 f2 q ?_
  intro acc C H' s' m' I' hn fC q'
  show wpAny _ X.A (assign (.Name y py) X.env (.ref acc)) _ _ _
  refine wpAny_assign_Name (store_ok2 I' hN hiy hy (v := .ref acc) rfl (fun s'' I'' hsb => ?_) hf)
  obtain ⟨a, sb, ha⟩ := hsb
  have hne : C ≠ a := by
    rcases ha with z | z
    · rw [z]; exact fC.2.1
    · exact fun w => fC.2.2.2.2.1 y a z w.symm
  refine ⟨m', hn.sameBut sb hne, fun h' sb' => ⟨_, H', ?_, q'⟩⟩
  exact I''.turned (t' := s''.toks) (fun b o hb e => sb'.extBut b o hb e) fC.1 fC.2.1 fC.2.2.2.1 fC.2.2.2.2.1 fC.2.2.2.2.2
theorem comp_by {J : It} {NL : List Str} {ix : List Nat} {g : TG} {tt : TT} {te : TE} {σ : St} {H1 : Hp} {Qs : Hp → Prop} {acc : Addr} (n : Nat) (hn : n < 1000) (Pv : Nat → List V → Hp → Prop)
    (hacc : ∀ i ys H2, Pv i ys H2 → H2 acc = some (.lst ys) ∧ ys.length ≤ i) (h0 : Pv 0 [] (upd H1 acc (.lst []))) (hstop : ∀ ys H2, Pv n ys H2 → J.stop n H2 ∧ Qs H2)
    (hturn : ∀ i ys H2, i < n → Pv i ys H2 → J.go i H2 ∧ ∀ x H3, J.yld i H2 x H3 → g x (comp0 NL ix σ) H3 fun σ' H4 => σ'.drop NL.length = ix.map (fun j => σ.getD j none) ∧ tt σ' H4 fun b H5 =>
      if b = true then te σ' H5 fun v H6 => H6 acc = some (.lst ys) ∧ Pv (i + 1) (ys ++ [v]) (upd H6 acc (.lst (ys ++ [v]))) else Pv (i + 1) ys H5) :
    ∃ W : Nat → Nat → List V → Hp → Prop, (∃ m, W 0 m [] (upd H1 acc (.lst []))) ∧
    ∀ i m ys H2, W i m ys H2 → H2 acc = some (.lst ys) ∧ ys.length < sizeLine ∧
      ((J.stop i H2 ∧ Qs H2) ∨ (J.go i H2 ∧ ∃ N : List V → Hp → Prop, (∀ ys' H', N ys' H' → ∃ m', m' < m ∧ W (i + 1) m' ys' H') ∧
        ∀ x H3, J.yld i H2 x H3 → g x (comp0 NL ix σ) H3 fun σ' H4 => σ'.drop NL.length = ix.map (fun j => σ.getD j none) ∧ tt σ' H4 fun b H5 =>
          if b = true then te σ' H5 fun v H6 => H6 acc = some (.lst ys) ∧ N (ys ++ [v]) (upd H6 acc (.lst (ys ++ [v]))) else N ys H5)) := by
  refine ⟨fun i m ys H2 => i ≤ n ∧ m = n - i ∧ Pv i ys H2, ⟨n, Nat.zero_le _, rfl, h0⟩, fun i m ys H2 ⟨hi, hm, hp⟩ => ?_⟩
  obtain ⟨a1, a2⟩ := hacc i ys H2 hp
  refine ⟨a1, small1000 (by omega), ?_⟩
  rcases Nat.lt_or_ge i n with lt | ge
  · obtain ⟨go, tn⟩ := hturn i ys H2 lt hp
    exact .inr ⟨go, Pv (i + 1), fun ys' H' hN => ⟨n - (i + 1), by omega, by omega, rfl, hN⟩, tn⟩
  · have e : i = n := by omega
    subst e
    exact .inl (hstop ys H2 hp)
end
end L2
namespace L2
open PySem PySem.Spec PyProof.Rows
section
variable {prog : Program} {w : World} {A : Around} {E : Value → Shared → Prop} {s : Shared}
theorem nextOf_tuple_item {it t : Addr} {i : Nat} {items : Array Value} {x : Value} {Q : Value → Shared → Prop} (hit : s.heap.IsTupleIter it t i)
    (ht : s.heap.IsTuple t items) (hx : items[i]? = some x)
    (hQ : ∀ h', h'.IsTupleIter it t (i + 1) → Heap.SameBut it s.heap h' → Q x { s with heap := h' }) :
    wpAny (model prog w) A (Builtin.SmallTypes.nextOf (.ref it)) Q E s := by
  obtain ⟨o, ho, hc, hd⟩ := id hit
  obtain ⟨ol, hol, _, nl, hdl⟩ := ht
  unfold Builtin.SmallTypes.nextOf
  refine wpAny_bind (wpAny_callSpecial?_slot (name := Str.ofString "__next__") hit.typeIs F.slot_tuple_iterator_next
    (wpAny_call_entry F.slot_tuple_iterator_next hit.typeIs F.entry_tuple_iterator_next ?_ (F.args_tuple_iterator_next_1 _)))
  show wpAny _ _ (field (.ref it) 0 >>= _) _ _ s
  refine wpAny_bind (wpAny_field ho hd (x := .ref t) rfl ?_)
  show wpAny _ _ (if (Value.ref t == Value.none) = true then _ else _) _ _ s
  rw [if_neg (show ¬ ((Value.ref t == Value.none) = true) from Bool.false_ne_true)]
  show wpAny _ _ (field (.ref it) 1 >>= _) _ _ s
  refine wpAny_bind (wpAny_field ho hd (x := .int i 0) rfl ?_)
  show wpAny _ _ (seqItems? (.ref t) >>= _) _ _ s
  refine wpAny_bind (wpAny_seqItems hol hdl ?_)
  simp only [Int.toNat_natCast, hx]
  refine wpAny_bind (wpAny_setField ho hd (by simp) (wpAny_pure ⟨x, rfl, wpAny_pure (hQ _ ?_ (Heap.SameBut.update ..))⟩))
  exact ⟨_, Heap.get?_update_self _ ho (Obj.isFreed_of_fields (Obj.data_mapFields hd _)), (Obj.cls_mapFields ..).trans hc, by
    rw [Obj.data_mapFields hd]; simp [rawInt]⟩
theorem nextOf_tuple_end {it t : Addr} {i : Nat} {items : Array Value} {Q : Value → Shared → Prop} (hh : A.handled = none)
    (hit : s.heap.IsTupleIter it t i) (ht : s.heap.IsTuple t items) (hx : items[i]? = none)
    (hE : ∀ h' e, Heap.ExtBut it s.heap h' → (∃ o, h'.get? e = some o ∧ o.cls = .type "StopIteration") → E (.ref e) { s with heap := h' }) :
    wpAny (model prog w) A (Builtin.SmallTypes.nextOf (.ref it)) Q E s := by
  obtain ⟨o, ho, hc, hd⟩ := id hit
  obtain ⟨ol, hol, _, nl, hdl⟩ := ht
  unfold Builtin.SmallTypes.nextOf
  refine wpAny_bind (wpAny_callSpecial?_slot (name := Str.ofString "__next__") hit.typeIs F.slot_tuple_iterator_next
    (wpAny_call_entry F.slot_tuple_iterator_next hit.typeIs F.entry_tuple_iterator_next ?_ (F.args_tuple_iterator_next_1 _)))
  show wpAny _ _ (field (.ref it) 0 >>= _) _ _ s
  refine wpAny_bind (wpAny_field ho hd (x := .ref t) rfl ?_)
  show wpAny _ _ (if (Value.ref t == Value.none) = true then _ else _) _ _ s
  rw [if_neg (show ¬ ((Value.ref t == Value.none) = true) from Bool.false_ne_true)]
  show wpAny _ _ (field (.ref it) 1 >>= _) _ _ s
  refine wpAny_bind (wpAny_field ho hd (x := .int i 0) rfl ?_)
  show wpAny _ _ (seqItems? (.ref t) >>= _) _ _ s
  refine wpAny_bind (wpAny_seqItems hol hdl ?_)
  simp only [Int.toNat_natCast, hx]
  refine wpAny_bind (wpAny_rule (wpAny_bind (wpAny_setField ho hd (by simp) ?_)))
  show wpAny _ _ (newExc (.type "StopIteration") [] >>= _) _ _ _
  refine wpAny_bind ?_
  simp only [newExc, newTuple]
  refine wpAny_bind (wpAny_newObj_type ?_ (by size_fits))
  refine wpAny_bind (m := firstArgMember _ _) (wpAny_of_eq (a := Value.none) (by first | rfl | (simp only [firstArgMember]; rfl)) ?_)
  refine wpAny_newObj_type ?_ (by size_fits)
  simp only [raiseNew]
  refine wpAny_bind (wpAny_handled ?_)
  first | rw [show A.in1.handled = none from hh] | rw [hh]
  refine wpAny_bind (wpAny_pure (wpAny_throw ?_))
  exact hE _ _ (((Heap.SameBut.update ..).extBut.push _).push _) ⟨_, Heap.get?_push_size _ rfl, rfl⟩
end
theorem draws_tuple {prog : Program} {w : World} {A : Around} (hh : A.handled = none) (it l : Addr) (hne : l ≠ it) (items : Array Value) :
    Draws prog w A it [it, l] items.size (fun i v => items[i]? = some v) (fun i h => h.IsTupleIter it l i ∧ h.IsTuple l items) where
  live := fun _ _ st => let ⟨o, ho, _⟩ := st.1; ⟨o, ho⟩
  frame := fun _ _ _ st hk => ⟨st.1.at fun o e => hk it (by simp) o e, let ⟨o, ho, r⟩ := st.2; ⟨o, hk l (by simp) o ho, r⟩⟩
  item := fun i s Q E hi st hQ => by
    refine nextOf_tuple_item st.1 st.2 (x := items[i]) (by simp [hi]) fun h' hit' hs' => ?_
    exact hQ _ h' s.toks (by simp [hi]) ⟨hit', st.2.extBut hs'.extBut hne⟩ hs'
  done := fun s Q E st hE => nextOf_tuple_end hh st.1 st.2 (by simp) hE
theorem draws_str {prog : Program} {w : World} {A : Around} (hh : A.handled = none) (it : Addr) (x : Str) (t : Tok) :
    Draws prog w A it [it] x.cps.size (fun i v => ∃ c u, x.cps[i]? = some c ∧ v = .str ⟨#[c]⟩ u) (fun i h => h.IsStrIter it (strIterType x) x t i) := by
  unfold strIterType
  cases x.cps.all (· < 128) with
  | true => exact Draws.strAscii hh it x t
  | false => exact Draws.strWide hh it x t
inductive SK where
  | lst (a : Addr) | tup (a : Addr) | str (x : Str)
def SK.val : SK → V
  | .lst a => .ref a
  | .tup a => .ref a
  | .str x => .str x
def signs (x : Str) : List V := x.cps.toList.map fun c => .str ⟨#[c]⟩
def SK.has (H : Hp) : SK → List V → Prop
  | .lst a, xs => Rd H a (.lst xs)
  | .tup a, xs => Rd H a (.tup xs)
  | .str x, xs => xs = signs x
def SK.own (it : Addr) (k : Nat) (h : Heap) : SK → Prop
  | .lst a => h.IsListIter it a k
  | .tup a => h.IsTupleIter it a k
  | .str x => ∃ t, h.IsStrIter it (strIterType x) x t k
theorem SK.own_at {it : Addr} {k : Nat} {h h' : Heap} {κ : SK} (x : κ.own it k h) (e : ∀ o, h.get? it = some o → h'.get? it = some o) : κ.own it k h' := by
  cases κ with
  | lst a => exact Heap.IsListIter.at x e
  | tup a => exact Heap.IsTupleIter.at x e
  | str y => obtain ⟨t, o, ho, r⟩ := x; exact ⟨t, o, e o ho, r⟩
theorem SK.own_obj {it : Addr} {k : Nat} {h : Heap} {κ : SK} (x : κ.own it k h) : ∃ o, h.get? it = some o ∧ (∀ v, o.data ≠ .cell v) ∧ o.cls ≠ .type "tuple" ∧ o.cls ≠ .type "zip" ∧ o.cls ≠ .type "enumerate" := by
  cases κ with
  | lst a => obtain ⟨o, ho, c, d⟩ := x; exact ⟨o, ho, (fun v z => by rw [d] at z; cases z), (fun z => by rw [c] at z; simp at z), (fun z => by rw [c] at z; simp at z), (fun z => by rw [c] at z; simp at z)⟩
  | tup a => obtain ⟨o, ho, c, d⟩ := x; exact ⟨o, ho, (fun v z => by rw [d] at z; cases z), (fun z => by rw [c] at z; simp at z), (fun z => by rw [c] at z; simp at z), (fun z => by rw [c] at z; simp at z)⟩
  | str y =>
    obtain ⟨t, o, ho, c, d⟩ := x
    refine ⟨o, ho, (fun v z => by rw [d] at z; cases z), ?_, ?_, ?_⟩ <;>
    · intro z
      rw [c] at z
      unfold strIterType at z
      split at z <;> simp at z
theorem Rd.inj {H : Hp} {a : Addr} {u v : HO} (hu : ∀ o w, u ≠ .frz o w) (hv : ∀ o w, v ≠ .frz o w) (x : Rd H a u) (y : Rd H a v) : u = v := by
  rcases x with x | ⟨o, x⟩ <;> rcases y with y | ⟨p, y⟩ <;> rw [x] at y
  · exact Option.some.inj y
  · exact absurd (Option.some.inj y) (hu p v)
  · exact absurd (Option.some.inj y).symm (hv o u)
  · have := Option.some.inj y
    injection this
theorem SK.inj {H : Hp} {κ : SK} {xs ys : List V} (x : κ.has H xs) (y : κ.has H ys) : xs = ys := by
  cases κ with
  | lst a => have := Rd.inj (u := .lst xs) (v := .lst ys) (fun _ _ z => nomatch z) (fun _ _ z => nomatch z) x y; injection this
  | tup a => have := Rd.inj (u := .tup xs) (v := .tup ys) (fun _ _ z => nomatch z) (fun _ _ z => nomatch z) x y; injection this
  | str z => exact Eq.trans x (Eq.symm y)
def SK.box : SK → List Addr
  | .lst a => [a]
  | .tup a => [a]
  | .str _ => []
theorem SK.box_some {H : Hp} {κ : SK} {xs : List V} (x : κ.has H xs) {b : Addr} (hb : b ∈ κ.box) : H b ≠ none := by
  cases κ with
  | lst a => have e : b = a := by simpa [SK.box] using hb
             subst e; intro z; rcases x with q | ⟨o, q⟩ <;> (rw [z] at q; cases q)
  | tup a => have e : b = a := by simpa [SK.box] using hb
             subst e; intro z; rcases x with q | ⟨o, q⟩ <;> (rw [z] at q; cases q)
  | str z => simp [SK.box] at hb
section
variable {X : Cx} {pins : List (Addr × Obj)} {σ : St} {H : Hp} {s : Shared}
theorem sk_draws {κ : SK} {it : Addr} {k : Nat} {xs : List V} {A : Around} (I : Inv X pins σ H s) (hv : κ.has H xs) (hit : κ.own it k s.heap) (hn : H it = none) (hh : A.handled = none) :
    ∃ (P : Nat → Value → Prop) (St : Nat → Heap → Prop), Draws X.prog X.w A it (it :: κ.box) xs.length P St ∧ St k s.heap ∧ (∀ i u, P i u → ∃ x, xs[i]? = some x ∧ RelV x u) ∧ (∀ i h, St i h → κ.own it i h) := by
  have ne : ∀ b ∈ κ.box, b ≠ it := fun b hb z => SK.box_some hv hb (by rw [z]; exact hn)
  cases κ with
  | lst a =>
    obtain ⟨_, its, n, r, e⟩ := Rd.ok hv I.hok
    have hl : s.heap.IsList a its.toArray := ⟨_, e, rfl, n, rfl⟩
    have D := Draws.list (prog := X.prog) (w := X.w) hh it a (ne a (by simp [SK.box])) its.toArray
    rw [List.size_toArray, ← r.length] at D
    refine ⟨_, _, D, ⟨hit, hl⟩, fun i u hu => ?_, fun i h st => st.1⟩
    · have hu' : its[i]? = some u := by simpa using hu
      have hlt : i < xs.length := by rw [r.length]; exact (List.getElem?_eq_some_iff.mp hu').1
      obtain ⟨u', e1, e2⟩ := r.get (List.getElem?_eq_getElem hlt)
      rw [hu'] at e1; cases e1
      exact ⟨_, List.getElem?_eq_getElem hlt, e2⟩
  | tup a =>
    obtain ⟨_, its, r, ht⟩ := Rd.ok hv I.hok
    have hl : s.heap.IsTuple a its.toArray := ht
    have D := draws_tuple (prog := X.prog) (w := X.w) hh it a (ne a (by simp [SK.box])) its.toArray
    rw [List.size_toArray, ← r.length] at D
    refine ⟨_, _, D, ⟨hit, hl⟩, fun i u hu => ?_, fun i h st => st.1⟩
    · have hu' : its[i]? = some u := by simpa using hu
      have hlt : i < xs.length := by rw [r.length]; exact (List.getElem?_eq_some_iff.mp hu').1
      obtain ⟨u', e1, e2⟩ := r.get (List.getElem?_eq_getElem hlt)
      rw [hu'] at e1; cases e1
      exact ⟨_, List.getElem?_eq_getElem hlt, e2⟩
  | str z =>
    obtain ⟨t, hit⟩ := hit
    have hv' : xs = signs z := hv
    subst hv'
    have D := draws_str (prog := X.prog) (w := X.w) hh it z t
    have e : (signs z).length = z.cps.size := by simp [signs]
    rw [← e] at D
    refine ⟨_, _, D, hit, fun i u hu => ?_, fun i h st => ⟨t, st⟩⟩
    · obtain ⟨c, u', hc, rfl⟩ := hu
      refine ⟨.str ⟨#[c]⟩, ?_, ⟨u', rfl⟩⟩
      simp only [signs, List.getElem?_map, Array.getElem?_toList, hc, Option.map_some]
theorem Inv.turnedNew {ch : List Addr} {p : Addr} {o : HO} {h' : Heap} {tk : Nat} (I : Inv X pins σ H s)
    (hch : ∀ b ∈ ch, FpOk X pins H b) (k : ∀ b ob, b ∉ ch → s.heap.get? b = some ob → h'.get? b = some ob) (hp : s.heap.objs.size ≤ p) (new : ObjOk X.prog X.w (upd H p o) h' p o) :
    Inv X pins σ (upd H p o) { s with heap := h', toks := tk } := by
  have hn : H p = none := I.hok.fresh hp
  refine I.call (g' := s.gens) (d' := s.drawn) (ch := ch) ⟨fun b u q _ _ hx => k b u hx q, fun b u q _ _ hx => ⟨u.slots, k b u hx q⟩, fun b u q n _ => ?_, fun b u q hx => ⟨u, k b u hx q⟩, fun b xs q => ?_, fun b u xs q => ?_, fun b ps q => ⟨#[], ?_⟩⟩ (fun b u e => ?_) I.bare
    fun b hb => ⟨(hch b hb).2.2.2.1, (hch b hb).2.1, (hch b hb).2.2.2.2.1, (hch b hb).2.2.2.2.2⟩
  · rw [upd_ne (Nat.ne_of_lt (Nat.lt_of_lt_of_le (Heap.lt_size q) hp))]; exact n
  · rw [upd_ne (ne_of_none q hn)]; exact q
  · rw [upd_ne (ne_of_none q hn)]; exact q
  · rw [upd_ne (ne_of_none q hn), q]; simp
  · by_cases hb : b = p
    · subst hb; rw [upd_same] at e; cases e; exact new
    · rw [upd_ne hb] at e
      refine (I.hok b u e).stay (fun c v hc q => k c v (fun hm => ?_) q) (fun c q => by rw [upd_ne (ne_of_none q hn)]; exact q) fun c xs q => by rw [upd_ne (ne_of_none q hn)]; exact q
      have z := (hch c hm).1
      rcases hc with hc | hc
      · rw [hc, e] at z; cases z
      · rw [hc] at z; cases z
end
def Ite (κ : SK) : It :=
  ⟨fun i H => ∃ xs x, κ.has H xs ∧ xs[i]? = some x, fun i H v H' => ∃ p x, v = .ref p ∧ H p = none ∧ H' = upd H p (.tup [.int i, x]) ∧ ∀ xs, κ.has H xs → xs[i]? = some x, fun i H => ∃ xs, κ.has H xs ∧ xs.length = i⟩
theorem turn_enum {P : Program} {w : World} {K : PySem.W.Frag} {elts : List Expr} {x1 : Nat} {tpos : Pos} (κ : SK) (e it : Addr) (hei : e ≠ it) :
    Turn P w K (.Tuple elts x1 tpos) (Ite κ) [e, it] e (fun i h => (∃ old, IsEnum h e it i old) ∧ κ.own it i h) where
  mem := by simp
  obj := fun i h st b hb => by
    obtain ⟨⟨old, he⟩, ho⟩ := st
    simp only [List.mem_cons, List.not_mem_nil, or_false] at hb
    rcases hb with rfl | rfl
    · exact ⟨_, he, fun v z => by
        have z' : Data.fields _ = Data.cell v := z
        cases z'⟩
    · obtain ⟨o, h1, h2, _⟩ := SK.own_obj ho
      exact ⟨o, h1, h2⟩
  keep := fun i h h' st k => by
    obtain ⟨⟨old, he⟩, ho⟩ := st
    exact ⟨⟨old, k e (by simp) _ he⟩, SK.own_at ho fun o q => k it (by simp) o q⟩
  item := by
    intro X hP hw hK hc i pins s σ H E I hf st hg
    subst hP hw hK
    obtain ⟨⟨old, he⟩, ho⟩ := st
    obtain ⟨xs, x, hx, hxi⟩ := hg
    have hlt : i < xs.length := (List.getElem?_eq_some_iff.mp hxi).1
    have hh : X.A.in1.handled = none := I.ok.hd hc
    obtain ⟨Pp, St, D, hst, hrel, hown⟩ := sk_draws (A := X.A.in1) I hx ho (hf it (by simp)).1 hh
    have hef : e ∉ it :: κ.box := fun z => by
      rcases List.mem_cons.mp z with z | z
      · exact hei z
      · exact SK.box_some hx z (hf e (by simp)).1
    refine wpAny_pyNext_enum_itemD D he hst hlt hei hef fun y h' tk hy ho' hst' hT hsz hk => ⟨_, rfl, ?_⟩
    refine wpAny_letOwnedTupleGo_enum ho' fun h'' he'' hs'' => ?_
    obtain ⟨x', hx', rx⟩ := hrel i y hy
    have exx : x' = x := Option.some.inj (hx'.symm.trans hxi)
    subst exx
    have kk : ∀ b ob, b ∉ [e, it] → s.heap.get? b = some ob → h''.get? b = some ob := fun b ob hb q =>
      (hs''.2 b (fun z => hb (by simp [z]))).trans (hk b ob (fun z => hb (by simp [z])) (fun z => hb (by simp [z])) q)
    have ne : s.heap.objs.size ≠ e := Nat.ne_of_gt (Heap.lt_size he)
    have hT' : h''.get? s.heap.objs.size = some { cls := .type "tuple", data := .seq #[.int i tk, y] } := (hs''.2 _ ne).trans hT
    refine ⟨.ref s.heap.objs.size, upd H s.heap.objs.size (.tup [.int i, x']), I.turnedNew (tk := tk + 1) hf kk (Nat.le_refl _) ⟨⟨(by show 2 ≤ sizeLine; decide), _, hT', rfl⟩, [.int i tk, y], .cons ⟨tk, rfl⟩ (.cons rx .nil), _, hT', rfl, 0, rfl⟩, rfl,
      ⟨_, x', rfl, I.hok.fresh (Nat.le_refl _), rfl, fun ys hy' => by rw [SK.inj hy' hx]; exact hxi⟩, ⟨⟨y, by simpa using he''⟩, SK.own_at (hown _ _ hst') fun o q => (hs''.2 it (Ne.symm hei)).trans q⟩, fun b hb => ?_⟩
    obtain ⟨o, hob, _⟩ : ∃ o, s.heap.get? b = some o ∧ True := by
      simp only [List.mem_cons, List.not_mem_nil, or_false] at hb
      rcases hb with rfl | rfl
      · exact ⟨_, he, trivial⟩
      · obtain ⟨o, h1, _⟩ := SK.own_obj ho; exact ⟨o, h1, trivial⟩
    rw [upd_ne (Nat.ne_of_lt (Heap.lt_size hob))]
    exact (hf b hb).1
  done := by
    intro X hP hw hK hc i pins s σ H E I hf st hg
    subst hP hw hK
    obtain ⟨⟨old, he⟩, ho⟩ := st
    obtain ⟨xs, hx, hlen⟩ := hg
    have hh : X.A.in1.handled = none := I.ok.hd hc
    obtain ⟨Pp, St, D, hst, hrel, hown⟩ := sk_draws (A := X.A.in1) I hx ho (hf it (by simp)).1 hh
    have hst' : St xs.length s.heap := by rw [hlen]; exact hst
    refine wpAny_pyNext_enum_endD D he hst' fun h' hx' => ⟨rfl, ?_⟩
    have f := hf it (by simp)
    exact I.turned (t' := s.toks) (fun b o hb q => hx' b o hb q) f.1 f.2.1 f.2.2.2.1 f.2.2.2.2.1 f.2.2.2.2.2
  self := fun _ _ _ _ _ st h => let ⟨⟨_, he⟩, _⟩ := st; wpAny_pyIter_enum he h
open AutoSeq1 (wpAny_loadPart') in
set_option maxHeartbeats 4000000 in
theorem meets_enumerate_newT (l : Addr) (items : Array Value) (n : Nat) (dct : Option Addr) (sl : Array (Option Value)) :
    Meets (Builtin.«enumerate.__new__» ⟨[.type "enumerate", .ref l], []⟩) (fun _ R s => s.heap.get? l = some { cls := .type "tuple", dict := dct, data := .seq items n, slots := sl } ∧
      R (.ok (.ret (.ref (s.heap.push { cls := .type "tuple_iterator", data := .fields #[.ref l, .int 0 0] }).objs.size)))
        { s with heap := (s.heap.push { cls := .type "tuple_iterator", data := .fields #[.ref l, .int 0 0] }).push { cls := .type "enumerate", data := .fields #[.none, .bool false, .ref s.heap.objs.size, rawInt 0, .none, .none] } }) :=
  .of_wp fun prog w A R s h => by
    obtain ⟨hp, g, d, tk, os⟩ := s; obtain ⟨hl, h⟩ := h
    have hsub := sub_enumerate
    have hL : Heap.IsTuple (Shared.heap ⟨hp, g, d, tk, os⟩) l items := ⟨_, hl, rfl, n, rfl⟩
    wp_walk using wpAny_loadPart' hl
    refine wpAny_stack_any fun st => wpAny_pure ?_
    split
    · rename_i c _ _ _ _ _
      cases (c == Value.type "enumerate")
      · wp_walk using wpAny_loadPart' hl, wpAny_pyIter_tuple hL
        exact ⟨_, rfl, h⟩
      · wp_walk using wpAny_loadPart' hl, wpAny_pyIter_tuple hL
        exact ⟨_, rfl, h⟩
    · wp_walk using wpAny_loadPart' hl, wpAny_pyIter_tuple hL
      exact ⟨_, rfl, h⟩
theorem call_enumerate_tuple {prog : Program} {w : World} {A : Around} {E : Value → Shared → Prop} {s : Shared} {l : Addr} {items : Array Value} {Q : Value → Shared → Prop} (hL : s.heap.IsTuple l items)
    (h : ∀ h', IsEnum h' (s.heap.objs.size + 1) s.heap.objs.size 0 .none → h'.IsTupleIter s.heap.objs.size l 0 → h'.objs.size = s.heap.objs.size + 2 →
      (∀ b o, s.heap.get? b = some o → h'.get? b = some o) → Q (.ref (s.heap.objs.size + 1)) { s with heap := h' }) :
    wpAny (model prog w) A (call (.type "enumerate") [.ref l]) Q E s := by
  obtain ⟨⟨c, dct, dt, sl⟩, hl, hc, n, hd⟩ := hL
  replace hc : c = .type "tuple" := hc
  replace hd : dt = .seq items n := hd
  subst hc hd
  refine callType_new F.called_enumerate (by decide) (F.typeCall_enumerate_1 _) (F.newCall_enumerate_1 _) (fun obj => F.args_object_init_2 obj _) F.entry_enumerate_new
    (meets_enumerate_newT l items n dct sl) ⟨hl, ?_⟩
  have hz : (s.heap.push { cls := .type "tuple_iterator", data := .fields #[.ref l, .int 0 0] }).objs.size = s.heap.objs.size + 1 := Heap.size_push ..
  show _ ∧ _
  rw [hz]
  have he : IsEnum ((s.heap.push { cls := .type "tuple_iterator", data := .fields #[.ref l, .int 0 0] }).push
      { cls := .type "enumerate", data := .fields #[.none, .bool false, .ref s.heap.objs.size, rawInt 0, .none, .none] }) (s.heap.objs.size + 1) s.heap.objs.size 0 .none := by
    have := Heap.get?_push_size (s.heap.push { cls := .type "tuple_iterator", data := .fields #[.ref l, .int 0 0] })
      (o := { cls := .type "enumerate", data := .fields #[.none, .bool false, .ref s.heap.objs.size, rawInt 0, .none, .none] }) rfl
    rw [hz] at this; exact this
  refine ⟨⟨_, he, rfl⟩, h _ he ⟨_, Heap.get?_push_of_some _ (Heap.get?_push_size _ rfl), rfl, rfl⟩ (by rw [Heap.size_push, hz]) fun b o x => Heap.get?_push_of_some _ (Heap.get?_push_of_some _ x)⟩
section
variable {X : Cx} {pins : List (Addr × Obj)} {σ : St} {H : Hp} {s : Shared}
theorem call_enum {κ : SK} {xs : List V} {u : Value} {E : Value → Shared → Prop} {Q : Value → Shared → Prop} (I : Inv X pins σ H s) (hv : κ.has H xs) (r : RelV κ.val u)
    (h : ∀ h', IsEnum h' (s.heap.objs.size + 1) s.heap.objs.size 0 .none → κ.own s.heap.objs.size 0 h' → (∀ b o, s.heap.get? b = some o → h'.get? b = some o) → Q (.ref (s.heap.objs.size + 1)) { s with heap := h' }) :
    wpAny (model X.prog X.w) X.A (call (.type "enumerate") [u]) Q E s := by
  cases κ with
  | lst a =>
    cases (show u = Value.ref a from r)
    obtain ⟨_, its, n, rr, e⟩ := Rd.ok hv I.hok
    exact call_enumerate_list ⟨_, e, rfl, n, rfl⟩ fun h' a1 a2 _ a4 => h h' a1 a2 a4
  | tup a =>
    cases (show u = Value.ref a from r)
    obtain ⟨_, its, rr, e⟩ := Rd.ok hv I.hok
    exact call_enumerate_tuple e fun h' a1 a2 _ a4 => h h' a1 a2 a4
  | str x =>
    obtain ⟨t, q⟩ := (show ∃ t, u = Value.str x t from r)
    subst q
    exact call_enumerate_str fun h' a1 a2 _ a4 => h h' a1 ⟨t, a2⟩ a4
def iEnum (ta : TA) : TI := fun σ H R => ta σ H fun vs H1 => ∃ κ : SK, vs = [κ.val] ∧ (∃ xs, κ.has H1 xs) ∧ R (Ite κ) H1
theorem pi_enum {a : Expr} {ta : TA} {p pos : Pos} {elts : List Expr} {x1 : Nat} {tpos : Pos} (hg : Gl X "enumerate") (hm : X.mg "enumerate" = none) (ha : PA X [a] ta)
    (hs : starEach [a] X.env = [(false, eval a X.env)] := by rfl) : PI X (.Tuple elts x1 tpos) (.Call (.Name "enumerate" p) [a] [] pos) (iEnum ta) := by
  intro pins s σ H R I h
  refine Call_ (ld_blt I hg hm boot_enumerate (PyProof.Rows.callWith_type1 (thn (ha pos pins s σ H _ I h) fun us s1 ⟨vs, H1, I1, r1, q1⟩ => ?_) hs rfl))
  obtain ⟨κ, e, ⟨xs, hx⟩, q⟩ := q1
  subst e
  obtain ⟨u, rfl, ru⟩ := vals1 r1
  refine call_enum I1 hx ru fun h' he hi hk => ?_
  refine wpAny_pyIter_enum he ⟨s1.heap.objs.size + 1, [s1.heap.objs.size + 1, s1.heap.objs.size], _, _, H1, rfl, I1.kept (t' := s1.toks) hk, turn_enum κ _ _ (Nat.ne_of_gt (Nat.lt_succ_self _)), ⟨⟨_, he⟩, hi⟩, fun b hb => ?_, q⟩
  have hge : s1.heap.objs.size ≤ b := by
    simp only [List.mem_cons, List.not_mem_nil, or_false] at hb
    rcases hb with rfl | rfl
    · exact Nat.le_succ _
    · exact Nat.le_refl _
  exact I1.fpOk hge (I1.hok.fresh hge)
end
structure ZA (z TI TO i1 i2 : Addr) (fp1 fp2 : List Addr) : Prop where
  TIz : TI ≠ z
  TOz : TO ≠ z
  i1z : i1 ≠ z
  i2z : i2 ≠ z
  TITO : TI ≠ TO
  TIi1 : TI ≠ i1
  TIi2 : TI ≠ i2
  TOi1 : TO ≠ i1
  TOi2 : TO ≠ i2
  i12 : i1 ≠ i2
  z1 : z ∉ fp1
  z2 : z ∉ fp2
  o1 : TO ∉ fp1
  o2 : TO ∉ fp2
  a1 : i2 ∉ fp1
  a2 : i1 ∉ fp2
section
variable {prog : Program} {w : World} {A : Around} {E : Value → Shared → Prop} {s : Shared}
end
section
variable {X : Cx}
end
theorem for_enum {κ : SK} {xs : List V} {g : TG} {tb : TS} {D : Ends} {σ : St} {H : Hp} (Pv : Nat → St → Hp → Prop) (h0 : Pv 0 σ H) (hl : ∀ i σ H, i ≤ xs.length → Pv i σ H → κ.has H xs)
    (hs : ∀ (i : Nat) x σ H p, xs[i]? = some x → Pv i σ H → H p = none → g (.ref p) σ (upd H p (.tup [.int i, x])) fun σ2 H2 => tb { D with nx := Pv (i + 1), ct := Pv (i + 1), bk := D.nx } σ2 H2) (hd : ∀ σ H, Pv xs.length σ H → D.nx σ H) :
    ∃ W : Nat → Nat → St → Hp → Prop, (∃ m, W 0 m σ H) ∧ ∀ i m σ H, W i m σ H →
      ((Ite κ).stop i H ∧ D.nx σ H) ∨ ((Ite κ).go i H ∧ ∃ N : St → Hp → Prop, (∀ σ' H', N σ' H' → ∃ m', m' < m ∧ W (i + 1) m' σ' H') ∧ ∀ x H', (Ite κ).yld i H x H' → g x σ H' fun σ2 H2 => tb { D with nx := N, ct := N, bk := D.nx } σ2 H2) := by
  refine ⟨fun i m σ H => i ≤ xs.length ∧ m = xs.length - i ∧ Pv i σ H, ⟨xs.length, Nat.zero_le _, rfl, h0⟩, fun i m σ H ⟨hi, hm, hp⟩ => ?_⟩
  have a1 := hl i σ H hi hp
  rcases Nat.lt_or_ge i xs.length with lt | ge
  · refine .inr ⟨⟨xs, xs[i], a1, List.getElem?_eq_getElem lt⟩, Pv (i + 1), fun σ' H' hn => ⟨xs.length - (i + 1), by omega, by omega, rfl, hn⟩, fun x H' hy => ?_⟩
    obtain ⟨p, x', rfl, hpn, rfl, e1⟩ := hy
    exact hs i x' σ H p (e1 xs a1) hp hpn
  · have e : i = xs.length := by omega
    subst e
    exact .inl ⟨⟨xs, a1, rfl⟩, hd σ H hp⟩
theorem call_isinst {X : Cx} : CallR X (.builtin "isinstance") (fun vs H Q => ∃ x t T b, vs = [x, .ty T] ∧ TyOf X.K H x t ∧ PySem.W.kitOne X.K t (.type T) = some b ∧ Q (.bl b) H) := by
  intro pins s σ H xs us Q I r h
  obtain ⟨x, t, T, b, rfl, ty, e, q⟩ := h
  obtain ⟨u, v, rfl, ru, rv⟩ := vals2 r
  cases (show v = Value.type T from rv)
  exact isinst_ok I ru ty e fun tk => ⟨.bl b, H, I.tok tk, rfl, q⟩
end L2
namespace L2
open PySem PySem.Spec PyProof.Rows
theorem csc {X : Cx} {scope : Scope} {NL : List Str} {ix : List Nat} (esc : Scope) (N : List Str) (h1 : X.env.scope = esc := by rfl) (h2 : X.N = N := by rfl) (c1 : scope.kind = .function := by rfl)
    (c2 : ∀ y ∈ scope.names, y.2 ≠ .cell := by decide +kernel) (c3 : ∀ y ∈ scope.names, y.2 = .local → scope.names.lookup y.1 = some .local := by decide +kernel)
    (c4 : ∀ y ∈ scope.names, y.2 = .free → esc.names.lookup y.1 = some .cell ∨ esc.names.lookup y.1 = some .free := by decide +kernel)
    (c5 : ∀ j ∈ ix, (N[j]?).bind (fun x => scope.names.lookup x) = some .free := by decide +kernel) : CompScope X scope NL ix where
  kind := c1
  cell := c2
  names := c3
  free := fun y hy hf => by
    have := c4 y hy hf
    rw [← h1] at this
    exact this
  cap := fun j hj => by
    have := c5 j hj
    rw [h2]
    cases e : N[j]? with
    | none => rw [e] at this; cases this
    | some x => rw [e] at this; exact ⟨x, rfl, this⟩
def Has (P : Program) (w : World) (K : PySem.W.Frag) (mg : Str → Option Value) (base : Heap) (x : Str) (k : Nat) (ps : List Str) (sp : Sp) : Prop :=
  ∃ f fd, FnOk P w K mg base CX0 k f fd ps sp ∧ Binds K fd ps [] ∧ PySem.W.keepIn K (.ref f) = true ∧ mg x = some (.ref f)
section
variable {P : Program} {w : World} {K : PySem.W.Frag} {mg : Str → Option Value} {base : Heap}
theorem Has.mono {x : Str} {j k : Nat} {ps : List Str} {sp : Sp} (G : Has P w K mg base x j ps sp) (h : j ≤ k) : Has P w K mg base x k ps sp :=
  let ⟨f, fd, F, r⟩ := G; ⟨f, fd, F.mono h, r⟩
def Df (K : PySem.W.Frag) (mg : Str → Option Value) (x : Str) (st : Stmt) : Prop := ∃ f fd, Fun K x x st f fd ∧ mg x = some (.ref f)
theorem Df.has {x : Str} {st : Stmt} {N ps : List Str} {k : Nat} {sp : Sp} (D : Df K mg x st) (S : FnScope N ps (defScope st))
    (hb : ∀ (kV doc pm : Value) (an : Option Addr) (cdv ct : Value) (us : List Value), us.length = ps.length → bindArgs (PySem.W.fnOf x x (defArgs st) (defBody st) (defScope st) .none kV doc pm an cdv ct) ⟨us, []⟩ = pure (ps.zip us))
    (len : ∀ vs H Q E, sp vs H Q E → vs.length = ps.length)
    (hbody : ∀ (f : Addr) (cdv : Value) (A : Around) (outer : List Env) (s : Shared) (H : Hp) (vs : List V) (Q : VK) (E : XK), Room k (A.deeper (envOfC x (defScope st) s.heap.objs.size f cdv)) → sp vs H Q E →
      ∃ t, PSs (cxOf CX0 P w K mg base N x (defScope st) f cdv A outer s H E).nox (defBody st) t ∧ t { nx := fun _ H' => Q .non H', rt := Q } (start N vs) H) : Has P w K mg base x (k + 1) ps sp := by
  obtain ⟨f, fd, F, m⟩ := D
  exact ⟨f, fd, F.ok S len fun cdv A outer s H vs Q E hr h => hbody f cdv A outer s H vs Q E hr h, F.binds hb, F.kp, m⟩
end
theorem pe_callH {X : Cx} {x : Str} {k : Nat} {ps : List Str} {sp : Sp} {p pos : Pos} {e : Expr} {es : List Expr} {t : TA} (G : Has X.prog X.w X.K X.mg X.base x k ps sp) (hr : Room k X.A) (hg : Gl X x) (ha : PA X (e :: es) t)
    (hdb : (x == ("__debug__" : Str)) = false := by decide) (he : starEach (e :: es) X.env = (false, eval e X.env) :: starEach es X.env := by rfl) (hpl : (backTo pos (starEach es X.env)).any (·.1) = false := by rfl) :
    PE X (.Call (.Name x p) (e :: es) [] pos) (tCall sp [] E0 t) := by
  obtain ⟨f, fd, F, b, kp, m⟩ := G
  exact pe_call F hr hg m kp b .nil pass0 ha hdb he hpl
structure Blt (mg : Str → Option Value) : Prop where
  len : mg "len" = none
  range : mg "range" = none
  zip : mg "zip" = none
  enumerate : mg "enumerate" = none
  max : mg "max" = none
  min : mg "min" = none
  int_ : mg "int" = none
  str_ : mg "str" = none
  bool_ : mg "bool" = none
  list_ : mg "list" = none
  tuple_ : mg "tuple" = none
  isinstance : mg "isinstance" = none
abbrev Pool (H : Hp) (p : Addr) : Prop := ∃ x y : Int, H p = some (.lst [.int x, .int y])
structure Kp (p : Addr) (H H' : Hp) : Prop where
  pool : Pool H' p
  keep : ∀ b o, b ≠ p → H b = some o → H' b = some o
section
variable {p q : Addr} {H H1 H2 : Hp} {o : HO}
theorem Kp.refl (h : Pool H p) : Kp p H H := ⟨h, fun _ _ _ e => e⟩
theorem Kp.trans (a : Kp p H H1) (b : Kp p H1 H2) : Kp p H H2 := ⟨b.pool, fun c u hc e => b.keep c u hc (a.keep c u hc e)⟩
theorem Kp.new (a : Kp p H H1) (hq : H1 q = none) : Kp p H (upd H1 q o) := by
  obtain ⟨⟨x, y, e⟩, k⟩ := a
  refine ⟨⟨x, y, by rw [upd_ne (ne_of_none e hq)]; exact e⟩, fun c u hc h => ?_⟩
  have := k c u hc h
  rw [upd_ne (ne_of_none this hq)]; exact this
theorem Kp.write (a : Kp p H H1) (hq : H q = none) (hp : q ≠ p) : Kp p H (upd H1 q o) := by
  obtain ⟨⟨x, y, e⟩, k⟩ := a
  refine ⟨⟨x, y, by rw [upd_ne (Ne.symm hp)]; exact e⟩, fun c u hc h => ?_⟩
  rw [upd_ne (ne_of_none h hq)]; exact k c u hc h
theorem Pool.ne (h : Pool H p) (hq : H q = none) : q ≠ p := by
  obtain ⟨x, y, e⟩ := h
  exact Ne.symm (ne_of_none e hq)
end
theorem bt_len : bootBuiltins "len" = some (.builtin "len") := by decide +kernel
theorem bt_max : bootBuiltins "max" = some (.builtin "max") := by decide +kernel
theorem bt_min : bootBuiltins "min" = some (.builtin "min") := by decide +kernel
theorem bt_isinstance : bootBuiltins "isinstance" = some (.builtin "isinstance") := by decide +kernel
theorem bt_int : bootBuiltins "int" = some (.type "int") := by decide +kernel
theorem bt_bool : bootBuiltins "bool" = some (.type "bool") := by decide +kernel
theorem bt_tuple : bootBuiltins "tuple" = some (.type "tuple") := by decide +kernel
theorem Same.new {H0 H : Hp} {q : Addr} {o : HO} (h : Same H0 H) (hq : H q = none) : Same H0 (upd H q o) := fun b u e => by
  have := h b u e
  rw [upd_ne (ne_of_none this hq)]; exact this
theorem Same.write {H0 H : Hp} {q : Addr} {o : HO} (h : Same H0 H) (hq : H0 q = none) : Same H0 (upd H q o) := fun b u e => by
  rw [upd_ne (ne_of_none e hq)]; exact h b u e
end L2
namespace L2
open PySem PySem.Spec PyProof.Rows
section
variable {X : Cx}
theorem strsAre_of : ∀ {ys : List Str} {us : List Value}, Vals (ys.map V.str) us → StrsAre us ys
  | [], [], _ => .nil
  | [], _ :: _, h => nomatch h
  | _ :: _, [], h => nomatch h
  | y :: r, u :: us, h => by
    cases h with
    | cons a b =>
      obtain ⟨t, rfl⟩ := a
      exact .cons y t (strsAre_of b)
theorem mt_join : MtR X "str.join" (fun x vs H Q => ∃ z a ys, x = .str z ∧ vs = [.ref a] ∧ SqL X.K H a (ys.map V.str) ∧ (ys.map (·.length)).sum + ys.length * z.length ≤ 16777216 ∧ Q (.str (Txt.join z ys)) H) := by
  intro pins s σ H x xs v us Q I rx rv h
  obtain ⟨z, a, ys, rfl, rfl, hl, hok, q⟩ := h
  obtain ⟨t, rfl⟩ := rx
  obtain ⟨u, rfl, ru⟩ := rv.one
  cases (show u = Value.ref a from ru)
  obtain ⟨its, r, ht, hz⟩ := I.list hl
  exact join_list ht.isList (strsAre_of (by simpa using r)) hok fun t' k => ⟨.str _, H, I.tok k, ⟨t', rfl⟩, q⟩
def eqAtJ (xs ys : List V) (j : Nat) : Bool := match xs[j]?, ys[j]? with
  | some x, some y => eqV x y
  | _, _ => false
def eqVs (xs ys : List V) : Bool := xs.length == ys.length && (List.range xs.length).all (eqAtJ xs ys)
theorem flat_strs (ns : List Str) : (ns.map V.str).all flatV = true := by
  rw [List.all_eq_true]; intro x hx; obtain ⟨n, _, rfl⟩ := List.mem_map.mp hx; rfl
theorem eqAt_items {A : Around} {s : Shared} {xs ys : List V} {us ws : List Value} (r1 : Vals xs us) (r2 : Vals ys ws) (f1 : xs.all flatV = true) (f2 : ys.all flatV = true) (j : Nat) (h1 : j < us.toArray.size) (h2 : j < ws.toArray.size) :
    SeqAt.EqAt A s us.toArray[j] ws.toArray[j] (eqAtJ xs ys j) := by
  have g1 : j < xs.length := by rw [r1.length]; simpa using h1
  have g2 : j < ys.length := by rw [r2.length]; simpa using h2
  obtain ⟨u, e1, q1⟩ := r1.get (List.getElem?_eq_getElem g1)
  obtain ⟨v, e2, q2⟩ := r2.get (List.getElem?_eq_getElem g2)
  have d1 : us.toArray[j] = u := by
    rw [List.getElem?_eq_getElem (by simpa using h1)] at e1
    simpa using Option.some.inj e1
  have d2 : ws.toArray[j] = v := by
    rw [List.getElem?_eq_getElem (by simpa using h2)] at e2
    simpa using Option.some.inj e2
  rw [d1, d2]
  unfold eqAtJ
  rw [List.getElem?_eq_getElem g1, List.getElem?_eq_getElem g2]
  exact eqAt_V q1 q2 (List.all_eq_true.mp f1 _ (List.getElem_mem g1)) (List.all_eq_true.mp f2 _ (List.getElem_mem g2))
theorem op_eq_lst (hu : X.A.units < cLine) : OpR X (compareOp .Eq) (fun x y H Q => ∃ a b xs ys, x = .ref a ∧ y = .ref b ∧ SqL X.K H a xs ∧ SqL X.K H b ys ∧ xs.all flatV = true ∧ ys.all flatV = true ∧ Q (.bl (eqVs xs ys)) H) := by
  intro pins s σ H x y v u Q I rx ry h
  obtain ⟨a, b, xs, ys, rfl, rfl, h1, h2, f1, f2, q⟩ := h
  cases (show v = Value.ref a from rx)
  cases (show u = Value.ref b from ry)
  obtain ⟨us, r1, l1, _⟩ := I.list h1
  obtain ⟨ws, r2, l2, _⟩ := I.list h2
  have e1 := r1.length
  have e2 := r2.length
  by_cases hl : xs.length = ys.length
  · refine SeqAt.eq_listAt (e := eqAtJ xs ys) l1.isList l2.isList (by simp; omega) hu (fun j g1 g2 => eqAt_items r1 r2 f1 f2 j g1 g2) ⟨.bl _, H, I, rfl, ?_⟩
    have : eqVs xs ys = (List.range us.toArray.size).all (eqAtJ xs ys) := by
      unfold eqVs
      rw [List.size_toArray, ← e1, beq_iff_eq.mpr hl, Bool.true_and]
    rw [← this]; exact q
  · refine SeqAt.eq_list_lengthsAt l1.isList l2.isList (by simp; omega) hu ⟨.bl _, H, I, rfl, ?_⟩
    have : eqVs xs ys = false := by
      unfold eqVs
      have : (xs.length == ys.length) = false := by simpa using hl
      rw [this]; rfl
    rw [this] at q; exact q
end
section
variable {NL : List Str} {ix : List Nat} {g : TG} {tt : TT} {te : TE} {σ : St} {H1 : Hp} {Qs : Hp → Prop} {acc : Addr}
theorem comp_lst {K : PySem.W.Frag} {a : Addr} {xs : List V} (hn : xs.length < 1000) (Pv : Nat → List V → Hp → Prop)
    (hl : ∀ i ys H2, Pv i ys H2 → SqL K H2 a xs) (hacc : ∀ i ys H2, Pv i ys H2 → H2 acc = some (.lst ys) ∧ ys.length ≤ i) (h0 : Pv 0 [] (upd H1 acc (.lst []))) (hstop : ∀ ys H2, Pv xs.length ys H2 → Qs H2)
    (hturn : ∀ i x ys H2, xs[i]? = some x → Pv i ys H2 → g x (comp0 NL ix σ) H2 fun σ' H4 => σ'.drop NL.length = ix.map (fun j => σ.getD j none) ∧ tt σ' H4 fun b H5 =>
      if b = true then te σ' H5 fun v H6 => H6 acc = some (.lst ys) ∧ Pv (i + 1) (ys ++ [v]) (upd H6 acc (.lst (ys ++ [v]))) else Pv (i + 1) ys H5) :
    ∃ W : Nat → Nat → List V → Hp → Prop, (∃ m, W 0 m [] (upd H1 acc (.lst []))) ∧
    ∀ i m ys H2, W i m ys H2 → H2 acc = some (.lst ys) ∧ ys.length < sizeLine ∧
      (((Itl K a).stop i H2 ∧ Qs H2) ∨ ((Itl K a).go i H2 ∧ ∃ N : List V → Hp → Prop, (∀ ys' H', N ys' H' → ∃ m', m' < m ∧ W (i + 1) m' ys' H') ∧
        ∀ x H3, (Itl K a).yld i H2 x H3 → g x (comp0 NL ix σ) H3 fun σ' H4 => σ'.drop NL.length = ix.map (fun j => σ.getD j none) ∧ tt σ' H4 fun b H5 =>
          if b = true then te σ' H5 fun v H6 => H6 acc = some (.lst ys) ∧ N (ys ++ [v]) (upd H6 acc (.lst (ys ++ [v]))) else N ys H5)) := by
  refine comp_by xs.length hn Pv hacc h0 (fun ys H2 hp => ⟨⟨xs, hl _ _ _ hp, Nat.le_refl _⟩, hstop ys H2 hp⟩) fun i ys H2 hi hp => ?_
  have hs := hl _ _ _ hp
  refine ⟨⟨xs, xs[i], hs, List.getElem?_eq_getElem hi⟩, ?_⟩
  rintro x H3 ⟨rfl, hx⟩
  exact hturn i x ys H3 (hx xs hs) hp
end
theorem kit_int_bool (K : PySem.W.Frag) : PySem.W.kitOne K (.type "int") (.type "bool") = some false := by rfl
theorem kit_same (K : PySem.W.Frag) (T : String) : PySem.W.kitOne K (.type T) (.type T) = some true := by
  unfold PySem.W.kitOne
  rw [if_pos (beq_self_eq_true _)]
abbrev Deck (H : Hp) (p : Addr) (c : Int) : Prop := ∃ x y z : Int, H p = some (.lst [.int x, .int y, .int z]) ∧ 0 ≤ z ∧ z ≤ c
structure Kd (p : Addr) (c : Int) (H H' : Hp) : Prop where
  deck : Deck H' p c
  keep : ∀ b o, b ≠ p → H b = some o → H' b = some o
section
variable {p q : Addr} {H H1 H2 : Hp} {o : HO} {c d : Int}
theorem Deck.mono (h : Deck H p c) (e : c ≤ d) : Deck H p d := let ⟨x, y, z, a, b, f⟩ := h; ⟨x, y, z, a, b, Int.le_trans f e⟩
theorem Kd.mono (h : Kd p c H H1) (e : c ≤ d) : Kd p d H H1 := ⟨h.deck.mono e, h.keep⟩
theorem Kd.refl (h : Deck H p c) : Kd p c H H := ⟨h, fun _ _ _ e => e⟩
theorem Kd.trans (a : Kd p c H H1) (b : Kd p d H1 H2) : Kd p d H H2 := ⟨b.deck, fun k u hc e => b.keep k u hc (a.keep k u hc e)⟩
theorem Kd.new (a : Kd p c H H1) (hq : H1 q = none) : Kd p c H (upd H1 q o) := by
  obtain ⟨⟨x, y, z, e, r⟩, k⟩ := a
  refine ⟨⟨x, y, z, by rw [upd_ne (ne_of_none e hq)]; exact e, r⟩, fun b u hc h => ?_⟩
  have := k b u hc h
  rw [upd_ne (ne_of_none this hq)]; exact this
theorem Kd.write (a : Kd p c H H1) (hq : H q = none) (hp : q ≠ p) : Kd p c H (upd H1 q o) := by
  obtain ⟨⟨x, y, z, e, r⟩, k⟩ := a
  refine ⟨⟨x, y, z, by rw [upd_ne (Ne.symm hp)]; exact e, r⟩, fun b u hc h => ?_⟩
  rw [upd_ne (ne_of_none h hq)]; exact k b u hc h
theorem Deck.ne (h : Deck H p c) (hq : H q = none) : q ≠ p := by
  obtain ⟨x, y, z, e, _⟩ := h
  exact Ne.symm (ne_of_none e hq)
theorem Kd.same (a : Kd p c H H1) (s : Same H1 H2) : Kd p c H H2 := by
  obtain ⟨⟨x, y, z, e, r⟩, k⟩ := a
  exact ⟨⟨x, y, z, s _ _ e, r⟩, fun b u hc h => s _ _ (k b u hc h)⟩
theorem Kd.fresh (a : Kd p c H H1) (hq : H1 q = none) : H q = none := by
  cases e : H q with
  | none => rfl
  | some u =>
    have := a.keep q u (a.deck.ne hq) e
    rw [hq] at this; cases this
theorem ne_deck {o : HO} (h : Deck H p c) (e : H q = some o) (ho : ∀ x y z : Int, o ≠ .lst [.int x, .int y, .int z]) : q ≠ p := fun k => by
  obtain ⟨x, y, z, hp, _⟩ := h
  subst k
  rw [hp] at e
  exact ho x y z (Option.some.inj e).symm
end
end L2
namespace L2
open PySem PySem.Spec PyProof.Rows
section
variable {X : Cx}
theorem op_ne_lst (hu : X.A.units < cLine) : OpR X (compareOp .NotEq) (fun x y H Q => ∃ a b xs ys, x = .ref a ∧ y = .ref b ∧ SqL X.K H a xs ∧ SqL X.K H b ys ∧ xs.all flatV = true ∧ ys.all flatV = true ∧ Q (.bl (!eqVs xs ys)) H) := by
  intro pins s σ H x y v u Q I rx ry h
  obtain ⟨a, b, xs, ys, rfl, rfl, h1, h2, f1, f2, q⟩ := h
  cases (show v = Value.ref a from rx)
  cases (show u = Value.ref b from ry)
  obtain ⟨us, r1, l1, _⟩ := I.list h1
  obtain ⟨ws, r2, l2, _⟩ := I.list h2
  have e1 := r1.length
  have e2 := r2.length
  by_cases hl : xs.length = ys.length
  · refine SeqAt.RcNeAt.lists (e := eqAtJ xs ys) l1.isList l2.isList (by simp; omega) hu (fun j g1 g2 => eqAt_items r1 r2 f1 f2 j g1 g2) _ _ _ _ ⟨.bl _, H, I, rfl, ?_⟩
    have : eqVs xs ys = (List.range us.toArray.size).all (eqAtJ xs ys) := by
      unfold eqVs
      rw [List.size_toArray, ← e1, beq_iff_eq.mpr hl, Bool.true_and]
    rw [← this]; exact q
  · refine SeqAt.RcNeAt.lists_lengths l1.isList l2.isList (by simp; omega) hu _ _ _ _ ⟨.bl _, H, I, rfl, ?_⟩
    have : eqVs xs ys = false := by
      unfold eqVs
      have : (xs.length == ys.length) = false := by simpa using hl
      rw [this]; rfl
    rw [this] at q; exact q
end
end L2
namespace L2
open PySem PySem.Spec PyProof.Rows
section
variable {X : Cx}
end
end L2
namespace L2
open PySem.W PyProof.Rows
section
variable {α β : Type} {n : Nat} {lt : Nat → Nat → Bool}
structure TotB (n : Nat) (lt : Nat → Nat → Bool) : Prop where
  asym : ∀ i j, lt i j = true → lt j i = false
  tr : ∀ i j k, lt j i = false → lt k j = false → lt k i = false
  tot : ∀ i j, i < n → j < n → lt i j = false → lt j i = false → i = j
def PermN (n : Nat) (p : Array Nat) : Prop := p.toList.Perm (List.range n)
theorem PermN.sz {p : Array Nat} (h : PermN n p) : p.size = n := by
  have := List.Perm.length_eq h
  simpa using this
theorem PermN.below {p : Array Nat} (h : PermN n p) (h0 : 0 < n) (k : Nat) : p.getD k 0 < n := by
  rw [Array.getD_eq_getD_getElem?]
  cases e : p[k]? with
  | none => exact h0
  | some x =>
    have : x ∈ p.toList := by
      have := Array.mem_of_getElem? e
      exact Array.mem_toList_iff.mpr this
    exact List.mem_range.mp ((List.Perm.mem_iff h).mp this)
theorem PermN.inj {p : Array Nat} (h : PermN n p) {i j : Nat} (hi : i < n) (hj : j < n) (e : p.getD i 0 = p.getD j 0) : i = j := by
  have nd : p.toList.Nodup := (List.Perm.nodup_iff h).mpr List.nodup_range
  have s := h.sz
  have hi' : i < p.toList.length := by rw [Array.length_toList, s]; exact hi
  have hj' : j < p.toList.length := by rw [Array.length_toList, s]; exact hj
  rw [Array.getD_eq_getD_getElem?, Array.getD_eq_getD_getElem?, Array.getElem?_eq_getElem (by omega), Array.getElem?_eq_getElem (by omega)] at e
  have e' : p.toList[i] = p.toList[j] := by simpa using e
  exact (List.getElem_inj nd).mp e'
variable (o : TotB n lt)
include o
end
open PySem PySem.Spec
def shV : V → Nat
  | .int _ => 1
  | .str _ => 2
  | _ => 0
def ltV : V → V → Bool
  | .int i, .int j => decide (i < j)
  | .str a, .str b => decide (a.cps.toList < b.cps.toList)
  | _, _ => false
def lexV : List V → List V → Bool
  | x :: xs, y :: ys => if x = y then lexV xs ys else ltV x y
  | [], _ :: _ => true
  | _, _ => false
theorem str_eq {a b : Str} (h : a.cps.toList = b.cps.toList) : a = b := by
  obtain ⟨x⟩ := a; obtain ⟨y⟩ := b
  have : x = y := Array.toList_inj.mp h
  rw [this]
theorem two_kinds {x y : V} (hs : shV x = shV y) (h0 : shV x ≠ 0) : (∃ i j, x = .int i ∧ y = .int j) ∨ ∃ a b, x = .str a ∧ y = .str b := by
  cases x <;> cases y <;> simp [shV] at hs h0 ⊢
theorem ltV_asym {x y : V} (h : ltV x y = true) : ltV y x = false := by
  cases x <;> cases y <;> simp [ltV] at h ⊢
  · omega
  · exact List.not_lt.mp (List.lt_asymm h)
theorem ltV_tot {x y : V} (hs : shV x = shV y) (h0 : shV x ≠ 0) (h1 : ltV x y = false) (h2 : ltV y x = false) : x = y := by
  rcases two_kinds hs h0 with ⟨i, j, rfl, rfl⟩ | ⟨a, b, rfl, rfl⟩
  · have h1' : ¬ i < j := of_decide_eq_false h1
    have h2' : ¬ j < i := of_decide_eq_false h2
    rw [show i = j by omega]
  · have h1' : ¬ a.cps.toList < b.cps.toList := of_decide_eq_false h1
    have h2' : ¬ b.cps.toList < a.cps.toList := of_decide_eq_false h2
    rw [str_eq (List.le_antisymm (List.not_lt.mp h2') (List.not_lt.mp h1'))]
theorem ltV_tr {x y z : V} (hs : shV x = shV y) (ht : shV y = shV z) (h0 : shV x ≠ 0) (h1 : ltV y x = false) (h2 : ltV z y = false) : ltV z x = false := by
  rcases two_kinds hs h0 with ⟨i, j, rfl, rfl⟩ | ⟨a, b, rfl, rfl⟩
  · rcases two_kinds ht (by simp [shV]) with ⟨_, k, e, rfl⟩ | ⟨_, _, e, _⟩
    · have h1' : ¬ j < i := of_decide_eq_false h1
      cases e
      have h2' : ¬ k < j := of_decide_eq_false h2
      exact decide_eq_false (by omega)
    · cases e
  · rcases two_kinds ht (by simp [shV]) with ⟨_, _, e, _⟩ | ⟨_, c, e, rfl⟩
    · cases e
    · cases e
      have h1' : ¬ b.cps.toList < a.cps.toList := of_decide_eq_false h1
      have h2' : ¬ c.cps.toList < b.cps.toList := of_decide_eq_false h2
      exact decide_eq_false (List.not_lt.mpr (List.le_trans (List.not_lt.mp h1') (List.not_lt.mp h2')))
theorem lexV_asym : ∀ (xs ys : List V), lexV xs ys = true → lexV ys xs = false
  | x :: xs, y :: ys, h => by
    unfold lexV at h ⊢
    by_cases e : x = y
    · rw [if_pos e] at h; rw [if_pos e.symm]; exact lexV_asym xs ys h
    · rw [if_neg e] at h; rw [if_neg (Ne.symm e)]; exact ltV_asym h
  | [], _ :: _, _ => rfl
  | [], [], h => by cases h
  | _ :: _, [], h => by cases h
theorem lexV_tot : ∀ (xs ys : List V), xs.map shV = ys.map shV → 0 ∉ xs.map shV → lexV xs ys = false → lexV ys xs = false → xs = ys
  | x :: xs, y :: ys, hs, h0, h1, h2 => by
    simp only [List.map_cons, List.cons.injEq] at hs
    simp only [List.map_cons, List.mem_cons, not_or] at h0
    unfold lexV at h1 h2
    by_cases e : x = y
    · rw [if_pos e] at h1; rw [if_pos e.symm] at h2
      rw [e, lexV_tot xs ys hs.2 h0.2 h1 h2]
    · rw [if_neg e] at h1; rw [if_neg (Ne.symm e)] at h2
      exact absurd (ltV_tot hs.1 (Ne.symm h0.1) h1 h2) e
  | [], [], _, _, _, _ => rfl
  | [], _ :: _, hs, _, _, _ => by cases hs
  | _ :: _, [], hs, _, _, _ => by cases hs
theorem lexV_tr : ∀ (xs ys zs : List V), xs.map shV = ys.map shV → ys.map shV = zs.map shV → 0 ∉ xs.map shV → lexV ys xs = false → lexV zs ys = false → lexV zs xs = false
  | x :: xs, y :: ys, z :: zs, hs, ht, h0, h1, h2 => by
    simp only [List.map_cons, List.cons.injEq] at hs ht
    simp only [List.map_cons, List.mem_cons, not_or] at h0
    unfold lexV at h1 h2 ⊢
    by_cases e : y = x
    · rw [if_pos e] at h1
      by_cases f : z = y
      · rw [if_pos f] at h2; rw [if_pos (f.trans e)]; exact lexV_tr xs ys zs hs.2 ht.2 h0.2 h1 h2
      · rw [if_neg f] at h2; rw [if_neg (fun q => f (q.trans e.symm)), ← e]; exact h2
    · rw [if_neg e] at h1
      by_cases f : z = y
      · rw [if_pos f] at h2; rw [if_neg (fun q => e (f.symm.trans q)), f]; exact h1
      · rw [if_neg f] at h2
        by_cases g : z = x
        · exact absurd (ltV_tot hs.1.symm (by rw [← hs.1]; exact Ne.symm h0.1) h1 (by rw [← g]; exact h2)) e
        · rw [if_neg g]; exact ltV_tr hs.1 ht.1 (Ne.symm h0.1) h1 h2
  | [], [], [], _, _, _, _, _ => rfl
  | [], _ :: _, _, hs, _, _, _, _ => by cases hs
  | _ :: _, [], _, hs, _, _, _, _ => by cases hs
  | [], [], _ :: _, _, ht, _, _, _ => by cases ht
  | _ :: _, _ :: _, [], _, ht, _, _, _ => by cases ht
structure Keys (n : Nat) (K : Nat → List V) (sh : List Nat) : Prop where
  shp : ∀ i, (K i).map shV = sh
  ne : sh ≠ []
  z : 0 ∉ sh
  inj : ∀ i j, i < n → j < n → K i = K j → i = j
theorem Keys.tot {n : Nat} {K : Nat → List V} {sh : List Nat} (k : Keys n K sh) : TotB n (fun i j => lexV (K i) (K j)) where
  asym := fun i j h => lexV_asym _ _ h
  tr := fun i j l h1 h2 => lexV_tr _ _ _ ((k.shp i).trans (k.shp j).symm) ((k.shp j).trans (k.shp l).symm) (by rw [k.shp]; exact k.z) h1 h2
  tot := fun i j hi hj h1 h2 => k.inj i j hi hj (lexV_tot _ _ ((k.shp i).trans (k.shp j).symm) (by rw [k.shp]; exact k.z) h1 h2)
section
variable {prog : Program} {w : World} {A : Around} {E : Value → Shared → Prop} {s : Shared} {Q : Bool → Shared → Prop}
def KeysOn (h : Heap) (ks : List Value) (K : Nat → List V) : Prop := ∀ (i : Nat) (v : Value), ks[i]? = some v → ∃ a its, v = .ref a ∧ IsTup h a its.toArray ∧ Vals (K i) its
theorem KeysOn.keeps {h h' : Heap} {ks : List Value} {K : Nat → List V} (x : KeysOn h ks K) (k : ∀ b o, o.cls = .type "tuple" → h.get? b = some o → h'.get? b = some o) : KeysOn h' ks K := fun i v hv => by
  obtain ⟨a, its, rfl, ⟨o, ho, hc, r⟩, q⟩ := x i v hv
  exact ⟨a, its, rfl, ⟨o, k _ _ hc ho, hc, r⟩, q⟩
variable {n : Nat} {K : Nat → List V} {sh : List Nat} {ks : List Value}
end
end L2
namespace L2
open PySem PySem.Spec PyProof.Rows PySem.W
section
variable {prog : Program} {w : World} {A : Around} {E : Value → Shared → Prop} {s : Shared} {K : Nat → List V} {sh : List Nat} {vs : List Value}
end
section
variable {X : Cx}
end
end L2
namespace L2
open PySem PySem.Spec PyProof.Rows PySem.W
def codeO (c : Addr) (qual : Str) : HO := .ext fun h => h.CodeRec (.ref c) qual
def LamAt (P : Addr) (lp : Pos) (qual : Str) (H : Hp) : Prop := ∃ ps, H P = some (.tbl ps) ∧ TriplesOk ps.toList ∧ (codeAmong lp ps.toList = none ∨ ∃ c, codeAmong lp ps.toList = some (.ref c) ∧ H c = some (codeO c qual))
abbrev Lm := Addr × Pos × Str
def Lams (ls : List Lm) (H : Hp) : Prop := ∀ l ∈ ls, LamAt l.1 l.2.1 l.2.2 H
structure Kt (ls : List Lm) (H H' : Hp) : Prop where
  lam : Lams ls H'
  keep : ∀ b o, (∀ ps, o ≠ .tbl ps) → H b = some o → H' b = some o
  here : ∀ b, H' b = none → H b = none
section
variable {P q : Addr} {lp : Pos} {qual : Str} {H H1 H2 : Hp} {o : HO} {ls : List Lm} {xs : List V}
theorem LamAt.same (a : LamAt P lp qual H) (s : Same H H1) : LamAt P lp qual H1 := by
  obtain ⟨ps, a, b, c⟩ := a
  refine ⟨ps, s _ _ a, b, ?_⟩
  rcases c with c | ⟨d, c, e⟩
  · exact .inl c
  · exact .inr ⟨d, c, s _ _ e⟩
theorem LamAt.start (h : H P = some (.tbl #[])) : LamAt P lp qual H := ⟨#[], h, trivial, .inl rfl⟩
theorem Lams.same (a : Lams ls H) (s : Same H H1) : Lams ls H1 := fun l hl => (a l hl).same s
theorem LamAt.write (a : LamAt P lp qual H) (h : H q = some (.lst xs)) : LamAt P lp qual (upd H q o) := by
  obtain ⟨ps, a, b, c⟩ := a
  refine ⟨ps, by rw [upd_ne (ne_of a h (by intro z; cases z))]; exact a, b, ?_⟩
  rcases c with c | ⟨d, c, e⟩
  · exact .inl c
  · exact .inr ⟨d, c, by rw [upd_ne (ne_of e h (by intro z; cases z))]; exact e⟩
theorem Kt.refl (a : Lams ls H) : Kt ls H H := ⟨a, fun _ _ _ e => e, fun _ e => e⟩
theorem Kt.trans (a : Kt ls H H1) (b : Kt ls H1 H2) : Kt ls H H2 := ⟨b.lam, fun c u hc e => b.keep c u hc (a.keep c u hc e), fun c e => a.here c (b.here c e)⟩
theorem Kt.same (a : Kt ls H H1) (s : Same H1 H2) : Kt ls H H2 := ⟨a.lam.same s, fun c u hc e => s _ _ (a.keep c u hc e), fun c e => a.here c (s.free e)⟩
theorem Kt.of (s : Same H H1) (a : Lams ls H) : Kt ls H H1 := (Kt.refl a).same s
theorem Kt.write (a : Kt ls H H1) (hq : H q = none) (h : H1 q = some (.lst xs)) : Kt ls H (upd H1 q o) :=
  ⟨fun l hl => (a.lam l hl).write h, fun b u hb e => by rw [upd_ne (ne_of_none e hq)]; exact a.keep b u hb e, fun b e => by
    by_cases z : b = q
    · rw [z, upd_same] at e; cases e
    · rw [upd_ne z] at e; exact a.here b e⟩
theorem Kt.lst (a : Kt ls H H1) (h : H q = some (.lst xs)) : H1 q = some (.lst xs) := a.keep _ _ (fun _ z => by cases z) h
theorem Kt.tup (a : Kt ls H H1) (h : H q = some (.tup xs)) : H1 q = some (.tup xs) := a.keep _ _ (fun _ z => by cases z) h
theorem Kt.seq {K : PySem.W.Frag} (a : Kt ls H H1) (h : SqL K H q xs) : SqL K H1 q xs := by
  rcases h with (h | ⟨ob, h⟩) | h
  · exact .inl (.inl (a.lst h))
  · exact .inl (.inr ⟨ob, a.keep _ _ (fun _ z => by cases z) h⟩)
  · exact .inr h
end
section
variable {X : Cx} {pins : List (Addr × Obj)} {σ : St} {H : Hp} {s : Shared}
end
end L2
namespace L2
open PySem PySem.Spec PyProof.Rows PySem.W
structure TabAt (base : Heap) (mg : Str → Option Value) (nm : Str) (T : Addr) : Prop where
  fn : ∃ a o fd c, mg nm = some (.ref a) ∧ base.get? a = some o ∧ o.data = .func fd ∧ fd.code = .ref c ∧ CodeHd base c T
  blt : base.BuiltinsAt mg T
inductive Two {α β : Type} (R : α → β → Prop) : List α → List β → Prop
  | nil : Two R [] []
  | cons {a b xs ys} : R a b → Two R xs ys → Two R (a :: xs) (b :: ys)
end L2
namespace L2
open PySem PySem.Spec PyProof.Rows PySem.W
theorem ix_listK {X : Cx} (K : PySem.W.Frag) (hK : X.K = K := by rfl) : IxR X (rIxL K) := by
  subst hK; exact ix_list
end L2
namespace L2
open PySem PySem.Spec PyProof.Rows PySem.W
section
variable {X : Cx} {k : Nat}
end
end L2
namespace L2
open PySem PySem.Spec PyProof.Rows PySem.W
theorem SqL.keepS {K : PySem.W.Frag} {H H1 : Hp} {q : Addr} {xs : List V} (h : SqL K H q xs) (s : Same H H1) : SqL K H1 q xs := by
  rcases h with (h | ⟨ob, h⟩) | h
  · exact .inl (.inl (s _ _ h))
  · exact .inl (.inr ⟨ob, s _ _ h⟩)
  · exact .inr h
end L2
namespace L2
open PySem PySem.Spec PyProof.Rows PySem.W
section
variable {X : Cx} {k : Nat}
theorem eqVs_refl {us : List V} (h : us.all flatV = true) (hr : ∀ x ∈ us, eqV x x = true) : eqVs us us = true := by
  unfold eqVs
  rw [beq_self_eq_true, Bool.true_and, List.all_eq_true]
  intro j hj
  have hj' := List.mem_range.mp hj
  unfold eqAtJ
  rw [List.getElem?_eq_getElem hj']
  exact hr _ (List.getElem_mem hj')
end
end L2
namespace L2
open PySem PySem.Spec PyProof.Rows PySem.W
def keyOf (e : Int × Value) : Str := match e.2 with | .str x _ => x | _ => Str.empty
structure SetS (w : World) (led : Bool) (es : Array (Int × Value)) (t : SetTable) (S : List Str) : Prop where
  ent : ∀ e ∈ es.toList, ∃ x tk, e = (hashStr w x, Value.str x tk)
  nd : (es.toList.map keyOf).Nodup
  mem : ∀ x, x ∈ es.toList.map keyOf ↔ x ∈ S
  fit : t.fits es.size = true
  led : t.led = led
  pl : es.size = 0 ∨ t.plain = false
theorem keyOf_perm {a b : List (Int × Value)} (p : a.Perm b) : (a.map keyOf).Perm (b.map keyOf) := p.map _
theorem SetS.grow {w : World} {led : Bool} {es es' : Array (Int × Value)} {t t' : SetTable} {S : List Str} {x : Str} {tk : Tok} (h : SetS w led es t S) (nx : x ∉ S) (p : es'.toList.Perm (es.push (hashStr w x, .str x tk)).toList) (f : t'.fits es'.size = true) (l : t'.led = led) (q : t'.plain = false) : SetS w led es' t' (S ++ [x]) where
  ent := fun e he => by
    have := p.mem_iff.mp he
    rw [Array.toList_push] at this
    rcases List.mem_append.mp this with z | z
    · exact h.ent e z
    · exact ⟨x, tk, List.mem_singleton.mp z⟩
  nd := by
    rw [(keyOf_perm p).nodup_iff, Array.toList_push, List.map_append, List.nodup_append]
    refine ⟨h.nd, by simp, fun a ha b hb => ?_⟩
    have hb' : b = x := by simpa [keyOf] using hb
    subst hb'
    exact fun e => nx (by rw [← e]; exact (h.mem a).mp ha)
  mem := fun y => by
    rw [(keyOf_perm p).mem_iff, Array.toList_push, List.map_append, List.mem_append, List.mem_append, h.mem y]
    simp [keyOf]
  fit := f
  led := l
  pl := .inr q
structure SetA (w : World) (led : Bool) (h : Heap) (a : Addr) (S : List Str) (n : Nat) : Prop where
  ex : ∃ es ep t, h.get? a = some { cls := .type "set", data := .set es ep t } ∧ SetS w led es t S ∧ es.size ≤ n
section
variable {prog : Program} {w : World} {A : Around} {E : Value → Shared → Prop} {s : Shared}
end
end L2
namespace L2
open PySem PySem.Spec PyProof.Rows PySem.W
section
variable {prog : Program} {w : World} {A : Around} {E : Value → Shared → Prop} {s : Shared}
theorem SetA.keeps {led : Bool} {h h' : Heap} {a : Addr} {S : List Str} {n : Nat} (x : SetA w led h a S n) (k : ∀ o, h.get? a = some o → h'.get? a = some o) : SetA w led h' a S n := by
  obtain ⟨es, ep, t, e, r⟩ := x
  exact ⟨es, ep, t, k _ e, r⟩
theorem SetA.start {h : Heap} {a : Addr} {led : Bool} (e : h.get? a = some { cls := .type "set", data := .set #[] 0 (SetTable.fresh 0 0 led) }) : SetA w led h a [] 0 :=
  ⟨#[], 0, _, e, ⟨fun x hx => by simp at hx, by simp, fun x => by simp, by rfl, rfl, .inl rfl⟩, Nat.le_refl _⟩
theorem SetA.typeIs {led : Bool} {a : Addr} {S : List Str} {n : Nat} (x : SetA w led s.heap a S n) : s.TypeIs (.ref a) "set" := by
  obtain ⟨es, ep, t, e, r⟩ := x
  exact ⟨_, e, rfl⟩
end
end L2
namespace L2
open PySem PySem.Spec PyProof.Rows PySem.W
section
variable {prog : Program} {w : World} {A : Around} {E : Value → Shared → Prop} {s : Shared}
end
end L2
namespace L2
open PySem PySem.Spec PyProof.Rows PySem.W
section
variable {prog : Program} {w : World} {A : Around} {E : Value → Shared → Prop}
variable {s : Shared}
end
end L2
namespace L2
open PySem PySem.Spec PyProof.Rows PySem.W
section
variable {prog : Program} {w : World} {A : Around}
end
end L2
namespace L2
open PySem PySem.Spec PyProof.Rows PySem.W
section
variable {prog : Program} {w : World} {A : Around} {E : Value → Shared → Prop} {s : Shared}
end
end L2
namespace L2
open PySem PySem.Spec PyProof.Rows PySem.W
section
variable {prog : Program} {w : World} {A : Around} {E : Value → Shared → Prop} {s : Shared}
end
end L2
namespace L2
open PySem PySem.Spec PyProof.Rows PySem.W
theorem Inv.drawn {X : Cx} {pins : List (Addr × Obj)} {σ : St} {H : Hp} {s : Shared} (I : Inv X pins σ H s) (d : Drawn) : Inv X pins σ H { s with drawn := d } :=
  ⟨I.ok, I.os, I.bare, I.base, I.loc, I.cell, I.free, I.freeC, I.pin, I.hok, I.len⟩
section
variable {X : Cx} {a : Expr} {ta : TA} {p p2 pos pos2 : Pos}
end
end L2
namespace L2
open PySem PySem.Spec PyProof.Rows
section
variable {κ : Type} [DecidableEq κ]
def valV (kvs : List (κ × V)) (k : κ) : Option V := (kvs.find? fun kv => decide (kv.1 = k)).map (·.2)
def putK (kvs : List (κ × V)) (k : κ) (v : V) : List (κ × V) :=
  if (kvs.any fun kv => decide (kv.1 = k)) = true then kvs.map (fun kv => if kv.1 = k then (kv.1, v) else kv) else kvs ++ [(k, v)]
def dropK (kvs : List (κ × V)) (k : κ) : List (κ × V) := kvs.filter fun kv => decide (kv.1 ≠ k)
theorem valV_pos {p : κ × V} {r : List (κ × V)} {k : κ} (e : p.1 = k) : valV (p :: r) k = some p.2 := by simp [valV, List.find?_cons, e]
theorem valV_neg {p : κ × V} {r : List (κ × V)} {k : κ} (e : ¬ p.1 = k) : valV (p :: r) k = valV r k := by simp [valV, List.find?_cons, e]
theorem RelO.getD {o : Option V} {u : Option Value} {d : V} {d' : Value} (r : RelO o u) (rd : RelV d d') : RelV (o.getD d) (u.getD d') := by
  cases o with
  | none => cases u with
    | none => exact rd
    | some _ => exact (show False from r).elim
  | some _ => cases u with
    | none => exact (show False from r).elim
    | some _ => exact r
theorem KV.val {kvs : List (κ × V)} {vs : List (κ × Value)} (r : KV kvs vs) (k : κ) : RelO (valV kvs k) (valueAt vs k) := by
  unfold KV at r
  induction r with
  | nil => exact True.intro
  | @cons p q ps qs h t ih =>
    obtain ⟨h1, h2⟩ := h
    by_cases e : p.1 = k
    · have e' : q.1 = k := h1.symm.trans e
      have b : valueAt (q :: qs) k = some q.2 := by simp [valueAt, List.find?_cons, e']
      rw [valV_pos e, b]; exact h2
    · have e' : ¬ q.1 = k := fun z => e (h1.trans z)
      have b : valueAt (q :: qs) k = valueAt qs k := by simp [valueAt, List.find?_cons, e']
      rw [valV_neg e, b]; exact ih
theorem KV.any {kvs : List (κ × V)} {vs : List (κ × Value)} (r : KV kvs vs) (k : κ) : (kvs.any fun kv => decide (kv.1 = k)) = vs.any fun kv => decide (kv.1 = k) := by
  unfold KV at r
  induction r with
  | nil => rfl
  | cons h t ih => rw [List.any_cons, List.any_cons, ih, h.1]
theorem KV.drop {kvs : List (κ × V)} {vs : List (κ × Value)} (r : KV kvs vs) (k : κ) : KV (dropK kvs k) (without vs k) := by
  unfold KV at r ⊢
  unfold dropK without
  induction r with
  | nil => exact .nil
  | @cons p q ps qs h t ih =>
    obtain ⟨h1, h2⟩ := h
    rw [List.filter_cons, List.filter_cons]
    by_cases e : p.1 = k
    · have a : ¬ decide (p.1 ≠ k) = true := by simp [e]
      have b : ¬ decide (q.1 ≠ k) = true := by simp [h1.symm.trans e]
      rw [if_neg a, if_neg b]; exact ih
    · have e' : ¬ q.1 = k := fun z => e (h1.trans z)
      have a : decide (p.1 ≠ k) = true := by simp [e]
      have b : decide (q.1 ≠ k) = true := by simp [e']
      rw [if_pos a, if_pos b]; exact .cons ⟨h1, h2⟩ ih
theorem KV.keys {kvs : List (κ × V)} {vs : List (κ × Value)} (r : KV kvs vs) : kvs.map (·.1) = vs.map (·.1) := by
  unfold KV at r
  induction r with
  | nil => rfl
  | cons h t ih => rw [List.map_cons, List.map_cons, ih, h.1]
theorem KV.length {kvs : List (κ × V)} {vs : List (κ × Value)} (r : KV kvs vs) : kvs.length = vs.length := Paired.length r
end
abbrev KT (H : Hp) : List (List Key × V) → List (List Key × Addr × Value) → Prop := Paired fun p q => p.1 = q.1 ∧ H q.2.1 = some (.tup (p.1.map kV)) ∧ RelV p.2 q.2.2
theorem KT.val {H : Hp} {kvs : List (List Key × V)} {xs : List (List Key × Addr × Value)} (r : KT H kvs xs) (k : List Key) : RelO (valV kvs k) ((atKey xs k).map (·.2)) := by
  induction r with
  | nil => exact True.intro
  | @cons p q ps qs h t ih =>
    obtain ⟨h1, _, h2⟩ := h
    by_cases e : p.1 = k
    · have e' : q.1 = k := h1.symm.trans e
      have b : atKey (q :: qs) k = some q.2 := by simp [atKey, List.find?_cons, e']
      rw [valV_pos e, b]; exact h2
    · have e' : ¬ q.1 = k := fun z => e (h1.trans z)
      have b : atKey (q :: qs) k = atKey qs k := by simp [atKey, List.find?_cons, e']
      rw [valV_neg e, b]; exact ih
theorem KT.keeps {H H' : Hp} {kvs : List (List Key × V)} {xs : List (List Key × Addr × Value)} (r : KT H kvs xs) (ht : ∀ b ys, H b = some (.tup ys) → H' b = some (.tup ys)) : KT H' kvs xs :=
  Paired.mapP r fun _ _ z => ⟨z.1, ht _ _ z.2.1, z.2.2⟩
section
variable {P : Program} {w : World} {H : Hp} {h : Heap} {a : Addr}
end
def DGet (H : Hp) (a : Addr) (y : V) (r : Option V) : Prop :=
  (∃ kvs k, Rd H a (.dK kvs) ∧ y = kV k ∧ r = valV kvs k) ∨ ∃ kvs k b, Rd H a (.dT kvs) ∧ y = .ref b ∧ H b = some (.tup (k.map kV)) ∧ r = valV kvs k
def DPut (H : Hp) (a : Addr) (y v : V) (H' : Hp) : Prop :=
  (∃ kvs k, H a = some (.dK kvs) ∧ y = kV k ∧ kvs.length < sizeLine ∧ H' = upd H a (.dK (putK kvs k v))) ∨
  ∃ kvs k b, H a = some (.dT kvs) ∧ y = .ref b ∧ H b = some (.tup (k.map kV)) ∧ kvs.length < sizeLine ∧ H' = upd H a (.dT (putK kvs k v))
theorem DGet.k {H : Hp} {a : Addr} {kvs : List (Key × V)} {k : Key} (e : H a = some (.dK kvs)) : DGet H a (kV k) (valV kvs k) := .inl ⟨kvs, k, .inl e, rfl, rfl⟩
theorem DGet.t {H : Hp} {a b : Addr} {kvs : List (List Key × V)} {k : List Key} (e : H a = some (.dT kvs)) (eb : H b = some (.tup (k.map kV))) : DGet H a (.ref b) (valV kvs k) := .inr ⟨kvs, k, b, .inl e, rfl, eb, rfl⟩
theorem DPut.k {H : Hp} {a : Addr} {kvs : List (Key × V)} {k : Key} {v : V} (e : H a = some (.dK kvs)) (hl : kvs.length < sizeLine) : DPut H a (kV k) v (upd H a (.dK (putK kvs k v))) := .inl ⟨kvs, k, e, rfl, hl, rfl⟩
theorem DPut.t {H : Hp} {a b : Addr} {kvs : List (List Key × V)} {k : List Key} {v : V} (e : H a = some (.dT kvs)) (eb : H b = some (.tup (k.map kV))) (hl : kvs.length < sizeLine) :
    DPut H a (.ref b) v (upd H a (.dT (putK kvs k v))) := .inr ⟨kvs, k, b, e, rfl, eb, hl, rfl⟩
section
variable {X : Cx} {pins : List (Addr × Obj)} {σ : St} {H : Hp} {s : Shared} {a : Addr} {y v : V} {u r : Value} {o : Option V} {A : Around} {E : Value → Shared → Prop}
theorem Inv.big (I : Inv X pins σ H s) : sysModules < s.heap.objs.size := by
  have h : mainGlobals < s.heap.objs.size := (I.mod.glob.keeps I.bk).lt
  exact Nat.lt_trans (by decide) h
end
section
variable {X : Cx} {pins : List (Addr × Obj)} {σ : St} {H : Hp} {s : Shared} {a : Addr} {kvs : List (Key × V)} {k : Key} {u : Value} {A : Around} {E : Value → Shared → Prop}
end
section
variable {X : Cx} {o i e value : Expr} {pos pos' tpos : Pos} {td ty tv : TE}
end
theorem dk_empty {P : Program} {w : World} {H : Hp} (h : Heap) (hb : sysModules < h.objs.size) : ObjOk P w H (h.push { cls := .type "dict", data := .dict #[] }) h.objs.size (.dK []) :=
  ⟨Nat.zero_le _, beq_eq_false_iff_ne.mpr (Ne.symm (Nat.ne_of_lt hb)), [], .nil, Heap.DictOf.new h⟩
def tDNewK : TE := fun _ H Q => ∀ p, H p = none → Q (.ref p) (upd H p (.dK []))
section
variable {X : Cx} {pos : Pos}
theorem pe_dnewK : PE X (.Dict [] [] pos) tDNewK := fun pins s σ H Q I h =>
  wpAny_Dict_empty ⟨.ref s.heap.objs.size, _, I.laid (a := s.heap.objs.size) (o := .dK []) (t' := s.toks) (fun _ _ q => Heap.get?_push_of_some _ q) (Nat.le_refl _) (dk_empty s.heap I.big), rfl, h _ (I.hok.fresh (Nat.le_refl _))⟩
end
structure M1 (X : Cx) (o : Expr) (m : Str) (apos : Pos) (e : Expr) (cpos : Pos) : Prop where
  base : attributeBase o m X.env (eval o X.env) = eval o X.env
  few : ((backTo cpos (starEach [e] X.env)).all (fun x => !x.1) && (backToKw cpos (keywordEach [] X.env)).all (fun x => x.1.isSome)
    && decide (([e] : List Expr).length + ([] : List Keyword).length + (if ([] : List Keyword).isEmpty then 0 else 1) < 30)) = true
  line : (apos.endLine == cpos.line) = true
  trees : backTo cpos (starEach [e] X.env) = [(false, eval e X.env)]
structure M2 (X : Cx) (o : Expr) (m : Str) (apos : Pos) (e f : Expr) (cpos : Pos) : Prop where
  base : attributeBase o m X.env (eval o X.env) = eval o X.env
  few : ((backTo cpos (starEach [e, f] X.env)).all (fun x => !x.1) && (backToKw cpos (keywordEach [] X.env)).all (fun x => x.1.isSome)
    && decide (([e, f] : List Expr).length + ([] : List Keyword).length + (if ([] : List Keyword).isEmpty then 0 else 1) < 30)) = true
  line : (apos.endLine == cpos.line) = true
  trees : backTo cpos (starEach [e, f] X.env) = [(false, eval e X.env), (false, eval f X.env)]
section
variable {X : Cx} {pins : List (Addr × Obj)} {σ : St} {H : Hp} {s : Shared} {a : Addr} {y d : V} {u r : Value} {o : Option V} {A : Around} {E : Value → Shared → Prop}
end
section
variable {X : Cx} {o e f : Expr} {apos cpos : Pos} {td ty tx : TE}
end
section
variable {X : Cx} {pins : List (Addr × Obj)} {σ : St} {H : Hp} {s : Shared} {a : Addr} {kvs : List (Key × V)} {A : Around} {E : Value → Shared → Prop}
end
section
variable {X : Cx} {pins : List (Addr × Obj)} {σ : St} {H : Hp} {s : Shared} {a : Addr} {y : V} {u : Value} {A : Around} {E : Value → Shared → Prop}
end
end L2
namespace L2
open PySem PySem.Spec PyProof.Rows PySem.W
end L2
namespace L2
open PySem PySem.Spec PyProof.Rows PySem.W
section
variable {prog : Program} {w : World} {A : Around} {E : Value → Shared → Prop}
def DPrs (h : Heap) (D : Addr) (items : Array Value) (ps : List (Key × Value)) : Prop :=
  ps.length = items.size ∧ ∀ (j : Nat) (k : Key) (v : Value), ps[j]? = some (k, v) → ∃ (a : Addr) (ku : Value), items[j]? = some (Value.ref a) ∧ a ≠ D ∧ RelV (kV k) ku ∧ IsTup h a #[ku, v]
theorem DPrs.keeps {h h' : Heap} {D I : Addr} {items : Array Value} {ps : List (Key × Value)} (p : DPrs h D items ps) (nI : ∀ a : Addr, Value.ref a ∈ items → a ≠ I) (k : ∀ b o, b ≠ I → b ≠ D → h.get? b = some o → h'.get? b = some o) : DPrs h' D items ps := by
  refine ⟨p.1, fun j kk v e => ?_⟩
  obtain ⟨a, ku, ha, hD, hk, o, e1, e2⟩ := p.2 j kk v e
  exact ⟨a, ku, ha, hD, hk, o, k a o (nI a (Array.mem_of_getElem? ha)) hD e1, e2⟩
end
end L2
namespace L2
open PySem PySem.Spec PyProof.Rows PySem.W
section
variable {prog : Program} {w : World} {A : Around} {E : Value → Shared → Prop} {s : Shared}
end
end L2
namespace L2
open PySem PySem.Spec PyProof.Rows PySem.W
section
variable {X : Cx}
end
end L2
namespace Tim
open PySem PyProof.Rows
abbrev setG (st : SortSt) (g : Nat) : SortSt := SortSt.mk' (kindOf st) (arrOf st) (pendingOf st) g (failedOf st)
end Tim
namespace Tim
open PySem PyProof.Rows
section
variable {prog : Program} {w : World} {A : Around} {E : Value → Shared → Prop} {s : Shared} {a₀ : Array Keyed} {κ : SortKind} {O : KeyOrd} {key : Keyed → O.α}
def mrg (key : Keyed → O.α) : List Keyed → List Keyed → List Keyed
  | [], ys => ys
  | x :: xs, [] => x :: xs
  | x :: xs, y :: ys => if O.blt (key y) (key x) = true then y :: mrg key (x :: xs) ys else x :: mrg key xs (y :: ys)
termination_by xs ys => xs.length + ys.length
abbrev Srt (key : Keyed → O.α) (l : List Keyed) : Prop := l.Pairwise fun x y => O.blt (key y) (key x) = false
end
end Tim
namespace Tim
open PySem PyProof.Rows
section
variable {prog : Program} {w : World} {A : Around} {E : Value → Shared → Prop} {s : Shared} {a₀ : Array Keyed} {κ : SortKind} {O : KeyOrd} {key : Keyed → O.α}
structure Two (key : Keyed → O.α) (a₀ a b : Array Keyed) : Prop where
  ma : ∀ x ∈ a, x ∈ a₀
  mb : ∀ x ∈ b, x ∈ a₀
  na : 1 ≤ a.size
  nb : 1 ≤ b.size
  sa : Srt key a.toList
  sb : Srt key b.toList
  fst : ∀ x ∈ a, ∀ y, b[0]? = some y → O.blt (key y) (key x) = true
  lst : ∀ y ∈ b, ∀ x, a[a.size - 1]? = some x → O.blt (key y) (key x) = true
def LoI (key : Keyed → O.α) (a b o : Array Keyed) (p q : Nat) : Prop := o.toList ++ mrg key (a.toList.drop p) (b.toList.drop q) = mrg key a.toList b.toList
section
variable {a b o : Array Keyed} {p q k : Nat} {x y : Keyed}
end
abbrev LSt := Option (Array Keyed) × Array Keyed × Nat × Nat × Nat × Nat × Nat
structure GoesOn (key : Keyed → O.α) (a b : Array Keyed) (st : SortSt) (m : Nat) (R : ForInStep LSt → SortSt → Prop) : Prop where
  fin : ∀ (out : Array Keyed) c g, out.toList = mrg key a.toList b.toList → R (.done (some out, c)) (setG st g)
  brk : ∀ o p q g c d g', LoI key a b o p q → p + 1 < a.size → q < b.size → m ≤ p + q → R (.done (none, o, p, q, g, c, d)) (setG st g')
  yld : ∀ o p q g c d g', LoI key a b o p q → p + 1 < a.size → q < b.size → m ≤ p + q → R (.yield (none, o, p, q, g, c, d)) (setG st g')
section
variable {a b o : Array Keyed} {p q k g c d m g' : Nat} {x y : Keyed} {st : SortSt} {R : ForInStep LSt → SortSt → Prop}
end
end
end Tim
namespace Tim
open PySem PyProof.Rows
section
variable {prog : Program} {w : World} {A : Around} {E : Value → Shared → Prop} {s : Shared} {a₀ : Array Keyed} {κ : SortKind} {O : KeyOrd} {key : Keyed → O.α}
def HiI (key : Keyed → O.α) (a b o : Array Keyed) (p q : Nat) : Prop := mrg key (a.toList.take p) (b.toList.take q) ++ o.toList.reverse = mrg key a.toList b.toList
section
variable {a b o : Array Keyed} {p q f : Nat} {x y : Keyed}
end
abbrev HSt := Option (Array Keyed) × Nat × Nat × Array Keyed × Nat × Nat × Nat
structure GoesHi (key : Keyed → O.α) (a b : Array Keyed) (st : SortSt) (m : Nat) (R : ForInStep HSt → SortSt → Prop) : Prop where
  fin : ∀ (out : Array Keyed) c g, out.toList = mrg key a.toList b.toList → R (.done (some out, c)) (setG st g)
  brk : ∀ o p q g c d g', HiI key a b o p q → 0 < p → p ≤ a.size → 1 < q → q ≤ b.size → p + q ≤ m → R (.done (none, p, q, o, g, c, d)) (setG st g')
  yld : ∀ o p q g c d g', HiI key a b o p q → 0 < p → p ≤ a.size → 1 < q → q ≤ b.size → p + q ≤ m → R (.yield (none, p, q, o, g, c, d)) (setG st g')
section
variable {a b o : Array Keyed} {p q k g c d m g' : Nat} {x y : Keyed} {st : SortSt} {R : ForInStep HSt → SortSt → Prop}
end
end
end Tim
namespace Tim
open PySem PyProof.Rows
section
variable {prog : Program} {w : World} {A : Around} {E : Value → Shared → Prop} {s : Shared} {a₀ : Array Keyed} {κ : SortKind} {O : KeyOrd} {key : Keyed → O.α}
theorem three (L : List Keyed) {u v : Nat} (h : u ≤ v) : L = L.take u ++ (L.drop u).take (v - u) ++ L.drop v := by
  have e : L.drop v = (L.drop u).drop (v - u) := by rw [List.drop_drop]; congr 1; omega
  rw [e, List.append_assoc, List.take_append_drop, List.take_append_drop]
end
end Tim
namespace Tim
open PySem PyProof.Rows
section
variable {prog : Program} {w : World} {A : Around} {E : Value → Shared → Prop} {s : Shared} {a₀ : Array Keyed} {κ : SortKind} {O : KeyOrd} {key : Keyed → O.α}
def Dist (key : Keyed → O.α) (a₀ : Array Keyed) : Prop := (a₀.toList.map key).Nodup
theorem Dist.inj (D : Dist key a₀) {xs : Array Keyed} (h : xs.Perm a₀) {i j : Nat} {x y : Keyed} (ex : xs[i]? = some x) (ey : xs[j]? = some y) (h1 : O.blt (key x) (key y) = false) (h2 : O.blt (key y) (key x) = false) : i = j := by
  have nd : (xs.toList.map key).Nodup := (List.Perm.nodup_iff ((Array.perm_iff_toList_perm.mp h).map key)).mpr D
  obtain ⟨g1, rfl⟩ := Array.getElem?_eq_some_iff.mp ex
  obtain ⟨g2, rfl⟩ := Array.getElem?_eq_some_iff.mp ey
  refine (List.getElem_inj (h₀ := by simpa using g1) (h₁ := by simpa using g2) nd).mp ?_
  rw [List.getElem_map, List.getElem_map, Array.getElem_toList, Array.getElem_toList]
  exact O.total _ _ h1 h2
end
end Tim
namespace L2
open PySem PySem.Spec PyProof.Rows PySem.W
def DPrsT (P : Program) (w : World) (h : Heap) (D : Addr) (items : Array Value) (ps : List (List Key × Addr × Value)) : Prop :=
  ps.length = items.size ∧ ∀ (j : Nat) (k : List Key) (b : Addr) (v : Value), ps[j]? = some (k, b, v) → ∃ a : Addr, items[j]? = some (Value.ref a) ∧ a ≠ D ∧ b ≠ D ∧ IsTup h a #[.ref b, v] ∧ (tupleKind (mixKind P w)).is h k b
theorem DPrsT.keeps {P : Program} {w : World} {h h' : Heap} {D I : Addr} {items : Array Value} {ps : List (List Key × Addr × Value)} (p : DPrsT P w h D items ps) (nI : ∀ a : Addr, Value.ref a ∈ items → a ≠ I) (nIb : ∀ (j : Nat) k b v, ps[j]? = some (k, b, v) → b ≠ I)
    (k : ∀ b o, b ≠ I → b ≠ D → h.get? b = some o → h'.get? b = some o) : DPrsT P w h' D items ps := by
  refine ⟨p.1, fun j kk b v e => ?_⟩
  obtain ⟨a, ha, hD, hbD, ⟨o, e1, e2⟩, o2, its, n, e3, r⟩ := p.2 j kk b v e
  exact ⟨a, ha, hD, hbD, ⟨o, k a o (nI a (Array.mem_of_getElem? ha)) hD e1, e2⟩, o2, its, n, k b o2 (nIb j kk b v e) hbD e3, r⟩
section
variable {prog : Program} {w : World} {A : Around} {E : Value → Shared → Prop}
end
section
variable {prog : Program} {w : World} {A : Around} {E : Value → Shared → Prop} {s : Shared}
end
section
variable {X : Cx}
end
end L2
namespace L2
open PySem PySem.Spec PyProof.Rows
theorem ObjOk.obj {P : Program} {w : World} {H : Hp} {h : Heap} {a : Addr} {o : HO} (x : ObjOk P w H h a o) : ∃ u, h.get? a = some u := by
  cases o with
  | lst xs => obtain ⟨_, _, _, _, e⟩ := x; exact ⟨_, e⟩
  | tup xs => obtain ⟨⟨_, o, e, _⟩, _⟩ := x; exact ⟨_, e⟩
  | dK kvs => obtain ⟨_, _, _, _, o, _, _, e, _⟩ := x; exact ⟨_, e⟩
  | dT kvs => obtain ⟨_, _, _, _, o, _, _, e, _⟩ := x; exact ⟨_, e⟩
  | set S n => obtain ⟨o, _, _, _, e, _⟩ := x; exact ⟨_, e⟩
  | ins C dx fs => obtain ⟨_, _, _, e, _⟩ := x; exact ⟨_, e⟩
  | own y => exact x
  | xd fs => obtain ⟨_, ⟨_, _, _, e, _⟩, _⟩ := x; exact ⟨_, e⟩
  | rng lo hi => obtain ⟨_, _, _, e⟩ := x; exact ⟨_, e⟩
  | frz ob u => exact ⟨_, x.1⟩
  | tbl ps => exact ⟨_, x⟩
  | met f y => exact ⟨_, x⟩
  | ext φ => exact x.2.1
def FlyS (l : List Env) (H₀ : Hp) (h₀ : Heap) (H' : Hp) (a C : Addr) (h : Heap) : Prop :=
  ∃ B a0, Heap.FlyingW B l a (.ref C) a0 h ∧ (∀ b o, h₀.get? b = some o → b ∉ frs l → ∃ o', B.get? b = some o' ∧ (H₀ b = none → o' = o)) ∧ ∀ b u, H' b = some u → ∃ o, B.get? b = some o
def CXE (P : Program) (w : World) : CXT := fun outer H s E e s' => ∃ a C H', e = .ref a ∧ s'.os = s.os ∧ AllBare s'.gens ∧ Un (frs outer) [] H H' s.heap s'.heap ∧ HOk P w H' s'.heap ∧ FlyS outer H s.heap H' a C s'.heap ∧ H' a = none ∧ E e (some C) H'
theorem hok_in {P : Program} {w : World} {H : Hp} {h h' B : Heap} (x : HOk P w H h) (hB : ∀ b o, B.get? b = some o → h.get? b = some o) (hB' : B.StaysIn h') (t : ∀ b u, H b = some u → ∃ o, B.get? b = some o) : HOk P w H h' := fun a o e =>
  (x a o e).stay (fun b u hb q => by
    have : ∃ o, B.get? b = some o := by
      rcases hb with rfl | hb
      · exact t _ _ e
      · exact t _ _ hb
    obtain ⟨o', e'⟩ := this
    have z := hB _ _ e'
    rw [q] at z; cases z
    exact hB' _ _ e') (fun _ q => q) fun _ _ q => q
theorem fly_out {X : Cx} {pins : List (Addr × Obj)} {σ : St} {H1 H2 : Hp} {s1 : Shared} {B h2 : Heap} (I : Inv X pins σ H1 s1) (hex : X.ex = [])
    (inB : ∀ b o, s1.heap.get? b = some o → b ∉ frs X.stack → ∃ o', B.get? b = some o' ∧ (H1 b = none → o' = o)) (st : B.StaysIn h2)
    (fr : ∀ b o, s1.heap.get? b = some o → b ∈ frs X.stack → ∃ sl, h2.get? b = some { o with slots := sl }) (free : ∀ b o, s1.heap.get? b = some o → H1 b = none → H2 b = none)
    (tups : ∀ b xs, H1 b = some (.tup xs) → H2 b = some (.tup xs)) (frzs : ∀ b o u, H1 b = some (.frz o u) → H2 b = some (.frz o u)) (tbls : ∀ b ps, H1 b = some (.tbl ps) → ∃ more, H2 b = some (.tbl (ps ++ more))) :
    Un X.fs [] X.H₀ H2 X.s₀.heap h2 ∧ ∀ b o, X.s₀.heap.get? b = some o → b ∉ X.fs → ∃ o', B.get? b = some o' ∧ (X.H₀ b = none → o' = o) := by
  have nx : ∀ b : Addr, b ∉ X.ex := fun b => by rw [hex]; simp
  have ns : ∀ b o, X.s₀.heap.get? b = some o → b ∉ X.fs → b ∉ frs X.stack := fun b o e n z => by
    rcases List.mem_cons.mp (I.stkSub b z) with q | q
    · rw [q] at e
      exact absurd (Nat.lt_of_lt_of_le (Heap.lt_size e) I.ok.above) (Nat.lt_irrefl _)
    · exact n q
  have toB : ∀ b o, X.s₀.heap.get? b = some o → b ∉ X.fs → ∃ o', B.get? b = some o' ∧ (X.H₀ b = none → o' = o) := fun b o e n => by
    obtain ⟨o1, e1⟩ := I.base.there b o e (nx b)
    obtain ⟨o2, e2, k2⟩ := inB b o1 e1 (ns b o e n)
    refine ⟨o2, e2, fun h0 => ?_⟩
    have z := I.base.keep b o e h0 n (nx b)
    rw [e1] at z; cases z
    exact k2 (I.base.free b o e h0 (nx b))
  have inSt : ∀ b ∈ X.fs, ∀ o1, s1.heap.get? b = some o1 → ∃ sl, h2.get? b = some { o1 with slots := sl } := fun b hb o1 e1 => by
    by_cases hs : b ∈ frs X.stack
    · exact fr b o1 e1 hs
    · obtain ⟨o2, e2, k2⟩ := inB b o1 e1 hs
      have h1 : H1 b = none := by
        obtain ⟨_, o, ho, _⟩ := I.ok.funs.mem hb
        exact I.base.free b o ho (I.ok.frf b hb) (nx b)
      rw [k2 h1] at e2
      exact ⟨o1.slots, st _ _ e2⟩
  refine ⟨⟨fun b o e n hb _ => ?_, fun b o e n hb _ => ?_, fun b o e n _ => ?_, fun b o e _ => ?_, fun b xs e => tups _ _ (I.base.tups _ _ e), fun b o u e => frzs _ _ _ (I.base.frzs _ _ _ e), fun b ps e => ?_⟩, toB⟩
  · obtain ⟨o', e', k⟩ := toB b o e hb
    rw [k n] at e'
    exact st _ _ e'
  · obtain ⟨sl, e1⟩ := I.base.slot b o e n hb (nx b)
    obtain ⟨sl2, e2⟩ := inSt b hb _ e1
    exact ⟨sl2, e2⟩
  · obtain ⟨o1, e1⟩ := I.base.there b o e (nx b)
    exact free b o1 e1 (I.base.free b o e n (nx b))
  · obtain ⟨o1, e1⟩ := I.base.there b o e (nx b)
    by_cases hb : b ∈ X.fs
    · obtain ⟨sl, q⟩ := inSt b hb o1 e1
      exact ⟨_, q⟩
    · obtain ⟨o', e', _⟩ := toB b o e hb
      exact ⟨o', st _ _ e'⟩
  · obtain ⟨m1, e1⟩ := I.base.tbls b ps e
    obtain ⟨m2, e2⟩ := tbls b _ e1
    exact ⟨m1 ++ m2, by rw [e2, Array.append_assoc]⟩
def Raises (X : Cx) (E : XK) : Prop := ∀ (pins : List (Addr × Obj)) (σ : St) (H1 : Hp) (s1 : Shared) (h' : Heap) (a C : Addr) (vs : List Value), Inv X pins σ H1 s1 → Heap.MadeExcOf s1.heap h' a (.ref C) vs → E (.ref a) (some C) H1 → X.xe (.ref a) { s1 with heap := h' }
section
variable {P : Program} {w : World} {K : PySem.W.Frag} {mg : Str → Option Value} {base : Heap} {N : List Str} {qual : Str} {scope : Scope} {f : Addr} {cd : Value} {A : Around} {outer : List Env} {s : Shared} {H : Hp} {E : XK}
theorem raises_cx : Raises (cxOf (CXE P w) P w K mg base N qual scope f cd A outer s H E) E := by
  intro pins σ H1 s1 h' a C vs I mk hE
  have stk := I.stack
  have nTr : ∀ b u, H1 b = some u → b ∉ frs (cxOf (CXE P w) P w K mg base N qual scope f cd A outer s H E).stack := fun b u e z => by
    rw [I.stkFree b z] at e; cases e
  have inB : ∀ b o, s1.heap.get? b = some o → b ∉ frs (cxOf (CXE P w) P w K mg base N qual scope f cd A outer s H E).stack → (PySem.W.hideAll s1.heap (frs (cxOf (CXE P w) P w K mg base N qual scope f cd A outer s H E).stack)).get? b = some o := fun b o e n => PySem.W.hideAll_get _ e n
  show wpAny _ _ (leaving _ _) _ _ _
  refine wpAny_leaves_madeW (base := PySem.W.hideAll s1.heap (frs (cxOf (CXE P w) P w K mg base N qual scope f cd A outer s H E).stack)) (h := s1.heap) I.ok.frames rfl (fun b o q => PySem.W.of_hideAll _ q)
    (PySem.W.funFrames_hide stk fun env he b hb => List.mem_filterMap.mpr ⟨env, he, hb⟩) mk fun h2 t fl _ _ sm => ?_
  generalize PySem.W.hideAll s1.heap (frs (cxOf (CXE P w) P w K mg base N qual scope f cd A outer s H E).stack) = B at inB fl
  have BS : ∀ b o, B.get? b = some o → s1.heap.get? b = some o ∨ True := fun _ _ _ => .inr trivial
  obtain ⟨u, k1⟩ := fly_out (H2 := H1) (B := B) (h2 := h2) I rfl (fun b o e n => ⟨o, inB b o e n, fun _ => rfl⟩) fl.1
    (fun b o e hb => by
      obtain ⟨_, o', e', nf⟩ := stk.mem hb
      rw [e] at e'; cases e'
      exact sm b o (mk.keeps _ _ e) nf)
    (fun _ _ _ z => z) (fun _ _ z => z) (fun _ _ _ z => z) (fun b ps z => ⟨#[], by rw [z]; simp⟩)
  have tr : ∀ b u, H1 b = some u → ∃ o, B.get? b = some o := fun b u e => by
    obtain ⟨o, eo⟩ := (I.hok b u e).obj
    exact ⟨o, inB b o eo (nTr b u e)⟩
  refine ⟨a, C, H1, rfl, I.os, I.bare, u, fun b o e => ?_, ⟨B, _, fl, k1, tr⟩, ?_, hE⟩
  · refine (I.hok b o e).stay (fun c v hc q => ?_) (fun _ q => q) fun _ _ q => q
    have nc : c ∉ frs (cxOf (CXE P w) P w K mg base N qual scope f cd A outer s H E).stack := by
      rcases hc with rfl | hc
      · exact nTr _ _ e
      · exact nTr _ _ hc
    exact fl.1 _ _ (inB c v q nc)
  · cases q : H1 a with
    | none => rfl
    | some u =>
      obtain ⟨o, eo⟩ := (I.hok a u q).obj
      rw [mk.new] at eo; cases eo
end
end L2
namespace L2
open PySem PySem.Spec PyProof.Rows
def excO (a C : Addr) : HO := .ext fun h => ∃ o vs, h.get? a = some o ∧ o.cls = .ref C ∧ o.data = .fields vs
def Up (X : Cx) (pins : List (Addr × Obj)) (σ : St) (a C : Addr) (H2 : Hp) (s : Shared) : Prop :=
  ∃ H1 s1, Inv X pins σ H1 s1 ∧ s.os = s1.os ∧ AllBare s.gens ∧ Un (frs X.stack) [] H1 H2 s1.heap s.heap ∧ HOk X.prog X.w H2 s.heap ∧ FlyS X.stack H1 s1.heap H2 a C s.heap ∧ H2 a = none
section
variable {X : Cx} {pins : List (Addr × Obj)} {σ : St} {a C : Addr} {H1 H2 : Hp} {s s1 : Shared} {B h h' : Heap} {a0 : Value}
theorem excO_ok (H : Hp) (e : ∃ o vs, h.get? a = some o ∧ o.cls = .ref C ∧ o.data = .fields vs) : ObjOk X.prog X.w H h a (excO a C) := by
  refine ⟨e, ?_, fun h1 h2 ⟨o, vs, x1, x2, x3⟩ k => ⟨o, vs, k _ x1, x2, x3⟩⟩
  obtain ⟨o, _, e, _⟩ := e
  exact ⟨o, e⟩
theorem Up.inv (U : Up X pins σ a C H2 s) : Inv X pins σ (upd H2 a (excO a C)) s := by
  obtain ⟨H1, s1, I, os, bare, un, hok, ⟨B, a0, fl, k0, tr⟩, ha⟩ := U
  obtain ⟨oe, vs, e1, e2, e3, _⟩ := fl.first
  have na : ∀ b o, s1.heap.get? b = some o → b ≠ a := fun b o e z => by
    subst z
    by_cases hb : b ∈ frs X.stack
    · obtain ⟨_, o', e', nf⟩ := fl.2.2.1.mem hb
      rw [e1] at e'; cases e'
      exact nf vs e3
    · obtain ⟨o', e', _⟩ := k0 b o e hb
      rw [fl.2.1] at e'; cases e'
  have up : ∀ b u, H2 b = some u → upd H2 a (excO a C) b = some u := fun b u e => by rw [upd_ne (ne_of_none e ha)]; exact e
  refine I.call' (ch := []) os ⟨un.keep, un.slot, fun b o e n hx => ?_, un.there, fun b xs e => up _ _ (un.tups b xs e), fun b o u e => up _ _ (un.frzs b o u e), fun b ps e => ?_⟩ (fun b o e => ?_) bare (fun _ z => nomatch z)
  · rw [upd_ne (na b o e)]; exact un.free b o e n hx
  · obtain ⟨more, e2⟩ := un.tbls b ps e
    exact ⟨more, up _ _ e2⟩
  · by_cases hb : b = a
    · subst hb
      rw [upd_same] at e; cases e
      exact excO_ok _ ⟨oe, vs, e1, e2, e3⟩
    · rw [upd_ne hb] at e
      exact (hok b o e).stay (fun _ _ _ q => q) (fun c q => up _ _ q) fun c xs q => up _ _ q
theorem up_on (I : Inv X pins σ H1 s1) (os : s.os = s1.os) (bare : AllBare s.gens) (un : Un (frs X.stack) [] H1 H2 s1.heap s.heap) (hok : HOk X.prog X.w H2 s.heap) (hB : B.StaysIn s.heap) (ffs : s.heap.FunFrames B X.stack)
    (k0 : ∀ b o, s1.heap.get? b = some o → b ∉ frs X.stack → ∃ o', B.get? b = some o' ∧ (H1 b = none → o' = o)) (tr : ∀ b u, H2 b = some u → ∃ o, B.get? b = some o) (ha : H2 a = none)
    (fl' : Heap.FlyingW B X.stack a (.ref C) a0 h') (sm : s.heap.UpToSlots h') : Up X pins σ a C H2 { s with heap := h' } := by
  refine ⟨H1, s1, I, os, bare, ⟨fun b o e n hb _ => ?_, fun b o e n hb _ => ?_, un.free, fun b o e _ => ?_, un.tups, un.frzs, un.tbls⟩, hok_in hok hB fl'.1 tr, ⟨B, a0, fl', k0, tr⟩, ha⟩
  · obtain ⟨o', e', k⟩ := k0 b o e hb
    rw [k n] at e'
    exact fl'.1 _ _ e'
  · obtain ⟨sl, e2⟩ := un.slot b o e n hb (by simp)
    obtain ⟨_, o', e', nf⟩ := ffs.mem hb
    rw [e2] at e'; cases e'
    obtain ⟨sl3, e3⟩ := sm b _ e2 nf
    exact ⟨sl3, e3⟩
  · by_cases hb : b ∈ frs X.stack
    · obtain ⟨_, o', e', _⟩ := fl'.2.2.1.mem hb
      exact ⟨o', e'⟩
    · obtain ⟨o', e', _⟩ := k0 b o e hb
      exact ⟨o', fl'.1 _ _ e'⟩
theorem up_lands {M : Model} {A : Around} {E : Value → Shared → Prop} {Q : Unit → Shared → Prop} (U : Up X pins σ a C H2 s) (h : ∀ h', Up X pins σ a C H2 { s with heap := h' } → Q () { s with heap := h' }) :
    wpAny M A (setFlight (.ref a) none) Q E s := by
  obtain ⟨H1, s1, I, os, bare, un, hok, ⟨B, a0, fl, k0, tr⟩, ha⟩ := U
  exact lands_againW fl fun h' fl' sm => h h' (up_on I os bare un hok fl.1 fl.2.2.1 k0 tr ha fl' sm)
theorem up_looks {M : Model} {A : Around} {E : Value → Shared → Prop} {Q : Unit → Shared → Prop} (hA : A.frames = some X.stack) (hst : X.stack = X.env :: X.outer) (hf : X.env.frame = some X.env.locals) (U : Up X pins σ a C H2 s)
    (h : ∀ h', Up X pins σ a C H2 { s with heap := h' } → Q () { s with heap := h' }) :
    wpAny M A (noteFrame (.ref a) X.env) (fun _ s2 => wpAny M A (setFlight (.ref a) none) Q E s2) E s := by
  obtain ⟨H1, s1, I, os, bare, un, hok, ⟨B, a0, fl, k0, tr⟩, ha⟩ := U
  have fl0 := fl
  rw [hst] at fl0 hA
  refine wpAny_looks_onW hA hf fl0 fun h1 hh sm => ?_
  refine wpAny_landsW hh fun h2 fl2 sm2 => ?_
  rw [← hst] at fl2
  exact h h2 (up_on I os bare un hok fl.1 fl.2.2.1 k0 tr ha fl2 (sm.trans sm2))
abbrev Cx.caught (X : Cx) (a : Addr) : Cx := { X with A := X.A.mark (some (.ref a)), calm := false, xe := fun _ _ => False }
theorem Inv.caught {H : Hp} (I : Inv X pins σ H s) (a : Addr) : Inv (X.caught a) pins σ H s :=
  ⟨⟨I.ok.mod, I.ok.kind, I.ok.glob, I.ok.blt, I.ok.above, I.ok.inj, I.ok.has, I.ok.cab, (fun z => nomatch z), I.ok.frames, I.ok.stk, I.ok.exf, I.ok.bs, I.ok.bsz, I.ok.noex, I.ok.exfs, I.ok.funs, I.ok.frf⟩, I.os, I.bare, I.base, I.loc, I.cell, I.free, I.freeC, I.pin, I.hok, I.len⟩
theorem Inv.uncaught {H : Hp} (ok : X.Ok) (I : Inv (X.caught a) pins σ H s) : Inv X pins σ H s := ⟨ok, I.os, I.bare, I.base, I.loc, I.cell, I.free, I.freeC, I.pin, I.hok, I.len⟩
theorem Inv.goes {M : Model} {A : Around} {E : Value → Shared → Prop} {H : Hp} {i : Nat} {n : Str} {pos : Pos} {Q : Unit → Shared → Prop} (I : Inv X pins σ H s) (hN : X.N.Nodup) (hi : X.N[i]? = some n) (hl : X.env.kindOf n = some .local)
    (h : ∀ s', Inv X pins (σ.set i none) H s' → Q () s') : wpAny M A (do bindName X.env n .none; unbindBehindTheSuite X.env n pos) Q E s := by
  obtain ⟨m, hn, hl'⟩ := id I.loc
  have hcls : (X.env.scope.kind == .class || (X.env.scope.kind == .module && X.env.locals != X.env.globals)) = false := by rw [I.ok.kind]; rfl
  have hiσ : i < σ.length := by rw [I.len]; exact (List.getElem?_eq_some_iff.mp hi).1
  refine wpAny_nameGoes_keeps hl hn hcls fun h' v hn' hs => ?_
  obtain ⟨oL, _, _, hoL, _⟩ := id hn
  refine h _ ⟨I.ok, I.os, I.bare, ⟨fun b o e n hb hx => ?_, fun b o e n hb hx => ?_, I.base.free, fun b o e hx => ?_, I.base.tups, I.base.frzs, I.base.tbls⟩, ⟨_, hn', fun j y v' e1 e2 e3 => ?_⟩, fun y c e => ?_, I.free, I.freeC, fun p hp => ?_, fun b ob e => ?_, by simpa using I.len⟩
  · exact (hs.2 b (Nat.ne_of_lt (Nat.lt_of_lt_of_le (Heap.lt_size e) I.ok.above))).trans (I.base.keep b o e n hb hx)
  · obtain ⟨sl, e1⟩ := I.base.slot b o e n hb hx
    exact ⟨sl, (hs.2 b (Nat.ne_of_lt (Nat.lt_of_lt_of_le (Heap.lt_size e) I.ok.above))).trans e1⟩
  · obtain ⟨o', e1⟩ := I.base.there b o e hx
    exact ⟨o', (hs.2 b (Nat.ne_of_lt (Nat.lt_of_lt_of_le (Heap.lt_size e) I.ok.above))).trans e1⟩
  · by_cases hj : j = i
    · subst hj
      rw [List.getElem?_set_self hiσ] at e2
      cases e2
    · rw [List.getElem?_set_ne (Ne.symm hj)] at e2
      obtain ⟨u', r', q⟩ := hl' j y v' e1 e2 e3
      refine ⟨u', r', ?_⟩
      rcases q with ⟨k, e⟩ | ⟨k, c, e, z⟩
      · refine .inl ⟨k, ?_⟩
        have : y ≠ n := fun e => hj (nodup_ix hN e1 (e ▸ hi))
        simp [this, e]
      · exact .inr ⟨k, c, e, z.sameBut hs (I.cne y c e)⟩
  · obtain ⟨w', z⟩ := I.cell y c e
    exact ⟨w', z.sameBut hs (I.cne y c e)⟩
  · obtain ⟨e, n, ne, nf, d⟩ := I.pin p hp
    exact ⟨(hs.2 p.1 ne).trans e, n, ne, nf, d⟩
  · refine (I.hok b ob e).stay (fun c w' hc q => (hs.2 c ?_).trans q) (fun _ q => q) fun _ _ q => q
    rintro rfl
    rcases hc with rfl | hc
    · rw [I.free] at e; cases e
    · rw [I.free] at hc; cases hc
end
def PH (X : Cx) (hs : List ExceptHandler) (th : Addr → Addr → TS) : Prop :=
  ∀ (pins : List (Addr × Obj)) (s : Shared) (σ : St) (H2 : Hp) (D : Ends) (a C : Addr), Up X pins σ a C H2 s → th a C D σ (upd H2 a (excO a C)) → wpAny (model X.prog X.w) X.A (handleBy (.ref a) X.env hs) (SP X pins D) X.xe s
def Ends.goes (D : Ends) (i : Nat) : Ends := ⟨fun σ H => D.nx (σ.set i none) H, D.rt, fun σ H => D.bk (σ.set i none) H, fun σ H => D.ct (σ.set i none) H⟩
section
variable {X : Cx} {x n : Str} {i : Nat} {np pos : Pos} {b₀ : Stmt} {suite : List Stmt} {rest : List ExceptHandler} {Cl : Addr} {th : Addr → TS} {tr : Addr → Addr → TS}
theorem typ_of {M : Model} {H : Hp} {h : Heap} {a C : Addr} (e : ObjOk X.prog X.w H h a (excO a C)) : PySem.W.Looks M h (typeOf (.ref a)) (.ref C) := by
  obtain ⟨⟨o, vs, e1, e2, _⟩, _⟩ := e
  rw [← e2]
  exact (PySem.W.Looks.ld e1).andThen .now
theorem ph_as (hg : Gl X x) (hm : X.mg x = some (.ref Cl)) (hN : X.N.Nodup) (hi : X.N[i]? = some n) (hl : X.env.scope.names.lookup n = some .local) (hb : ∀ a, PSs (X.caught a) (b₀ :: suite) (th a)) (hd : (x == ("__debug__" : Str)) = false := by decide) :
    PH X (.ExceptHandler (some (.Name x np)) (some n) (b₀ :: suite) pos :: rest) (fun a C D σ H => PySem.W.exmOne X.K (.ref C) (.ref Cl) = some true ∧ th a (D.goes i) (σ.set i (some (.ref a))) H) := by
  intro pins s σ H2 D a C U h
  obtain ⟨hx, h⟩ := h
  have I := U.inv
  refine wpAny_handleBy_cons (codeAny_handlers_test (ld_glob (I.caught a) hg hm ?_ hd)) (by intro q; cases q)
  refine (PySem.W.exm_one I.kIn (typ_of (I.hok a _ upd_same)) hx).here ?_
  refine codeAny_handlers_suite_as ?_
  refine up_lands U fun h' U' => ?_
  have I' := U'.inv
  refine store_ok I' hN hi (.inl hl) (v := .ref a) rfl (fun s2 I2 => ?_) (.inr hl)
  refine wpAny_mono (hb a pins s2 _ _ (D.goes i) (I2.caught a) h) (fun f s3 q => ?_) fun _ _ z => False.elim z
  cases f with
  | next => obtain ⟨σ', H', J, q⟩ := q; exact (J.uncaught I.ok).goes hN hi hl fun s4 J4 => ⟨_, H', J4, q⟩
  | brk => obtain ⟨σ', H', J, q⟩ := q; exact (J.uncaught I.ok).goes hN hi hl fun s4 J4 => ⟨_, H', J4, q⟩
  | cont => obtain ⟨σ', H', J, q⟩ := q; exact (J.uncaught I.ok).goes hN hi hl fun s4 J4 => ⟨_, H', J4, q⟩
  | ret u => obtain ⟨v, σ', H', J, r, q⟩ := q; exact (J.uncaught I.ok).goes hN hi hl fun s4 J4 => ⟨v, _, H', J4, r, q⟩
end
def PassesAt (CX : CXT) (X : Cx) (E : XK) (σ : St) : Prop := ∀ (pins : List (Addr × Obj)) (H : Hp) (s : Shared) (e : Value) (s' : Shared), Inv X pins σ H s → CX X.stack H s E e s' → X.xe e s'
theorem Passes.at {CX : CXT} {X : Cx} {E : XK} {σ : St} (h : Passes CX X E) : PassesAt CX X E σ := fun pins H s e s' I q => h pins σ H s e s' I q
abbrev Cx.tries (X : Cx) (pn : List (Addr × Obj)) (xe : Value → Shared → Prop) : Cx := { X with pn := pn, xe := xe }
def eTry (th : Addr → Addr → TS) (D : Ends) (σ : St) : XK := fun v c H' => ∃ a C, v = .ref a ∧ c = some C ∧ th a C D σ (upd H' a (excO a C))
def tTry (tb : XK → St → TS) (th : Addr → Addr → TS) : TS := fun D σ H => tb (eTry th D σ) σ D σ H
theorem ps_try {X : Cx} {body : List Stmt} {h₀ : ExceptHandler} {hs : List ExceptHandler} {pos : Pos} {tb : XK → St → TS} {th : Addr → Addr → TS}
    (hb : ∀ pn xe E σ0, PassesAt (CXE X.prog X.w) (X.tries pn xe) E σ0 → PSs (X.tries pn xe) body (tb E σ0)) (hh : PH X (h₀ :: hs) th)
    (hst : X.stack = X.env :: X.outer := by rfl) (hf : X.env.frame = some X.env.locals := by rfl) : PS X (.Try body (h₀ :: hs) [] [] pos) (tTry tb th) := by
  intro pins s σ H D I h
  have toX : ∀ {xe : Value → Shared → Prop} {pins' : List (Addr × Obj)} {σ' : St} {H' : Hp} {s' : Shared}, Inv (X.tries (X.pn ++ pins) xe) pins' σ' H' s' → Inv X pins σ' H' s' := fun {xe pins' σ' H' s'} J =>
    ⟨I.ok, J.os, J.bare, J.base, J.loc, J.cell, J.free, J.freeC, fun p hp => J.pin p (List.mem_append_left _ hp), J.hok, J.len⟩
  refine wpAny_Try_except ?_
  have J : ∀ xe, Inv (X.tries (X.pn ++ pins) xe) [] σ H s := fun xe =>
    ⟨⟨I.ok.mod, I.ok.kind, I.ok.glob, I.ok.blt, I.ok.above, I.ok.inj, I.ok.has, I.ok.cab, I.ok.hd, I.ok.frames, I.ok.stk, I.ok.exf, I.ok.bs, I.ok.bsz, I.ok.noex, I.ok.exfs, I.ok.funs, I.ok.frf⟩, I.os, I.bare, I.base, I.loc, I.cell, I.free, I.freeC, fun p hp => by
      rw [List.append_nil] at hp
      exact I.pin p hp, I.hok, I.len⟩
  refine wpAny_mono (hb (X.pn ++ pins) (fun e s' => ∃ a C H2, e = .ref a ∧ Up X pins σ a C H2 s' ∧ th a C D σ (upd H2 a (excO a C))) (eTry th D σ) σ ?_ [] s σ H D (J _) h) (fun f s1 q => ?_) fun e s1 q => ?_
  · rintro pins' H1 s1 e s2 I1 ⟨a, C, H2, rfl, os, bare, un, hok, fly, ha, a', C', e1, e2, hE⟩
    cases e1; cases e2
    exact ⟨a, C, H2, rfl, ⟨H1, s1, toX I1, os, bare, un, hok, fly, ha⟩, hE⟩
  · cases f with
    | next => obtain ⟨σ', H', J, q⟩ := q; exact wpAny_execs_nil ⟨σ', H', toX J, q⟩
    | brk => obtain ⟨σ', H', J, q⟩ := q; exact ⟨σ', H', toX J, q⟩
    | cont => obtain ⟨σ', H', J, q⟩ := q; exact ⟨σ', H', toX J, q⟩
    | ret u => obtain ⟨v, σ', H', J, r, q⟩ := q; exact ⟨v, σ', H', toX J, r, q⟩
  · obtain ⟨a, C, H2, rfl, U, hE⟩ := q
    exact up_looks I.ok.frames hst hf U fun h' U' => hh pins _ σ H2 D a C U' hE
end L2
namespace L2
open PySem PySem.Spec PyProof.Rows PySem.W PySem.Calls PySem.Builtin PySem.Builtin.ObjectAttr PySem.Builtin.Getset_descriptor
structure ExK (K : Frag) (C : Addr) : Prop where
  ga : findIn K (.ref C) "__getattribute__" = some (some (.builtin "BaseException.__getattribute__"))
  gn : findIn K (.ref C) "__getattr__" = some none
  cl : findIn K (.ref C) "__class__" = some (some (.builtin "object.__class__"))
  gt : specialIn K (.builtin "object.__class__") "__get__" = some (some (.builtin "getset_descriptor.__get__"))
  tk : takesIn K (.builtin "object.__class__") = some true
  ob : mroIn K C (.type "object") = some true
  be : mroIn K C (.type "BaseException") = some true
  cd : (clsIn K C).isSome = true
section
variable {prog : Program} {w : World} {A : Around} {E : Value → Shared → Prop} {s : Shared} {K : Frag} {x C : Addr} {R : Result → Shared → Prop}
theorem exc_class_get {tp : Value} (X : K.In s.heap) (L0 : Looks (model prog w) s.heap (typeOf (.ref x)) (.ref C)) (L1 : Looks (model prog w) s.heap (isSubtype (.ref C) (.type "object")) true)
    (h : R (.ok (.ret (.ref C))) s) : codeAny (model prog w) A (.call (.builtin "getset_descriptor.__get__") ⟨[.builtin "object.__class__", .ref x, tp], []⟩) R s := by
  obtain ⟨hh, g, dr, t, os⟩ := s
  refine codeAny_call_builtin KF.slot_gs.plain KF.entry_gs (KF.slot_gs.check _ _ _ _ _ _ _ _ KF.type_class (KF.args_gs _ _ _) ?_)
  unfold Builtin.«getset_descriptor.__get__» descrGet
  rw [dga_obj]
  refine wpAny_bind (wpAny_pure ?_)
  unfold descrGetter descrCheckInstance descrNameAndClass isInstance
  simp only [KF.owner_class]
  repeat lk
  refine ⟨Code.quiet_builtin _ (by decide +kernel), codeAny_builtin KF.entry_class ?_⟩
  unfold Builtin.«object.__class__» shownTypeOf
  repeat lk
  exact h
theorem exc_find {M : Model} {h : Heap} (X : K.In h) (Z : ExK K C) : Looks M h (find (.ref x) (.ref C) "__class__") (.bind (.builtin "getset_descriptor.__get__") (.builtin "object.__class__")) := by
  have L1 := looks_findIn (M := M) X Z.cl
  have L2 : Looks M h (getOf (some (.builtin "object.__class__"))) (some (.builtin "getset_descriptor.__get__")) := looks_specialIn X Z.gt
  have L3 := looks_takesIn (M := M) X Z.tk
  refine L1.andThen (L2.andThen ?_)
  exact (show Looks M h (dataDescriptor? (some (.builtin "object.__class__")) (some (.builtin "getset_descriptor.__get__"))) (some (.builtin "getset_descriptor.__get__", .builtin "object.__class__")) from L3.andThen .now).andThen (Looks.tag .now)
theorem exc_entry {tk : Tok} {Q : Fin → Shared → Prop} (X : K.In s.heap) (Z : ExK K C) (L0 : Looks (model prog w) s.heap (typeOf (.ref x)) (.ref C)) (h : Q (.done (.ret (.ref C))) s) :
    wpAny (model prog w) A (Builtin.«object.__getattribute__» ⟨[.ref x, .str "__class__" tk], []⟩) Q E s := by
  have L1 := looks_mroIn (M := model prog w) X Z.ob
  have L2 := exc_find (M := model prog w) (x := x) X Z
  obtain ⟨hh, g, dr, t, os⟩ := s
  unfold Builtin.«object.__getattribute__»
  repeat (any_goals (first | assumption | (refine wpAny_bind (L0.at ?_)) | (refine wpAny_bind (L2.at ?_)) | wp_step))
  refine exc_class_get X L0 L1 ?_
  repeat (any_goals (first | assumption | wp_step))
theorem exc_kind : builtinKind "BaseException.__getattribute__" = some .slot := by decide +kernel
theorem exc_split : splitId "BaseException.__getattribute__" = some ("BaseException", "__getattribute__") := by decide +kernel
theorem exc_check {M : Model} {nameV : Value} {Q : Unit → Shared → Prop} (LI : Looks M s.heap (isInstance (.ref x) (.type "BaseException")) true) (h : Q () s) :
    wpAny M A (checkBuiltinCall "BaseException.__getattribute__" ⟨[.ref x, nameV], []⟩) Q E s :=
  check_slot (i := "BaseException.__getattribute__") (owner := "BaseException") (n := "__getattribute__") (self := .ref x) (rest := [nameV]) (kw := []) exc_kind exc_split LI (F.args_bexc_ga (.ref x) nameV) h
theorem exc_call {tk : Tok} (X : K.In s.heap) (Z : ExK K C) (L0 : Looks (model prog w) s.heap (typeOf (.ref x)) (.ref C)) (h : R (.ok (.ret (.ref C))) s) :
    codeAny (model prog w) A (.call (.builtin "BaseException.__getattribute__") ⟨[.ref x, .str "__class__" tk], []⟩) R s :=
  codeAny_call_builtin F.attrBase_ValueError.ga.plain F.entry_bexc_ga (exc_check (L0.andThen (looks_mroIn (M := model prog w) X Z.be)) (exc_entry X Z L0 h))
theorem exc_by {hh : Heap} {g : Array GenState} {dr : Drawn} {t : Nat} {os : OsState} {tk : Tok} {fill expr : Bool} {Q : Value → Shared → Prop} (X : K.In hh) (Z : ExK K C) (L0 : Looks (model prog w) hh (typeOf (.ref x)) (.ref C)) (h : Q (.ref C) ⟨hh, g, dr, t, os⟩) :
    wpAny (model prog w) A (getAttrBy (.ref x) (.str "__class__" tk) fill expr) Q E ⟨hh, g, dr, t, os⟩ := by
  have f3 := F.attrBase_ValueError.ga.bind (.ref x)
  have hx0 : (expr && onTheHeap (Value.builtin "BaseException.__getattribute__")) = false := by cases expr <;> rfl
  have hx2 : (Value.builtin "BaseException.__getattribute__" == Value.builtin "object.__getattribute__") = false := by decide +kernel
  have hx1 : (onTheHeap (Value.ref C) && Value.builtin "BaseException.__getattribute__" == Value.builtin "object.__getattribute__") = false := by rw [hx2]; rfl
  have L1 := looks_findIn (M := model prog w) X Z.ga
  have L2 := looks_findIn (M := model prog w) X Z.gn
  repeat (any_goals (first | assumption | (refine wpAny_bind (L0.at ?_)) | (refine wpAny_bind (L1.at ?_)) | (refine wpAny_bind (L2.at ?_)) | wp_step))
  refine exc_call X Z L0 ?_
  repeat (any_goals (first | assumption | wp_step))
theorem exc_class {hh : Heap} {g : Array GenState} {dr : Drawn} {t : Nat} {os : OsState} {Q : Option Value → Shared → Prop} (X : K.In hh) (Z : ExK K C) (L0 : Looks (model prog w) hh (typeOf (.ref x)) (.ref C)) (h : Q (some (.ref C)) ⟨hh, g, dr, t + 1, os⟩) :
    wpAny (model prog w) A (getAttr? (.ref x) "__class__") Q E ⟨hh, g, dr, t, os⟩ := by
  unfold getAttr? getAttrBy?
  repeat (any_goals (first | assumption | (with_reducible apply exc_by X Z L0) | wp_step))
end
end L2
namespace L2
open PySem PySem.Spec PyProof.Rows PySem.W
theorem kitx_exc {K : Frag} {a C : Addr} (Z : ExK K C) : KitX K (.ref a) (.ref C) (fun h => ∃ o vs, h.get? a = some o ∧ o.cls = .ref C ∧ o.data = .fields vs) where
  ty := fun M h _ ⟨o, vs, e1, e2, _⟩ => e2 ▸ (Looks.ld e1).andThen .now
  it := fun M h X _ => by
    obtain ⟨cd, hcD⟩ := Option.isSome_iff_exists.mp Z.cd
    unfold clsIn at hcD
    split at hcD
    · rename_i c' d' cd' sl' ho
      intro A' Q' E' s' k q
      unfold isType loadHead
      exact wpAny_bind (wpAny_loadPart (k _ _ (X _ _ ho)) (wpAny_pure q))
    · cases hcD
  ne := fun h tp dd its n sl X htp => by
    obtain ⟨cd, hcD⟩ := Option.isSome_iff_exists.mp Z.cd
    refine Bool.eq_false_iff.mpr fun q => ?_
    have e : C = tp := Value.ref.inj (beq_iff_eq.mp q)
    subst e
    unfold clsIn at hcD
    split at hcD
    · rename_i c' d' cd' sl' ho
      have z := (X _ _ ho).symm.trans htp
      cases z
    · cases hcD
  ca := fun {prog w A E Q s} X I k => by
    obtain ⟨hh, g, d, t, os⟩ := s
    obtain ⟨o, vs, e1, e2, _⟩ := I
    exact exc_class (C := C) X Z (e2 ▸ (Looks.ld e1).andThen .now) k
section
variable {X : Cx}
theorem call_isinstE (K : Frag) (hK : X.K = K := by rfl) : CallR X (.builtin "isinstance") (fun vs H Q => ∃ (a C D : Addr) (b : Bool), vs = [.ref a, .ref D] ∧ H a = some (excO a C) ∧ ExK K C ∧ kitOne K (.ref C) (.ref D) = some b ∧ Q (.bl b) H) := by
  subst hK
  intro pins s σ H xs us Q I r h
  obtain ⟨a, C, D, b, rfl, ha, Z, e, q⟩ := h
  obtain ⟨u, v, rfl, ru, rv⟩ := vals2 r
  cases (show u = Value.ref a from ru)
  cases (show v = Value.ref D from rv)
  exact kia_one (kitx_exc Z) I.kIn (I.hok a _ ha).1 e (fun z => nomatch z) fun tk => ⟨.bl b, H, I.tok tk, rfl, q⟩
theorem call_isinstEB (K : Frag) (hK : X.K = K := by rfl) : CallR X (.builtin "isinstance") (fun vs H Q => ∃ (a C : Addr) (T : String) (b : Bool), vs = [.ref a, .ty T] ∧ H a = some (excO a C) ∧ ExK K C ∧ kitOne K (.ref C) (.type T) = some b ∧ Q (.bl b) H) := by
  subst hK
  intro pins s σ H xs us Q I r h
  obtain ⟨a, C, T, b, rfl, ha, Z, e, q⟩ := h
  obtain ⟨u, v, rfl, ru, rv⟩ := vals2 r
  cases (show u = Value.ref a from ru)
  cases (show v = Value.type T from rv)
  exact kia_one (kitx_exc Z) I.kIn (I.hok a _ ha).1 e (fun z => nomatch z) fun tk => ⟨.bl b, H, I.tok tk, rfl, q⟩
end
abbrev bmV : List Value := [.type "ValueError", .type "Exception", .type "BaseException", .type "object"]
theorem exc_obj {K : Frag} {h : Heap} {C : Addr} {bmB : List Value} {newId : String} (X : K.In h) (q : excIn K C bmB newId = true) :
    ∃ bm N nm q bs hdct sn sub ab col dd k0 k1 k2 k3 k5 mN, h.get? C = some (excClassObj nm q C N bs bm hdct sn sub ab col dd k0 k1 k2 k3 k5 newId) ∧ h.Ns N mN ∧ mN "__init__" = none ∧ OwnTail h bmB bm := by
  unfold excIn at q
  split at q
  · rename_i dd cd sl ho
    split at q
    · rename_i C' bm k0 k1 k2 k3 n k5 hm hs
      simp only [Bool.and_eq_true, beq_iff_eq, Bool.not_eq_true'] at q
      obtain ⟨⟨⟨⟨⟨rfl, rfl⟩, hdel⟩, ht⟩, hok⟩, hni⟩ := q
      obtain ⟨nm, bs, mro, ns, qn, hd, sn, sub, ab, col, del⟩ := cd
      dsimp only at hm hdel hok hni
      subst hm hdel
      have hsl : sl = #[k0, k1, k2, k3, some (.builtin n), k5] := by
        obtain ⟨l⟩ := sl
        simp only at hs
        rw [hs]
      subst hsl
      exact ⟨bm, ns, nm, qn, bs, hd, sn, sub, ab, col, dd, k0, k1, k2, k3, k5, _, X _ _ ho, .of_isNs (isNs_of_in X hok), nsMap_none_of_in X hok hni, tail_of_in X ht⟩
    · cases q
  · cases q
def tRaise (E : XK) (C : Addr) (ta : TA) : TS := fun _ σ H => ta σ H fun vs H1 => vs.length ≤ sizeLine ∧ ∀ a, H1 a = none → E (.ref a) (some C) H1
theorem ps_raise {X : Cx} {E : XK} {x : Str} {C : Addr} {e₀ : Expr} {rest : List Expr} {ta : TA} {np cpos pos : Pos} (R : Raises X E) (hm : X.mg x = some (.ref C)) (hq : excIn X.K C bmV "ValueError.__new__" = true) (hg : Gl X x) (ha : PA X (e₀ :: rest) ta)
    (hc : X.calm = true := by rfl) (he : starEach (e₀ :: rest) X.env = (false, eval e₀ X.env) :: starEach rest X.env := by rfl) (hplain : (backTo cpos (starEach rest X.env)).any (·.1) = false := by rfl) (hd : (x == ("__debug__" : Str)) = false := by decide) :
    PS X (.Raise (some (.Call (.Name x np) (e₀ :: rest) [] cpos)) none pos) (tRaise E C ta) := by
  intro pins s σ H D I h
  obtain ⟨tl, N, nm, q, bs, hdct, sn, sub, ab, col, dd, k0, k1, k2, k3, k5, mN, hC, hN, hni, T⟩ := exc_obj I.ok.mod.kin hq
  refine wpAny_Raise_call_subT (C := C) (nm := nm) (q := q) (N := N) (bs := bs) (bm := tl) (hdct := hdct) (sn := sn) (sub := sub) (ab := ab) (col := col) (dd := dd) (k0 := k0) (k1 := k1) (k2 := k2) (k3 := k3) (k5 := k5)
    F.excBase_ValueError (mN := mN) (T.hasType F.excBase_ValueError.hasBase) (I.ok.hd hc) (by rw [he]; show (false || (backTo cpos (starEach rest X.env)).any (·.1)) = false; rw [hplain]; rfl) hni (ld_glob I hg hm ⟨rfl, ?_⟩ hd)
  have hh := ha cpos pins s σ H _ I h
  rw [he] at hh ⊢
  refine Calls.evalArgs_plain (wpAny_mono hh (fun vs s₂ h₂ => ?_) fun _ _ y => y)
  obtain ⟨us, H1, I1, r, hz, q⟩ := h₂
  refine ⟨rfl, by rw [← r.length]; exact hz, I1.bk _ _ hC, hN.keeps I1.bk, T.keeps I1.bk, fun h' e mk => R pins σ H1 s₂ h' e C vs I1 mk (q e ?_)⟩
  cases z : H1 e with
  | none => rfl
  | some u =>
    obtain ⟨o, eo⟩ := (I1.hok e u z).obj
    rw [mk.new] at eo; cases eo
def HasX (P : Program) (w : World) (K : Frag) (mg : Str → Option Value) (base : Heap) (x : Str) (k : Nat) (ps : List Str) (sp : Sp) : Prop :=
  ∃ f fd, FnOk P w K mg base (CXE P w) k f fd ps sp ∧ Binds K fd ps [] ∧ keepIn K (.ref f) = true ∧ mg x = some (.ref f)
section
variable {P : Program} {w : World} {K : Frag} {mg : Str → Option Value} {base : Heap}
theorem HasX.mono {x : Str} {j k : Nat} {ps : List Str} {sp : Sp} (G : HasX P w K mg base x j ps sp) (h : j ≤ k) : HasX P w K mg base x k ps sp :=
  let ⟨f, fd, F, r⟩ := G; ⟨f, fd, F.mono h, r⟩
theorem Df.hasX {x : Str} {st : Stmt} {N ps : List Str} {k : Nat} {sp : Sp} (D : Df K mg x st) (S : FnScope N ps (defScope st))
    (hb : ∀ (kV doc pm : Value) (an : Option Addr) (cdv ct : Value) (us : List Value), us.length = ps.length → bindArgs (fnOf x x (defArgs st) (defBody st) (defScope st) .none kV doc pm an cdv ct) ⟨us, []⟩ = pure (ps.zip us))
    (len : ∀ vs H Q E, sp vs H Q E → vs.length = ps.length)
    (hbody : ∀ (f : Addr) (cdv : Value) (A : Around) (outer : List Env) (s : Shared) (H : Hp) (vs : List V) (Q : VK) (E : XK), Room k (A.deeper (envOfC x (defScope st) s.heap.objs.size f cdv)) → sp vs H Q E →
      ∃ t, PSs (cxOf (CXE P w) P w K mg base N x (defScope st) f cdv A outer s H E) (defBody st) t ∧ t { nx := fun _ H' => Q .non H', rt := Q } (start N vs) H) : HasX P w K mg base x (k + 1) ps sp := by
  obtain ⟨f, fd, F, m⟩ := D
  refine ⟨f, fd, ?_, F.binds hb, F.kp, m⟩
  obtain ⟨oc, od, kV, doc, pm, an, cdv, ct, osl, rfl, lk, hcd⟩ := F.ex
  exact fn_of lk hcd S len fun A outer s H vs Q E hr hsp => hbody f cdv A outer s H vs Q E hr hsp
end
section
variable {X : Cx} {x : Str} {k : Nat} {ps : List Str} {sp : Sp} {p pos : Pos} {e : Expr} {es : List Expr} {t : TA} {E : XK} {σ0 : St}
theorem run_fnX {f : Addr} {fd : FuncData} {pins : List (Addr × Obj)} {H : Hp} {s : Shared} {Q : VK} {us : List Value} {vs : List V} (F : FnOk X.prog X.w X.K X.mg X.base (CXE X.prog X.w) k f fd ps sp) (hr : Room k X.A) (hb : Binds X.K fd ps []) (hx : PassesAt (CXE X.prog X.w) X E σ0)
    (I : Inv X pins σ0 H s) (r : Vals vs us) (h : sp (vs ++ []) H Q E) : wpAny (model X.prog X.w) X.A (call (.ref f) us) (EP X pins σ0 Q) X.xe s := by
  have r2 : Vals (vs ++ []) (us ++ []) := r.append .nil
  have hl : (us ++ []).length = ps.length := by rw [← r2.length]; exact F.len _ _ _ _ h
  refine wpAny_call (codeAny_mono (F.run X.A X.stack s H ⟨us, []⟩ (us ++ []) (vs ++ []) Q E hr I.env0 (hb s us I.kIn hl) r2 h) fun r s' hq => ?_)
  cases r with
  | error e => exact hx pins H s e s' I hq
  | ok fl =>
    cases fl with
    | ret u => exact I.after hq
    | next => exact False.elim hq
    | brk => exact False.elim hq
    | cont => exact False.elim hq
theorem pe_callX (G : HasX X.prog X.w X.K X.mg X.base x k ps sp) (hx : PassesAt (CXE X.prog X.w) X E σ0) (hr : Room k X.A) (hg : Gl X x) (ha : PA X (e :: es) t)
    (hdb : (x == ("__debug__" : Str)) = false := by decide) (he : starEach (e :: es) X.env = (false, eval e X.env) :: starEach es X.env := by rfl) (hpl : (backTo pos (starEach es X.env)).any (·.1) = false := by rfl) :
    PE X (.Call (.Name x p) (e :: es) [] pos) (fun σ H Q => σ = σ0 ∧ tCall sp [] E t σ H Q) := by
  obtain ⟨f, fd, F, b, kp, hm⟩ := G
  rintro pins s σ H Q I ⟨rfl, h⟩
  refine wpAny_Call_Name_kw (ld_glob I hg hm ?_ hdb)
  refine callWith_K (h₀ := X.base) I.ok.mod.kin kp (thn (ha pos pins s σ H _ I h) fun us s1 ⟨vs, H1, I1, r, q⟩ => ⟨I1.kIn, ?_⟩) he hpl
  exact run_fnX F hr b hx I1 r q
end
end L2
namespace L2
open PySem PySem.Spec PyProof.Rows PySem.W
@[irreducible] def bigL : Int := 2 ^ 1000
section
variable {X : Cx}
theorem op_fdivL : OpR X (binaryOp .FloorDiv) (rI (fun _ j => 0 < j ∧ j < bigL) fun i j => .int (i / j)) := opI fun i j _ _ _ _ _ hc q => by
  have h1 : (0 : Int) < j := hc.1
  have h2 : j < 2 ^ 1000 := by have := hc.2; unfold bigL at this; exact this
  refine floordiv_int (by omega) (by rw [Int.fdiv_eq_ediv_of_nonneg i (by omega)]; exact q) (.inl (PyProof.noPylong_of_log2 ?_))
  have h3 : j.natAbs < 2 ^ 1000 := by
    have : (j.natAbs : Int) < ((2 ^ 1000 : Nat) : Int) := by
      rw [Int.natAbs_of_nonneg (by omega)]
      exact_mod_cast h2
    exact_mod_cast this
  have h4 := (Nat.log2_lt (by omega)).mpr h3
  omega
theorem flat_bls (ns : List Bool) : (ns.map V.bl).all flatV = true := by
  rw [List.all_map]; exact List.all_eq_true.mpr fun _ _ => rfl
def rCountB : V → List V → Hp → VK → Prop := fun x vs H Q => ∃ (l : Addr) (ns : List Bool) (y : Bool), x = .ref l ∧ vs = [.bl y] ∧ H l = some (.lst (ns.map V.bl)) ∧ Q (.int ((ns.count y : Nat) : Int)) H
theorem mt_countB : MtM X "list.count" rCountB := by
  intro pins s σ H x vs v us Q I rx rv h
  obtain ⟨l, ns, y, rfl, rfl, hH, q⟩ := h
  cases rx
  obtain ⟨u, rfl, ru⟩ := rv.one
  have ru0 := ru
  cases (show u = Value.bool y from ru)
  obtain ⟨z, its, n, r, hz, e⟩ := I.lstM hH
  refine call_meets F.slot_list_count ⟨_, e, rfl⟩ F.entry_list_count (F.args_list_count_2 _ _) (SeqAt.list_countAt l its.toArray n none #[] (.bool y) (eqU (V.bl y))) ⟨e, fun u hu => mem_eqAt (x := V.bl y) ru0 rfl r (flat_bls ns) u (by simpa using hu), ?_⟩
  have key : ∀ (ms : List Bool) (us : List Value), Vals (ms.map V.bl) us → us.countP (eqU (V.bl y)) = ms.count y := by
    intro ms
    induction ms with
    | nil => intro us hv; cases hv; rfl
    | cons m ms ih =>
      intro us hv
      cases hv with
      | cons h t =>
        cases (show _ = Value.bool m from h)
        rw [List.countP_cons, List.count_cons, ih _ t]
        cases m <;> cases y <;> rfl
  have ek : its.toArray.toList.countP (eqU (V.bl y)) = ns.count y := by rw [List.toList_toArray]; exact key ns its r
  exact ⟨.int _, H, I.tok _, ⟨_, by rw [ek]⟩, q⟩
theorem pe_countB (K : PySem.W.Frag) {o e : Expr} {to te : TE} {apos cpos : Pos} (ho : PE X o to) (he : PE X e te) (hK : X.K = K := by rfl) (hbase : attributeBase o "count" X.env (eval o X.env) = eval o X.env := by rfl)
    (h1 : starEach [e] X.env = [(false, eval e X.env)] := by rfl) (hl : (apos.endLine == cpos.line) = true := by rfl) :
    PE X (.Call (.Attribute o "count" apos) [e] [] cpos) (tBM K "list" rCountB to (tCons te tNil)) := by
  subst hK
  exact pe_bm PySem.F.plainAttrs_list PySem.F.slot_list_count PySem.F.type_list_count mt_countB ho (pa_cons he pa_nil h1) hbase (by rw [h1]; rfl) hl h1 (by rfl)
def rIndexT : V → List V → Hp → VK → Prop := fun x vs H Q => ∃ (l : Addr) (ss : List Bool) (y : Bool), x = .ref l ∧ vs = [.bl y] ∧ H l = some (.lst (ss.map V.bl)) ∧ y ∈ ss ∧ ss.length ≤ 10000 ∧ Q (.int ((ss.idxOf y : Nat) : Int)) H
theorem mt_indexT : MtM X "list.index" rIndexT := by
  intro pins s σ H x vs v us Q I rx rv h
  obtain ⟨l, ss, y, rfl, rfl, hH, hm, hl, q⟩ := h
  cases rx
  obtain ⟨u, rfl, ru⟩ := rv.one
  have ru0 := ru
  cases (show u = Value.bool y from ru)
  obtain ⟨z, its, n, r, hz, e⟩ := I.lstM hH
  have rl := r.length
  rw [List.length_map] at rl
  have jl : ss.idxOf y < ss.length := List.idxOf_lt_length_of_mem hm
  have key : ∀ (j : Nat) (hj : j < its.toArray.size), eqU (V.bl y) its.toArray[j] = (ss[j]'(by rw [rl]; simpa using hj) == y) := fun j hj => by
    have hj' : j < ss.length := by rw [rl]; simpa using hj
    obtain ⟨w', e1, e2⟩ := r.get (i := j) (x := V.bl (ss[j])) (by rw [List.getElem?_map, List.getElem?_eq_getElem hj']; rfl)
    cases (show w' = Value.bool ss[j] from e2)
    have : its.toArray[j] = Value.bool ss[j] := by
      rw [List.getElem?_eq_getElem (by omega)] at e1
      simpa using Option.some.inj e1
    rw [this]
    generalize ss[j] = b
    cases b <;> cases y <;> rfl
  refine call_meets F.slot_list_index ⟨_, e, rfl⟩ F.entry_list_index (F.args_list_index_2 _ _) (SeqAt.list_indexAt l its.toArray n none #[] (.bool y) (eqU (V.bl y)) (ss.idxOf y) (by rw [List.size_toArray]; omega) (by omega) ?_ ?_) ⟨e, fun u hu => mem_eqAt (x := V.bl y) ru0 rfl r (flat_bls ss) u (by simpa using hu), ?_⟩
  · rw [key _ (by rw [List.size_toArray]; omega), List.getElem_idxOf jl]; exact beq_self_eq_true y
  · intro m hm' hlt
    rw [key m hm']
    have := List.not_of_lt_findIdx (p := (· == y)) (xs := ss) (i := m) hlt
    simpa using this
  · exact ⟨.int _, H, I.tok _, ⟨_, rfl⟩, q⟩
theorem pe_indexT (K : PySem.W.Frag) {o e : Expr} {to te : TE} {apos cpos : Pos} (ho : PE X o to) (he : PE X e te) (hK : X.K = K := by rfl) (hbase : attributeBase o "index" X.env (eval o X.env) = eval o X.env := by rfl)
    (h1 : starEach [e] X.env = [(false, eval e X.env)] := by rfl) (hl : (apos.endLine == cpos.line) = true := by rfl) :
    PE X (.Call (.Attribute o "index" apos) [e] [] cpos) (tBM K "list" rIndexT to (tCons te tNil)) := by
  subst hK
  exact pe_bm PySem.F.plainAttrs_list PySem.F.slot_list_index PySem.F.type_list_index mt_indexT ho (pa_cons he pa_nil h1) hbase (by rw [h1]; rfl) hl h1 (by rfl)
end
end L2
namespace L2
open PySem PySem.Spec PyProof.Rows PySem.W
section
variable {X : Cx}
end
end L2
namespace L2
section
variable {NL : List PySem.Str} {ix : List Nat} {g : TG} {tt : TT} {te : TE} {σ : St} {H1 : Hp} {Qs : Hp → Prop} {acc : PySem.Addr}
theorem comp_tupI {K : PySem.W.Frag} {a : PySem.Addr} {xs : List V} (hn : xs.length < 1000) (Pv : Nat → List V → Hp → Prop)
    (hl : ∀ i ys H2, Pv i ys H2 → SqT K H2 a xs) (hacc : ∀ i ys H2, Pv i ys H2 → H2 acc = some (.lst ys) ∧ ys.length ≤ i) (h0 : Pv 0 [] (upd H1 acc (.lst []))) (hstop : ∀ ys H2, Pv xs.length ys H2 → Qs H2)
    (hturn : ∀ i x ys H2, xs[i]? = some x → Pv i ys H2 → g x (comp0 NL ix σ) H2 fun σ' H4 => σ'.drop NL.length = ix.map (fun j => σ.getD j none) ∧ tt σ' H4 fun b H5 =>
      if b = true then te σ' H5 fun v H6 => H6 acc = some (.lst ys) ∧ Pv (i + 1) (ys ++ [v]) (upd H6 acc (.lst (ys ++ [v]))) else Pv (i + 1) ys H5) :
    ∃ W : Nat → Nat → List V → Hp → Prop, (∃ m, W 0 m [] (upd H1 acc (.lst []))) ∧
    ∀ i m ys H2, W i m ys H2 → H2 acc = some (.lst ys) ∧ ys.length < PySem.sizeLine ∧
      (((Itt K a).stop i H2 ∧ Qs H2) ∨ ((Itt K a).go i H2 ∧ ∃ N : List V → Hp → Prop, (∀ ys' H', N ys' H' → ∃ m', m' < m ∧ W (i + 1) m' ys' H') ∧
        ∀ x H3, (Itt K a).yld i H2 x H3 → g x (comp0 NL ix σ) H3 fun σ' H4 => σ'.drop NL.length = ix.map (fun j => σ.getD j none) ∧ tt σ' H4 fun b H5 =>
          if b = true then te σ' H5 fun v H6 => H6 acc = some (.lst ys) ∧ N (ys ++ [v]) (upd H6 acc (.lst (ys ++ [v]))) else N ys H5)) := by
  refine comp_by xs.length hn Pv hacc h0 (fun ys H2 hp => ⟨⟨xs, hl _ _ _ hp, Nat.le_refl _⟩, hstop ys H2 hp⟩) fun i ys H2 hi hp => ?_
  have hs := hl _ _ _ hp
  refine ⟨⟨xs, xs[i], hs, List.getElem?_eq_getElem hi⟩, ?_⟩
  rintro x H3 ⟨rfl, hx⟩
  exact hturn i x ys H3 (hx xs hs) hp
end
end L2
namespace L2
open PySem PySem.Spec PyProof.Rows PySem.W
section
variable {X : Cx}
theorem op_ne_nil (hu : X.A.units < cLine) : OpR X (compareOp .NotEq) (fun x y H Q => ∃ a b xs, x = .ref a ∧ y = .ref b ∧ SqL X.K H a xs ∧ SqL X.K H b [] ∧ Q (.bl (!xs.isEmpty)) H) := by
  intro pins s σ H x y v u Q I rx ry h
  obtain ⟨a, b, xs, rfl, rfl, h1, h2, q⟩ := h
  cases xs with
  | nil => exact op_ne_lst hu pins s σ H _ _ v u Q I rx ry ⟨a, b, [], [], rfl, rfl, h1, h2, rfl, rfl, q⟩
  | cons z zs =>
    cases (show v = Value.ref a from rx)
    cases (show u = Value.ref b from ry)
    obtain ⟨us, r1, l1, _⟩ := I.list h1
    obtain ⟨ws, r2, l2, _⟩ := I.list h2
    have e1 := r1.length
    have e2 := r2.length
    rw [List.length_cons] at e1
    rw [List.length_nil] at e2
    exact SeqAt.RcNeAt.lists_lengths l1.isList l2.isList (by simp; omega) hu _ _ _ _ ⟨.bl _, H, I, rfl, q⟩
end
end L2
namespace L2
open PySem PySem.Spec PyProof.Rows PySem.W
section
variable {X : Cx}
theorem preSum_take (ns : List Int) : ∀ j, j ≤ ns.length → preSum (fun i => ns.getD i 0) j = (ns.take j).sum
  | 0, _ => rfl
  | j + 1, h => by
    show preSum _ j + ns.getD j 0 = _
    rw [preSum_take ns j (by omega), List.take_succ, List.getElem?_eq_getElem (by omega), List.sum_append, List.getD_eq_getElem?_getD, List.getElem?_eq_getElem (by omega)]
    simp
end
end L2
namespace L2
open PySem PySem.Spec PyProof.Rows PySem.W
abbrev IsZipB (h : Heap) (z TI TO p : Addr) (b : Bool) : Prop := h.get? z = some { cls := .type "zip", data := .fields #[rawInt (p : Int), .bool b, .bool false, .ref TI, .ref TO] }
section
variable {prog : Program} {w : World} {A : Around} {E : Value → Shared → Prop} {s : Shared}
end
def ZSt (κ1 κ2 : SK) (z TI TO i1 i2 : Addr) (k : Nat) (h : Heap) : Prop :=
  ((IsZip h z TI TO .none) ∨ ∃ p b, IsZipB h z TI TO p b ∧ (∃ o, h.get? p = some o)) ∧ IsPair h TI (.ref i1) (.ref i2) ∧ (∃ a b, IsPair h TO a b) ∧ κ1.own i1 k h ∧ κ2.own i2 k h
theorem ZSt.keep {κ1 κ2 : SK} {z TI TO i1 i2 : Addr} {k : Nat} {h h' : Heap} (x : ZSt κ1 κ2 z TI TO i1 i2 k h) (k1 : ∀ b ∈ [z, TI, TO, i1, i2], ∀ o, h.get? b = some o → h'.get? b = some o) (k2 : ∀ b o, h.get? b = some o → ∃ o', h'.get? b = some o') : ZSt κ1 κ2 z TI TO i1 i2 k h' := by
  obtain ⟨hz, hTI, ⟨a, c, hTO⟩, h1, h2⟩ := x
  refine ⟨?_, k1 TI (by simp) _ hTI, ⟨a, c, k1 TO (by simp) _ hTO⟩, SK.own_at h1 fun o q => k1 i1 (by simp) o q, SK.own_at h2 fun o q => k1 i2 (by simp) o q⟩
  rcases hz with hz | ⟨p, b, hz, o, hp⟩
  · exact .inl (k1 z (by simp) _ hz)
  · exact .inr ⟨p, b, k1 z (by simp) _ hz, k2 _ _ hp⟩
section
variable {X : Cx} {pins : List (Addr × Obj)} {σ : St} {H : Hp} {s : Shared} {A : Around} {E : Value → Shared → Prop} {κ1 κ2 : SK} {z TI TO i1 i2 : Addr}
end
def NewTups (H0 H : Hp) (as : List Addr) (xs ys : List V) : Prop :=
  as.Nodup ∧ (∀ b, b ∉ as → H b = H0 b) ∧ ∀ (i : Nat) (a : Addr), as[i]? = some a → H0 a = none ∧ ∃ x y, xs[i]? = some x ∧ ys[i]? = some y ∧ H a = some (.tup [x, y])
theorem NewTups.nil {H : Hp} {xs ys : List V} : NewTups H H [] xs ys := ⟨List.nodup_nil, fun _ _ => rfl, fun i a e => by simp at e⟩
theorem NewTups.same {H0 H : Hp} {as : List Addr} {xs ys : List V} (n : NewTups H0 H as xs ys) : Same H0 H := fun b u e => by
  have nb : b ∉ as := fun hb => by
    obtain ⟨i, hi⟩ := List.getElem?_of_mem hb
    rw [(n.2.2 i b hi).1] at e; cases e
  exact (n.2.1 b nb).trans e
theorem NewTups.push {H0 H : Hp} {as : List Addr} {xs ys : List V} {p : Addr} {x y : V} (n : NewTups H0 H as xs ys) (hp : H p = none) (hx : xs[as.length]? = some x) (hy : ys[as.length]? = some y) : NewTups H0 (upd H p (.tup [x, y])) (as ++ [p]) xs ys := by
  have np : p ∉ as := fun hm => by
    obtain ⟨i, hi⟩ := List.getElem?_of_mem hm
    obtain ⟨_, x, y, _, _, e⟩ := n.2.2 i p hi
    rw [hp] at e; cases e
  refine ⟨List.nodup_append.mpr ⟨n.1, by simp, fun a ha b hb => by simp at hb; subst hb; exact fun e => np (e ▸ ha)⟩, fun b hb => ?_, fun i a e => ?_⟩
  · have h1 : b ∉ as := fun q => hb (by simp [q])
    have h2 : b ≠ p := fun q => hb (by simp [q])
    rw [upd_ne h2]; exact n.2.1 b h1
  · rcases Nat.lt_or_ge i as.length with q | q
    · rw [List.getElem?_append_left q] at e
      obtain ⟨e1, x, y, e2, e3, e4⟩ := n.2.2 i a e
      exact ⟨e1, x, y, e2, e3, by rw [upd_ne (fun z => np (by rw [← z]; exact List.mem_of_getElem? e))]; exact e4⟩
    · have q0 : i = as.length := by
        have := (List.getElem?_eq_some_iff.mp e).1
        simp at this; omega
      subst q0
      have ea : p = a := by simpa using e
      subst ea
      exact ⟨by rw [← n.2.1 p np]; exact hp, x, y, hx, hy, upd_same⟩
section
variable {X : Cx} {pins : List (Addr × Obj)} {σ : St} {A : Around} {κ1 κ2 : SK} {z TI TO i1 i2 S : Addr} {xs ys : List V} {H0 : Hp} {res : Value} {R : Result → Shared → Prop} {g0 : Array GenState} {d0 : Drawn} {o0 : OsState}
end
end L2
namespace L2
open PySem PySem.Spec PyProof.Rows PySem.W Tim
section
variable {prog : Program} {w : World} {A : Around} {E : Value → Shared → Prop} {s : Shared}
end
section
variable {X : Cx} {pins : List (Addr × Obj)} {σ : St} {H : Hp} {s : Shared} {A : Around} {E : Value → Shared → Prop} {κ1 κ2 : SK} {z TI TO i1 i2 : Addr} {xs ys : List V}
theorem ZSt.zip {k : Nat} {h : Heap} (x : ZSt κ1 κ2 z TI TO i1 i2 k h) : ∃ o, h.get? z = some o ∧ o.cls = .type "zip" := by
  rcases x.1 with e | ⟨_, _, e, _⟩
  · exact ⟨_, e, rfl⟩
  · exact ⟨_, e, rfl⟩
end
end L2
namespace L2
open PySem PySem.Spec PyProof.Rows PySem.W
def Best (kf : Nat → Int) (b j : Nat) : Prop := b < j ∧ ∀ i, i < j → kf i ≤ kf b ∧ (i < b → kf i < kf b)
theorem Best.one (kf : Nat → Int) : Best kf 0 1 := ⟨by omega, fun i hi => ⟨by rw [show i = 0 by omega]; exact Int.le_refl _, fun h => by omega⟩⟩
theorem Best.stay {kf : Nat → Int} {b j : Nat} (h : Best kf b j) (hn : ¬ kf b < kf j) : Best kf b (j + 1) := ⟨by have := h.1; omega, fun i hi => by
  rcases Nat.lt_or_ge i j with q | q
  · exact h.2 i q
  · have : i = j := by omega
    subst this
    exact ⟨by omega, fun z => by have := h.1; omega⟩⟩
theorem Best.new {kf : Nat → Int} {b j : Nat} (h : Best kf b j) (hn : kf b < kf j) : Best kf j (j + 1) := ⟨by omega, fun i hi => by
  rcases Nat.lt_or_ge i j with q | q
  · have := (h.2 i q).1
    exact ⟨by omega, fun _ => by omega⟩
  · have : i = j := by omega
    subst this
    exact ⟨Int.le_refl _, fun z => by omega⟩⟩
section
variable {X : Cx} {pins : List (Addr × Obj)} {σ : St}
variable {A : Around} {R : Result → Shared → Prop} {H0 : Hp} {a fa S It : Addr} {xs : List V} {kf : Nat → Int}
end
section
variable {X : Cx}
end
end L2
namespace L2
open PySem PySem.Spec PyProof.Rows PySem.W
theorem rev_pick (items : Array Value) : (List.filterMap (fun k : Nat => items[((items.size : Int) - 1 + (k : Int) * -1).toNat]?) (List.range items.size)) = items.toList.reverse := by
  apply List.ext_getElem?
  intro i
  have e : (List.range items.size).filterMap (fun k : Nat => items[((items.size : Int) - 1 + (k : Int) * -1).toNat]?) = (List.range items.size).map fun k => items.getD (items.size - 1 - k) .none := by
    have go : ∀ l : List Nat, (∀ k ∈ l, k < items.size) → l.filterMap (fun k : Nat => items[((items.size : Int) - 1 + (k : Int) * -1).toNat]?) = l.map fun k => items.getD (items.size - 1 - k) .none := fun l => by
      induction l with
      | nil => intro _; rfl
      | cons k l ih =>
        intro hl
        have hk := hl k List.mem_cons_self
        rw [List.filterMap_cons, List.map_cons, ih fun x hx => hl x (List.mem_cons_of_mem _ hx), show ((items.size : Int) - 1 + (k : Int) * -1).toNat = items.size - 1 - k by omega, Array.getElem?_eq_getElem (by omega), Array.getD_eq_getD_getElem?, Array.getElem?_eq_getElem (by omega)]
        rfl
    exact go _ fun k hk => List.mem_range.mp hk
  rw [e, List.getElem?_map]
  rcases Nat.lt_or_ge i items.size with c | c
  · rw [List.getElem?_range c, List.getElem?_reverse (by simpa using c), Array.length_toList, Array.getElem?_toList, Array.getElem?_eq_getElem (by omega)]
    show some (items.getD (items.size - 1 - i) .none) = some _
    rw [Array.getD_eq_getD_getElem?, Array.getElem?_eq_getElem (by omega)]; rfl
  · rw [List.getElem?_eq_none (by simpa using c), List.getElem?_eq_none (by simpa using c)]; rfl
theorem places_rev (n : Nat) : Builtin.Slice.slicePlaces ((n : Int) - 1) (-1) (-1) = n := by
  unfold Builtin.Slice.slicePlaces
  rw [if_neg (by decide)]
  split
  · rename_i h
    have : ((n : Int) - 1 - -1 - 1) / - -1 = (n : Int) - 1 := by
      rw [show (- -1 : Int) = 1 by decide, Int.ediv_one]; omega
    rw [this]; omega
  · omega
section
variable {prog : Program} {w : World} {A : Around} {E : Value → Shared → Prop} {s : Shared}
theorem part_none {Q : Option Int → Shared → Prop} (h : Q none s) : wpAny (model prog w) A (Builtin.Slice.slicePartIndex .none) Q E s := wpAny_pure h
theorem part_int {i : Int} {tk : Tok} {Q : Option Int → Shared → Prop} (h : Q (some i) s) : wpAny (model prog w) A (Builtin.Slice.slicePartIndex (.int i tk)) Q E s := by
  unfold Builtin.Slice.slicePartIndex
  rw [if_neg (by show ¬ (false = true); decide)]
  refine wpAny_bind (wpAny_specialOf_val (T := "int") rfl (r := some (.builtin "int.__index__")) (by kernel_rfl) ?_)
  rw [if_neg (by decide)]
  show wpAny _ _ (pure i >>= _) _ _ _
  exact wpAny_bind (wpAny_pure (wpAny_pure h))
theorem getItem_tuple_rev {t sl : Addr} {items : Array Value} {tk : Tok} {Q : Value → Shared → Prop} (ht : IsTup s.heap t items) (hs : s.heap.get? sl = some { cls := .type "slice", data := .fields #[.none, .none, .int (-1) tk] }) (hz : items.size ≤ sizeLine)
    (h : Q (.ref s.heap.objs.size) { s with heap := s.heap.push { cls := .type "tuple", data := .seq items.toList.reverse.toArray } }) : wpAny (model prog w) A (getItem (.ref t) (.ref sl)) Q E s := by
  have hT : s.TypeIs (.ref t) "tuple" := ht.typeIs
  have hTs : s.TypeIs (.ref sl) "slice" := ⟨_, hs, rfl⟩
  refine wpAny_getItem_slot hT (by decide) PyProof.Rows.slot_tuple_getitem (wpAny_call_entry PyProof.Rows.slot_tuple_getitem hT PyProof.Rows.entry_tuple_getitem ?_ (PyProof.Rows.args_tuple_getitem _ _))
  obtain ⟨o, ho, hc, n, hd⟩ := id ht
  have f1 : wpAny (model prog w) A.in1 (Builtin.Slice.sliceApplied (.ref sl) (pure (items.size : Int))) (fun r s' => r = ((items.size : Int) - 1, -1, items.size) ∧ s' = s) E s := by
    unfold Builtin.Slice.sliceApplied Builtin.Slice.sliceFields
    refine wpAny_bind (wpAny_bind (wpAny_field hs rfl (x := .none) rfl (wpAny_bind (wpAny_field hs rfl (x := .none) rfl (wpAny_bind (wpAny_field hs rfl (x := .int (-1) tk) rfl (wpAny_pure ?_)))))))
    dsimp only
    refine wpAny_bind (part_int ?_)
    show wpAny _ _ (Builtin.Slice.slicePartIndex .none >>= _) _ _ _
    refine wpAny_bind (part_none ?_)
    refine wpAny_bind (part_none ?_)
    refine wpAny_bind (wpAny_pure ?_)
    show wpAny _ _ (pure ((items.size : Int) - 1, (-1 : Int), Builtin.Slice.slicePlaces ((items.size : Int) - 1) (-1) (-1))) _ _ _
    rw [places_rev]
    exact wpAny_pure ⟨rfl, rfl⟩
  show wpAny _ _ (Builtin.Tuple.tupleItemsOf (.ref t) >>= _) _ _ _
  refine wpAny_bind (PyProof.Rows.tupleItemsOf_ ht ?_)
  refine wpAny_bind (wpAny_typeOf hTs ?_)
  rw [if_pos (by decide)]
  refine wpAny_bind (thn f1 fun r s' hr => ?_)
  obtain ⟨rfl, rfl⟩ := hr
  dsimp only
  have nb : ¬ (((items.size : Int) - 1 == 0 && (-1 : Int) == 1 && items.size == items.size) = true) := by simp
  rw [if_neg nb, rev_pick]
  show wpAny _ _ (newTuple items.toList.reverse >>= _) _ _ _
  exact wpAny_bind (wpAny_newTuple (wpAny_pure ⟨_, rfl, h⟩) (by rw [List.length_reverse, Array.length_toList]; exact hz))
end
section
variable {X : Cx} {e st : Expr} {te : TE} {ts : TO} {pos p2 : Pos}
def tRevT (K : PySem.W.Frag) (te : TE) (ts : TO) : TE := fun σ H Q => te σ H fun x H1 => ts σ H1 fun o H2 => ∃ (a : Addr) (xs : List V), o = some (-1) ∧ x = .ref a ∧ SqT K H2 a xs ∧ ∀ r : Addr, H2 r = none → Q (.ref r) (upd H2 r (.tup xs.reverse))
theorem vals_rev : ∀ {xs : List V} {us : List Value}, Vals xs us → Vals xs.reverse us.reverse
  | [], _, .nil => .nil
  | x :: xs, _, .cons r t => by
    rw [List.reverse_cons, List.reverse_cons]
    exact (vals_rev t).append (.cons r .nil)
theorem pe_revT (K : PySem.W.Frag) (he : PE X e te) (hs : PO X (some st) ts) (hK : X.K = K := by rfl) : PE X (.Subscript e (.Slice none none (some st) p2) pos) (tRevT K te ts) := by
  subst hK
  intro pins s σ H Q I h
  refine Subscript_ (thn (he pins s σ H _ I h) fun v s1 ⟨x, H1, I1, r1, q1⟩ => ?_)
  refine wpAny_Slice ?_
  rw [evalPart_none]
  refine wpAny_pure (wpAny_pure ?_)
  refine thn (hs pins s1 σ H1 _ I1 q1) fun vs s3 ⟨o, H3, I3, po, q3⟩ => ?_
  obtain ⟨a, xs, rfl, rfl, hq, q⟩ := q3
  cases r1
  cases po with
  | int i tk =>
  have I4 : Inv X pins σ H3 { s3 with heap := s3.heap.push { cls := .type "slice", data := .fields #[.none, .none, .int (-1) tk] } } := I3.kept (t' := s3.toks) fun b ob q => Heap.get?_push_of_some _ q
  show wpAny (model X.prog X.w) X.A (subscriptTail e (.Slice none none (some st) p2) (.ref a) (.ref s3.heap.objs.size)) (EP X pins σ Q) X.xe { s3 with heap := s3.heap.push { cls := .type "slice", data := .fields #[.none, .none, .int (-1) tk] } }
  obtain ⟨its, r, ht, hz⟩ := I4.tuple hq
  have hlen := r.length
  refine tail_any (ops := [.ref a, .ref s3.heap.objs.size]) (T := "tuple") ht.typeIs PyProof.Rows.slot_tuple_getitem.lookup ?_ (by with_unfolding_all rfl)
  refine getItem_tuple_rev ht (Heap.get?_push_size _ rfl) (by rw [List.size_toArray]; omega) ?_
  have rl : its.toArray.toList.reverse = its.reverse := by simp
  rw [rl]
  refine ⟨.ref _, _, I4.laid (t' := s3.toks) (o := .tup xs.reverse) (fun b ob q => Heap.get?_push_of_some _ q) (Nat.le_refl _) ?_, rfl, q _ (I4.hok.fresh (Nat.le_refl _))⟩
  exact ⟨⟨by rw [List.length_reverse]; exact hz, _, Heap.get?_push_size _ rfl, rfl⟩, its.reverse, vals_rev r, _, Heap.get?_push_size _ rfl, rfl, 0, rfl⟩
end
end L2
namespace L2
open PySem
theorem ar0 {α : Type} {p : List α → Prop} (h : p []) (us : List α) (hl : us.length = 0) : p us := by
  cases us with
  | nil => exact h
  | cons _ _ => cases hl
theorem ar1 {α : Type} {p : List α → Prop} (h : ∀ a, p [a]) (us : List α) (hl : us.length = 1) : p us := by
  cases us with
  | nil => cases hl
  | cons a us => exact ar0 (p := fun us => p (a :: us)) (h a) us (Nat.succ.inj hl)
theorem ar2 {α : Type} {p : List α → Prop} (h : ∀ a b, p [a, b]) (us : List α) (hl : us.length = 2) : p us := by
  cases us with
  | nil => cases hl
  | cons a us => exact ar1 (p := fun us => p (a :: us)) (h a) us (Nat.succ.inj hl)
theorem mid {t u : TS} {D : Ends} {σ : St} {H : Hp} (P : St → Hp → Prop) (h2 : ∀ σ' H', P σ' H' → u D σ' H') (h1 : ∀ E : Ends, (∀ σ' H', P σ' H' → E.nx σ' H') → t E σ H) : tSeq t u D σ H := h1 { D with nx := u D } h2
end L2
namespace L2
open PySem PySem.Spec PyProof.Rows PySem.W
section
variable {prog : Program} {w : World} {A : Around} {E : Value → Shared → Prop} {s : Shared}
theorem draw_list {it t : Addr} {items : Array Value} (hne : t ≠ it) : ∀ (n i : Nat) (s : Shared) (Q : List Value → Shared → Prop), s.heap.IsListIter it t i → s.heap.IsList t items → i + n ≤ items.size →
    (∀ h', h'.IsListIter it t (i + n) → Heap.SameBut it s.heap h' → Q ((items.toList.drop i).take n) { s with heap := h' }) → wpAny (model prog w) A (draw (.ref it) n) Q E s
  | 0, i, s, Q, hit, _, _, hQ => by
    show wpAny _ _ (pure []) Q E s
    exact wpAny_pure (by simpa using hQ s.heap hit (Heap.SameBut.refl ..))
  | n + 1, i, s, Q, hit, ht, hle, hQ => by
    have hlt : i < items.size := by omega
    show wpAny _ _ (pyNext (.ref it) >>= _) Q E s
    refine wpAny_bind (wpAny_pyNext_list_item hit ht (x := items[i]) (by simp [hlt]) fun h₁ hit₁ hs₁ => ?_)
    refine wpAny_bind (wpAny_holding (draw_list hne n (i + 1) _ _ hit₁ (ht.extBut hs₁.extBut hne) (by omega) fun h₂ hit₂ hs₂ => wpAny_pure ?_))
    have hd : items.toList.drop i = items[i] :: items.toList.drop (i + 1) := by simp [List.drop_eq_getElem_cons, hlt]
    have := hQ h₂ (by rw [show i + (n + 1) = i + 1 + n by omega]; exact hit₂) (hs₁.trans hs₂)
    rw [hd, List.take_succ_cons] at this
    exact this
theorem unpackItems_list {t : Addr} {items : Array Value} {Q : List Value → Shared → Prop} (hh : A.handled = none) (ht : s.heap.IsList t items)
    (hQ : ∀ h', Heap.ExtBut s.heap.objs.size s.heap h' → Q items.toList { s with heap := h' }) : wpAny (model prog w) A (unpackItems (.ref t) items.size none) Q E s := by
  have hlt : t ≠ s.heap.objs.size := by obtain ⟨o, ho, _⟩ := ht; exact Nat.ne_of_lt (Heap.lt_size ho)
  unfold unpackItems
  refine wpAny_bind ?_
  unfold notIterableAtAll
  refine wpAny_bind (wpAny_specialOf ht.typeIs slot_list_iter.lookup ?_)
  refine wpAny_pure ?_
  simp only [Bool.false_eq_true, if_false]
  refine wpAny_bind (wpAny_holding (wpAny_pyIter_list ht ?_))
  refine wpAny_bind (wpAny_holding (draw_list hlt items.size 0 _ _ ⟨_, Heap.get?_push_size _ rfl, rfl, rfl⟩ (Heap.IsList.push ht _) (by omega) fun h₁ hit₁ hs₁ => ?_))
  have hall : List.take items.size (List.drop 0 items.toList) = items.toList := by
    rw [List.drop_zero]; exact List.take_of_length_le (by simp)
  rw [hall]
  rw [if_neg (by simp)]
  have ht₁ : h₁.IsList t items := (Heap.IsList.push ht _).extBut hs₁.extBut hlt
  refine wpAny_bind (wpAny_holding (wpAny_pyNext_list_end hh hit₁ ht₁ (by simp) fun h₂ he₂ => ?_))
  simp only [Option.isSome_none, Bool.false_eq_true, if_false]
  refine wpAny_pure (hQ h₂ fun b o hb e => he₂ b o hb (hs₁.extBut b o hb (Heap.get?_push_of_some _ e)))
theorem assign_Tuple_list {env : Env} {elts : List Expr} {x1} {pos : Pos} {t : Addr} {items : Array Value} {Q : Unit → Shared → Prop} (hh : A.handled = none) (ht : s.heap.IsList t items)
    (hn : (assignEach elts env).length = items.size) (hstar : (assignEach elts env).findIdx? (·.1) = none)
    (h : ∀ h', Heap.ExtBut s.heap.objs.size s.heap h' → wpAny (model prog w) A (assignInOrder ((assignEach elts env).map (·.2)) items.toList) Q E { s with heap := h' }) :
    wpAny (model prog w) A (assign (.Tuple elts x1 pos) env (.ref t)) Q E s := by
  rw [assign_Tuple]
  refine wpAny_bind (wpAny_standAt ?_)
  unfold unpack
  rw [hn, hstar]
  exact wpAny_bind (wpAny_holding (unpackItems_list hh ht h))
end
section
variable {X : Cx} {pos : Pos}
def gLst (K : PySem.W.Frag) (n : Nat) (t : TGs) : TG := fun v σ H Q => ∃ a xs, v = .ref a ∧ SqL K H a xs ∧ xs.length = n ∧ t xs σ H Q
theorem pg_lst {es : List Expr} {k : Nat} {t : TGs} {n : Nat} (hc : X.calm = true) (h : PGs X es t)
    (hn : (assignEach es X.env).length = n := by rfl) (hst : (assignEach es X.env).findIdx? (·.1) = none := by rfl) : PG X (.Tuple es k pos) (gLst X.K n t) := by
  intro pins s σ H v u Q I r hw
  obtain ⟨a, xs, e1, hq, hl, hw⟩ := hw
  subst e1
  cases r
  obtain ⟨its, rv, ht, hz⟩ := I.list hq
  refine assign_Tuple_list (I.ok.hd hc) ht.isList (by simp [hn, ← hl, rv.length]) hst fun h' hx => ?_
  have I1 : Inv X pins σ H { s with heap := h' } := I.kept (t' := s.toks) fun b o e => hx b o (Nat.ne_of_lt (Heap.lt_size e)) e
  exact h pins _ σ H xs _ Q I1 (by simpa using rv) hw
theorem call_sumA (K : PySem.W.Frag) (hc : X.calm = true) (hK : X.K = K := by rfl) : CallR X (.builtin "sum") (fun vs H Q => ∃ (a : Addr) (ns : List Int), vs = [.ref a] ∧ SqL K H a (ns.map V.int) ∧ Q (.int ns.sum) H) := by
  subst hK
  intro pins s σ H xs us Q I r h
  obtain ⟨a, ns, rfl, hl, q⟩ := h
  obtain ⟨u, rfl, ru⟩ := vals1 r
  cases (show u = Value.ref a from ru)
  obtain ⟨its, rv, ht, hz⟩ := I.list hl
  have hlen := rv.length
  rw [List.length_map] at hlen
  have hh : X.A.in1.handled = none := I.ok.hd hc
  have hlt : a < s.heap.objs.size := by obtain ⟨o, e, _⟩ := ht.isList; exact Heap.lt_size e
  refine call_sum_walkAnyS (wpAny_pyIter_list ht.isList ⟨s.heap.objs.size, _, _, _, _, _, _, (fun i => ns.getD i 0), rfl, (Walks.list hh s.heap.objs.size a (Nat.ne_of_lt hlt) its.toArray).toS, ?_, ?_, ?_, ?_⟩)
  · exact ⟨⟨_, Heap.get?_push_size _ rfl, rfl, rfl⟩, Heap.IsList.push ht.isList _⟩
  · intro b hb
    have : b = s.heap.objs.size ∨ b = a := by simpa using hb
    show b < (s.heap.objs.push _).size
    rw [Array.size_push]
    rcases this with rfl | rfl
    · exact Nat.lt_succ_self _
    · exact Nat.lt_succ_of_lt hlt
  · intro i v hv
    have hv' : its[i]? = some v := by simpa using hv
    have hi : i < (ns.map V.int).length := by rw [List.length_map, hlen]; exact (List.getElem?_eq_some_iff.mp hv').1
    obtain ⟨u', e1, e2⟩ := rv.get (List.getElem?_eq_getElem hi)
    rw [hv'] at e1
    cases e1
    rw [List.getElem_map] at e2
    obtain ⟨t, e2⟩ : ∃ t, v = Value.int _ t := e2
    have hb : ns.getD i 0 = ns[i]'(by simpa using hi) := by rw [List.getD_eq_getElem?_getD, List.getElem?_eq_getElem (by simpa using hi)]; rfl
    exact ⟨t, by show v = Value.int (ns.getD i 0) t; rw [hb]; exact e2⟩
  · intro s' t' hm
    rw [List.size_toArray, ← hlen, preSum_take ns _ (Nat.le_refl _), List.take_length]
    obtain ⟨h', g', d', tk, os'⟩ := s'
    have e1 := hm.gens
    have e2 := hm.drawn
    have e3 := hm.os
    dsimp only at e1 e2 e3
    subst e1 e2 e3
    exact ⟨.int _, H, I.kept (t' := tk) fun b o e => hm.heap b o (by simp; exact Nat.ne_of_lt (Heap.lt_size e)) (Heap.get?_push_of_some _ e), ⟨_, rfl⟩, q⟩
theorem noFill_tuple_mul : fillsNumberSlot (.type "tuple") "mul" = pure false :=
  PySem.fillsNumberSlot_seq (id := "tuple.__mul__") (r := some (.builtin "tuple.__rmul__")) PySem.F.slot_tuple_mul.lookup (by decide +kernel) PySem.F.slot_tuple_rmul.lookup (by decide +kernel)
theorem repeat_tuple : seqRepeat? (.type "tuple") = pure (some (.builtin "tuple.__mul__")) := by
  unfold seqRepeat?
  rw [PySem.seqSlot_of (T := "tuple") (name := "__mul__") (id := "tuple.__mul__") PySem.F.slot_tuple_mul.lookup (by decide +kernel), PySem.seqSlot_of (T := "tuple") (name := "__rmul__") (id := "tuple.__rmul__") PySem.F.slot_tuple_rmul.lookup (by decide +kernel)]
  rfl
theorem int_rmul_tup (a : Int) (t : Tok) (l : Addr) (items : Array Value) (n : Nat) (dd : Option Addr) (sl : Array (Option Value)) :
    Meets (Builtin.«int.__rmul__» ⟨[.int a t, .ref l], []⟩) (fun _ R s => s.heap.get? l = some { cls := .type "tuple", dict := dd, data := .seq items n, slots := sl } ∧ R (.ok (.ret Value.notImplemented)) s) :=
  .of_wp fun prog w A R s h => by obtain ⟨hp, g, d, tk, os⟩ := s; obtain ⟨hl, h⟩ := h; wp_walk; exact ⟨_, rfl, h⟩
theorem tup_mul_one (l : Addr) (x : Value) (n : Nat) (dd : Option Addr) (sl : Array (Option Value)) (k : Int) (t : Tok) (h2 : 2 ≤ k) (h3 : k ≤ 1000) :
    Meets (Builtin.«tuple.__mul__» ⟨[.ref l, .int k t], []⟩) (fun _ R s => s.heap.get? l = some { cls := .type "tuple", dict := dd, data := .seq #[x] n, slots := sl } ∧ R (.ok (.ret (.ref s.heap.objs.size))) { s with heap := s.heap.push { cls := .type "tuple", data := .seq (List.replicate k.toNat x).toArray } }) :=
  .of_wp fun prog w A R s h => by
    obtain ⟨hp, g, d, tk, os⟩ := s
    obtain ⟨hl, h⟩ := h
    wp_walk
    rw [if_neg (by rw [Bool.or_eq_true, decide_eq_true_eq, decide_eq_true_eq]; omega)]
    have f2 := AutoSeq1.sub_tuple_tuple
    wp_walk using wpAny_loadPart' hl
    rw [if_neg (by
      intro e
      rcases Bool.or_eq_true _ _ ▸ e with e | e
      · cases e
      · have : k = 1 := eq_of_beq e
        omega)]
    dsimp only
    rw [if_neg (by
      intro e
      rcases Bool.or_eq_true _ _ ▸ e with e | e
      · have := of_decide_eq_true e
        omega
      · cases e)]
    have sz : ((#[x] : Array Value).size : Int) = 1 := rfl
    rw [if_neg (by rw [sz]; omega)]
    skip
    have tm : ¬ Builtin.Tuple.tupleTooMany (((#[x] : Array Value).size : Int) * k) = true := by
      rw [sz]; unfold Builtin.Tuple.tupleTooMany
      intro e
      have := of_decide_eq_true e
      have h : (1000 : Int) ≤ (sizeLine : Int) := by decide
      omega
    rw [if_neg tm]
    have fe : ∀ (m : Nat) (acc : List Value), List.foldl (fun x1 x2 => x1 ++ x2) acc.toArray (List.replicate m #[x]) = (acc ++ List.replicate m x).toArray := by
      intro m
      induction m with
      | zero => intro acc; simp
      | succ m ih =>
        intro acc
        rw [List.replicate_succ, List.foldl_cons]
        have := ih (acc ++ [x])
        rw [show acc.toArray ++ #[x] = (acc ++ [x]).toArray by simp, this, List.replicate_succ, List.append_assoc]
        rfl
    have fe0 := fe k.toNat []
    rw [List.nil_append] at fe0
    rw [show (List.foldl (fun x1 x2 => x1 ++ x2) #[] (List.replicate k.toNat #[x])) = (List.replicate k.toNat x).toArray from fe0]
    unfold Builtin.Tuple.tupleExact
    refine wpAny_bind (wpAny_newObj_type (wpAny_pure ⟨_, rfl, h⟩) ?_)
    show (List.replicate k.toNat x).toArray.size ≤ sizeLine
    rw [List.size_toArray, List.length_replicate]
    have h : (1000 : Nat) ≤ sizeLine := by decide
    omega
def rRepT (K : PySem.W.Frag) : R2 := fun x y H Q => ∃ a k v, x = .ref a ∧ y = .int k ∧ SqT K H a [v] ∧ 2 ≤ k ∧ k ≤ 1000 ∧ ∀ p, H p = none → Q (.ref p) (upd H p (.tup (List.replicate k.toNat v)))
theorem vals_rep {v : V} {u : Value} (r : RelV v u) : ∀ n, Vals (List.replicate n v) (List.replicate n u)
  | 0 => .nil
  | n + 1 => .cons r (vals_rep r n)
theorem op_repT : OpR X (binaryOp .Mult) (rRepT X.K) := by
  intro pins s σ H x y v u Q I rx ry h
  obtain ⟨a, k, z, rfl, rfl, ha, k2, k3, q⟩ := h
  cases rx
  obtain ⟨t, rfl⟩ := ry
  obtain ⟨its, r1, p1, _⟩ := I.tuple ha
  obtain ⟨u, rfl, ru⟩ := vals1 r1
  obtain ⟨o, ho, hc, hd⟩ := id p1
  obtain ⟨cl, dd, dt, sl⟩ := o
  dsimp only at hc hd
  obtain ⟨n, hd⟩ := hd
  subst hc hd
  refine wpAny_binaryOp_repeat_ref (T := "tuple") (U := "int") (by decide) ⟨_, ho, rfl⟩ (fun s' => typeIs_int s' k t) noFill_tuple_mul PySem.F.fills_int_mul PySem.F.slot_int_rmul repeat_tuple PySem.F.slot_int_index.lookup
    (call_meets PySem.F.slot_int_rmul (typeIs_int s k t) PySem.F.entry_int_rmul (PySem.F.args_int_rmul_2 _ _) (int_rmul_tup k t a _ n dd sl)
      ⟨ho, rfl, ⟨_, ho, rfl⟩, call_meets PySem.F.slot_tuple_mul ⟨_, ho, rfl⟩ PySem.F.entry_tuple_mul (PySem.F.args_tuple_mul_2 _ _) (tup_mul_one a u n dd sl k t k2 k3) ⟨ho, ?_⟩⟩)
  refine ⟨.ref s.heap.objs.size, _, I.laid (t' := s.toks) (o := .tup (List.replicate k.toNat z)) (fun b ob q => Heap.get?_push_of_some _ q) (Nat.le_refl _) ?_, rfl, q _ (I.hok.fresh (Nat.le_refl _))⟩
  refine ⟨⟨?_, _, Heap.get?_push_size _ rfl, rfl⟩, _, vals_rep ru _, IsTup.new _ _⟩
  rw [List.length_replicate]
  have h : (1000 : Nat) ≤ sizeLine := by decide
  omega
end
end L2
namespace HT
open PySem PySem.Spec PyProof.Rows
section
variable {prog : Program} {w : World} {A : Around} {E : Value → Shared → Prop} {s : Shared}
theorem getItem_tuple_all {t sl : Addr} {items : Array Value} {vl vu : Value} {lo hi : Option Int} {Q : Value → Shared → Prop} (ht : IsTup s.heap t items) (hs : s.heap.IsSliceOf sl vl vu .none) (pl : IsPart vl lo) (pu : IsPart vu hi)
    (h1 : sIx items.size 0 lo = 0) (h2 : sIx items.size items.size hi = items.size) (h : Q (.ref t) s) : wpAny (model prog w) A (getItem (.ref t) (.ref sl)) Q E s := by
  obtain ⟨os, hos, hcs, hds⟩ := id hs
  have hTs : s.TypeIs (.ref sl) "slice" := ⟨os, hos, hcs⟩
  unfold getItem
  try with_reducible refine wpAny_holding ?_
  first | refine wpAny_bind (wpAny_pure ?_) | skip
  refine wpAny_bind (wpAny_sequenceKey ht.typeIs (by decide) ?_)
  refine wpAny_bind (wpAny_callSpecial?_slot (name := Str.ofString "__getitem__") ht.typeIs PyProof.Rows.slot_tuple_getitem
    (wpAny_call_entry PyProof.Rows.slot_tuple_getitem ht.typeIs entry_tuple_getitem ?_ (args_tuple_getitem _ _)))
  show wpAny _ _ (Builtin.Tuple.tupleItemsOf (.ref t) >>= _) _ _ s
  refine wpAny_bind (tupleItemsOf_ ht ?_)
  refine wpAny_bind (wpAny_typeOf hTs ?_)
  rw [if_pos (by decide)]
  refine wpAny_bind (sliceApplied_gen hs pl pu ?_)
  have hyes : ((((sIx items.size 0 lo : Nat) : Int) == 0 && (1 : Int) == 1 && (sIx items.size items.size hi - sIx items.size 0 lo) == items.size) = true) := by
    rw [h1, h2]; simp
  show wpAny _ _ (if (((sIx items.size 0 lo : Nat) : Int) == 0 && (1 : Int) == 1 && (sIx items.size items.size hi - sIx items.size 0 lo) == items.size) = true then _ else _) _ _ s
  rw [if_pos hyes]
  unfold Builtin.Tuple.tupleIsExact
  refine wpAny_bind (wpAny_bind (wpAny_typeOf ht.typeIs (wpAny_pure ?_)))
  rw [if_pos (by decide)]
  refine wpAny_bind (wpAny_rule ?_)
  first
    | exact wpAny_pure ⟨_, rfl, wpAny_pure h⟩
    | exact wpAny_bind (wpAny_pure (wpAny_pure ⟨_, rfl, wpAny_pure h⟩))
end
end HT
namespace L2
open PySem PySem.Spec PyProof.Rows
section
variable {X : Cx}
def rSlTA (K : PySem.W.Frag) : V → Option Int → Option Int → Hp → VK → Prop := fun x lo hi H Q => ∃ a xs, x = .ref a ∧ SqT K H a xs ∧
  ((HT.sIx xs.length 0 lo = 0 ∧ HT.sIx xs.length xs.length hi = xs.length) → Q (.ref a) H) ∧ (¬ (HT.sIx xs.length 0 lo = 0 ∧ HT.sIx xs.length xs.length hi = xs.length) → ∀ p, H p = none → Q (.ref p) (upd H p (.tup (cutV xs lo hi))))
theorem sl_tupA : SlR X (rSlTA X.K) := by
  intro pins s σ H x v vl vu lo hi sl Q I rx hs pl pu h
  obtain ⟨a, xs, rfl, hx, q1, q2⟩ := h
  by_cases hw : HT.sIx xs.length 0 lo = 0 ∧ HT.sIx xs.length xs.length hi = xs.length
  · cases rx
    obtain ⟨its, r, ht, hz⟩ := I.tuple hx
    have hlen : its.toArray.size = xs.length := by rw [List.size_toArray]; exact r.length.symm
    refine ⟨"tuple", _, PyProof.Rows.slot_tuple_getitem.lookup, ht.typeIs, ?_⟩
    exact HT.getItem_tuple_all ht hs pl pu (by rw [hlen]; exact hw.1) (by rw [hlen]; exact hw.2) ⟨.ref a, H, I, rfl, q1 hw⟩
  · exact sl_tup pins s σ H _ v vl vu lo hi sl Q I rx hs pl pu ⟨a, xs, rfl, hx, hw, q2 hw⟩
end
end L2
namespace L2
open PySem PySem.Spec PyProof.Rows PySem.W
section
variable {X : Cx}
theorem op_mulB : OpR X (binaryOp .Mult) (rI IntMulOk fun i j => .int (i * j)) := opI fun _ _ _ _ _ _ _ hc q => mul_int q hc
theorem pick_rev (its : List Value) : (slicePick its.toArray none none (some (-1))).toList = its.reverse := by
  have e : (slicePick its.toArray none none (some (-1))).toList = (sliceRange ((its.length : Int) - 1) (-1) (-1)).filterMap (its.toArray[·]?) := by
    have b : sliceBounds none none (some (-1)) its.toArray.size = ((its.length : Int) - 1, -1, -1) := by
      rw [List.size_toArray]; rfl
    unfold slicePick
    rw [b, List.toList_toArray]
  rw [e]
  unfold sliceRange
  dsimp only
  rw [if_neg (by decide)]
  have c : (if (its.length : Int) - 1 > -1 then ((its.length : Int) - 1 - -1 - -1 - 1) / (- -1) else 0).toNat = its.length := by
    split
    · rw [show (- -1 : Int) = 1 by decide, Int.ediv_one]; omega
    · omega
  rw [c, List.filterMap_map]
  have := rev_pick its.toArray
  rw [List.size_toArray] at this
  rw [show its.toArray.toList = its by simp] at this
  rw [← this]
  congr 1
  funext k
  show its.toArray[((its.length : Int) - 1 + -1 * (k : Int)).toNat]? = its.toArray[((its.length : Int) - 1 + (k : Int) * -1).toNat]?
  rw [Int.mul_comm]
variable {e st : Expr} {te : TE} {ts : TO} {pos p2 : Pos}
def tRevL (K : PySem.W.Frag) (te : TE) (ts : TO) : TE := fun σ H Q => te σ H fun x H1 => ts σ H1 fun o H2 => ∃ (a : Addr) (xs : List V), o = some (-1) ∧ x = .ref a ∧ SqL K H2 a xs ∧ ∀ r : Addr, H2 r = none → Q (.ref r) (upd H2 r (.lst xs.reverse))
theorem pe_revL (K : PySem.W.Frag) (he : PE X e te) (hs : PO X (some st) ts) (hK : X.K = K := by rfl) : PE X (.Subscript e (.Slice none none (some st) p2) pos) (tRevL K te ts) := by
  subst hK
  intro pins s σ H Q I h
  refine Subscript_ (thn (he pins s σ H _ I h) fun v s1 ⟨x, H1, I1, r1, q1⟩ => ?_)
  refine wpAny_Slice ?_
  rw [evalPart_none]
  refine wpAny_pure (wpAny_pure ?_)
  refine thn (hs pins s1 σ H1 _ I1 q1) fun vs s3 ⟨o, H3, I3, po, q3⟩ => ?_
  obtain ⟨a, xs, rfl, rfl, hq, q⟩ := q3
  cases r1
  cases po with
  | int i tk =>
  have I4 : Inv X pins σ H3 { s3 with heap := s3.heap.push { cls := .type "slice", data := .fields #[.none, .none, .int (-1) tk] } } := I3.kept (t' := s3.toks) fun b ob q => Heap.get?_push_of_some _ q
  show wpAny (model X.prog X.w) X.A (subscriptTail e (.Slice none none (some st) p2) (.ref a) (.ref s3.heap.objs.size)) (EP X pins σ Q) X.xe { s3 with heap := s3.heap.push { cls := .type "slice", data := .fields #[.none, .none, .int (-1) tk] } }
  obtain ⟨its, r, ht, hz⟩ := I4.list hq
  have hlen := r.length
  refine tail_any (ops := [.ref a, .ref s3.heap.objs.size]) (T := "list") ht.isList.typeIs F.slot_list_getitem.lookup ?_ (by with_unfolding_all rfl)
  refine wpAny_getItem_list_slice ht.isList (Heap.IsSliceOf.new ..) .none .none (.int (-1) tk) (fun e => by cases e) ?_ (by rw [List.size_toArray]; omega)
  have pr : slicePick its.toArray none none (some (-1)) = its.reverse.toArray := by
    apply Array.toList_inj.mp
    rw [pick_rev, List.toList_toArray]
  rw [pr]
  refine ⟨.ref _, _, I4.laid (t' := s3.toks) (o := .lst xs.reverse) (fun b ob q => Heap.get?_push_of_some _ q) (Nat.le_refl _) ?_, rfl, q _ (I4.hok.fresh (Nat.le_refl _))⟩
  exact ⟨by rw [List.length_reverse]; omega, _, 0, vals_rev r, Heap.get?_push_size _ rfl⟩
theorem tup_mul_nil (l : Addr) (x : Value) (n : Nat) (dd : Option Addr) (sl : Array (Option Value)) (t : Tok) :
    Meets (Builtin.«tuple.__mul__» ⟨[.ref l, .int 0 t], []⟩) (fun _ R s => s.heap.get? l = some { cls := .type "tuple", dict := dd, data := .seq #[x] n, slots := sl } ∧ R (.ok (.ret (.ref s.heap.objs.size))) { s with heap := s.heap.push { cls := .type "tuple", data := .seq #[] } }) :=
  .of_wp fun prog w A R s h => by
    obtain ⟨hp, g, d, tk, os⟩ := s
    obtain ⟨hl, h⟩ := h
    have f2 := AutoSeq1.sub_tuple_tuple
    wp_walk using wpAny_loadPart' hl
    exact ⟨_, rfl, h⟩
def rRepT0 (K : PySem.W.Frag) : R2 := fun x y H Q => ∃ a k v, x = .ref a ∧ y = .int k ∧ SqT K H a [v] ∧ (k = 0 ∨ 2 ≤ k) ∧ k ≤ 1000 ∧ ∀ p, H p = none → Q (.ref p) (upd H p (.tup (List.replicate k.toNat v)))
theorem op_repT0 (K : PySem.W.Frag) (hK : X.K = K := by rfl) : OpR X (binaryOp .Mult) (rRepT0 K) := by
  subst hK
  intro pins s σ H x y v u Q I rx ry h
  obtain ⟨a, k, z, rfl, rfl, ha, k2, k3, q⟩ := h
  rcases k2 with rfl | k2
  · cases rx
    obtain ⟨t, rfl⟩ := ry
    obtain ⟨its, r1, p1, _⟩ := I.tuple ha
    obtain ⟨u, rfl, ru⟩ := vals1 r1
    obtain ⟨o, ho, hc, hd⟩ := id p1
    obtain ⟨cl, dd, dt, sl⟩ := o
    dsimp only at hc hd
    obtain ⟨n, hd⟩ := hd
    subst hc hd
    refine wpAny_binaryOp_repeat_ref (T := "tuple") (U := "int") (by decide) ⟨_, ho, rfl⟩ (fun s' => typeIs_int s' 0 t) noFill_tuple_mul PySem.F.fills_int_mul PySem.F.slot_int_rmul repeat_tuple PySem.F.slot_int_index.lookup
      (call_meets PySem.F.slot_int_rmul (typeIs_int s 0 t) PySem.F.entry_int_rmul (PySem.F.args_int_rmul_2 _ _) (int_rmul_tup 0 t a _ n dd sl)
        ⟨ho, rfl, ⟨_, ho, rfl⟩, call_meets PySem.F.slot_tuple_mul ⟨_, ho, rfl⟩ PySem.F.entry_tuple_mul (PySem.F.args_tuple_mul_2 _ _) (tup_mul_nil a u n dd sl t) ⟨ho, ?_⟩⟩)
    refine ⟨.ref s.heap.objs.size, _, I.laid (t' := s.toks) (o := .tup []) (fun b ob q => Heap.get?_push_of_some _ q) (Nat.le_refl _) ?_, rfl, q _ (I.hok.fresh (Nat.le_refl _))⟩
    exact ⟨⟨Nat.zero_le _, _, Heap.get?_push_size _ rfl, rfl⟩, _, .nil, IsTup.new _ _⟩
  · exact op_repT pins s σ H _ _ v u Q I rx ry ⟨a, k, z, rfl, rfl, ha, k2, k3, q⟩
end
end L2
namespace W7
def wd (ups : List Int) (lab : List Nat) : Nat → Nat → List Nat
  | 0, _ => []
  | f + 1, k => lab.getD k 0 :: (if ups.getD k 0 < 0 then [] else wd ups lab f (ups.getD k 0).toNat)
structure TreeOk (ups : List Int) (lab : List Nat) : Prop where
  len : ups.length = lab.length
  pos : 0 < ups.length
  most : ups.length ≤ 60
  root : ups.getD 0 0 = -1
  up : ∀ k, 0 < k → k < ups.length → 0 ≤ ups.getD k 0 ∧ ups.getD k 0 < (k : Int)
theorem TreeOk.lt {ups : List Int} {lab : List Nat} (t : TreeOk ups lab) {k : Nat} (h : k < ups.length) (h0 : ¬ ups.getD k 0 < 0) : (ups.getD k 0).toNat < k := by
  rcases Nat.eq_zero_or_pos k with e | e
  · subst e; have := t.root; omega
  · have := t.up k e h; omega
def W (ups : List Int) (lab : List Nat) (k : Nat) : List Nat := wd ups lab (k + 1) k
def R (ups : List Int) (lab : List Nat) (k : Int) : List Nat := if k < 0 then [] else W ups lab k.toNat
end W7
namespace W47
abbrev Knot := Nat × List Int
def bel (net : List Knot) (k : Nat) : List Nat := (net.getD k (0, [])).2.map Int.toNat
def U (net : List Knot) : Nat → Nat → List Nat
  | 0, _ => []
  | f + 1, k => k :: ((bel net k).map (U net f)).flatten
def u (net : List Knot) (k : Nat) : List Nat := U net (k + 1) k
structure Net (net : List Knot) : Prop where
  num : ∀ k, k < net.length → ∀ l ∈ bel net k, l < k
variable {net : List Knot}
theorem Net.at' (h : Net net) (k : Nat) : ∀ l ∈ bel net k, l < k := fun l hl => by
  rcases Nat.lt_or_ge k net.length with c | c
  · exact h.num k c l hl
  · unfold bel at hl
    rw [List.getD_eq_getElem?_getD, List.getElem?_eq_none c] at hl
    cases hl
theorem U_eq (h : Net net) : ∀ (n k : Nat), k < n → ∀ f, k < f → U net f k = u net k
  | 0, _, hn, _, _ => absurd hn (Nat.not_lt_zero _)
  | n + 1, k, hn, f, hf => by
    obtain ⟨g, rfl⟩ : ∃ g, f = g + 1 := ⟨f - 1, by omega⟩
    show k :: ((bel net k).map (U net g)).flatten = k :: ((bel net k).map (U net k)).flatten
    congr 2
    refine List.map_congr_left fun l hl => ?_
    have := h.at' k l hl
    rw [U_eq h n l (by omega) g (by omega), U_eq h n l (by omega) k (by omega)]
theorem u_eq (h : Net net) (k : Nat) : u net k = k :: ((bel net k).map (u net)).flatten := by
  show k :: ((bel net k).map (U net k)).flatten = _
  congr 2
  refine List.map_congr_left fun l hl => ?_
  exact U_eq h (l + 1) l (Nat.lt_succ_self _) k (h.at' k l hl)
theorem u_pos (h : Net net) (k : Nat) : 0 < (u net k).length := by rw [u_eq h]; exact Nat.succ_pos _
theorem u_mem (h : Net net) : ∀ (n k : Nat), k < n → ∀ x ∈ u net k, x ≤ k
  | 0, _, hn, _, _ => absurd hn (Nat.not_lt_zero _)
  | n + 1, k, hn, x, hx => by
    rw [u_eq h] at hx
    rcases List.mem_cons.mp hx with e | e
    · omega
    · obtain ⟨l, hl, hx⟩ := List.mem_flatten.mp e
      obtain ⟨y, hy, rfl⟩ := List.mem_map.mp hl
      have := h.at' k y hy
      have := u_mem h n y (by omega) x hx
      omega
def sz (net : List Knot) (k : Nat) : Int := ((u net k).length : Nat)
theorem sum_len (l : List Nat) (f : Nat → List Nat) : ((l.map f).flatten.length : Int) = (l.map fun x => ((f x).length : Int)).sum := by
  induction l with
  | nil => rfl
  | cons a l ih => rw [List.map_cons, List.flatten_cons, List.length_append, List.map_cons, List.sum_cons, ← ih]; omega
theorem sz_eq (h : Net net) (k : Nat) : sz net k = 1 + ((bel net k).map (sz net)).sum := by
  unfold sz
  rw [u_eq h, List.length_cons]
  have := sum_len (bel net k) (u net)
  rw [← this]
  omega
def cc (j : Nat) (l : List Nat) : Nat := l.count j
def met (net : List Knot) (j : Nat) : Nat := (u net (net.length - 1)).count j
theorem last_lt (h : Net net) (p : 0 < net.length) : ∀ x ∈ u net (net.length - 1), x < net.length := fun x hx => by
  have := u_mem h (net.length - 1 + 1) _ (Nat.lt_succ_self _) x hx
  omega
def G (net : List Knot) : Nat → Nat → Nat
  | 0, j => if j = net.length - 1 then 1 else 0
  | t + 1, j => G net t j + met net (net.length - 1 - t) * (bel net (net.length - 1 - t)).count j
abbrev St := List (Nat × Int) × List Int × List Nat
def step (net : List Knot) : St → St
  | ((r, a) :: st, us, ks) => ((bel net r).map (fun l => (l, (us.length : Int))) ++ st, us ++ [a], ks ++ [r])
  | s => s
def run (net : List Knot) : Nat → St
  | 0 => ([(net.length - 1, -1)], [], [])
  | i + 1 => step net (run net i)
theorem run_inv (h : Net net) : ∀ i, i ≤ (u net (net.length - 1)).length → (run net i).2.1.length = i ∧ (run net i).2.2.length = i ∧ (run net i).2.2 ++ ((run net i).1.map fun p => u net p.1).flatten = u net (net.length - 1)
  | 0, _ => by
    refine ⟨rfl, rfl, ?_⟩
    show [] ++ [u net (net.length - 1)].flatten = _
    simp
  | i + 1, hi => by
    obtain ⟨a, b, c⟩ := run_inv h i (by omega)
    cases e : run net i with
    | mk st r =>
      obtain ⟨us, ks⟩ := r
      rw [e] at a b c
      show (step net (run net i)).2.1.length = _ ∧ _
      rw [show run net (i + 1) = step net (run net i) from rfl, e]
      cases st with
      | nil =>
        exfalso
        have := congrArg List.length c
        simp at this
        have b' : ks.length = i := b
        omega
      | cons q st =>
        obtain ⟨r, ab⟩ := q
        refine ⟨by show (us ++ [ab]).length = _; rw [List.length_append]; have a' : us.length = i := a; simp [a'], by show (ks ++ [r]).length = _; rw [List.length_append]; have b' : ks.length = i := b; simp [b'], ?_⟩
        show (ks ++ [r]) ++ (((bel net r).map (fun l => (l, (us.length : Int))) ++ st).map fun p => u net p.1).flatten = _
        rw [← c]
        show _ = ks ++ (u net r :: st.map fun p => u net p.1).flatten
        rw [List.flatten_cons, u_eq h r, List.map_append, List.flatten_append, List.map_map]
        simp
        rfl
theorem run_ne (h : Net net) {i : Nat} (hi : i < (u net (net.length - 1)).length) : (run net i).1 ≠ [] := fun e => by
  obtain ⟨_, b, c⟩ := run_inv h i (by omega)
  rw [e] at c
  have := congrArg List.length c
  simp at this
  omega
theorem flat_pos (h : Net net) : ∀ l : List (Nat × Int), l.length ≤ ((l.map fun p => u net p.1).flatten).length
  | [] => Nat.le_refl _
  | a :: l => by
    rw [List.map_cons, List.flatten_cons, List.length_append, List.length_cons]
    have := flat_pos h l
    have := u_pos h a.1
    omega
theorem run_few (h : Net net) {i : Nat} (hi : i ≤ (u net (net.length - 1)).length) : i + (run net i).1.length ≤ (u net (net.length - 1)).length := by
  obtain ⟨_, b, c⟩ := run_inv h i hi
  have := congrArg List.length c
  rw [List.length_append] at this
  have := flat_pos h (run net i).1
  omega
theorem run_end (h : Net net) : (run net (u net (net.length - 1)).length).1 = [] ∧ (run net (u net (net.length - 1)).length).2.2 = u net (net.length - 1) := by
  obtain ⟨_, b, c⟩ := run_inv h _ (Nat.le_refl _)
  have f := run_few h (Nat.le_refl (u net (net.length - 1)).length)
  have e : (run net (u net (net.length - 1)).length).1 = [] := List.eq_nil_of_length_eq_zero (by omega)
  rw [e] at c
  refine ⟨e, ?_⟩
  simpa using c
theorem run_row (h : Net net) (p : 0 < net.length) {i : Nat} (hi : i ≤ (u net (net.length - 1)).length) : ∀ q ∈ (run net i).1, q.1 < net.length := fun q hq => by
  obtain ⟨_, b, c⟩ := run_inv h i hi
  refine last_lt h p q.1 ?_
  rw [← c]
  refine List.mem_append_right _ (List.mem_flatten.mpr ⟨u net q.1, List.mem_map.mpr ⟨q, hq, rfl⟩, ?_⟩)
  rw [u_eq h]; exact List.mem_cons_self
theorem run_step (h : Net net) {i : Nat} (hi : i < (u net (net.length - 1)).length) : ∃ r up rest, (run net i).1 = (r, up) :: rest ∧ (run net (i + 1)).1 = (bel net r).map (fun l => (l, (i : Int))) ++ rest ∧ (run net (i + 1)).2.1 = (run net i).2.1 ++ [up] ∧ (run net (i + 1)).2.2 = (run net i).2.2 ++ [r] := by
  obtain ⟨a, b, c⟩ := run_inv h i (by omega)
  have ne := run_ne h hi
  rw [show run net (i + 1) = step net (run net i) from rfl]
  cases e : run net i with
  | mk st x =>
    obtain ⟨us, ks⟩ := x
    rw [e] at a ne
    cases st with
    | nil => exact absurd rfl ne
    | cons q st =>
      obtain ⟨r, ab⟩ := q
      have a' : us.length = i := a
      refine ⟨r, ab, st, rfl, ?_, rfl, rfl⟩
      show (bel net r).map (fun l => (l, (us.length : Int))) ++ st = _
      rw [a']
end W47
namespace W48
open W47
variable {net : List Knot}
def szN (net : List Knot) (k : Nat) : Nat := (u net k).length
def pick (net : List Knot) : List Nat → Nat → Nat × Nat
  | [], n => (0, n)
  | l :: ls, n => if n < szN net l then (l, n) else pick net ls (n - szN net l)
def sumN (net : List Knot) (ls : List Nat) : Nat := (ls.map (szN net)).sum
theorem sum_nil : sumN net [] = 0 := rfl
theorem sum_cons (l : Nat) (ls : List Nat) : sumN net (l :: ls) = szN net l + sumN net ls := by unfold sumN; rw [List.map_cons, List.sum_cons]
theorem szN_eq (h : Net net) (k : Nat) : szN net k = 1 + sumN net (bel net k) := by
  unfold szN sumN
  rw [u_eq h, List.length_cons, List.length_flatten, List.map_map]
  show _ = 1 + ((bel net k).map fun l => (u net l).length).sum
  rw [Nat.add_comm]; rfl
theorem szN_pos (h : Net net) (k : Nat) : 1 ≤ szN net k := u_pos h k
theorem pick_ok : ∀ (ls : List Nat) (n : Nat), n < sumN net ls → (pick net ls n).1 ∈ ls ∧ (pick net ls n).2 < szN net (pick net ls n).1
  | [], n, h => absurd h (Nat.not_lt_zero _)
  | l :: ls, n, h => by
    unfold pick
    by_cases c : n < szN net l
    · rw [if_pos c]; exact ⟨List.mem_cons_self, c⟩
    · rw [if_neg c]
      rw [sum_cons] at h
      have := pick_ok ls (n - szN net l) (by omega)
      exact ⟨List.mem_cons_of_mem _ this.1, this.2⟩
def dn (net : List Knot) : Nat → Nat → Nat → List Nat
  | 0, _, _ => []
  | f + 1, k, n => match n with
    | 0 => [k]
    | m + 1 => k :: dn net f (pick net (bel net k) m).1 (pick net (bel net k) m).2
def way (net : List Knot) (k n : Nat) : List Nat := dn net (k + 1) k n
theorem dn_eq (h : Net net) : ∀ (q k : Nat), k < q → ∀ (f n : Nat), k < f → n < szN net k → dn net f k n = way net k n
  | 0, _, hq, _, _, _, _ => absurd hq (Nat.not_lt_zero _)
  | q + 1, k, hq, f, n, hf, hn => by
    obtain ⟨g, rfl⟩ : ∃ g, f = g + 1 := ⟨f - 1, by omega⟩
    cases n with
    | zero => rfl
    | succ m =>
      show k :: dn net g _ _ = k :: dn net k _ _
      rw [szN_eq h] at hn
      have p := pick_ok (net := net) (bel net k) m (by omega)
      have l := h.at' k _ p.1
      rw [dn_eq h q _ (by omega) g _ (by omega) p.2, dn_eq h q _ (by omega) k _ (by omega) p.2]
theorem way_zero (k : Nat) : way net k 0 = [k] := rfl
theorem way_succ (h : Net net) {k m : Nat} (hm : m + 1 < szN net k) : way net k (m + 1) = k :: way net (pick net (bel net k) m).1 (pick net (bel net k) m).2 := by
  show k :: dn net k _ _ = _
  rw [szN_eq h] at hm
  have p := pick_ok (net := net) (bel net k) m (by omega)
  rw [dn_eq h _ _ (Nat.lt_succ_self _) k _ (h.at' k _ p.1) p.2]
theorem pick_at (ls : List Nat) : ∀ (t : Nat) (l x : Nat), ls[t]? = some l → x < szN net l → pick net ls (sumN net (ls.take t) + x) = (l, x) := by
  induction ls with
  | nil => intro t l x e; cases e
  | cons a ls ih =>
    intro t l x e hx
    cases t with
    | zero =>
      cases e
      show pick net (a :: ls) (0 + x) = _
      unfold pick
      rw [Nat.zero_add, if_pos hx]
    | succ t =>
      have e' : ls[t]? = some l := e
      rw [List.take_succ_cons, sum_cons]
      unfold pick
      rw [if_neg (by omega), show szN net a + sumN net (ls.take t) + x - szN net a = sumN net (ls.take t) + x by omega]
      exact ih t l x e' hx
theorem pick_inv (ls : List Nat) : ∀ (n : Nat), n < sumN net ls → ∃ t, ls[t]? = some (pick net ls n).1 ∧ n = sumN net (ls.take t) + (pick net ls n).2 := by
  induction ls with
  | nil => intro n h; exact absurd h (Nat.not_lt_zero _)
  | cons a ls ih =>
    intro n h
    unfold pick
    by_cases c : n < szN net a
    · rw [if_pos c]; exact ⟨0, rfl, by simp [sum_nil]⟩
    · rw [if_neg c]
      rw [sum_cons] at h
      obtain ⟨t, e1, e2⟩ := ih (n - szN net a) (by omega)
      exact ⟨t + 1, e1, by rw [List.take_succ_cons, sum_cons]; omega⟩
theorem take_le (ls : List Nat) (t l : Nat) (e : ls[t]? = some l) : sumN net (ls.take t) + szN net l ≤ sumN net ls := by
  induction ls generalizing t with
  | nil => cases e
  | cons a ls ih =>
    rw [sum_cons]
    cases t with
    | zero => cases e; show 0 + _ ≤ _; omega
    | succ t =>
      rw [List.take_succ_cons, sum_cons]
      have := ih t e
      omega
theorem way_add (h : Net net) : ∀ (q k : Nat), k < q → ∀ (n : Nat), n < szN net k → ∃ r, (way net k n).getLast? = some r ∧ n + szN net r ≤ szN net k ∧ ∀ x, x < szN net r → way net k (n + x) = (way net k n).dropLast ++ way net r x
  | 0, _, hq, _, _ => absurd hq (Nat.not_lt_zero _)
  | q + 1, k, hq, n, hn => by
    cases n with
    | zero =>
      refine ⟨k, rfl, by omega, fun x hx => ?_⟩
      rw [way_zero, Nat.zero_add]; rfl
    | succ m =>
      have hn' := hn
      rw [szN_eq h] at hn'
      have p := pick_ok (net := net) (bel net k) m (by omega)
      have lk := h.at' k _ p.1
      obtain ⟨t, e1, e2⟩ := pick_inv (net := net) (bel net k) m (by omega)
      obtain ⟨r, a, b, c⟩ := way_add h q _ (by omega) _ p.2
      have tl := take_le (net := net) _ _ _ e1
      have wne : way net (pick net (bel net k) m).1 (pick net (bel net k) m).2 ≠ [] := by intro z; rw [z] at a; cases a
      refine ⟨r, ?_, by rw [szN_eq h k]; omega, fun x hx => ?_⟩
      · rw [way_succ h hn, List.getLast?_cons, a]; rfl
      · have hx2 : (pick net (bel net k) m).2 + x < szN net (pick net (bel net k) m).1 := by omega
        rw [show m + 1 + x = (m + x) + 1 by omega, way_succ h (by rw [szN_eq h k]; omega), way_succ h hn]
        have pk := pick_at (net := net) (bel net k) t _ _ e1 hx2
        rw [show m + x = sumN net ((bel net k).take t) + ((pick net (bel net k) m).2 + x) by omega, pk, c x hx, List.dropLast_cons_of_ne_nil wne]
        rfl
abbrev top (net : List Knot) : Nat := net.length - 1
def Good (net : List Knot) (r : Nat) (a : Int) (j : Nat) : Prop := (a = -1 ∧ way net (top net) j = [r]) ∨ ∃ b : Nat, a = (b : Int) ∧ b < j ∧ way net (top net) j = way net (top net) b ++ [r]
theorem Good.last {r j : Nat} {a : Int} (g : Good net r a j) : (way net (top net) j).getLast? = some r := by
  rcases g with ⟨_, e⟩ | ⟨b, _, _, e⟩
  · rw [e]; rfl
  · rw [e]; simp
def SkOk (net : List Knot) : List (Nat × Int) → Nat → Prop
  | [], _ => True
  | p :: st, j => Good net p.1 p.2 j ∧ SkOk net st (j + szN net p.1)
theorem sk_app (f : Nat → Nat × Int) : ∀ (ls : List Nat) (st : List (Nat × Int)) (j : Nat), (∀ l, (f l).1 = l) → (∀ t l, ls[t]? = some l → Good net l (f l).2 (j + sumN net (ls.take t))) → SkOk net st (j + sumN net ls) → SkOk net (ls.map f ++ st) j
  | [], st, j, _, _, h => by simpa [sum_nil] using h
  | l :: ls, st, j, hf, hg, h => by
    refine ⟨?_, ?_⟩
    · rw [hf]; exact hg 0 l rfl
    · rw [hf]
      refine sk_app f ls st (j + szN net l) hf (fun t m e => ?_) ?_
      · have := hg (t + 1) m e
        rw [List.take_succ_cons, sum_cons, ← Nat.add_assoc] at this
        exact this
      · rw [sum_cons, ← Nat.add_assoc] at h; exact h
theorem run_way (h : Net net) : ∀ i, i ≤ (u net (top net)).length → SkOk net (run net i).1 i ∧ ∀ m, m < i → ∃ a r, (run net i).2.1[m]? = some a ∧ (run net i).2.2[m]? = some r ∧ Good net r a m
  | 0, _ => ⟨⟨.inl ⟨rfl, rfl⟩, trivial⟩, fun m hm => absurd hm (Nat.not_lt_zero _)⟩
  | i + 1, hi => by
    obtain ⟨sk, vis⟩ := run_way h i (by omega)
    obtain ⟨r, up, rest, e1, e2, e3, e4⟩ := run_step h (i := i) (by have := hi; unfold top at this; omega)
    obtain ⟨l1, l2, _⟩ := run_inv h i (by have := hi; unfold top at this; omega)
    rw [e1] at sk
    obtain ⟨g, sk⟩ := sk
    have g : Good net r up i := g
    have sk : SkOk net rest (i + szN net r) := sk
    obtain ⟨r', a, b, c⟩ := way_add h _ (top net) (Nat.lt_succ_self _) i (by unfold szN; omega)
    have rr : r' = r := by have := g.last; rw [a] at this; injection this
    subst rr
    refine ⟨?_, fun m hm => ?_⟩
    · rw [e2]
      refine sk_app (fun l => (l, (i : Int))) (bel net r') rest (i + 1) (fun _ => rfl) (fun t l e => .inr ⟨i, rfl, by omega, ?_⟩) ?_
      · have tl := take_le (net := net) _ _ _ e
        have lp := szN_pos h l
        have q := c (sumN net ((bel net r').take t) + 1) (by rw [szN_eq h]; omega)
        rw [show i + 1 + sumN net ((bel net r').take t) = i + (sumN net ((bel net r').take t) + 1) by omega, q, way_succ h (by rw [szN_eq h]; omega)]
        have pk := pick_at (net := net) (bel net r') t l 0 e (by omega)
        rw [Nat.add_zero] at pk
        rw [pk, way_zero]
        have ne : way net (top net) i ≠ [] := by intro z; rw [z] at a; cases a
        have dl : (way net (top net) i).dropLast ++ [r'] = way net (top net) i := by
          have gl : (way net (top net) i).getLast ne = r' := by
            rw [List.getLast?_eq_some_getLast ne] at a; injection a
          rw [← gl]; exact List.dropLast_concat_getLast ne
        show (way net (top net) i).dropLast ++ ([r'] ++ [l]) = _
        rw [← List.append_assoc, dl]
      · have : i + szN net r' = i + 1 + sumN net (bel net r') := by rw [szN_eq h]; omega
        rw [← this]; exact sk
    · rw [e3, e4]
      rcases Nat.lt_or_ge m i with c | c
      · obtain ⟨a, q, x, y, z⟩ := vis m c
        exact ⟨a, q, by rw [List.getElem?_append_left (by omega)]; exact x, by rw [List.getElem?_append_left (by omega)]; exact y, z⟩
      · have : m = i := by omega
        subst this
        refine ⟨up, r', ?_, ?_, g⟩
        · rw [List.getElem?_append_right (by omega), l1]; simp
        · rw [List.getElem?_append_right (by omega), l2]; simp
end W48
namespace S48
open PySem L2 W7
def top (i : Nat) : Stmt := PySem.Challenge.pw_upwords_k48_words_in_nets.main.body.getD i (.Pass ⟨0, 0, 0, 0⟩)
abbrev s_is_whole : Stmt := top 9
abbrev N_is_whole : List Str := ["thing"]
theorem sc_is_whole : FnScope N_is_whole ["thing"] (defScope s_is_whole) := ⟨rfl, rfl, rfl, by decide +kernel, rfl, by decide +kernel, by decide +kernel⟩
abbrev s_is_number_below : Stmt := top 10
abbrev N_is_number_below : List Str := ["thing", "behind"]
theorem sc_is_number_below : FnScope N_is_number_below ["thing", "behind"] (defScope s_is_number_below) := ⟨rfl, rfl, rfl, by decide +kernel, rfl, by decide +kernel, by decide +kernel⟩
abbrev s_sizes_of : Stmt := top 12
abbrev N_sizes_of : List Str := ["net", "sizes", "knot"]
theorem sc_sizes_of : FnScope N_sizes_of ["net"] (defScope s_sizes_of) := ⟨rfl, rfl, rfl, by decide +kernel, rfl, by decide +kernel, by decide +kernel⟩
abbrev s_word_in : Stmt := top 13
abbrev N_word_in : List Str := ["net", "place", "sizes", "letters", "beneath", "left", "lower"]
theorem sc_word_in : FnScope N_word_in ["net", "place"] (defScope s_word_in) := ⟨rfl, rfl, rfl, by decide +kernel, rfl, by decide +kernel, by decide +kernel⟩
abbrev s_law_store : Stmt := top 15
abbrev N_law_store : List Str := ["cell", "k"]
theorem sc_law_store : FnScope N_law_store ["cell", "k"] (defScope s_law_store) := ⟨rfl, rfl, rfl, by decide +kernel, rfl, by decide +kernel, by decide +kernel⟩
abbrev s_law_draw : Stmt := top 16
abbrev N_law_draw : List Str := ["store", "many", "got", "prime", "part"]
theorem sc_law_draw : FnScope N_law_draw ["store", "many"] (defScope s_law_draw) := ⟨rfl, rfl, rfl, by decide +kernel, rfl, by decide +kernel, by decide +kernel⟩
abbrev s_law_net : Stmt := top 17
abbrev N_law_net : List Str := ["store", "most", "way", "many", "letters", "net", "k", "few", "here", "beneath"]
theorem sc_law_net : FnScope N_law_net ["store", "most"] (defScope s_law_net) := ⟨rfl, rfl, rfl, by decide +kernel, rfl, by decide +kernel, by decide +kernel⟩
abbrev s_law_sizes : Stmt := top 18
abbrev N_law_sizes : List Str := ["net", "found", "here", "beneath"]
theorem sc_law_sizes : FnScope N_law_sizes ["net"] (defScope s_law_sizes) := ⟨rfl, rfl, rfl, by decide +kernel, rfl, by decide +kernel, by decide +kernel⟩
abbrev s_law_cut : Stmt := top 19
abbrev N_law_cut : List Str := ["net", "most", "sizes", "good"]
theorem sc_law_cut : FnScope N_law_cut ["net", "most"] (defScope s_law_cut) := ⟨rfl, rfl, rfl, by decide +kernel, rfl, by decide +kernel, by decide +kernel⟩
abbrev s_law_unfolded : Stmt := top 20
abbrev N_law_unfolded : List Str := ["net", "ups", "labels", "knots", "waiting", "knot", "above", "number"]
theorem sc_law_unfolded : FnScope N_law_unfolded ["net"] (defScope s_law_unfolded) := ⟨rfl, rfl, rfl, by decide +kernel, rfl, by decide +kernel, by decide +kernel⟩
abbrev s_law_far : Stmt := top 21
abbrev N_law_far : List Str := ["store", "many", "found", "turn"]
theorem sc_law_far : FnScope N_law_far ["store", "many"] (defScope s_law_far) := ⟨rfl, rfl, rfl, by decide +kernel, rfl, by decide +kernel, by decide +kernel⟩
abbrev s_law_kind : Stmt := top 22
abbrev N_law_kind : List Str := ["caught", "some"]
theorem sc_law_kind : FnScope N_law_kind ["caught"] (defScope s_law_kind) := ⟨rfl, rfl, rfl, by decide +kernel, rfl, by decide +kernel, by decide +kernel⟩
abbrev s_law_words : Stmt := top 23
abbrev N_law_words : List Str := ["ups", "labels", "found", "k", "up"]
theorem sc_law_words : FnScope N_law_words ["ups", "labels"] (defScope s_law_words) := ⟨rfl, rfl, rfl, by decide +kernel, rfl, by decide +kernel, by decide +kernel⟩
abbrev s_law_word : Stmt := top 24
abbrev N_law_word : List Str := ["net", "sizes", "number", "knot", "found", "left", "at"]
theorem sc_law_word : FnScope N_law_word ["net", "sizes", "number"] (defScope s_law_word) := ⟨rfl, rfl, rfl, by decide +kernel, rfl, by decide +kernel, by decide +kernel⟩
abbrev s_law_told : Stmt := top 25
abbrev N_law_told : List Str := ["net", "number", "told", "caught", "e"]
theorem sc_law_told : FnScope N_law_told ["net", "number"] (defScope s_law_told) := ⟨rfl, rfl, rfl, by decide +kernel, rfl, by decide +kernel, by decide +kernel⟩
abbrev s_law_few_right : Stmt := top 26
abbrev N_law_few_right : List Str := ["net", "ups", "labels", "knots", "words"]
theorem sc_law_few_right : FnScope N_law_few_right ["net"] (defScope s_law_few_right) := ⟨rfl, rfl, rfl, by decide +kernel, rfl, by decide +kernel, by decide +kernel⟩
abbrev s_law_right : Stmt := top 27
abbrev N_law_right : List Str := ["store", "net", "sizes", "size", "numbers", "number", "far", "things", "at", "thing"]
theorem sc_law_right : FnScope N_law_right ["store", "net"] (defScope s_law_right) := ⟨rfl, rfl, rfl, by decide +kernel, rfl, by decide +kernel, by decide +kernel⟩
abbrev s_law : Stmt := top 28
abbrev N_law : List Str := ["script", "cell", "store", "net", "deep"]
theorem sc_law : FnScope N_law ["script"] (defScope s_law) := ⟨rfl, rfl, rfl, by decide +kernel, rfl, by decide +kernel, by decide +kernel⟩
structure Blt7 (mg : Str → Option Value) : Prop extends Blt mg where
  sum : mg "sum" = none
  ValueError_ : mg "ValueError" = none
theorem bt_sum : bootBuiltins "sum" = some (.builtin "sum") := by decide +kernel
theorem bt_ValueError : bootBuiltins "ValueError" = some (.type "ValueError") := by decide +kernel
abbrev Lw (c : Nat) : Prop := 97 ≤ c ∧ c < 123
abbrev Knot := W47.Knot
def KnotAt (H : Hp) (a : Addr) (kn : Knot) : Prop := ∃ b, H a = some (.tup [.str ⟨#[kn.1]⟩, .ref b]) ∧ H b = some (.tup (kn.2.map V.int))
theorem KnotAt.same {H H' : Hp} {a : Addr} {kn : Knot} (h : KnotAt H a kn) (s : Same H H') : KnotAt H' a kn := let ⟨b, x, y⟩ := h; ⟨b, s _ _ x, s _ _ y⟩
def KnotsAt (H : Hp) (as : List Addr) (net : List Knot) : Prop := as.length = net.length ∧ ∀ (i : Nat) (a : Addr) (kn : Knot), as[i]? = some a → net[i]? = some kn → KnotAt H a kn
theorem KnotsAt.same {H H' : Hp} {as : List Addr} {net : List Knot} (h : KnotsAt H as net) (s : Same H H') : KnotsAt H' as net := ⟨h.1, fun i a kn x y => (h.2 i a kn x y).same s⟩
theorem KnotsAt.snoc {H : Hp} {as : List Addr} {net : List Knot} {a : Addr} {kn : Knot} (h : KnotsAt H as net) (k : KnotAt H a kn) : KnotsAt H (as ++ [a]) (net ++ [kn]) := by
  refine ⟨by rw [List.length_append, List.length_append, h.1]; rfl, fun i b m x y => ?_⟩
  rcases Nat.lt_or_ge i as.length with lt | ge
  · rw [List.getElem?_append_left lt] at x
    rw [List.getElem?_append_left (by rw [← h.1]; exact lt)] at y
    exact h.2 i b m x y
  · rw [List.getElem?_append_right ge] at x
    rw [List.getElem?_append_right (by rw [← h.1]; exact ge), ← h.1] at y
    cases e : i - as.length with
    | zero =>
      rw [e] at x y
      cases x; cases y
      exact k
    | succ n => rw [e] at x; cases x
def NetAt (H : Hp) (t : Addr) (net : List Knot) : Prop := ∃ as : List Addr, H t = some (.tup (as.map V.ref)) ∧ KnotsAt H as net
theorem NetAt.same {H H' : Hp} {t : Addr} {net : List Knot} (h : NetAt H t net) (s : Same H H') : NetAt H' t net := let ⟨as, x, y⟩ := h; ⟨as, s _ _ x, y.same s⟩
structure NetOk (net : List Knot) : Prop where
  pos : 0 < net.length
  most : net.length ≤ 60
  low : ∀ kn ∈ net, Lw kn.1
  few : ∀ kn ∈ net, kn.2.length ≤ 60
  num : ∀ (k : Nat) (kn : Knot), net[k]? = some kn → ∀ n ∈ kn.2, 0 ≤ n ∧ n < (k : Int)
section
variable {P : Program} {w : World} {K : PySem.W.Frag} {mg : Str → Option Value} {base : Heap} {k : Nat}
theorem ints_at {us : List Int} {i : Int} (h0 : 0 ≤ i) (h1 : i < (us.length : Int)) : atI (us.map V.int) i = some (.int (us.getD i.toNat 0)) := by
  have hk : i.toNat < us.length := by omega
  have e := atI_nat (xs := us.map V.int) (j := i.toNat) (v := .int (us.getD i.toNat 0)) (by rw [List.getElem?_map, List.getElem?_eq_getElem hk, List.getD_eq_getElem?_getD, List.getElem?_eq_getElem hk]; rfl)
  rw [show ((i.toNat : Nat) : Int) = i by omega] at e
  exact e
theorem menu {us : List Int} {n lo hi : Int} (h0 : 0 ≤ n) (h1 : n < (us.length : Int)) (hb : ∀ v ∈ us, lo ≤ v ∧ v ≤ hi) : ∃ v : Int, atI (us.map V.int) n = some (.int v) ∧ lo ≤ v ∧ v ≤ hi := by
  refine ⟨_, ints_at h0 h1, ?_⟩
  have hk : n.toNat < us.length := by omega
  rw [List.getD_eq_getElem?_getD, List.getElem?_eq_getElem hk]
  exact hb _ (List.getElem_mem hk)
theorem big18 {m : Int} (h : m < 1000000000000000000) : m < bigL := by
  have e : (1000000000000000000 : Int) < bigL := by unfold bigL; decide +kernel
  exact Int.lt_trans h e
def sp_store : Sp := fun vs H Q _ => ∃ (cell kk : Int), vs = [.int cell, .int kk] ∧ 0 ≤ kk ∧ kk ≤ 63 ∧ ∀ (p : Addr) (H' : Hp), H p = none → Same H H' → Deck H' p kk → Q (.ref p) H'
theorem has_store (D : Df K mg "_law_store" s_law_store) (B : Blt7 mg) : Has P w K mg base "_law_store" (k + 1) ["cell", "k"] sp_store := by
  refine D.has sc_law_store (fun _ _ _ _ _ _ us hl => match us, hl with | [_, _], _ => rfl) (fun vs H Q E h => by obtain ⟨a, kk, rfl, _⟩ := h; rfl) (fun f cdv A outer s H vs Q E hr h => ?_)
  obtain ⟨cell, kk, rfl, k0, k63, q⟩ := h
  refine ⟨_, (pss_one (ps_ret (pe_lst (pa_cons (pe_callB (call_max2 rfl) rfl B.max bt_max (pa_cons pe_int (pa_cons (pe_op op_sub (pv 0) (pe_op op_pow pe_int pe_int)) pa_nil))) (pa_cons (pe_op op_mod (pv 0) pe_int) (pa_cons (pv 1) pa_nil)))))), ?_⟩
  refine ⟨_, rfl, _, _, rfl, rfl, ⟨by decide, by decide, by decide⟩, _, _, rfl, rfl, _, _, rfl, ?_⟩
  refine ⟨_, rfl, _, _, rfl, rfl, (by decide : (0 : Int) < 1000000000000000009), _, rfl, (by show 3 ≤ sizeLine; decide), fun p hp => ?_⟩
  exact q p _ hp ((Same.refl H).new hp) ⟨_, _, kk, upd_same, k0, Int.le_refl _⟩
def sp_draw : Sp := fun vs H Q _ => ∃ (p : Addr) (m c : Int), vs = [.ref p, .int m] ∧ Deck H p c ∧ c < 1000000 ∧ 0 < m ∧ m < 1000000000000000000 ∧ ∀ (n : Int) (H' : Hp), 0 ≤ n → n < m → Kd p (c + 1) H H' → Q (.int n) H'
theorem has_draw (D : Df K mg "_law_draw" s_law_draw) (B : Blt7 mg) : Has P w K mg base "_law_draw" (k + 1) ["store", "many"] sp_draw := by
  refine D.has sc_law_draw (fun _ _ _ _ _ _ us hl => match us, hl with | [_, _], _ => rfl) (fun vs H Q E h => by obtain ⟨p, m, c, rfl, _⟩ := h; rfl) (fun f cdv A outer s H vs Q E hr h => ?_)
  obtain ⟨p, m, c, rfl, ⟨x, y, z, hp, z0, z1⟩, c6, m0, m1, q⟩ := h
  refine ⟨_, (pss_cons (ps_if (pt_cmpR op_gt (pe_ix ix_list (pv 0) pe_int (fun _ _ => rfl)) pe_int (nomark _))
  (pss_cons (ps_set (i := 2) sc_law_draw.nd rfl (by first | exact Or.inl rfl | exact Or.inr rfl) (pe_op op_mod (pe_ix ix_list (pv 0) pe_int (fun _ _ => rfl)) (pv 1)))
  (pss_cons (ps_asg (pe_op op_fdivL (pe_ix ix_list (pv 0) pe_int (fun _ _ => rfl)) (pv 1)) (pg_sub (pv 0) pe_int set_list))
  (pss_one (ps_ret (pv 2)))))
  pss_nil)
  (pss_cons (ps_asg (pe_op op_add (pe_ix ix_list (pv 0) pe_int (fun _ _ => rfl)) pe_int) (pg_sub (pv 0) pe_int set_list))
  (pss_cons (ps_set (i := 3) sc_law_draw.nd rfl (by first | exact Or.inl rfl | exact Or.inr rfl) (pe_ix ix_list (pe_lst (pa_cons pe_int (pa_cons pe_int (pa_cons pe_int (pa_cons pe_int (pa_cons pe_int (pa_cons pe_int (pa_cons pe_int pa_nil)))))))) (pe_op op_mod (pe_ix ix_list (pv 0) pe_int (fun _ _ => rfl)) pe_int) (fun _ _ => rfl)))
  (pss_cons (ps_set (i := 4) sc_law_draw.nd rfl (by first | exact Or.inl rfl | exact Or.inr rfl) (pe_op op_mod (pe_op op_add (pe_op op_add (pe_op op_mul (pe_ix ix_list (pv 0) pe_int (fun _ _ => rfl)) pe_int) (pe_op op_mul pe_int (pe_ix ix_list (pv 0) pe_int (fun _ _ => rfl)))) pe_int) (pv 3)))
  (pss_cons (ps_set (i := 4) sc_law_draw.nd rfl (by first | exact Or.inl rfl | exact Or.inr rfl) (pe_op op_mod (pe_op op_add (pe_op op_add (pe_op op_pow (pv 4) pe_int) (pe_op op_mul pe_int (pe_ix ix_list (pv 0) pe_int (fun _ _ => rfl)))) pe_int) pe_int))
  (pss_one (ps_ret (pe_op op_mod (pe_op op_fdivL (pe_op op_mod (pe_op op_mul (pv 4) (pv 4)) pe_int) pe_int) (pv 1))))))))), ?_⟩
  refine ⟨_, rfl, p, _, _, _, rfl, rfl, SqL.of hp, rfl, _, _, rfl, rfl, _, rfl, ite2 (fun cnd => ?_) (fun cnd => ?_)⟩
  · refine ⟨_, rfl, p, _, _, _, rfl, rfl, SqL.of hp, rfl, _, rfl, _, _, rfl, rfl, m0, ?_⟩
    refine ⟨_, rfl, p, _, _, _, rfl, rfl, SqL.of hp, rfl, _, rfl, _, _, rfl, rfl, ⟨m0, big18 m1⟩, ?_⟩
    refine ⟨_, rfl, p, _, _, 0, rfl, rfl, hp, rfl, _, rfl, ?_⟩
    exact q _ _ (Int.emod_nonneg _ (by omega)) (Int.emod_lt_of_pos _ m0) ⟨⟨_, y, z, upd_same, z0, by omega⟩, fun b o hb e => by rw [upd_ne hb]; exact e⟩
  · refine ⟨_, rfl, p, _, _, _, rfl, rfl, SqL.of hp, rfl, _, _, rfl, rfl, ?_⟩
    refine ⟨_, rfl, p, _, _, 2, rfl, rfl, hp, rfl, ?_⟩
    have hp' : upd H p (.lst [.int x, .int y, .int (z + 1)]) p = some (.lst [.int x, .int y, .int (z + 1)]) := upd_same
    have hk' : ∀ b o, b ≠ p → H b = some o → upd H p (.lst [.int x, .int y, .int (z + 1)]) b = some o := fun b o hb e => by rw [upd_ne hb]; exact e
    show (fun HH => _) (upd H p (.lst [.int x, .int y, .int (z + 1)]))
    generalize upd H p (.lst [.int x, .int y, .int (z + 1)]) = H1 at hp' hk'
    refine ⟨(by show 7 ≤ sizeLine; decide), fun r1 hr1 => ?_⟩
    have rp : p ≠ r1 := ne_of_none hp' hr1
    refine ⟨_, rfl, p, _, _, _, rfl, rfl, SqL.of (by rw [upd_ne rp]; exact hp'), rfl, _, _, rfl, rfl, (by decide : (0 : Int) < 7), ?_⟩
    obtain ⟨v, hv, v0, v1⟩ := menu (us := [2147483647, 2147483629, 2147483587, 2147483579, 2147483563, 2147483549, 2147483543]) (n := (z + 1) % 7) (lo := 1) (hi := 2147483647) (Int.emod_nonneg _ (by decide)) (Int.emod_lt_of_pos _ (by decide)) (by decide)
    refine ⟨r1, _, _, _, rfl, rfl, SqL.of upd_same, hv, ?_⟩
    have hp2 : upd H1 r1 (.lst ([2147483647, 2147483629, 2147483587, 2147483579, 2147483563, 2147483549, 2147483543].map V.int)) p = some (.lst [.int x, .int y, .int (z + 1)]) := by rw [upd_ne rp]; exact hp'
    have hk2 : ∀ b o, b ≠ p → H b = some o → upd H1 r1 (.lst ([2147483647, 2147483629, 2147483587, 2147483579, 2147483563, 2147483549, 2147483543].map V.int)) b = some o := fun b o hb e => by
      have := hk' b o hb e
      rw [upd_ne (ne_of_none this hr1)]; exact this
    show (fun HH => _) (upd H1 r1 (.lst ([2147483647, 2147483629, 2147483587, 2147483579, 2147483563, 2147483549, 2147483543].map V.int)))
    generalize upd H1 r1 (.lst ([2147483647, 2147483629, 2147483587, 2147483579, 2147483563, 2147483549, 2147483543].map V.int)) = H2 at hp2 hk2
    refine ⟨_, rfl, p, _, _, _, rfl, rfl, SqL.of hp2, rfl, _, _, rfl, rfl, .inr ⟨by decide, by decide⟩, _, rfl, p, _, _, _, rfl, rfl, SqL.of hp2, rfl, _, _, rfl, rfl, .inl ⟨by decide, by decide⟩, _, _, rfl, rfl, _, _, rfl, rfl, _, rfl, _, _, rfl, rfl, (show 0 < v by omega), ?_⟩
    have y1 := Int.emod_nonneg (y * 69621 + 104729 * (z + 1) + 1013) (show v ≠ 0 by omega)
    have y2 := Int.emod_lt_of_pos (y * 69621 + 104729 * (z + 1) + 1013) (show 0 < v by omega)
    generalize hyy : (y * 69621 + 104729 * (z + 1) + 1013) % v = yy at y1 y2
    refine ⟨_, rfl, _, _, rfl, rfl, ⟨by decide, by decide, by rw [hyy]; omega⟩, _, rfl, p, _, _, _, rfl, rfl, SqL.of hp2, rfl, _, _, rfl, rfl, .inl ⟨by decide, by decide⟩, _, _, rfl, rfl, _, _, rfl, rfl, _, _, rfl, rfl, (by decide : (0 : Int) < 2305843009213693951), ?_⟩
    rw [hyy]
    have w1 := Int.emod_nonneg (yy ^ (3 : Int).toNat + 31 * (z + 1) + 7) (show (2305843009213693951 : Int) ≠ 0 by decide)
    have w2 := Int.emod_lt_of_pos (yy ^ (3 : Int).toNat + 31 * (z + 1) + 7) (show (0 : Int) < 2305843009213693951 by decide)
    refine ⟨_, rfl, _, rfl, _, _, rfl, rfl, .inl ⟨by omega, by omega⟩, _, _, rfl, rfl, (by decide : (0 : Int) < 2305843009213693921), _, _, rfl, rfl, ⟨by decide, big18 (by decide)⟩, _, rfl, _, _, rfl, rfl, m0, ?_⟩
    exact q _ _ (Int.emod_nonneg _ (by omega)) (Int.emod_lt_of_pos _ m0) ⟨⟨x, _, z + 1, hp2, by omega, by omega⟩, hk2⟩
end
end S48
namespace S48
open PySem L2 W7
theorem KnotsAt.tups {H H' : Hp} {as : List Addr} {net : List Knot} (h : KnotsAt H as net) (t : ∀ a xs, H a = some (.tup xs) → H' a = some (.tup xs)) : KnotsAt H' as net :=
  ⟨h.1, fun i a kn x y => let ⟨b, p, q⟩ := h.2 i a kn x y; ⟨b, t _ _ p, t _ _ q⟩⟩
theorem kd_tups {p : Addr} {c d : Int} {H H' : Hp} (h : Deck H p d) (k : Kd p c H H') : ∀ a xs, H a = some (.tup xs) → H' a = some (.tup xs) := fun a xs e => k.keep _ _ (ne_deck h e (by intro _ _ _ z; cases z)) e
structure Nts (p u : Addr) (i : Nat) (as : List Addr) (net : List Knot) (H' : Hp) : Prop where
  at' : H' u = some (.lst (as.map V.ref))
  kn : KnotsAt H' as net
  len : net.length = i
  low : ∀ kn ∈ net, Lw kn.1
  few : ∀ kn ∈ net, kn.2.length ≤ 60
  num : ∀ (k : Nat) (kn : Knot), net[k]? = some kn → ∀ n ∈ kn.2, 0 ≤ n ∧ n < (k : Int)
theorem Nts.kd {p u : Addr} {i : Nat} {as : List Addr} {net : List Knot} {H1 H2 : Hp} {c d : Int} (h : Nts p u i as net H1) (up : u ≠ p) (dk : Deck H1 p c) (k : Kd p d H1 H2) : Nts p u i as net H2 :=
  ⟨k.keep _ _ up h.at', h.kn.tups (kd_tups dk k), h.len, h.low, h.few, h.num⟩
theorem Nts.same {p u : Addr} {i : Nat} {as : List Addr} {net : List Knot} {H1 H2 : Hp} (h : Nts p u i as net H1) (k : Same H1 H2) : Nts p u i as net H2 :=
  ⟨k _ _ h.at', h.kn.same k, h.len, h.low, h.few, h.num⟩
structure Ben (p b : Addr) (i : Nat) (nums : List Int) (H' : Hp) : Prop where
  at' : H' b = some (.lst (nums.map V.int)) ∨ H' b = some (.tup (nums.map V.int))
  np : b ≠ p
  few : nums.length ≤ 60
  num : 0 < i → ∀ n ∈ nums, 0 ≤ n ∧ n < (i : Int)
theorem Ben.kd {p b : Addr} {i : Nat} {nums : List Int} {H1 H2 : Hp} {d : Int} (h : Ben p b i nums H1) (k : Kd p d H1 H2) : Ben p b i nums H2 :=
  ⟨h.at'.imp (k.keep _ _ h.np) (k.keep _ _ h.np), h.np, h.few, h.num⟩
theorem let4 {n : Int} (h0 : 0 ≤ n) (h1 : n < 4) : ∃ L : Str, atI [V.str (Str.ofString "abcdefghijklmnopqrstuvwxyz"), .str (Str.ofString "ab"), .str (Str.ofString "z"), .str (Str.ofString "abc")] n = some (.str L) ∧ (∀ c ∈ L.cps.toList, Lw c) ∧ 0 < L.length ∧ L.length ≤ 26 := by
  have : n = 0 ∨ n = 1 ∨ n = 2 ∨ n = 3 := by omega
  rcases this with rfl | rfl | rfl | rfl <;> exact ⟨_, rfl, by decide +kernel, by decide +kernel, by decide +kernel⟩
theorem str_at {L : Str} {i : Int} (al : ∀ c ∈ L.cps.toList, Lw c) (h0 : 0 ≤ i) (h1 : i < (L.length : Int)) : ∃ c, atI L.cps.toList i = some c ∧ Lw c := by
  have hl : L.cps.toList.length = L.length := by simp [Str.length]
  have hk : i.toNat < L.cps.toList.length := by omega
  have e := atI_nat (xs := L.cps.toList) (j := i.toNat) (List.getElem?_eq_getElem hk)
  rw [show ((i.toNat : Nat) : Int) = i by omega] at e
  exact ⟨_, e, al _ (List.getElem_mem hk)⟩
section
variable {P : Program} {w : World} {K : PySem.W.Frag} {mg : Str → Option Value} {base : Heap} {k : Nat}
def sp_net : Sp := fun vs H Q _ => ∃ (p : Addr) (c : Int), vs = [.ref p, .int 60] ∧ Deck H p c ∧ 0 ≤ c ∧ c < 900000 ∧ ∀ (t : Addr) (net : List Knot) (H' : Hp), Kd p (c + 5000) H H' → NetAt H' t net → NetOk net → Q (.ref t) H'
theorem has_net (D : Df K mg "_law_net" s_law_net) (B : Blt7 mg) (G_law_draw : Has P w K mg base "_law_draw" k ["store", "many"] sp_draw) : Has P w K mg base "_law_net" (k + 1) ["store", "most"] sp_net := by
  refine D.has sc_law_net (fun _ _ _ _ _ _ us hl => match us, hl with | [_, _], _ => rfl) (fun vs H Q E h => by obtain ⟨p, c, rfl, _⟩ := h; rfl) (fun f cdv A outer s H vs Q E hr h => ?_)
  obtain ⟨p, c, rfl, hd, cc0, cc1, q⟩ := h
  refine ⟨_, (pss_cons (ps_set (i := 2) sc_law_net.nd rfl (by first | exact Or.inl rfl | exact Or.inr rfl) (pe_callH G_law_draw hr rfl (pa_cons (pv 0) (pa_cons pe_int pa_nil))))
  (pss_cons (ps_set (i := 3) sc_law_net.nd rfl (by first | exact Or.inl rfl | exact Or.inr rfl) (pe_ix ix_list (pe_lst (pa_cons (pe_op op_add pe_int (pe_callH G_law_draw hr rfl (pa_cons (pv 0) (pa_cons pe_int pa_nil)))) (pa_cons (pe_op op_add pe_int (pe_callH G_law_draw hr rfl (pa_cons (pv 0) (pa_cons (pv 1) pa_nil)))) (pa_cons (pv 1) pa_nil)))) (pe_callH G_law_draw hr rfl (pa_cons (pv 0) (pa_cons pe_int pa_nil))) (fun _ _ => rfl)))
  (pss_cons (ps_set (i := 4) sc_law_net.nd rfl (by first | exact Or.inl rfl | exact Or.inr rfl) (pe_ix ix_list (pe_lst (pa_cons pe_str (pa_cons pe_str (pa_cons pe_str (pa_cons pe_str pa_nil))))) (pe_callH G_law_draw hr rfl (pa_cons (pv 0) (pa_cons pe_int pa_nil))) (fun _ _ => rfl)))
  (pss_cons (ps_set (i := 5) sc_law_net.nd rfl (by first | exact Or.inl rfl | exact Or.inr rfl) (pe_lst pa_nil))
  (pss_cons (ps_for PassesOwn.never rfl (pi_range1 rfl B.range (pa_cons (pv 3) pa_nil)) (pg_name (i := 6) sc_law_net.nd rfl (by first | exact Or.inl rfl | exact Or.inr rfl))
  (pss_cons (ps_set (i := 7) sc_law_net.nd rfl (by first | exact Or.inl rfl | exact Or.inr rfl) (pe_callH G_law_draw hr rfl (pa_cons (pv 0) (pa_cons pe_int pa_nil))))
  (pss_cons (ps_set (i := 8) sc_law_net.nd rfl (by first | exact Or.inl rfl | exact Or.inr rfl) (pe_ix ix_str (pv 4) (pe_callH G_law_draw hr rfl (pa_cons (pv 0) (pa_cons (pe_callB call_len_str rfl B.len bt_len (pa_cons (pv 4) pa_nil)) pa_nil))) (fun _ _ => rfl)))
  (pss_cons (ps_comp (i := 9) sc_law_net.nd rfl (by first | exact Or.inl rfl | exact Or.inr rfl) rfl (pi_range1 rfl B.range (pa_cons (pe_ix ix_list (pe_lst (pa_cons pe_int (pa_cons pe_int (pa_cons pe_int (pa_cons (pv 7) (pa_cons (pv 7) (pa_cons (pv 7) (pa_cons (pv 7) pa_nil)))))))) (pv 2) (fun _ _ => rfl)) pa_nil)) (NL := ["j"]) (ix := [6]) (csc (defScope s_law_net) N_law_net) (fun cl C s₃ H₃ fp pins => ⟨(pg_name (i := 0) (show List.Nodup (["j", "k"] : List Str) from by decide +kernel) rfl (by first | exact Or.inl rfl | exact Or.inr rfl)), pifs_nil, (pe_op op_add (pe_callB (call_max2 rfl) rfl B.max bt_max (pa_cons pe_int (pa_cons (pe_op op_sub (pv 1) pe_int) pa_nil))) (pe_op op_mul pe_int (pv 0)))⟩))
  (pss_cons (ps_if (pt_cmpR op_gt (pv 2) pe_int (nomark _))
  (pss_one (ps_comp (i := 9) sc_law_net.nd rfl (by first | exact Or.inl rfl | exact Or.inr rfl) rfl (pi_list (pv 9)) (NL := ["j"]) (ix := [0, 6]) (csc (defScope s_law_net) N_law_net) (fun cl C s₃ H₃ fp pins => ⟨(pg_name (i := 0) (show List.Nodup (["j", "store", "k"] : List Str) from by decide +kernel) rfl (by first | exact Or.inl rfl | exact Or.inr rfl)), pifs_nil, (pe_callH G_law_draw hr rfl (pa_cons (pv 1) (pa_cons (pe_op op_add (pv 2) (pe_callTy call_int1 rfl B.int_ bt_int (pa_cons (pe_cmpR op_eq (pv 2) pe_int (nomark _)) pa_nil))) pa_nil)))⟩)))
  pss_nil)
  (pss_cons (ps_if (pt_cmpR op_eq (pv 2) pe_int (nomark _))
  (pss_one (ps_comp (i := 9) sc_law_net.nd rfl (by first | exact Or.inl rfl | exact Or.inr rfl) rfl (pi_range1 rfl B.range (pa_cons (pv 7) pa_nil)) (NL := ["j"]) (ix := [6]) (csc (defScope s_law_net) N_law_net) (fun cl C s₃ H₃ fp pins => ⟨(pg_name (i := 0) (show List.Nodup (["j", "k"] : List Str) from by decide +kernel) rfl (by first | exact Or.inl rfl | exact Or.inr rfl)), pifs_nil, (pe_callB (call_max2 rfl) rfl B.max bt_max (pa_cons pe_int (pa_cons (pe_op op_sub (pe_op op_sub (pv 1) pe_int) (pv 0)) pa_nil)))⟩)))
  pss_nil)
  (pss_cons (ps_if (PW.pt (pw_and (pt_cmpR op_eq (pv 2) pe_int (nomark _)) (pw_and (pt_cmpR op_gt (pv 6) pe_int (nomark _)) (pw_and1 (pt_cmpR op_eq (pe_callH G_law_draw hr rfl (pa_cons (pv 0) (pa_cons pe_int pa_nil))) pe_int (nomark _))))))
  (pss_one (ps_asg (pe_ix ix_list (pv 5) (pe_callH G_law_draw hr rfl (pa_cons (pv 0) (pa_cons (pv 6) pa_nil))) (fun _ _ => rfl)) (pg_tup rfl (pgs_cons (pg_name (i := 8) sc_law_net.nd rfl (by first | exact Or.inl rfl | exact Or.inr rfl)) (pgs_cons (pg_name (i := 9) sc_law_net.nd rfl (by first | exact Or.inl rfl | exact Or.inr rfl)) pgs_nil)))))
  pss_nil)
  (pss_cons (ps_if (PW.pt (pw_and (pt_cmpR op_eq (pv 2) pe_int (nomark _)) (pw_and1 (pt_cmpR op_gt (pv 6) pe_int (nomark _)))))
  (pss_one (ps_set (i := 9) sc_law_net.nd rfl (by first | exact Or.inl rfl | exact Or.inr rfl) (pe_op op_cat (pe_op op_cat (pe_lst (pa_cons (pe_op op_sub (pv 6) pe_int) pa_nil)) (pv 9)) (pe_lst (pa_cons (pe_op op_sub (pv 6) pe_int) pa_nil)))))
  pss_nil)
  (pss_one (ps_expr (pe_bm PySem.F.plainAttrs_list PySem.F.slot_list_append PySem.F.type_list_append mt_append (pv 5) (pa_cons (pe_tup (pa_cons (pv 8) (pa_cons (pe_ifExp (pt_cmpR op_gt (pv 6) pe_int (nomark _)) (pe_callTy call_tuple_of rfl B.tuple_ bt_tuple (pa_cons (pv 9) pa_nil)) (pe_tup pa_nil)) pa_nil))) pa_nil))))))))))))
  (pss_one (ps_ret (pe_callTy call_tuple_of rfl B.tuple_ bt_tuple (pa_cons (pv 5) pa_nil))))))))), ?_⟩
  refine ⟨_, rfl, p, 7, c, rfl, hd, by omega, by decide, by decide, fun way H1 w0 w1 kd1 => ?_⟩
  refine ⟨_, rfl, p, 5, _, rfl, kd1.deck, by omega, by decide, by decide, fun n1 H2 a0 a1 kd2 => ?_⟩
  refine ⟨_, _, rfl, rfl, _, rfl, _, rfl, p, 60, _, rfl, kd2.deck, by omega, by decide, by decide, fun n2 H3 b0 b1 kd3 => ?_⟩
  refine ⟨_, _, rfl, rfl, _, rfl, (by show 3 ≤ sizeLine; decide), fun r1 hr1 => ?_⟩
  have kq3 := (((kd1.trans kd2).trans kd3).new (o := .lst [.int (1 + n1), .int (1 + n2), .int 60]) hr1)
  refine ⟨_, rfl, p, 3, _, rfl, kq3.deck, by omega, by decide, by decide, fun n3 H4 d0 d1 kd4 => ?_⟩
  have ku4 := kq3.trans kd4
  obtain ⟨many, hmany, mn1, mn60⟩ := menu (us := [1 + n1, 1 + n2, 60]) (n := n3) (lo := 1) (hi := 60) d0 d1 (by
    intro z hz
    simp only [List.mem_cons, List.not_mem_nil, or_false] at hz
    rcases hz with rfl | rfl | rfl <;> omega)
  refine ⟨r1, _, _, _, rfl, rfl, SqL.of (kd4.keep _ _ (kd3.deck.ne hr1) upd_same), hmany, ?_⟩
  refine ⟨(by show 4 ≤ sizeLine; decide), fun r2 hr2 => ?_⟩
  have kq4 := ku4.new (o := .lst [V.str (Str.ofString "abcdefghijklmnopqrstuvwxyz"), .str (Str.ofString "ab"), .str (Str.ofString "z"), .str (Str.ofString "abc")]) hr2
  refine ⟨_, rfl, p, 4, _, rfl, kq4.deck, by omega, by decide, by decide, fun n4 H5 g0 g1 kd5 => ?_⟩
  obtain ⟨L, hL, Ll, L0, L26⟩ := let4 g0 g1
  refine ⟨r2, _, _, _, rfl, rfl, SqL.of (kd5.keep _ _ (ku4.deck.ne hr2) upd_same), hL, ?_⟩
  have ku5 := kq4.trans kd5
  refine ⟨(by show 0 ≤ sizeLine; decide), fun u hu0 => ?_⟩
  have hup : u ≠ p := ku5.deck.ne hu0
  have hHu : H u = none := ku5.fresh hu0
  refine ⟨_, rfl, many, rfl, by omega, by omega, ?_⟩
  refine for_range (lo := 0) (n := many.toNat) (fun i σ H' => ∃ (as : List Addr) (net : List Knot) (o6 o7 o8 o9 : Option V),
      σ = [some (.ref p), some (.int 60), some (.int way), some (.int many), some (.str L), some (.ref u), o6, o7, o8, o9] ∧ Kd p (c + 6 + 66 * i) H H' ∧ Nts p u i as net H')
    ⟨[], [], none, none, none, none, rfl, (ku5.new hu0).mono (by omega), upd_same, ⟨rfl, fun i a kn x => by cases x⟩, rfl, by simp, by simp, fun k kn x => by cases x⟩ ?_ ?_
  · rintro i σ H' hi ⟨as, net, o6, o7, o8, o9, rfl, kd, nts⟩
    have i60 : i < 60 := by omega
    have kone : (if decide (V.int (0 + (i : Int)) = V.int 0) = true then (1 : Int) else 0) = if i = 0 then 1 else 0 := by
      by_cases z : i = 0
      · subst z; rfl
      · rw [if_neg z, if_neg (by rw [decide_eq_true_eq]; intro e; injection e with e; omega)]
    refine ⟨_, rfl, p, 4, _, rfl, kd.deck, by omega, by decide, by decide, fun few G1 f0 f1 e1 => ?_⟩
    refine ⟨_, rfl, _, rfl, _, rfl, _, rfl, by exact Nat.le_of_lt (small1000 (by omega)), p, _, _, rfl, e1.deck, by omega, by omega, by omega, fun n G2 p0 p1 e2 => ?_⟩
    obtain ⟨ch, hch, chl⟩ := str_at Ll p0 p1
    refine ⟨_, _, _, rfl, rfl, by exact Nat.le_of_lt (small1000 (by omega)), hch, ?_⟩
    have kd2 := (kd.trans e1).trans e2
    have nts2 := (nts.kd hup kd.deck e1).kd hup e1.deck e2
    dsimp only [gName]
    refine mid (fun σ HX => ∃ (b : Addr) (nums : List Int), σ = [some (.ref p), some (.int 60), some (.int way), some (.int many), some (.str L), some (.ref u), some (.int (0 + (i : Int))), some (.int few), some (.str ⟨#[ch]⟩), some (.ref b)] ∧ Kd p (c + 6 + 66 * i + 2) H HX ∧ Nts p u i as net HX ∧ Ben p b i nums HX ∧ HX b = some (.lst (nums.map V.int)) ∧ (way = 3 ∨ way = 4 ∨ way = 5 ∨ way = 6 → nums.length ≤ 3)) ?_ fun E nx => ?_
    rotate_left
    · refine ⟨_, rfl, _, rfl, _, rfl, _, rfl, (by show 7 ≤ sizeLine; decide), fun r3 hr3 => ?_⟩
      have kd3 := kd2.new (o := .lst ([V.int 1, .int 2, .int 60, .int few, .int few, .int few, .int few])) hr3
      have nts3 := nts2.same ((Same.refl G2).new (o := .lst ([V.int 1, .int 2, .int 60, .int few, .int few, .int few, .int few])) hr3)
      have at3 : upd G2 r3 (.lst [V.int 1, .int 2, .int 60, .int few, .int few, .int few, .int few]) r3 = some (.lst [V.int 1, .int 2, .int 60, .int few, .int few, .int few, .int few]) := upd_same
      show (fun HH => _) (upd G2 r3 (.lst [V.int 1, .int 2, .int 60, .int few, .int few, .int few, .int few]))
      generalize upd G2 r3 (.lst [V.int 1, .int 2, .int 60, .int few, .int few, .int few, .int few]) = G3 at kd3 nts3 at3
      have hmn : ∃ m : Int, atI ([V.int 1, .int 2, .int 60, .int few, .int few, .int few, .int few]) way = some (.int m) ∧ 0 ≤ m ∧ m ≤ 60 ∧ (way = 3 ∨ way = 4 ∨ way = 5 ∨ way = 6 → m ≤ 3) := by
        have : way = 0 ∨ way = 1 ∨ way = 2 ∨ way = 3 ∨ way = 4 ∨ way = 5 ∨ way = 6 := by omega
        rcases this with rfl | rfl | rfl | rfl | rfl | rfl | rfl <;> exact ⟨_, rfl, by omega, by omega, by omega⟩
      obtain ⟨m, hm, m0, m60, m3⟩ := hmn
      refine ⟨_, rfl, r3, _, _, _, rfl, rfl, SqL.of at3, hm, ?_⟩
      refine ⟨m, rfl, by omega, by omega, fun acc hacc => ?_⟩
      refine comp_by m.toNat (by omega) (fun j ys HX => ∃ nums : List Int, HX acc = some (.lst ys) ∧ ys = nums.map V.int ∧ nums.length = j ∧ (0 < i → ∀ n ∈ nums, 0 ≤ n ∧ n < (i : Int)) ∧ Same G3 HX) (fun j ys HX h => by obtain ⟨nums, h1, rfl, h2, _⟩ := h; exact ⟨h1, by rw [List.length_map]; omega⟩) ⟨[], upd_same, rfl, rfl, (fun _ n hn => by cases hn), (Same.refl G3).new hacc⟩ ?_ ?_
      · rintro ys HX ⟨nums, h1, rfl, h2, h3, h4⟩
        have kdX : Kd p (c + 6 + 66 * i + 2) H HX := (kd3.same h4).mono (by omega)
        exact ⟨Nat.le_refl _, nx _ _ ⟨acc, nums, rfl, kdX, nts3.same h4, ⟨.inl h1, kd3.deck.ne hacc, by omega, h3⟩, h1, fun z => by have := m3 z; omega⟩⟩
      · rintro j ys HX hj ⟨nums, h1, rfl, h2, h3, h4⟩
        refine ⟨hj, ?_⟩
        rintro x H'' ⟨rfl, rfl⟩
        refine ⟨rfl, ?_⟩
        refine ⟨_, rfl, _, _, rfl, rfl, _, _, rfl, _, rfl, _, _, rfl, rfl, .inl ⟨by decide, by decide⟩, _, _, rfl, rfl, h1, ?_⟩
        refine ⟨nums ++ [_], upd_same, by rw [List.map_append]; rfl, by rw [List.length_append, h2]; rfl, fun i0 n hn => ?_, h4.write hacc⟩
        rcases List.mem_append.mp hn with hn | hn
        · exact h3 i0 n hn
        · rw [List.mem_singleton.mp hn]
          split <;> omega
    rintro σ HX ⟨b, nums, rfl, kdX, ntsX, ben, hb, nl3⟩
    refine mid (fun σ HX => ∃ (b : Addr) (nums : List Int), σ = [some (.ref p), some (.int 60), some (.int way), some (.int many), some (.str L), some (.ref u), some (.int (0 + (i : Int))), some (.int few), some (.str ⟨#[ch]⟩), some (.ref b)] ∧ Kd p (c + 6 + 66 * i + 62) H HX ∧ Nts p u i as net HX ∧ Ben p b i nums HX ∧ HX b = some (.lst (nums.map V.int)) ∧ (way = 3 ∨ way = 4 ∨ way = 5 ∨ way = 6 → nums.length ≤ 3)) ?_ fun E nx => ?_
    rotate_left
    · refine ⟨_, rfl, _, _, rfl, rfl, _, rfl, ite2 (fun cnd => ?_) (fun cnd => ?_)⟩
      · refine ⟨_, rfl, b, rfl, ⟨_, SqL.of hb⟩, fun acc hacc => ?_⟩
        refine comp_lst (xs := nums.map V.int) (by rw [List.length_map]; have := ben.few; omega) (fun j ys HY => ∃ nn : List Int, HY acc = some (.lst ys) ∧ ys = nn.map V.int ∧ nn.length = j ∧ (0 < i → ∀ n ∈ nn, 0 ≤ n ∧ n < (i : Int)) ∧ Kd p (c + 6 + 66 * i + 2 + j) HX HY ∧ j ≤ nums.length)
          (fun j ys HY h => by obtain ⟨nn, _, _, _, _, h5, _⟩ := h; exact SqL.of (h5.keep _ _ ben.np hb)) (fun j ys HY h => by obtain ⟨nn, h1, rfl, h2, _⟩ := h; exact ⟨h1, by rw [List.length_map]; omega⟩) ⟨[], upd_same, rfl, rfl, (fun _ n hn => by cases hn), ((Kd.refl kdX.deck).new hacc).mono (by omega), Nat.zero_le _⟩ ?_ ?_
        · rintro ys HY ⟨nn, h1, rfl, h2, h3, h4, h5⟩
          rw [List.length_map] at h2 h4
          have bf := ben.few
          refine nx _ _ ⟨acc, nn, rfl, (kdX.trans h4).mono (by omega), ntsX.kd hup kdX.deck h4, ⟨.inl h1, kdX.deck.ne hacc, by omega, h3⟩, h1, fun z => by have := nl3 z; omega⟩
        · rintro j x ys HY hx ⟨nn, h1, rfl, h2, h3, h4, h5⟩
          have jl := (List.getElem?_eq_some_iff.mp hx).1
          rw [List.length_map] at jl
          have bf := ben.few
          refine ⟨rfl, ?_⟩
          refine ⟨_, rfl, _, rfl, _, rfl, rfl, .inr ⟨_, rfl, _, _, rfl, rfl, p, _, _, rfl, h4.deck, by omega, ?_, ?_, fun n G n0 n1 e => ?_⟩⟩
          · rw [kone]; split <;> omega
          · rw [kone]; split <;> omega
          have hacG : G acc = some (.lst (nn.map V.int)) := e.keep _ _ (kdX.deck.ne hacc) h1
          refine ⟨hacG, nn ++ [n], upd_same, by rw [List.map_append]; rfl, by rw [List.length_append, h2]; rfl, fun i0 z hz => ?_, ((h4.trans e).mono (by omega)).write hacc (kdX.deck.ne hacc), by omega⟩
          rcases List.mem_append.mp hz with hz | hz
          · exact h3 i0 z hz
          · rw [List.mem_singleton.mp hz]
            refine ⟨n0, ?_⟩
            rw [kone, if_neg (by omega)] at n1
            omega
      · exact nx _ _ ⟨b, nums, rfl, kdX.mono (by omega), ntsX, ben, hb, nl3⟩
    clear nl3 hb ben ntsX kdX
    rintro σ HX ⟨b, nums, rfl, kdX, ntsX, ben, hb, nl3⟩
    refine mid (fun σ HX => ∃ (b : Addr) (nums : List Int), σ = [some (.ref p), some (.int 60), some (.int way), some (.int many), some (.str L), some (.ref u), some (.int (0 + (i : Int))), some (.int few), some (.str ⟨#[ch]⟩), some (.ref b)] ∧ Kd p (c + 6 + 66 * i + 62) H HX ∧ Nts p u i as net HX ∧ Ben p b i nums HX ∧ HX b = some (.lst (nums.map V.int)) ∧ (way = 3 ∨ way = 4 ∨ way = 5 ∨ way = 6 → nums.length ≤ 3)) ?_ fun E nx => ?_
    rotate_left
    · refine ⟨_, rfl, rfl, _, rfl, ite2 (fun cnd => ?_) (fun cnd => ?_)⟩
      · refine ⟨_, rfl, few, rfl, by omega, by omega, fun acc hacc => ?_⟩
        refine comp_by few.toNat (by omega) (fun j ys HY => ∃ nn : List Int, HY acc = some (.lst ys) ∧ ys = nn.map V.int ∧ nn.length = j ∧ (0 < i → ∀ n ∈ nn, 0 ≤ n ∧ n < (i : Int)) ∧ Same HX HY) (fun j ys HY h => by obtain ⟨nn, h1, rfl, h2, _⟩ := h; exact ⟨h1, by rw [List.length_map]; omega⟩) ⟨[], upd_same, rfl, rfl, (fun _ n hn => by cases hn), (Same.refl HX).new hacc⟩ ?_ ?_
        · rintro ys HY ⟨nn, h1, rfl, h2, h3, h4⟩
          exact ⟨Nat.le_refl _, nx _ _ ⟨acc, nn, rfl, kdX.same h4, ntsX.same h4, ⟨.inl h1, kdX.deck.ne hacc, by omega, h3⟩, h1, fun z => by omega⟩⟩
        · rintro j ys HY hj ⟨nn, h1, rfl, h2, h3, h4⟩
          refine ⟨hj, ?_⟩
          rintro x H'' ⟨rfl, rfl⟩
          refine ⟨rfl, ?_⟩
          refine ⟨_, rfl, _, _, rfl, rfl, _, rfl, _, _, rfl, rfl, _, _, rfl, h1, ?_⟩
          refine ⟨nn ++ [_], upd_same, by rw [List.map_append]; rfl, by rw [List.length_append, h2]; rfl, fun i0 n hn => ?_, h4.write hacc⟩
          rcases List.mem_append.mp hn with hn | hn
          · exact h3 i0 n hn
          · rw [List.mem_singleton.mp hn]
            split <;> omega
      · exact nx _ _ ⟨b, nums, rfl, kdX, ntsX, ben, hb, nl3⟩
    clear nl3 hb ben ntsX kdX
    rintro σ HX ⟨b, nums, rfl, kdX, ntsX, ben, hb, nl3⟩
    refine mid (fun σ HX => ∃ (c8 : Nat) (b : Addr) (nums : List Int), σ = [some (.ref p), some (.int 60), some (.int way), some (.int many), some (.str L), some (.ref u), some (.int (0 + (i : Int))), some (.int few), some (.str ⟨#[c8]⟩), some (.ref b)] ∧ Lw c8 ∧ Kd p (c + 6 + 66 * i + 64) H HX ∧ Nts p u i as net HX ∧ Ben p b i nums HX ∧ (way = 6 → HX b = some (.lst (nums.map V.int)) ∧ nums.length ≤ 3)) ?_ fun E nx => ?_
    rotate_left
    · refine ⟨_, rfl, rfl, _, rfl, ite2 (fun c5 => ?_) (fun c5 => ?_)⟩
      · have w5 : way = 5 := by have := of_decide_eq_true c5; injection this
        refine ⟨_, rfl, _, _, rfl, rfl, _, rfl, ite2 (fun ck => ?_) (fun ck => ?_)⟩
        · have ik : 0 < i := by have := of_decide_eq_true ck; omega
          refine ⟨_, rfl, p, 3, _, rfl, kdX.deck, by omega, by decide, by decide, fun n5 G5 q0 q1 e5 => ?_⟩
          refine ⟨rfl, _, rfl, ite2 (fun cd => ?_) (fun cd => ?_)⟩
          · refine ⟨_, rfl, _, rfl, _, rfl, p, _, _, rfl, e5.deck, by omega, by omega, by omega, fun n6 G6 q2 q3 e6 => ?_⟩
            have nts6 := (ntsX.kd hup kdX.deck e5).kd hup e5.deck e6
            have al := nts6.kn.1
            have nl := nts6.len
            have h6 : n6.toNat < as.length := by omega
            have h6' : n6.toNat < net.length := by omega
            have ea : as[n6.toNat]? = some as[n6.toNat] := List.getElem?_eq_getElem h6
            have en : net[n6.toNat]? = some net[n6.toNat] := List.getElem?_eq_getElem h6'
            obtain ⟨b6, k1, k2⟩ := nts6.kn.2 _ _ _ ea en
            have hat := atI_nat (xs := as.map V.ref) (j := n6.toNat) (v := .ref as[n6.toNat]) (by rw [List.getElem?_map, ea]; rfl)
            rw [show ((n6.toNat : Nat) : Int) = n6 by omega] at hat
            refine ⟨u, _, _, _, rfl, rfl, SqL.of nts6.at', hat, ?_⟩
            refine ⟨_, _, rfl, SqT.of k1, rfl, _, _, rfl, _, _, rfl, rfl, ?_⟩
            refine nx _ _ ⟨net[n6.toNat].1, b6, net[n6.toNat].2, rfl, nts6.low _ (List.getElem_mem h6'), ((kdX.trans e5).trans e6).mono (by omega), nts6, ⟨.inr k2, ne_deck e6.deck k2 (by intro _ _ _ z; cases z), nts6.few _ (List.getElem_mem h6'), fun _ z hz => ?_⟩, fun z => by omega⟩
            have := nts6.num _ _ en z hz
            omega
          · exact nx _ _ ⟨ch, b, nums, rfl, chl, (kdX.trans e5).mono (by omega), ntsX.kd hup kdX.deck e5, ben.kd e5, fun z => by omega⟩
        · exact nx _ _ ⟨ch, b, nums, rfl, chl, kdX.mono (by omega), ntsX, ben, fun z => by omega⟩
      · exact nx _ _ ⟨ch, b, nums, rfl, chl, kdX.mono (by omega), ntsX, ben, fun z => ⟨hb, nl3 (by omega)⟩⟩
    clear nl3 hb ben ntsX kdX
    rintro σ HX ⟨c8, b, nums, rfl, lc8, kdX, ntsX, ben, nl3⟩
    refine mid (fun σ HX => ∃ (b : Addr) (nums : List Int), σ = [some (.ref p), some (.int 60), some (.int way), some (.int many), some (.str L), some (.ref u), some (.int (0 + (i : Int))), some (.int few), some (.str ⟨#[c8]⟩), some (.ref b)] ∧ Kd p (c + 6 + 66 * i + 64) H HX ∧ Nts p u i as net HX ∧ Ben p b i nums HX) ?_ fun E nx => ?_
    rotate_left
    · refine ⟨_, rfl, rfl, _, rfl, ite2 (fun c6 => ?_) (fun c6 => ?_)⟩
      · have w6 : way = 6 := by have := of_decide_eq_true c6; injection this
        obtain ⟨hb, n3⟩ := nl3 w6
        refine ⟨_, rfl, _, _, rfl, rfl, _, rfl, ite2 (fun ck => ?_) (fun ck => ?_)⟩
        · have ik : 1 < i := by have := of_decide_eq_true ck; omega
          have hk1 : (0 : Int) + (i : Int) - 1 = ((i - 1 : Nat) : Int) := by omega
          refine ⟨_, rfl, _, _, rfl, rfl, (by show 1 ≤ sizeLine; decide), fun r1 hr1 => ?_⟩
          have s1 : Same HX (upd HX r1 (.lst [.int (0 + (i : Int) - 1)])) := (Same.refl HX).new hr1
          have a1 : upd HX r1 (.lst [.int (0 + (i : Int) - 1)]) r1 = some (.lst [.int (0 + (i : Int) - 1)]) := upd_same
          show (fun HH => _) (upd HX r1 (.lst [.int (0 + (i : Int) - 1)]))
          generalize upd HX r1 (.lst [.int (0 + (i : Int) - 1)]) = G1 at s1 a1
          refine ⟨_, rfl, r1, b, _, _, rfl, rfl, a1, s1 _ _ hb, by rw [List.length_map]; show 1 + _ ≤ _; exact Nat.le_of_lt (small1000 (by omega)), fun r2 hr2 => ?_⟩
          have s2 : Same G1 (upd G1 r2 (.lst ([.int (0 + (i : Int) - 1)] ++ nums.map V.int))) := (Same.refl G1).new hr2
          have a2 : upd G1 r2 (.lst ([.int (0 + (i : Int) - 1)] ++ nums.map V.int)) r2 = some (.lst ([.int (0 + (i : Int) - 1)] ++ nums.map V.int)) := upd_same
          show (fun HH => _) (upd G1 r2 (.lst ([.int (0 + (i : Int) - 1)] ++ nums.map V.int)))
          generalize upd G1 r2 (.lst ([.int (0 + (i : Int) - 1)] ++ nums.map V.int)) = G2' at s2 a2
          refine ⟨_, rfl, _, _, rfl, rfl, (by show 1 ≤ sizeLine; decide), fun r3 hr3 => ?_⟩
          have s3 : Same G2' (upd G2' r3 (.lst [.int (0 + (i : Int) - 1)])) := (Same.refl G2').new hr3
          have a3 : upd G2' r3 (.lst [.int (0 + (i : Int) - 1)]) r3 = some (.lst [.int (0 + (i : Int) - 1)]) := upd_same
          show (fun HH => _) (upd G2' r3 (.lst [.int (0 + (i : Int) - 1)]))
          generalize upd G2' r3 (.lst [.int (0 + (i : Int) - 1)]) = G3' at s3 a3
          refine ⟨r2, r3, _, _, rfl, rfl, s3 _ _ a2, a3, by rw [List.length_append, List.length_map]; show 1 + _ + 1 ≤ _; exact Nat.le_of_lt (small1000 (by omega)), fun r4 hr4 => ?_⟩
          have s4 : Same G3' (upd G3' r4 (.lst ([.int (0 + (i : Int) - 1)] ++ nums.map V.int ++ [.int (0 + (i : Int) - 1)]))) := (Same.refl G3').new hr4
          have a4 : upd G3' r4 (.lst ([.int (0 + (i : Int) - 1)] ++ nums.map V.int ++ [.int (0 + (i : Int) - 1)])) r4 = some (.lst (([0 + (i : Int) - 1] ++ nums ++ [0 + (i : Int) - 1]).map V.int)) := by rw [upd_same]; simp
          have sA := ((s1.trans s2).trans s3).trans s4
          refine nx _ _ ⟨r4, [0 + (i : Int) - 1] ++ nums ++ [0 + (i : Int) - 1], rfl, kdX.same sA, ntsX.same sA, ⟨.inl a4, (kdX.same ((s1.trans s2).trans s3)).deck.ne hr4, ?_, fun i0 n hn => ?_⟩⟩
          · rw [List.length_append, List.length_append]; show 1 + _ + 1 ≤ _; omega
          · rcases List.mem_append.mp hn with hn | hn
            · rcases List.mem_append.mp hn with hn | hn
              · rw [List.mem_singleton.mp hn]; omega
              · exact ben.num i0 n hn
            · rw [List.mem_singleton.mp hn]; omega
        · exact nx _ _ ⟨b, nums, rfl, kdX, ntsX, ben⟩
      · exact nx _ _ ⟨b, nums, rfl, kdX, ntsX, ben⟩
    clear nl3 ben ntsX kdX
    rintro σ HX ⟨b, nums, rfl, kdX, ntsX, ben⟩
    have huX := ntsX.at'
    have al := ntsX.kn.1
    have nl := ntsX.len
    have fin : ∀ (a : Addr) (nn : List Int) (HA : Hp), Kd p (c + 6 + 66 * i + 64) H HA → Nts p u i as net HA → KnotAt HA a (c8, nn) → nn.length ≤ 60 → (∀ n ∈ nn, 0 ≤ n ∧ n < (i : Int)) →
        ∃ (as' : List Addr) (net' : List Knot), upd HA u (.lst (as.map V.ref ++ [.ref a])) u = some (.lst (as'.map V.ref)) ∧ Kd p (c + 6 + 66 * (i + 1 : Nat)) H (upd HA u (.lst (as.map V.ref ++ [.ref a]))) ∧ Nts p u (i + 1) as' net' (upd HA u (.lst (as.map V.ref ++ [.ref a]))) := by
      intro a nn HA kA nA hA fA mA
      have tU : ∀ x xs, HA x = some (.tup xs) → upd HA u (.lst (as.map V.ref ++ [.ref a])) x = some (.tup xs) := fun x xs e => by
        rw [upd_ne (ne_of e nA.at' (by intro z; cases z))]; exact e
      refine ⟨as ++ [a], net ++ [(c8, nn)], by rw [upd_same, List.map_append]; rfl, (kA.mono (by omega)).write hHu hup, by rw [upd_same, List.map_append]; rfl, (nA.kn.snoc hA).tups tU, by rw [List.length_append, nA.len]; rfl, fun kn hk => ?_, fun kn hk => ?_, fun z kn hz => ?_⟩
      · rcases List.mem_append.mp hk with hk | hk
        · exact nA.low kn hk
        · rw [List.mem_singleton.mp hk]; exact lc8
      · rcases List.mem_append.mp hk with hk | hk
        · exact nA.few kn hk
        · rw [List.mem_singleton.mp hk]; exact fA
      · rcases Nat.lt_or_ge z net.length with lt | ge
        · rw [List.getElem?_append_left lt] at hz
          exact nA.num z kn hz
        · rw [List.getElem?_append_right ge] at hz
          cases e : z - net.length with
          | zero =>
            rw [e] at hz
            cases hz
            intro n hn
            have := mA n hn
            omega
          | succ y => rw [e] at hz; cases hz
    refine ⟨_, rfl, .inl ⟨rfl, _, SqL.of huX⟩, _, rfl, _, rfl, _, _, rfl, rfl, _, rfl, ite2 (fun ck => ?_) (fun ck => ?_)⟩
    · have ik : 0 < i := by have := of_decide_eq_true ck; omega
      have bnum := ben.num ik
      have bfew := ben.few
      rcases ben.at' with hb | hb
      · refine ⟨_, rfl, b, _, rfl, .inl ⟨SqL.of hb, fun b1 hb1 => ?_⟩⟩
        refine ⟨(by show 2 ≤ sizeLine; decide), fun a1 ha1 => ?_⟩
        have sA : Same HX (upd (upd HX b1 (.tup (nums.map V.int))) a1 (.tup [.str ⟨#[c8]⟩, .ref b1])) := ((Same.refl HX).new hb1).new ha1
        have hA : KnotAt (upd (upd HX b1 (.tup (nums.map V.int))) a1 (.tup [.str ⟨#[c8]⟩, .ref b1])) a1 (c8, nums) := ⟨b1, upd_same, by rw [upd_ne (ne_of_none upd_same ha1)]; exact upd_same⟩
        show (fun HH => _) (upd (upd HX b1 (.tup (nums.map V.int))) a1 (.tup [.str ⟨#[c8]⟩, .ref b1]))
        generalize upd (upd HX b1 (.tup (nums.map V.int))) a1 (.tup [.str ⟨#[c8]⟩, .ref b1]) = HA at sA hA
        refine ⟨u, _, _, rfl, rfl, sA _ _ huX, by rw [List.length_map]; exact small1000 (by omega), ?_⟩
        obtain ⟨as', net', f1, f2, f3⟩ := fin a1 nums HA (kdX.same sA) (ntsX.same sA) hA bfew bnum
        exact ⟨as', net', _, _, _, _, rfl, f2, f3⟩
      · refine ⟨_, rfl, b, _, rfl, .inr ⟨SqT.of hb, ?_⟩⟩
        refine ⟨(by show 2 ≤ sizeLine; decide), fun a1 ha1 => ?_⟩
        have sA : Same HX (upd HX a1 (.tup [.str ⟨#[c8]⟩, .ref b])) := (Same.refl HX).new ha1
        have hA : KnotAt (upd HX a1 (.tup [.str ⟨#[c8]⟩, .ref b])) a1 (c8, nums) := ⟨b, upd_same, sA _ _ hb⟩
        show (fun HH => _) (upd HX a1 (.tup [.str ⟨#[c8]⟩, .ref b]))
        generalize upd HX a1 (.tup [.str ⟨#[c8]⟩, .ref b]) = HA at sA hA
        refine ⟨u, _, _, rfl, rfl, sA _ _ huX, by rw [List.length_map]; exact small1000 (by omega), ?_⟩
        obtain ⟨as', net', f1, f2, f3⟩ := fin a1 nums HA (kdX.same sA) (ntsX.same sA) hA bfew bnum
        exact ⟨as', net', _, _, _, _, rfl, f2, f3⟩
    · refine ⟨(by show 0 ≤ sizeLine; decide), fun b1 hb1 => ?_⟩
      refine ⟨(by show 2 ≤ sizeLine; decide), fun a1 ha1 => ?_⟩
      have sA : Same HX (upd (upd HX b1 (.tup [])) a1 (.tup [.str ⟨#[c8]⟩, .ref b1])) := ((Same.refl HX).new hb1).new ha1
      have hA : KnotAt (upd (upd HX b1 (.tup [])) a1 (.tup [.str ⟨#[c8]⟩, .ref b1])) a1 (c8, []) := ⟨b1, upd_same, by rw [upd_ne (ne_of_none upd_same ha1)]; exact upd_same⟩
      show (fun HH => _) (upd (upd HX b1 (.tup [])) a1 (.tup [.str ⟨#[c8]⟩, .ref b1]))
      generalize upd (upd HX b1 (.tup [])) a1 (.tup [.str ⟨#[c8]⟩, .ref b1]) = HA at sA hA
      refine ⟨u, _, _, rfl, rfl, sA _ _ huX, by rw [List.length_map]; exact small1000 (by omega), ?_⟩
      obtain ⟨as', net', f1, f2, f3⟩ := fin a1 [] HA (kdX.same sA) (ntsX.same sA) hA (by decide) (by simp)
      exact ⟨as', net', _, _, _, _, rfl, f2, f3⟩
  · rintro σ H' ⟨as, net, o6, o7, o8, o9, rfl, kd, nts⟩
    refine ⟨_, rfl, u, _, rfl, .inl ⟨SqL.of nts.at', fun t ht => ?_⟩⟩
    have sT : Same H' (upd H' t (.tup (as.map V.ref))) := (Same.refl H').new ht
    exact q t net _ ((kd.new ht).mono (by omega)) ⟨as, upd_same, nts.kn.same sT⟩ ⟨by have := nts.len; omega, by have := nts.len; omega, nts.low, nts.few, nts.num⟩
end
end S48
namespace S48
open PySem L2 W7
theorem NetOk.net {net : List Knot} (ok : NetOk net) : W47.Net net := ⟨fun k hk l hl => by
  have e : net[k]? = some net[k] := List.getElem?_eq_getElem hk
  unfold W47.bel at hl
  rw [List.getD_eq_getElem?_getD, e] at hl
  obtain ⟨n, hn, rfl⟩ := List.mem_map.mp hl
  have := ok.num k _ e n hn
  omega⟩
theorem bel_at {net : List Knot} {k : Nat} {kn : Knot} (e : net[k]? = some kn) : W47.bel net k = kn.2.map Int.toNat := by
  unfold W47.bel; rw [List.getD_eq_getElem?_getD, e]; rfl
theorem NetOk.bfew {net : List Knot} (ok : NetOk net) (k : Nat) : (W47.bel net k).length ≤ 60 := by
  unfold W47.bel
  rw [List.length_map, List.getD_eq_getElem?_getD]
  cases e : net[k]? with
  | none => exact Nat.zero_le _
  | some kn => exact ok.few kn (List.mem_of_getElem? e)
theorem NetAt.knot {H : Hp} {t : Addr} {net : List Knot} (h : NetAt H t net) : ∃ as : List Addr, H t = some (.tup (as.map V.ref)) ∧ as.length = net.length ∧ ∀ k, k < net.length → ∃ a b kn, as[k]? = some a ∧ net[k]? = some kn ∧ H a = some (.tup [.str ⟨#[kn.1]⟩, .ref b]) ∧ H b = some (.tup (kn.2.map V.int)) := by
  obtain ⟨as, h1, h2, h3⟩ := h
  refine ⟨as, h1, h2, fun k hk => ?_⟩
  have ea : as[k]? = some as[k] := List.getElem?_eq_getElem (by omega)
  have en : net[k]? = some net[k] := List.getElem?_eq_getElem hk
  obtain ⟨b, x, y⟩ := h3 k _ _ ea en
  exact ⟨_, b, _, ea, en, x, y⟩
def szV (net : List Knot) (i : Nat) : List V := (List.range i).map fun k => .int (W47.sz net k)
theorem szV_len (net : List Knot) (i : Nat) : (szV net i).length = i := by unfold szV; simp
theorem szV_succ (net : List Knot) (i : Nat) : szV net (i + 1) = szV net i ++ [.int (W47.sz net i)] := by unfold szV; rw [List.range_succ, List.map_append]; rfl
theorem szV_at {net : List Knot} {i : Nat} {n : Int} (h0 : 0 ≤ n) (h1 : n < (i : Int)) : atI (szV net i) n = some (.int (W47.sz net n.toNat)) := by
  have e := atI_nat (xs := szV net i) (j := n.toNat) (v := .int (W47.sz net n.toNat)) (by unfold szV; rw [List.getElem?_map, List.getElem?_range (by omega)]; rfl)
  rw [show ((n.toNat : Nat) : Int) = n by omega] at e
  exact e
section
variable {P : Program} {w : World} {K : PySem.W.Frag} {mg : Str → Option Value} {base : Heap} {k : Nat}
def sp_sizes : Sp := fun vs H Q _ => ∃ (t : Addr) (net : List Knot), vs = [.ref t] ∧ NetAt H t net ∧ NetOk net ∧ ∀ (r : Addr) (H' : Hp), H r = none → Same H H' → H' r = some (.lst (szV net net.length)) → Q (.ref r) H'
theorem has_sizes (D : Df K mg "sizes_of" s_sizes_of) (B : Blt7 mg) : Has P w K mg base "sizes_of" (k + 1) ["net"] sp_sizes := by
  refine D.has sc_sizes_of (fun _ _ _ _ _ _ us hl => match us, hl with | [_], _ => rfl) (fun vs H Q E h => by obtain ⟨t, net, rfl, _⟩ := h; rfl) (fun f cdv A outer s H vs Q E hr h => ?_)
  obtain ⟨t, net, rfl, na, ok, q⟩ := h
  refine ⟨_, (pss_cons (ps_set (i := 1) sc_sizes_of.nd rfl (by first | exact Or.inl rfl | exact Or.inr rfl) (pe_lst pa_nil))
  (pss_cons (ps_for PassesOwn.never rfl (pi_tup (pv 0)) (pg_name (i := 2) sc_sizes_of.nd rfl (by first | exact Or.inl rfl | exact Or.inr rfl))
  (pss_one (ps_expr (pe_bm PySem.F.plainAttrs_list PySem.F.slot_list_append PySem.F.type_list_append mt_append (pv 1) (pa_cons (pe_op op_add pe_int (pe_callB (call_sumA K rfl) rfl B.sum bt_sum (pa_cons (pe_comp rfl (pi_tup (pe_ix ix_tup (pv 2) pe_int (fun _ _ => rfl))) (NL := ["lower"]) (ix := [1]) (csc (defScope s_sizes_of) N_sizes_of) (fun cl C s₃ H₃ fp pins => ⟨(pg_name (i := 0) (show List.Nodup (["lower", "sizes"] : List Str) from by decide +kernel) rfl (by first | exact Or.inl rfl | exact Or.inr rfl)), pifs_nil, (pe_ix (ix_listK K) (pv 1) (pv 0) (fun _ _ => rfl))⟩)) pa_nil))) pa_nil)))))
  (pss_one (ps_ret (pv 1))))), ?_⟩
  obtain ⟨as, ht, al, kns⟩ := na.knot
  have N := ok.net
  have l60 := ok.most
  refine ⟨(by show 0 ≤ sizeLine; decide), fun r hr0 => ?_⟩
  refine ⟨_, rfl, t, rfl, ⟨_, SqT.of (by rw [upd_ne (ne_of_none ht hr0)]; exact ht)⟩, ?_⟩
  refine for_tup (K := K) (xs := as.map V.ref) (fun i σ HX => ∃ o2 : Option V, σ = [some (.ref t), some (.ref r), o2] ∧ Same H HX ∧ HX r = some (.lst (szV net i)))
    ⟨none, rfl, (Same.refl H).new hr0, upd_same⟩ (fun i σ HX _ h => by obtain ⟨_, _, s, _⟩ := h; exact SqT.of (s _ _ ht)) ?_ ?_
  · rintro i x σ HX hx ⟨o2, rfl, sX, hrX⟩
    have il : i < as.length := by have := (List.getElem?_eq_some_iff.mp hx).1; rw [List.length_map] at this; exact this
    obtain ⟨a, b, kn, ea, en, ha, hb⟩ := kns i (by omega)
    rw [List.getElem?_map, ea] at hx
    cases hx
    refine ⟨_, rfl, .inl ⟨rfl, _, SqL.of hrX⟩, _, rfl, a, _, _, _, rfl, rfl, SqT.of (sX _ _ ha), rfl, b, rfl, ⟨_, SqT.of (sX _ _ hb)⟩, fun acc hacc => ?_⟩
    have kf := ok.few kn (List.mem_of_getElem? en)
    have knn := ok.num i kn en
    refine comp_tupI (xs := kn.2.map V.int) (by rw [List.length_map]; omega) (fun j ys HY => HY acc = some (.lst ys) ∧ ys = ((kn.2.take j).map fun n => W47.sz net n.toNat).map V.int ∧ j ≤ kn.2.length ∧ Same HX HY)
      (fun j ys HY h => SqT.of (h.2.2.2 _ _ (sX _ _ hb))) (fun j ys HY h => ⟨h.1, by rw [h.2.1, List.length_map, List.length_map, List.length_take]; omega⟩) ⟨upd_same, rfl, Nat.zero_le _, (Same.refl HX).new hacc⟩ ?_ ?_
    · rintro ys HY ⟨g1, rfl, g3, g4⟩
      rw [List.length_map, List.take_length] at g1
      refine ⟨acc, _, rfl, SqL.of g1, _, _, rfl, rfl, r, _, _, rfl, rfl, g4 _ _ hrX, by rw [szV_len]; exact small1000 (by omega), ?_⟩
      refine ⟨_, rfl, (sX.trans g4).write hr0, ?_⟩
      rw [upd_same, szV_succ, W47.sz_eq N, bel_at en, List.map_map]
      rfl
    · rintro j x ys HY hx ⟨g1, rfl, g3, g4⟩
      rw [List.getElem?_map] at hx
      cases en2 : kn.2[j]? with
      | none => rw [en2] at hx; cases hx
      | some n =>
        rw [en2] at hx
        cases hx
        have jl := (List.getElem?_eq_some_iff.mp en2).1
        have nb := knn n (List.mem_of_getElem? en2)
        refine ⟨rfl, ?_⟩
        refine ⟨_, rfl, _, rfl, r, _, _, _, rfl, rfl, SqL.of (g4 _ _ hrX), szV_at nb.1 nb.2, g1, upd_same, ?_, by omega, g4.write hacc⟩
        rw [List.take_succ, en2, List.map_append, List.map_append]; rfl
  · rintro σ HX ⟨o2, rfl, sX, hrX⟩
    rw [List.length_map, al] at hrX
    exact ⟨_, rfl, q r HX hr0 sX hrX⟩
theorem has_lsizes (D : Df K mg "_law_sizes" s_law_sizes) (B : Blt7 mg) : Has P w K mg base "_law_sizes" (k + 1) ["net"] sp_sizes := by
  refine D.has sc_law_sizes (fun _ _ _ _ _ _ us hl => match us, hl with | [_], _ => rfl) (fun vs H Q E h => by obtain ⟨t, net, rfl, _⟩ := h; rfl) (fun f cdv A outer s H vs Q E hr h => ?_)
  obtain ⟨t, net, rfl, na, ok, q⟩ := h
  refine ⟨_, (pss_cons (ps_set (i := 1) sc_law_sizes.nd rfl (by first | exact Or.inl rfl | exact Or.inr rfl) (pe_lst pa_nil))
  (pss_cons (ps_for PassesOwn.never rfl (pi_tup (pv 0)) (pg_tup rfl (pgs_cons (pg_name (i := 2) sc_law_sizes.nd rfl (by first | exact Or.inl rfl | exact Or.inr rfl)) (pgs_cons (pg_name (i := 3) sc_law_sizes.nd rfl (by first | exact Or.inl rfl | exact Or.inr rfl)) pgs_nil)))
  (pss_one (ps_expr (pe_bm PySem.F.plainAttrs_list PySem.F.slot_list_append PySem.F.type_list_append mt_append (pv 1) (pa_cons (pe_op op_add pe_int (pe_callB (call_sumA K rfl) rfl B.sum bt_sum (pa_cons (pe_comp rfl (pi_tup (pv 3)) (NL := ["number"]) (ix := [1]) (csc (defScope s_law_sizes) N_law_sizes) (fun cl C s₃ H₃ fp pins => ⟨(pg_name (i := 0) (show List.Nodup (["number", "found"] : List Str) from by decide +kernel) rfl (by first | exact Or.inl rfl | exact Or.inr rfl)), pifs_nil, (pe_ix (ix_listK K) (pv 1) (pv 0) (fun _ _ => rfl))⟩)) pa_nil))) pa_nil)))))
  (pss_one (ps_ret (pv 1))))), ?_⟩
  obtain ⟨as, ht, al, kns⟩ := na.knot
  have N := ok.net
  have l60 := ok.most
  refine ⟨(by show 0 ≤ sizeLine; decide), fun r hr0 => ?_⟩
  refine ⟨_, rfl, t, rfl, ⟨_, SqT.of (by rw [upd_ne (ne_of_none ht hr0)]; exact ht)⟩, ?_⟩
  refine for_tup (K := K) (xs := as.map V.ref) (fun i σ HX => ∃ o2 o3 : Option V, σ = [some (.ref t), some (.ref r), o2, o3] ∧ Same H HX ∧ HX r = some (.lst (szV net i)))
    ⟨none, none, rfl, (Same.refl H).new hr0, upd_same⟩ (fun i σ HX _ h => by obtain ⟨_, _, _, s, _⟩ := h; exact SqT.of (s _ _ ht)) ?_ ?_
  · rintro i x σ HX hx ⟨o2, o3, rfl, sX, hrX⟩
    have il : i < as.length := by have := (List.getElem?_eq_some_iff.mp hx).1; rw [List.length_map] at this; exact this
    obtain ⟨a, b, kn, ea, en, ha, hb⟩ := kns i (by omega)
    rw [List.getElem?_map, ea] at hx
    cases hx
    refine ⟨_, _, rfl, SqT.of (sX _ _ ha), rfl, _, _, rfl, _, _, rfl, rfl, ?_⟩
    refine ⟨_, rfl, .inl ⟨rfl, _, SqL.of hrX⟩, _, rfl, b, rfl, ⟨_, SqT.of (sX _ _ hb)⟩, fun acc hacc => ?_⟩
    have kf := ok.few kn (List.mem_of_getElem? en)
    have knn := ok.num i kn en
    refine comp_tupI (xs := kn.2.map V.int) (by rw [List.length_map]; omega) (fun j ys HY => HY acc = some (.lst ys) ∧ ys = ((kn.2.take j).map fun n => W47.sz net n.toNat).map V.int ∧ j ≤ kn.2.length ∧ Same HX HY)
      (fun j ys HY h => SqT.of (h.2.2.2 _ _ (sX _ _ hb))) (fun j ys HY h => ⟨h.1, by rw [h.2.1, List.length_map, List.length_map, List.length_take]; omega⟩) ⟨upd_same, rfl, Nat.zero_le _, (Same.refl HX).new hacc⟩ ?_ ?_
    · rintro ys HY ⟨g1, rfl, g3, g4⟩
      rw [List.length_map, List.take_length] at g1
      refine ⟨acc, _, rfl, SqL.of g1, _, _, rfl, rfl, r, _, _, rfl, rfl, g4 _ _ hrX, by rw [szV_len]; exact small1000 (by omega), ?_⟩
      refine ⟨_, _, rfl, (sX.trans g4).write hr0, ?_⟩
      rw [upd_same, szV_succ, W47.sz_eq N, bel_at en, List.map_map]
      rfl
    · rintro j x ys HY hx ⟨g1, rfl, g3, g4⟩
      rw [List.getElem?_map] at hx
      cases en2 : kn.2[j]? with
      | none => rw [en2] at hx; cases hx
      | some n =>
        rw [en2] at hx
        cases hx
        have jl := (List.getElem?_eq_some_iff.mp en2).1
        have nb := knn n (List.mem_of_getElem? en2)
        refine ⟨rfl, ?_⟩
        refine ⟨_, rfl, _, rfl, r, _, _, _, rfl, rfl, SqL.of (g4 _ _ hrX), szV_at nb.1 nb.2, g1, upd_same, ?_, by omega, g4.write hacc⟩
        rw [List.take_succ, en2, List.map_append, List.map_append]; rfl
  · rintro σ HX ⟨o2, o3, rfl, sX, hrX⟩
    rw [List.length_map, al] at hrX
    exact ⟨_, rfl, q r HX hr0 sX hrX⟩
theorem szV_last {net : List Knot} (p : 0 < net.length) : atI (szV net net.length) (-1) = some (.int (W47.sz net (net.length - 1))) := by
  have : atI (szV net net.length) (-1) = (szV net net.length)[net.length - 1]? := by
    unfold atI
    have e : ixN net.length (-1) = some (net.length - 1) := by
      unfold ixN; rw [if_neg (by decide), if_pos (by omega)]; congr 1; omega
    rw [szV_len, e]; rfl
  rw [this]
  unfold szV
  rw [List.getElem?_map, List.getElem?_range (by omega)]; rfl
end
end S48
namespace S48
open PySem L2 W7
theorem ixN_last {n : Nat} (h : 0 < n) : ixN n (-1) = some (n - 1) := by
  unfold ixN; rw [if_neg (by decide), if_pos (by omega)]; congr 1; omega
end S48
namespace S48
open PySem L2 W7
def mk (l : List Nat) : Str := ⟨l.toArray⟩
theorem mk_cps (l : List Nat) : (mk l).cps.toList = l := rfl
theorem str_ext {a b : Str} (h : a.cps.toList = b.cps.toList) : a = b := by
  cases a with
  | mk x => cases b with
    | mk y => exact congrArg Str.mk (Array.toList_inj.mp h)
def oneV (cs : List Nat) : List V := cs.map fun c => .str ⟨#[c]⟩
theorem oneV_len (cs : List Nat) : (oneV cs).length = cs.length := List.length_map _
def natV (l : List Nat) : List V := l.map fun i : Nat => .int (i : Int)
def Sk (net : List Knot) (i : Nat) : List (Nat × Int) := (W47.run net i).1
def Us (net : List Knot) (i : Nat) : List Int := (W47.run net i).2.1
def Ks (net : List Knot) (i : Nat) : List Nat := (W47.run net i).2.2
def lt (net : List Knot) (r : Nat) : Nat := (net.getD r (0, [])).1
def Ls (net : List Knot) (i : Nat) : List Nat := (Ks net i).map (lt net)
def Ln (net : List Knot) : Nat := (W47.u net (net.length - 1)).length
section
variable {net : List Knot}
theorem Us_len (N : W47.Net net) {i : Nat} (h : i ≤ Ln net) : (Us net i).length = i := (W47.run_inv N i h).1
theorem Ks_len (N : W47.Net net) {i : Nat} (h : i ≤ Ln net) : (Ks net i).length = i := (W47.run_inv N i h).2.1
theorem Ls_len (N : W47.Net net) {i : Nat} (h : i ≤ Ln net) : (Ls net i).length = i := by unfold Ls; rw [List.length_map, Ks_len N h]
theorem sk_step (N : W47.Net net) {i : Nat} (h : i < Ln net) : ∃ r up rest, Sk net i = (r, up) :: rest ∧ Sk net (i + 1) = (W47.bel net r).map (fun l => (l, (i : Int))) ++ rest ∧ Us net (i + 1) = Us net i ++ [up] ∧ Ks net (i + 1) = Ks net i ++ [r] ∧ Ls net (i + 1) = Ls net i ++ [lt net r] := by
  obtain ⟨r, up, rest, a, b, c, d⟩ := W47.run_step N h
  refine ⟨r, up, rest, a, b, c, d, ?_⟩
  unfold Ls
  rw [show Ks net (i + 1) = Ks net i ++ [r] from d, List.map_append]; rfl
theorem sk_end (N : W47.Net net) : Sk net (Ln net) = [] := (W47.run_end N).1
theorem sk_ne (N : W47.Net net) {i : Nat} (h : i < Ln net) : Sk net i ≠ [] := W47.run_ne N h
theorem sk_few (N : W47.Net net) {i : Nat} (h : i ≤ Ln net) : i + (Sk net i).length ≤ Ln net := W47.run_few N h
theorem sk_row (N : W47.Net net) (p : 0 < net.length) {i : Nat} (h : i ≤ Ln net) : ∀ q ∈ Sk net i, q.1 < net.length := W47.run_row N p h
end
section
variable {P : Program} {w : World} {K : PySem.W.Frag} {mg : Str → Option Value} {base : Heap} {k : Nat}
theorem glue_cps : ∀ (ss : List Str) (acc : Array Nat), (List.foldl (fun acc (p : Str) => acc ++ (Str.ofString "").cps ++ p.cps) acc ss).toList = acc.toList ++ (ss.map fun z : Str => z.cps.toList).flatten
  | [], acc => by simp
  | x :: r, acc => by
    rw [List.foldl_cons, glue_cps r, Array.toList_append, Array.toList_append]
    have e : (Str.ofString "").cps.toList = [] := rfl
    rw [e, List.append_nil, List.map_cons, List.flatten_cons, List.append_assoc]
theorem join_cps (ss : List Str) : (Txt.join (Str.ofString "") ss).cps.toList = (ss.map fun z : Str => z.cps.toList).flatten := by
  cases ss with
  | nil => rfl
  | cons x r =>
    have := glue_cps r x.cps
    rw [List.map_cons, List.flatten_cons]
    exact this
theorem join_mk (l : List Nat) : Txt.join (Str.ofString "") (l.map fun c => (⟨#[c]⟩ : Str)) = mk l := by
  apply str_ext
  rw [join_cps, mk_cps, List.map_map]
  induction l with
  | nil => rfl
  | cons a l ih => rw [List.map_cons, List.flatten_cons, ih]; rfl
theorem ones_sum (l : List Nat) : ((l.map fun c => (⟨#[c]⟩ : Str)).map fun x => x.length).sum = l.length := by
  induction l with
  | nil => rfl
  | cons a l ih => rw [List.map_cons, List.map_cons, List.sum_cons, ih, List.length_cons]; show 1 + _ = _; omega
def pairN (p : Nat × Int) : List V := [.int ((p.1 : Nat) : Int), .int p.2]
def PrW (H : Hp) (ws : List Addr) (ps : List (Nat × Int)) : Prop := ws.length = ps.length ∧ ∀ (i : Nat) (a : Addr) (p : Nat × Int), ws[i]? = some a → ps[i]? = some p → H a = some (.tup (pairN p))
theorem PrW.same {H H' : Hp} {ws : List Addr} {ps : List (Nat × Int)} (h : PrW H ws ps) (s : ∀ b xs, H b = some (.tup xs) → H' b = some (.tup xs)) : PrW H' ws ps := ⟨h.1, fun i a p e1 e2 => s _ _ (h.2 i a p e1 e2)⟩
theorem PrW.app {H : Hp} {ws vs : List Addr} {ps qs : List (Nat × Int)} (h : PrW H ws ps) (g : PrW H vs qs) : PrW H (ws ++ vs) (ps ++ qs) := by
  refine ⟨by simp [h.1, g.1], fun i a p e1 e2 => ?_⟩
  rcases Nat.lt_or_ge i ws.length with c | c
  · rw [List.getElem?_append_left c] at e1
    rw [List.getElem?_append_left (by rw [← h.1]; exact c)] at e2
    exact h.2 i a p e1 e2
  · rw [List.getElem?_append_right c] at e1
    rw [List.getElem?_append_right (by rw [← h.1]; exact c), ← h.1] at e2
    exact g.2 _ a p e1 e2
theorem PrW.init {H : Hp} {ws : List Addr} {a : Addr} {ps : List (Nat × Int)} {p : Nat × Int} (h : PrW H (ws ++ [a]) (ps ++ [p])) : PrW H ws ps ∧ H a = some (.tup (pairN p)) := by
  have l : ws.length = ps.length := by have := h.1; simpa using this
  refine ⟨⟨l, fun i b q e1 e2 => ?_⟩, ?_⟩
  · have i1 := (List.getElem?_eq_some_iff.mp e1).1
    exact h.2 i b q (by rw [List.getElem?_append_left i1]; exact e1) (by rw [List.getElem?_append_left (by omega)]; exact e2)
  · exact h.2 ws.length a p (by simp) (by rw [l]; simp)
theorem knots_at {H : Hp} {t : Addr} {net : List Knot} (na : NetAt H t net) (ok : NetOk net) : ∃ as : List Addr, H t = some (.tup (as.map V.ref)) ∧ as.length = net.length ∧ ∀ (r : Nat) (a : Addr), as[r]? = some a → ∃ c, H a = some (.tup [.str ⟨#[lt net r]⟩, .ref c]) ∧ H c = some (.tup (natV (W47.bel net r))) := by
  obtain ⟨as, h1, h2, h3⟩ := na.knot
  refine ⟨as, h1, h2, fun r a ea => ?_⟩
  have rl := (List.getElem?_eq_some_iff.mp ea).1
  obtain ⟨a', b, kn, e1, e2, x, y⟩ := h3 r (by omega)
  rw [ea] at e1
  cases e1
  have e3 : lt net r = kn.1 := by unfold lt; rw [List.getD_eq_getElem?_getD, e2]; rfl
  refine ⟨b, by rw [e3]; exact x, ?_⟩
  rw [y, bel_at e2]
  unfold natV
  rw [List.map_map]
  congr 2
  refine List.map_congr_left fun n hn => ?_
  have := ok.num r kn e2 n hn
  show V.int n = V.int ((n.toNat : Nat) : Int)
  rw [show ((n.toNat : Nat) : Int) = n by omega]
end
end S48
namespace S48
open PySem L2 W7
section
variable {P : Program} {w : World} {K : PySem.W.Frag} {mg : Str → Option Value} {base : Heap} {k : Nat}
def sp_unf : Sp := fun vs H Q _ => ∃ (kn : Addr) (net : List Knot), vs = [.ref kn] ∧ NetAt H kn net ∧ NetOk net ∧ Ln net ≤ 300 ∧
  ∀ (r a b c : Addr) (H' : Hp), Same H H' → H' r = some (.lst [.ref a, .ref b, .ref c]) → H' a = some (.lst ((Us net (Ln net)).map V.int)) → H' b = some (.lst (oneV (Ls net (Ln net)))) → H' c = some (.lst (natV (W47.u net (net.length - 1)))) → Q (.ref r) H'
theorem natV_len (l : List Nat) : (natV l).length = l.length := List.length_map _
theorem has_unf (D : Df K mg "_law_unfolded" s_law_unfolded) (B : Blt7 mg) : Has P w K mg base "_law_unfolded" (k + 1) ["net"] sp_unf := by
  refine D.has sc_law_unfolded (fun _ _ _ _ _ _ us hl => match us, hl with | [_], _ => rfl) (fun vs H Q E h => by obtain ⟨kn, net, rfl, _⟩ := h; rfl) (fun f cdv A outer s H vs Q E hr h => ?_)
  obtain ⟨kn, net, rfl, na, ok, n300, q⟩ := h
  have N := ok.net
  have l60 := ok.most
  have pos := ok.pos
  obtain ⟨as, hkn, al, hat⟩ := knots_at na ok
  have asl : (as.map V.ref).length = net.length := by rw [List.length_map, al]
  refine ⟨_, (pss_cons (ps_set (i := 1) sc_law_unfolded.nd rfl (by first | exact Or.inl rfl | exact Or.inr rfl) (pe_lst pa_nil))
  (pss_cons (ps_set (i := 2) sc_law_unfolded.nd rfl (by first | exact Or.inl rfl | exact Or.inr rfl) (pe_lst pa_nil))
  (pss_cons (ps_set (i := 3) sc_law_unfolded.nd rfl (by first | exact Or.inl rfl | exact Or.inr rfl) (pe_lst pa_nil))
  (pss_cons (ps_set (i := 4) sc_law_unfolded.nd rfl (by first | exact Or.inl rfl | exact Or.inr rfl) (pe_lst (pa_cons (pe_tup (pa_cons (pe_op op_sub (pe_callB call_len_seq rfl B.len bt_len (pa_cons (pv 0) pa_nil)) pe_int) (pa_cons (pe_un un_neg pe_int) pa_nil))) pa_nil)))
  (pss_cons (ps_while PassesOwn.never (pt_cmpR (op_ne_nil hr.units0) (pv 4) (pe_lst pa_nil) (nomark _))
  (pss_cons (ps_asg (pe_bm0 PySem.F.plainAttrs_list PySem.F.slot_list_pop PySem.F.type_list_pop mt_pop (pv 4)) (pg_tup rfl (pgs_cons (pg_name (i := 5) sc_law_unfolded.nd rfl (by first | exact Or.inl rfl | exact Or.inr rfl)) (pgs_cons (pg_name (i := 6) sc_law_unfolded.nd rfl (by first | exact Or.inl rfl | exact Or.inr rfl)) pgs_nil))))
  (pss_cons (ps_for PassesOwn.never rfl (pi_tup (pe_revT K (pe_ix ix_tup (pe_ix ix_tup (pv 0) (pv 5) (fun _ _ => rfl)) pe_int (fun _ _ => rfl)) (po_some (pe_un un_neg pe_int)))) (pg_name (i := 7) sc_law_unfolded.nd rfl (by first | exact Or.inl rfl | exact Or.inr rfl))
  (pss_one (ps_expr (pe_bm PySem.F.plainAttrs_list PySem.F.slot_list_append PySem.F.type_list_append mt_append (pv 4) (pa_cons (pe_tup (pa_cons (pv 7) (pa_cons (pe_callB call_len_seq rfl B.len bt_len (pa_cons (pv 1) pa_nil)) pa_nil))) pa_nil)))))
  (pss_cons (ps_expr (pe_bm PySem.F.plainAttrs_list PySem.F.slot_list_append PySem.F.type_list_append mt_append (pv 1) (pa_cons (pv 6) pa_nil)))
  (pss_cons (ps_expr (pe_bm PySem.F.plainAttrs_list PySem.F.slot_list_append PySem.F.type_list_append mt_append (pv 2) (pa_cons (pe_ix ix_tup (pe_ix ix_tup (pv 0) (pv 5) (fun _ _ => rfl)) pe_int (fun _ _ => rfl)) pa_nil)))
  (pss_one (ps_expr (pe_bm PySem.F.plainAttrs_list PySem.F.slot_list_append PySem.F.type_list_append mt_append (pv 3) (pa_cons (pv 5) pa_nil)))))))))
  (pss_one (ps_ret (pe_lst (pa_cons (pv 1) (pa_cons (pv 2) (pa_cons (pv 3) pa_nil))))))))))), ?_⟩
  refine ⟨Nat.zero_le _, fun u hu => ?_⟩
  have s1 : Same H (upd H u (.lst [])) := (Same.refl H).new hu
  have h1 : upd H u (.lst []) u = some (.lst []) := upd_same
  generalize upd H u (.lst []) = H1 at s1 h1
  refine ⟨Nat.zero_le _, fun l hl => ?_⟩
  have nl : H l = none := s1.free hl
  have ul : u ≠ l := ne_of_none h1 hl
  have s2 : Same H1 (upd H1 l (.lst [])) := (Same.refl H1).new hl
  have h2 : upd H1 l (.lst []) l = some (.lst []) := upd_same
  generalize upd H1 l (.lst []) = H2 at s2 h2
  refine ⟨Nat.zero_le _, fun c hc => ?_⟩
  have nc : H c = none := s1.free (s2.free hc)
  have uc : u ≠ c := ne_of_none (s2 _ _ h1) hc
  have lc : l ≠ c := ne_of_none h2 hc
  have s3 : Same H2 (upd H2 c (.lst [])) := (Same.refl H2).new hc
  have h3 : upd H2 c (.lst []) c = some (.lst []) := upd_same
  generalize upd H2 c (.lst []) = H3 at s3 h3
  refine ⟨_, rfl, kn, _, rfl, .inr (SqT.of (s3 _ _ (s2 _ _ (s1 _ _ hkn)))), _, _, rfl, rfl, _, rfl, (by show 2 ≤ sizeLine; decide), fun p0 hp0 => ?_⟩
  generalize hg4 : upd H3 p0 _ = H4
  have s4 : Same H3 H4 := by rw [← hg4]; exact (Same.refl H3).new hp0
  have h4 : H4 p0 = some (.tup (pairN (net.length - 1, -1))) := by
    rw [← hg4, upd_same]
    show some (HO.tup [.int (((as.map V.ref).length : Int) - 1), .int (-1)]) = _
    unfold pairN
    rw [asl, show (((net.length - 1 : Nat)) : Int) = (net.length : Int) - 1 by omega]
  clear hg4
  refine ⟨(by show 1 ≤ sizeLine; decide), fun wt hwt => ?_⟩
  have nw : H wt = none := s1.free (s2.free (s3.free (s4.free hwt)))
  have uw : u ≠ wt := ne_of_none (s4 _ _ (s3 _ _ (s2 _ _ h1))) hwt
  have lw : l ≠ wt := ne_of_none (s4 _ _ (s3 _ _ h2)) hwt
  have cw : c ≠ wt := ne_of_none (s4 _ _ h3) hwt
  have s5 : Same H4 (upd H4 wt (.lst [.ref p0])) := (Same.refl H4).new hwt
  have h5 : upd H4 wt (.lst [.ref p0]) wt = some (.lst ([p0].map V.ref)) := upd_same
  generalize upd H4 wt (.lst [.ref p0]) = H5 at s5 h5
  have s05 : Same H H5 := (((s1.trans s2).trans s3).trans s4).trans s5
  dsimp only [gName]
  refine while_by (fun σ HX => ∃ (i : Nat) (ws : List Addr) (o5 o6 o7 : Option V), σ = [some (.ref kn), some (.ref u), some (.ref l), some (.ref c), some (.ref wt), o5, o6, o7] ∧ i ≤ Ln net ∧ Same H HX ∧ HX u = some (.lst ((Us net i).map V.int)) ∧ HX l = some (.lst (oneV (Ls net i))) ∧ HX c = some (.lst (natV (Ks net i))) ∧ HX wt = some (.lst (ws.map V.ref)) ∧ PrW HX ws (Sk net i).reverse)
    (fun σ HX => match HX u with | some (.lst xs) => 300 - xs.length | _ => 0) ⟨0, [p0], none, none, none, rfl, Nat.zero_le _, s05, s5 _ _ (s4 _ _ (s3 _ _ (s2 _ _ h1))), s5 _ _ (s4 _ _ (s3 _ _ h2)), s5 _ _ (s4 _ _ h3), h5, ?_⟩ ?_ ?_
  · refine ⟨rfl, fun i a p e1 e2 => ?_⟩
    have i0 : i = 0 := by have := (List.getElem?_eq_some_iff.mp e1).1; simp at this; exact this
    subst i0
    cases e1; cases e2
    exact s5 _ _ h4
  · rintro σ HX ⟨i, ws, o5, o6, o7, rfl, hi, sX, hu', hl', hc', hw', pw⟩
    refine ⟨_, rfl, (by show 0 ≤ sizeLine; decide), fun em hem => ?_⟩
    have sE : Same HX (upd HX em (.lst [])) := (Same.refl HX).new hem
    have hE : upd HX em (.lst []) em = some (.lst []) := upd_same
    have mu : upd HX em (.lst []) u = HX u := upd_ne (ne_of_none hu' hem)
    show (fun HH => _) (upd HX em (.lst []))
    generalize upd HX em (.lst []) = HZ at sE hE mu
    refine ⟨wt, em, _, rfl, rfl, SqL.of (sE _ _ hw'), SqL.of hE, _, rfl, ite2 (fun cnd => ?_) (fun cnd => ?_)⟩
    · have wne : ws ≠ [] := fun e => by rw [e] at cnd; cases cnd
      have lt' : i < Ln net := by
        rcases Nat.eq_or_lt_of_le hi with e | e
        · rw [e, sk_end N] at pw; exact absurd (List.eq_nil_of_length_eq_zero pw.1) wne
        · exact e
      obtain ⟨r, up, rest, est, e1, e2, e2', e3⟩ := sk_step N lt'
      obtain ⟨ws0, a0, rfl⟩ : ∃ ws0 a0, ws = ws0 ++ [a0] := ⟨ws.dropLast, ws.getLast wne, (List.dropLast_concat_getLast wne).symm⟩
      rw [est, List.reverse_cons] at pw
      obtain ⟨pw0, ha0⟩ := pw.init
      have rn : r < net.length := sk_row N pos hi (r, up) (by rw [est]; exact List.mem_cons_self)
      have ei : (Us net i).length = i := Us_len N hi
      have ei2 : (Ls net i).length = i := Ls_len N hi
      have ei3 : (Ks net i).length = i := Ks_len N hi
      have ra : as[r]? = some (as[r]'(by omega)) := List.getElem?_eq_getElem (by omega)
      obtain ⟨cc, hk1, hk2⟩ := hat r _ ra
      generalize as[r]'(by omega) = ar at ra hk1
      have hix := atI_nat (xs := as.map V.ref) (j := r) (v := .ref ar) (by rw [List.getElem?_map, ra]; rfl)
      have wl : ws0.length ≤ 300 := by
        have := pw0.1
        have := sk_few N hi
        rw [est, List.length_cons] at this
        rw [List.length_reverse] at *
        omega
      have bf := ok.bfew r
      have hw2 : HZ wt = some (.lst (ws0.map V.ref ++ [.ref a0])) := by rw [sE _ _ hw', List.map_append]; rfl
      refine ⟨_, rfl, .inl ⟨rfl, _, SqL.of hw2⟩, wt, _, .ref a0, rfl, rfl, hw2, by simp, ?_⟩
      rw [List.dropLast_concat]
      have t1 : ∀ b xs, HX b = some (.tup xs) → upd HZ wt (.lst (ws0.map V.ref)) b = some (.tup xs) := fun b xs e => by rw [upd_ne (ne_of (sE _ _ e) hw2 (by intro z; cases z))]; exact sE _ _ e
      have u1 : upd HZ wt (.lst (ws0.map V.ref)) u = some (.lst ((Us net i).map V.int)) := by rw [upd_ne uw]; exact sE _ _ hu'
      have l1 : upd HZ wt (.lst (ws0.map V.ref)) l = some (.lst (oneV (Ls net i))) := by rw [upd_ne lw]; exact sE _ _ hl'
      have c1 : upd HZ wt (.lst (ws0.map V.ref)) c = some (.lst (natV (Ks net i))) := by rw [upd_ne cw]; exact sE _ _ hc'
      have w1 : upd HZ wt (.lst (ws0.map V.ref)) wt = some (.lst (ws0.map V.ref)) := upd_same
      have sA : Same H (upd HZ wt (.lst (ws0.map V.ref))) := (sX.trans sE).write nw
      show (fun HH => _) (upd HZ wt (.lst (ws0.map V.ref)))
      generalize upd HZ wt (.lst (ws0.map V.ref)) = HA at t1 u1 l1 c1 w1 sA
      refine ⟨a0, _, rfl, SqT.of (t1 _ _ ha0), rfl, _, _, rfl, _, _, rfl, rfl, ?_⟩
      refine ⟨_, rfl, _, rfl, kn, _, _, _, rfl, rfl, SqT.of (sA _ _ hkn), hix, ar, _, _, _, rfl, rfl, SqT.of (sA _ _ hk1), rfl, _, rfl, _, rfl, cc, _, rfl, rfl, SqT.of (sA _ _ hk2), fun rv hrv => ?_⟩
      have en : (natV (W47.bel net r)).reverse = natV (W47.bel net r).reverse := by unfold natV; rw [List.map_reverse]
      rw [en]
      have sB : Same HA (upd HA rv (.tup (natV (W47.bel net r).reverse))) := (Same.refl HA).new hrv
      have hB : upd HA rv (.tup (natV (W47.bel net r).reverse)) rv = some (.tup (natV (W47.bel net r).reverse)) := upd_same
      show (fun HH => _) (upd HA rv (.tup (natV (W47.bel net r).reverse)))
      generalize upd HA rv (.tup (natV (W47.bel net r).reverse)) = HB at sB hB
      refine ⟨rv, rfl, ⟨_, SqT.of hB⟩, ?_⟩
      refine for_tup (K := K) (xs := natV (W47.bel net r).reverse) (fun j σ HY => ∃ (o7 : Option V) (vs : List Addr), σ = [some (.ref kn), some (.ref u), some (.ref l), some (.ref c), some (.ref wt), some (.int ((r : Nat) : Int)), some (.int up), o7] ∧ Same H HY ∧ HY u = some (.lst ((Us net i).map V.int)) ∧ HY l = some (.lst (oneV (Ls net i))) ∧ HY c = some (.lst (natV (Ks net i))) ∧ HY wt = some (.lst ((ws0 ++ vs).map V.ref)) ∧ PrW HY vs (((W47.bel net r).reverse.take j).map fun l => (l, (i : Int))) ∧ PrW HY ws0 rest.reverse ∧ HY rv = some (.tup (natV (W47.bel net r).reverse)))
        ⟨o7, [], rfl, sA.trans sB, sB _ _ u1, sB _ _ l1, sB _ _ c1, by rw [List.append_nil]; exact sB _ _ w1, ⟨rfl, fun i a p e => by simp at e⟩, pw0.same fun b xs e => sB _ _ (t1 _ _ e), hB⟩ (fun j σ HY _ h => by obtain ⟨_, _, _, _, _, _, _, _, _, _, h⟩ := h; exact SqT.of h) ?_ ?_
      · rintro j x σ HY hx ⟨o7', vs, rfl, sY, uY, lY, cY, wY, pv, pw3, rY⟩
        unfold natV at hx
        rw [List.getElem?_map] at hx
        cases ex : (W47.bel net r).reverse[j]? with
        | none => rw [ex] at hx; cases hx
        | some lo =>
          rw [ex] at hx
          cases hx
          have vl : vs.length ≤ 60 := by rw [pv.1, List.length_map, List.length_take, List.length_reverse]; omega
          refine ⟨_, rfl, .inl ⟨rfl, _, SqL.of wY⟩, _, rfl, _, rfl, u, _, rfl, .inl (SqL.of uY), (by show 2 ≤ sizeLine; decide), fun e he => ?_⟩
          have ew : wt ≠ e := ne_of_none wY he
          have lenU : (((Us net i).map V.int).length : Int) = (i : Int) := by rw [List.length_map, ei]
          rw [lenU]
          refine ⟨wt, _, _, rfl, rfl, by rw [upd_ne ew]; exact wY, by rw [List.length_map, List.length_append]; exact small1000 (by omega), ?_⟩
          have keep : ∀ b xs, HY b = some (.tup xs) → upd (upd HY e (.tup [.int ((lo : Nat) : Int), .int (i : Int)])) wt (.lst ((ws0 ++ vs).map V.ref ++ [.ref e])) b = some (.tup xs) := fun b xs eb => by
            rw [upd_ne (ne_of eb wY (by intro z; cases z)), upd_ne (ne_of_none eb he)]; exact eb
          have keepL : ∀ b o, b ≠ wt → HY b = some o → upd (upd HY e (.tup [.int ((lo : Nat) : Int), .int (i : Int)])) wt (.lst ((ws0 ++ vs).map V.ref ++ [.ref e])) b = some o := fun b o nb eb => by
            rw [upd_ne nb, upd_ne (ne_of_none eb he)]; exact eb
          refine ⟨_, vs ++ [e], rfl, (sY.new he).write nw, keepL _ _ uw uY, keepL _ _ lw lY, keepL _ _ cw cY, by rw [upd_same, ← List.append_assoc, List.map_append (l₁ := ws0 ++ vs)]; rfl, ?_, pw3.same keep, keep _ _ rY⟩
          have e4 : ((W47.bel net r).reverse.take (j + 1)).map (fun l => (l, (i : Int))) = ((W47.bel net r).reverse.take j).map (fun l => (l, (i : Int))) ++ [(lo, (i : Int))] := by rw [List.take_succ, ex, List.map_append]; rfl
          rw [e4]
          refine PrW.app (vs := [e]) (qs := [(lo, (i : Int))]) (pv.same keep) ⟨rfl, fun i' a p e1 e2 => ?_⟩
          have i0 : i' = 0 := by have := (List.getElem?_eq_some_iff.mp e1).1; simp at this; exact this
          subst i0
          cases e1; cases e2
          rw [upd_ne (Ne.symm ew)]; exact upd_same
      · rintro σ HY ⟨o7', vs, rfl, sY, uY, lY, cY, wY, pv, pw3, rY⟩
        have full : ((W47.bel net r).reverse.take (natV (W47.bel net r).reverse).length).map (fun l => (l, (i : Int))) = ((W47.bel net r).map fun l => (l, (i : Int))).reverse := by
          rw [← List.map_reverse]
          congr 1
          rw [natV_len]; exact List.take_length
        rw [full] at pv
        refine ⟨_, rfl, .inl ⟨rfl, _, SqL.of uY⟩, _, rfl, u, _, _, rfl, rfl, uY, by rw [List.length_map, ei]; exact small1000 (by omega), ?_⟩
        have t2 : ∀ b o, b ≠ u → HY b = some o → upd HY u (.lst ((Us net i).map V.int ++ [.int up])) b = some o := fun b o nb e => by rw [upd_ne nb]; exact e
        have tt2 : ∀ b xs, HY b = some (.tup xs) → upd HY u (.lst ((Us net i).map V.int ++ [.int up])) b = some (.tup xs) := fun b xs e => by rw [upd_ne (ne_of e uY (by intro z; cases z))]; exact e
        have sC : Same H (upd HY u (.lst ((Us net i).map V.int ++ [.int up]))) := sY.write hu
        have u2 : upd HY u (.lst ((Us net i).map V.int ++ [.int up])) u = some (.lst ((Us net (i + 1)).map V.int)) := by rw [upd_same, e2, List.map_append]; rfl
        show (fun HH => _) (upd HY u (.lst ((Us net i).map V.int ++ [.int up])))
        generalize upd HY u (.lst ((Us net i).map V.int ++ [.int up])) = HC at t2 tt2 sC u2
        have l2 := t2 _ _ (Ne.symm ul) lY
        have c2 := t2 _ _ (Ne.symm uc) cY
        have w2 := t2 _ _ (Ne.symm uw) wY
        refine ⟨_, rfl, .inl ⟨rfl, _, SqL.of l2⟩, _, rfl, _, rfl, kn, _, _, _, rfl, rfl, SqT.of (sC _ _ hkn), hix, ar, _, _, _, rfl, rfl, SqT.of (sC _ _ hk1), rfl, l, _, _, rfl, rfl, l2, by rw [oneV_len, ei2]; exact small1000 (by omega), ?_⟩
        have t3 : ∀ b o, b ≠ l → HC b = some o → upd HC l (.lst (oneV (Ls net i) ++ [.str ⟨#[lt net r]⟩])) b = some o := fun b o nb e => by rw [upd_ne nb]; exact e
        have tt3 : ∀ b xs, HC b = some (.tup xs) → upd HC l (.lst (oneV (Ls net i) ++ [.str ⟨#[lt net r]⟩])) b = some (.tup xs) := fun b xs e => by rw [upd_ne (ne_of e l2 (by intro z; cases z))]; exact e
        have sD : Same H (upd HC l (.lst (oneV (Ls net i) ++ [.str ⟨#[lt net r]⟩]))) := sC.write nl
        have l3 : upd HC l (.lst (oneV (Ls net i) ++ [.str ⟨#[lt net r]⟩])) l = some (.lst (oneV (Ls net (i + 1)))) := by rw [upd_same, e3]; unfold oneV; rw [List.map_append]; rfl
        show (fun HH => _) (upd HC l (.lst (oneV (Ls net i) ++ [.str ⟨#[lt net r]⟩])))
        generalize upd HC l (.lst (oneV (Ls net i) ++ [.str ⟨#[lt net r]⟩])) = HD at t3 tt3 sD l3
        have u3 := t3 _ _ ul u2
        have c3 := t3 _ _ (Ne.symm lc) c2
        have w3 := t3 _ _ (Ne.symm lw) w2
        refine ⟨_, rfl, .inl ⟨rfl, _, SqL.of c3⟩, _, rfl, c, _, _, rfl, rfl, c3, by rw [natV_len, ei3]; exact small1000 (by omega), ?_⟩
        have tt4 : ∀ b xs, HD b = some (.tup xs) → upd HD c (.lst (natV (Ks net i) ++ [.int ((r : Nat) : Int)])) b = some (.tup xs) := fun b xs e => by rw [upd_ne (ne_of e c3 (by intro z; cases z))]; exact e
        have tk : ∀ b xs, HY b = some (.tup xs) → upd HD c (.lst (natV (Ks net i) ++ [.int ((r : Nat) : Int)])) b = some (.tup xs) := fun b xs e => tt4 _ _ (tt3 _ _ (tt2 _ _ e))
        refine ⟨⟨i + 1, ws0 ++ vs, _, _, _, rfl, lt', sD.write nc, by rw [upd_ne uc]; exact u3, by rw [upd_ne lc]; exact l3, ?_, by rw [upd_ne (Ne.symm cw)]; exact w3, ?_⟩, ?_⟩
        · rw [upd_same, e2']; unfold natV; rw [List.map_append]; rfl
        · rw [e1, List.reverse_append]
          exact (pw3.same tk).app (pv.same tk)
        · show (match upd HD c (.lst (natV (Ks net i) ++ [.int ((r : Nat) : Int)])) u with | some (.lst xs) => 300 - xs.length | _ => 0) < (match HX u with | some (.lst xs) => 300 - xs.length | _ => 0)
          rw [upd_ne uc, u3, hu']
          show 300 - ((Us net (i + 1)).map V.int).length < 300 - ((Us net i).map V.int).length
          rw [List.length_map, List.length_map, Us_len N (by omega), ei]; omega
    · have w0 : ws = [] := by
        cases ws with
        | nil => rfl
        | cons a b => exact absurd rfl cnd
      have en : i = Ln net := by
        rcases Nat.eq_or_lt_of_le hi with e | e
        · exact e
        · have := pw.1
          rw [w0, List.length_reverse] at this
          exact absurd (List.eq_nil_of_length_eq_zero this.symm) (sk_ne N e)
      subst en
      have ke : Ks net (Ln net) = W47.u net (net.length - 1) := (W47.run_end N).2
      rw [ke] at hc'
      refine ⟨_, rfl, _, rfl, _, rfl, (by show 3 ≤ sizeLine; decide), fun rr hrr => ?_⟩
      have sR : Same HZ (upd HZ rr (.lst [.ref u, .ref l, .ref c])) := (Same.refl HZ).new hrr
      exact q rr u l c _ ((sX.trans sE).trans sR) upd_same (sR _ _ (sE _ _ hu')) (sR _ _ (sE _ _ hl')) (sR _ _ (sE _ _ hc'))
  · intro σ HX Q1 Q2 hq h
    obtain ⟨v, e, hz, h⟩ := h
    refine ⟨v, e, hz, fun em hem => ?_⟩
    obtain ⟨a, b, xs, e1, e2, e3, e4, kk, e5, h⟩ := h em hem
    exact ⟨a, b, xs, e1, e2, e3, e4, kk, e5, hq _ _ h⟩
end
end S48
namespace S48
open PySem L2 W7
theorem cutV_to {xs : List V} {i : Int} (h0 : 0 ≤ i) (h1 : i ≤ (xs.length : Int)) : cutV xs none (some i) = xs.take i.toNat := by
  unfold cutV
  have e : HT.sIx xs.length xs.length (some i) = i.toNat := by
    simp only [HT.sIx]; rw [if_neg (by omega)]; omega
  rw [e]; simp [HT.sIx]
theorem sIx_to {n : Nat} {i : Int} (h0 : 0 ≤ i) (h1 : i ≤ (n : Int)) : HT.sIx n n (some i) = i.toNat := by
  simp only [HT.sIx]; rw [if_neg (by omega)]; omega
theorem NetAt.take {H : Hp} {as : List Addr} {net : List Knot} (h : KnotsAt H as net) (n : Nat) : KnotsAt H (as.take n) (net.take n) := by
  refine ⟨by rw [List.length_take, List.length_take, h.1], fun i a kn e1 e2 => ?_⟩
  rw [List.getElem?_take] at e1 e2
  split at e1
  · rename_i c
    rw [if_pos c] at e2
    exact h.2 i a kn e1 e2
  · cases e1
theorem NetOk.take {net : List Knot} (ok : NetOk net) {n : Nat} (h : 0 < n) : NetOk (net.take n) := by
  refine ⟨?_, ?_, fun kn hk => ok.low kn (List.mem_of_mem_take hk), fun kn hk => ok.few kn (List.mem_of_mem_take hk), fun k kn e => ?_⟩
  · rw [List.length_take]; have := ok.pos; omega
  · rw [List.length_take]; have := ok.most; omega
  · rw [List.getElem?_take] at e
    split at e
    · exact ok.num k kn e
    · cases e
theorem bel_take {net : List Knot} {n k : Nat} (h : k < n) : W47.bel (net.take n) k = W47.bel net k := by
  unfold W47.bel
  rw [List.getD_eq_getElem?_getD, List.getD_eq_getElem?_getD, List.getElem?_take, if_pos h]
theorem net_take {net : List Knot} (N : W47.Net net) (n : Nat) : W47.Net (net.take n) := ⟨fun k hk l hl => by
  rw [List.length_take] at hk
  rw [bel_take (by omega)] at hl
  exact N.at' k l hl⟩
theorem u_take {net : List Knot} (N : W47.Net net) {n : Nat} : ∀ (q k : Nat), k < q → k < n → W47.u (net.take n) k = W47.u net k
  | 0, _, hq, _ => absurd hq (Nat.not_lt_zero _)
  | q + 1, k, hq, hk => by
    rw [W47.u_eq (net_take N n), W47.u_eq N, bel_take hk]
    congr 2
    refine List.map_congr_left fun l hl => ?_
    have := N.at' k l hl
    exact u_take N q l (by omega) (by omega)
theorem sz_take {net : List Knot} (N : W47.Net net) {n k : Nat} (h : k < n) : W47.sz (net.take n) k = W47.sz net k := by
  unfold W47.sz; rw [u_take N _ _ (Nat.lt_succ_self _) h]
theorem sz_zero {net : List Knot} (N : W47.Net net) : W47.sz net 0 = 1 := by
  rw [W47.sz_eq N]
  have : W47.bel net 0 = [] := List.eq_nil_iff_forall_not_mem.mpr fun l hl => by have := N.at' 0 l hl; omega
  rw [this]; rfl
section
variable {P : Program} {w : World} {K : PySem.W.Frag} {mg : Str → Option Value} {base : Heap} {k : Nat}
def sp_cut : Sp := fun vs H Q _ => ∃ (t : Addr) (net : List Knot) (m : Int), vs = [.ref t, .int m] ∧ NetAt H t net ∧ NetOk net ∧ 1 ≤ m ∧ ∀ (r : Addr) (net' : List Knot) (H' : Hp), Same H H' → NetAt H' r net' → NetOk net' → W47.sz net' (net'.length - 1) ≤ m → Q (.ref r) H'
theorem has_cut (D : Df K mg "_law_cut" s_law_cut) (B : Blt7 mg) (G_law_sizes : Has P w K mg base "_law_sizes" k ["net"] sp_sizes) : Has P w K mg base "_law_cut" (k + 1) ["net", "most"] sp_cut := by
  refine D.has sc_law_cut (fun _ _ _ _ _ _ us hl => match us, hl with | [_, _], _ => rfl) (fun vs H Q E h => by obtain ⟨t, net, m, rfl, _⟩ := h; rfl) (fun f cdv A outer s H vs Q E hr h => ?_)
  obtain ⟨t, net, m, rfl, na, ok, m1, q⟩ := h
  refine ⟨_, (pss_cons (ps_set (i := 2) sc_law_cut.nd rfl (by first | exact Or.inl rfl | exact Or.inr rfl) (pe_callH G_law_sizes hr rfl (pa_cons (pv 0) pa_nil)))
  (pss_cons (ps_comp (i := 3) sc_law_cut.nd rfl (by first | exact Or.inl rfl | exact Or.inr rfl) rfl (pi_range1 rfl B.range (pa_cons (pe_callB call_len_seq rfl B.len bt_len (pa_cons (pv 0) pa_nil)) pa_nil)) (NL := ["k"]) (ix := [2, 1]) (csc (defScope s_law_cut) N_law_cut) (fun cl C s₃ H₃ fp pins => ⟨(pg_name (i := 0) (show List.Nodup (["k", "sizes", "most"] : List Str) from by decide +kernel) rfl (by first | exact Or.inl rfl | exact Or.inr rfl)), (pifs_one (pt_cmpR op_le (pe_ix (ix_listK K) (pv 1) (pv 0) (fun _ _ => rfl)) (pv 2) (nomark _))), (pv 0)⟩))
  (pss_one (ps_ret (pe_slice sl_tupA (pv 0) po_none (po_some (pe_op op_add (pe_ix ix_list (pv 3) (pe_un un_neg pe_int) (fun _ _ => rfl)) pe_int))))))), ?_⟩
  have N := ok.net
  have pos := ok.pos
  have l60 := ok.most
  obtain ⟨as, ht, kns⟩ := id na
  have asl : (as.map V.ref).length = net.length := by rw [List.length_map, kns.1]
  refine ⟨_, rfl, t, net, rfl, na, ok, fun r H1 fr s1 h1 => ?_⟩
  refine ⟨_, rfl, t, _, rfl, .inr (SqT.of (s1 _ _ ht)), ?_⟩
  rw [asl]
  refine ⟨((net.length : Nat) : Int), rfl, by omega, by omega, fun acc hacc => ?_⟩
  refine comp_by net.length (by omega) (fun j ys HX => ∃ gs : List Nat, HX acc = some (.lst ys) ∧ ys = natV gs ∧ gs.length ≤ j ∧ (∀ g ∈ gs, g < j ∧ W47.sz net g ≤ m) ∧ (0 < j → gs ≠ []) ∧ Same H1 HX) (fun j ys HX h => by obtain ⟨gs, h1, rfl, h2, _⟩ := h; exact ⟨h1, by rw [natV_len]; exact h2⟩) ⟨[], upd_same, rfl, Nat.zero_le _, (fun g hg => by cases hg), (fun z => absurd z (Nat.lt_irrefl _)), (Same.refl H1).new hacc⟩ ?_ ?_
  · rintro ys HX ⟨gs, g1, rfl, g2, g3, g4, g5⟩
    refine ⟨by rw [Int.toNat_natCast]; exact Nat.le_refl _, ?_⟩
    have gne := g4 pos
    obtain ⟨glt, gsz⟩ := g3 _ (List.getLast_mem gne)
    have hat : atI (natV gs) (-1) = some (.int ((gs.getLast gne : Nat) : Int)) := by
      have gl : 0 < gs.length := List.length_pos_iff.mpr gne
      unfold atI
      rw [natV_len, ixN_last gl]
      show (natV gs)[gs.length - 1]? = _
      unfold natV
      rw [List.getElem?_map, List.getElem?_eq_getElem (by omega), ← List.getLast_eq_getElem]; rfl
    have sX := s1.trans g5
    refine ⟨_, rfl, _, rfl, _, rfl, acc, _, _, _, rfl, rfl, SqL.of g1, hat, _, _, rfl, rfl, _, rfl, t, _, rfl, SqT.of (sX _ _ ht), fun wh => ?_, fun nw p hp => ?_⟩
    · have ge : net.length - 1 = gs.getLast gne := by
        have := wh.2
        rw [sIx_to (by omega) (by rw [asl]; omega), asl] at this
        omega
      exact q t net HX sX (na.same sX) ok (by rw [ge]; exact gsz)
    · have e : cutV (as.map V.ref) none (some (((gs.getLast gne : Nat) : Int) + 1)) = (as.take (gs.getLast gne + 1)).map V.ref := by
        rw [cutV_to (by omega) (by rw [asl]; omega), List.map_take]
        congr 1
      have sP : Same HX (upd HX p (.tup (cutV (as.map V.ref) none (some (((gs.getLast gne : Nat) : Int) + 1))))) := (Same.refl HX).new hp
      exact q p (net.take (gs.getLast gne + 1)) _ (sX.trans sP) ⟨as.take (gs.getLast gne + 1), by rw [← e]; exact upd_same, (NetAt.take kns _).same (sX.trans sP)⟩ (ok.take (Nat.succ_pos _)) (by rw [List.length_take, Nat.min_eq_left (by omega), Nat.add_sub_cancel, sz_take N (Nat.lt_succ_self _)]; exact gsz)
  · rintro j ys HX hj ⟨gs, g1, rfl, g2, g3, g4, g5⟩
    refine ⟨by rw [Int.toNat_natCast]; exact hj, ?_⟩
    rintro x H'' ⟨rfl, rfl⟩
    refine ⟨rfl, ?_⟩
    have zj : (0 : Int) + (j : Int) = ((j : Nat) : Int) := by omega
    have at1 : atI (szV net net.length) (0 + (j : Int)) = some (.int (W47.sz net j)) := by
      have := szV_at (net := net) (i := net.length) (n := 0 + (j : Int)) (by omega) (by omega)
      rw [show ((0 : Int) + (j : Int)).toNat = j by omega] at this
      exact this
    refine ⟨_, rfl, _, rfl, r, _, _, _, rfl, rfl, SqL.of (g5 _ _ h1), at1, _, rfl, _, _, rfl, rfl, _, rfl, ite2 (fun cnd => ?_) (fun cnd => ?_)⟩
    · refine ⟨_, rfl, g1, gs ++ [j], upd_same, ?_, by rw [List.length_append]; show _ + 1 ≤ _; omega, fun g hg => ?_, fun _ => by simp, g5.write hacc⟩
      · unfold natV; rw [List.map_append, zj]; rfl
      · rcases List.mem_append.mp hg with hg | hg
        · have := g3 g hg; exact ⟨by omega, this.2⟩
        · rw [List.mem_singleton.mp hg]; exact ⟨by omega, of_decide_eq_true cnd⟩
    · refine ⟨gs, g1, rfl, by omega, fun g hg => by have := g3 g hg; exact ⟨by omega, this.2⟩, fun _ => ?_, g5⟩
      rcases Nat.eq_zero_or_pos j with z | z
      · subst z
        exfalso
        apply cnd
        rw [sz_zero N]
        exact decide_eq_true m1
      · exact g4 z
end
end S48
namespace S48
open PySem L2 W7
structure Exs (K : PySem.W.Frag) (mg : Str → Option Value) where
  c_UpError : Addr
  m_UpError : mg "UpError" = some (.ref c_UpError)
  c_NoPlace : Addr
  m_NoPlace : mg "NoPlace" = some (.ref c_NoPlace)
  c_NoNumber : Addr
  m_NoNumber : mg "NoNumber" = some (.ref c_NoNumber)
  c_NoWord : Addr
  m_NoWord : mg "NoWord" = some (.ref c_NoWord)
  c_NoText : Addr
  m_NoText : mg "NoText" = some (.ref c_NoText)
  c_TooMany : Addr
  m_TooMany : mg "TooMany" = some (.ref c_TooMany)
  c_NoTree : Addr
  m_NoTree : mg "NoTree" = some (.ref c_NoTree)
  q_NoPlace : PySem.W.excIn K c_NoPlace bmV "ValueError.__new__" = true
  z_NoPlace : ExK K c_NoPlace
  u_NoPlace : PySem.W.exmOne K (.ref c_NoPlace) (.ref c_UpError) = some true
  p0 : PySem.W.kitOne K (.ref c_NoPlace) (.ref c_NoPlace) = some true
  p1 : PySem.W.kitOne K (.ref c_NoPlace) (.ref c_NoNumber) = some false
  p2 : PySem.W.kitOne K (.ref c_NoPlace) (.ref c_NoWord) = some false
  p3 : PySem.W.kitOne K (.ref c_NoPlace) (.ref c_NoText) = some false
  p4 : PySem.W.kitOne K (.ref c_NoPlace) (.ref c_TooMany) = some false
  p5 : PySem.W.kitOne K (.ref c_NoPlace) (.ref c_NoTree) = some false
  pv : PySem.W.kitOne K (.ref c_NoPlace) (.type "ValueError") = some true
inductive Thg (H : Hp) : V → Prop
  | non : Thg H .non
  | bl (b : Bool) : Thg H (.bl b)
  | int (i : Int) : Thg H (.int i)
  | str (z : Str) : Thg H (.str z)
  | lst {a : Addr} {xs : List V} (e : H a = some (.lst xs)) : Thg H (.ref a)
  | tup {a : Addr} {xs : List V} (e : H a = some (.tup xs)) : Thg H (.ref a)
  | dct {a : Addr} {kvs : List (Key × V)} (e : H a = some (.dK kvs)) : Thg H (.ref a)
theorem Thg.same {H H' : Hp} {x : V} (h : Thg H x) (s : Same H H') : Thg H' x := by
  cases h with
  | non => exact .non
  | bl b => exact .bl b
  | int i => exact .int i
  | str z => exact .str z
  | lst e => exact .lst (s _ _ e)
  | tup e => exact .tup (s _ _ e)
  | dct e => exact .dct (s _ _ e)
def wh : V → Bool
  | .int _ => true
  | _ => false
def below : V → Int → Bool
  | .int i, n => decide (0 ≤ i) && decide (i < n)
  | _, _ => false
section
variable {P : Program} {w : World} {K : PySem.W.Frag} {mg : Str → Option Value} {base : Heap} {k : Nat}
theorem kit_none_int (K : PySem.W.Frag) : PySem.W.kitOne K (.type "NoneType") (.type "int") = some false := by rfl
theorem kit_str_int (K : PySem.W.Frag) : PySem.W.kitOne K (.type "str") (.type "int") = some false := by rfl
theorem kit_list_int (K : PySem.W.Frag) : PySem.W.kitOne K (.type "list") (.type "int") = some false := by rfl
theorem kit_tuple_int (K : PySem.W.Frag) : PySem.W.kitOne K (.type "tuple") (.type "int") = some false := by rfl
theorem kit_dict_int (K : PySem.W.Frag) : PySem.W.kitOne K (.type "dict") (.type "int") = some false := by rfl
theorem kit_bool_int (K : PySem.W.Frag) : PySem.W.kitOne K (.type "bool") (.type "int") = some true := by rfl
def sp_whole : Sp := fun vs H Q _ => ∃ x : V, vs = [x] ∧ Thg H x ∧ Q (.bl (wh x)) H
theorem has_whole (D : Df K mg "is_whole" s_is_whole) (B : Blt7 mg) : Has P w K mg base "is_whole" (k + 1) ["thing"] sp_whole := by
  refine D.has sc_is_whole (fun _ _ _ _ _ _ us hl => match us, hl with | [_], _ => rfl) (fun vs H Q E h => by obtain ⟨x, rfl, _⟩ := h; rfl) (fun f cdv A outer s H vs Q E hr h => ?_)
  obtain ⟨x, rfl, th, q⟩ := h
  refine ⟨_, (pss_one (ps_ret (pe_and (pe_callB call_isinst rfl B.isinstance bt_isinstance (pa_cons (pv 0) (pa_cons (pe_bltn (v := .ty "int") rfl B.int_ bt_int rfl) pa_nil))) (pe_one (pe_not (pe_callB call_isinst rfl B.isinstance bt_isinstance (pa_cons (pv 0) (pa_cons (pe_bltn (v := .ty "bool") rfl B.bool_ bt_bool rfl) pa_nil)))))))), ?_⟩
  cases th with
  | non => exact ⟨_, rfl, _, _, "int", false, rfl, .non, kit_none_int _, _, rfl, iteF q⟩
  | str z => exact ⟨_, rfl, _, _, "int", false, rfl, .str _, kit_str_int _, _, rfl, iteF q⟩
  | lst e => exact ⟨_, rfl, _, _, "int", false, rfl, .lst e, kit_list_int _, _, rfl, iteF q⟩
  | tup e => exact ⟨_, rfl, _, _, "int", false, rfl, .tup e, kit_tuple_int _, _, rfl, iteF q⟩
  | dct e => exact ⟨_, rfl, _, _, "int", false, rfl, .dK e, kit_dict_int _, _, rfl, iteF q⟩
  | bl b =>
    refine ⟨_, rfl, _, _, "int", true, rfl, .bl _, kit_bool_int _, _, rfl, iteT ?_⟩
    exact ⟨_, rfl, _, _, "bool", true, rfl, .bl _, kit_same _ _, _, rfl, q⟩
  | int i =>
    refine ⟨_, rfl, _, .type "int", "int", true, rfl, .int _, kit_same _ _, _, rfl, iteT ?_⟩
    exact ⟨_, rfl, _, .type "int", "bool", false, rfl, .int _, kit_int_bool _, _, rfl, q⟩
def sp_below : Sp := fun vs H Q _ => ∃ (x : V) (n : Int), vs = [x, .int n] ∧ Thg H x ∧ Q (.bl (below x n)) H
theorem has_below (D : Df K mg "is_number_below" s_is_number_below) (B : Blt7 mg) (G_is_whole : Has P w K mg base "is_whole" k ["thing"] sp_whole) : Has P w K mg base "is_number_below" (k + 1) ["thing", "behind"] sp_below := by
  refine D.has sc_is_number_below (fun _ _ _ _ _ _ us hl => match us, hl with | [_, _], _ => rfl) (fun vs H Q E h => by obtain ⟨x, y, rfl, _⟩ := h; rfl) (fun f cdv A outer s H vs Q E hr h => ?_)
  obtain ⟨x, n, rfl, th, q⟩ := h
  refine ⟨_, (pss_one (ps_ret (pe_and (pe_callH G_is_whole hr rfl (pa_cons (pv 0) pa_nil)) (pe_one (pe_chain op_le op_lt pe_int (pv 0) (pv 1)))))), ?_⟩
  refine ⟨_, rfl, x, rfl, th, _, rfl, ?_⟩
  cases x with
  | int i =>
    refine iteT ⟨_, rfl, _, _, rfl, rfl, _, rfl, ite2 (fun c => ?_) (fun c => ?_)⟩
    · refine ⟨_, rfl, _, _, rfl, rfl, ?_⟩
      have q' : Q (.bl (decide (0 ≤ i) && decide (i < n))) H := q
      rw [c, Bool.true_and] at q'
      exact q'
    · have q' : Q (.bl (decide (0 ≤ i) && decide (i < n))) H := q
      rw [Bool.eq_false_iff.mpr c, Bool.false_and] at q'
      exact q'
  | _ => exact iteF q
theorem below_int {x : V} {n : Int} (h : below x n = true) : ∃ i, x = .int i ∧ 0 ≤ i ∧ i < n := by
  cases x with
  | int i =>
    have h' : (decide (0 ≤ i) && decide (i < n)) = true := h
    rw [Bool.and_eq_true] at h'
    exact ⟨i, rfl, of_decide_eq_true h'.1, of_decide_eq_true h'.2⟩
  | _ => cases h
def sp_kind (cP : Addr) : Sp := fun vs H Q _ => ∃ a : Addr, vs = [.ref a] ∧ H a = some (excO a cP) ∧ ∀ H', Same H H' → Q (.str "place") H'
theorem has_kind (EX : Exs K mg) (D : Df K mg "_law_kind" s_law_kind) (B : Blt7 mg) : Has P w K mg base "_law_kind" (k + 1) ["caught"] (sp_kind EX.c_NoPlace) := by
  refine D.has sc_law_kind (fun _ _ _ _ _ _ us hl => match us, hl with | [_], _ => rfl) (fun vs H Q E h => by obtain ⟨a, rfl, _⟩ := h; rfl) (fun f cdv A outer s H vs Q E hr h => ?_)
  obtain ⟨a, rfl, ha, q⟩ := h
  refine ⟨_, (pss_cons (ps_set (i := 1) sc_law_kind.nd rfl (by first | exact Or.inl rfl | exact Or.inr rfl) (pe_lst (pa_cons (pe_callB (call_isinstE K) rfl B.isinstance bt_isinstance (pa_cons (pv 0) (pa_cons (pe_glob (x := "NoPlace") (v := .ref EX.c_NoPlace) rfl EX.m_NoPlace rfl) pa_nil))) (pa_cons (pe_callB (call_isinstE K) rfl B.isinstance bt_isinstance (pa_cons (pv 0) (pa_cons (pe_glob (x := "NoNumber") (v := .ref EX.c_NoNumber) rfl EX.m_NoNumber rfl) pa_nil))) (pa_cons (pe_callB (call_isinstE K) rfl B.isinstance bt_isinstance (pa_cons (pv 0) (pa_cons (pe_glob (x := "NoWord") (v := .ref EX.c_NoWord) rfl EX.m_NoWord rfl) pa_nil))) pa_nil)))))
  (pss_cons (ps_set (i := 1) sc_law_kind.nd rfl (by first | exact Or.inl rfl | exact Or.inr rfl) (pe_op op_cat (pv 1) (pe_lst (pa_cons (pe_callB (call_isinstE K) rfl B.isinstance bt_isinstance (pa_cons (pv 0) (pa_cons (pe_glob (x := "NoText") (v := .ref EX.c_NoText) rfl EX.m_NoText rfl) pa_nil))) (pa_cons (pe_callB (call_isinstE K) rfl B.isinstance bt_isinstance (pa_cons (pv 0) (pa_cons (pe_glob (x := "TooMany") (v := .ref EX.c_TooMany) rfl EX.m_TooMany rfl) pa_nil))) (pa_cons (pe_callB (call_isinstE K) rfl B.isinstance bt_isinstance (pa_cons (pv 0) (pa_cons (pe_glob (x := "NoTree") (v := .ref EX.c_NoTree) rfl EX.m_NoTree rfl) pa_nil))) pa_nil))))))
  (pss_cons (ps_if (PW.pt (pw_or (pt_cmpR op_ne (pe_countB K (pv 1) pe_bl) pe_int (nomark _)) (pw_or1 (pt_not (pt_val (pe_callB (call_isinstEB K) rfl B.isinstance bt_isinstance (pa_cons (pv 0) (pa_cons (pe_bltn (v := .ty "ValueError") rfl B.ValueError_ bt_ValueError rfl) pa_nil))))))))
  (pss_one (ps_ret pe_str))
  pss_nil)
  (pss_one (ps_ret (pe_ix ix_list (pe_lst (pa_cons pe_str (pa_cons pe_str (pa_cons pe_str (pa_cons pe_str (pa_cons pe_str (pa_cons pe_str pa_nil))))))) (pe_indexT K (pv 1) pe_bl) (fun _ _ => rfl))))))), ?_⟩
  refine ⟨_, rfl, a, EX.c_NoPlace, _, true, rfl, ha, EX.z_NoPlace, EX.p0, _, rfl, a, EX.c_NoPlace, _, false, rfl, ha, EX.z_NoPlace, EX.p1, _, rfl, a, EX.c_NoPlace, _, false, rfl, ha, EX.z_NoPlace, EX.p2, (by show 3 ≤ sizeLine; decide), fun l1 hl1 => ?_⟩
  have s1 : Same H (upd H l1 (.lst [.bl true, .bl false, .bl false])) := (Same.refl H).new hl1
  have h1 : upd H l1 (.lst [.bl true, .bl false, .bl false]) l1 = some (.lst [.bl true, .bl false, .bl false]) := upd_same
  show (fun HH => _) (upd H l1 (.lst [.bl true, .bl false, .bl false]))
  generalize upd H l1 (.lst [.bl true, .bl false, .bl false]) = H1 at s1 h1
  have ha1 := s1 _ _ ha
  refine ⟨_, rfl, _, rfl, a, EX.c_NoPlace, _, false, rfl, ha1, EX.z_NoPlace, EX.p3, _, rfl, a, EX.c_NoPlace, _, false, rfl, ha1, EX.z_NoPlace, EX.p4, _, rfl, a, EX.c_NoPlace, _, false, rfl, ha1, EX.z_NoPlace, EX.p5, (by show 3 ≤ sizeLine; decide), fun l2 hl2 => ?_⟩
  have s2 : Same H1 (upd H1 l2 (.lst [.bl false, .bl false, .bl false])) := (Same.refl H1).new hl2
  have h2 : upd H1 l2 (.lst [.bl false, .bl false, .bl false]) l2 = some (.lst [.bl false, .bl false, .bl false]) := upd_same
  show (fun HH => _) (upd H1 l2 (.lst [.bl false, .bl false, .bl false]))
  generalize upd H1 l2 (.lst [.bl false, .bl false, .bl false]) = H2 at s2 h2
  refine ⟨l1, l2, _, _, rfl, rfl, s2 _ _ h1, h2, (by show 6 ≤ sizeLine; decide), fun l3 hl3 => ?_⟩
  have s3 : Same H2 (upd H2 l3 (.lst ([.bl true, .bl false, .bl false] ++ [.bl false, .bl false, .bl false]))) := (Same.refl H2).new hl3
  have h3 : upd H2 l3 (.lst ([.bl true, .bl false, .bl false] ++ [.bl false, .bl false, .bl false])) l3 = some (.lst ([true, false, false, false, false, false].map V.bl)) := upd_same
  show (fun HH => _) (upd H2 l3 (.lst ([.bl true, .bl false, .bl false] ++ [.bl false, .bl false, .bl false])))
  generalize upd H2 l3 (.lst ([.bl true, .bl false, .bl false] ++ [.bl false, .bl false, .bl false])) = H3 at s3 h3
  refine ⟨_, rfl, .inl ⟨rfl, _, SqL.of h3⟩, l3, [true, false, false, false, false, false], true, rfl, rfl, h3, rfl, _, rfl, iteNS (by rfl) ?_⟩
  refine ⟨_, rfl, a, EX.c_NoPlace, "ValueError", true, rfl, s3 _ _ (s2 _ _ ha1), EX.z_NoPlace, EX.pv, _, rfl, iteF ?_⟩
  refine ⟨(by show 6 ≤ sizeLine; decide), fun lr hlr => ?_⟩
  have s4 : Same H3 (upd H3 lr (.lst [.str "place", .str "number", .str "word", .str "text", .str "many", .str "tree"])) := (Same.refl H3).new hlr
  refine ⟨_, rfl, .inl ⟨rfl, _, SqL.of (s4 _ _ h3)⟩, l3, [true, false, false, false, false, false], true, rfl, rfl, s4 _ _ h3, by simp, (by show 6 ≤ 10000; decide), ?_⟩
  refine ⟨lr, _, _, .str "place", rfl, rfl, SqL.of upd_same, rfl, ?_⟩
  exact q _ (((s1.trans s2).trans s3).trans s4)
end
end S48
namespace S48
open PySem L2 W7
def wd (net : List Knot) (k n : Nat) : List Nat := ((W48.way net k n).map (lt net)).reverse
section
variable {P : Program} {w : World} {K : PySem.W.Frag} {mg : Str → Option Value} {base : Heap} {k : Nat}
theorem sz_nat (net : List Knot) (k : Nat) : W47.sz net k = ((W48.szN net k : Nat) : Int) := rfl
theorem ones_str (l : List Nat) : oneV l = (l.map fun c => (⟨#[c]⟩ : Str)).map V.str := by unfold oneV; rw [List.map_map]; rfl
theorem oneV_rev (l : List Nat) : (oneV l).reverse = oneV l.reverse := by unfold oneV; rw [List.map_reverse]
theorem way_len {net : List Knot} (N : W47.Net net) : ∀ (q k : Nat), k < q → ∀ n, n < W48.szN net k → (W48.way net k n).length ≤ k + 1
  | 0, _, hq, _, _ => absurd hq (Nat.not_lt_zero _)
  | q + 1, k, hq, n, hn => by
    cases n with
    | zero => show 1 ≤ _; omega
    | succ m =>
      rw [W48.way_succ N hn, List.length_cons]
      rw [W48.szN_eq N] at hn
      have p := W48.pick_ok (net := net) (W47.bel net k) m (by omega)
      have l := N.at' k _ p.1
      have := way_len N q _ (by omega) _ p.2
      omega
def sp_win (cP : Addr) : Sp := fun vs H Q E => ∃ (t : Addr) (net : List Knot) (x : V), vs = [.ref t, x] ∧ NetAt H t net ∧ NetOk net ∧ Thg H x ∧
  (∀ n : Nat, x = .int (n : Int) → n < W48.szN net (net.length - 1) → ∀ H', Same H H' → Q (.str (mk (wd net (net.length - 1) n))) H') ∧ (below x (W47.sz net (net.length - 1)) = false → ∀ a H', Same H H' → H' a = none → E (.ref a) (some cP) H')
theorem has_win (EX : Exs K mg) (D : Df K mg "word_in" s_word_in) (B : Blt7 mg) (G_sizes_of : Has P w K mg base "sizes_of" k ["net"] sp_sizes) (G_is_number_below : Has P w K mg base "is_number_below" k ["thing", "behind"] sp_below) : HasX P w K mg base "word_in" (k + 1) ["net", "place"] (sp_win EX.c_NoPlace) := by
  refine D.hasX sc_word_in (fun _ _ _ _ _ _ us hl => match us, hl with | [_, _], _ => rfl) (fun vs H Q E h => by obtain ⟨t, net, x, rfl, _⟩ := h; rfl) (fun f cdv A outer s H vs Q E hr h => ?_)
  obtain ⟨t, net, x, rfl, na, ok, th, q, qe⟩ := h
  refine ⟨_, (pss_cons (ps_set (i := 2) sc_word_in.nd rfl (by first | exact Or.inl rfl | exact Or.inr rfl) (pe_callH G_sizes_of hr rfl (pa_cons (pv 0) pa_nil)))
  (pss_cons (ps_if (pt_not (pt_val (pe_callH G_is_number_below hr rfl (pa_cons (pv 1) (pa_cons (pe_ix ix_list (pv 2) (pe_un un_neg pe_int) (fun _ _ => rfl)) pa_nil)))))
  (pss_one (ps_raise raises_cx EX.m_NoPlace EX.q_NoPlace rfl (pa_cons pe_str pa_nil)))
  pss_nil)
  (pss_cons (ps_set (i := 3) sc_word_in.nd rfl (by first | exact Or.inl rfl | exact Or.inr rfl) (pe_lst (pa_cons (pe_ix ix_tup (pe_ix ix_tup (pv 0) (pe_un un_neg pe_int) (fun _ _ => rfl)) pe_int (fun _ _ => rfl)) pa_nil)))
  (pss_cons (ps_set (i := 4) sc_word_in.nd rfl (by first | exact Or.inl rfl | exact Or.inr rfl) (pe_ix ix_tup (pe_ix ix_tup (pv 0) (pe_un un_neg pe_int) (fun _ _ => rfl)) pe_int (fun _ _ => rfl)))
  (pss_cons (ps_set (i := 5) sc_word_in.nd rfl (by first | exact Or.inl rfl | exact Or.inr rfl) (pv 1))
  (pss_cons (ps_while PassesOwn.leaving (pt_cmpR op_gt (pv 5) pe_int (nomark _))
  (pss_cons (ps_aug (i := 5) sc_word_in.nd rfl (by first | exact Or.inl rfl | exact Or.inr rfl) pe_int ip_sub)
  (pss_cons (ps_for PassesOwn.leaving rfl (pi_tup (pv 4)) (pg_name (i := 6) sc_word_in.nd rfl (by first | exact Or.inl rfl | exact Or.inr rfl))
  (pss_cons (ps_if (pt_cmpR op_lt (pv 5) (pe_ix ix_list (pv 2) (pv 6) (fun _ _ => rfl)) (nomark _))
  (pss_one ps_break)
  pss_nil)
  (pss_one (ps_aug (i := 5) sc_word_in.nd rfl (by first | exact Or.inl rfl | exact Or.inr rfl) (pe_ix ix_list (pv 2) (pv 6) (fun _ _ => rfl)) ip_sub))))
  (pss_cons (ps_expr (pe_bm PySem.F.plainAttrs_list PySem.F.slot_list_append PySem.F.type_list_append mt_append (pv 3) (pa_cons (pe_ix ix_tup (pe_ix ix_tup (pv 0) (pv 6) (fun _ _ => rfl)) pe_int (fun _ _ => rfl)) pa_nil)))
  (pss_one (ps_set (i := 4) sc_word_in.nd rfl (by first | exact Or.inl rfl | exact Or.inr rfl) (pe_ix ix_tup (pe_ix ix_tup (pv 0) (pv 6) (fun _ _ => rfl)) pe_int (fun _ _ => rfl))))))))
  (pss_one (ps_ret (pe_bm PySem.F.plainAttrs_str PySem.F.slot_str_join PySem.F.type_str_join mt_join pe_str (pa_cons (pe_revL K (pv 3) (po_some (pe_un un_neg pe_int))) pa_nil)))))))))), ?_⟩
  have N := ok.net
  have pos := ok.pos
  have l60 := ok.most
  obtain ⟨as, hkn, al, hat⟩ := knots_at na ok
  have asl : (as.map V.ref).length = net.length := by rw [List.length_map, al]
  refine ⟨_, rfl, t, net, rfl, na, ok, fun r H1 fr s1 h1 => ?_⟩
  refine ⟨_, rfl, _, rfl, _, rfl, r, _, _, _, rfl, rfl, SqL.of h1, szV_last pos, x, _, rfl, th.same s1, _, rfl, ?_⟩
  cases eb : below x (W47.sz net (net.length - 1)) with
  | false => exact iteT ⟨(by show 1 ≤ sizeLine; decide), fun a ha => qe eb a H1 s1 ha⟩
  | true =>
    refine iteF ?_
    obtain ⟨i, rfl, i0, i1⟩ := below_int eb
    obtain ⟨n, rfl⟩ : ∃ n : Nat, i = (n : Int) := ⟨i.toNat, by omega⟩
    have nlt : n < W48.szN net (net.length - 1) := by rw [sz_nat] at i1; omega
    have knot : ∀ r, r < net.length → ∃ ar cc, as[r]? = some ar ∧ H ar = some (.tup [.str ⟨#[lt net r]⟩, .ref cc]) ∧ H cc = some (.tup (natV (W47.bel net r))) := fun r hr => by
      have ra : as[r]? = some (as[r]'(by omega)) := List.getElem?_eq_getElem (by omega)
      obtain ⟨cc, a, b⟩ := hat r _ ra
      exact ⟨_, cc, ra, a, b⟩
    obtain ⟨ar, cc, ra, hk1, hk2⟩ := knot (net.length - 1) (by omega)
    have hix : atI (as.map V.ref) (-1) = some (.ref ar) := by
      unfold atI
      rw [asl, ixN_last pos]
      show (as.map V.ref)[net.length - 1]? = _
      rw [List.getElem?_map, ra]; rfl
    refine ⟨_, rfl, _, rfl, t, _, _, _, rfl, rfl, SqT.of (s1 _ _ hkn), hix, ar, _, _, _, rfl, rfl, SqT.of (s1 _ _ hk1), rfl, (by show 1 ≤ sizeLine; decide), fun l hl => ?_⟩
    have fl : H l = none := s1.free hl
    have rl : r ≠ l := ne_of_none h1 hl
    have s2 : Same H1 (upd H1 l (.lst [.str ⟨#[lt net (net.length - 1)]⟩])) := (Same.refl H1).new hl
    have h2 : upd H1 l (.lst [.str ⟨#[lt net (net.length - 1)]⟩]) l = some (.lst (oneV [lt net (net.length - 1)])) := upd_same
    show (fun HH => _) (upd H1 l (.lst [.str ⟨#[lt net (net.length - 1)]⟩]))
    generalize upd H1 l (.lst [.str ⟨#[lt net (net.length - 1)]⟩]) = H2 at s2 h2
    have s12 := s1.trans s2
    refine ⟨_, rfl, _, rfl, t, _, _, _, rfl, rfl, SqT.of (s12 _ _ hkn), hix, ar, _, _, _, rfl, rfl, SqT.of (s12 _ _ hk1), rfl, ?_⟩
    refine ⟨_, rfl, ?_⟩
    dsimp only [gName]
    refine while_by (fun σ HX => ∃ (c m : Nat) (ls : List Nat) (cc : Addr) (o6 : Option V), σ = [some (.ref t), some (.int (n : Int)), some (.ref r), some (.ref l), some (.ref cc), some (.int (m : Int)), o6] ∧ c < net.length ∧ m < W48.szN net c ∧ H cc = some (.tup (natV (W47.bel net c))) ∧ Same H HX ∧ HX r = some (.lst (szV net net.length)) ∧ HX l = some (.lst (oneV (ls ++ [lt net c]))) ∧ ls.length + c < net.length ∧ ls ++ (W48.way net c m).map (lt net) = (W48.way net (net.length - 1) n).map (lt net))
      (fun σ HX => match σ with | [_, _, _, _, _, some (.int m), _] => m.toNat | _ => 0) ⟨net.length - 1, n, [], cc, none, rfl, by omega, nlt, hk2, s12, s2 _ _ h1, h2, by show 0 + _ < _; omega, rfl⟩ ?_ ?_
    · rintro σ HX ⟨c, m, ls, cc, o6, rfl, cl, ml, hcc, sX, hrX, hlX, lsl, wy⟩
      refine ⟨_, rfl, _, _, rfl, rfl, _, rfl, ite2 (fun cnd => ?_) (fun cnd => ?_)⟩
      · have m0 : 0 < m := by have := of_decide_eq_true cnd; omega
        obtain ⟨m', rfl⟩ : ∃ m', m = m' + 1 := ⟨m - 1, by omega⟩
        have msum : m' < W48.sumN net (W47.bel net c) := by rw [W48.szN_eq N] at ml; omega
        refine ⟨_, rfl, _, _, rfl, rfl, ?_⟩
        dsimp only [gName]
        rw [show (((m' + 1 : Nat)) : Int) - 1 = (m' : Int) by omega]
        refine mid (fun σ HY => ∃ (lo x : Nat), σ = [some (.ref t), some (.int (n : Int)), some (.ref r), some (.ref l), some (.ref cc), some (.int (x : Int)), some (.int (lo : Int))] ∧ HY = HX ∧ lo ∈ W47.bel net c ∧ x < W48.szN net lo ∧ W48.pick net (W47.bel net c) m' = (lo, x)) ?_ fun E nx => ?_
        rotate_left
        · refine ⟨_, rfl, cc, rfl, ⟨_, SqT.of (sX _ _ hcc)⟩, ?_⟩
          refine for_tup (K := K) (xs := natV (W47.bel net c)) (fun j σ HY => ∃ (rem : Nat) (o6 : Option V), σ = [some (.ref t), some (.int (n : Int)), some (.ref r), some (.ref l), some (.ref cc), some (.int (rem : Int)), o6] ∧ HY = HX ∧ m' = W48.sumN net ((W47.bel net c).take j) + rem) ⟨m', o6, rfl, rfl, by show m' = 0 + m'; omega⟩ (fun j σ HY _ h => by obtain ⟨_, _, _, rfl, _⟩ := h; exact SqT.of (sX _ _ hcc)) ?_ ?_
          · rintro j xv σ HY hx ⟨rem, o6', rfl, rfl, em⟩
            unfold natV at hx
            rw [List.getElem?_map] at hx
            cases ex : (W47.bel net c)[j]? with
            | none => rw [ex] at hx; cases hx
            | some lo =>
              rw [ex] at hx
              cases hx
              have lom := List.mem_of_getElem? ex
              have lol := N.at' c _ lom
              refine ⟨_, rfl, _, rfl, _, rfl, r, _, _, _, rfl, rfl, SqL.of hrX, szV_at (by omega) (by omega), ?_⟩
              rw [Int.toNat_natCast, sz_nat]
              refine ⟨_, _, rfl, rfl, _, rfl, ite2 (fun cnd => ?_) (fun cnd => ?_)⟩
              · have c2 : rem < W48.szN net lo := by have := of_decide_eq_true cnd; omega
                exact nx _ _ ⟨lo, rem, rfl, rfl, lom, c2, by rw [em]; exact W48.pick_at _ _ _ _ ex c2⟩
              · have c2 : W48.szN net lo ≤ rem := by
                  rcases Nat.lt_or_ge rem (W48.szN net lo) with z | z
                  · exact absurd (decide_eq_true (show (rem : Int) < ((W48.szN net lo : Nat) : Int) by omega)) cnd
                  · exact z
                refine ⟨_, rfl, _, rfl, _, rfl, r, _, _, _, rfl, rfl, SqL.of hrX, szV_at (by omega) (by omega), ?_⟩
                rw [Int.toNat_natCast, sz_nat]
                refine ⟨_, _, rfl, rfl, ?_⟩
                refine ⟨rem - W48.szN net lo, some (.int (lo : Int)), ?_, rfl, ?_⟩
                · show [some (V.ref t), some (.int (n : Int)), some (.ref r), some (.ref l), some (.ref cc), some (.int ((rem : Int) - ((W48.szN net lo : Nat) : Int))), some (.int (lo : Int))] = _
                  rw [show (rem : Int) - ((W48.szN net lo : Nat) : Int) = ((rem - W48.szN net lo : Nat) : Int) by omega]
                have ts : W48.sumN net ((W47.bel net c).take (j + 1)) = W48.sumN net ((W47.bel net c).take j) + W48.szN net lo := by
                  unfold W48.sumN
                  rw [List.take_succ, ex, List.map_append, List.sum_append]
                  simp
                rw [ts]; omega
          · rintro σ HY ⟨rem, o6', rfl, rfl, em⟩
            rw [natV_len, List.take_length] at em
            omega
        rintro σ HY ⟨lo, x, rfl, rfl, lom, xl, pk⟩
        have lol := N.at' c _ lom
        obtain ⟨al', cc', ra', hk1', hk2'⟩ := knot lo (by omega)
        have hix' := atI_nat (xs := as.map V.ref) (j := lo) (v := .ref al') (by rw [List.getElem?_map, ra']; rfl)
        refine ⟨_, rfl, .inl ⟨rfl, _, SqL.of hlX⟩, _, rfl, _, rfl, t, _, _, _, rfl, rfl, SqT.of (sX _ _ hkn), hix', al', _, _, _, rfl, rfl, SqT.of (sX _ _ hk1'), rfl, l, _, _, rfl, rfl, hlX, by rw [oneV_len, List.length_append]; exact small1000 (by show _ + 1 ≤ 1000; omega), ?_⟩
        have sY : Same H (upd HY l (.lst (oneV (ls ++ [lt net c]) ++ [.str ⟨#[lt net lo]⟩]))) := sX.write fl
        have hY : upd HY l (.lst (oneV (ls ++ [lt net c]) ++ [.str ⟨#[lt net lo]⟩])) l = some (.lst (oneV ((ls ++ [lt net c]) ++ [lt net lo]))) := by rw [upd_same]; unfold oneV; rw [List.map_append (l₂ := [lt net lo])]; rfl
        have rY : upd HY l (.lst (oneV (ls ++ [lt net c]) ++ [.str ⟨#[lt net lo]⟩])) r = some (.lst (szV net net.length)) := by rw [upd_ne rl]; exact hrX
        show (fun HH => _) (upd HY l (.lst (oneV (ls ++ [lt net c]) ++ [.str ⟨#[lt net lo]⟩])))
        generalize upd HY l (.lst (oneV (ls ++ [lt net c]) ++ [.str ⟨#[lt net lo]⟩])) = HZ at sY hY rY
        refine ⟨_, rfl, _, rfl, t, _, _, _, rfl, rfl, SqT.of (sY _ _ hkn), hix', al', _, _, _, rfl, rfl, SqT.of (sY _ _ hk1'), rfl, ?_⟩
        refine ⟨⟨lo, x, ls ++ [lt net c], cc', _, rfl, by omega, xl, hk2', sY, rY, hY, by rw [List.length_append]; show _ + 1 + _ < _; omega, ?_⟩, ?_⟩
        · rw [← wy, W48.way_succ N ml, pk, List.map_cons, List.append_assoc]; rfl
        · show ((x : Int)).toNat < (((m' + 1 : Nat)) : Int).toNat
          have := W48.pick_inv (net := net) _ _ msum
          obtain ⟨tt, _, e2⟩ := this
          rw [pk] at e2
          have e2 : m' = W48.sumN net ((W47.bel net c).take tt) + x := e2
          omega
      · have m0 : m = 0 := by
          rcases Nat.eq_zero_or_pos m with z | z
          · exact z
          · exact absurd (decide_eq_true (show (m : Int) > 0 by omega)) cnd
        subst m0
        have fin : ls ++ [lt net c] = (W48.way net (net.length - 1) n).map (lt net) := wy
        have wl := way_len N _ _ (Nat.lt_succ_self (net.length - 1)) n nlt
        refine ⟨rfl, _, rfl, _, rfl, _, rfl, l, _, rfl, rfl, SqL.of hlX, fun r5 hr5 => ?_⟩
        have rv : (oneV (ls ++ [lt net c])).reverse = ((wd net (net.length - 1) n).map fun c => (⟨#[c]⟩ : Str)).map V.str := by
          rw [fin, oneV_rev, ones_str]; rfl
        rw [rv]
        have s5 : Same HX (upd HX r5 (.lst (((wd net (net.length - 1) n).map fun c => (⟨#[c]⟩ : Str)).map V.str))) := (Same.refl HX).new hr5
        have wdl : (wd net (net.length - 1) n).length ≤ 60 := by unfold wd; rw [List.length_reverse, List.length_map]; omega
        refine ⟨_, r5, _, rfl, rfl, SqL.of upd_same, ?_, ?_⟩
        · rw [ones_sum, List.length_map]
          show _ + _ * 0 ≤ _
          exact Nat.le_of_lt (small1000 (by omega))
        rw [join_mk]
        exact q n rfl nlt _ (sX.trans s5)
    · intro σ HX Q1 Q2 hq h
      obtain ⟨v, e, i, j, e1, e2, kk, e3, h⟩ := h
      exact ⟨v, e, i, j, e1, e2, kk, e3, hq _ _ h⟩
end
end S48
namespace S48
open PySem L2 W7
section
variable {P : Program} {w : World} {K : PySem.W.Frag} {mg : Str → Option Value} {base : Heap} {k : Nat}
def sp_far : Sp := fun vs H Q _ => ∃ (p : Addr) (m c : Int), vs = [.ref p, .int m] ∧ Deck H p c ∧ 0 ≤ c ∧ c < 900000 ∧ 0 < m ∧ ∀ (n : Int) (H' : Hp), 0 ≤ n → n < m → Kd p (c + 8) H H' → Q (.int n) H'
theorem has_far (D : Df K mg "_law_far" s_law_far) (B : Blt7 mg) (G_law_draw : Has P w K mg base "_law_draw" k ["store", "many"] sp_draw) : Has P w K mg base "_law_far" (k + 1) ["store", "many"] sp_far := by
  refine D.has sc_law_far (fun _ _ _ _ _ _ us hl => match us, hl with | [_, _], _ => rfl) (fun vs H Q E h => by obtain ⟨p, m, c, rfl, _⟩ := h; rfl) (fun f cdv A outer s H vs Q E hr h => ?_)
  obtain ⟨p, m, c, rfl, dk, c0, c9, m0, q⟩ := h
  refine ⟨_, (pss_cons (ps_set (i := 2) sc_law_far.nd rfl (by first | exact Or.inl rfl | exact Or.inr rfl) pe_int)
  (pss_cons (ps_for PassesOwn.never rfl (pi_range1 rfl B.range (pa_cons pe_int pa_nil)) (pg_name (i := 3) sc_law_far.nd rfl (by first | exact Or.inl rfl | exact Or.inr rfl))
  (pss_one (ps_set (i := 2) sc_law_far.nd rfl (by first | exact Or.inl rfl | exact Or.inr rfl) (pe_op op_add (pe_op op_mul (pv 2) (pe_op op_pow pe_int pe_int)) (pe_callH G_law_draw hr rfl (pa_cons (pv 0) (pa_cons (pe_op op_pow pe_int pe_int) pa_nil)))))))
  (pss_one (ps_ret (pe_op op_mod (pv 2) (pv 1)))))), ?_⟩
  refine ⟨8, rfl, by decide, by decide, ?_⟩
  refine for_range (lo := 0) (n := (8 : Int).toNat) (fun i σ HX => ∃ (x : Int) (o3 : Option V), σ = [some (.ref p), some (.int m), some (.int x), o3] ∧ Kd p (c + i) H HX) ⟨0, none, rfl, (Kd.refl dk).mono (by omega)⟩ ?_ ?_
  · rintro i σ HX hi ⟨x, o3, rfl, kd⟩
    have hi : i < 8 := hi
    refine ⟨_, rfl, _, _, rfl, rfl, ⟨by decide, by decide, by decide⟩, _, _, rfl, rfl, .inr ⟨by decide, by decide⟩, _, rfl, _, _, rfl, rfl, ⟨by decide, by decide, by decide⟩, p, _, _, rfl, kd.deck, by omega, by decide, by decide, fun n G n0 n1 e => ?_⟩
    exact ⟨_, _, rfl, rfl, _, _, rfl, (kd.trans e).mono (by omega)⟩
  · rintro σ HX ⟨x, o3, rfl, kd⟩
    refine ⟨_, rfl, _, rfl, _, _, rfl, rfl, m0, ?_⟩
    exact q _ HX (Int.emod_nonneg _ (by omega)) (Int.emod_lt_of_pos _ m0) (kd.mono (by show c + ((8 : Nat) : Int) ≤ _; omega))
def toldV (x : Str) : List V := [.str "told", .str x]
def sp_told : Sp := fun vs H Q _ => ∃ (t : Addr) (net : List Knot) (x : V), vs = [.ref t, x] ∧ NetAt H t net ∧ NetOk net ∧ Thg H x ∧
  ((∃ n : Nat, x = .int (n : Int) ∧ n < W48.szN net (net.length - 1) ∧ ∀ (r : Addr) (H' : Hp), Same H H' → H' r = some (.lst (toldV (mk (wd net (net.length - 1) n)))) → Q (.ref r) H') ∨
   (below x (W47.sz net (net.length - 1)) = false ∧ ∀ (r : Addr) (H' : Hp), Same H H' → H' r = some (.lst [.str "refused", .str "place"]) → Q (.ref r) H'))
theorem has_told (EX : Exs K mg) (D : Df K mg "_law_told" s_law_told) (B : Blt7 mg) (G_word_in : HasX P w K mg base "word_in" k ["net", "place"] (sp_win EX.c_NoPlace)) (G_law_kind : Has P w K mg base "_law_kind" k ["caught"] (sp_kind EX.c_NoPlace)) : Has P w K mg base "_law_told" (k + 1) ["net", "number"] sp_told := by
  refine D.has sc_law_told (fun _ _ _ _ _ _ us hl => match us, hl with | [_, _], _ => rfl) (fun vs H Q E h => by obtain ⟨t, net, x, rfl, _⟩ := h; rfl) (fun f cdv A outer s H vs Q E hr h => ?_)
  obtain ⟨t, net, x, rfl, na, ok, th, q⟩ := h
  refine ⟨_, (pss_cons (ps_set (i := 2) sc_law_told.nd rfl (by first | exact Or.inl rfl | exact Or.inr rfl) pe_non)
  (pss_cons (ps_set (i := 3) sc_law_told.nd rfl (by first | exact Or.inl rfl | exact Or.inr rfl) pe_non)
  (pss_cons (ps_try (fun pn xe E σ0 hx => (pss_one (ps_set (i := 2) sc_law_told.nd rfl (by first | exact Or.inl rfl | exact Or.inr rfl) (pe_callX G_word_in hx hr rfl (pa_cons (pv 0) (pa_cons (pv 1) pa_nil))))))
  (ph_as rfl EX.m_UpError sc_law_told.nd (i := 4) rfl rfl (fun a => (pss_one (ps_set (i := 3) sc_law_told.nd rfl (by first | exact Or.inl rfl | exact Or.inr rfl) (pv 4))))))
  (pss_one (ps_ret (pe_ifExp (pt_cmpR op_isN (pv 3) pe_non (nomark _)) (pe_lst (pa_cons pe_str (pa_cons (pv 2) pa_nil))) (pe_lst (pa_cons pe_str (pa_cons (pe_callH G_law_kind hr rfl (pa_cons (pv 3) pa_nil)) pa_nil))))))))), ?_⟩
  refine ⟨rfl, _, rfl, _, rfl, t, net, x, rfl, na, ok, th, fun n en nl H1 s1 => ?_, fun eb a H1 s1 ha => ?_⟩
  · refine ⟨_, rfl, rfl, _, rfl, iteT ?_⟩
    refine ⟨_, rfl, (by show 2 ≤ sizeLine; decide), fun r hr0 => ?_⟩
    have s2 : Same H1 (upd H1 r (.lst (toldV (mk (wd net (net.length - 1) n))))) := (Same.refl H1).new hr0
    rcases q with ⟨n', en', _, q⟩ | ⟨eb, _⟩
    · have : n' = n := by rw [en] at en'; injection en' with e; omega
      subst this
      exact q r _ (s1.trans s2) upd_same
    · exfalso
      rw [en] at eb
      have eb' : (decide (0 ≤ (n : Int)) && decide ((n : Int) < W47.sz net (net.length - 1))) = false := eb
      rw [decide_eq_true (by omega), decide_eq_true (by rw [sz_nat]; omega)] at eb'
      cases eb'
  · refine ⟨a, EX.c_NoPlace, rfl, rfl, EX.u_NoPlace, ?_⟩
    have sA : Same H (upd H1 a (excO a EX.c_NoPlace)) := s1.new ha
    have hA : upd H1 a (excO a EX.c_NoPlace) a = some (excO a EX.c_NoPlace) := upd_same
    generalize upd H1 a (excO a EX.c_NoPlace) = HA at sA hA
    refine ⟨_, rfl, ?_⟩
    refine ⟨_, rfl, rfl, _, rfl, iteF ?_⟩
    refine ⟨_, rfl, a, rfl, hA, fun H2 s2 => ?_⟩
    refine ⟨(by show 2 ≤ sizeLine; decide), fun r hr0 => ?_⟩
    have s3 : Same H2 (upd H2 r (.lst [.str "refused", .str "place"])) := (Same.refl H2).new hr0
    rcases q with ⟨n', en', nl', _⟩ | ⟨_, q⟩
    · exfalso
      rw [en'] at eb
      have eb' : (decide (0 ≤ (n' : Int)) && decide ((n' : Int) < W47.sz net (net.length - 1))) = false := eb
      rw [decide_eq_true (by omega), decide_eq_true (by rw [sz_nat]; omega)] at eb'
      cases eb'
    · exact q r _ ((sA.trans s2).trans s3) upd_same
theorem wd_good {net : List Knot} (N : W47.Net net) {m : Nat} (hm : m < Ln net) : ∃ (a : Int) (r : Nat), (Us net (Ln net))[m]? = some a ∧ (Ks net (Ln net))[m]? = some r ∧ ((a = -1 ∧ wd net (net.length - 1) m = [lt net r]) ∨ ∃ b : Nat, a = (b : Int) ∧ b < m ∧ wd net (net.length - 1) m = lt net r :: wd net (net.length - 1) b) := by
  obtain ⟨a, r, x, y, g⟩ := (W48.run_way N (Ln net) (Nat.le_refl _)).2 m hm
  refine ⟨a, r, x, y, ?_⟩
  rcases g with ⟨e, g⟩ | ⟨b, e, l, g⟩
  · left
    refine ⟨e, ?_⟩
    unfold wd
    rw [show W48.way net (net.length - 1) m = [r] from g]; rfl
  · right
    refine ⟨b, e, l, ?_⟩
    unfold wd
    rw [show W48.way net (net.length - 1) m = W48.way net (net.length - 1) b ++ [r] from g, List.map_append, List.reverse_append]; rfl
def wdV (net : List Knot) (i : Nat) : List V := (List.range i).map fun m => .str (mk (wd net (net.length - 1) m))
theorem wdV_len (net : List Knot) (i : Nat) : (wdV net i).length = i := by unfold wdV; simp
theorem wdV_succ (net : List Knot) (i : Nat) : wdV net (i + 1) = wdV net i ++ [.str (mk (wd net (net.length - 1) i))] := by unfold wdV; rw [List.range_succ, List.map_append]; rfl
theorem wdV_at {net : List Knot} {i m : Nat} (h : m < i) : atI (wdV net i) ((m : Nat) : Int) = some (.str (mk (wd net (net.length - 1) m))) := atI_nat (by unfold wdV; rw [List.getElem?_map, List.getElem?_range h]; rfl)
def sp_words : Sp := fun vs H Q _ => ∃ (a b : Addr) (net : List Knot), vs = [.ref a, .ref b] ∧ NetOk net ∧ Ln net ≤ 300 ∧ H a = some (.lst ((Us net (Ln net)).map V.int)) ∧ H b = some (.lst (oneV (Ls net (Ln net)))) ∧ ∀ (r : Addr) (H' : Hp), H r = none → Same H H' → H' r = some (.lst (wdV net (Ln net))) → Q (.ref r) H'
theorem has_words (D : Df K mg "_law_words" s_law_words) (B : Blt7 mg) : Has P w K mg base "_law_words" (k + 1) ["ups", "labels"] sp_words := by
  refine D.has sc_law_words (fun _ _ _ _ _ _ us hl => match us, hl with | [_, _], _ => rfl) (fun vs H Q E h => by obtain ⟨a, b, net, rfl, _⟩ := h; rfl) (fun f cdv A outer s H vs Q E hr h => ?_)
  obtain ⟨a, b, net, rfl, ok, l3, ha, hb, q⟩ := h
  refine ⟨_, (pss_cons (ps_set (i := 2) sc_law_words.nd rfl (by first | exact Or.inl rfl | exact Or.inr rfl) (pe_lst pa_nil))
  (pss_cons (ps_for PassesOwn.never rfl (pi_enum rfl B.enumerate (pa_cons (pv 0) pa_nil)) (pg_tup rfl (pgs_cons (pg_name (i := 3) sc_law_words.nd rfl (by first | exact Or.inl rfl | exact Or.inr rfl)) (pgs_cons (pg_name (i := 4) sc_law_words.nd rfl (by first | exact Or.inl rfl | exact Or.inr rfl)) pgs_nil)))
  (pss_one (ps_expr (pe_bm PySem.F.plainAttrs_list PySem.F.slot_list_append PySem.F.type_list_append mt_append (pv 2) (pa_cons (pe_ifExp (pt_cmpR (op_ne_lst hr.units0) (pv 2) (pe_lst pa_nil) (nomark _)) (pe_op op_add_str (pe_ix ix_list (pv 1) (pv 3) (fun _ _ => rfl)) (pe_ix ix_list (pe_lst (pa_cons (pe_ix ix_list (pv 2) (pe_callB (call_max2 rfl) rfl B.max bt_max (pa_cons pe_int (pa_cons (pv 4) pa_nil))) (fun _ _ => rfl)) (pa_cons pe_str pa_nil))) (pe_callTy call_int1 rfl B.int_ bt_int (pa_cons (pe_cmpR op_lt (pv 4) pe_int (nomark _)) pa_nil)) (fun _ _ => rfl))) (pe_ix ix_list (pv 1) (pv 3) (fun _ _ => rfl))) pa_nil)))))
  (pss_one (ps_ret (pv 2))))), ?_⟩
  have N := ok.net
  have ul := Us_len N (Nat.le_refl (Ln net))
  have wl : ∀ m, m < Ln net → (wd net (net.length - 1) m).length ≤ 60 := fun m hm => by
    have := way_len N _ _ (Nat.lt_succ_self (net.length - 1)) m hm
    have := ok.most
    have := ok.pos
    unfold wd; rw [List.length_reverse, List.length_map]; omega
  refine ⟨(by show 0 ≤ sizeLine; decide), fun r hr0 => ?_⟩
  have s0 : Same H (upd H r (.lst [])) := (Same.refl H).new hr0
  have h0 : upd H r (.lst []) r = some (.lst []) := upd_same
  generalize upd H r (.lst []) = H0 at s0 h0
  refine ⟨_, rfl, .lst a, rfl, ⟨_, .inl (s0 _ _ ha)⟩, ?_⟩
  refine for_enum (xs := (Us net (Ln net)).map V.int) (fun i σ HX => ∃ o3 o4 : Option V, σ = [some (.ref a), some (.ref b), some (.ref r), o3, o4] ∧ Same H HX ∧ HX r = some (.lst (wdV net i))) ⟨none, none, rfl, s0, h0⟩
    (fun i σ HX hi h => by obtain ⟨_, _, _, s1, _⟩ := h; exact .inl (s1 _ _ ha)) ?_ ?_
  · rintro i x σ HX p hx ⟨o3, o4, rfl, sX, hrX⟩ hp
    rw [List.getElem?_map] at hx
    cases e1 : (Us net (Ln net))[i]? with
    | none => rw [e1] at hx; cases hx
    | some up =>
      rw [e1] at hx
      cases hx
      have il : i < Ln net := by have := (List.getElem?_eq_some_iff.mp e1).1; omega
      obtain ⟨up', kn, x1, x2, gd⟩ := wd_good N il
      rw [e1] at x1
      cases x1
      have sP : Same HX (upd HX p (.tup [.int (i : Int), .int up])) := (Same.refl HX).new hp
      have hP : upd HX p (.tup [.int (i : Int), .int up]) p = some (.tup [.int (i : Int), .int up]) := upd_same
      show (fun HH => _) (upd HX p (.tup [.int (i : Int), .int up]))
      generalize upd HX p (.tup [.int (i : Int), .int up]) = HP at sP hP
      refine ⟨p, _, rfl, SqT.of hP, rfl, _, _, rfl, _, _, rfl, rfl, ?_⟩
      have s1 := sX.trans sP
      have hr1 := sP _ _ hrX
      have lab : atI (oneV (Ls net (Ln net))) ((i : Nat) : Int) = some (.str ⟨#[lt net kn]⟩) := atI_nat (by unfold oneV Ls; rw [List.getElem?_map, List.getElem?_map, x2]; rfl)
      have flat : (wdV net i).all flatV = true := by
        have : wdV net i = ((List.range i).map fun m => mk (wd net (net.length - 1) m)).map V.str := by unfold wdV; rw [List.map_map]; rfl
        rw [this]; exact flat_strs _
      refine ⟨_, rfl, .inl ⟨rfl, _, SqL.of hr1⟩, _, rfl, (by show 0 ≤ sizeLine; decide), fun e he => ?_⟩
      have sE : Same HP (upd HP e (.lst [])) := (Same.refl HP).new he
      have hE : upd HP e (.lst []) e = some (.lst []) := upd_same
      show (fun HH => _) (upd HP e (.lst []))
      generalize upd HP e (.lst []) = HE at sE hE
      have s2 := s1.trans sE
      have hr2 := sE _ _ hr1
      refine ⟨r, e, _, [], rfl, rfl, SqL.of hr2, SqL.of hE, flat, rfl, _, rfl, ?_⟩
      have done : ∀ (HZ : Hp), Same H HZ → HZ r = some (.lst (wdV net i)) → ∃ o3 o4 : Option V, [some (V.ref a), some (.ref b), some (.ref r), some (.int (i : Int)), some (.int up)] = [some (.ref a), some (.ref b), some (.ref r), o3, o4] ∧ Same H (upd HZ r (.lst (wdV net i ++ [.str (mk (wd net (net.length - 1) i))]))) ∧ upd HZ r (.lst (wdV net i ++ [.str (mk (wd net (net.length - 1) i))])) r = some (.lst (wdV net (i + 1))) := fun HZ sZ hZ => ⟨_, _, rfl, sZ.write hr0, by rw [upd_same, wdV_succ]⟩
      rcases Nat.eq_zero_or_pos i with z | z
      · subst z
        have w0 : wd net (net.length - 1) 0 = [lt net kn] := by
          rcases gd with ⟨_, g⟩ | ⟨b', _, l, _⟩
          · exact g
          · exact absurd l (Nat.not_lt_zero _)
        refine iteF ?_
        refine ⟨_, rfl, _, rfl, b, _, _, _, rfl, rfl, SqL.of (s2 _ _ hb), lab, ?_⟩
        refine ⟨r, _, _, rfl, rfl, hr2, by rw [wdV_len]; exact small1000 (by omega), ?_⟩
        have := done HE s2 hr2
        rw [w0] at this
        exact this
      · have ne : (!eqVs (wdV net i) []) = true := by
          obtain ⟨i', rfl⟩ : ∃ i', i = i' + 1 := ⟨i - 1, by omega⟩
          unfold wdV
          rw [List.range_succ_eq_map, List.map_cons]; rfl
        rw [ne]
        refine iteT ?_
        have mx : ∃ m : Nat, (if up > 0 then up else 0) = (m : Int) ∧ m < i ∧ ∃ tail : List Nat, atI [V.str (mk (wd net (net.length - 1) m)), .str (Str.ofString "")] (if decide (up < 0) = true then 1 else 0) = some (.str (mk tail)) ∧ wd net (net.length - 1) i = lt net kn :: tail ∧ tail.length ≤ 60 := by
          rcases gd with ⟨e, g⟩ | ⟨b', e, l, g⟩
          · subst e
            exact ⟨0, rfl, z, [], rfl, g, by decide⟩
          · subst e
            refine ⟨b', ?_, l, wd net (net.length - 1) b', ?_, g, wl b' (by omega)⟩
            · split <;> omega
            · rw [decide_eq_false (by omega)]; rfl
        obtain ⟨m, em, ml, tail, et, ew, tl⟩ := mx
        refine ⟨_, rfl, _, rfl, b, _, _, _, rfl, rfl, SqL.of (s2 _ _ hb), lab, ?_⟩
        refine ⟨_, rfl, _, rfl, _, _, rfl, ?_⟩
        rw [em]
        refine ⟨r, _, _, _, rfl, rfl, SqL.of hr2, wdV_at ml, (by show 2 ≤ sizeLine; decide), fun e2 he2 => ?_⟩
        have sF : Same HE (upd HE e2 (.lst [.str (mk (wd net (net.length - 1) m)), .str (Str.ofString "")])) := (Same.refl HE).new he2
        have hF : upd HE e2 (.lst [.str (mk (wd net (net.length - 1) m)), .str (Str.ofString "")]) e2 = some (.lst [.str (mk (wd net (net.length - 1) m)), .str (Str.ofString "")]) := upd_same
        show (fun HH => _) (upd HE e2 (.lst [.str (mk (wd net (net.length - 1) m)), .str (Str.ofString "")]))
        generalize upd HE e2 (.lst [.str (mk (wd net (net.length - 1) m)), .str (Str.ofString "")]) = HF at sF hF
        refine ⟨_, rfl, _, _, rfl, rfl, .inr ⟨_, rfl, e2, _, _, _, rfl, rfl, SqL.of hF, et, ?_⟩⟩
        have ap : (⟨#[lt net kn]⟩ : Str) ++ mk tail = mk (wd net (net.length - 1) i) := by
          rw [ew]; apply str_ext
          show (#[lt net kn] ++ tail.toArray).toList = _
          rw [mk_cps]; simp
        refine ⟨_, _, rfl, rfl, ?_, ?_⟩
        · have : (mk tail).length = tail.length := by unfold mk; simp [Str.length]
          rw [this]
          show 1 + _ ≤ _
          exact Nat.le_of_lt (small1000 (by omega))
        rw [ap]
        refine ⟨r, _, _, rfl, rfl, sF _ _ hr2, by rw [wdV_len]; exact small1000 (by omega), ?_⟩
        exact done HF (s2.trans sF) (sF _ _ hr2)
  · rintro σ HX ⟨o3, o4, rfl, sX, hrX⟩
    rw [List.length_map, ul] at hrX
    exact ⟨_, rfl, q r HX hr0 sX hrX⟩
end
end S48
namespace S48
open PySem L2 W7
theorem wd_succ {net : List Knot} (N : W47.Net net) {c m lo x : Nat} (hm : m + 1 < W48.szN net c) (pk : W48.pick net (W47.bel net c) m = (lo, x)) : wd net c (m + 1) = wd net lo x ++ [lt net c] := by
  unfold wd
  rw [W48.way_succ N hm, pk, List.map_cons, List.reverse_cons]
theorem mk_app (c : Nat) (l : List Nat) : (⟨#[c]⟩ : Str) ++ mk l = mk (c :: l) := by
  apply str_ext
  show (#[c] ++ l.toArray).toList = _
  rw [mk_cps]; simp
theorem mk_len' (l : List Nat) : (mk l).length = l.length := by unfold mk; simp [Str.length]
section
variable {P : Program} {w : World} {K : PySem.W.Frag} {mg : Str → Option Value} {base : Heap} {k : Nat}
def sp_word : Sp := fun vs H Q _ => ∃ (t r : Addr) (net : List Knot) (n : Nat), vs = [.ref t, .ref r, .int (n : Int)] ∧ NetAt H t net ∧ NetOk net ∧ H r = some (.lst (szV net net.length)) ∧ n < W48.szN net (net.length - 1) ∧ Q (.str (mk (wd net (net.length - 1) n))) H
theorem has_word (D : Df K mg "_law_word" s_law_word) (B : Blt7 mg) : Has P w K mg base "_law_word" (k + 1) ["net", "sizes", "number"] sp_word := by
  refine D.has sc_law_word (fun _ _ _ _ _ _ us hl => match us, hl with | [_, _, _], _ => rfl) (fun vs H Q E h => by obtain ⟨t, r, net, n, rfl, _⟩ := h; rfl) (fun f cdv A outer s H vs Q E hr h => ?_)
  obtain ⟨t, r, net, n, rfl, na, ok, hrs, nlt, q⟩ := h
  refine ⟨_, (pss_cons (ps_set (i := 3) sc_law_word.nd rfl (by first | exact Or.inl rfl | exact Or.inr rfl) (pe_op op_sub (pe_callB call_len_seq rfl B.len bt_len (pa_cons (pv 0) pa_nil)) pe_int))
  (pss_cons (ps_set (i := 4) sc_law_word.nd rfl (by first | exact Or.inl rfl | exact Or.inr rfl) (pe_ix ix_tup (pe_ix ix_tup (pv 0) (pv 3) (fun _ _ => rfl)) pe_int (fun _ _ => rfl)))
  (pss_cons (ps_set (i := 5) sc_law_word.nd rfl (by first | exact Or.inl rfl | exact Or.inr rfl) (pe_op op_sub (pv 2) pe_int))
  (pss_cons (ps_while PassesOwn.never (pt_cmpR op_ge (pv 5) pe_int (nomark _))
  (pss_cons (ps_set (i := 6) sc_law_word.nd rfl (by first | exact Or.inl rfl | exact Or.inr rfl) pe_int)
  (pss_cons (ps_while PassesOwn.never (pt_cmpR op_ge (pv 5) (pe_ix ix_list (pv 1) (pe_ix ix_tup (pe_ix ix_tup (pe_ix ix_tup (pv 0) (pv 3) (fun _ _ => rfl)) pe_int (fun _ _ => rfl)) (pv 6) (fun _ _ => rfl)) (fun _ _ => rfl)) (nomark _))
  (pss_cons (ps_set (i := 5) sc_law_word.nd rfl (by first | exact Or.inl rfl | exact Or.inr rfl) (pe_op op_sub (pv 5) (pe_ix ix_list (pv 1) (pe_ix ix_tup (pe_ix ix_tup (pe_ix ix_tup (pv 0) (pv 3) (fun _ _ => rfl)) pe_int (fun _ _ => rfl)) (pv 6) (fun _ _ => rfl)) (fun _ _ => rfl))))
  (pss_one (ps_set (i := 6) sc_law_word.nd rfl (by first | exact Or.inl rfl | exact Or.inr rfl) (pe_op op_add (pv 6) pe_int)))))
  (pss_cons (ps_set (i := 3) sc_law_word.nd rfl (by first | exact Or.inl rfl | exact Or.inr rfl) (pe_ix ix_tup (pe_ix ix_tup (pe_ix ix_tup (pv 0) (pv 3) (fun _ _ => rfl)) pe_int (fun _ _ => rfl)) (pv 6) (fun _ _ => rfl)))
  (pss_cons (ps_set (i := 4) sc_law_word.nd rfl (by first | exact Or.inl rfl | exact Or.inr rfl) (pe_op op_add_str (pe_ix ix_tup (pe_ix ix_tup (pv 0) (pv 3) (fun _ _ => rfl)) pe_int (fun _ _ => rfl)) (pv 4)))
  (pss_one (ps_set (i := 5) sc_law_word.nd rfl (by first | exact Or.inl rfl | exact Or.inr rfl) (pe_op op_sub (pv 5) pe_int))))))))
  (pss_one (ps_ret (pv 4))))))), ?_⟩
  have N := ok.net
  have pos := ok.pos
  have l60 := ok.most
  obtain ⟨as, hkn, al, hat⟩ := knots_at na ok
  have asl : (as.map V.ref).length = net.length := by rw [List.length_map, al]
  have knot : ∀ r, r < net.length → ∃ ar cc, atI (as.map V.ref) ((r : Nat) : Int) = some (.ref ar) ∧ H ar = some (.tup [.str ⟨#[lt net r]⟩, .ref cc]) ∧ H cc = some (.tup (natV (W47.bel net r))) := fun r hr => by
    have ra : as[r]? = some (as[r]'(by omega)) := List.getElem?_eq_getElem (by omega)
    obtain ⟨cc, a, b⟩ := hat r _ ra
    exact ⟨_, cc, atI_nat (by rw [List.getElem?_map, ra]; rfl), a, b⟩
  have num : ((as.map V.ref).length : Int) - 1 = ((net.length - 1 : Nat) : Int) := by rw [asl]; omega
  refine ⟨_, rfl, t, _, rfl, .inr (SqT.of hkn), _, _, rfl, rfl, ?_⟩
  dsimp only [gName]
  rw [num]
  obtain ⟨ar, cc, hix, hk1, hk2⟩ := knot (net.length - 1) (by omega)
  refine ⟨_, rfl, _, rfl, t, _, _, _, rfl, rfl, SqT.of hkn, hix, ar, _, _, _, rfl, rfl, SqT.of hk1, rfl, ?_⟩
  refine ⟨_, rfl, _, _, rfl, rfl, ?_⟩
  dsimp only [gName]
  refine while_by (fun σ HX => ∃ (c m : Nat) (tail : List Nat) (o6 : Option V), σ = [some (.ref t), some (.ref r), some (.int (n : Int)), some (.int (c : Int)), some (.str (mk (lt net c :: tail))), some (.int ((m : Int) - 1)), o6] ∧ HX = H ∧ c < net.length ∧ m < W48.szN net c ∧ tail.length + c < net.length ∧ wd net c m ++ tail = wd net (net.length - 1) n)
    (fun σ HX => match σ with | [_, _, _, _, _, some (.int m), _] => (m + 1).toNat | _ => 0) ⟨net.length - 1, n, [], none, rfl, rfl, by omega, nlt, by show 0 + _ < _; omega, by rw [List.append_nil]⟩ ?_ ?_
  · rintro σ HX ⟨c, m, tail, o6, rfl, rfl, cl, ml, tl, wy⟩
    refine ⟨_, rfl, _, _, rfl, rfl, _, rfl, ite2 (fun cnd => ?_) (fun cnd => ?_)⟩
    · have m0 : 0 < m := by have := of_decide_eq_true cnd; omega
      obtain ⟨m', rfl⟩ : ∃ m', m = m' + 1 := ⟨m - 1, by omega⟩
      have msum : m' < W48.sumN net (W47.bel net c) := by rw [W48.szN_eq N] at ml; omega
      obtain ⟨ar, cc, hix, hk1, hk2⟩ := knot c cl
      have low : ∀ j l : Nat, (W47.bel net c)[j]? = some l → atI (natV (W47.bel net c)) ((j : Nat) : Int) = some (.int (l : Int)) := fun j l e => atI_nat (by unfold natV; rw [List.getElem?_map, e]; rfl)
      refine mid (fun σ HY => σ = [some (.ref t), some (.ref r), some (.int (n : Int)), some (.int (c : Int)), some (.str (mk (lt net c :: tail))), some (.int (m' : Int)), some (.int 0)] ∧ HY = HX) ?_ fun E nx => nx _ _ ⟨by
        show [some (V.ref t), some (.ref r), some (.int (n : Int)), some (.int (c : Int)), some (.str (mk (lt net c :: tail))), some (.int ((((m' + 1 : Nat)) : Int) - 1)), some (.int 0)] = _
        rw [show (((m' + 1 : Nat)) : Int) - 1 = (m' : Int) by omega], rfl⟩
      rintro σ HW ⟨rfl, rfl⟩
      refine mid (fun σ HY => ∃ (j lo x : Nat), σ = [some (.ref t), some (.ref r), some (.int (n : Int)), some (.int (c : Int)), some (.str (mk (lt net c :: tail))), some (.int (x : Int)), some (.int (j : Int))] ∧ HY = HW ∧ (W47.bel net c)[j]? = some lo ∧ x < W48.szN net lo ∧ m' = W48.sumN net ((W47.bel net c).take j) + x) ?_ fun E nx => ?_
      rotate_left
      · refine while_by (fun σ HY => ∃ (j lo x : Nat), σ = [some (.ref t), some (.ref r), some (.int (n : Int)), some (.int (c : Int)), some (.str (mk (lt net c :: tail))), some (.int (x : Int)), some (.int (j : Int))] ∧ HY = HW ∧ (W47.bel net c)[j]? = some lo ∧ m' = W48.sumN net ((W47.bel net c).take j) + x)
          (fun σ HY => match σ with | [_, _, _, _, _, _, some (.int j)] => ((W47.bel net c).length : Int).toNat - j.toNat | _ => 0) ?_ ?_ ?_
        · obtain ⟨tt, e1, e2⟩ := W48.pick_inv (net := net) _ _ msum
          have bl : 0 < (W47.bel net c).length := by have := (List.getElem?_eq_some_iff.mp e1).1; omega
          exact ⟨0, (W47.bel net c)[0], m', rfl, rfl, List.getElem?_eq_getElem bl, by show m' = 0 + m'; omega⟩
        · rintro σ HY ⟨j, lo, x, rfl, rfl, ej, em⟩
          have jl := (List.getElem?_eq_some_iff.mp ej).1
          have lol := N.at' c _ (List.mem_of_getElem? ej)
          refine ⟨_, rfl, _, rfl, _, rfl, _, rfl, t, _, _, _, rfl, rfl, SqT.of hkn, hix, ar, _, _, _, rfl, rfl, SqT.of hk1, rfl, _, rfl, cc, _, _, _, rfl, rfl, SqT.of hk2, low j lo ej, r, _, _, _, rfl, rfl, SqL.of hrs, szV_at (by omega) (by omega), ?_⟩
          rw [Int.toNat_natCast, sz_nat]
          refine ⟨_, _, rfl, rfl, _, rfl, ite2 (fun cnd => ?_) (fun cnd => ?_)⟩
          · have c2 : W48.szN net lo ≤ x := by
              have : ((W48.szN net lo : Nat) : Int) ≤ (x : Int) := of_decide_eq_true cnd
              omega
            have ts : W48.sumN net ((W47.bel net c).take (j + 1)) = W48.sumN net ((W47.bel net c).take j) + W48.szN net lo := by
              unfold W48.sumN
              rw [List.take_succ, ej, List.map_append, List.sum_append]
              simp
            have j2 : j + 1 < (W47.bel net c).length := by
              rcases Nat.lt_or_ge (j + 1) (W47.bel net c).length with z | z
              · exact z
              · have : (W47.bel net c).take (j + 1) = W47.bel net c := List.take_of_length_le z
                rw [this] at ts
                omega
            refine ⟨_, rfl, _, rfl, _, rfl, _, rfl, t, _, _, _, rfl, rfl, SqT.of hkn, hix, ar, _, _, _, rfl, rfl, SqT.of hk1, rfl, _, rfl, cc, _, _, _, rfl, rfl, SqT.of hk2, low j lo ej, r, _, _, _, rfl, rfl, SqL.of hrs, szV_at (by omega) (by omega), ?_⟩
            rw [Int.toNat_natCast, sz_nat]
            refine ⟨_, _, rfl, rfl, _, rfl, _, _, rfl, rfl, ?_⟩
            refine ⟨⟨j + 1, (W47.bel net c)[j + 1], x - W48.szN net lo, ?_, rfl, List.getElem?_eq_getElem j2, by rw [ts]; omega⟩, ?_⟩
            · show [some (V.ref t), some (.ref r), some (.int (n : Int)), some (.int (c : Int)), some (.str (mk (lt net c :: tail))), some (.int ((x : Int) - ((W48.szN net lo : Nat) : Int))), some (.int ((j : Int) + 1))] = _
              rw [show (x : Int) - ((W48.szN net lo : Nat) : Int) = ((x - W48.szN net lo : Nat) : Int) by omega]; rfl
            · show ((W47.bel net c).length : Int).toNat - ((j : Int) + 1).toNat < ((W47.bel net c).length : Int).toNat - ((j : Int)).toNat
              omega
          · have c2 : x < W48.szN net lo := by
              rcases Nat.lt_or_ge x (W48.szN net lo) with z | z
              · exact z
              · exact absurd (decide_eq_true (show (x : Int) ≥ ((W48.szN net lo : Nat) : Int) by omega)) cnd
            exact nx _ _ ⟨j, lo, x, rfl, rfl, ej, c2, em⟩
        · intro σ HY Q1 Q2 hq h
          obtain ⟨v, e, v1, e1, v2, e2, v3, e3, a1, x1, i1, z1, f1, f2, f3, f4, a2, x2, i2, z2, g1, g2, g3, g4, v6, e6, a3, x3, i3, z3, h1, h2, h3, h4, a4, x4, i4, z4, k1, k2, k3, k4, ii, jj, l1, l2, kk, l3, h⟩ := h
          exact ⟨v, e, v1, e1, v2, e2, v3, e3, a1, x1, i1, z1, f1, f2, f3, f4, a2, x2, i2, z2, g1, g2, g3, g4, v6, e6, a3, x3, i3, z3, h1, h2, h3, h4, a4, x4, i4, z4, k1, k2, k3, k4, ii, jj, l1, l2, kk, l3, hq _ _ h⟩
      rintro σ HY ⟨j, lo, x, rfl, rfl, ej, xl, em⟩
      have lol := N.at' c _ (List.mem_of_getElem? ej)
      have pk : W48.pick net (W47.bel net c) m' = (lo, x) := by rw [em]; exact W48.pick_at _ _ _ _ ej xl
      refine ⟨_, rfl, _, rfl, t, _, _, _, rfl, rfl, SqT.of hkn, hix, ar, _, _, _, rfl, rfl, SqT.of hk1, rfl, _, rfl, cc, _, _, _, rfl, rfl, SqT.of hk2, low j lo ej, ?_⟩
      obtain ⟨ar2, cc2, hix2, hk12, hk22⟩ := knot lo (by omega)
      refine ⟨_, rfl, _, rfl, t, _, _, _, rfl, rfl, SqT.of hkn, hix2, ar2, _, _, _, rfl, rfl, SqT.of hk12, rfl, _, rfl, _, _, rfl, rfl, ?_, ?_⟩
      · rw [mk_len', List.length_cons]; show 1 + _ ≤ _; exact Nat.le_of_lt (small1000 (by omega))
      dsimp only [gName]
      rw [mk_app]
      refine ⟨_, rfl, _, _, rfl, rfl, ?_⟩
      refine ⟨⟨lo, x, lt net c :: tail, _, rfl, rfl, by omega, xl, by rw [List.length_cons]; omega, ?_⟩, ?_⟩
      · rw [← wy, wd_succ N ml pk, List.append_assoc]; rfl
      · show ((x : Int) - 1 + 1).toNat < ((((m' + 1 : Nat)) : Int) - 1 + 1).toNat
        omega
    · have m0 : m = 0 := by
        rcases Nat.eq_zero_or_pos m with z | z
        · exact z
        · exact absurd (decide_eq_true (show ((m : Int) - 1) ≥ 0 by omega)) cnd
      subst m0
      have fin : lt net c :: tail = wd net (net.length - 1) n := wy
      refine ⟨_, rfl, ?_⟩
      rw [fin]
      exact q
  · intro σ HX Q1 Q2 hq h
    obtain ⟨v, e, i, j, e1, e2, kk, e3, h⟩ := h
    exact ⟨v, e, i, j, e1, e2, kk, e3, hq _ _ h⟩
end
end S48
namespace L2
open PySem
theorem op_ne_lstK {X : Cx} (K : PySem.W.Frag) (hu : X.A.units < cLine) (hK : X.K = K := by rfl) : OpR X (compareOp .NotEq) (fun x y H Q => ∃ a b xs ys, x = .ref a ∧ y = .ref b ∧ SqL K H a xs ∧ SqL K H b ys ∧ xs.all flatV = true ∧ ys.all flatV = true ∧ Q (.bl (!eqVs xs ys)) H) := by
  subst hK; exact op_ne_lst hu
end L2
namespace S48
open PySem L2 W7
theorem told_eq (x : Str) : (!eqVs (toldV x) [.str "told", .str x]) = false := by
  have : toldV x = ([("told" : Str), x]).map V.str := rfl
  show (!eqVs (([("told" : Str), x]).map V.str) (([("told" : Str), x]).map V.str)) = false
  have e : eqVs (([("told" : Str), x]).map V.str) (([("told" : Str), x]).map V.str) = true := eqVs_refl (flat_strs _) (fun v hv => by
    obtain ⟨z, _, rfl⟩ := List.mem_map.mp hv
    simp [eqV])
  rw [e]; rfl
theorem NetAt.kd {H H' : Hp} {p t : Addr} {c d : Int} {net : List Knot} (h : NetAt H t net) (dk : Deck H p d) (k : Kd p c H H') : NetAt H' t net := by
  obtain ⟨as, a, b⟩ := h
  exact ⟨as, kd_tups dk k _ _ a, b.tups (kd_tups dk k)⟩
section
variable {P : Program} {w : World} {K : PySem.W.Frag} {mg : Str → Option Value} {base : Heap} {k : Nat}
def sp_few : Sp := fun vs H Q _ => ∃ (t : Addr) (net : List Knot), vs = [.ref t] ∧ NetAt H t net ∧ NetOk net ∧ W47.sz net (net.length - 1) ≤ 200 ∧ ∀ H', Same H H' → Q (.bl true) H'
theorem has_few (D : Df K mg "_law_few_right" s_law_few_right) (B : Blt7 mg) (G_law_unfolded : Has P w K mg base "_law_unfolded" k ["net"] sp_unf) (G_law_words : Has P w K mg base "_law_words" k ["ups", "labels"] sp_words) (G_law_told : Has P w K mg base "_law_told" k ["net", "number"] sp_told) : Has P w K mg base "_law_few_right" (k + 1) ["net"] sp_few := by
  refine D.has sc_law_few_right (fun _ _ _ _ _ _ us hl => match us, hl with | [_], _ => rfl) (fun vs H Q E h => by obtain ⟨t, net, rfl, _⟩ := h; rfl) (fun f cdv A outer s H vs Q E hr h => ?_)
  obtain ⟨t, net, rfl, na, ok, s200, q⟩ := h
  refine ⟨_, (pss_cons (ps_asg (pe_callH G_law_unfolded hr rfl (pa_cons (pv 0) pa_nil)) (pg_lst rfl (pgs_cons (pg_name (i := 1) sc_law_few_right.nd rfl (by first | exact Or.inl rfl | exact Or.inr rfl)) (pgs_cons (pg_name (i := 2) sc_law_few_right.nd rfl (by first | exact Or.inl rfl | exact Or.inr rfl)) (pgs_cons (pg_name (i := 3) sc_law_few_right.nd rfl (by first | exact Or.inl rfl | exact Or.inr rfl)) pgs_nil)))))
  (pss_cons (ps_set (i := 4) sc_law_few_right.nd rfl (by first | exact Or.inl rfl | exact Or.inr rfl) (pe_callH G_law_words hr rfl (pa_cons (pv 1) (pa_cons (pv 2) pa_nil))))
  (pss_one (ps_ret (pe_cmpR (op_eq_lst hr.units0) (pe_comp rfl (pi_range1 rfl B.range (pa_cons (pe_callB call_len_seq rfl B.len bt_len (pa_cons (pv 4) pa_nil)) pa_nil)) (NL := ["k"]) (ix := [0, 4]) (csc (defScope s_law_few_right) N_law_few_right) (fun cl C s₃ H₃ fp pins => ⟨(pg_name (i := 0) (show List.Nodup (["k", "net", "words"] : List Str) from by decide +kernel) rfl (by first | exact Or.inl rfl | exact Or.inr rfl)), (pifs_one (pt_cmpR (op_ne_lstK K hr.units0) (pe_callH G_law_told hr rfl (pa_cons (pv 1) (pa_cons (pv 0) pa_nil))) (pe_lst (pa_cons pe_str (pa_cons (pe_ix (ix_listK K) (pv 2) (pv 0) (fun _ _ => rfl)) pa_nil))) (nomark _))), (pv 0)⟩)) (pe_lst pa_nil) (nomark _)))))), ?_⟩
  have N := ok.net
  have l2 : Ln net ≤ 200 := by have : ((Ln net : Nat) : Int) ≤ 200 := s200; omega
  refine ⟨_, rfl, t, net, rfl, na, ok, by omega, fun r2 a b cc H1 s1 h1 ha hb hc => ?_⟩
  refine ⟨r2, _, rfl, SqL.of h1, rfl, _, _, rfl, _, _, rfl, _, _, rfl, rfl, ?_⟩
  refine ⟨_, rfl, _, rfl, a, b, net, rfl, ok, by omega, ha, hb, fun r H2 fr s2 hw => ?_⟩
  have s12 := s1.trans s2
  refine ⟨_, rfl, r, _, rfl, .inl (SqL.of hw), ?_⟩
  rw [wdV_len]
  refine ⟨((Ln net : Nat) : Int), rfl, by omega, by omega, fun acc hacc => ?_⟩
  refine comp_by (Ln net) (by omega) (fun j ys HX => HX acc = some (.lst ys) ∧ ys = [] ∧ Same H2 HX) (fun j ys HX h => ⟨h.1, by rw [h.2.1]; exact Nat.zero_le _⟩) ⟨upd_same, rfl, (Same.refl H2).new hacc⟩ ?_ ?_
  · rintro ys HX ⟨g1, rfl, g3⟩
    refine ⟨by rw [Int.toNat_natCast]; exact Nat.le_refl _, ?_⟩
    refine ⟨(by show 0 ≤ sizeLine; decide), fun e he => ?_⟩
    have sE : Same HX (upd HX e (.lst [])) := (Same.refl HX).new he
    exact ⟨acc, e, [], [], rfl, rfl, SqL.of (sE _ _ g1), SqL.of upd_same, rfl, rfl, q _ ((s12.trans g3).trans sE)⟩
  · rintro j ys HX hj ⟨g1, rfl, g3⟩
    have zj : (0 : Int) + (j : Int) = ((j : Nat) : Int) := by omega
    have naX := na.same (s12.trans g3)
    have hwX := g3 _ _ hw
    refine ⟨by rw [Int.toNat_natCast]; exact hj, ?_⟩
    rintro x H'' ⟨rfl, rfl⟩
    refine ⟨rfl, ?_⟩
    refine ⟨_, rfl, _, rfl, t, net, _, rfl, naX, ok, .int _, .inl ⟨j, congrArg V.int zj, hj, fun r3 H3 s3 h3 => ?_⟩⟩
    refine ⟨_, rfl, _, rfl, r, _, _, _, rfl, rfl, SqL.of (s3 _ _ hwX), (zj ▸ wdV_at hj), (by show 2 ≤ sizeLine; decide), fun e he => ?_⟩
    have sE : Same H3 (upd H3 e (.lst [.str "told", .str (mk (wd net (net.length - 1) j))])) := (Same.refl H3).new he
    refine ⟨r3, e, _, _, rfl, rfl, SqL.of (sE _ _ h3), SqL.of upd_same, rfl, rfl, _, rfl, ?_⟩
    rw [told_eq]
    refine iteF ?_
    exact ⟨sE _ _ (s3 _ _ g1), rfl, (g3.trans s3).trans sE⟩
end
end S48
namespace S48
open PySem L2 W7
theorem refused_eq : (!eqVs [V.str "refused", .str "place"] [V.str "refused", .str "place"]) = false := by decide +kernel
section
variable {P : Program} {w : World} {K : PySem.W.Frag} {mg : Str → Option Value} {base : Heap} {k : Nat}
def sp_right : Sp := fun vs H Q _ => ∃ (p t : Addr) (net : List Knot) (c : Int), vs = [.ref p, .ref t] ∧ Deck H p c ∧ 0 ≤ c ∧ c < 800000 ∧ NetAt H t net ∧ NetOk net ∧ ∀ H', Kd p (c + 100) H H' → Q (.bl true) H'
theorem has_right (D : Df K mg "_law_right" s_law_right) (B : Blt7 mg) (G_law_sizes : Has P w K mg base "_law_sizes" k ["net"] sp_sizes) (G_law_far : Has P w K mg base "_law_far" k ["store", "many"] sp_far) (G_law_told : Has P w K mg base "_law_told" k ["net", "number"] sp_told) (G_law_word : Has P w K mg base "_law_word" k ["net", "sizes", "number"] sp_word)
    (G_law_draw : Has P w K mg base "_law_draw" k ["store", "many"] sp_draw) : Has P w K mg base "_law_right" (k + 1) ["store", "net"] sp_right := by
  refine D.has sc_law_right (fun _ _ _ _ _ _ us hl => match us, hl with | [_, _], _ => rfl) (fun vs H Q E h => by obtain ⟨p, t, net, c, rfl, _⟩ := h; rfl) (fun f cdv A outer s H vs Q E hr h => ?_)
  obtain ⟨p, t, net, c, rfl, dk, c0, c8, na, ok, q⟩ := h
  refine ⟨_, (pss_cons (ps_set (i := 2) sc_law_right.nd rfl (by first | exact Or.inl rfl | exact Or.inr rfl) (pe_callH G_law_sizes hr rfl (pa_cons (pv 1) pa_nil)))
  (pss_cons (ps_set (i := 3) sc_law_right.nd rfl (by first | exact Or.inl rfl | exact Or.inr rfl) (pe_ix ix_list (pv 2) (pe_un un_neg pe_int) (fun _ _ => rfl)))
  (pss_cons (ps_set (i := 4) sc_law_right.nd rfl (by first | exact Or.inl rfl | exact Or.inr rfl) (pe_lst (pa_cons pe_int (pa_cons (pe_op op_sub (pv 3) pe_int) (pa_cons (pe_op op_fdivL (pv 3) pe_int) (pa_cons (pe_callB (call_min2 rfl) rfl B.min bt_min (pa_cons (pe_op op_sub (pv 3) pe_int) (pa_cons pe_int pa_nil))) (pa_cons (pe_callB (call_max2 rfl) rfl B.max bt_max (pa_cons pe_int (pa_cons (pe_op op_sub (pv 3) pe_int) pa_nil))) pa_nil)))))))
  (pss_cons (ps_for PassesOwn.never rfl (pi_list (pe_op op_cat (pv 4) (pe_comp rfl (pi_range1 rfl B.range (pa_cons pe_int pa_nil)) (NL := ["turn"]) (ix := [0, 3]) (csc (defScope s_law_right) N_law_right) (fun cl C s₃ H₃ fp pins => ⟨(pg_name (i := 0) (show List.Nodup (["turn", "store", "size"] : List Str) from by decide +kernel) rfl (by first | exact Or.inl rfl | exact Or.inr rfl)), pifs_nil, (pe_callH G_law_far hr rfl (pa_cons (pv 1) (pa_cons (pv 2) pa_nil)))⟩)))) (pg_name (i := 5) sc_law_right.nd rfl (by first | exact Or.inl rfl | exact Or.inr rfl))
  (pss_one (ps_if (pt_cmpR (op_ne_lst hr.units0) (pe_callH G_law_told hr rfl (pa_cons (pv 1) (pa_cons (pv 5) pa_nil))) (pe_lst (pa_cons pe_str (pa_cons (pe_callH G_law_word hr rfl (pa_cons (pv 1) (pa_cons (pv 2) (pa_cons (pv 5) pa_nil)))) pa_nil))) (nomark _))
  (pss_one (ps_ret pe_bl))
  pss_nil)))
  (pss_cons (ps_set (i := 6) sc_law_right.nd rfl (by first | exact Or.inl rfl | exact Or.inr rfl) (pe_callH G_law_far hr rfl (pa_cons (pv 0) (pa_cons (pe_op op_mulB (pe_op op_pow pe_int pe_int) (pe_op op_pow pe_int pe_int)) pa_nil))))
  (pss_cons (ps_set (i := 7) sc_law_right.nd rfl (by first | exact Or.inl rfl | exact Or.inr rfl) (pe_lst (pa_cons (pe_un un_neg pe_int) (pa_cons (pv 3) (pa_cons (pe_op op_add (pv 3) pe_int) (pa_cons (pe_op op_add (pv 3) (pv 6)) (pa_cons (pe_op op_sub (pe_un un_neg pe_int) (pv 6)) (pa_cons pe_bl (pa_cons pe_bl (pa_cons pe_non (pa_cons pe_str (pa_cons pe_str (pa_cons (pe_tup (pa_cons pe_int pa_nil)) (pa_cons (pe_lst pa_nil) (pa_cons pe_dnewK (pa_cons (pe_op op_sub pe_int (pv 3)) pa_nil))))))))))))))))
  (pss_cons (ps_set (i := 8) sc_law_right.nd rfl (by first | exact Or.inl rfl | exact Or.inr rfl) (pe_callH G_law_draw hr rfl (pa_cons (pv 0) (pa_cons pe_int pa_nil))))
  (pss_cons (ps_for PassesOwn.never rfl (pi_list (pe_slice sl_list (pv 7) (po_some (pv 8)) (po_some (pe_op op_add (pv 8) pe_int)))) (pg_name (i := 9) sc_law_right.nd rfl (by first | exact Or.inl rfl | exact Or.inr rfl))
  (pss_one (ps_if (pt_cmpR (op_ne_lst hr.units0) (pe_callH G_law_told hr rfl (pa_cons (pv 1) (pa_cons (pv 9) pa_nil))) (pe_lst (pa_cons pe_str (pa_cons pe_str pa_nil))) (nomark _))
  (pss_one (ps_ret pe_bl))
  pss_nil)))
  (pss_one (ps_ret pe_bl)))))))))), ?_⟩
  have N := ok.net
  have pos := ok.pos
  refine ⟨_, rfl, t, net, rfl, na, ok, fun r H1 fr s1 h1 => ?_⟩
  have rp : r ≠ p := dk.ne fr
  have k1 : Kd p c H H1 := (Kd.refl dk).same s1
  refine ⟨_, rfl, _, rfl, r, _, _, _, rfl, rfl, SqL.of h1, szV_last pos, ?_⟩
  obtain ⟨Z, hZ⟩ : ∃ Z, Z = W48.szN net (net.length - 1) := ⟨_, rfl⟩
  have zp : 1 ≤ Z := by rw [hZ]; exact W48.szN_pos N (net.length - 1)
  rw [sz_nat, ← hZ]
  refine ⟨_, rfl, _, _, rfl, rfl, _, rfl, _, _, rfl, rfl, ⟨by decide, big18 (by decide)⟩, _, rfl, _, _, rfl, rfl, _, _, rfl, _, rfl, _, _, rfl, rfl, _, _, rfl, (by show 5 ≤ sizeLine; decide), fun ln hln => ?_⟩
  generalize hg : upd H1 ln _ = H2
  have s2 : Same H1 H2 := by rw [← hg]; exact (Same.refl H1).new hln
  have h2 : H2 ln = some (.lst (natV [0, Z - 1, Z / 2, (if Z < 2 then 0 else 1), Z - 2])) := by
    rw [← hg, upd_same]
    show some (HO.lst [V.int 0, .int ((Z : Int) - 1), .int ((Z : Int) / 2), .int (if 1 < (Z : Int) - 1 then 1 else (Z : Int) - 1), .int (if (Z : Int) - 2 > 0 then (Z : Int) - 2 else 0)]) = _
    have e1 : (Z : Int) - 1 = ((Z - 1 : Nat) : Int) := by omega
    have e2 : (Z : Int) / 2 = ((Z / 2 : Nat) : Int) := by omega
    have e3 : (if 1 < (Z : Int) - 1 then 1 else (Z : Int) - 1) = (((if Z < 2 then 0 else 1) : Nat) : Int) := by split <;> split <;> omega
    have e4 : (if (Z : Int) - 2 > 0 then (Z : Int) - 2 else 0) = ((Z - 2 : Nat) : Int) := by split <;> omega
    rw [e3, e4, e1, e2]; rfl
  clear hg
  have lp : ln ≠ p := (k1.deck).ne hln
  have k2 : Kd p c H H2 := k1.same s2
  have five : ∀ m ∈ [0, Z - 1, Z / 2, (if Z < 2 then 0 else 1), Z - 2], m < Z := fun m hm => by
    simp only [List.mem_cons, List.not_mem_nil, or_false] at hm
    rcases hm with rfl | rfl | rfl | rfl | rfl
    · omega
    · omega
    · omega
    · split <;> omega
    · omega
  refine ⟨_, rfl, 6, rfl, by decide, by decide, fun acc hacc => ?_⟩
  have ap : acc ≠ p := k2.deck.ne hacc
  refine comp_by 6 (by decide) (fun j ys HX => ∃ fs : List Nat, HX acc = some (.lst ys) ∧ ys = natV fs ∧ fs.length = j ∧ (∀ f ∈ fs, f < Z) ∧ Kd p (c + 8 * j) H2 HX) (fun j ys HX h => by obtain ⟨fs, a1, rfl, a2, _⟩ := h; exact ⟨a1, by rw [natV_len]; omega⟩) ⟨[], upd_same, rfl, rfl, (fun f hf => by cases hf), ((Kd.refl k2.deck).new hacc).mono (by omega)⟩ ?_ ?_
  rotate_left
  · rintro j ys HX hj ⟨fs, a1, rfl, a2, a3, a4⟩
    refine ⟨hj, ?_⟩
    rintro x H'' ⟨rfl, rfl⟩
    refine ⟨rfl, ?_⟩
    refine ⟨_, rfl, _, rfl, p, (Z : Int), _, rfl, a4.deck, by omega, by omega, by omega, fun m G m0 m1 e => ?_⟩
    obtain ⟨m', rfl⟩ : ∃ m' : Nat, m = (m' : Int) := ⟨m.toNat, by omega⟩
    refine ⟨e.keep _ _ ap a1, fs ++ [m'], upd_same, by unfold natV; rw [List.map_append]; rfl, by rw [List.length_append, a2]; rfl, fun f hf => ?_, ((a4.trans e).mono (by omega)).write hacc ap⟩
    rcases List.mem_append.mp hf with hf | hf
    · exact a3 f hf
    · rw [List.mem_singleton.mp hf]; omega
  rintro ys H3 ⟨fs, a1, rfl, a2, a3, a4⟩
  refine ⟨Nat.le_refl _, ?_⟩
  have k3 : Kd p (c + 48) H H3 := (k2.trans a4).mono (by omega)
  have h3 := a4.keep _ _ lp h2
  have hr3 := a4.keep _ _ rp (s2 _ _ h1)
  have n3 := (na.same (s1.trans s2)).kd k2.deck a4
  refine ⟨ln, acc, _, _, rfl, rfl, h3, a1, by rw [natV_len, natV_len, a2]; exact Nat.le_of_lt (small1000 (show 5 + 6 ≤ 1000 by decide)), fun lr hlr => ?_⟩
  have en : natV [0, Z - 1, Z / 2, (if Z < 2 then 0 else 1), Z - 2] ++ natV fs = natV ([0, Z - 1, Z / 2, (if Z < 2 then 0 else 1), Z - 2] ++ fs) := by unfold natV; rw [List.map_append]
  rw [en]
  have all : ∀ m ∈ [0, Z - 1, Z / 2, (if Z < 2 then 0 else 1), Z - 2] ++ fs, m < Z := fun m hm => by
    rcases List.mem_append.mp hm with hm | hm
    · exact five m hm
    · exact a3 m hm
  generalize [0, Z - 1, Z / 2, (if Z < 2 then 0 else 1), Z - 2] ++ fs = nums at all
  have s4 : Same H3 (upd H3 lr (.lst (natV nums))) := (Same.refl H3).new hlr
  have h4 : upd H3 lr (.lst (natV nums)) lr = some (.lst (natV nums)) := upd_same
  show (fun HH => _) (upd H3 lr (.lst (natV nums)))
  generalize upd H3 lr (.lst (natV nums)) = H4 at s4 h4
  refine ⟨lr, rfl, ⟨_, SqL.of h4⟩, ?_⟩
  refine for_list (K := K) (xs := natV nums) (fun i σ HX => ∃ o5 : Option V, σ = [some (.ref p), some (.ref t), some (.ref r), some (.int (Z : Int)), some (.ref ln), o5, none, none, none, none] ∧ Same H4 HX) ⟨none, rfl, Same.refl H4⟩ (fun i σ HX _ h => by obtain ⟨_, _, s⟩ := h; exact SqL.of (s _ _ h4)) ?_ ?_
  · rintro i x σ HX hx ⟨o5, rfl, sX⟩
    unfold natV at hx
    rw [List.getElem?_map] at hx
    cases ex : nums[i]? with
    | none => rw [ex] at hx; cases hx
    | some m =>
      rw [ex] at hx
      cases hx
      have ml : m < W48.szN net (net.length - 1) := by rw [← hZ]; exact all m (List.mem_of_getElem? ex)
      have s4X := s4.trans sX
      refine ⟨_, rfl, _, rfl, t, net, _, rfl, n3.same s4X, ok, .int _, .inl ⟨m, rfl, ml, fun r3 G3 e3 g3 => ?_⟩⟩
      have eX := s4X.trans e3
      refine ⟨_, rfl, _, rfl, _, rfl, t, r, net, m, rfl, n3.same eX, ok, eX _ _ hr3, ml, (by show 2 ≤ sizeLine; decide), fun e he => ?_⟩
      have sE : Same G3 (upd G3 e (.lst [.str "told", .str (mk (wd net (net.length - 1) m))])) := (Same.refl G3).new he
      refine ⟨r3, e, _, _, rfl, rfl, SqL.of (sE _ _ g3), SqL.of upd_same, rfl, rfl, _, rfl, ?_⟩
      rw [told_eq]
      refine iteF ?_
      exact ⟨_, rfl, (sX.trans e3).trans sE⟩
  · rintro σ HX ⟨o5, rfl, sX⟩
    have s4X := s4.trans sX
    have kX : Kd p (c + 48) H HX := k3.same s4X
    have nX := n3.same s4X
    refine ⟨_, rfl, _, _, rfl, rfl, ⟨by decide, by decide, by decide⟩, _, _, rfl, rfl, ⟨by decide, by decide, by decide⟩, _, _, rfl, rfl, IntMulOk.of_bits (by decide +kernel) (by decide +kernel), p, _, _, rfl, kX.deck, by omega, by omega, by decide +kernel, fun far G f0 f1 e => ?_⟩
    have kG := (kX.trans e).mono (show _ ≤ c + 56 by omega)
    have nG := nX.kd kX.deck e
    refine ⟨_, rfl, _, rfl, _, rfl, _, _, rfl, rfl, _, rfl, _, rfl, _, _, rfl, rfl, _, rfl, _, rfl, _, _, rfl, rfl, (by show 1 ≤ sizeLine; decide), fun tp htp => ?_⟩
    generalize hg1 : upd G tp _ = G1
    have u1 : Same G G1 := by rw [← hg1]; exact (Same.refl G).new htp
    have b1 : G1 tp = some (.tup [.int 0]) := by rw [← hg1, upd_same]
    clear hg1
    have tpp : tp ≠ p := kG.deck.ne htp
    refine ⟨(by show 0 ≤ sizeLine; decide), fun lx hlx => ?_⟩
    have kG1 := kG.same u1
    have lxp : lx ≠ p := kG1.deck.ne hlx
    generalize hg2 : upd G1 lx _ = G2
    have u2 : Same G1 G2 := by rw [← hg2]; exact (Same.refl G1).new hlx
    have b2 : G2 lx = some (.lst []) := by rw [← hg2, upd_same]
    clear hg2
    intro dc hdc
    have kG2 := kG1.same u2
    have dcp : dc ≠ p := kG2.deck.ne hdc
    generalize hg3 : upd G2 dc _ = G3
    have u3 : Same G2 G3 := by rw [← hg3]; exact (Same.refl G2).new hdc
    have b3 : G3 dc = some (.dK []) := by rw [← hg3, upd_same]
    clear hg3
    refine ⟨_, rfl, _, _, rfl, rfl, (by show 14 ≤ sizeLine; decide), fun lt' hlt => ?_⟩
    have kG3 := kG2.same u3
    have ltp : lt' ≠ p := kG3.deck.ne hlt
    generalize hg4 : upd G3 lt' _ = G4
    have u4 : Same G3 G4 := by rw [← hg4]; exact (Same.refl G3).new hlt
    have b4 : G4 lt' = some (.lst [V.int (-1), .int (Z : Int), .int ((Z : Int) + 1), .int ((Z : Int) + far), .int (-1 - far), .bl true, .bl false, .non, .str (Str.ofString "0"), .str (Str.ofString ""), .ref tp, .ref lx, .ref dc, .int (0 - (Z : Int))]) := by rw [← hg4, upd_same]; first | done | rfl
    clear hg4
    have kG4 := kG3.same u4
    have u14 : Same G G4 := ((u1.trans u2).trans u3).trans u4
    refine ⟨_, rfl, p, 7, _, rfl, kG4.deck, by omega, by decide, by decide, fun at' G5 a0 a1 e5 => ?_⟩
    have kG5 := (kG4.trans e5).mono (show _ ≤ c + 57 by omega)
    have n5 := (nG.same u14).kd kG4.deck e5
    have b5 := e5.keep _ _ ltp b4
    have t5 := e5.keep _ _ tpp (u4 _ _ (u3 _ _ (u2 _ _ b1)))
    have l5 := e5.keep _ _ lxp (u4 _ _ (u3 _ _ b2))
    have d5 := e5.keep _ _ dcp (u4 _ _ b3)
    have good : ∀ x ∈ [V.int (-1), .int (Z : Int), .int ((Z : Int) + 1), .int ((Z : Int) + far), .int (-1 - far), .bl true, .bl false, .non, .str (Str.ofString "0"), .str (Str.ofString ""), .ref tp, .ref lx, .ref dc, .int (0 - (Z : Int))], Thg G5 x ∧ below x ((Z : Nat) : Int) = false := fun x hx => by
      have nb : ∀ i : Int, (i < 0 ∨ (Z : Int) ≤ i) → below (.int i) ((Z : Nat) : Int) = false := fun i h => by
        show (decide (0 ≤ i) && decide (i < (Z : Int))) = false
        rcases h with h | h
        · rw [decide_eq_false (by omega), Bool.false_and]
        · rw [decide_eq_false (show ¬ i < (Z : Int) by omega), Bool.and_false]
      simp only [List.mem_cons, List.not_mem_nil, or_false] at hx
      rcases hx with rfl | rfl | rfl | rfl | rfl | rfl | rfl | rfl | rfl | rfl | rfl | rfl | rfl | rfl
      · exact ⟨.int _, nb _ (by omega)⟩
      · exact ⟨.int _, nb _ (by omega)⟩
      · exact ⟨.int _, nb _ (by omega)⟩
      · exact ⟨.int _, nb _ (by omega)⟩
      · exact ⟨.int _, nb _ (by omega)⟩
      · exact ⟨.bl _, rfl⟩
      · exact ⟨.bl _, rfl⟩
      · exact ⟨.non, rfl⟩
      · exact ⟨.str _, rfl⟩
      · exact ⟨.str _, rfl⟩
      · exact ⟨.tup t5, rfl⟩
      · exact ⟨.lst l5, rfl⟩
      · exact ⟨.dct d5, rfl⟩
      · exact ⟨.int _, nb _ (by omega)⟩
    refine ⟨_, rfl, _, rfl, _, rfl, _, rfl, _, _, rfl, rfl, _, rfl, lt', _, rfl, SqL.of b5, fun l2 hl2 => ?_⟩
    generalize hcv : cutV [V.int (-1), .int (Z : Int), .int ((Z : Int) + 1), .int ((Z : Int) + far), .int (-1 - far), .bl true, .bl false, .non, .str (Str.ofString "0"), .str (Str.ofString ""), .ref tp, .ref lx, .ref dc, .int (0 - (Z : Int))] (some at') (some (at' + 8)) = xs
    have sub : ∀ x ∈ xs, Thg G5 x ∧ below x ((Z : Nat) : Int) = false := fun x hx => by
      rw [← hcv] at hx
      unfold cutV at hx
      exact good x (List.mem_of_mem_drop (List.mem_of_mem_take hx))
    have u6 : Same G5 (upd G5 l2 (.lst xs)) := (Same.refl G5).new hl2
    have b6 : upd G5 l2 (.lst xs) l2 = some (.lst xs) := upd_same
    show (fun HH => _) (upd G5 l2 (.lst xs))
    generalize upd G5 l2 (.lst xs) = G6 at u6 b6
    refine ⟨l2, rfl, ⟨_, SqL.of b6⟩, ?_⟩
    refine for_list (K := K) (xs := xs) (fun i σ HY => ∃ o9 : Option V, σ = [some (.ref p), some (.ref t), some (.ref r), some (.int (Z : Int)), some (.ref ln), o5, some (.int far), some (.ref lt'), some (.int at'), o9] ∧ Same G6 HY) ⟨none, rfl, Same.refl G6⟩ (fun i σ HY _ h => by obtain ⟨_, _, s⟩ := h; exact SqL.of (s _ _ b6)) ?_ ?_
    · rintro i x σ HY hx ⟨o9, rfl, sY⟩
      obtain ⟨th, bf⟩ := sub x (List.mem_of_getElem? hx)
      have u56 := u6.trans sY
      refine ⟨_, rfl, _, rfl, t, net, x, rfl, n5.same u56, ok, th.same u56, .inr ⟨by rw [sz_nat, ← hZ]; exact bf, fun r3 G7 e7 g7 => ?_⟩⟩
      refine ⟨(by show 2 ≤ sizeLine; decide), fun e' he' => ?_⟩
      have sE : Same G7 (upd G7 e' (.lst [.str "refused", .str "place"])) := (Same.refl G7).new he'
      refine ⟨r3, e', _, _, rfl, rfl, SqL.of (sE _ _ g7), SqL.of upd_same, rfl, rfl, _, rfl, ?_⟩
      rw [refused_eq]
      refine iteF ?_
      exact ⟨_, rfl, (sY.trans e7).trans sE⟩
    · rintro σ HY ⟨o9, rfl, sY⟩
      exact q HY ((kG5.same (u6.trans sY)).mono (by omega))
end
end S48
namespace S48
open PySem L2 W7
section
variable {P : Program} {w : World} {K : PySem.W.Frag} {mg : Str → Option Value} {base : Heap} {k : Nat} {f : Addr} {fd : FuncData}
theorem net_one {H : Hp} {t a b : Addr} {kn : Knot} (ht : H t = some (.tup [.ref a])) (ha : H a = some (.tup [.str ⟨#[kn.1]⟩, .ref b])) (hb : H b = some (.tup (kn.2.map V.int))) : NetAt H t [kn] := by
  refine ⟨[a], ht, rfl, fun i x y e1 e2 => ?_⟩
  have i0 : i = 0 := by have := (List.getElem?_eq_some_iff.mp e1).1; simp at this; exact this
  subst i0
  cases e1; cases e2
  exact ⟨b, ha, hb⟩
theorem ok_one (c : Nat) (h : Lw c) : NetOk [(c, [])] := ⟨by simp, by simp, fun kn hk => by rw [List.mem_singleton.mp hk]; exact h, fun kn hk => by rw [List.mem_singleton.mp hk]; exact Nat.zero_le _, fun k kn e n hn => by
  have k0 : k = 0 := by have := (List.getElem?_eq_some_iff.mp e).1; simp at this; exact this
  subst k0
  cases e
  cases hn⟩
def sp_law (K : PySem.W.Frag) : Sp := fun vs H Q _ => ∃ (a : Addr) (ns : List Int), vs = [.ref a] ∧ SqL K H a (ns.map V.int) ∧ ns.length ≤ 63 ∧ ∀ H', Q (.bl true) H'
def dkn (i : Nat) : Knot := (97 + i % 2, List.replicate (if i = 0 then 0 else 60) (((i - 1 : Nat) : Int)))
def deepN (j : Nat) : List Knot := (List.range j).map dkn
theorem deep_get {j i : Nat} (h : i < j) : (deepN j)[i]? = some (dkn i) := by unfold deepN; rw [List.getElem?_map, List.getElem?_range h]; rfl
theorem deep_ok : NetOk (deepN 60) := by
  have each : ∀ kn ∈ deepN 60, ∃ i, kn = dkn i := fun kn h => by
    unfold deepN at h
    obtain ⟨i, _, rfl⟩ := List.mem_map.mp h
    exact ⟨i, rfl⟩
  refine ⟨by unfold deepN; simp, by unfold deepN; simp, fun kn h => ?_, fun kn h => ?_, fun k kn e n hn => ?_⟩
  · obtain ⟨i, rfl⟩ := each kn h
    show 97 ≤ 97 + i % 2 ∧ 97 + i % 2 < 123
    omega
  · obtain ⟨i, rfl⟩ := each kn h
    show (List.replicate _ _).length ≤ 60
    rw [List.length_replicate]; split <;> omega
  · have kl : k < 60 := by have := (List.getElem?_eq_some_iff.mp e).1; unfold deepN at this; simpa using this
    rw [deep_get kl] at e
    cases e
    have hn' : n ∈ List.replicate (if k = 0 then 0 else 60) (((k - 1 : Nat) : Int)) := hn
    rw [List.mem_replicate] at hn'
    obtain ⟨z, rfl⟩ := hn'
    split at z
    · exact absurd rfl z
    · omega
theorem deep_succ (j : Nat) : deepN (j + 1) = deepN j ++ [dkn j] := by unfold deepN; rw [List.range_succ, List.map_append]; rfl
theorem ab_at (j : Nat) : atI (Str.ofString "ab").cps.toList ((j : Int) % 2) = some (97 + j % 2) := by
  have : j % 2 = 0 ∨ j % 2 = 1 := by omega
  rcases this with e | e
  · rw [show (j : Int) % 2 = 0 by omega, e]; decide +kernel
  · rw [show (j : Int) % 2 = 1 by omega, e]; decide +kernel
theorem ok_law {f : Addr} {fd : FuncData} (F : Fun K "law" "law" s_law f fd) (B : Blt7 mg) (G_law_store : Has P w K mg base "_law_store" k ["cell", "k"] sp_store) (G_law_net : Has P w K mg base "_law_net" k ["store", "most"] sp_net) (G_law_cut : Has P w K mg base "_law_cut" k ["net", "most"] sp_cut)
    (G_law_few_right : Has P w K mg base "_law_few_right" k ["net"] sp_few) (G_law_right : Has P w K mg base "_law_right" k ["store", "net"] sp_right) : FnOk P w K mg base CX0 (k + 1) f fd ["script"] (sp_law K) := by
  refine F.ok sc_law (fun vs H Q E h => by obtain ⟨a, ns, rfl, _⟩ := h; rfl) (fun cdv A outer s H vs Q E hr h => ?_)
  obtain ⟨a, ns, rfl, hS, h63, q⟩ := h
  refine ⟨_, (pss_cons (ps_for PassesOwn.never rfl (pi_list (pe_op op_cat (pe_slice sl_list (pv 0) po_none (po_some pe_int)) (pe_lst (pa_cons (pe_callB call_len_seq rfl B.len bt_len (pa_cons (pv 0) pa_nil)) pa_nil)))) (pg_name (i := 1) sc_law.nd rfl (by first | exact Or.inl rfl | exact Or.inr rfl))
  (pss_cons (ps_set (i := 2) sc_law.nd rfl (by first | exact Or.inl rfl | exact Or.inr rfl) (pe_callH G_law_store hr rfl (pa_cons (pv 1) (pa_cons (pe_callB call_len_seq rfl B.len bt_len (pa_cons (pv 0) pa_nil)) pa_nil))))
  (pss_cons (ps_set (i := 3) sc_law.nd rfl (by first | exact Or.inl rfl | exact Or.inr rfl) (pe_callH G_law_net hr rfl (pa_cons (pv 2) (pa_cons pe_int pa_nil))))
  (pss_one (ps_if (PW.pt (pw_or (pt_not (pt_val (pe_callH G_law_right hr rfl (pa_cons (pv 2) (pa_cons (pv 3) pa_nil))))) (pw_or1 (pt_not (pt_val (pe_callH G_law_few_right hr rfl (pa_cons (pe_callH G_law_cut hr rfl (pa_cons (pv 3) (pa_cons pe_int pa_nil))) pa_nil)))))))
  (pss_one (ps_ret pe_bl))
  pss_nil)))))
  (pss_cons (ps_set (i := 2) sc_law.nd rfl (by first | exact Or.inl rfl | exact Or.inr rfl) (pe_callH G_law_store hr rfl (pa_cons (pe_callB call_len_seq rfl B.len bt_len (pa_cons (pv 0) pa_nil)) (pa_cons pe_int pa_nil))))
  (pss_cons (ps_set (i := 4) sc_law.nd rfl (by first | exact Or.inl rfl | exact Or.inr rfl) (pe_callTy call_tuple_of rfl B.tuple_ bt_tuple (pa_cons (pe_comp rfl (pi_range1 rfl B.range (pa_cons pe_int pa_nil)) (NL := ["k"]) (ix := []) (csc (defScope s_law) N_law) (fun cl C s₃ H₃ fp pins => ⟨(pg_name (i := 0) (show List.Nodup (["k"] : List Str) from by decide +kernel) rfl (by first | exact Or.inl rfl | exact Or.inr rfl)), pifs_nil, (pe_tup (pa_cons (pe_ix ix_str pe_str (pe_op op_mod (pv 0) pe_int) (fun _ _ => rfl)) (pa_cons (pe_op (op_repT0 K) (pe_tup (pa_cons (pe_callB (call_max2 rfl) rfl B.max bt_max (pa_cons pe_int (pa_cons (pe_op op_sub (pv 0) pe_int) pa_nil))) pa_nil)) (pe_op op_mul pe_int (pe_callTy call_int1 rfl B.int_ bt_int (pa_cons (pe_cmpR op_gt (pv 0) pe_int (nomark _)) pa_nil)))) pa_nil)))⟩)) pa_nil)))
  (pss_one (ps_ret (pe_and (pe_callH G_law_right hr rfl (pa_cons (pv 2) (pa_cons (pv 4) pa_nil))) (pe_one (pe_callH G_law_right hr rfl (pa_cons (pv 2) (pa_cons (pe_tup (pa_cons (pe_tup (pa_cons pe_str (pa_cons (pe_tup pa_nil) pa_nil))) pa_nil)) pa_nil)))))))))), ?_⟩
  refine ⟨_, rfl, _, rfl, a, _, rfl, hS, fun r1 hr1 => ?_⟩
  obtain ⟨zs, ez, zl⟩ : ∃ zs : List Int, cutV (ns.map V.int) none (some 6) = zs.map V.int ∧ zs.length ≤ 63 := by
    refine ⟨(ns.drop (HT.sIx (ns.map V.int).length 0 none)).take (HT.sIx (ns.map V.int).length (ns.map V.int).length (some 6) - HT.sIx (ns.map V.int).length 0 none), ?_, ?_⟩
    · unfold cutV; rw [List.map_take, List.map_drop]
    · rw [List.length_take, List.length_drop]; omega
  rw [ez]
  have s1 : Same H (upd H r1 (.lst (zs.map V.int))) := (Same.refl H).new hr1
  have h1a : upd H r1 (.lst (zs.map V.int)) r1 = some (.lst (zs.map V.int)) := upd_same
  show (fun HH => _) (upd H r1 (.lst (zs.map V.int)))
  generalize upd H r1 (.lst (zs.map V.int)) = H1 at s1 h1a
  refine ⟨_, rfl, a, _, rfl, .inl (SqL.keepS hS s1), (by show 1 ≤ sizeLine; decide), fun r2 hr2 => ?_⟩
  rw [List.length_map]
  have s2 : Same H1 (upd H1 r2 (.lst [.int (ns.length : Int)])) := (Same.refl H1).new hr2
  have h2a : upd H1 r2 (.lst [.int (ns.length : Int)]) r2 = some (.lst [.int (ns.length : Int)]) := upd_same
  show (fun HH => _) (upd H1 r2 (.lst [.int (ns.length : Int)]))
  generalize upd H1 r2 (.lst [.int (ns.length : Int)]) = H2 at s2 h2a
  refine ⟨r1, r2, _, _, rfl, rfl, s2 _ _ h1a, h2a, by rw [List.length_map]; show _ + 1 ≤ _; exact Nat.le_of_lt (small1000 (by omega)), fun r hr3 => ?_⟩
  have s3 : Same H2 (upd H2 r (.lst (zs.map V.int ++ [.int (ns.length : Int)]))) := (Same.refl H2).new hr3
  have h3a : upd H2 r (.lst (zs.map V.int ++ [.int (ns.length : Int)])) r = some (.lst (zs.map V.int ++ [.int (ns.length : Int)])) := upd_same
  show (fun HH => _) (upd H2 r (.lst (zs.map V.int ++ [.int (ns.length : Int)])))
  generalize upd H2 r (.lst (zs.map V.int ++ [.int (ns.length : Int)])) = H3 at s3 h3a
  have s03 : Same H H3 := (s1.trans s2).trans s3
  refine ⟨r, rfl, ⟨_, SqL.of h3a⟩, ?_⟩
  refine for_list (K := K) (xs := zs.map V.int ++ [.int (ns.length : Int)]) (fun i σ HX => ∃ o1 o2 o3 : Option V, σ = [some (.ref a), o1, o2, o3, none] ∧ Same H3 HX) ⟨none, none, none, rfl, Same.refl H3⟩ (fun i σ HX _ h => by obtain ⟨_, _, _, _, s⟩ := h; exact SqL.of (s _ _ h3a)) ?_ ?_
  · rintro i x σ HX hx ⟨o1, o2, o3, rfl, sX⟩
    obtain ⟨cell, rfl⟩ : ∃ cell : Int, x = .int cell := by
      have := List.mem_of_getElem? hx
      rcases List.mem_append.mp this with m | m
      · obtain ⟨c, _, rfl⟩ := List.mem_map.mp m; exact ⟨c, rfl⟩
      · exact ⟨_, List.mem_singleton.mp m⟩
    have s0X := s03.trans sX
    refine ⟨_, rfl, _, rfl, a, _, rfl, .inl (SqL.keepS hS s0X), cell, _, rfl, by rw [List.length_map]; omega, by rw [List.length_map]; omega, fun p G1 fp e1 dk => ?_⟩
    rw [List.length_map] at dk
    refine ⟨_, rfl, p, _, rfl, dk, by omega, by omega, fun t net G2 kd n2 ok => ?_⟩
    have e2 : Same HX G2 := fun b o e => kd.keep b o (ne_of_none e fp) (e1 b o e)
    refine ⟨_, rfl, _, rfl, p, t, net, _, rfl, kd.deck, by omega, by omega, n2, ok, fun G3 kd3 => ?_⟩
    have e3 : Same HX G3 := fun b o e => kd3.keep b o (ne_of_none e fp) (e2 b o e)
    have n3 := n2.kd kd.deck kd3
    refine ⟨_, rfl, iteF ?_⟩
    refine ⟨_, rfl, t, net, 200, rfl, n3, ok, by decide, fun tc nc G4 e4 n4 okc szc => ?_⟩
    refine ⟨tc, nc, rfl, n4, okc, szc, fun G5 e5 => ⟨_, rfl, iteF ?_⟩⟩
    exact ⟨_, _, _, rfl, ((sX.trans e3).trans e4).trans e5⟩
  · rintro σ HX ⟨o1, o2, o3, rfl, sX⟩
    have s0X := s03.trans sX
    refine ⟨_, rfl, a, _, rfl, .inl (SqL.keepS hS s0X), _, _, rfl, by decide, by decide, fun p G1 fp e1 dk => ?_⟩
    refine ⟨_, rfl, by decide, by decide, fun acc hacc => ?_⟩
    refine comp_by 60 (by decide) (fun j ys HX => ∃ as : List Addr, HX acc = some (.lst ys) ∧ ys = as.map V.ref ∧ KnotsAt HX as (deepN j) ∧ Same G1 HX) (fun j ys HX h => by
      obtain ⟨as, a1, rfl, a2, _⟩ := h
      have := a2.1
      have l : (deepN j).length = j := by unfold deepN; simp
      exact ⟨a1, by rw [List.length_map]; omega⟩) ⟨[], upd_same, rfl, ⟨rfl, fun i a kn x y => by cases x⟩, (Same.refl G1).new hacc⟩ ?_ ?_
    rotate_left
    · rintro j ys HY hj ⟨as, a1, rfl, a2, a3⟩
      refine ⟨hj, ?_⟩
      rintro x H'' ⟨rfl, rfl⟩
      refine ⟨rfl, ?_⟩
      have e0 : (0 + (j : Int)) = (j : Int) := by omega
      rw [e0]
      refine ⟨_, rfl, _, _, rfl, rfl, (by show (0 : Int) < 2; decide), _, _, _, rfl, rfl, (by decide +kernel), ab_at j, ?_⟩
      refine ⟨_, rfl, _, _, rfl, rfl, _, _, rfl, (by show 1 ≤ sizeLine; decide), fun b1 hb1 => ?_⟩
      generalize hg1 : upd H'' b1 _ = Y1
      have u1 : Same H'' Y1 := by rw [← hg1]; exact (Same.refl H'').new hb1
      have c1 : Y1 b1 = some (.tup [.int (((j - 1 : Nat) : Int))]) := by
        rw [← hg1, upd_same]
        show some (HO.tup [.int (if (j : Int) - 1 > 0 then (j : Int) - 1 else 0)]) = _
        rw [show (if (j : Int) - 1 > 0 then (j : Int) - 1 else 0) = (((j - 1 : Nat) : Int)) by split <;> omega]
      clear hg1
      refine ⟨_, rfl, _, _, rfl, rfl, .inr ⟨_, rfl, ?_⟩⟩
      have kk : (60 : Int) * (if decide ((0 : Int) < (j : Int)) = true then 1 else 0) = (((if j = 0 then 0 else 60 : Nat) : Nat) : Int) := by
        by_cases z : j = 0
        · subst z; rfl
        · rw [if_pos (by simp; omega), if_neg z]; rfl
      refine ⟨_, _, rfl, rfl, .inl ⟨by decide, by decide⟩, ?_⟩
      refine ⟨b1, _, .int (((j - 1 : Nat) : Int)), rfl, rfl, SqT.of c1, by split <;> decide, by split <;> decide, fun b2 hb2 => ?_⟩
      rw [kk]
      generalize hg2 : upd Y1 b2 _ = Y2
      have u2 : Same Y1 Y2 := by rw [← hg2]; exact (Same.refl Y1).new hb2
      have c2 : Y2 b2 = some (.tup ((dkn j).2.map V.int)) := by rw [← hg2, upd_same]; unfold dkn; rw [List.map_replicate]; rfl
      clear hg2
      refine ⟨(by show 2 ≤ sizeLine; decide), fun b3 hb3 => ?_⟩
      generalize hg3 : upd Y2 b3 _ = Y3
      have u3 : Same Y2 Y3 := by rw [← hg3]; exact (Same.refl Y2).new hb3
      have c3 : Y3 b3 = some (.tup [.str ⟨#[(dkn j).1]⟩, .ref b2]) := by rw [← hg3, upd_same]; rfl
      clear hg3
      have u03 : Same H'' Y3 := (u1.trans u2).trans u3
      have kn3 : KnotsAt Y3 (as ++ [b3]) (deepN (j + 1)) := by rw [deep_succ]; exact (a2.same u03).snoc ⟨b2, c3, u3 _ _ c2⟩
      refine ⟨u03 _ _ a1, as ++ [b3], upd_same, by rw [List.map_append]; rfl, kn3.tups fun z zs e => ?_, fun z o e => ?_⟩
      · have : z ≠ acc := fun h => by subst h; rw [u03 _ _ a1] at e; cases e
        rw [upd_ne this]; exact e
      · rw [upd_ne (fun h => by subst h; rw [hacc] at e; cases e)]
        exact u03 _ _ (a3 _ _ e)
    rintro ys H4 ⟨as, a1, rfl, a2, a3⟩
    refine ⟨Nat.le_refl _, ?_⟩
    refine ⟨acc, _, rfl, .inl ⟨SqL.of a1, fun t ht => ?_⟩⟩
    have s5 : Same H4 (upd H4 t (.tup (as.map V.ref))) := (Same.refl H4).new ht
    have h5 : upd H4 t (.tup (as.map V.ref)) t = some (.tup (as.map V.ref)) := upd_same
    show (fun HH => _) (upd H4 t (.tup (as.map V.ref)))
    generalize upd H4 t (.tup (as.map V.ref)) = H5 at s5 h5
    have nt : NetAt H5 t (deepN 60) := ⟨as, h5, a2.same s5⟩
    have k5 : Kd p 3 H5 H5 := Kd.refl (by exact ((Kd.refl dk).same (a3.trans s5)).deck)
    refine ⟨_, rfl, _, rfl, p, t, _, _, rfl, k5.deck, by omega, by omega, nt, deep_ok, fun H6 kd6 => ?_⟩
    refine ⟨_, rfl, ?_⟩
    refine iteT ?_
    have k6 : Kd p 103 H5 H6 := kd6.mono (by omega)
    refine ⟨_, rfl, (by show 0 ≤ sizeLine; decide), fun d1 hd1 => ?_⟩
    generalize hgl7 : upd H6 d1 _ = L7
    have sl7 : Same H6 L7 := by rw [← hgl7]; exact (Same.refl _).new hd1
    have hl7a : L7 d1 = some (.tup []) := by rw [← hgl7, upd_same]
    clear hgl7
    refine ⟨(by show 2 ≤ sizeLine; decide), fun d2 hd2 => ?_⟩
    generalize hgl8 : upd L7 d2 _ = L8
    have sl8 : Same L7 L8 := by rw [← hgl8]; exact (Same.refl _).new hd2
    have hl8a : L8 d2 = some (.tup [.str ⟨#[122]⟩, .ref d1]) := by rw [← hgl8, upd_same]; first | done | rfl
    clear hgl8
    refine ⟨(by show 1 ≤ sizeLine; decide), fun d3 hd3 => ?_⟩
    generalize hgl9 : upd L8 d3 _ = L9
    have sl9 : Same L8 L9 := by rw [← hgl9]; exact (Same.refl _).new hd3
    have hl9a : L9 d3 = some (.tup [.ref d2]) := by rw [← hgl9, upd_same]
    clear hgl9
    have nz : NetAt L9 d3 [(122, [])] := net_one hl9a (sl9 _ _ hl8a) (sl9 _ _ (sl8 _ _ hl7a))
    exact ⟨p, d3, _, _, rfl, (k6.same ((sl7.trans sl8).trans sl9)).deck, by omega, by omega, nz, ok_one 122 ⟨by decide, by decide⟩, fun Z z => q Z⟩
end
end S48
namespace S48
open PySem L2 W7
theorem df_mk {K : PySem.W.Frag} {h : Heap} {mg : Str → Option Value} {x : Str} {st : Stmt} {f : Addr} {oc : Value} {od an : Option Addr} {osl : Array (Option Value)} {kV doc pm cdv ct : Value} (X : K.In h) (G : h.Ns mainGlobals mg)
    (a : PySem.W.nsIn K mainGlobals x = some (some (.ref f))) (l : K.lookup f = some ⟨oc, od, .func (PySem.W.fnOf x x (defArgs st) (defBody st) (defScope st) .none kV doc pm an cdv ct), osl⟩) (c : PySem.W.codeIn K cdv x = true) (kk : PySem.W.keepIn K (.ref f) = true) : Df K mg x st :=
  ⟨f, _, fun_mk l c kk, PySem.W.mg_of X G a⟩
def exs_mk {K : PySem.W.Frag} {h : Heap} {mg : Str → Option Value} (X : K.In h) (G : h.Ns mainGlobals mg) {UpError NoPlace NoNumber NoWord NoText TooMany NoTree : Addr}
    (a_UpError : PySem.W.nsIn K mainGlobals "UpError" = some (some (.ref UpError)))
    (a_NoPlace : PySem.W.nsIn K mainGlobals "NoPlace" = some (some (.ref NoPlace)))
    (a_NoNumber : PySem.W.nsIn K mainGlobals "NoNumber" = some (some (.ref NoNumber)))
    (a_NoWord : PySem.W.nsIn K mainGlobals "NoWord" = some (some (.ref NoWord)))
    (a_NoText : PySem.W.nsIn K mainGlobals "NoText" = some (some (.ref NoText)))
    (a_TooMany : PySem.W.nsIn K mainGlobals "TooMany" = some (some (.ref TooMany)))
    (a_NoTree : PySem.W.nsIn K mainGlobals "NoTree" = some (some (.ref NoTree)))
    (q_NoPlace : PySem.W.excIn K NoPlace bmV "ValueError.__new__" = true)
    (ga_NoPlace : PySem.W.findIn K (.ref NoPlace) "__getattribute__" = some (some (.builtin "BaseException.__getattribute__")))
    (gn_NoPlace : PySem.W.findIn K (.ref NoPlace) "__getattr__" = some none)
    (cl_NoPlace : PySem.W.findIn K (.ref NoPlace) "__class__" = some (some (.builtin "object.__class__")))
    (ob_NoPlace : PySem.W.mroIn K NoPlace (.type "object") = some true)
    (be_NoPlace : PySem.W.mroIn K NoPlace (.type "BaseException") = some true)
    (cd_NoPlace : (PySem.W.clsIn K NoPlace).isSome = true)
    (u_NoPlace : PySem.W.exmOne K (.ref NoPlace) (.ref UpError) = some true)
    (gt : PySem.W.specialIn K (.builtin "object.__class__") "__get__" = some (some (.builtin "getset_descriptor.__get__")))
    (tk : PySem.W.takesIn K (.builtin "object.__class__") = some true)
    (p0 : PySem.W.kitOne K (.ref NoPlace) (.ref NoPlace) = some true)
    (p1 : PySem.W.kitOne K (.ref NoPlace) (.ref NoNumber) = some false)
    (p2 : PySem.W.kitOne K (.ref NoPlace) (.ref NoWord) = some false)
    (p3 : PySem.W.kitOne K (.ref NoPlace) (.ref NoText) = some false)
    (p4 : PySem.W.kitOne K (.ref NoPlace) (.ref TooMany) = some false)
    (p5 : PySem.W.kitOne K (.ref NoPlace) (.ref NoTree) = some false)
    (pv : PySem.W.kitOne K (.ref NoPlace) (.type "ValueError") = some true) : Exs K mg where
  c_UpError := UpError
  m_UpError := PySem.W.mg_of X G a_UpError
  c_NoPlace := NoPlace
  m_NoPlace := PySem.W.mg_of X G a_NoPlace
  c_NoNumber := NoNumber
  m_NoNumber := PySem.W.mg_of X G a_NoNumber
  c_NoWord := NoWord
  m_NoWord := PySem.W.mg_of X G a_NoWord
  c_NoText := NoText
  m_NoText := PySem.W.mg_of X G a_NoText
  c_TooMany := TooMany
  m_TooMany := PySem.W.mg_of X G a_TooMany
  c_NoTree := NoTree
  m_NoTree := PySem.W.mg_of X G a_NoTree
  q_NoPlace := q_NoPlace
  z_NoPlace := ⟨ga_NoPlace, gn_NoPlace, cl_NoPlace, gt, tk, ob_NoPlace, be_NoPlace, cd_NoPlace⟩
  u_NoPlace := u_NoPlace
  p0 := p0
  p1 := p1
  p2 := p2
  p3 := p3
  p4 := p4
  p5 := p5
  pv := pv
theorem blt_mk {K : PySem.W.Frag} {h : Heap} {mg : Str → Option Value} (X : K.In h) (G : h.Ns mainGlobals mg)
    (z1 : PySem.W.nsIn K mainGlobals "len" = some none) (z2 : PySem.W.nsIn K mainGlobals "range" = some none) (z3 : PySem.W.nsIn K mainGlobals "zip" = some none) (z4 : PySem.W.nsIn K mainGlobals "enumerate" = some none)
    (z5 : PySem.W.nsIn K mainGlobals "max" = some none) (z6 : PySem.W.nsIn K mainGlobals "min" = some none) (z7 : PySem.W.nsIn K mainGlobals "int" = some none) (z8 : PySem.W.nsIn K mainGlobals "str" = some none)
    (z9 : PySem.W.nsIn K mainGlobals "bool" = some none) (z10 : PySem.W.nsIn K mainGlobals "list" = some none) (z11 : PySem.W.nsIn K mainGlobals "tuple" = some none) (z12 : PySem.W.nsIn K mainGlobals "isinstance" = some none) : Blt mg :=
  ⟨PySem.W.mg_none_of X G z1, PySem.W.mg_none_of X G z2, PySem.W.mg_none_of X G z3, PySem.W.mg_none_of X G z4, PySem.W.mg_none_of X G z5, PySem.W.mg_none_of X G z6, PySem.W.mg_none_of X G z7, PySem.W.mg_none_of X G z8,
    PySem.W.mg_none_of X G z9, PySem.W.mg_none_of X G z10, PySem.W.mg_none_of X G z11, PySem.W.mg_none_of X G z12⟩
theorem all_ok {P : Program} {w : World} {K : PySem.W.Frag} {mg : Str → Option Value} {fa : Addr} (hfa : mg "law" = some (.ref fa)) (B : Blt7 mg)
    (d1 : Df K mg "is_whole" s_is_whole) (d2 : Df K mg "is_number_below" s_is_number_below) (d3 : Df K mg "sizes_of" s_sizes_of) (d4 : Df K mg "word_in" s_word_in) (d5 : Df K mg "_law_store" s_law_store) (d6 : Df K mg "_law_draw" s_law_draw) (d7 : Df K mg "_law_net" s_law_net) (d8 : Df K mg "_law_sizes" s_law_sizes) (d9 : Df K mg "_law_cut" s_law_cut) (d10 : Df K mg "_law_unfolded" s_law_unfolded) (d11 : Df K mg "_law_far" s_law_far) (d12 : Df K mg "_law_kind" s_law_kind) (d13 : Df K mg "_law_words" s_law_words) (d14 : Df K mg "_law_word" s_law_word) (d15 : Df K mg "_law_told" s_law_told) (d16 : Df K mg "_law_few_right" s_law_few_right) (d17 : Df K mg "_law_right" s_law_right) (d18 : Df K mg "law" s_law) (EX : Exs K mg) :
    ∃ fd : FuncData, (∀ (s : Shared) (v : Value), BindsTo s fd ⟨[v], []⟩ [("script", v)]) ∧ ∀ base : Heap, FnOk P w K mg base CX0 12 fa fd ["script"] (sp_law K) := by
  obtain ⟨f, fd, F, m⟩ := d18
  have e := hfa.symm.trans m
  cases e
  refine ⟨fd, ?_, fun base => ?_⟩
  · obtain ⟨oc, od, kV, doc, pm, an, cdv, ct, osl, rfl, _, _⟩ := F.ex
    exact fun s v => .of_eq rfl
  have g_store := has_store (P := P) (w := w) (base := base) (k := 0) d5 B
  have g_draw := has_draw (P := P) (w := w) (base := base) (k := 0) d6 B
  have g_net := has_net (k := 1) d7 B g_draw
  have g_sizes := has_sizes (P := P) (w := w) (base := base) (k := 0) d3 B
  have g_lsizes := has_lsizes (P := P) (w := w) (base := base) (k := 0) d8 B
  have g_unf := has_unf (P := P) (w := w) (base := base) (k := 0) d10 B
  have g_whole := has_whole (P := P) (w := w) (base := base) (k := 0) d1 B
  have g_below := has_below (k := 1) d2 B g_whole
  have g_kind := has_kind (P := P) (w := w) (base := base) (k := 0) EX d12 B
  have g_cut := has_cut (k := 1) d9 B g_lsizes
  have g_win := has_win (k := 2) EX d4 B (g_sizes.mono (by decide)) g_below
  have g_far := has_far (k := 1) d11 B g_draw
  have g_told := has_told (k := 3) EX d15 B g_win (g_kind.mono (by decide))
  have g_words := has_words (P := P) (w := w) (base := base) (k := 0) d13 B
  have g_word := has_word (P := P) (w := w) (base := base) (k := 0) d14 B
  have g_few := has_few (k := 4) d16 B (g_unf.mono (by decide)) (g_words.mono (by decide)) g_told
  have g_right := has_right (k := 4) d17 B (g_lsizes.mono (by decide)) (g_far.mono (by decide)) g_told (g_word.mono (by decide)) (g_draw.mono (by decide))
  exact (ok_law (k := 5) F B (g_store.mono (by decide)) (g_net.mono (by decide)) (g_cut.mono (by decide)) g_few g_right).mono (by decide)
end S48
open PySem PySem.W PyProof.Rows
set_option maxRecDepth 100000 in
set_option maxHeartbeats 0 in
theorem PySem.Challenge.cw_upwords_k48_words_in_nets_holds : PySem.Challenge.rw_upwords_k48_words_in_nets.Holds := by
  w_on; o_law; k_head; (case hw => w_witness2)
  k_fill
  refine L2.walk_ofK (l := PySem.Challenge.rw_upwords_k48_words_in_nets) (n := 63) (k := 12) (x := "script") (CX := L2.CX0) (sp := S48.sp_law) rfl (by decide) rfl ⟨rfl, by decide, by decide, rfl⟩ (fun w h Y => PySem.W.kIn_of Y) ?F
    (fun K H a ns hl _ hS => ⟨a, ns, rfl, hS, hl, fun _ => rfl⟩) (fun _ _ _ _ z => z)
  case F =>
    intro w mg fa h KX G hmg
    have B : L2.Blt mg := by
      refine' S48.blt_mk KX G ?z1 ?z2 ?z3 ?z4 ?z5 ?z6 ?z7 ?z8 ?z9 ?z10 ?z11 ?z12
      (case z1 => k_is); (case z2 => k_is); (case z3 => k_is); (case z4 => k_is); (case z5 => k_is); (case z6 => k_is); (case z7 => k_is); (case z8 => k_is); (case z9 => k_is); (case z10 => k_is); (case z11 => k_is); (case z12 => k_is)
    have Bx0 : mg "sum" = none := by
      refine' PySem.W.mg_none_of KX G ?z
      (case z => k_is)
    have Bx1 : mg "ValueError" = none := by
      refine' PySem.W.mg_none_of KX G ?z
      (case z => k_is)
    have d1 : L2.Df (L2.KOf KX) mg "is_whole" S48.s_is_whole := by
      dsimp only [L2.KOf]; refine' S48.df_mk KX G ?a ?l ?c ?k
      (case a => k_is); (case l => k_is); (case c => k_is); (case k => k_is)
    have d2 : L2.Df (L2.KOf KX) mg "is_number_below" S48.s_is_number_below := by
      dsimp only [L2.KOf]; refine' S48.df_mk KX G ?a ?l ?c ?k
      (case a => k_is); (case l => k_is); (case c => k_is); (case k => k_is)
    have d3 : L2.Df (L2.KOf KX) mg "sizes_of" S48.s_sizes_of := by
      dsimp only [L2.KOf]; refine' S48.df_mk KX G ?a ?l ?c ?k
      (case a => k_is); (case l => k_is); (case c => k_is); (case k => k_is)
    have d4 : L2.Df (L2.KOf KX) mg "word_in" S48.s_word_in := by
      dsimp only [L2.KOf]; refine' S48.df_mk KX G ?a ?l ?c ?k
      (case a => k_is); (case l => k_is); (case c => k_is); (case k => k_is)
    have d5 : L2.Df (L2.KOf KX) mg "_law_store" S48.s_law_store := by
      dsimp only [L2.KOf]; refine' S48.df_mk KX G ?a ?l ?c ?k
      (case a => k_is); (case l => k_is); (case c => k_is); (case k => k_is)
    have d6 : L2.Df (L2.KOf KX) mg "_law_draw" S48.s_law_draw := by
      dsimp only [L2.KOf]; refine' S48.df_mk KX G ?a ?l ?c ?k
      (case a => k_is); (case l => k_is); (case c => k_is); (case k => k_is)
    have d7 : L2.Df (L2.KOf KX) mg "_law_net" S48.s_law_net := by
      dsimp only [L2.KOf]; refine' S48.df_mk KX G ?a ?l ?c ?k
      (case a => k_is); (case l => k_is); (case c => k_is); (case k => k_is)
    have d8 : L2.Df (L2.KOf KX) mg "_law_sizes" S48.s_law_sizes := by
      dsimp only [L2.KOf]; refine' S48.df_mk KX G ?a ?l ?c ?k
      (case a => k_is); (case l => k_is); (case c => k_is); (case k => k_is)
    have d9 : L2.Df (L2.KOf KX) mg "_law_cut" S48.s_law_cut := by
      dsimp only [L2.KOf]; refine' S48.df_mk KX G ?a ?l ?c ?k
      (case a => k_is); (case l => k_is); (case c => k_is); (case k => k_is)
    have d10 : L2.Df (L2.KOf KX) mg "_law_unfolded" S48.s_law_unfolded := by
      dsimp only [L2.KOf]; refine' S48.df_mk KX G ?a ?l ?c ?k
      (case a => k_is); (case l => k_is); (case c => k_is); (case k => k_is)
    have d11 : L2.Df (L2.KOf KX) mg "_law_far" S48.s_law_far := by
      dsimp only [L2.KOf]; refine' S48.df_mk KX G ?a ?l ?c ?k
      (case a => k_is); (case l => k_is); (case c => k_is); (case k => k_is)
    have d12 : L2.Df (L2.KOf KX) mg "_law_kind" S48.s_law_kind := by
      dsimp only [L2.KOf]; refine' S48.df_mk KX G ?a ?l ?c ?k
      (case a => k_is); (case l => k_is); (case c => k_is); (case k => k_is)
    have d13 : L2.Df (L2.KOf KX) mg "_law_words" S48.s_law_words := by
      dsimp only [L2.KOf]; refine' S48.df_mk KX G ?a ?l ?c ?k
      (case a => k_is); (case l => k_is); (case c => k_is); (case k => k_is)
    have d14 : L2.Df (L2.KOf KX) mg "_law_word" S48.s_law_word := by
      dsimp only [L2.KOf]; refine' S48.df_mk KX G ?a ?l ?c ?k
      (case a => k_is); (case l => k_is); (case c => k_is); (case k => k_is)
    have d15 : L2.Df (L2.KOf KX) mg "_law_told" S48.s_law_told := by
      dsimp only [L2.KOf]; refine' S48.df_mk KX G ?a ?l ?c ?k
      (case a => k_is); (case l => k_is); (case c => k_is); (case k => k_is)
    have d16 : L2.Df (L2.KOf KX) mg "_law_few_right" S48.s_law_few_right := by
      dsimp only [L2.KOf]; refine' S48.df_mk KX G ?a ?l ?c ?k
      (case a => k_is); (case l => k_is); (case c => k_is); (case k => k_is)
    have d17 : L2.Df (L2.KOf KX) mg "_law_right" S48.s_law_right := by
      dsimp only [L2.KOf]; refine' S48.df_mk KX G ?a ?l ?c ?k
      (case a => k_is); (case l => k_is); (case c => k_is); (case k => k_is)
    have d18 : L2.Df (L2.KOf KX) mg "law" S48.s_law := by
      dsimp only [L2.KOf]; refine' S48.df_mk KX G ?a ?l ?c ?k
      (case a => k_is); (case l => k_is); (case c => k_is); (case k => k_is)
    have EX : S48.Exs (L2.KOf KX) mg := by
      dsimp only [L2.KOf]; refine' S48.exs_mk KX G ?a_UpError ?a_NoPlace ?a_NoNumber ?a_NoWord ?a_NoText ?a_TooMany ?a_NoTree ?q_NoPlace ?ga_NoPlace ?gn_NoPlace ?cl_NoPlace ?ob_NoPlace ?be_NoPlace ?cd_NoPlace ?u_NoPlace ?gt ?tk ?p0 ?p1 ?p2 ?p3 ?p4 ?p5 ?pv
      (case a_UpError => k_is); (case a_NoPlace => k_is); (case a_NoNumber => k_is); (case a_NoWord => k_is); (case a_NoText => k_is); (case a_TooMany => k_is); (case a_NoTree => k_is); (case q_NoPlace => first | k_exc | k_is); (case ga_NoPlace => k_is); (case gn_NoPlace => k_is); (case cl_NoPlace => k_is); (case ob_NoPlace => k_is); (case be_NoPlace => k_is); (case cd_NoPlace => first | k_is | kernel_rfl); (case u_NoPlace => first | k_is | kernel_rfl); (case gt => k_is); (case tk => k_is); (case p0 => first | k_is | kernel_rfl); (case p1 => first | k_is | kernel_rfl); (case p2 => first | k_is | kernel_rfl); (case p3 => first | k_is | kernel_rfl); (case p4 => first | k_is | kernel_rfl); (case p5 => first | k_is | kernel_rfl); (case pv => first | k_is | kernel_rfl)
    obtain ⟨fd, h1, h2⟩ := S48.all_ok (P := PySem.Challenge.rw_upwords_k48_words_in_nets.prog) (w := w) hmg ⟨B, Bx0, Bx1⟩ d1 d2 d3 d4 d5 d6 d7 d8 d9 d10 d11 d12 d13 d14 d15 d16 d17 d18 EX
    exact ⟨fd, h1, fun base _ _ => h2 base⟩
