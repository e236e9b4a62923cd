import PyProof.Rows.All
import Wide.All
import OpenK.AllK
import Wide.FinOn
import Lean
import PyProof.EqAt
import PyProof.EqKinds
import PyProof.TupleCall
import KE.KSortTup
import KE.KLam
import PyProof.ListRange
import KE.KDictOf
import PyProof.DictWalks
import PyProof.AttrMissSeq
import KE.KDictSum
import KE.KTryOn
import PyProof.NsDelKeeps
import PyProof.ExcAttrAll.ValueError
import PyProof.StrBlock
import PyProof.StrLaws
import PySem.Challenge.RW_upwords_k20_no_such_word_or_number
set_option Elab.async false
set_option linter.all false
set_option maxRecDepth 100000
namespace L2
open PySem PySem.Spec PyProof.Rows
abbrev Key := Sum Int Str
def keyIs : Key → Value → Bool
  | .inl k, v => Value.isInt k v
  | .inr x, v => Value.isStrOf x v
def keyH (w : World) : Key → Int
  | .inl k => hashInt k
  | .inr x => hashStr w x
theorem keyIs_shape : ∀ {k : Key} {v : Value}, keyIs k v = true → (∃ i t, k = Sum.inl i ∧ v = Value.int i t) ∨ (∃ x t, k = Sum.inr x ∧ v = Value.str x t)
  | .inl i, v, h => by
    obtain ⟨t, e⟩ := Value.isInt_shape (k := i) (v := v) h
    exact .inl ⟨i, t, rfl, e⟩
  | .inr x, v, h => by
    obtain ⟨t, e⟩ := Value.isStrOf_shape (x := x) (v := v) h
    exact .inr ⟨x, t, rfl, e⟩
theorem keyIs_int (i : Int) (t : Tok) : keyIs (.inl i) (.int i t) = true := by simp [keyIs, Value.isInt]
theorem keyIs_str (x : Str) (t : Tok) : keyIs (.inr x) (.str x t) = true := by simp [keyIs, Value.isStrOf]
theorem key_ll (a b : Int) : decide ((Sum.inl a : Key) = Sum.inl b) = (a == b) := by
  by_cases e : a = b
  · subst e; simp
  · have h : ¬ (Sum.inl a : Key) = Sum.inl b := fun q => e (Sum.inl.inj q)
    rw [decide_eq_false h]
    exact (beq_eq_false_iff_ne.mpr e).symm
theorem key_rr (a b : Str) : decide ((Sum.inr a : Key) = Sum.inr b) = decide (a = b) := by
  by_cases e : a = b
  · subst e; simp
  · have h : ¬ (Sum.inr a : Key) = Sum.inr b := fun q => e (Sum.inr.inj q)
    rw [decide_eq_false h, decide_eq_false e]
theorem key_lr (a : Int) (b : Str) : decide ((Sum.inl a : Key) = Sum.inr b) = false := decide_eq_false (fun q => nomatch q)
theorem key_rl (a : Str) (b : Int) : decide ((Sum.inr a : Key) = Sum.inl b) = false := decide_eq_false (fun q => nomatch q)
def mixKind (prog : Program) (w : World) : PySem.KeyKind prog w Key where
  is := keyIs
  hash := keyH w
  inj := fun v a b ha hb => by
    rcases keyIs_shape ha with ⟨i, t, rfl, rfl⟩ | ⟨x, t, rfl, rfl⟩
    · rcases keyIs_shape hb with ⟨j, u, rfl, e⟩ | ⟨y, u, rfl, e⟩
      · injection e with e1 _; rw [e1]
      · exact nomatch e
    · rcases keyIs_shape hb with ⟨j, u, rfl, e⟩ | ⟨y, u, rfl, e⟩
      · exact nomatch e
      · injection e with e1 _; rw [e1]
  byValue := fun k v h => by
    rcases keyIs_shape h with ⟨i, t, rfl, rfl⟩ | ⟨x, t, rfl, rfl⟩ <;> rfl
  pyHash := fun hv h => by
    rcases keyIs_shape hv with ⟨i, t, rfl, rfl⟩ | ⟨x, t, rfl, rfl⟩
    · exact wpAny_pyHash_int h
    · exact wpAny_pyHash_str h
  eqBool := fun hu hv h => by
    rcases keyIs_shape hu with ⟨i, t, rfl, rfl⟩ | ⟨x, t, rfl, rfl⟩
    · rcases keyIs_shape hv with ⟨j, u, rfl, rfl⟩ | ⟨y, u, rfl, rfl⟩
      · rw [key_ll] at h; exact wpAny_eqBool_int h
      · rw [key_lr] at h; exact SeqAt.EqAt.int_str i t y u _ _ _ _ h
    · rcases keyIs_shape hv with ⟨j, u, rfl, rfl⟩ | ⟨y, u, rfl, rfl⟩
      · rw [key_rl] at h; exact SeqAt.EqAt.str_int x t j u _ _ _ _ h
      · rw [key_rr] at h; exact wpAny_eqBool_str h
  «strs» := fun k x t v h => by
    rcases keyIs_shape h with ⟨i, u, rfl, e⟩ | ⟨y, u, rfl, e⟩
    · exact nomatch e
    · injection e with e1 _
      subst e1
      cases v <;> rfl
theorem mixKind_int (prog : Program) (w : World) (i : Int) (t : Tok) : (mixKind prog w).is (.inl i) (.int i t) = true := keyIs_int i t
theorem mixKind_str (prog : Program) (w : World) (x : Str) (t : Tok) : (mixKind prog w).is (.inr x) (.str x t) = true := keyIs_str x t
end L2
namespace L2
open PySem PySem.Spec PyProof.Rows
inductive V where
  | non | bl (b : Bool) | int (i : Int) | str (x : Str) | byt (b : Array UInt8) | flt (b : UInt64) | ref (a : Addr) | ty (n : String)
  deriving DecidableEq
def RelV : V → Value → Prop
  | .non, u => u = Value.none
  | .bl b, u => u = Value.bool b
  | .int i, u => ∃ t, u = Value.int i t
  | .str x, u => ∃ t, u = Value.str x t
  | .byt b, u => ∃ t, u = Value.bytes b t
  | .flt b, u => ∃ t, u = Value.float b t
  | .ref a, u => u = Value.ref a
  | .ty n, u => u = Value.type n
abbrev Vals : List V → List Value → Prop := Paired RelV
theorem Vals.length {xs : List V} {us : List Value} (r : Vals xs us) : xs.length = us.length := Paired.length r
theorem Vals.get : ∀ {xs : List V} {us : List Value} {i : Nat} {x : V}, Vals xs us → xs[i]? = some x → ∃ u, us[i]? = some u ∧ RelV x u
  | _, _, _, _, .nil, e => by simp at e
  | _, _, 0, _, .cons r _, e => by simp at e; subst e; exact ⟨_, rfl, r⟩
  | _, _, i + 1, x, .cons _ t, e => by
    obtain ⟨u, h1, h2⟩ := Vals.get (i := i) (x := x) t (by simpa using e)
    exact ⟨u, by simpa using h1, h2⟩
theorem Vals.set {x : V} {u : Value} (r : RelV x u) : ∀ {xs : List V} {us : List Value} (i : Nat), Vals xs us → Vals (xs.set i x) (us.set i u)
  | _, _, _, .nil => .nil
  | _, _, 0, .cons _ t => .cons r t
  | _, _, i + 1, .cons q t => .cons q (Vals.set r i t)
theorem Vals.append : ∀ {xs ys : List V} {us ws : List Value}, Vals xs us → Vals ys ws → Vals (xs ++ ys) (us ++ ws)
  | _, _, _, _, .nil, s => s
  | _, _, _, _, .cons r t, s => .cons r (Vals.append t s)
theorem Vals.take : ∀ {xs : List V} {us : List Value} (n : Nat), Vals xs us → Vals (xs.take n) (us.take n)
  | _, _, 0, _ => .nil
  | _, _, _ + 1, .nil => .nil
  | _, _, n + 1, .cons r t => .cons r (Vals.take n t)
theorem Vals.drop : ∀ {xs : List V} {us : List Value} (n : Nat), Vals xs us → Vals (xs.drop n) (us.drop n)
  | _, _, 0, r => r
  | _, _, _ + 1, .nil => .nil
  | _, _, n + 1, .cons _ t => Vals.drop n t
def RelO : Option V → Option Value → Prop
  | some v, some u => RelV v u
  | none, none => True
  | _, _ => False
def KV {κ : Type} : List (κ × V) → List (κ × Value) → Prop := Paired fun (p : κ × V) (q : κ × Value) => p.1 = q.1 ∧ RelV p.2 q.2
def kV : Key → V
  | .inl i => .int i
  | .inr x => .str x
inductive HO where
    | lst (xs : List V)
    | tup (xs : List V)
    | dK (kvs : List (Key × V)) | dT (kvs : List (List Key × V))
    | set (S : Int → Bool) (n : Nat)
    | ins (C dx : Addr) (fs : List (Str × V))
    | own (x : Addr)
    | xd (fs : List (Str × V))
    | met (f x : Addr)
    | rng (lo hi : Int)
    | frz (o : Obj) (u : HO)
    | tbl (ps : Array Value)
    | ext (φ : Heap → Prop)
abbrev Hp := Addr → Option HO
def upd (H : Hp) (a : Addr) (o : HO) : Hp := fun b => if b = a then some o else H b
theorem upd_same {H : Hp} {a : Addr} {o : HO} : upd H a o a = some o := by unfold upd; rw [if_pos rfl]
theorem upd_ne {H : Hp} {a b : Addr} {o : HO} (h : b ≠ a) : upd H a o b = H b := by unfold upd; rw [if_neg h]
theorem upd_upd {H : Hp} {a : Addr} {o u : HO} : upd (upd H a o) a u = upd H a u := by
  funext b; unfold upd; split <;> rfl
theorem ne_of {H : Hp} {a b : Addr} {o u : HO} (h : H a = some o) (h' : H b = some u) (d : o ≠ u) : a ≠ b := by
  intro e; subst e; rw [h] at h'; exact d (Option.some.inj h')
theorem ne_of_none {H : Hp} {a b : Addr} {o : HO} (h : H a = some o) (h' : H b = none) : a ≠ b := by
  intro e; subst e; rw [h] at h'; cases h'
section
variable (P : Program) (w : World)
def ObjOk (H : Hp) (h : Heap) (a : Addr) : HO → Prop
  | .lst xs => xs.length ≤ sizeLine ∧ ∃ (its : List Value) (n : Nat), Vals xs its ∧ h.get? a = some { cls := .type "list", data := .seq its.toArray n }
  | .tup xs => (xs.length ≤ sizeLine ∧ ∃ o, h.get? a = some o ∧ o.dict = none) ∧ ∃ its : List Value, Vals xs its ∧ IsTup h a its.toArray
  | .dK kvs => kvs.length ≤ sizeLine ∧ (a == sysModules) = false ∧ ∃ vs, KV kvs vs ∧ h.DictOf (mixKind P w) a vs
  | .dT kvs => kvs.length ≤ sizeLine ∧ (a == sysModules) = false ∧ ∃ xs : List (List Key × Addr × Value),
      Paired (fun (p : List Key × V) (q : List Key × Addr × Value) => p.1 = q.1 ∧ H q.2.1 = some (.tup (p.1.map kV)) ∧ RelV p.2 q.2.2) kvs xs ∧
      ∃ o es ep, h.get? a = some o ∧ o.ExactDict ∧ o.data = .dict es ep ∧ es.toList = xs.map (entryOfKey (tupleKind (mixKind P w))) ∧ (xs.map (·.1)).Nodup
  | .set S n => h.SetOf (intKind P w) a S n
  | .ins C dx fs => H dx = some (.own a) ∧ fs.length ≤ 1000 ∧ dx ≠ a ∧ h.get? a = some (PySem.W.instObj C dx) ∧
      ∃ mA, h.Ns1 dx mA ∧ (∀ f, RelO (fs.lookup f) (mA f)) ∧ PySem.Within mA (fs.map (·.1))
  | .own _ => ∃ o, h.get? a = some o
  | .xd fs => ∃ mA, h.Ns1 a mA ∧ ∀ f, RelO (fs.lookup f) (mA f)
  | .rng lo hi => ∃ t u v, h.get? a = some { cls := .type "range", data := .fields #[.int lo t, .int hi u, .int 1 v] }
  | .frz o u => h.get? a = some o ∧ ObjOk H h a u
  | .tbl ps => h.get? a = some { cls := .none, data := .fields ps }
  | .met f x => h.get? a = some (PySem.W.methodObj (.ref f) (.ref x))
  | .ext φ => φ h ∧ (∃ o, h.get? a = some o) ∧ ∀ h1 h2 : Heap, φ h1 → (∀ o, h1.get? a = some o → h2.get? a = some o) → φ h2
def HOk (H : Hp) (h : Heap) : Prop := ∀ a o, H a = some o → ObjOk P w H h a o
end
section
variable {P : Program} {w : World} {H H' : Hp} {h h' : Heap} {a : Addr} {o : HO}
theorem ObjOk.lt (x : ObjOk P w H h a o) : a < h.objs.size := by
  cases o with
  | lst xs => obtain ⟨_, _, _, _, e⟩ := x; exact Heap.lt_size e
  | tup xs => obtain ⟨_, _, _, p⟩ := x; exact p.lt
  | dK kvs => obtain ⟨_, _, _, _, o, _, _, e, _⟩ := x; exact Heap.lt_size e
  | dT kvs => obtain ⟨_, _, _, _, o, _, _, e, _⟩ := x; exact Heap.lt_size e
  | set S n => obtain ⟨o, _, _, _, e, _⟩ := x; exact Heap.lt_size e
  | ins C dx fs => obtain ⟨_, _, _, e, _⟩ := x; exact Heap.lt_size e
  | own y => obtain ⟨_, e⟩ := x; exact Heap.lt_size e
  | xd fs => obtain ⟨_, ⟨_, _, _, e, _⟩, _⟩ := x; exact Heap.lt_size e
  | rng lo hi => obtain ⟨_, _, _, e⟩ := x; exact Heap.lt_size e
  | frz ob u => obtain ⟨e, _⟩ := x; exact Heap.lt_size e
  | tbl ps => exact Heap.lt_size (show h.get? a = some _ from x)
  | met f y => exact Heap.lt_size (show h.get? a = some _ from x)
  | ext φ => obtain ⟨_, ⟨_, e⟩, _⟩ := x; exact Heap.lt_size e
theorem Paired.mapP {α β : Type} {F G : α → β → Prop} : ∀ {l₁ : List α} {l₂ : List β}, Paired F l₁ l₂ → (∀ a b, F a b → G a b) → Paired G l₁ l₂
  | _, _, .nil, _ => .nil
  | _, _, .cons r t, f => .cons (f _ _ r) (Paired.mapP t f)
theorem ObjOk.stay (x : ObjOk P w H h a o) (k : ∀ b u, (b = a ∨ H b = some (.own a)) → h.get? b = some u → h'.get? b = some u)
    (ho : ∀ b, H b = some (.own a) → H' b = some (.own a)) (ht : ∀ b xs, H b = some (.tup xs) → H' b = some (.tup xs)) : ObjOk P w H' h' a o := by
  induction o with
  | lst xs => obtain ⟨z, its, n, r, e⟩ := x; exact ⟨z, its, n, r, k _ _ (.inl rfl) e⟩
  | tup xs => obtain ⟨⟨z, o1, e1, c1⟩, its, r, ob, e, c⟩ := x; exact ⟨⟨z, o1, k _ _ (.inl rfl) e1, c1⟩, its, r, ob, k _ _ (.inl rfl) e, c⟩
  | dK kvs => obtain ⟨z, y, vs, r, ob, es, ep, e, c⟩ := x; exact ⟨z, y, vs, r, ob, es, ep, k _ _ (.inl rfl) e, c⟩
  | dT kvs =>
    obtain ⟨z, y, xs, r, ob, es, ep, e, c⟩ := x
    exact ⟨z, y, xs, Paired.mapP r fun p q z => ⟨z.1, ht _ _ z.2.1, z.2.2⟩, ob, es, ep, k _ _ (.inl rfl) e, c⟩
  | set S n => obtain ⟨ob, es, ep, t, e, c⟩ := x; exact ⟨ob, es, ep, t, k _ _ (.inl rfl) e, c⟩
  | ins C dx fs =>
    obtain ⟨d, z, ne, e, mA, ⟨od, es, ep, e2, c⟩, r⟩ := x
    exact ⟨ho _ d, z, ne, k _ _ (.inl rfl) e, mA, ⟨od, es, ep, k _ _ (.inr d) e2, c⟩, r⟩
  | own y => obtain ⟨ob, e⟩ := x; exact ⟨ob, k _ _ (.inl rfl) e⟩
  | xd fs => obtain ⟨mA, ⟨od, es, ep, e, c⟩, r⟩ := x; exact ⟨mA, ⟨od, es, ep, k _ _ (.inl rfl) e, c⟩, r⟩
  | rng lo hi => obtain ⟨t, u, v, e⟩ := x; exact ⟨t, u, v, k _ _ (.inl rfl) e⟩
  | frz ob u ih => obtain ⟨e, q⟩ := x; exact ⟨k _ _ (.inl rfl) e, ih q⟩
  | tbl ps =>
    have e : h.get? a = some { cls := .none, data := .fields ps } := x
    show h'.get? a = some { cls := .none, data := .fields ps }
    exact k a _ (.inl rfl) e
  | met f y =>
    have e : h.get? a = some (PySem.W.methodObj (.ref f) (.ref y)) := x
    show h'.get? a = some (PySem.W.methodObj (.ref f) (.ref y))
    exact k a _ (.inl rfl) e
  | ext φ => obtain ⟨p, ⟨o, e⟩, st⟩ := x; exact ⟨st _ _ p fun o q => k _ _ (.inl rfl) q, ⟨o, k _ _ (.inl rfl) e⟩, st⟩
theorem HOk.lt (x : HOk P w H h) (e : H a = some o) : a < h.objs.size := (x a o e).lt
theorem HOk.fresh (x : HOk P w H h) (e : h.objs.size ≤ a) : H a = none := by
  cases q : H a with
  | none => rfl
  | some u => exact absurd (Nat.lt_of_lt_of_le (x.lt q) e) (Nat.lt_irrefl _)
theorem HOk.kept (x : HOk P w H h) (k : ∀ b u, h.get? b = some u → h'.get? b = some u) : HOk P w H h' := fun a o e =>
  (x a o e).stay (fun b u _ q => k b u q) (fun _ q => q) fun _ _ q => q
theorem HOk.laid (x : HOk P w H h) (k : ∀ b u, h.get? b = some u → h'.get? b = some u) (hp : h.objs.size ≤ a) (new : ObjOk P w (upd H a o) h' a o) : HOk P w (upd H a o) h' := fun b u e => by
  have hn := x.fresh hp
  by_cases hb : b = a
  · subst hb; rw [upd_same] at e; cases e; exact new
  · rw [upd_ne hb] at e
    exact (x b u e).stay (fun c v _ q => k c v q) (fun c q => by rw [upd_ne (ne_of_none q hn)]; exact q) fun c xs q => by rw [upd_ne (ne_of_none q hn)]; exact q
end
def Rd (H : Hp) (a : Addr) (u : HO) : Prop := H a = some u ∨ ∃ o, H a = some (.frz o u)
theorem Rd.of {H : Hp} {a : Addr} {u : HO} (h : H a = some u) : Rd H a u := .inl h
theorem Rd.ok {P : Program} {w : World} {H : Hp} {h : Heap} {a : Addr} {u : HO} (r : Rd H a u) (x : HOk P w H h) : ObjOk P w H h a u := by
  rcases r with r | ⟨o, r⟩
  · exact x a u r
  · obtain ⟨_, q⟩ := x a _ r
    exact q
def Mut : Option HO → Prop
  | some (.lst _) => True
  | some (.dK _) => True
  | some (.dT _) => True
  | some (.set _ _) => True
  | some (.ins _ _ _) => True
  | some (.ext _) => True
  | _ => False
section
variable {P : Program} {w : World} {H : Hp} {h h' : Heap} {x e : Addr} {o' : HO}
theorem HOk.write (ok : HOk P w H h) (mu : Mut (H x)) (he : e = x ∨ H e = some (.own x)) (k : ∀ b u, b ≠ e → h.get? b = some u → h'.get? b = some u) (heo : ∃ u, h'.get? e = some u)
    (new : ObjOk P w (upd H x o') h' x o') : HOk P w (upd H x o') h' := fun b u q => by
  have nown : ∀ c y, H c = some (.own y) → c ≠ x := fun c y r z => by subst z; rw [r] at mu; exact mu
  have ntup : ∀ c xs, H c = some (.tup xs) → c ≠ x := fun c xs r z => by subst z; rw [r] at mu; exact mu
  by_cases hb : b = x
  · subst hb; rw [upd_same] at q; cases q; exact new
  · rw [upd_ne hb] at q
    by_cases hbe : b = e
    · have q' : H b = some (.own x) := by
        rcases he with z | z
        · exact absurd (hbe.trans z) hb
        · rw [hbe]; exact z
      rw [q] at q'; cases q'
      obtain ⟨v, hv⟩ := heo
      exact ⟨v, by rw [hbe]; exact hv⟩
    · refine (ok b u q).stay (fun c v hc r => k c v ?_ r) (fun c r => by rw [upd_ne (nown c b r)]; exact r) fun c xs r => by rw [upd_ne (ntup c xs r)]; exact r
      rcases hc with rfl | hc
      · exact hbe
      · rintro rfl
        rcases he with z | z
        · exact nown c b hc z
        · rw [hc] at z; cases z; exact hb rfl
end
structure Un (fs ex : List Addr) (H H' : Hp) (h h' : Heap) : Prop where
  keep : ∀ b o, h.get? b = some o → H b = none → b ∉ fs → b ∉ ex → h'.get? b = some o
  slot : ∀ b o, h.get? b = some o → H b = none → b ∈ fs → b ∉ ex → ∃ sl, h'.get? b = some { o with slots := sl }
  free : ∀ b o, h.get? b = some o → H b = none → b ∉ ex → H' b = none
  there : ∀ b o, h.get? b = some o → b ∉ ex → ∃ o', h'.get? b = some o'
  tups : ∀ b xs, H b = some (.tup xs) → H' b = some (.tup xs)
  frzs : ∀ b o u, H b = some (.frz o u) → H' b = some (.frz o u)
  tbls : ∀ b ps, H b = some (.tbl ps) → ∃ more, H' b = some (.tbl (ps ++ more))
section
variable {fs fs' ex ex' : List Addr} {H H1 H2 : Hp} {h h1 h2 h' : Heap} {a x e : Addr} {o : HO}
theorem Un.any (u : Un fs ex H H1 h h1) {b : Addr} {ob : Obj} (q : h.get? b = some ob) (n : H b = none) (hx : b ∉ ex) : ∃ sl, h1.get? b = some { ob with slots := sl } := by
  by_cases hb : b ∈ fs
  · exact u.slot b ob q n hb hx
  · exact ⟨ob.slots, u.keep b ob q n hb hx⟩
theorem Un.trans (a : Un fs ex H H1 h h1) (b : Un fs ex H1 H2 h1 h2) : Un fs ex H H2 h h2 where
  keep := fun c ob q n hc hx => b.keep c ob (a.keep c ob q n hc hx) (a.free c ob q n hx) hc hx
  slot := fun c ob q n hc hx => by
    obtain ⟨sl, e1⟩ := a.slot c ob q n hc hx
    obtain ⟨sl', e2⟩ := b.slot c _ e1 (a.free c ob q n hx) hc hx
    exact ⟨sl', e2⟩
  free := fun c ob q n hx => by
    obtain ⟨o', e1⟩ := a.there c ob q hx
    exact b.free c o' e1 (a.free c ob q n hx) hx
  there := fun c ob q hx => by
    obtain ⟨o', e1⟩ := a.there c ob q hx
    exact b.there c o' e1 hx
  tups := fun c xs q => b.tups c xs (a.tups c xs q)
  frzs := fun c ob xs q => b.frzs c ob xs (a.frzs c ob xs q)
  tbls := fun c ps q => by
    obtain ⟨m1, e1⟩ := a.tbls c ps q
    obtain ⟨m2, e2⟩ := b.tbls c _ e1
    exact ⟨m1 ++ m2, by rw [e2, Array.append_assoc]⟩
theorem Un.kept (k : ∀ b u, h.get? b = some u → h'.get? b = some u) : Un fs ex H H h h' :=
  ⟨fun b ob q _ _ _ => k b ob q, fun b ob q _ _ _ => ⟨ob.slots, k b ob q⟩, fun _ _ _ n _ => n, fun b ob q _ => ⟨ob, k b ob q⟩, fun _ _ q => q, fun _ _ _ q => q, fun _ ps q => ⟨#[], by rw [q]; simp⟩⟩
theorem Un.refl : Un fs ex H H h h := Un.kept fun _ _ q => q
theorem Un.laid (k : ∀ b u, h.get? b = some u → h'.get? b = some u) (hp : h.objs.size ≤ a) (hn : H a = none) : Un fs ex H (upd H a o) h h' where
  keep := fun b u q _ _ _ => k b u q
  slot := fun b u q _ _ _ => ⟨u.slots, k b u q⟩
  free := fun b u q n _ => by rw [upd_ne (Nat.ne_of_lt (Nat.lt_of_lt_of_le (Heap.lt_size q) hp))]; exact n
  there := fun b u q _ => ⟨u, k b u q⟩
  tups := fun b xs q => by rw [upd_ne (ne_of_none q hn)]; exact q
  frzs := fun b u xs q => by rw [upd_ne (ne_of_none q hn)]; exact q
  tbls := fun b ps q => ⟨#[], by rw [upd_ne (ne_of_none q hn), q]; simp⟩
theorem Un.write (mu : Mut (H x)) (he : e = x ∨ H e = some (.own x)) (k : ∀ b u, b ≠ e → h.get? b = some u → h'.get? b = some u) (heo : ∃ u, h'.get? e = some u) : Un fs ex H (upd H x o) h h' := by
  have hx : ∀ b, H b = none → b ≠ x := fun b n z => by subst z; rw [n] at mu; exact mu
  have hb : ∀ b, H b = none → b ≠ e := fun b n z => by
    subst z
    rcases he with r | r
    · exact hx b n r
    · rw [n] at r; cases r
  have hm : ∀ b u, H b = some u → ¬ Mut (some u) → b ≠ x := fun b u q nm z => by subst z; rw [q] at mu; exact nm mu
  refine ⟨fun b u q n _ _ => k b u (hb b n) q, fun b u q n _ _ => ⟨u.slots, k b u (hb b n) q⟩, fun b u q n _ => by rw [upd_ne (hx b n)]; exact n, fun b u q _ => ?_,
    fun b xs q => by rw [upd_ne (hm b _ q fun z => z)]; exact q, fun b u xs q => by rw [upd_ne (hm b _ q fun z => z)]; exact q, fun b ps q => ⟨#[], by rw [upd_ne (hm b _ q fun z => z), q]; simp⟩⟩
  by_cases hbe : b = e
  · subst hbe; exact heo
  · exact ⟨u, k b u hbe q⟩
theorem Un.mono (u : Un fs ex H H1 h h1) (hs : ∀ b ∈ fs, b ∈ fs') (hx : ∀ b ∈ ex, b ∈ ex') : Un fs' ex' H H1 h h1 :=
  ⟨fun b ob q n hb he => u.keep b ob q n (fun z => hb (hs b z)) fun z => he (hx b z), fun _ _ q n _ he => u.any q n fun z => he (hx _ z), fun b ob q n he => u.free b ob q n fun z => he (hx b z), fun b ob q he => u.there b ob q fun z => he (hx b z), u.tups, u.frzs, u.tbls⟩
end
def trk (h : Heap) (H : Hp) : List Addr := (List.range h.objs.size).filter fun a => (H a).isSome
def hidT (h : Heap) (H : Hp) : Heap := PySem.W.hideAll h (trk h H)
theorem hidT_size (h : Heap) (H : Hp) : (hidT h H).objs.size = h.objs.size := PySem.W.hideAll_size _ _
theorem hidT_get {h : Heap} {H : Hp} {b : Addr} {o : Obj} (e : h.get? b = some o) (n : H b = none) : (hidT h H).get? b = some o :=
  PySem.W.hideAll_get _ e fun hm => by
    have q : (H b).isSome = true := (List.mem_filter.mp hm).2
    rw [n] at q; simp at q
theorem of_hidT {h : Heap} {H : Hp} {b : Addr} {o : Obj} (e : (hidT h H).get? b = some o) : h.get? b = some o ∧ H b = none := by
  have e' : h.get? b = some o := PySem.W.of_hideAll (trk h H) e
  refine ⟨e', ?_⟩
  cases q : H b with
  | none => rfl
  | some x =>
    have hm : b ∈ trk h H := List.mem_filter.mpr ⟨List.mem_range.mpr (Heap.lt_size e'), by simp [q]⟩
    have z : (hidT h H).get? b = none := PySem.W.hideAll_none (trk h H) hm
    rw [z] at e; cases e
def allNews (g h : Heap) (L : Addr) : List (Addr × Obj) := (List.range h.objs.size).filterMap fun a => if a = L ∨ (g.get? a).isSome = true then none else (h.get? a).map fun o => (a, o)
def rest (g h : Heap) (L d : Addr) : List (Addr × Obj) := (allNews g h L).filter fun p => decide (p.1 ≠ d)
end L2
namespace L2
open PySem PySem.Spec PyProof.Rows
structure Mod (K : PySem.W.Frag) (mg : Str → Option Value) (base : Heap) : Prop where
  kin : K.In base
  glob : base.Ns mainGlobals mg
  blt : ∃ mb, base.Ns builtinsNs mb ∧ ∀ x : Str, x ≠ "__name__" → mb x = bootBuiltins x
  nolimit : base.NoLimit
structure Cx where
  prog : Program
  w : World
  K : PySem.W.Frag
  mg : Str → Option Value
  base : Heap
  A : Around
  N : List Str
  s₀ : Shared
  H₀ : Hp
  env : Env
  outer : List Env
  stack : List Env
  ex : List Addr
  fn : Str → Bool
  calm : Bool
  pn : List (Addr × Obj)
  xe : Value → Shared → Prop
def frs (l : List Env) : List Addr := l.filterMap (·.frame)
abbrev Cx.fs (X : Cx) : List Addr := frs X.outer
def Vis (sc : Scope) (x : Str) : Prop := sc.names.lookup x = some .local ∨ sc.names.lookup x = some .cell ∨ sc.names.lookup x = some .free
def Loc (sc : Scope) (x : Str) : Prop := sc.names.lookup x = some .local ∨ sc.names.lookup x = some .cell
def Look (env : Env) (h : Heap) (m : Str → Option Value) (x : Str) (u : Value) : Prop :=
  (env.kindOf x = some .local ∧ m x = some u) ∨ ((env.kindOf x = some .cell ∨ env.kindOf x = some .free) ∧ ∃ c, env.cells.lookup x = some c ∧ h.IsCell c (some u))
structure Cx.Ok (X : Cx) : Prop where
  mod : Mod X.K X.mg X.base
  kind : X.env.scope.kind = .function
  glob : X.env.globals = mainGlobals
  blt : X.env.builtins = builtinsNs
  above : X.s₀.heap.objs.size ≤ X.env.locals
  inj : ∀ x y c, X.env.cells.lookup x = some c → X.env.cells.lookup y = some c → x = y
  has : ∀ x, (X.env.kindOf x = some .cell ∨ X.env.kindOf x = some .free) → ∃ c, X.env.cells.lookup x = some c
  cab : ∀ x c, X.fn x = true → X.env.cells.lookup x = some c → X.s₀.heap.objs.size ≤ c
  hd : X.calm = true → X.A.handled = none
  frames : X.A.frames = some X.stack
  stk : X.stack = X.outer ∨ (X.stack = X.env :: X.outer ∧ X.env.frame = some X.env.locals)
  exf : ∀ b ∈ X.ex, b ≠ X.env.locals ∧ ∀ x c, X.env.cells.lookup x = some c → c ≠ b
  bs : ∀ b o, X.base.get? b = some o → X.s₀.heap.get? b = some o ∧ X.H₀ b = none
  bsz : X.base.objs.size ≤ X.s₀.heap.objs.size
  noex : ∀ b o, X.base.get? b = some o → b ∉ X.ex
  exfs : ∀ b ∈ X.ex, b ∉ X.fs
  funs : X.s₀.heap.FunFrames X.base X.outer
  frf : ∀ b ∈ X.fs, X.H₀ b = none
structure Inv (X : Cx) (pins : List (Addr × Obj)) (σ : List (Option V)) (H : Hp) (s : Shared) : Prop where
  ok : X.Ok
  os : s.os = X.s₀.os
  bare : AllBare s.gens
  base : Un X.fs X.ex X.H₀ H X.s₀.heap s.heap
  loc : ∃ m, s.heap.Ns X.env.locals m ∧ ∀ (i : Nat) (x : Str) (v : V), X.N[i]? = some x → σ[i]? = some (some v) → Vis X.env.scope x → ∃ u, RelV v u ∧ Look X.env s.heap m x u
  cell : ∀ x c, X.env.cells.lookup x = some c → ∃ v, s.heap.IsCell c v
  free : H X.env.locals = none
  freeC : ∀ x c, X.env.cells.lookup x = some c → H c = none
  pin : ∀ p ∈ X.pn ++ pins, s.heap.get? p.1 = some p.2 ∧ H p.1 = none ∧ p.1 ≠ X.env.locals ∧ p.1 ∉ X.fs ∧ ∀ v, p.2.data ≠ .cell v
  hok : HOk X.prog X.w H s.heap
  len : σ.length = X.N.length
section
variable {X : Cx} {pins : List (Addr × Obj)} {σ : List (Option V)} {H H' : Hp} {s : Shared} {h' : Heap}
theorem Cx.Ok.nofr (ok : X.Ok) {b : Addr} {o : Obj} (e : X.base.get? b = some o) : b ∉ X.fs := fun hb => by
  have := (ok.funs.mem hb).1
  rw [e] at this; cases this
theorem Inv.bs (I : Inv X pins σ H s) : ∀ b o, X.base.get? b = some o → s.heap.get? b = some o ∧ H b = none := fun b o e =>
  ⟨I.base.keep b o (I.ok.bs b o e).1 (I.ok.bs b o e).2 (I.ok.nofr e) (I.ok.noex b o e), I.base.free b o (I.ok.bs b o e).1 (I.ok.bs b o e).2 (I.ok.noex b o e)⟩
theorem Inv.bk (I : Inv X pins σ H s) : ∀ b o, X.base.get? b = some o → s.heap.get? b = some o := fun b o e => (I.bs b o e).1
theorem Inv.mod (I : Inv X pins σ H s) : Mod X.K X.mg X.base := I.ok.mod
theorem Inv.kIn (I : Inv X pins σ H s) : X.K.In s.heap := I.ok.mod.kin.keeps I.bk
theorem Inv.nolimit (I : Inv X pins σ H s) : s.heap.NoLimit := I.ok.mod.nolimit.keeps I.bk
theorem Inv.fr (I : Inv X pins σ H s) : ∃ m, Fr X.base X.env.locals s.heap m :=
  let ⟨m, hn, _⟩ := I.loc
  ⟨m, hn, I.bk, Nat.le_trans I.ok.bsz I.ok.above⟩
theorem Inv.lt (I : Inv X pins σ H s) : X.env.locals < s.heap.objs.size := let ⟨_, hn, _⟩ := I.loc; hn.lt
theorem Inv.sz (I : Inv X pins σ H s) : X.s₀.heap.objs.size ≤ s.heap.objs.size := Nat.le_trans I.ok.above (Nat.le_of_lt I.lt)
theorem Inv.nofs (I : Inv X pins σ H s) {a : Addr} (h : s.heap.objs.size ≤ a) : a ∉ X.fs := fun hb => by
  obtain ⟨_, o, ho, _⟩ := I.ok.funs.mem hb
  exact absurd (Nat.lt_of_lt_of_le (Heap.lt_size ho) (Nat.le_trans I.sz h)) (Nat.lt_irrefl _)
theorem Inv.cne (I : Inv X pins σ H s) : ∀ x c, X.env.cells.lookup x = some c → c ≠ X.env.locals := fun x c e z => by
  obtain ⟨v, o, ho, hd⟩ := I.cell x c e
  obtain ⟨m, ⟨o', es, ep, ho', hd', _⟩, _⟩ := I.loc
  rw [z, ho'] at ho; cases ho; rw [hd'] at hd; cases hd
theorem Inv.funs (I : Inv X pins σ H s) : s.heap.FunFrames X.base X.outer := by
  have all : ∀ (l : List Env), (∀ b ∈ frs l, b ∈ X.fs) → X.s₀.heap.FunFrames X.base l → s.heap.FunFrames X.base l := by
    intro l
    induction l with
    | nil => intro _ _; trivial
    | cons env r ih =>
      intro hs hl
      obtain ⟨hk, ⟨L, o, hf, hn, ho, hd⟩, hr⟩ := hl
      have hL : L ∈ X.fs := hs L (by unfold frs; rw [List.filterMap_cons, hf]; exact List.mem_cons_self)
      obtain ⟨sl, e⟩ := I.base.slot L o ho (I.ok.frf L hL) hL fun z => I.ok.exfs L z hL
      exact ⟨hk, ⟨L, _, hf, hn, e, hd⟩, ih (fun b hb => hs b (by unfold frs; rw [List.filterMap_cons, hf]; exact List.mem_cons_of_mem _ hb)) hr⟩
  exact all X.outer (fun _ hb => hb) I.ok.funs
theorem Inv.stack (I : Inv X pins σ H s) : s.heap.FunFrames X.base X.stack := by
  rcases I.ok.stk with e | ⟨e, hf⟩
  · rw [e]; exact I.funs
  · rw [e]
    obtain ⟨m, hn, _⟩ := I.loc
    refine .cons (by rw [I.ok.kind]; decide) hf hn ?_ I.funs
    exact Heap.get?_none_of_le (Nat.le_trans I.ok.bsz I.ok.above)
theorem Inv.stkSub (I : Inv X pins σ H s) : ∀ b ∈ frs X.stack, b ∈ X.env.locals :: X.fs := fun b hb => by
  rcases I.ok.stk with e | ⟨e, hf⟩
  · rw [e] at hb; exact List.mem_cons_of_mem _ hb
  · rw [e] at hb
    unfold frs at hb
    rw [List.filterMap_cons, hf] at hb
    exact hb
theorem Inv.stkFree (I : Inv X pins σ H s) : ∀ b ∈ frs X.stack, H b = none := fun b hb => by
  rcases List.mem_cons.mp (I.stkSub b hb) with e | hb
  · rw [e]; exact I.free
  · obtain ⟨_, o, ho, _⟩ := I.ok.funs.mem hb
    exact I.base.free b o ho (I.ok.frf b hb) fun z => I.ok.exfs b z hb
theorem Inv.step {g' : Array GenState} {t' : Nat} {d' : Drawn} {ch : List Addr} (I : Inv X pins σ H s)
    (hch : ∀ b ∈ ch, (b ∈ X.ex ∨ X.s₀.heap.objs.size ≤ b) ∧ b ≠ X.env.locals ∧ (∀ x c, X.env.cells.lookup x = some c → c ≠ b) ∧ ∀ p ∈ X.pn ++ pins, p.1 ≠ b)
    (keep : ∀ b o, b ≠ X.env.locals → b ∉ X.fs → b ∉ ch → s.heap.get? b = some o → H b = none → h'.get? b = some o)
    (slot : ∀ b o, b ≠ X.env.locals → b ∈ X.fs → b ∉ ch → s.heap.get? b = some o → H b = none → ∃ sl, h'.get? b = some { o with slots := sl }) (free : ∀ b o, b ∉ ch → s.heap.get? b = some o → H b = none → H' b = none)
    (there : ∀ b o, b ∉ ch → s.heap.get? b = some o → ∃ o', h'.get? b = some o')
    (tups : ∀ b xs, H b = some (.tup xs) → H' b = some (.tup xs)) (frzs : ∀ b o u, H b = some (.frz o u) → H' b = some (.frz o u)) (tbls : ∀ b ps, H b = some (.tbl ps) → ∃ more, H' b = some (.tbl (ps ++ more)))
    (ns : ∀ m, s.heap.Ns X.env.locals m → h'.Ns X.env.locals m) (hok : HOk X.prog X.w H' h') (hg : AllBare g') :
    Inv X pins σ H' { s with heap := h', gens := g', drawn := d', toks := t' } := by
  have neL : ∀ b o, X.s₀.heap.get? b = some o → b ≠ X.env.locals := fun b o e => Nat.ne_of_lt (Nat.lt_of_lt_of_le (Heap.lt_size e) I.ok.above)
  have neC : ∀ b o, X.s₀.heap.get? b = some o → b ∉ X.ex → b ∉ ch := fun b o e hx hb => by
    rcases (hch b hb).1 with z | z
    · exact hx z
    · exact absurd (Nat.lt_of_lt_of_le (Heap.lt_size e) z) (Nat.lt_irrefl _)
  have cellK : ∀ x c, X.env.cells.lookup x = some c → ∀ v, s.heap.IsCell c v → h'.IsCell c v := fun x c e v ⟨o, ho, hd⟩ => by
    have nch : c ∉ ch := fun z => (hch c z).2.2.1 x c e rfl
    by_cases hc : c ∈ X.fs
    · obtain ⟨sl, q⟩ := slot c o (I.cne x c e) hc nch ho (I.freeC x c e)
      exact ⟨_, q, hd⟩
    · exact ⟨o, keep c o (I.cne x c e) hc nch ho (I.freeC x c e), hd⟩
  refine ⟨I.ok, I.os, hg, ⟨fun b o e n hb hx => ?_, fun b o e n hb hx => ?_, fun b o e n hx => ?_, fun b o e hx => ?_, fun b xs e => tups b xs (I.base.tups b xs e), fun b o xs e => frzs b o xs (I.base.frzs b o xs e), fun b ps e => ?_⟩, ?_, fun x c e => ?_, ?_, fun x c e => ?_, fun p hp => ?_, hok, I.len⟩
  · exact keep b o (neL b o e) hb (neC b o e hx) (I.base.keep b o e n hb hx) (I.base.free b o e n hx)
  · obtain ⟨sl, e1⟩ := I.base.slot b o e n hb hx
    obtain ⟨sl', e2⟩ := slot b _ (neL b o e) hb (neC b o e hx) e1 (I.base.free b o e n hx)
    exact ⟨sl', e2⟩
  · obtain ⟨o', e1⟩ := I.base.there b o e hx
    exact free b o' (neC b o e hx) e1 (I.base.free b o e n hx)
  · obtain ⟨o', e1⟩ := I.base.there b o e hx
    exact there b o' (neC b o e hx) e1
  · obtain ⟨m1, e1⟩ := I.base.tbls b ps e
    obtain ⟨m2, e2⟩ := tbls b _ e1
    exact ⟨m1 ++ m2, by rw [e2, Array.append_assoc]⟩
  · obtain ⟨m, hn, hl⟩ := I.loc
    refine ⟨m, ns m hn, fun i x v e1 e2 e3 => ?_⟩
    obtain ⟨u, r, l⟩ := hl i x v e1 e2 e3
    refine ⟨u, r, ?_⟩
    rcases l with l | ⟨k, c, e, z⟩
    · exact .inl l
    · exact .inr ⟨k, c, e, cellK x c e _ z⟩
  · obtain ⟨v, z⟩ := I.cell x c e
    exact ⟨v, cellK x c e v z⟩
  · obtain ⟨m, ⟨o, _, _, ho, _⟩, _⟩ := I.loc
    exact free _ o (fun z => (hch _ z).2.1 rfl) ho I.free
  · obtain ⟨v, o, ho, hd⟩ := I.cell x c e
    exact free c o (fun z => (hch c z).2.2.1 x c e rfl) ho (I.freeC x c e)
  · obtain ⟨e, n, ne, nf, d⟩ := I.pin p hp
    have nch : p.1 ∉ ch := fun z => (hch p.1 z).2.2.2 p hp rfl
    exact ⟨keep p.1 p.2 ne nf nch e n, free p.1 p.2 nch e n, ne, nf, d⟩
theorem Inv.un {t' : Nat} (I : Inv X pins σ H s) (u : Un X.fs [] H H' s.heap h') (hok : HOk X.prog X.w H' h') : Inv X pins σ H' { s with heap := h', toks := t' } := by
  obtain ⟨m, ⟨o, es, ep, ho, r⟩, _⟩ := id I.loc
  obtain ⟨sl, hL⟩ := u.any ho I.free (by simp)
  exact I.step (g' := s.gens) (d' := s.drawn) (ch := []) (fun _ z => nomatch z) (fun b o _ hb _ e n => u.keep b o e n hb (by simp)) (fun b o _ hb _ e n => u.slot b o e n hb (by simp)) (fun b o _ e n => u.free b o e n (by simp)) (fun b o _ e => u.there b o e (by simp)) u.tups u.frzs u.tbls (fun m' hm => by
    obtain ⟨o', es', ep', ho', r'⟩ := hm
    rw [ho] at ho'; cases ho'
    exact ⟨_, es', ep', hL, r'⟩) hok I.bare
theorem Inv.call {g' : Array GenState} {t' : Nat} {d' : Drawn} {ch : List Addr} (I : Inv X pins σ H s) (u : Un (frs X.stack) ch H H' s.heap h') (hok : HOk X.prog X.w H' h') (hg : AllBare g')
    (hch : ∀ b ∈ ch, (b ∈ X.ex ∨ X.s₀.heap.objs.size ≤ b) ∧ b ≠ X.env.locals ∧ (∀ x c, X.env.cells.lookup x = some c → c ≠ b) ∧ ∀ p ∈ X.pn ++ pins, p.1 ≠ b) :
    Inv X pins σ H' { s with heap := h', gens := g', drawn := d', toks := t' } := by
  obtain ⟨m, ⟨o, es, ep, ho, r⟩, _⟩ := id I.loc
  obtain ⟨sl, hL⟩ := u.any ho I.free fun z => (hch _ z).2.1 rfl
  exact I.step (ch := ch) hch (fun b o hL hb hc e n => u.keep b o e n (fun z => (List.mem_cons.mp (I.stkSub b z)).elim hL hb) hc) (fun b o _ _ hc e n => u.any e n hc) (fun b o hc e n => u.free b o e n hc) (fun b o hc e => u.there b o e hc) u.tups u.frzs u.tbls (fun m' hm => by
    obtain ⟨o', es', ep', ho', r'⟩ := hm
    rw [ho] at ho'; cases ho'
    exact ⟨_, es', ep', hL, r'⟩) hok hg
theorem Inv.turned {t' : Nat} {it : Addr} (I : Inv X pins σ H s) (k : ∀ b o, b ≠ it → s.heap.get? b = some o → h'.get? b = some o) (hn : H it = none) (hL : it ≠ X.env.locals)
    (h1 : it ∈ X.ex ∨ X.s₀.heap.objs.size ≤ it) (h2 : ∀ x c, X.env.cells.lookup x = some c → c ≠ it) (h3 : ∀ p ∈ X.pn ++ pins, p.1 ≠ it) : Inv X pins σ H { s with heap := h', toks := t' } := by
  have nit : ∀ b u, H b = some u → b ≠ it := fun b u e z => by rw [z, hn] at e; cases e
  refine I.step (g' := s.gens) (d' := s.drawn) (ch := [it]) (fun b hb => ?_) (fun b o _ _ hc e _ => k b o (fun z => hc (by simp [z])) e) (fun b o _ _ hc e _ => ⟨o.slots, k b o (fun z => hc (by simp [z])) e⟩) (fun _ _ _ _ n => n)
    (fun b o hc e => ⟨o, k b o (fun z => hc (by simp [z])) e⟩) (fun _ _ e => e) (fun _ _ _ e => e) (fun b ps e => ⟨#[], by rw [e]; simp⟩) (fun m hm => ?_) (fun b u e => ?_) I.bare
  · have e : b = it := by simpa using hb
    subst e
    exact ⟨h1, hL, h2, h3⟩
  · obtain ⟨o, es, ep, ho, r⟩ := hm
    exact ⟨o, es, ep, k _ o (Ne.symm hL) ho, r⟩
  · refine (I.hok b u e).stay (fun c v hc q => k c v ?_ q) (fun _ q => q) fun _ _ q => q
    rcases hc with z | z
    · rw [z]; exact nit b u e
    · exact nit c _ z
theorem Inv.tok (I : Inv X pins σ H s) (t : Nat) : Inv X pins σ H { s with toks := t } := I.un (h' := s.heap) (t' := t) Un.refl I.hok
theorem Inv.kept {t' : Nat} (I : Inv X pins σ H s) (k : ∀ b u, s.heap.get? b = some u → h'.get? b = some u) : Inv X pins σ H { s with heap := h', toks := t' } := I.un (Un.kept k) (I.hok.kept k)
theorem Inv.laid {a : Addr} {o : HO} {t' : Nat} (I : Inv X pins σ H s) (k : ∀ b u, s.heap.get? b = some u → h'.get? b = some u) (hp : s.heap.objs.size ≤ a) (new : ObjOk X.prog X.w (upd H a o) h' a o) :
    Inv X pins σ (upd H a o) { s with heap := h', toks := t' } := I.un (Un.laid k hp (I.hok.fresh hp)) (I.hok.laid k hp new)
theorem Inv.write {x e : Addr} {o : HO} {t' : Nat} (I : Inv X pins σ H s) (mu : Mut (H x)) (he : e = x ∨ H e = some (.own x)) (k : ∀ b u, b ≠ e → s.heap.get? b = some u → h'.get? b = some u) (heo : ∃ u, h'.get? e = some u)
    (new : ObjOk X.prog X.w (upd H x o) h' x o) : Inv X pins σ (upd H x o) { s with heap := h', toks := t' } := I.un (Un.write mu he k heo) (I.hok.write mu he k heo new)
theorem Inv.weak {σ' : List (Option V)} (I : Inv X pins σ H s) (hl : σ'.length = σ.length) (w : ∀ (i : Nat) v, σ'[i]? = some (some v) → σ[i]? = some (some v)) : Inv X pins σ' H s :=
  ⟨I.ok, I.os, I.bare, I.base, let ⟨m, hn, hl'⟩ := I.loc; ⟨m, hn, fun i x v e1 e2 e3 => hl' i x v e1 (w i v e2) e3⟩, I.cell, I.free, I.freeC, I.pin, I.hok, hl.trans I.len⟩
theorem Inv.pins_of {pins' : List (Addr × Obj)} (I : Inv X pins σ H s) (h : ∀ p ∈ pins', s.heap.get? p.1 = some p.2 ∧ H p.1 = none ∧ p.1 ≠ X.env.locals ∧ p.1 ∉ X.fs ∧ ∀ v, p.2.data ≠ .cell v) : Inv X pins' σ H s :=
  ⟨I.ok, I.os, I.bare, I.base, I.loc, I.cell, I.free, I.freeC, fun p hp => (List.mem_append.mp hp).elim (fun z => I.pin p (List.mem_append_left _ z)) (h p), I.hok, I.len⟩
theorem nodup_ix {N : List Str} (hN : N.Nodup) {i j : Nat} {x : Str} (a : N[i]? = some x) (b : N[j]? = some x) : i = j := by
  obtain ⟨h1, e1⟩ := List.getElem?_eq_some_iff.mp a
  obtain ⟨h2, e2⟩ := List.getElem?_eq_some_iff.mp b
  exact (List.getElem_inj hN).mp (e1.trans e2.symm)
theorem store_ok2 {M : Model} {A : Around} {E : Value → Shared → Prop} {i : Nat} {x : Str} {v : V} {u : Value} {Q : Unit → Shared → Prop} (I : Inv X pins σ H s) (hN : X.N.Nodup) (hi : X.N[i]? = some x) (hx : Loc X.env.scope x) (r : RelV v u)
    (h : ∀ s', Inv X pins (σ.set i (some v)) H s' → (∃ a, Heap.SameBut a s.heap s'.heap ∧ (a = X.env.locals ∨ X.env.cells.lookup x = some a)) → Q () s') (hf : X.fn x = true ∨ X.env.scope.names.lookup x = some .local := by first | exact .inl rfl | exact .inr rfl | assumption) : wpAny M A (storeName X.env x u) Q E s := by
  obtain ⟨m, hn, hl⟩ := id I.loc
  have hcls : (X.env.scope.kind == .class || (X.env.scope.kind == .module && X.env.locals != X.env.globals)) = false := by rw [I.ok.kind]; rfl
  have hiσ : i < σ.length := by rw [I.len]; exact (List.getElem?_eq_some_iff.mp hi).1
  have cne := I.cne
  have tracked : ∀ {a : Addr} {h' : Heap}, (∃ o, s.heap.get? a = some o ∧ H a = none) → Heap.SameBut a s.heap h' → HOk X.prog X.w H h' := fun {a h'} ha hs b ob e => by
    obtain ⟨_, _, hfree⟩ := ha
    refine (I.hok b ob e).stay (fun c w' hc q => (hs.2 c ?_).trans q) (fun _ q => q) fun _ _ q => q
    rintro rfl
    rcases hc with rfl | hc
    · rw [hfree] at e; cases e
    · rw [hfree] at hc; cases hc
  rcases hx with hk | hk
  · refine wpAny_storeName_local hk hn (fun h' hn' hs => ?_) hcls
    obtain ⟨oL, _, _, hoL, _⟩ := id hn
    refine h _ ⟨I.ok, I.os, I.bare, ⟨fun b o e n hb hx => ?_, fun b o e n hb hx => ?_, I.base.free, fun b o e hx => ?_, I.base.tups, I.base.frzs, I.base.tbls⟩, ⟨_, hn', fun j y v' e1 e2 e3 => ?_⟩, fun y c e => ?_, I.free, I.freeC, fun p hp => ?_, tracked ⟨oL, hoL, I.free⟩ hs, by simpa using I.len⟩ ⟨_, hs, .inl rfl⟩
    · exact (hs.2 b (Nat.ne_of_lt (Nat.lt_of_lt_of_le (Heap.lt_size e) I.ok.above))).trans (I.base.keep b o e n hb hx)
    · obtain ⟨sl, e1⟩ := I.base.slot b o e n hb hx
      exact ⟨sl, (hs.2 b (Nat.ne_of_lt (Nat.lt_of_lt_of_le (Heap.lt_size e) I.ok.above))).trans e1⟩
    · obtain ⟨o', e1⟩ := I.base.there b o e hx
      exact ⟨o', (hs.2 b (Nat.ne_of_lt (Nat.lt_of_lt_of_le (Heap.lt_size e) I.ok.above))).trans e1⟩
    · by_cases hj : j = i
      · subst hj
        rw [hi] at e1; cases e1
        rw [List.getElem?_set_self hiσ] at e2
        cases e2
        exact ⟨u, r, .inl ⟨hk, by simp⟩⟩
      · rw [List.getElem?_set_ne (Ne.symm hj)] at e2
        obtain ⟨u', r', q⟩ := hl j y v' e1 e2 e3
        refine ⟨u', r', ?_⟩
        rcases q with ⟨k, e⟩ | ⟨k, c, e, z⟩
        · refine .inl ⟨k, ?_⟩
          have : y ≠ x := fun e => hj (nodup_ix hN e1 (e ▸ hi))
          simp [this, e]
        · exact .inr ⟨k, c, e, z.sameBut hs (cne y c e)⟩
    · obtain ⟨w', z⟩ := I.cell y c e
      exact ⟨w', z.sameBut hs (cne y c e)⟩
    · obtain ⟨e, n, ne, nf, d⟩ := I.pin p hp
      exact ⟨(hs.2 p.1 ne).trans e, n, ne, nf, d⟩
  · have hfn : X.fn x = true := by
      rcases hf with z | z
      · exact z
      · rw [z] at hk; cases hk
    obtain ⟨c, hc⟩ := I.ok.has x (.inl hk)
    obtain ⟨w', z⟩ := I.cell x c hc
    refine wpAny_storeName_cell I.ok.kind hk hc z (fun h' hc' hs => ?_)
    obtain ⟨oc, hoc, hocd⟩ := id z
    refine h { s with heap := h' } ⟨I.ok, I.os, I.bare, ⟨fun b o e n hb hx => ?_, fun b o e n hb hx => ?_, I.base.free, fun b o e hx => ?_, I.base.tups, I.base.frzs, I.base.tbls⟩, ⟨m, hn.sameBut hs (Ne.symm (cne x c hc)), fun j y v' e1 e2 e3 => ?_⟩, fun y c' e => ?_, I.free, I.freeC, fun p hp => ?_, tracked ⟨oc, hoc, I.freeC x c hc⟩ hs, by simpa using I.len⟩ ⟨c, hs, .inr hc⟩
    · exact (hs.2 b (Nat.ne_of_lt (Nat.lt_of_lt_of_le (Heap.lt_size e) (I.ok.cab x c hfn hc)))).trans (I.base.keep b o e n hb hx)
    · obtain ⟨sl, e1⟩ := I.base.slot b o e n hb hx
      exact ⟨sl, (hs.2 b (Nat.ne_of_lt (Nat.lt_of_lt_of_le (Heap.lt_size e) (I.ok.cab x c hfn hc)))).trans e1⟩
    · obtain ⟨o', e1⟩ := I.base.there b o e hx
      exact ⟨o', (hs.2 b (Nat.ne_of_lt (Nat.lt_of_lt_of_le (Heap.lt_size e) (I.ok.cab x c hfn hc)))).trans e1⟩
    · by_cases hj : j = i
      · subst hj
        rw [hi] at e1; cases e1
        rw [List.getElem?_set_self hiσ] at e2
        cases e2
        exact ⟨u, r, .inr ⟨.inl hk, c, hc, hc'⟩⟩
      · rw [List.getElem?_set_ne (Ne.symm hj)] at e2
        obtain ⟨u', r', q⟩ := hl j y v' e1 e2 e3
        refine ⟨u', r', ?_⟩
        rcases q with q | ⟨k, c', e, z'⟩
        · exact .inl q
        · refine .inr ⟨k, c', e, z'.sameBut hs ?_⟩
          rintro rfl
          exact hj (nodup_ix hN e1 (I.ok.inj _ _ _ e hc ▸ hi))
    · by_cases hcc : c' = c
      · subst hcc; exact ⟨_, hc'⟩
      · obtain ⟨w2, z2⟩ := I.cell y c' e
        exact ⟨w2, z2.sameBut hs hcc⟩
    · obtain ⟨e, n, ne, nf, d⟩ := I.pin p hp
      refine ⟨(hs.2 p.1 ?_).trans e, n, ne, nf, d⟩
      intro q
      rw [q, hoc] at e
      have q' : oc = p.2 := Option.some.inj e
      exact d w' (by rw [← q']; exact hocd)
theorem store_ok {M : Model} {A : Around} {E : Value → Shared → Prop} {i : Nat} {x : Str} {v : V} {u : Value} {Q : Unit → Shared → Prop} (I : Inv X pins σ H s) (hN : X.N.Nodup) (hi : X.N[i]? = some x) (hx : Loc X.env.scope x) (r : RelV v u)
    (h : ∀ s', Inv X pins (σ.set i (some v)) H s' → Q () s') (hf : X.fn x = true ∨ X.env.scope.names.lookup x = some .local := by first | exact .inl rfl | exact .inr rfl | assumption) : wpAny M A (storeName X.env x u) Q E s :=
  store_ok2 I hN hi hx r (fun s' I' _ => h s' I') hf
theorem Inv.call' {s' : Shared} {ch : List Addr} (I : Inv X pins σ H s) (ho : s'.os = s.os) (u : Un (frs X.stack) ch H H' s.heap s'.heap) (hok : HOk X.prog X.w H' s'.heap) (hg : AllBare s'.gens)
    (hch : ∀ b ∈ ch, (b ∈ X.ex ∨ X.s₀.heap.objs.size ≤ b) ∧ b ≠ X.env.locals ∧ (∀ x c, X.env.cells.lookup x = some c → c ≠ b) ∧ ∀ p ∈ X.pn ++ pins, p.1 ≠ b) : Inv X pins σ H' s' := by
  obtain ⟨h', g', d', t', o'⟩ := s'
  have e : o' = s.os := ho
  subst e
  exact I.call (g' := g') (t' := t') (d' := d') u hok hg hch
end
abbrev XK := Value → Option Addr → Hp → Prop
abbrev St := List (Option V)
abbrev VK := V → Hp → Prop
abbrev TE := St → Hp → VK → Prop
abbrev TT := St → Hp → (Bool → Hp → Prop) → Prop
abbrev TA := St → Hp → (List V → Hp → Prop) → Prop
structure Ends where
  nx : St → Hp → Prop
  rt : VK
  bk : St → Hp → Prop := fun _ _ => False
  ct : St → Hp → Prop := fun _ _ => False
abbrev TS := Ends → St → Hp → Prop
def EP (X : Cx) (pins : List (Addr × Obj)) (σ : St) (Q : VK) (u : Value) (s' : Shared) : Prop := ∃ v H', Inv X pins σ H' s' ∧ RelV v u ∧ Q v H'
def TP (X : Cx) (pins : List (Addr × Obj)) (σ : St) (Q : Bool → Hp → Prop) (b : Bool) (s' : Shared) : Prop := ∃ H', Inv X pins σ H' s' ∧ Q b H'
def AP (X : Cx) (pins : List (Addr × Obj)) (σ : St) (Q : List V → Hp → Prop) (us : List Value) (s' : Shared) : Prop := ∃ vs H', Inv X pins σ H' s' ∧ Vals vs us ∧ Q vs H'
def SP (X : Cx) (pins : List (Addr × Obj)) (D : Ends) (f : Flow) (s' : Shared) : Prop :=
  match f with
  | .next => ∃ σ' H', Inv X pins σ' H' s' ∧ D.nx σ' H'
  | .brk => ∃ σ' H', Inv X pins σ' H' s' ∧ D.bk σ' H'
  | .cont => ∃ σ' H', Inv X pins σ' H' s' ∧ D.ct σ' H'
  | .ret u => ∃ v σ' H', Inv X pins σ' H' s' ∧ RelV v u ∧ D.rt v H'
def PE (X : Cx) (e : Expr) (t : TE) : Prop :=
  ∀ (pins : List (Addr × Obj)) (s : Shared) (σ : St) (H : Hp) (Q : VK), Inv X pins σ H s → t σ H Q → wpAny (model X.prog X.w) X.A (eval e X.env) (EP X pins σ Q) X.xe s
def PT (X : Cx) (e : Expr) (t : TT) : Prop :=
  ∀ (pins : List (Addr × Obj)) (s : Shared) (σ : St) (H : Hp) (Q : Bool → Hp → Prop), Inv X pins σ H s → t σ H Q → wpAny (model X.prog X.w) X.A (isTrue e X.env (eval e X.env)) (TP X pins σ Q) X.xe s
def PW (X : Cx) (e : Expr) (t : TT) : Prop :=
  ∀ (whole : Sem Value) (pins : List (Addr × Obj)) (s : Shared) (σ : St) (H : Hp) (Q : Bool → Hp → Prop), Inv X pins σ H s → t σ H Q → wpAny (model X.prog X.w) X.A (isTrue e X.env whole) (TP X pins σ Q) X.xe s
theorem PW.pt {X : Cx} {e : Expr} {t : TT} (h : PW X e t) : PT X e t := h _
def PA (X : Cx) (es : List Expr) (t : TA) : Prop :=
  ∀ (pos : Pos) (pins : List (Addr × Obj)) (s : Shared) (σ : St) (H : Hp) (Q : List V → Hp → Prop), Inv X pins σ H s → t σ H Q → wpAny (model X.prog X.w) X.A (spliced (backTo pos (starEach es X.env))) (AP X pins σ Q) X.xe s
def PS (X : Cx) (st : Stmt) (t : TS) : Prop :=
  ∀ (pins : List (Addr × Obj)) (s : Shared) (σ : St) (H : Hp) (D : Ends), Inv X pins σ H s → t D σ H → wpAny (model X.prog X.w) X.A (exec st X.env) (SP X pins D) X.xe s
def PSs (X : Cx) (st : List Stmt) (t : TS) : Prop :=
  ∀ (pins : List (Addr × Obj)) (s : Shared) (σ : St) (H : Hp) (D : Ends), Inv X pins σ H s → t D σ H → wpAny (model X.prog X.w) X.A (execs st X.env) (SP X pins D) X.xe s
theorem thn {α : Type} {t : Sem α} {Q Q' : α → Shared → Prop} {M : Model} {A : Around} {E : Value → Shared → Prop} {s : Shared} (h : wpAny M A t Q E s) (hQ : ∀ a s, Q a s → Q' a s) : wpAny M A t Q' E s := wpAny_mono h hQ fun _ _ x => x
end L2
namespace L2
open PySem PySem.Spec PyProof.Rows
section
variable {X : Cx}
def tVar (i : Nat) : TE := fun σ H Q => ∃ v, σ[i]? = some (some v) ∧ Q v H
def tC (v : V) : TE := fun _ H Q => Q v H
theorem pe_var {i : Nat} {x : Str} {pos : Pos} (hN : X.N[i]? = some x) (hv : Vis X.env.scope x) (hd : (x == ("__debug__" : Str)) = false := by decide) (hcd : (x == ("__classdict__" : Str)) = false := by decide) : PE X (.Name x pos) (tVar i) := by
  intro pins s σ H Q I h
  obtain ⟨v, e, h⟩ := h
  obtain ⟨m, hn, hl⟩ := I.loc
  obtain ⟨u, r, l⟩ := hl i x v hN e hv
  have fin : EP X pins σ Q u s := ⟨v, H, I, r, h⟩
  rcases l with ⟨hk, hm⟩ | ⟨hk, c, hc, hcell⟩
  · exact wpAny_Name (wpAny_loadName_local I.ok.kind hk hn hm fin) hd
  · rcases hk with hk | hk
    · exact wpAny_Name (wpAny_loadName_cell I.ok.kind hk hc hcell fin) hd
    · exact wpAny_Name (wpAny_loadName_free I.ok.kind hk hc hcell fin hcd) hd
theorem pe_int {i j pos} : PE X (.Constant (.int i) j pos) (tC (.int i)) := fun _ _ _ H _ I h => wpAny_Constant_int ⟨.int i, H, I.tok _, ⟨_, rfl⟩, h⟩
theorem pe_bl {b j pos} : PE X (.Constant (.bool b) j pos) (tC (.bl b)) := fun _ _ _ H _ I h => Constant_bool ⟨.bl b, H, I, rfl, h⟩
theorem pe_non {j pos} : PE X (.Constant .none j pos) (tC .non) := fun _ _ _ H _ I h => Constant_none ⟨.non, H, I, rfl, h⟩
theorem pe_str {x j pos} : PE X (.Constant (.str x) j pos) (tC (.str x)) := fun _ _ _ H _ I h => Calls.Constant_str ⟨.str x, H, I.tok _, ⟨_, rfl⟩, h⟩
def Gl (X : Cx) (x : Str) : Prop := X.env.kindOf x = some .globalImplicit
theorem ld_glob {E : Value → Shared → Prop} {pins : List (Addr × Obj)} {s : Shared} {σ : St} {H : Hp} {x : Str} {u : Value} {pos : Pos} {Q : Value → Shared → Prop} (I : Inv X pins σ H s) (hg : Gl X x) (hm : X.mg x = some u) (h : Q u s)
    (hd : (x == ("__debug__" : Str)) = false := by decide) : wpAny (model X.prog X.w) X.A (eval (.Name x pos) X.env) Q E s :=
  Calls.Name_function_global I.ok.kind hg (Calls.loadGlobal_global (by rw [I.ok.glob]; exact I.mod.glob.keeps I.bk) hm h) hd
theorem ld_blt {E : Value → Shared → Prop} {pins : List (Addr × Obj)} {s : Shared} {σ : St} {H : Hp} {x : Str} {u : Value} {pos : Pos} {Q : Value → Shared → Prop} (I : Inv X pins σ H s) (hg : Gl X x) (hm : X.mg x = none) (hv : bootBuiltins x = some u) (h : Q u s)
    (hn : x ≠ "__name__" := by decide) (hd : (x == ("__debug__" : Str)) = false := by decide) : wpAny (model X.prog X.w) X.A (eval (.Name x pos) X.env) Q E s := by
  obtain ⟨mb, h1, h2⟩ := I.mod.blt
  exact Calls.Name_function_global I.ok.kind hg (Calls.loadGlobal_builtin (by rw [I.ok.glob]; exact I.mod.glob.keeps I.bk) hm (by rw [I.ok.blt]; exact h1.keeps I.bk) ((h2 x hn).trans hv) h) hd
theorem pe_glob {x : Str} {v : V} {u : Value} {pos : Pos} (hg : Gl X x) (hm : X.mg x = some u) (r : RelV v u) (hd : (x == ("__debug__" : Str)) = false := by decide) : PE X (.Name x pos) (tC v) :=
  fun _ _ _ H _ I h => ld_glob I hg hm ⟨v, H, I, r, h⟩ hd
theorem pe_bltn {x : Str} {v : V} {u : Value} {pos : Pos} (hg : Gl X x) (hm : X.mg x = none) (hv : bootBuiltins x = some u) (r : RelV v u) (hn : x ≠ "__name__" := by decide) (hd : (x == ("__debug__" : Str)) = false := by decide) : PE X (.Name x pos) (tC v) :=
  fun _ _ _ H _ I h => ld_blt I hg hm hv ⟨v, H, I, r, h⟩ hn hd
variable {a b : Expr} {ta tb : TE} {pos : Pos}
def PC (X : Cx) (op : CmpOp) (a b : Expr) (t : TE) : Prop :=
  ∀ (pins : List (Addr × Obj)) (s : Shared) (σ : St) (H : Hp) (Q : VK), Inv X pins σ H s → t σ H Q →
    wpAny (model X.prog X.w) X.A (eval a X.env) (fun v s₁ => wpAny (model X.prog X.w) X.A (eval b X.env) (fun u s₂ => wpAny (model X.prog X.w) X.A (compareOp op v u) (EP X pins σ Q) X.xe s₂) X.xe s₁) X.xe s
theorem nobehind (b : Expr) {op : CmpOp} (h : op ≠ .In) (h2 : op ≠ .NotIn) : behindInMarks op b = false := by
  have e1 : (op == CmpOp.In) = false := by cases op <;> first | rfl | exact absurd rfl h
  have e2 : (op == CmpOp.NotIn) = false := by cases op <;> first | rfl | exact absurd rfl h2
  cases b <;> simp [behindInMarks, e1, e2]
def tB (t : TE) : TT := fun σ H Q => t σ H fun x H1 => ∃ c, x = .bl c ∧ Q c H1
theorem pe_cmp {op : CmpOp} {t : TE} (h : PC X op a b t) (h1 : behindInMarks op b = false := by first | exact nobehind _ (by decide) (by decide) | rfl) : PE X (.Compare a [op] [b] pos) t := fun pins s σ H Q I hw => wpAny_Compare1 (h pins s σ H Q I hw) h1
theorem pt_val {e : Expr} {t : TE} (h : PE X e t) (he : ∀ whole, isTrue e X.env whole = (do let v ← whole; standAt e.pos; holding [v] (truthy v)) := by intro _; rfl) : PT X e (tB t) := by
  intro pins s σ H Q I hw
  refine isTrue_plain (thn (h pins s σ H _ I hw) fun v s1 ⟨x, H1, I1, r1, q1⟩ => ?_) (he _)
  obtain ⟨d, rfl, q⟩ := q1
  cases r1
  exact wpAny_truthy_bool ⟨H1, I1, q⟩
variable {tA tB' : TT} {rest : List Expr}
def tAnd (t u : TT) : TT := fun σ H Q => t σ H fun c H1 => if c = true then u σ H1 Q else Q false H1
def tOr (t u : TT) : TT := fun σ H Q => t σ H fun c H1 => if c = true then Q true H1 else u σ H1 Q
def tNot (t : TT) : TT := fun σ H Q => t σ H fun c H1 => Q (!c) H1
theorem pw_and1 (ha : PT X a tA) : PW X (.BoolOp .And [a] pos) tA := by
  intro wh pins s σ H Q I h
  refine isTrue_and (thn (ha pins s σ H Q I h) fun c s1 e => ?_)
  cases c with
  | true => exact isTrue_and_nil e
  | false => exact e
theorem pw_or1 (ha : PT X a tA) : PW X (.BoolOp .Or [a] pos) tA := by
  intro wh pins s σ H Q I h
  refine isTrue_or (thn (ha pins s σ H Q I h) fun c s1 e => ?_)
  cases c with
  | false => exact isTrue_or_nil e
  | true => exact e
theorem pw_and (ha : PT X a tA) (hb : PW X (.BoolOp .And (b :: rest) pos) tB') : PW X (.BoolOp .And (a :: b :: rest) pos) (tAnd tA tB') := by
  intro wh pins s σ H Q I h
  refine isTrue_and (thn (ha pins s σ H _ I h) fun c s1 ⟨H1, I1, q1⟩ => ?_)
  cases c with
  | true => exact hb wh pins s1 σ H1 Q I1 q1
  | false => exact ⟨H1, I1, q1⟩
theorem pw_or (ha : PT X a tA) (hb : PW X (.BoolOp .Or (b :: rest) pos) tB') : PW X (.BoolOp .Or (a :: b :: rest) pos) (tOr tA tB') := by
  intro wh pins s σ H Q I h
  refine isTrue_or (thn (ha pins s σ H _ I h) fun c s1 ⟨H1, I1, q1⟩ => ?_)
  cases c with
  | true => exact ⟨H1, I1, q1⟩
  | false => exact hb wh pins s1 σ H1 Q I1 q1
theorem pt_not (ha : PT X a tA) : PT X (.UnaryOp .Not a pos) (tNot tA) := by
  intro pins s σ H Q I h
  exact isTrue_not (ha pins s σ H (fun c H1 => Q (!c) H1) I h)
def tAndV (ta tb : TE) : TE := fun σ H Q => ta σ H fun x H1 => ∃ c, x = .bl c ∧ if c = true then tb σ H1 Q else Q (.bl false) H1
def tOrV (ta tb : TE) : TE := fun σ H Q => ta σ H fun x H1 => ∃ c, x = .bl c ∧ if c = true then Q (.bl true) H1 else tb σ H1 Q
def tNotV (ta : TE) : TE := fun σ H Q => ta σ H fun x H1 => ∃ c, x = .bl c ∧ Q (.bl (!c)) H1
theorem pe_one {op} {t : TE} (h : PE X a t) : PE X (.BoolOp op [a] pos) t := fun pins s σ H Q I hw => BoolOp_one (h pins s σ H Q I hw)
theorem pe_and (ha : PE X a ta) (hb : PE X (.BoolOp .And (b :: rest) pos) tb) : PE X (.BoolOp .And (a :: b :: rest) pos) (tAndV ta tb) := by
  intro pins s σ H Q I h
  refine BoolOp_and (thn (ha pins s σ H _ I h) fun v s1 ⟨x, H1, I1, r1, q1⟩ => ?_)
  obtain ⟨c, rfl, q1⟩ := q1
  cases r1
  refine wpAny_truthy_bool ?_
  cases c with
  | true => exact hb pins s1 σ H1 Q I1 q1
  | false => exact ⟨.bl false, H1, I1, rfl, q1⟩
theorem pe_or (ha : PE X a ta) (hb : PE X (.BoolOp .Or (b :: rest) pos) tb) : PE X (.BoolOp .Or (a :: b :: rest) pos) (tOrV ta tb) := by
  intro pins s σ H Q I h
  refine BoolOp_or (thn (ha pins s σ H _ I h) fun v s1 ⟨x, H1, I1, r1, q1⟩ => ?_)
  obtain ⟨c, rfl, q1⟩ := q1
  cases r1
  refine wpAny_truthy_bool ?_
  cases c with
  | false => exact hb pins s1 σ H1 Q I1 q1
  | true => exact ⟨.bl true, H1, I1, rfl, q1⟩
theorem pe_not (ha : PE X a ta) : PE X (.UnaryOp .Not a pos) (tNotV ta) := by
  intro pins s σ H Q I h
  refine UnaryOp_ (thn (ha pins s σ H _ I h) fun v s1 ⟨x, H1, I1, r1, q1⟩ => ?_)
  obtain ⟨c, rfl, q1⟩ := q1
  cases r1
  exact not_of (wpAny_truthy_bool ⟨.bl (!c), H1, I1, rfl, q1⟩)
def tIf (t : TT) (ta tb : TE) : TE := fun σ H Q => t σ H fun c H1 => if c = true then ta σ H1 Q else tb σ H1 Q
theorem pe_ifExp {c : Expr} (hc : PT X c tA) (ha : PE X a ta) (hb : PE X b tb) : PE X (.IfExp c a b pos) (tIf tA ta tb) := by
  intro pins s σ H Q I h
  refine wpAny_IfExp (thn (hc pins s σ H _ I h) fun d s1 ⟨H1, I1, q1⟩ => ?_)
  cases d with
  | true => exact ha pins s1 σ H1 Q I1 q1
  | false => exact hb pins s1 σ H1 Q I1 q1
end
end L2
namespace L2
open PySem PySem.Spec PyProof.Rows
def SqL (K : PySem.W.Frag) (H : Hp) (a : Addr) (xs : List V) : Prop :=
  Rd H a (.lst xs) ∨
    ∃ (o : Obj) (its : Array Value) (n : Nat), K.lookup a = some o ∧ o.cls = .type "list" ∧ o.dict = none ∧ o.data = .seq its n ∧ its.size ≤ sizeLine ∧ Vals xs its.toList
def SqT (K : PySem.W.Frag) (H : Hp) (a : Addr) (xs : List V) : Prop :=
  Rd H a (.tup xs) ∨
    ∃ (o : Obj) (its : Array Value) (n : Nat), K.lookup a = some o ∧ o.cls = .type "tuple" ∧ o.data = .seq its n ∧ its.size ≤ sizeLine ∧ Vals xs its.toList
def absV : Value → Option V
  | .none => some .non
  | .bool b => some (.bl b)
  | .int i _ => some (.int i)
  | .str x _ => some (.str x)
  | .bytes b _ => some (.byt b)
  | .float b _ => some (.flt b)
  | .ref a => some (.ref a)
  | .type n => some (.ty n)
  | _ => none
theorem RelV.abs {x : V} {u : Value} (r : RelV x u) : absV u = some x := by
  cases x with
  | non => cases r; rfl
  | bl _ => cases r; rfl
  | int _ => obtain ⟨t, rfl⟩ := r; rfl
  | str _ => obtain ⟨t, rfl⟩ := r; rfl
  | byt _ => obtain ⟨t, rfl⟩ := r; rfl
  | flt _ => obtain ⟨t, rfl⟩ := r; rfl
  | ref _ => cases r; rfl
  | ty _ => cases r; rfl
theorem RelV.inj {x y : V} {u : Value} (r : RelV x u) (q : RelV y u) : x = y := Option.some.inj (r.abs.symm.trans q.abs)
theorem Vals.inj : ∀ {xs ys : List V} {us : List Value}, Vals xs us → Vals ys us → xs = ys
  | _, _, _, .nil, .nil => rfl
  | _, _, _, .cons r t, .cons r' t' => by rw [r.inj r', Vals.inj t t']
section
variable {X : Cx} {pins : List (Addr × Obj)} {σ : St} {H : Hp} {s : Shared} {a : Addr} {xs ys : List V}
theorem SqL.of {K : PySem.W.Frag} (h : H a = some (.lst xs)) : SqL K H a xs := .inl (.inl h)
theorem SqT.of {K : PySem.W.Frag} (h : H a = some (.tup xs)) : SqT K H a xs := .inl (.inl h)
theorem Inv.list (I : Inv X pins σ H s) (h : SqL X.K H a xs) : ∃ its : List Value, Vals xs its ∧ PlainL s.heap a its.toArray ∧ xs.length ≤ sizeLine := by
  rcases h with h | ⟨o, its, n, hk, hc, hd, hs, hz, r⟩
  · obtain ⟨z, its, n, r, e⟩ := h.ok I.hok
    exact ⟨its, r, ⟨_, n, e, rfl, rfl, rfl⟩, z⟩
  · refine ⟨its.toList, r, ⟨o, n, I.kIn a o hk, hc, hd, by simpa using hs⟩, ?_⟩
    have e := r.length
    simp only [Array.length_toList] at e
    omega
theorem Inv.tuple (I : Inv X pins σ H s) (h : SqT X.K H a xs) : ∃ its : List Value, Vals xs its ∧ IsTup s.heap a its.toArray ∧ xs.length ≤ sizeLine := by
  rcases h with h | ⟨o, its, n, hk, hc, hs, hz, r⟩
  · obtain ⟨z, its, r, p⟩ := h.ok I.hok
    exact ⟨its, r, p, z.1⟩
  · refine ⟨its.toList, r, ⟨o, I.kIn a o hk, hc, n, by simpa using hs⟩, ?_⟩
    have e := r.length
    simp only [Array.length_toList] at e
    omega
theorem Inv.list_inj (I : Inv X pins σ H s) (h : SqL X.K H a xs) (h' : SqL X.K H a ys) : xs = ys := by
  obtain ⟨its, r, ⟨o, n, e, _, _, d⟩, _⟩ := I.list h
  obtain ⟨its', r', ⟨o', n', e', _, _, d'⟩, _⟩ := I.list h'
  rw [e] at e'; cases e'
  rw [d] at d'
  injection d' with d1 _
  have : its = its' := by simpa using congrArg Array.toList d1
  subst this
  exact r.inj r'
end
abbrev Cx.wish (X : Cx) (E : Value → Shared → Prop) : Cx := { X with xe := E }
abbrev Cx.nox (X : Cx) : Cx := X.wish fun _ _ => False
theorem Cx.Ok.wish {X : Cx} (ok : X.Ok) (E : Value → Shared → Prop) : (X.wish E).Ok :=
  ⟨ok.mod, ok.kind, ok.glob, ok.blt, ok.above, ok.inj, ok.has, ok.cab, ok.hd, ok.frames, ok.stk, ok.exf, ok.bs, ok.bsz, ok.noex, ok.exfs, ok.funs, ok.frf⟩
theorem Cx.Ok.unwish {X : Cx} {E : Value → Shared → Prop} (ok : (X.wish E).Ok) : X.Ok :=
  ⟨ok.mod, ok.kind, ok.glob, ok.blt, ok.above, ok.inj, ok.has, ok.cab, ok.hd, ok.frames, ok.stk, ok.exf, ok.bs, ok.bsz, ok.noex, ok.exfs, ok.funs, ok.frf⟩
section
variable {X : Cx} {pins : List (Addr × Obj)} {σ : St} {H : Hp} {s : Shared} {E : Value → Shared → Prop}
theorem Inv.wish (I : Inv X pins σ H s) (E : Value → Shared → Prop) : Inv (X.wish E) pins σ H s := ⟨I.ok.wish E, I.os, I.bare, I.base, I.loc, I.cell, I.free, I.freeC, I.pin, I.hok, I.len⟩
theorem Inv.unwish (I : Inv (X.wish E) pins σ H s) : Inv X pins σ H s := ⟨I.ok.unwish, I.os, I.bare, I.base, I.loc, I.cell, I.free, I.freeC, I.pin, I.hok, I.len⟩
theorem SP.unwish {D : Ends} {f : Flow} {s' : Shared} (h : SP (X.wish E) pins D f s') : SP X pins D f s' := by
  cases f with
  | next => obtain ⟨σ', H', I, q⟩ := h; exact ⟨σ', H', I.unwish, q⟩
  | brk => obtain ⟨σ', H', I, q⟩ := h; exact ⟨σ', H', I.unwish, q⟩
  | cont => obtain ⟨σ', H', I, q⟩ := h; exact ⟨σ', H', I.unwish, q⟩
  | ret u => obtain ⟨v, σ', H', I, r, q⟩ := h; exact ⟨v, σ', H', I.unwish, r, q⟩
theorem PE.nox {e : Expr} {t : TE} (h : PE X.nox e t) : PE X e t := fun pins s σ H Q I hw =>
  wpAny_mono (h pins s σ H Q (I.wish _) hw) (fun _ _ ⟨v, H', I', r, q⟩ => ⟨v, H', I'.unwish, r, q⟩) fun _ _ z => False.elim z
theorem PT.nox {e : Expr} {t : TT} (h : PT X.nox e t) : PT X e t := fun pins s σ H Q I hw =>
  wpAny_mono (h pins s σ H Q (I.wish _) hw) (fun _ _ ⟨H', I', q⟩ => ⟨H', I'.unwish, q⟩) fun _ _ z => False.elim z
theorem PSs.nox {st : List Stmt} {t : TS} (h : PSs X.nox st t) : PSs X st t := fun pins s σ H D I hw =>
  wpAny_mono (h pins s σ H D (I.wish _) hw) (fun _ _ q => q.unwish) fun _ _ z => False.elim z
end
section
variable {X : Cx} {st : Stmt} {rest : List Stmt} {t u : TS} {e : Expr} {te : TE} {pos : Pos}
def tNext : TS := fun D σ H => D.nx σ H
def tSeq (t u : TS) : TS := fun D σ H => t { D with nx := u D } σ H
theorem pss_nil : PSs X [] tNext := fun _ _ σ H _ I h => wpAny_execs_nil ⟨σ, H, I, h⟩
theorem pss_cons (h1 : PS X st t) (h2 : PSs X rest u) : PSs X (st :: rest) (tSeq t u) := by
  intro pins s σ H D I h
  refine wpAny_execs_cons (thn (h1 pins s σ H { D with nx := u D } I h) fun f s1 q => ?_)
  cases f with
  | next =>
    obtain ⟨σ', H', I', q⟩ := q
    exact h2 pins s1 σ' H' D I' q
  | ret v => exact q
  | brk => exact q
  | cont => exact q
theorem pss_one (h1 : PS X st t) : PSs X [st] t := by
  intro pins s σ H D I h
  refine wpAny_execs_cons (thn (h1 pins s σ H D I h) fun f s1 q => ?_)
  cases f with
  | next => exact wpAny_execs_nil q
  | ret v => exact q
  | brk => exact q
  | cont => exact q
theorem Inv.quiet {pins : List (Addr × Obj)} {σ : St} {H : Hp} {s : Shared} (I : Inv X pins σ H s) : interactive X.env = false := by simp [interactive, I.ok.kind]
def tDrop (te : TE) : TS := fun D σ H => te σ H fun _ H1 => D.nx σ H1
theorem ps_expr (he : PE X e te) (hs : swapsWith e none pos.line X.env = pure false := by rfl) : PS X (.Expr e pos) (tDrop te) := by
  intro pins s σ H D I h
  exact wpAny_Expr_any (thn (he pins s σ H _ I h) fun v s1 ⟨x, H1, I1, r1, q1⟩ => ⟨σ, H1, I1, q1⟩) I.quiet hs
def tRet (te : TE) : TS := fun D σ H => te σ H D.rt
theorem ps_ret (he : PE X e te) : PS X (.Return (some e) pos) (tRet te) := by
  intro pins s σ H D I h
  exact wpAny_Return_some (thn (he pins s σ H _ I h) fun v s1 ⟨x, H1, I1, r1, q1⟩ => ⟨x, σ, H1, I1, r1, q1⟩)
def tIfS (c : TT) (t u : TS) : TS := fun D σ H => c σ H fun b H1 => if b = true then t D σ H1 else u D σ H1
theorem ps_if {c : Expr} {a b : List Stmt} {tc : TT} (hc : PT X c tc) (ha : PSs X a t) (hb : PSs X b u) : PS X (.If c a b pos) (tIfS tc t u) := by
  intro pins s σ H D I h
  refine wpAny_If (thn (hc pins s σ H _ I h) fun d s1 ⟨H1, I1, q1⟩ => ?_)
  cases d with
  | true => exact ha pins s1 σ H1 D I1 q1
  | false => exact hb pins s1 σ H1 D I1 q1
end
abbrev TG := V → St → Hp → (St → Hp → Prop) → Prop
abbrev TGs := List V → St → Hp → (St → Hp → Prop) → Prop
def PG (X : Cx) (target : Expr) (t : TG) : Prop :=
  ∀ (pins : List (Addr × Obj)) (s : Shared) (σ : St) (H : Hp) (v : V) (u : Value) (Q : St → Hp → Prop), Inv X pins σ H s → RelV v u → t v σ H Q →
    wpAny (model X.prog X.w) X.A (assign target X.env u) (fun _ s' => ∃ σ' H', Inv X pins σ' H' s' ∧ Q σ' H') X.xe s
def PGs (X : Cx) (ts : List Expr) (t : TGs) : Prop :=
  ∀ (pins : List (Addr × Obj)) (s : Shared) (σ : St) (H : Hp) (vs : List V) (us : List Value) (Q : St → Hp → Prop), Inv X pins σ H s → Vals vs us → t vs σ H Q →
    wpAny (model X.prog X.w) X.A (assignInOrder ((assignEach ts X.env).map (·.2)) us) (fun _ s' => ∃ σ' H', Inv X pins σ' H' s' ∧ Q σ' H') X.xe s
abbrev TSet := V → V → V → Hp → (Hp → Prop) → Prop
def PSet (X : Cx) (t : TSet) : Prop :=
  ∀ (pins : List (Addr × Obj)) (s : Shared) (σ : St) (H : Hp) (o i v : V) (ov iv u : Value) (Q : Hp → Prop), Inv X pins σ H s → RelV o ov → RelV i iv → RelV v u → t o i v H Q →
    wpAny (model X.prog X.w) X.A (setItem ov iv u) (fun _ s' => ∃ H', Inv X pins σ H' s' ∧ Q H') X.xe s
abbrev TIp := V → V → Hp → VK → Prop
def PIp (X : Cx) (op : Operator) (t : TIp) : Prop :=
  ∀ (pins : List (Addr × Obj)) (s : Shared) (σ : St) (H : Hp) (x y : V) (v u : Value) (Q : VK), Inv X pins σ H s → RelV x v → RelV y u → t x y H Q →
    wpAny (model X.prog X.w) X.A (inplaceOp op v u) (EP X pins σ Q) X.xe s
section
variable {X : Cx} {pos : Pos}
def gName (i : Nat) : TG := fun v σ H Q => Q (σ.set i (some v)) H
theorem pg_name {i : Nat} {x : Str} (hN : X.N.Nodup) (hi : X.N[i]? = some x) (hx : Loc X.env.scope x) (hf : X.fn x = true ∨ X.env.scope.names.lookup x = some .local := by first | exact .inl rfl | exact .inr rfl | assumption) : PG X (.Name x pos) (gName i) := by
  intro pins s σ H v u Q I r h
  exact wpAny_assign_Name (store_ok I hN hi hx r (fun s' I' => ⟨_, H, I', h⟩) hf)
def gNil : TGs := fun vs σ H Q => vs = [] ∧ Q σ H
def gCons (t : TG) (u : TGs) : TGs := fun vs σ H Q => ∃ v r, vs = v :: r ∧ t v σ H fun σ' H' => u r σ' H' Q
theorem pgs_nil : PGs X [] gNil := by
  intro pins s σ H vs us Q I r h
  obtain ⟨e, h⟩ := h
  subst e
  cases r
  exact assignInOrder_nil ⟨σ, H, I, h⟩
theorem pgs_cons {e : Expr} {es : List Expr} {t : TG} {u : TGs} (h1 : PG X e t) (h2 : PGs X es u)
    (hs : (assignEach (e :: es) X.env).map (·.2) = assign e X.env :: (assignEach es X.env).map (·.2) := by rfl) : PGs X (e :: es) (gCons t u) := by
  intro pins s σ H vs us Q I r h
  obtain ⟨v, vr, e1, h⟩ := h
  subst e1
  cases r with
  | cons r rr =>
    rw [hs]
    refine assignInOrder_cons (thn (h1 pins s σ H _ _ _ I r h) fun _ s1 ⟨σ1, H1, I1, q1⟩ => ?_)
    exact h2 pins s1 σ1 H1 _ _ Q I1 rr q1
def gTup (K : PySem.W.Frag) (n : Nat) (t : TGs) : TG := fun v σ H Q => ∃ a xs, v = .ref a ∧ SqT K H a xs ∧ xs.length = n ∧ t xs σ H Q
theorem pg_tup {es : List Expr} {k : Nat} {t : TGs} {n : Nat} (hc : X.calm = true) (h : PGs X es t)
    (hn : (assignEach es X.env).length = n := by rfl) (hst : (assignEach es X.env).findIdx? (·.1) = none := by rfl) : PG X (.Tuple es k pos) (gTup X.K n t) := by
  intro pins s σ H v u Q I r hw
  obtain ⟨a, xs, e1, hq, hl, hw⟩ := hw
  subst e1
  cases r
  obtain ⟨its, rv, ht, hz⟩ := I.tuple hq
  refine assign_Tuple_tuple (I.ok.hd hc) ht (by simp [hn, ← hl, rv.length]) hst fun h' hx => ?_
  have I1 : Inv X pins σ H { s with heap := h' } := I.kept (t' := s.toks) fun b o e => hx b o (Nat.ne_of_lt (Heap.lt_size e)) e
  exact h pins _ σ H xs _ Q I1 (by simpa using rv) hw
def gSub (to ti : TE) (t : TSet) : TG := fun v σ H Q => to σ H fun o H1 => ti σ H1 fun i H2 => t o i v H2 fun H3 => Q σ H3
theorem pg_sub {o i : Expr} {to ti : TE} {t : TSet} (ho : PE X o to) (hi : PE X i ti) (hs : PSet X t)
    (ha : ∀ v, assign (.Subscript o i pos) X.env v = (do
      let ov ← holding [v] (eval o X.env)
      let iv ← holding [v, ov] (eval i X.env)
      standAt pos
      holding [v, ov, iv] (setItem ov iv v)
      release [v, ov, iv] []) := by intro _; rfl) : PG X (.Subscript o i pos) (gSub to ti t) := by
  intro pins s σ H v u Q I r h
  rw [ha]
  refine wpAny_bind (wpAny_holding (thn (ho pins s σ H _ I h) fun ov s1 ⟨x, H1, I1, r1, q1⟩ => ?_))
  refine wpAny_bind (wpAny_holding (thn (hi pins s1 σ H1 _ I1 q1) fun iv s2 ⟨y, H2, I2, r2, q2⟩ => ?_))
  refine wpAny_bind (wpAny_standAt (wpAny_bind (wpAny_holding (thn (hs pins s2 σ H2 x y v ov iv u _ I2 r1 r2 r q2) fun _ s3 ⟨H3, I3, q3⟩ => ?_))))
  exact wpAny_release ⟨σ, H3, I3, q3⟩
def tAsg (te : TE) (g : TG) : TS := fun D σ H => te σ H fun x H1 => g x σ H1 D.nx
theorem ps_asg {tg e : Expr} {te : TE} {g : TG} (he : PE X e te) (hg : PG X tg g) (hs : swapsWithSole [tg] e pos.line X.env = pure false := by rfl) (hw : swappedStores [tg] e X.env = pure none := by rfl)
    (h1 : (assignEach [tg] X.env).map (·.2) = [assign tg X.env] := by rfl) : PS X (.Assign [tg] e pos) (tAsg te g) := by
  intro pins s σ H D I h
  refine wpAny_Assign_stores (thn (he pins s σ H _ I h) fun v s1 ⟨x, H1, I1, r1, q1⟩ => ?_) hs hw
  rw [h1]
  exact thn (hg pins s1 σ H1 x v _ I1 r1 q1) fun _ s2 q => q
theorem ps_set {i : Nat} {x : Str} {e : Expr} {te : TE} {pos' : Pos} (hN : X.N.Nodup) (hi : X.N[i]? = some x) (hx : Loc X.env.scope x) (he : PE X e te) (hs : swapsWith e (some (.Name x pos')) pos.line X.env = pure false := by rfl) (hf : X.fn x = true ∨ X.env.scope.names.lookup x = some .local := by first | exact .inl rfl | exact .inr rfl | assumption) :
    PS X (.Assign [.Name x pos'] e pos) (tAsg te (gName i)) := by
  intro pins s σ H D I h
  refine wpAny_Assign_Name (thn (he pins s σ H _ I h) fun v s1 ⟨y, H1, I1, r1, q1⟩ => ?_) hs
  exact store_ok I1 hN hi hx r1 (fun s2 I2 => ⟨_, H1, I2, q1⟩) hf
def tAug (i : Nat) (te : TE) (ti : TIp) : TS := fun D σ H => ∃ x, σ[i]? = some (some x) ∧ te σ H fun y H1 => ti x y H1 fun z H2 => D.nx (σ.set i (some z)) H2
theorem ps_aug {i : Nat} {x : Str} {e : Expr} {te : TE} {op : Operator} {ti : TIp} {pos' : Pos} (hN : X.N.Nodup) (hi : X.N[i]? = some x) (hx : Loc X.env.scope x) (he : PE X e te) (ho : PIp X op ti) (hf : X.fn x = true ∨ X.env.scope.names.lookup x = some .local := by first | exact .inl rfl | exact .inr rfl | assumption) :
    PS X (.AugAssign (.Name x pos') op e pos) (tAug i te ti) := by
  intro pins s σ H D I h
  obtain ⟨v, e1, h⟩ := h
  obtain ⟨m, hn, hl⟩ := I.loc
  have vis : Vis X.env.scope x := by rcases hx with k | k; exact .inl k; exact .inr (.inl k)
  obtain ⟨u, r, l⟩ := hl i x v hi e1 vis
  refine wpAny_AugAssign_Name ?_
  have go : wpAny (model X.prog X.w) X.A (eval e X.env) (fun w s₂ => wpAny (model X.prog X.w) X.A (inplaceOp op u w) (fun r s₃ => wpAny (model X.prog X.w) X.A (storeName X.env x r) (fun _ => SP X pins D .next) X.xe s₃) X.xe s₂) X.xe s := by
    refine thn (he pins s σ H _ I h) fun w s1 ⟨y, H1, I1, r1, q1⟩ => ?_
    refine thn (ho pins s1 σ H1 v y u w _ I1 r r1 q1) fun z s2 ⟨zv, H2, I2, r2, q2⟩ => ?_
    exact store_ok I2 hN hi hx r2 (fun s3 I3 => ⟨_, H2, I3, q2⟩) hf
  rcases l with ⟨hk, hm⟩ | ⟨hk, c, hc, hcell⟩
  · exact wpAny_loadName_local I.ok.kind hk hn hm go
  · rcases hk with hk | hk
    · exact wpAny_loadName_cell I.ok.kind hk hc hcell go
    · rcases hx with k | k
      · have : X.env.scope.names.lookup x = some .free := hk
        rw [k] at this; cases this
      · have : X.env.scope.names.lookup x = some .free := hk
        rw [k] at this; cases this
def ipI (f : Int → Int → Int) : TIp := fun x y H Q => ∃ i j, x = .int i ∧ y = .int j ∧ Q (.int (f i j)) H
theorem ip_add : PIp X .Add (ipI fun i j => i + j) := by
  intro pins s σ H x y v u Q I r1 r2 h
  obtain ⟨i, j, e1, e2, q⟩ := h
  subst e1; subst e2
  obtain ⟨t, rfl⟩ := r1
  obtain ⟨t', rfl⟩ := r2
  exact iadd_int ⟨.int _, H, I.tok _, ⟨_, rfl⟩, q⟩
end
section
variable {X : Cx} {pos : Pos}
def tWhile (c : TT) (tb : TS) : TS := fun D σ H => ∃ W : Nat → St → Hp → Prop, (∃ m, W m σ H) ∧ ∀ m σ H, W m σ H →
  c σ H fun b H1 => if b = true then ∃ N : St → Hp → Prop, (∀ σ' H', N σ' H' → ∃ m', m' < m ∧ W m' σ' H') ∧ tb { D with nx := N, ct := N, bk := D.nx } σ H1 else D.nx σ H1
theorem ps_while {c : Expr} {body : List Stmt} {tc : TT} {tb : TS} (hp : PassesOwn (model X.prog X.w) X.A X.env X.xe) (hc : PT X c tc) (hb : PSs X body tb) : PS X (.While c body [] pos) (tWhile tc tb) := by
  intro pins s σ H D I h
  obtain ⟨W, ⟨m0, w0⟩, turn⟩ := h
  refine wpAny_While (codeAny_whileLoop (fun n s' => ∃ σ' H', Inv X pins σ' H' s' ∧ W n σ' H') ?_ m0 ⟨σ, H, I, w0⟩)
  rintro n s1 ⟨σ1, H1, I1, w1⟩
  refine wpAny_passesOwn hp (thn (hc pins s1 σ1 H1 _ I1 (turn n σ1 H1 w1)) fun b s2 ⟨H2, I2, q2⟩ => ?_)
  cases b with
  | true =>
    obtain ⟨N, hN, q2⟩ := q2
    rw [if_pos rfl]
    refine wpAny_passesOwn hp (thn (hb pins s2 σ1 H2 _ I2 q2) fun f s3 q3 => ?_)
    cases f with
    | next =>
      obtain ⟨σ3, H3, I3, n3⟩ := q3
      obtain ⟨m', hm, w3⟩ := hN σ3 H3 n3
      exact ⟨m', hm, σ3, H3, I3, w3⟩
    | cont =>
      obtain ⟨σ3, H3, I3, n3⟩ := q3
      obtain ⟨m', hm, w3⟩ := hN σ3 H3 n3
      exact ⟨m', hm, σ3, H3, I3, w3⟩
    | brk => exact q3
    | ret v => exact q3
  | false =>
    rw [if_neg Bool.false_ne_true]
    exact wpAny_execs_nil ⟨σ1, H2, I2, q2⟩
end
structure It where
  go : Nat → Hp → Prop
  yld : Nat → Hp → V → Hp → Prop
  stop : Nat → Hp → Prop
def FpOk (X : Cx) (pins : List (Addr × Obj)) (H : Hp) (b : Addr) : Prop :=
  H b = none ∧ b ≠ X.env.locals ∧ b ∉ X.fs ∧ (b ∈ X.ex ∨ X.s₀.heap.objs.size ≤ b) ∧ (∀ x c, X.env.cells.lookup x = some c → c ≠ b) ∧ ∀ p ∈ X.pn ++ pins, p.1 ≠ b
theorem Inv.fpOk {X : Cx} {pins : List (Addr × Obj)} {σ : St} {H H' : Hp} {s : Shared} {b : Addr} (I : Inv X pins σ H s) (hb : s.heap.objs.size ≤ b) (hn : H' b = none) : FpOk X pins H' b := by
  refine ⟨hn, Nat.ne_of_gt (Nat.lt_of_lt_of_le I.lt hb), I.nofs hb, .inr (Nat.le_trans I.sz hb), fun x c e z => ?_, fun p hp z => ?_⟩
  · obtain ⟨v, q⟩ := I.cell x c e
    exact absurd (Nat.lt_of_lt_of_le q.lt (by rw [z]; exact hb)) (Nat.lt_irrefl _)
  · exact absurd (Nat.lt_of_lt_of_le (Heap.lt_size (I.pin p hp).1) (by rw [z]; exact hb)) (Nat.lt_irrefl _)
structure Turn (P : Program) (w : World) (K : PySem.W.Frag) (tg : Expr) (J : It) (fp : List Addr) (it : Addr) (tn : Nat → Heap → Prop) : Prop where
  mem : it ∈ fp
  obj : ∀ i h, tn i h → ∀ b ∈ fp, ∃ o, h.get? b = some o ∧ ∀ v, o.data ≠ .cell v
  keep : ∀ i h h', tn i h → (∀ b ∈ fp, ∀ o, h.get? b = some o → h'.get? b = some o) → tn i h'
  item : ∀ (X : Cx), X.prog = P → X.w = w → X.K = K → X.calm = true → ∀ (i : Nat) (pins : List (Addr × Obj)) (s : Shared) (σ : St) (H : Hp) (E : Value → Shared → Prop), Inv X pins σ H s → (∀ b ∈ fp, FpOk X pins H b) → tn i s.heap → J.go i H →
    wpAny (model P w) X.A (pyNext (.ref it)) (fun r s1 => ∃ u, r = some u ∧
      wpAny (model P w) X.A (letOwnedTupleGo tg (.ref it) u) (fun _ s2 => ∃ x H', Inv X pins σ H' s2 ∧ RelV x u ∧ J.yld i H x H' ∧ tn (i + 1) s2.heap ∧ ∀ b ∈ fp, H' b = none) E s1) E s
  done : ∀ (X : Cx), X.prog = P → X.w = w → X.K = K → X.calm = true → ∀ (i : Nat) (pins : List (Addr × Obj)) (s : Shared) (σ : St) (H : Hp) (E : Value → Shared → Prop), Inv X pins σ H s → (∀ b ∈ fp, FpOk X pins H b) → tn i s.heap → J.stop i H →
    wpAny (model P w) X.A (pyNext (.ref it)) (fun r s1 => r = none ∧ Inv X pins σ H s1) E s
  self : ∀ (A : Around) (i : Nat) (s : Shared) (Q : Value → Shared → Prop) (E : Value → Shared → Prop), tn i s.heap → Q (.ref it) s → wpAny (model P w) A (pyIter (.ref it)) Q E s
abbrev TI := St → Hp → (It → Hp → Prop) → Prop
def PIE (X : Cx) (pins : List (Addr × Obj)) (σ : St) (tg : Expr) (R : It → Hp → Prop) (itv : Value) (s2 : Shared) : Prop :=
  ∃ (it : Addr) (fp : List Addr) (tn : Nat → Heap → Prop) (J : It) (H' : Hp), itv = .ref it ∧ Inv X pins σ H' s2 ∧ Turn X.prog X.w X.K tg J fp it tn ∧ tn 0 s2.heap ∧ (∀ b ∈ fp, FpOk X pins H' b) ∧ R J H'
def PI (X : Cx) (tg iter : Expr) (wi : TI) : Prop :=
  ∀ (pins : List (Addr × Obj)) (s : Shared) (σ : St) (H : Hp) (R : It → Hp → Prop), Inv X pins σ H s → wi σ H R →
    wpAny (model X.prog X.w) X.A (eval iter X.env) (fun v s1 => wpAny (model X.prog X.w) X.A (pyIter v) (PIE X pins σ tg R) X.xe s1) X.xe s
theorem go_of {M : Model} {A : Around} {E : Value → Shared → Prop} {s : Shared} {tg : Expr} {it : Addr} {u : Value} {o : Obj} {n : String} {vs : Array Value} {Q : Unit → Shared → Prop} (ho : s.heap.get? it = some o) (hc : o.cls = .type n) (hd : o.data = .fields vs)
    (hn : ["enumerate", "zip", "dict_itemiterator", "dict_reverseitemiterator", "odict_iterator", "itertools.zip_longest", "itertools.pairwise"].contains n = false) (hQ : Q () s) : wpAny M A (letOwnedTupleGo tg (.ref it) u) Q E s := by
  unfold letOwnedTupleGo
  cases tg <;> first
    | exact wpAny_pure hQ
    | (cases u <;> first
        | exact wpAny_pure hQ
        | (refine wpAny_bind (wpAny_load ho ?_)
           rw [hc, hd]
           show wpAny M A (if (["enumerate", "zip", "dict_itemiterator", "dict_reverseitemiterator", "odict_iterator", "itertools.zip_longest", "itertools.pairwise"].contains n && vs[0]? == some (rawInt _)) = true then _ else _) Q E s
           rw [if_neg (by intro h; rw [hn, Bool.false_and] at h; cases h)]
           exact wpAny_pure hQ))
def Itl (K : PySem.W.Frag) (a : Addr) : It :=
  ⟨fun i H => ∃ xs x, SqL K H a xs ∧ xs[i]? = some x, fun i H x H' => H' = H ∧ ∀ xs, SqL K H a xs → xs[i]? = some x, fun i H => ∃ xs, SqL K H a xs ∧ xs.length ≤ i⟩
def Itr (lo : Int) (n : Nat) : It := ⟨fun i _ => i < n, fun i H x H' => H' = H ∧ x = .int (lo + i), fun i _ => n ≤ i⟩
theorem turn_list {P : Program} {w : World} {K : PySem.W.Frag} {tg : Expr} (a it : Addr) : Turn P w K tg (Itl K a) [it] it (fun i h => h.IsListIter it a i) where
  mem := by simp
  obj := fun i h st b hb => by
    have e : b = it := by simpa using hb
    subst e
    obtain ⟨o, e, c, d⟩ := st
    exact ⟨o, e, fun v z => by rw [d] at z; cases z⟩
  keep := fun i h h' st k => st.at fun o e => k it (by simp) o e
  item := by
    intro X hP hw hK hc i pins s σ H E I hf st hg
    subst hP hw hK
    obtain ⟨xs, x, hq, hx⟩ := hg
    obtain ⟨its, rv, p, hz⟩ := I.list hq
    obtain ⟨u, hu, ru⟩ := rv.get hx
    obtain ⟨f0, f1, f2, f3, f4, f5⟩ := hf it (by simp)
    refine wpAny_pyNext_list_item st p.isList (x := u) (by simpa using hu) fun h' st' sb => ?_
    have I1 : Inv X pins σ H { s with heap := h' } := I.turned (t' := s.toks) (fun b o hb e => (sb.2 b hb).trans e) f0 f1 f3 f4 f5
    obtain ⟨o, e, c, d⟩ := id st'
    exact ⟨u, rfl, go_of (s := { s with heap := h' }) e c d (by decide) ⟨x, H, I1, ru, ⟨rfl, fun ys hy => by rw [I.list_inj hy hq]; exact hx⟩, st', fun b hb => (hf b hb).1⟩⟩
  done := by
    intro X hP hw hK hc i pins s σ H E I hf st hg
    subst hP hw hK
    obtain ⟨xs, hq, hx⟩ := hg
    obtain ⟨its, rv, p, hz⟩ := I.list hq
    obtain ⟨f0, f1, f2, f3, f4, f5⟩ := hf it (by simp)
    have hl := rv.length
    exact wpAny_pyNext_list_end (I.ok.hd hc) st p.isList (by simp; omega) fun h' eb => ⟨rfl, I.turned (t' := s.toks) (fun b o hb e => eb b o hb e) f0 f1 f3 f4 f5⟩
  self := fun _ _ _ _ _ st h => wpAny_pyIter_listiter st h
theorem turn_range {P : Program} {w : World} {K : PySem.W.Frag} {tg : Expr} (it : Addr) (lo : Int) (n : Nat) : Turn P w K tg (Itr lo n) [it] it (fun i h => IsRangeIter h it (lo + (i : Nat) * 1) ((n : Int) - (i : Nat)) 1) where
  mem := by simp
  obj := fun i h st b hb => by
    have e : b = it := by simpa using hb
    subst e
    exact ⟨_, st, fun v z => by
      have z' : Data.fields _ = Data.cell v := z
      cases z'⟩
  keep := fun i h h' st k => k it (by simp) _ st
  item := by
    intro X hP hw hK hc i pins s σ H E I hf st hg
    subst hP hw hK
    obtain ⟨f0, f1, f2, f3, f4, f5⟩ := hf it (by simp)
    have W := Walks.range (prog := X.prog) (w := X.w) (I.ok.hd hc) it lo 1 n
    refine W.item i s _ _ hg st fun v h' tk hv st' kk => ?_
    obtain ⟨t, rfl⟩ := hv
    have I1 : Inv X pins σ H { s with heap := h', toks := tk } := I.turned (fun b o hb e => kk b o (by simpa using hb) e) f0 f1 f3 f4 f5
    refine ⟨_, rfl, go_of (s := { s with heap := h', toks := tk }) (n := "range_iterator") st' rfl rfl (by decide) ⟨.int (lo + i), H, I1, ⟨t, ?_⟩, ⟨rfl, rfl⟩, st', fun b hb => (hf b hb).1⟩⟩
    rw [Int.mul_one]
  done := by
    intro X hP hw hK hc i pins s σ H E I hf st hg
    subst hP hw hK
    obtain ⟨f0, f1, f2, f3, f4, f5⟩ := hf it (by simp)
    exact wpAny_pyNext_range_end (I.ok.hd hc) st (by have : n ≤ i := hg; omega) fun h' eb => ⟨rfl, I.turned (t' := s.toks) (fun b o hb e => eb b o hb e) f0 f1 f3 f4 f5⟩
  self := fun _ _ _ _ _ st h => wpAny_pyIter_rangeiter st h
end L2
namespace L2
open PySem PySem.Spec PyProof.Rows
section
variable {X : Cx} {tg : Expr}
def iList (K : PySem.W.Frag) (tl : TE) : TI := fun σ H R => tl σ H fun x H1 => ∃ a, x = .ref a ∧ (∃ xs, SqL K H1 a xs) ∧ R (Itl K a) H1
theorem pi_list {l : Expr} {tl : TE} (hl : PE X l tl) : PI X tg l (iList X.K tl) := by
  intro pins s σ H R I h
  refine thn (hl pins s σ H _ I h) fun v s1 ⟨x, H1, I1, r1, q1⟩ => ?_
  obtain ⟨a, e, ⟨xs, hq⟩, q⟩ := q1
  subst e
  cases r1
  obtain ⟨its, rv, p, hz⟩ := I1.list hq
  refine wpAny_pyIter_list p.isList ?_
  refine ⟨s1.heap.objs.size, [s1.heap.objs.size], _, _, H1, rfl, I1.kept (t' := s1.toks) fun b o e => Heap.get?_push_of_some _ e, turn_list a _, ⟨_, Heap.get?_push_size _ rfl, rfl, rfl⟩, fun b hb => ?_, q⟩
  have e : b = s1.heap.objs.size := by simpa using hb
  subst e
  exact I1.fpOk (Nat.le_refl _) (I1.hok.fresh (Nat.le_refl _))
theorem range_it {pins : List (Addr × Obj)} {σ : St} {H : Hp} {s : Shared} {R : It → Hp → Prop} {E : Value → Shared → Prop} {lo hi : Int} {t u v : Tok} {tk : Nat} (I : Inv X pins σ H s) (h1 : -(2 ^ 62) ≤ lo) (h2 : lo < 2 ^ 62) (h3 : -(2 ^ 62) ≤ hi) (h4 : hi < 2 ^ 62)
    (q : R (Itr lo (hi - lo).toNat) H) : wpAny (model X.prog X.w) X.A (pyIter (.ref s.heap.objs.size)) (PIE X pins σ tg R) E { s with heap := s.heap.push { cls := .type "range", data := .fields #[.int lo t, .int hi u, .int 1 v] }, toks := tk } := by
  refine wpAny_pyIter_range (IsRange.new ..) (small_one h1 h2 h3 h4) ?_
  have I1 : Inv X pins σ H { s with heap := s.heap.push { cls := .type "range", data := .fields #[.int lo t, .int hi u, .int 1 v] }, toks := tk } := I.kept fun b o e => Heap.get?_push_of_some _ e
  refine ⟨(s.heap.push { cls := .type "range", data := .fields #[.int lo t, .int hi u, .int 1 v] }).objs.size, [(s.heap.push { cls := .type "range", data := .fields #[.int lo t, .int hi u, .int 1 v] }).objs.size], _, _, H, rfl,
    I1.kept (t' := tk) fun b o e => Heap.get?_push_of_some _ e, turn_range _ lo (hi - lo).toNat, ?_, fun b hb => ?_, q⟩
  · have e1 : lo + ((0 : Nat) : Int) * 1 = lo := by simp
    have e2 : (((hi - lo).toNat : Nat) : Int) - ((0 : Nat) : Int) = Builtin.Range.rangeSize lo hi 1 := by rw [rangeSize_one]; split <;> omega
    show IsRangeIter _ _ (lo + ((0 : Nat) : Int) * 1) ((((hi - lo).toNat : Nat) : Int) - ((0 : Nat) : Int)) 1
    rw [e1, e2]
    exact Heap.get?_push_size _ rfl
  · have e : b = (s.heap.push { cls := .type "range", data := .fields #[.int lo t, .int hi u, .int 1 v] }).objs.size := by simpa using hb
    subst e
    exact I1.fpOk (Nat.le_refl _) (I1.hok.fresh (Nat.le_refl _))
def iRng1 (ta : TA) : TI := fun σ H R => ta σ H fun vs H1 => ∃ j : Int, vs = [.int j] ∧ -(2 ^ 62) ≤ j ∧ j < 2 ^ 62 ∧ R (Itr 0 j.toNat) H1
def iRng2 (ta : TA) : TI := fun σ H R => ta σ H fun vs H1 => ∃ i j : Int, vs = [.int i, .int j] ∧ (-(2 ^ 62) ≤ i ∧ i < 2 ^ 62 ∧ -(2 ^ 62) ≤ j ∧ j < 2 ^ 62) ∧ R (Itr i (j - i).toNat) H1
theorem pi_range1 {a : Expr} {ta : TA} {p pos : Pos} (hg : Gl X "range") (hm : X.mg "range" = none) (ha : PA X [a] ta) (hs : starEach [a] X.env = [(false, eval a X.env)] := by rfl) : PI X tg (.Call (.Name "range" p) [a] [] pos) (iRng1 ta) := by
  intro pins s σ H R I h
  refine Call_ (ld_blt I hg hm boot_range (PyProof.Rows.callWith_type1 (thn (ha pos pins s σ H _ I h) fun us s1 ⟨vs, H1, I1, r1, q1⟩ => ?_) hs rfl))
  obtain ⟨j, e, q1, q2, q⟩ := q1
  subst e
  cases r1 with
  | cons r rr =>
    cases rr
    obtain ⟨t, rfl⟩ := r
    exact call_range_1 (range_it I1 (by omega) (by omega) q1 q2 (by simpa using q))
theorem pi_range2 {a b : Expr} {ta : TA} {p pos : Pos} (hg : Gl X "range") (hm : X.mg "range" = none) (ha : PA X [a, b] ta) (hs : starEach [a, b] X.env = [(false, eval a X.env), (false, eval b X.env)] := by rfl) (hs2 : starEach [b] X.env = [(false, eval b X.env)] := by rfl) :
    PI X tg (.Call (.Name "range" p) [a, b] [] pos) (iRng2 ta) := by
  intro pins s σ H R I h
  refine Call_ (ld_blt I hg hm boot_range (PyProof.Rows.callWith_type1 (thn (ha pos pins s σ H _ I h) fun us s1 ⟨vs, H1, I1, r1, q1⟩ => ?_) (by rw [hs, hs2]) (by rw [hs2]; rfl)))
  obtain ⟨i, j, e, ⟨q1, q2, q3, q4⟩, q⟩ := q1
  subst e
  cases r1 with
  | cons r rr =>
    cases rr with
    | cons r' rr =>
      cases rr
      obtain ⟨t, rfl⟩ := r
      obtain ⟨t', rfl⟩ := r'
      exact call_range_2 (range_it I1 q1 q2 q3 q4 q)
def tFor (wi : TI) (g : TG) (tb : TS) : TS := fun D σ H => wi σ H fun J H1 => ∃ W : Nat → Nat → St → Hp → Prop, (∃ m, W 0 m σ H1) ∧ ∀ i m σ H, W i m σ H →
  (J.stop i H ∧ D.nx σ H) ∨ (J.go i H ∧ ∃ N : St → Hp → Prop, (∀ σ' H', N σ' H' → ∃ m', m' < m ∧ W (i + 1) m' σ' H') ∧ ∀ x H', J.yld i H x H' → g x σ H' fun σ2 H2 => tb { D with nx := N, ct := N, bk := D.nx } σ2 H2)
def pinsAt (fp : List Addr) (h : Heap) : List (Addr × Obj) := fp.filterMap fun b => (h.get? b).map fun o => (b, o)
theorem mem_pinsAt {fp : List Addr} {h : Heap} {b : Addr} {o : Obj} (hb : b ∈ fp) (e : h.get? b = some o) : (b, o) ∈ pinsAt fp h := List.mem_filterMap.mpr ⟨b, hb, by rw [e]; rfl⟩
theorem of_pinsAt {fp : List Addr} {h : Heap} {p : Addr × Obj} (hp : p ∈ pinsAt fp h) : p.1 ∈ fp ∧ h.get? p.1 = some p.2 := by
  obtain ⟨b, hb, e⟩ := List.mem_filterMap.mp hp
  cases q : h.get? b with
  | none => rw [q] at e; cases e
  | some o =>
    rw [q] at e
    have e' : (b, o) = p := Option.some.inj e
    subst e'
    exact ⟨hb, q⟩
theorem Inv.pinned {pins : List (Addr × Obj)} {σ : St} {H : Hp} {s : Shared} {fp : List Addr} (I : Inv X pins σ H s) (hf : ∀ b ∈ fp, FpOk X pins H b) (ho : ∀ b ∈ fp, ∃ o, s.heap.get? b = some o ∧ ∀ v, o.data ≠ .cell v) : Inv X (pins ++ pinsAt fp s.heap) σ H s :=
  I.pins_of fun p hp => (List.mem_append.mp hp).elim (fun z => I.pin p (List.mem_append_right _ z)) fun z => by
    obtain ⟨hb, e⟩ := of_pinsAt z
    obtain ⟨f0, f1, f2, _⟩ := hf p.1 hb
    obtain ⟨o, e', d⟩ := ho p.1 hb
    rw [e] at e'; cases e'
    exact ⟨e, f0, f1, f2, d⟩
theorem Inv.unpinned {pins pl : List (Addr × Obj)} {σ : St} {H : Hp} {s : Shared} (I : Inv X (pins ++ pl) σ H s) : Inv X pins σ H s := I.pins_of fun p hp => I.pin p (List.mem_append_right _ (List.mem_append_left _ hp))
theorem ps_for {iter : Expr} {body : List Stmt} {wi : TI} {g : TG} {tb : TS} {pos : Pos} (hp : PassesOwn (model X.prog X.w) X.A X.env X.xe) (hc : X.calm = true) (hi : PI X tg iter wi) (hg : PG X tg g) (hb : PSs X body tb)
    (hs : ∀ x, foldedSetIterable iter X.env x = pure x := by intro _; rfl) : PS X (.For tg iter body [] pos) (tFor wi g tb) := by
  intro pins s σ H D I h
  refine wpAny_For (thn (hi pins s σ H _ I h) fun v s1 h1 => thn h1 fun itv s2 h2 => ?_) hs
  obtain ⟨it, fp, tn, J, H2, e, I2, T, st2, f2, W, ⟨m0, w0⟩, turn⟩ := h2
  subst e
  have stat : ∀ {H' : Hp}, (∀ b ∈ fp, H' b = none) → ∀ b ∈ fp, FpOk X pins H' b := fun hn b hb => ⟨hn b hb, (f2 b hb).2⟩
  refine codeAny_forLoop_any (fun n s' => ∃ i σ' H', Inv X pins σ' H' s' ∧ tn i s'.heap ∧ (∀ b ∈ fp, H' b = none) ∧ W i n σ' H') ?_ m0 ⟨0, σ, H2, I2, st2, fun b hb => (f2 b hb).1, w0⟩
  rintro n s3 ⟨i, σ3, H3, I3, st3, fr3, w3⟩
  rcases turn i n σ3 H3 w3 with ⟨stop, qn⟩ | ⟨go, N, hN, step⟩
  · refine wpAny_passesOwn hp (thn (T.done X rfl rfl rfl hc i pins s3 σ3 H3 X.xe I3 (stat fr3) st3 stop) fun r s4 ⟨hr, I4⟩ => ?_)
    subst hr
    exact wpAny_execs_nil ⟨σ3, H3, I4, qn⟩
  · refine wpAny_passesOwn hp (thn (T.item X rfl rfl rfl hc i pins s3 σ3 H3 X.xe I3 (stat fr3) st3 go) fun r s4 ⟨u, hr, h4⟩ => ?_)
    subst hr
    refine wpAny_passesOwn hp (thn h4 fun _ s5 ⟨x, H5, I5, r5, y5, st5, fr5⟩ => ?_)
    have I5' := I5.pinned (stat fr5) (T.obj _ _ st5)
    refine wpAny_passesOwn hp (thn (hg _ s5 σ3 H5 x u _ I5' r5 (step x H5 y5)) fun _ s6 ⟨σ6, H6, I6, q6⟩ => ?_)
    refine wpAny_passesOwn hp (thn (hb _ s6 σ6 H6 _ I6 q6) fun f s7 q7 => ?_)
    have again : ∀ {σ7 : St} {H7 : Hp}, Inv X (pins ++ pinsAt fp s5.heap) σ7 H7 s7 → N σ7 H7 → ∃ m, m < n ∧ ∃ i σ' H', Inv X pins σ' H' s7 ∧ tn i s7.heap ∧ (∀ b ∈ fp, H' b = none) ∧ W i m σ' H' := fun {σ7 H7} I7 n7 => by
      obtain ⟨m', hm, w7⟩ := hN σ7 H7 n7
      refine ⟨m', hm, i + 1, σ7, H7, I7.unpinned, T.keep _ _ _ st5 fun b hb o e => (I7.pin (b, o) (List.mem_append_right _ (List.mem_append_right _ (mem_pinsAt hb e)))).1, fun b hb => ?_, w7⟩
      obtain ⟨o, e, d⟩ := T.obj _ _ st5 b hb
      exact (I7.pin (b, o) (List.mem_append_right _ (List.mem_append_right _ (mem_pinsAt hb e)))).2.1
    cases f with
    | next => obtain ⟨σ7, H7, I7, n7⟩ := q7; exact again I7 n7
    | cont => obtain ⟨σ7, H7, I7, n7⟩ := q7; exact again I7 n7
    | brk => obtain ⟨σ7, H7, I7, q7⟩ := q7; exact ⟨σ7, H7, I7.unpinned, q7⟩
    | ret v => obtain ⟨x7, σ7, H7, I7, r7, q7⟩ := q7; exact ⟨x7, σ7, H7, I7.unpinned, r7, q7⟩
end
theorem for_list {K : PySem.W.Frag} {a : Addr} {xs : List V} {g : TG} {tb : TS} {D : Ends} {σ : St} {H : Hp} (Pv : Nat → St → Hp → Prop) (h0 : Pv 0 σ H) (hl : ∀ i σ H, i ≤ xs.length → Pv i σ H → SqL K H a xs)
    (hs : ∀ i x σ H, xs[i]? = some x → Pv i σ H → g x σ H fun σ2 H2 => tb { D with nx := Pv (i + 1), ct := Pv (i + 1), bk := D.nx } σ2 H2) (hd : ∀ σ H, Pv xs.length σ H → D.nx σ H) :
    ∃ W : Nat → Nat → St → Hp → Prop, (∃ m, W 0 m σ H) ∧ ∀ i m σ H, W i m σ H →
      ((Itl K a).stop i H ∧ D.nx σ H) ∨ ((Itl K a).go i H ∧ ∃ N : St → Hp → Prop, (∀ σ' H', N σ' H' → ∃ m', m' < m ∧ W (i + 1) m' σ' H') ∧ ∀ x H', (Itl K a).yld i H x H' → g x σ H' fun σ2 H2 => tb { D with nx := N, ct := N, bk := D.nx } σ2 H2) := by
  refine ⟨fun i m σ H => m = xs.length - i ∧ i ≤ xs.length ∧ Pv i σ H, ⟨xs.length, by simp, Nat.zero_le _, h0⟩, ?_⟩
  rintro i m σ H ⟨rfl, hi, p⟩
  have q := hl i σ H hi p
  by_cases hlt : i < xs.length
  · refine .inr ⟨⟨xs, xs[i], q, by simp [hlt]⟩, Pv (i + 1), fun σ' H' p' => ⟨xs.length - (i + 1), by omega, rfl, hlt, p'⟩, fun x H' y => ?_⟩
    obtain ⟨e, y⟩ := y
    subst e
    exact hs i x σ _ (y xs q) p
  · have e : i = xs.length := by omega
    subst e
    exact .inl ⟨⟨xs, q, Nat.le_refl _⟩, hd σ H p⟩
theorem for_range {lo : Int} {n : Nat} {g : TG} {tb : TS} {D : Ends} {σ : St} {H : Hp} (Pv : Nat → St → Hp → Prop) (h0 : Pv 0 σ H)
    (hs : ∀ i σ H, i < n → Pv i σ H → g (.int (lo + i)) σ H fun σ2 H2 => tb { D with nx := Pv (i + 1), ct := Pv (i + 1), bk := D.nx } σ2 H2) (hd : ∀ σ H, Pv n σ H → D.nx σ H) :
    ∃ W : Nat → Nat → St → Hp → Prop, (∃ m, W 0 m σ H) ∧ ∀ i m σ H, W i m σ H →
      ((Itr lo n).stop i H ∧ D.nx σ H) ∨ ((Itr lo n).go i H ∧ ∃ N : St → Hp → Prop, (∀ σ' H', N σ' H' → ∃ m', m' < m ∧ W (i + 1) m' σ' H') ∧ ∀ x H', (Itr lo n).yld i H x H' → g x σ H' fun σ2 H2 => tb { D with nx := N, ct := N, bk := D.nx } σ2 H2) := by
  refine ⟨fun i m σ H => m = n - i ∧ i ≤ n ∧ Pv i σ H, ⟨n, by simp, Nat.zero_le _, h0⟩, ?_⟩
  rintro i m σ H ⟨rfl, hi, p⟩
  by_cases hlt : i < n
  · refine .inr ⟨hlt, Pv (i + 1), fun σ' H' p' => ⟨n - (i + 1), by omega, rfl, hlt, p'⟩, fun x H' y => ?_⟩
    obtain ⟨e, y⟩ := y
    subst e y
    exact hs i σ _ hlt p
  · have e : i = n := by omega
    subst e
    exact .inl ⟨Nat.le_refl _, hd σ H p⟩
theorem while_by {c : TT} {tb : TS} {D : Ends} {σ : St} {H : Hp} (Pv : St → Hp → Prop) (μ : St → Hp → Nat) (h0 : Pv σ H)
    (hs : ∀ σ H, Pv σ H → c σ H fun b H1 => if b = true then tb { D with nx := fun σ' H' => Pv σ' H' ∧ μ σ' H' < μ σ H, ct := fun σ' H' => Pv σ' H' ∧ μ σ' H' < μ σ H, bk := D.nx } σ H1 else D.nx σ H1)
    (mono : ∀ σ H Q Q', (∀ b H1, Q b H1 → Q' b H1) → c σ H Q → c σ H Q') : tWhile c tb D σ H := by
  refine ⟨fun m σ H => m = μ σ H ∧ Pv σ H, ⟨_, rfl, h0⟩, ?_⟩
  rintro m σ H ⟨rfl, p⟩
  refine mono σ H _ _ (fun b H1 q => ?_) (hs σ H p)
  cases b with
  | true => exact ⟨_, fun σ' H' ⟨p', l⟩ => ⟨_, l, rfl, p'⟩, q⟩
  | false => exact q
end L2
namespace L2
open PySem PySem.Spec PyProof.Rows
abbrev R2 := V → V → Hp → VK → Prop
def OpR (X : Cx) (f : Value → Value → Sem Value) (r : R2) : Prop :=
  ∀ (pins : List (Addr × Obj)) (s : Shared) (σ : St) (H : Hp) (x y : V) (v u : Value) (Q : VK), Inv X pins σ H s → RelV x v → RelV y u → r x y H Q →
    wpAny (model X.prog X.w) X.A (f v u) (EP X pins σ Q) X.xe s
def UnR (X : Cx) (f : Value → Sem Value) (r : V → Hp → VK → Prop) : Prop :=
  ∀ (pins : List (Addr × Obj)) (s : Shared) (σ : St) (H : Hp) (x : V) (v : Value) (Q : VK), Inv X pins σ H s → RelV x v → r x H Q →
    wpAny (model X.prog X.w) X.A (f v) (EP X pins σ Q) X.xe s
def CallR (X : Cx) (f : Value) (r : List V → Hp → VK → Prop) : Prop :=
  ∀ (pins : List (Addr × Obj)) (s : Shared) (σ : St) (H : Hp) (xs : List V) (us : List Value) (Q : VK), Inv X pins σ H s → Vals xs us → r xs H Q →
    wpAny (model X.prog X.w) X.A (call f us) (EP X pins σ Q) X.xe s
def tOp (r : R2) (ta tb : TE) : TE := fun σ H Q => ta σ H fun x H1 => tb σ H1 fun y H2 => r x y H2 Q
def tUn (r : V → Hp → VK → Prop) (ta : TE) : TE := fun σ H Q => ta σ H fun x H1 => r x H1 Q
def rI (C : Int → Int → Prop) (g : Int → Int → V) : R2 := fun x y H Q => ∃ i j, x = .int i ∧ y = .int j ∧ C i j ∧ Q (g i j) H
def rI0 (g : Int → Int → V) : R2 := fun x y H Q => ∃ i j, x = .int i ∧ y = .int j ∧ Q (g i j) H
def rU (g : Int → V) : V → Hp → VK → Prop := fun x H Q => ∃ i, x = .int i ∧ Q (g i) H
section
variable {X : Cx} {a b c : Expr} {ta tb tc : TE} {pos : Pos}
theorem binT (ha : PE X a ta) (hb : PE X b tb) {pins : List (Addr × Obj)} {s : Shared} {σ : St} {H : Hp} {R : V → V → Hp → Prop} (I : Inv X pins σ H s)
    (h : ta σ H fun x H1 => tb σ H1 fun y H2 => R x y H2) {Q : Value → Shared → Prop} {f : Value → Value → Sem Value}
    (hf : ∀ v u s2 x y H2, Inv X pins σ H2 s2 → RelV x v → RelV y u → R x y H2 → wpAny (model X.prog X.w) X.A (f v u) Q X.xe s2) :
    wpAny (model X.prog X.w) X.A (eval a X.env) (fun v s₁ => wpAny (model X.prog X.w) X.A (eval b X.env) (fun u s₂ => wpAny (model X.prog X.w) X.A (f v u) Q X.xe s₂) X.xe s₁) X.xe s := by
  refine thn (ha pins s σ H _ I h) fun v s1 ⟨x, H1, I1, r1, q1⟩ => ?_
  refine thn (hb pins s1 σ H1 _ I1 q1) fun u s2 ⟨y, H2, I2, r2, q2⟩ => ?_
  exact hf v u s2 x y H2 I2 r1 r2 q2
theorem pe_op {op : Operator} {r : R2} (ho : OpR X (binaryOp op) r) (ha : PE X a ta) (hb : PE X b tb) : PE X (.BinOp a op b pos) (tOp r ta tb) := by
  intro pins s σ H Q I h
  exact wpAny_BinOp (binT ha hb I h fun v u s2 x y H2 I2 rx ry q => ho pins s2 σ H2 x y v u Q I2 rx ry q)
theorem pe_un {op : UnaryOp} {r : V → Hp → VK → Prop} (ho : UnR X (unaryOp op) r) (ha : PE X a ta) : PE X (.UnaryOp op a pos) (tUn r ta) := by
  intro pins s σ H Q I h
  exact UnaryOp_ (thn (ha pins s σ H _ I h) fun v s1 ⟨x, H1, I1, r1, q1⟩ => ho pins s1 σ H1 x v Q I1 r1 q1)
theorem opI {f : Value → Value → Sem Value} {C : Int → Int → Prop} {g : Int → Int → Int}
    (rule : ∀ (i j : Int) (t u : Tok) (s : Shared) (Q : Value → Shared → Prop) (E : Value → Shared → Prop), C i j → Q (.int (g i j) s.toks) { s with toks := s.toks + 1 } → wpAny (model X.prog X.w) X.A (f (.int i t) (.int j u)) Q E s) :
    OpR X f (rI C fun i j => .int (g i j)) := by
  intro pins s σ H x y v u Q I rx ry h
  obtain ⟨i, j, rfl, rfl, hc, q⟩ := h
  obtain ⟨t, rfl⟩ := rx
  obtain ⟨t', rfl⟩ := ry
  exact rule i j t t' s _ _ hc ⟨.int (g i j), H, I.tok _, ⟨_, rfl⟩, q⟩
theorem opI0 {f : Value → Value → Sem Value} {g : Int → Int → Int}
    (rule : ∀ (i j : Int) (t u : Tok) (s : Shared) (Q : Value → Shared → Prop) (E : Value → Shared → Prop), Q (.int (g i j) s.toks) { s with toks := s.toks + 1 } → wpAny (model X.prog X.w) X.A (f (.int i t) (.int j u)) Q E s) :
    OpR X f (rI0 fun i j => .int (g i j)) := by
  intro pins s σ H x y v u Q I rx ry h
  obtain ⟨i, j, rfl, rfl, q⟩ := h
  obtain ⟨t, rfl⟩ := rx
  obtain ⟨t', rfl⟩ := ry
  exact rule i j t t' s _ _ ⟨.int (g i j), H, I.tok _, ⟨_, rfl⟩, q⟩
theorem opB0 {f : Value → Value → Sem Value} {g : Int → Int → Bool}
    (rule : ∀ (i j : Int) (t u : Tok) (s : Shared) (Q : Value → Shared → Prop) (E : Value → Shared → Prop), Q (.bool (g i j)) s → wpAny (model X.prog X.w) X.A (f (.int i t) (.int j u)) Q E s) :
    OpR X f (rI0 fun i j => .bl (g i j)) := by
  intro pins s σ H x y v u Q I rx ry h
  obtain ⟨i, j, rfl, rfl, q⟩ := h
  obtain ⟨t, rfl⟩ := rx
  obtain ⟨t', rfl⟩ := ry
  exact rule i j t t' s _ _ ⟨.bl (g i j), H, I, rfl, q⟩
def CDiv (i j : Int) : Prop := 0 < j ∧ j < 1073741824
def CPow (i j : Int) : Prop := 0 ≤ j ∧ j ≤ 1000000 ∧ i.natAbs < 2 ^ 64
def CMul (i j : Int) : Prop := (-(2 ^ 64) < i ∧ i < 2 ^ 64) ∨ (-(2 ^ 64) < j ∧ j < 2 ^ 64)
theorem CMul.ok {i j : Int} (h : CMul i j) : IntMulOk i j := by
  rcases h with ⟨h1, h2⟩ | ⟨h1, h2⟩
  · exact .of_left (intBits_le_64 h1 h2)
  · exact .of_right (intBits_le_64 h1 h2)
theorem op_add : OpR X (binaryOp .Add) (rI0 fun i j => .int (i + j)) := opI0 fun _ _ _ _ _ _ _ q => add_int q
theorem op_sub : OpR X (binaryOp .Sub) (rI0 fun i j => .int (i - j)) := opI0 fun _ _ _ _ _ _ _ q => sub_int q
theorem op_mul : OpR X (binaryOp .Mult) (rI CMul fun i j => .int (i * j)) := opI fun _ _ _ _ _ _ _ hc q => mul_int q hc.ok
theorem op_fdiv : OpR X (binaryOp .FloorDiv) (rI CDiv fun i j => .int (i / j)) := opI fun i j _ _ _ _ _ hc q => by
  have h1 : (0 : Int) < j := hc.1
  have h2 : j < 1073741824 := hc.2
  exact floordiv_int (by omega) (by rw [Int.fdiv_eq_ediv_of_nonneg i (by omega)]; exact q) (.inl (PyProof.noPylong_small (by omega)))
theorem op_mod : OpR X (binaryOp .Mod) (rI (fun _ j => 0 < j) fun i j => .int (i % j)) := opI fun i j _ _ _ _ _ hc q => by
  have h1 : (0 : Int) < j := hc
  exact mod_int' (by omega) (by rw [Int.fmod_eq_emod_of_nonneg i (by omega)]; exact q)
theorem op_pow : OpR X (binaryOp .Pow) (rI CPow fun i j => .int (i ^ j.toNat)) := opI fun _ _ _ _ _ _ _ hc q => pow_int_small hc.1 hc.2.1 hc.2.2 q
theorem unI {f : Value → Sem Value} {g : Int → Int}
    (rule : ∀ (i : Int) (t : Tok) (s : Shared) (Q : Value → Shared → Prop) (E : Value → Shared → Prop), Q (.int (g i) s.toks) { s with toks := s.toks + 1 } → wpAny (model X.prog X.w) X.A (f (.int i t)) Q E s) :
    UnR X f (rU fun i => .int (g i)) := by
  intro pins s σ H x v Q I rx h
  obtain ⟨i, rfl, q⟩ := h
  obtain ⟨t, rfl⟩ := rx
  exact rule i t s _ _ ⟨.int (g i), H, I.tok _, ⟨_, rfl⟩, q⟩
theorem un_neg : UnR X (unaryOp .USub) (rU fun i => .int (-i)) := unI fun _ _ _ _ _ q => neg_int q
end
def scal : V → V → Bool
  | .non, .non => true | .non, .int _ => true | .int _, .non => true | .non, .bl _ => true | .bl _, .non => true | .non, .str _ => true | .str _, .non => true
  | .int _, .int _ => true | .bl _, .bl _ => true | .str _, .str _ => true | .byt _, .byt _ => true
  | .int _, .str _ => true | .str _, .int _ => true | .bl _, .str _ => true | .str _, .bl _ => true
  | _, _ => false
def rEq : R2 := fun x y H Q => scal x y = true ∧ Q (.bl (decide (x = y))) H
def rNe : R2 := fun x y H Q => scal x y = true ∧ Q (.bl (!decide (x = y))) H
theorem dec_int {i j : Int} : decide (V.int i = V.int j) = (i == j) := by
  rw [Bool.eq_iff_iff]
  simp
theorem dec_bl {i j : Bool} : decide (V.bl i = V.bl j) = (i == j) := by
  rw [Bool.eq_iff_iff]
  simp
theorem dec_str {i j : Str} : decide (V.str i = V.str j) = (i == j) := by
  rw [Bool.eq_iff_iff]
  simp
theorem dec_byt {i j : Array UInt8} : decide (V.byt i = V.byt j) = (i.toList == j.toList) := by
  rw [Bool.eq_iff_iff]
  cases i
  cases j
  simp
section
variable {X : Cx} {a b c : Expr} {ta tb tc : TE} {pos : Pos}
theorem fin_bl {pins : List (Addr × Obj)} {σ : St} {H : Hp} {s : Shared} {Q : VK} {k k' : Bool} (I : Inv X pins σ H s) (q : Q (.bl k) H) (e : k = k') : EP X pins σ Q (.bool k') s := by
  subst e
  exact ⟨.bl k, H, I, rfl, q⟩
theorem op_eq : OpR X (compareOp .Eq) rEq := by
  intro pins s σ H x y v u Q I rx ry h
  obtain ⟨hs, q⟩ := h
  cases x with
  | non =>
    cases rx
    cases y with
    | non => cases ry; exact PySem.EqNone.eq_none_none (fin_bl I q (by simp))
    | bl j => cases ry; exact PySem.EqNone.eq_none_bool (fin_bl I q (by simp))
    | int j => obtain ⟨t', rfl⟩ := ry; exact PySem.EqNone.eq_none_int (fin_bl I q (by simp))
    | str j => obtain ⟨t', rfl⟩ := ry; exact PySem.EqNone.eq_none_str (fin_bl I q (by simp))
    | _ => exact absurd (show false = true from hs) Bool.false_ne_true
  | bl i =>
    cases rx
    cases y with
    | non => cases ry; exact PySem.EqNone.eq_bool_none (fin_bl I q (by simp))
    | bl j => cases ry; exact eq_bool (fin_bl I q dec_bl)
    | str j => obtain ⟨t', rfl⟩ := ry; exact PySem.EqMixed.eq_bool_str (fin_bl I q (by simp))
    | _ => exact absurd (show false = true from hs) Bool.false_ne_true
  | int i =>
    obtain ⟨t, rfl⟩ := rx
    cases y with
    | non => cases ry; exact PySem.EqNone.eq_int_none (fin_bl I q (by simp))
    | int j => obtain ⟨t', rfl⟩ := ry; exact eq_int (fin_bl I q dec_int)
    | str j => obtain ⟨t', rfl⟩ := ry; exact PySem.EqMixed.eq_int_str (fin_bl I q (by simp))
    | _ => exact absurd (show false = true from hs) Bool.false_ne_true
  | str i =>
    obtain ⟨t, rfl⟩ := rx
    cases y with
    | non => cases ry; exact PySem.EqNone.eq_str_none (fin_bl I q (by simp))
    | bl j => cases ry; exact PySem.EqMixed.eq_str_bool (fin_bl I q (by simp))
    | int j => obtain ⟨t', rfl⟩ := ry; exact PySem.EqMixed.eq_str_int (fin_bl I q (by simp))
    | str j => obtain ⟨t', rfl⟩ := ry; exact eq_str (fin_bl I q dec_str)
    | _ => exact absurd (show false = true from hs) Bool.false_ne_true
  | byt i =>
    obtain ⟨t, rfl⟩ := rx
    cases y with
    | byt j => obtain ⟨t', rfl⟩ := ry; exact PySem.W.eq_bytes (fin_bl I q dec_byt)
    | _ => exact absurd (show false = true from hs) Bool.false_ne_true
  | _ => cases y <;> exact absurd (show false = true from hs) Bool.false_ne_true
theorem op_ne : OpR X (compareOp .NotEq) rNe := by
  intro pins s σ H x y v u Q I rx ry h
  obtain ⟨hs, q⟩ := h
  cases x with
  | non =>
    cases rx
    cases y with
    | non => cases ry; exact PySem.EqNone.ne_none_none (fin_bl I q (by simp))
    | bl j => cases ry; exact PySem.EqNone.ne_none_bool (fin_bl I q (by simp))
    | int j => obtain ⟨t', rfl⟩ := ry; exact PySem.EqNone.ne_none_int (fin_bl I q (by simp))
    | str j => obtain ⟨t', rfl⟩ := ry; exact PySem.EqNone.ne_none_str (fin_bl I q (by simp))
    | _ => exact absurd (show false = true from hs) Bool.false_ne_true
  | bl i =>
    cases rx
    cases y with
    | non => cases ry; exact PySem.EqNone.ne_bool_none (fin_bl I q (by simp))
    | bl j => cases ry; exact ne_bool (fin_bl I q (congrArg not dec_bl))
    | str j => obtain ⟨t', rfl⟩ := ry; exact PySem.EqMixed.ne_bool_str (fin_bl I q (by simp))
    | _ => exact absurd (show false = true from hs) Bool.false_ne_true
  | int i =>
    obtain ⟨t, rfl⟩ := rx
    cases y with
    | non => cases ry; exact PySem.EqNone.ne_int_none (fin_bl I q (by simp))
    | int j => obtain ⟨t', rfl⟩ := ry; exact ne_int (fin_bl I q (congrArg not dec_int))
    | str j => obtain ⟨t', rfl⟩ := ry; exact PySem.EqMixed.ne_int_str (fin_bl I q (by simp))
    | _ => exact absurd (show false = true from hs) Bool.false_ne_true
  | str i =>
    obtain ⟨t, rfl⟩ := rx
    cases y with
    | non => cases ry; exact PySem.EqNone.ne_str_none (fin_bl I q (by simp))
    | bl j => cases ry; exact PySem.EqMixed.ne_str_bool (fin_bl I q (by simp))
    | int j => obtain ⟨t', rfl⟩ := ry; exact PySem.EqMixed.ne_str_int (fin_bl I q (by simp))
    | str j => obtain ⟨t', rfl⟩ := ry; exact ne_str (fin_bl I q (congrArg not dec_str))
    | _ => exact absurd (show false = true from hs) Bool.false_ne_true
  | byt i =>
    obtain ⟨t, rfl⟩ := rx
    cases y with
    | byt j => obtain ⟨t', rfl⟩ := ry; exact PySem.W.ne_bytes (fin_bl I q (congrArg not dec_byt))
    | _ => exact absurd (show false = true from hs) Bool.false_ne_true
  | _ => cases y <;> exact absurd (show false = true from hs) Bool.false_ne_true
theorem op_lt : OpR X (compareOp .Lt) (rI0 fun i j => .bl (decide (i < j))) := opB0 fun _ _ _ _ _ _ _ q => lt_int q
theorem op_le : OpR X (compareOp .LtE) (rI0 fun i j => .bl (decide (i ≤ j))) := opB0 fun _ _ _ _ _ _ _ q => le_int q
theorem op_gt : OpR X (compareOp .Gt) (rI0 fun i j => .bl (decide (j < i))) := opB0 fun _ _ _ _ _ _ _ q => gt_int q
theorem op_ge : OpR X (compareOp .GtE) (rI0 fun i j => .bl (decide (j ≤ i))) := opB0 fun _ _ _ _ _ _ _ q => ge_int q
theorem op_isN : OpR X (compareOp .Is) (fun x y H Q => y = .non ∧ Q (.bl (decide (x = .non))) H) := by
  intro pins s σ H x y v u Q I rx ry h
  obtain ⟨rfl, q⟩ := h
  cases ry
  refine is_none_gen (fin_bl I q ?_)
  cases x <;> first
    | (cases rx; rfl)
    | (obtain ⟨t, rfl⟩ := rx; rfl)
theorem OpR.or {f : Value → Value → Sem Value} {r r' : R2} (h : OpR X f r) (h' : OpR X f r') : OpR X f (fun x y H Q => r x y H Q ∨ r' x y H Q) := by
  intro pins s σ H x y v u Q I rx ry q
  rcases q with q | q
  · exact h pins s σ H x y v u Q I rx ry q
  · exact h' pins s σ H x y v u Q I rx ry q
theorem nomark (b : Expr) {op : CmpOp} (h : op ≠ .In := by decide) (h2 : op ≠ .NotIn := by decide) : behindInMarks op b = false := by
  have e1 : (op == CmpOp.In) = false := by cases op <;> first | rfl | exact absurd rfl h
  have e2 : (op == CmpOp.NotIn) = false := by cases op <;> first | rfl | exact absurd rfl h2
  cases b <;> simp [behindInMarks, e1, e2]
theorem pe_cmpR {op : CmpOp} {r : R2} (ho : OpR X (compareOp op) r) (ha : PE X a ta) (hb : PE X b tb) (hm : behindInMarks op b = false) : PE X (.Compare a [op] [b] pos) (tOp r ta tb) := by
  intro pins s σ H Q I h
  exact wpAny_Compare1 (binT ha hb I h fun v u s2 x y H2 I2 rx ry q => ho pins s2 σ H2 x y v u Q I2 rx ry q) hm
def tTest (t : TE) : TT := fun σ H Q => t σ H fun x H' => ∃ k, x = .bl k ∧ Q k H'
theorem pt_cmpR {op : CmpOp} {r : R2} (ho : OpR X (compareOp op) r) (ha : PE X a ta) (hb : PE X b tb) (hm : behindInMarks op b = false) : PT X (.Compare a [op] [b] pos) (tTest (tOp r ta tb)) := by
  intro pins s σ H Q I h
  refine wpAny_isTrue_Compare1 (thn (ha pins s σ H _ I h) fun v s1 ⟨x, H1, I1, r1, q1⟩ => thn (hb pins s1 σ H1 _ I1 q1) fun u s2 ⟨y, H2, I2, r2, q2⟩ =>
    thn (ho pins s2 σ H2 x y v u _ I2 r1 r2 q2) fun c s3 ⟨z, H3, I3, r3, k, e, q3⟩ => ?_) hm
  subst e
  cases r3
  exact wpAny_truthy_bool ⟨H3, I3, q3⟩
def tChain (r r' : R2) (ta tb tc : TE) : TE := fun σ H Q => ta σ H fun x H1 => tb σ H1 fun y H2 => r x y H2 fun z H3 => ∃ k, z = .bl k ∧
  (if k = true then tc σ H3 fun w' H4 => r' y w' H4 Q else Q (.bl false) H3)
theorem pe_chain {op op' : CmpOp} {r r' : R2} (ho : OpR X (compareOp op) r) (ho' : OpR X (compareOp op') r') (ha : PE X a ta) (hb : PE X b tb) (hc : PE X c tc)
    (hm : lastMarks [op, op'] [b, c] = false := by with_unfolding_all rfl) : PE X (.Compare a [op, op'] [b, c] pos) (tChain r r' ta tb tc) := by
  intro pins s σ H Q I h
  refine Compare_chain (thn (ha pins s σ H _ I h) fun v s1 ⟨x, H1, I1, r1, q1⟩ => chain_link (thn (hb pins s1 σ H1 _ I1 q1) fun u s2 ⟨y, H2, I2, r2, q2⟩ =>
    thn (ho pins s2 σ H2 x y v u _ I2 r1 r2 q2) fun d s3 ⟨z, H3, I3, r3, k, e, q3⟩ => ?_)) hm
  subst e
  cases r3
  refine wpAny_truthy_bool ?_
  cases k with
  | false => exact ite_ff ⟨.bl false, H3, I3, rfl, q3⟩
  | true => exact ite_tt (chain_last (thn (hc pins s3 σ H3 _ I3 q3) fun w' s4 ⟨z', H4, I4, r4, q4⟩ => ho' pins s4 σ H4 y z' u w' Q I4 r2 r4 q4))
theorem line63 : (sizeLine : Nat) < 2 ^ 63 := by rw [sizeLine_eq]; decide
theorem op_add_str : OpR X (binaryOp .Add) (fun x y H Q => ∃ i j, x = .str i ∧ y = .str j ∧ i.length + j.length ≤ sizeLine ∧ Q (.str (i ++ j)) H) := by
  intro pins s σ H x y v u Q I rx ry h
  obtain ⟨i, j, rfl, rfl, hz, q⟩ := h
  obtain ⟨t, rfl⟩ := rx
  obtain ⟨t', rfl⟩ := ry
  exact add_str (fun t' tk => ⟨.str (i ++ j), H, I.tok _, ⟨_, rfl⟩, q⟩) hz
theorem vals1 {x : V} {us : List Value} (r : Vals [x] us) : ∃ u, us = [u] ∧ RelV x u := by
  cases r with
  | cons r1 r2 => cases r2; exact ⟨_, rfl, r1⟩
theorem vals2 {x y : V} {us : List Value} (r : Vals [x, y] us) : ∃ u w', us = [u, w'] ∧ RelV x u ∧ RelV y w' := by
  cases r with
  | cons r1 r2 =>
    cases r2 with
    | cons r3 r4 => cases r4; exact ⟨_, _, rfl, r1, r3⟩
theorem call_max2 (hc : X.calm = true) : CallR X (.builtin "max") (fun xs H Q => ∃ i j, xs = [.int i, .int j] ∧ Q (.int (if j > i then j else i)) H) := by
  intro pins s σ H xs us Q I r h
  obtain ⟨i, j, rfl, q⟩ := h
  obtain ⟨u, w', rfl, ⟨t, rfl⟩, ⟨t', rfl⟩⟩ := vals2 r
  refine max_two_ints (I.ok.hd hc) fun h' tk k => ⟨_, H, I.kept k, ?_, q⟩
  by_cases hj : j > i
  · rw [if_pos hj, if_pos hj]; exact ⟨_, rfl⟩
  · rw [if_neg hj, if_neg hj]; exact ⟨_, rfl⟩
theorem call_min2 (hc : X.calm = true) : CallR X (.builtin "min") (fun xs H Q => ∃ i j, xs = [.int i, .int j] ∧ Q (.int (if j < i then j else i)) H) := by
  intro pins s σ H xs us Q I r h
  obtain ⟨i, j, rfl, q⟩ := h
  obtain ⟨u, w', rfl, ⟨t, rfl⟩, ⟨t', rfl⟩⟩ := vals2 r
  refine min_two_ints (I.ok.hd hc) fun h' tk k => ⟨_, H, I.kept k, ?_, q⟩
  by_cases hj : j < i
  · rw [if_pos hj, if_pos hj]; exact ⟨_, rfl⟩
  · rw [if_neg hj, if_neg hj]; exact ⟨_, rfl⟩
theorem call_int1 : CallR X (.type "int") (fun xs H Q => (∃ i, xs = [.int i] ∧ Q (.int i) H) ∨ ∃ k, xs = [.bl k] ∧ Q (.int (if k then 1 else 0)) H) := by
  intro pins s σ H xs us Q I r h
  rcases h with ⟨i, rfl, q⟩ | ⟨k, rfl, q⟩
  · obtain ⟨u, rfl, t, rfl⟩ := vals1 r
    exact call_int_int ⟨.int i, H, I, ⟨_, rfl⟩, q⟩
  · obtain ⟨u, rfl, r1⟩ := vals1 r
    cases r1
    exact call_int_bool ⟨.int (if k then 1 else 0), H, I.tok _, ⟨_, rfl⟩, q⟩
end
end L2
namespace L2
open PySem PySem.Spec PyProof.Rows
structure ObjM (h : Heap) (x dx C : Addr) (mA : Str → Option Value) : Prop where
  obj : h.get? x = some (PySem.W.instObj C dx)
  ns : h.Ns1 dx mA
  ne : dx ≠ x
theorem lookIn_ns {h : Heap} {dx : Addr} {mA : Str → Option Value} (n : h.Ns1 dx mA) : ∃ od, h.get? dx = some od ∧ ∀ name, PySem.W.lookIn name od = some (mA name) := by
  obtain ⟨o, es, ep, ho, hd, hk, _, hm⟩ := n
  refine ⟨o, ho, fun name => ?_⟩
  have e := hm name
  unfold nsFind findBy at e
  rw [← Array.find?_toList] at e
  unfold PySem.W.lookIn
  rw [hd]
  dsimp only
  split
  · rename_i y q
    rw [q] at e
    exact congrArg some e
  · rename_i q
    rw [q] at e
    have a : es.toList.any (·.refKey) = false := by
      rw [List.any_eq_false]
      intro y hy
      obtain ⟨z, t, hkey⟩ := hk y (Array.mem_toList_iff.mp hy)
      simp [DictEntry.refKey, hkey]
    have a' : ¬ es.toList.any (·.refKey) = true := by rw [a]; exact Bool.false_ne_true
    rw [if_neg a']
    exact congrArg some e
theorem ObjM.look {h : Heap} {x dx C : Addr} {mA : Str → Option Value} (I : ObjM h x dx C mA) : ∃ od, PySem.W.InstAt h x (PySem.W.instObj C dx) C (some od) ∧ ∀ name, PySem.W.lookIn name od = some (mA name) :=
  let ⟨od, ho, hl⟩ := lookIn_ns I.ns
  ⟨od, ⟨I.obj, rfl, rfl, ho⟩, hl⟩
section
variable {prog : Program} {w : World} {A : Around} {E : Value → Shared → Prop} {s : Shared} {K : PySem.W.Frag} {x dx C f : Addr} {mA : Str → Option Value} {name : Str} {v : Value}
end
section
variable {P : Program} {w : World} {H H' : Hp} {h h' : Heap} {a C dx : Addr} {fs fs' : List (Str × V)}
theorem ins_get (hok : HOk P w H h) (e : H a = some (.ins C dx fs)) : ∃ mA, ObjM h a dx C mA ∧ (∀ f, RelO (fs.lookup f) (mA f)) ∧ PySem.Within mA (fs.map (·.1)) ∧ fs.length ≤ 1000 ∧ H dx = some (.own a) := by
  obtain ⟨d, z, ne, ob, mA, n, r, q⟩ := (show ObjOk P w H h a (.ins C dx fs) from hok a _ e)
  exact ⟨mA, ⟨ob, n, ne⟩, r, q, z, d⟩
end
structure Cls (K : PySem.W.Frag) (C : Addr) : Prop where
  pg : PySem.W.plainGet K C Str.empty = true
  hd : PySem.W.hasDictIn K C = true
  po : PySem.W.plainOver K C = true
  sa : PySem.W.findIn K (.ref C) "__setattr__" = some (some (.builtin "object.__setattr__"))
theorem Cls.get {K : PySem.W.Frag} {C : Addr} (c : Cls K C) (f : Str) : PySem.W.plainGet K C f = true := c.pg
structure Con (K : PySem.W.Frag) (C : Addr) (f : Str) (v : V) (u : Value) : Prop where
  at_ : PySem.W.findIn K (.ref C) f = some (some u)
  rel : RelV v u
  get : PySem.W.specialIn K u "__get__" = some none
  cp : PySem.W.copiedNames.contains f = false
structure Meth (K : PySem.W.Frag) (C : Addr) (m : Str) (f : Addr) : Prop where
  at_ : PySem.W.findIn K (.ref C) m = some (some (.ref f))
  fn : PySem.W.isFn K (.ref f) = true
  kp : PySem.W.keepIn K (.ref f) = true
section
variable {X : Cx} {pins : List (Addr × Obj)} {σ : St} {H : Hp} {s : Shared} {a C dx : Addr} {fs : List (Str × V)} {f : Str} {v : V} {A : Around} {E : Value → Shared → Prop}
theorem Inv.made (I : Inv X pins σ H s) : Inv X pins σ (upd (upd H s.heap.objs.size (.own (s.heap.objs.size + 1))) (s.heap.objs.size + 1) (.ins C s.heap.objs.size []))
    { s with heap := (s.heap.push PySem.W.emptyDict).push (PySem.W.instObj C s.heap.objs.size) } := by
  have e1 : (s.heap.push PySem.W.emptyDict).get? s.heap.objs.size = some PySem.W.emptyDict := Heap.get?_push_size s.heap rfl
  have e2 : ((s.heap.push PySem.W.emptyDict).push (PySem.W.instObj C s.heap.objs.size)).get? (s.heap.objs.size + 1) = some (PySem.W.instObj C s.heap.objs.size) := by
    have := Heap.get?_push_size (s.heap.push PySem.W.emptyDict) (o := PySem.W.instObj C s.heap.objs.size) rfl
    rwa [Heap.size_push] at this
  have e3 : (s.heap.push PySem.W.emptyDict).Ns s.heap.objs.size (fun _ => none) := ⟨PySem.W.emptyDict, #[], _, e1, rfl, (fun e he => absurd he (by simp)), fun _ => rfl⟩
  have I1 := I.laid (a := s.heap.objs.size) (o := .own (s.heap.objs.size + 1)) (h' := s.heap.push PySem.W.emptyDict) (t' := s.toks) (fun b u q => Heap.get?_push_of_some _ q) (Nat.le_refl _) ⟨_, e1⟩
  refine I1.laid (a := s.heap.objs.size + 1) (o := .ins C s.heap.objs.size []) (t' := s.toks) (fun b u q => Heap.get?_push_of_some _ q) (Nat.le_of_eq (Heap.size_push _ _)) ?_
  have ne : s.heap.objs.size ≠ s.heap.objs.size + 1 := Nat.ne_of_lt (Nat.lt_succ_self _)
  refine ⟨by rw [upd_ne ne, upd_same], Nat.zero_le _, ne, e2, fun _ => none, (Heap.Ns1.of_empty e3).at fun o q => Heap.get?_push_of_some _ q, fun _ => True.intro, fun y hy => absurd rfl hy⟩
end
section
variable {X : Cx} {o e value : Expr} {f : Str} {pos pos' tpos : Pos} {ta tv : TE}
end
section
variable {X : Cx} {pins : List (Addr × Obj)} {σ : St} {H : Hp} {s : Shared} {A : Around} {E : Value → Shared → Prop} {Q : Value → Shared → Prop} {c : Value} {b : Bool}
inductive TyOf (K : PySem.W.Frag) (H : Hp) : V → Value → Prop where
  | non : TyOf K H .non (.type "NoneType")
  | bl (x : Bool) : TyOf K H (.bl x) (.type "bool")
  | int (i : Int) : TyOf K H (.int i) (.type "int")
  | str (x : Str) : TyOf K H (.str x) (.type "str")
  | flt (x : UInt64) : TyOf K H (.flt x) (.type "float")
  | lst {a : Addr} {xs : List V} (e : H a = some (.lst xs)) : TyOf K H (.ref a) (.type "list")
  | frz {a : Addr} {o : Obj} {xs : List V} (e : H a = some (.frz o (.lst xs))) : TyOf K H (.ref a) (.type "list")
  | tup {a : Addr} {xs : List V} (e : H a = some (.tup xs)) : TyOf K H (.ref a) (.type "tuple")
  | dK {a : Addr} {kvs : List (Key × V)} (e : H a = some (.dK kvs)) : TyOf K H (.ref a) (.type "dict")
  | dT {a : Addr} {kvs : List (List Key × V)} (e : H a = some (.dT kvs)) : TyOf K H (.ref a) (.type "dict")
  | ins {a C dx : Addr} {fs : List (Str × V)} (e : H a = some (.ins C dx fs)) (cl : Cls K C) (ha : PySem.W.findIn K (.ref C) "__class__" = some (some (.builtin "object.__class__")))
      (hn : PySem.W.specialIn K (.builtin "object.__class__") "__get__" = some (some (.builtin "getset_descriptor.__get__"))) (htk : PySem.W.takesIn K (.builtin "object.__class__") = some true)
      (hm : PySem.W.mroIn K C (.type "object") = some true) : TyOf K H (.ref a) (.ref C)
theorem isinst_ok {x : V} {u t : Value} (I : Inv X pins σ H s) (rx : RelV x u) (ty : TyOf X.K H x t) (e : PySem.W.kitOne X.K t c = some b) (h : ∀ tk, Q (.bool b) { s with toks := tk }) :
    wpAny (model X.prog X.w) A (call (.builtin "isinstance") [u, c]) Q E s := by
  cases ty with
  | non => cases (show u = Value.none from rx); exact PySem.W.kia_one PySem.W.kitx_none I.kIn True.intro e (fun z => nomatch z) h
  | bl y => cases (show u = Value.bool y from rx); exact PySem.W.kia_one PySem.W.kitx_bool I.kIn True.intro e (fun z => nomatch z) h
  | int i => obtain ⟨t, q⟩ := (show ∃ t, u = Value.int i t from rx); cases q; exact PySem.W.kia_one PySem.W.kitx_int I.kIn True.intro e (fun z => nomatch z) h
  | str y => obtain ⟨t, q⟩ := (show ∃ t, u = Value.str y t from rx); cases q; exact PySem.W.kia_one PySem.W.kitx_str I.kIn True.intro e (fun z => nomatch z) h
  | flt y => obtain ⟨t, q⟩ := (show ∃ t, u = Value.float y t from rx); cases q; exact PySem.W.kia_one PySem.W.kitx_float I.kIn True.intro e (fun z => nomatch z) h
  | @lst a xs ea =>
    cases (show u = Value.ref a from rx)
    obtain ⟨_, _, n, _, h1⟩ := (show ObjOk X.prog X.w H s.heap a (.lst xs) from I.hok a _ ea)
    exact PySem.W.kia_one PySem.W.kitx_list I.kIn ⟨_, h1, rfl⟩ e (fun z => nomatch z) h
  | @frz a ob xs ea =>
    cases (show u = Value.ref a from rx)
    obtain ⟨_, _, _, n, _, h1⟩ := (show ObjOk X.prog X.w H s.heap a (.frz ob (.lst xs)) from I.hok a _ ea)
    exact PySem.W.kia_one PySem.W.kitx_list I.kIn ⟨_, h1, rfl⟩ e (fun z => nomatch z) h
  | @tup a xs ea =>
    cases (show u = Value.ref a from rx)
    obtain ⟨_, _, _, p⟩ := (show ObjOk X.prog X.w H s.heap a (.tup xs) from I.hok a _ ea)
    obtain ⟨o, h1, h2, _⟩ := p
    exact PySem.W.kia_one PySem.W.kitx_tuple I.kIn ⟨o, h1, h2⟩ e (fun z => nomatch z) h
  | @dK a kvs ea =>
    cases (show u = Value.ref a from rx)
    obtain ⟨_, _, vs, _, p⟩ := (show ObjOk X.prog X.w H s.heap a (.dK kvs) from I.hok a _ ea)
    obtain ⟨o, es, ep, h1, h2, _⟩ := p
    exact PySem.W.kia_one PySem.W.kitx_dict I.kIn ⟨o, h1, h2.1⟩ e (fun z => nomatch z) h
  | @dT a kvs ea =>
    cases (show u = Value.ref a from rx)
    obtain ⟨_, _, xs, _, o, es, ep, h1, h2, _⟩ := (show ObjOk X.prog X.w H s.heap a (.dT kvs) from I.hok a _ ea)
    exact PySem.W.kia_one PySem.W.kitx_dict I.kIn ⟨o, h1, h2.1⟩ e (fun z => nomatch z) h
  | @ins a C dx fs ea cl ha hn htk hm =>
    cases (show u = Value.ref a from rx)
    obtain ⟨mA, O, _⟩ := ins_get I.hok ea
    obtain ⟨od, J, _⟩ := O.look
    exact PySem.W.kia_one (PySem.W.kitx_own (cl.get _) cl.hd ha hn htk hm) I.kIn J e (fun z => nomatch z) h
end
end L2
namespace L2
open PySem PySem.Spec PyProof.Rows
structure Room (k : Nat) (A : Around) : Prop where
  hd : A.handled = none
  dp : A.depth + 3 * k + 5 < recursionLimit
  un : A.units + 16 * k + 200 < cLine
  gd : A.guards = some []
theorem Room.mono {j k : Nat} {A : Around} (r : Room k A) (h : j ≤ k) : Room j A := ⟨r.hd, by have := r.dp; omega, by have := r.un; omega, by first | exact r.gd | (simpa [Around.under, Code.isGuard, guardIds] using r.gd)⟩
theorem Room.deeper {k : Nat} {A : Around} (r : Room (k + 1) A) (env : Env) : Room k (A.deeper env) :=
  ⟨r.hd, by have := r.dp; show A.depth + 1 + 3 * k + 5 < _; omega, by have := r.un; show A.units + 3 + 16 * k + 200 < _; omega, by first | exact r.gd | (simpa [Around.under, Code.isGuard, guardIds] using r.gd)⟩
theorem Room.in1 {k : Nat} {A : Around} (r : Room (k + 1) A) : Room k A.in1 :=
  ⟨r.hd, by have := r.dp; show A.depth + 3 * k + 5 < _; omega, by have := r.un; show A.units + 1 + 16 * k + 200 < _; omega, by first | exact r.gd | (simpa [Around.under, Code.isGuard, guardIds] using r.gd)⟩
theorem Room.depth {k : Nat} {A : Around} (r : Room k A) : A.depth < recursionLimit := by have := r.dp; omega
theorem Room.units {k : Nat} {A : Around} (r : Room k A) : A.units + 64 < cLine := by have := r.un; omega
def tNil : TA := fun _ H Q => Q [] H
def tCons (ta : TE) (tr : TA) : TA := fun σ H Q => ta σ H fun x H1 => tr σ H1 fun xs H2 => Q (x :: xs) H2
section
variable {X : Cx} {e : Expr} {es : List Expr} {te : TE} {t : TA} {pos : Pos}
theorem pa_nil : PA X [] tNil := fun _ _ _ _ H Q I h => Calls.spliced_nil ⟨[], H, I, .nil, h⟩
theorem pa_cons (ha : PE X e te) (hr : PA X es t) (hs : starEach (e :: es) X.env = (false, eval e X.env) :: starEach es X.env := by rfl) : PA X (e :: es) (tCons te t) := by
  intro pos pins s σ H Q I h
  rw [hs]
  show wpAny _ _ (spliced ((false, eval e X.env) :: backTo pos (starEach es X.env))) _ _ s
  refine Calls.spliced_cons (thn (ha pins s σ H _ I h) fun u s1 ⟨x, H1, I1, r1, q1⟩ => ?_)
  exact thn (hr pos pins s1 σ H1 _ I1 q1) fun us s2 ⟨xs, H2, I2, r2, q2⟩ => ⟨x :: xs, H2, I2, .cons r1 r2, q2⟩
def tTup (t : TA) : TE := fun σ H Q => t σ H fun xs H1 => xs.length ≤ sizeLine ∧ ∀ p, H1 p = none → Q (.ref p) (upd H1 p (.tup xs))
def tLst (t : TA) : TE := fun σ H Q => t σ H fun xs H1 => xs.length ≤ sizeLine ∧ ∀ p, H1 p = none → Q (.ref p) (upd H1 p (.lst xs))
theorem pe_tup {x1} (h : PA X es t) : PE X (.Tuple es x1 pos) (tTup t) := by
  intro pins s σ H Q I hq
  refine wpAny_Tuple_spliced (thn (h pos pins s σ H _ I hq) fun us s1 ⟨xs, H1, I1, r, z, q⟩ => ⟨by rw [← r.length]; exact z, ?_⟩)
  have hf : H1 s1.heap.objs.size = none := I1.hok.fresh (Nat.le_refl _)
  refine ⟨.ref s1.heap.objs.size, upd H1 s1.heap.objs.size (.tup xs), I1.laid (t' := s1.toks) (fun b u e => Heap.get?_push_of_some _ e) (Nat.le_refl _) ?_, rfl, q _ hf⟩
  exact ⟨⟨z, _, Heap.get?_push_size _ rfl, rfl⟩, us, r, ⟨_, Heap.get?_push_size _ rfl, rfl, _, rfl⟩⟩
theorem pe_lst (h : PA X es t) : PE X (.List es pos) (tLst t) := by
  intro pins s σ H Q I hq
  refine wpAny_List_spliced (thn (h pos pins s σ H _ I hq) fun us s1 ⟨xs, H1, I1, r, z, q⟩ => ⟨by rw [← r.length]; exact z, ?_⟩)
  have hf : H1 s1.heap.objs.size = none := I1.hok.fresh (Nat.le_refl _)
  refine ⟨.ref s1.heap.objs.size, upd H1 s1.heap.objs.size (.lst xs), I1.laid (t' := s1.toks) (fun b u e => Heap.get?_push_of_some _ e) (Nat.le_refl _) ?_, rfl, q _ hf⟩
  exact ⟨z, us, 0, r, Heap.get?_push_size _ rfl⟩
end
abbrev Sp := List V → Hp → VK → XK → Prop
abbrev CXT := List Env → Hp → Shared → XK → Value → Shared → Prop
structure Env0 (P : Program) (w : World) (K : PySem.W.Frag) (mg : Str → Option Value) (base : Heap) (A : Around) (outer : List Env) (s : Shared) (H : Hp) : Prop where
  frames : A.frames = some outer
  mod : Mod K mg base
  bs : ∀ b o, base.get? b = some o → s.heap.get? b = some o ∧ H b = none
  bsz : base.objs.size ≤ s.heap.objs.size
  funs : s.heap.FunFrames base outer
  frf : ∀ b ∈ frs outer, H b = none
  hok : HOk P w H s.heap
  bare : AllBare s.gens
def CE (outer : List Env) (P : Program) (w : World) (H : Hp) (s : Shared) (Q : VK) (u : Value) (s' : Shared) : Prop :=
  ∃ v H', s'.os = s.os ∧ AllBare s'.gens ∧ Un (frs outer) [] H H' s.heap s'.heap ∧ HOk P w H' s'.heap ∧ RelV v u ∧ Q v H'
def CR (CX : CXT) (outer : List Env) (P : Program) (w : World) (H : Hp) (s : Shared) (Q : VK) (E : XK) (r : Result) (s' : Shared) : Prop :=
  match r with
  | .ok (.ret u) => CE outer P w H s Q u s'
  | .ok _ => False
  | .error e => CX outer H s E e s'
structure FnOk (P : Program) (w : World) (K : PySem.W.Frag) (mg : Str → Option Value) (base : Heap) (CX : CXT) (k : Nat) (f : Addr) (fd : FuncData) (ps : List Str) (sp : Sp) : Prop where
  len : ∀ vs H Q E, sp vs H Q E → vs.length = ps.length
  run : ∀ (A : Around) (outer : List Env) (s : Shared) (H : Hp) (args : Args) (us : List Value) (vs : List V) (Q : VK) (E : XK), Room k A → Env0 P w K mg base A outer s H → BindsTo s fd args (ps.zip us) → Vals vs us → sp vs H Q E →
    codeAny (model P w) A (.call (.ref f) args) (CR CX outer P w H s Q E) s
theorem FnOk.mono {P : Program} {w : World} {K : PySem.W.Frag} {mg : Str → Option Value} {base : Heap} {CX : CXT} {j k : Nat} {f : Addr} {fd : FuncData} {ps : List Str} {sp : Sp} (F : FnOk P w K mg base CX j f fd ps sp) (h : j ≤ k) :
    FnOk P w K mg base CX k f fd ps sp := ⟨F.len, fun A outer s H args us vs Q E hr => F.run A outer s H args us vs Q E (hr.mono h)⟩
theorem FnOk.imp {P : Program} {w : World} {K : PySem.W.Frag} {mg : Str → Option Value} {base : Heap} {CX : CXT} {k : Nat} {f : Addr} {fd : FuncData} {ps : List Str} {sp sp' : Sp} (F : FnOk P w K mg base CX k f fd ps sp)
    (h : ∀ vs H Q E, sp' vs H Q E → sp vs H Q E) : FnOk P w K mg base CX k f fd ps sp' :=
  ⟨fun vs H Q E q => F.len vs H Q E (h _ _ _ _ q), fun A outer s H args us vs Q E hr he hb hv hs => F.run A outer s H args us vs Q E hr he hb hv (h _ _ _ _ hs)⟩
theorem Env0.in1 {P : Program} {w : World} {K : PySem.W.Frag} {mg : Str → Option Value} {base : Heap} {A : Around} {outer : List Env} {s : Shared} {H : Hp} (e : Env0 P w K mg base A outer s H) :
    Env0 P w K mg base A.in1 outer s H := ⟨e.frames, e.mod, e.bs, e.bsz, e.funs, e.frf, e.hok, e.bare⟩
section
variable {X : Cx} {pins : List (Addr × Obj)} {σ : St} {H : Hp} {s s' : Shared}
theorem Inv.env0 (I : Inv X pins σ H s) : Env0 X.prog X.w X.K X.mg X.base X.A X.stack s H :=
  ⟨I.ok.frames, I.ok.mod, I.bs, Nat.le_trans I.ok.bsz I.sz, I.stack, I.stkFree, I.hok, I.bare⟩
theorem Inv.after {Q : VK} {u : Value} (I : Inv X pins σ H s) (h : CE X.stack X.prog X.w H s Q u s') : EP X pins σ Q u s' := by
  obtain ⟨v, H', os, bare, un, hok, r, q⟩ := h
  obtain ⟨hh, g, d, t, os'⟩ := s'
  obtain rfl : os' = s.os := os
  exact ⟨v, H', I.call (h' := hh) (g' := g) (d' := d) (t' := t) (ch := []) un hok bare (fun b z => absurd z (by simp)), r, q⟩
end
def tCall (sp : Sp) (dvs : List V) (E : XK) (t : TA) : TE := fun σ H Q => t σ H fun vs H1 => sp (vs ++ dvs) H1 Q E
def Binds (K : PySem.W.Frag) (fd : FuncData) (ps : List Str) (ds : List Value) : Prop :=
  ∀ (s : Shared) (us : List Value), K.In s.heap → (us ++ ds).length = ps.length → BindsTo s fd ⟨us, []⟩ (ps.zip (us ++ ds))
theorem Binds.all {K : PySem.W.Frag} {fd : FuncData} {ps : List Str} (h : ∀ us : List Value, us.length = ps.length → bindArgs fd ⟨us, []⟩ = pure (ps.zip us)) : Binds K fd ps [] := fun s us _ hl => by
  rw [List.append_nil] at hl ⊢
  exact .of_eq (h us hl)
def Passes (CX : CXT) (X : Cx) (E : XK) : Prop := ∀ (pins : List (Addr × Obj)) (σ : St) (H : Hp) (s : Shared) (e : Value) (s' : Shared), Inv X pins σ H s → CX X.stack H s E e s' → X.xe e s'
section
variable {X : Cx} {CX : CXT} {k : Nat} {f C : Addr} {fd : FuncData} {ps : List Str} {sp : Sp} {dvs : List V} {ds : List Value} {E : XK} {x m : Str} {p pos apos : Pos} {e o : Expr} {es : List Expr} {ta : TE} {t : TA}
theorem run_fn {pins : List (Addr × Obj)} {σ : St} {H : Hp} {s : Shared} {Q : VK} {us : List Value} {vs : List V} (F : FnOk X.prog X.w X.K X.mg X.base CX k f fd ps sp) (hr : Room k X.A) (hb : Binds X.K fd ps ds) (hd : Vals dvs ds) (hx : Passes CX X E)
    (I : Inv X pins σ H s) (r : Vals vs us) (h : sp (vs ++ dvs) H Q E) : wpAny (model X.prog X.w) X.A (call (.ref f) us) (EP X pins σ Q) X.xe s := by
  have r2 : Vals (vs ++ dvs) (us ++ ds) := r.append hd
  have hl : (us ++ ds).length = ps.length := by rw [← r2.length]; exact F.len _ _ _ _ h
  refine wpAny_call (codeAny_mono (F.run X.A X.stack s H ⟨us, []⟩ (us ++ ds) (vs ++ dvs) Q E hr I.env0 (hb s us I.kIn hl) r2 h) fun r s' hq => ?_)
  cases r with
  | error e => exact hx pins σ H s e s' I hq
  | ok fl =>
    cases fl with
    | ret u => exact I.after hq
    | next => exact False.elim hq
    | brk => exact False.elim hq
    | cont => exact False.elim hq
theorem pe_call (F : FnOk X.prog X.w X.K X.mg X.base CX k f fd ps sp) (hr : Room k X.A) (hg : Gl X x) (hm : X.mg x = some (.ref f)) (hk : PySem.W.keepIn X.K (.ref f) = true) (hb : Binds X.K fd ps ds) (hd : Vals dvs ds) (hx : Passes CX X E)
    (ha : PA X (e :: es) t) (hdb : (x == ("__debug__" : Str)) = false := by decide) (he : starEach (e :: es) X.env = (false, eval e X.env) :: starEach es X.env := by rfl) (hpl : (backTo pos (starEach es X.env)).any (·.1) = false := by rfl) :
    PE X (.Call (.Name x p) (e :: es) [] pos) (tCall sp dvs E t) := by
  intro pins s σ H Q I h
  refine wpAny_Call_Name_kw (ld_glob I hg hm ?_ hdb)
  refine PySem.W.callWith_K (h₀ := X.base) I.ok.mod.kin hk (thn (ha pos pins s σ H _ I h) fun us s1 ⟨vs, H1, I1, r, q⟩ => ⟨I1.kIn, ?_⟩) he hpl
  exact run_fn F hr hb hd hx I1 r q
structure Mk (K : PySem.W.Frag) (C f : Addr) : Prop where
  makes : PySem.W.makesIn K C = true
  init : PySem.W.findIn K (.ref C) "__init__" = some (some (.ref f))
  fn : PySem.W.isFn K (.ref f) = true
  kp : PySem.W.keepIn K (.ref C) = true
end
section
variable {X : Cx} {CX : CXT} {k : Nat} {f C : Addr} {fd : FuncData} {ps ks : List Str} {sp : Sp} {E : XK} {x m : Str} {p pos apos kpos : Pos} {e o : Expr} {es : List Expr} {kws : List Keyword} {te ta : TE} {t tk : TA} {nm : Option Str}
structure KBinds (K : PySem.W.Frag) (fd : FuncData) (ps ks : List Str) (g : List Value → List Value → List Value) (gV : List V → List V → List V) : Prop where
  to : ∀ (s : Shared) (us ws : List Value), K.In s.heap → (g us ws).length = ps.length → BindsTo s fd ⟨us, ks.zip ws⟩ (ps.zip (g us ws))
  rel : ∀ {vs : List V} {us : List Value} {zs : List V} {ws : List Value}, Vals vs us → Vals zs ws → Vals (gV vs zs) (g us ws)
variable {g : List Value → List Value → List Value} {gV : List V → List V → List V}
end
structure FnScope (N P : List Str) (sc : Scope) : Prop where
  kind : sc.kind = .function
  co : sc.isCoroutine = false
  gen : sc.isGenerator = false
  nd : N.Nodup
  pre : N.take P.length = P
  par : ∀ x ∈ P, sc.names.lookup x = some .local ∨ sc.names.lookup x = some .cell
  nofree : ∀ y ∈ sc.names, y.2 ≠ .free
theorem bindL_out {kindOf : Str → Option NameKind} {x : Str} : ∀ {binds : List (Str × Value)} {m : Str → Option Value}, (∀ v, (x, v) ∉ binds) → bindL kindOf binds m x = m x
  | [], _, _ => rfl
  | (n, v) :: r, m, h => by
    unfold bindL
    rw [bindL_out fun w hw => h w (List.mem_cons_of_mem _ hw)]
    split
    · have : x ≠ n := by rintro rfl; exact h v List.mem_cons_self
      simp [this]
    · rfl
theorem bindC_out {kindOf : Str → Option NameKind} {x : Str} : ∀ {binds : List (Str × Value)} {m : Str → Option Value}, (∀ v, (x, v) ∉ binds) → bindC kindOf binds m x = m x
  | [], _, _ => rfl
  | (n, v) :: r, m, h => by
    unfold bindC
    rw [bindC_out fun w hw => h w (List.mem_cons_of_mem _ hw)]
    split
    · rfl
    · have : x ≠ n := by rintro rfl; exact h v List.mem_cons_self
      simp [this]
theorem bindL_get {kindOf : Str → Option NameKind} {x : Str} {v : Value} : ∀ {P : List Str} {vs : List Value} {i : Nat} {m : Str → Option Value}, P.Nodup → P[i]? = some x → vs[i]? = some v → kindOf x = some .local →
    bindL kindOf (P.zip vs) m x = some v
  | [], _, _, _, _, h, _, _ => by simp at h
  | _ :: _, [], _, _, _, _, h, _ => by simp at h
  | p :: P, w :: vs, 0, m, nd, h1, h2, hk => by
    simp at h1 h2; subst h1; subst h2
    show bindL kindOf ((p, w) :: P.zip vs) m p = _
    unfold bindL
    rw [bindL_out fun v hv => (List.nodup_cons.mp nd).1 (List.of_mem_zip hv).1, if_pos hk]
    simp
  | p :: P, w :: vs, i + 1, m, nd, h1, h2, hk => by
    show bindL kindOf ((p, w) :: P.zip vs) m x = _
    unfold bindL
    exact bindL_get (i := i) (List.nodup_cons.mp nd).2 (by simpa using h1) (by simpa using h2) hk
theorem bindC_get {kindOf : Str → Option NameKind} {x : Str} {v : Value} : ∀ {P : List Str} {vs : List Value} {i : Nat} {m : Str → Option Value}, P.Nodup → P[i]? = some x → vs[i]? = some v → kindOf x ≠ some .local →
    bindC kindOf (P.zip vs) m x = some v
  | [], _, _, _, _, h, _, _ => by simp at h
  | _ :: _, [], _, _, _, _, h, _ => by simp at h
  | p :: P, w :: vs, 0, m, nd, h1, h2, hk => by
    simp at h1 h2; subst h1; subst h2
    show bindC kindOf ((p, w) :: P.zip vs) m p = _
    unfold bindC
    rw [bindC_out fun v hv => (List.nodup_cons.mp nd).1 (List.of_mem_zip hv).1, if_neg hk]
    simp
  | p :: P, w :: vs, i + 1, m, nd, h1, h2, hk => by
    show bindC kindOf ((p, w) :: P.zip vs) m x = _
    unfold bindC
    exact bindC_get (i := i) (List.nodup_cons.mp nd).2 (by simpa using h1) (by simpa using h2) hk
def start (N : List Str) (vs : List V) : St := vs.map some ++ List.replicate (N.length - vs.length) none
def cxOf (CX : CXT) (P : Program) (w : World) (K : PySem.W.Frag) (mg : Str → Option Value) (base : Heap) (N : List Str) (qual : Str) (scope : Scope) (f : Addr) (cd : Value) (A : Around) (outer : List Env) (s : Shared) (H : Hp) (E : XK) : Cx where
  prog := P
  w := w
  K := K
  mg := mg
  base := base
  A := A.deeper (envOfC qual scope s.heap.objs.size f cd)
  N := N
  s₀ := s
  H₀ := H
  env := envOfC qual scope s.heap.objs.size f cd
  outer := outer
  stack := envOfC qual scope s.heap.objs.size f cd :: outer
  ex := []
  calm := true
  fn := fun _ => true
  pn := []
  xe := fun e s' => wpAny (model P w) (A.deeper (envOfC qual scope s.heap.objs.size f cd)) (leaving (envOfC qual scope s.heap.objs.size f cd) e) (fun _ s'' => CX outer H s E e s'') (fun e' s'' => CX outer H s E e' s'') s'
theorem cell_has {sc : Scope} {n : Nat} {x : Str} (h : sc.names.lookup x = some .cell) : ∃ c, (cellsFrom n sc.names []).lookup x = some c := by
  have q := PySem.W.cellsFrom_some sc.names n [] (.inl h)
  exact Option.isSome_iff_exists.mp q
theorem inv_start {CX : CXT} {P : Program} {w : World} {K : PySem.W.Frag} {mg : Str → Option Value} {base : Heap} {N ps : List Str} {qual : Str} {scope : Scope} {f : Addr} {cd : Value} {A : Around} {outer : List Env} {s s1 : Shared} {H : Hp} {E : XK} {us : List Value} {vs : List V}
    (S : FnScope N ps scope) (hd : A.handled = none) (e0 : Env0 P w K mg base A outer s H) (hl : vs.length = ps.length) (r : Vals vs us)
    (x : InCallC s s.heap.objs.size (bindL (envOfC qual scope s.heap.objs.size f cd).kindOf (ps.zip us) fun _ => none) (cellsFrom (s.heap.objs.size + 1) scope.names []) (bindC (envOfC qual scope s.heap.objs.size f cd).kindOf (ps.zip us) fun _ => none) s1) :
    Inv (cxOf CX P w K mg base N qual scope f cd A outer s H E) [] (start N vs) H s1 := by
  have hpl : ps.length ≤ N.length := by have := congrArg List.length S.pre; rw [List.length_take] at this; omega
  obtain ⟨h1, tk, rfl, hk⟩ := x.done
  have noA : ∀ b : Addr, b ∉ (cxOf CX P w K mg base N qual scope f cd A outer s H E).ex := fun b z => absurd (show b ∈ ([] : List Addr) from z) (by simp)
  refine ⟨⟨e0.mod, S.kind, rfl, rfl, Nat.le_refl _, fun y z c h1 h2 => ?_, fun y hy => ?_, fun y c _ h => ?_, fun _ => hd, Around.frames_deeper e0.frames, .inr ⟨rfl, rfl⟩, fun b z => absurd z (noA b), e0.bs, e0.bsz, fun b _ _ => noA b, fun b z => absurd z (noA b), e0.funs, e0.frf⟩,
    rfl, e0.bare, Un.kept hk, ⟨_, x.toInCall.ns, fun i y v h1 h2 h3 => ?_⟩, fun y c h => ⟨_, x.cell y c h⟩, e0.hok.fresh (Nat.le_refl _), fun y c h => ?_, fun p hp => absurd (show p ∈ ([] : List (Addr × Obj)) from hp) (by simp), e0.hok.kept hk, ?_⟩
  · exact name_of_addr x.apart (PySem.mem_of_lookup h1) (PySem.mem_of_lookup h2)
  · have hy : scope.names.lookup y = some .cell ∨ scope.names.lookup y = some .free := hy
    rcases hy with hy | hy
    · exact cell_has hy
    · exact absurd rfl (S.nofree _ (PySem.mem_of_lookup hy))
  · exact Nat.le_of_lt (x.above y c (PySem.mem_of_lookup h))
  · have hi : i < vs.length := by
      unfold start at h2
      by_cases hi : i < vs.length
      · exact hi
      · rw [List.getElem?_append_right (by simpa using hi)] at h2
        rw [List.getElem?_replicate] at h2
        split at h2 <;> cases h2
    have ha : vs[i]? = some v := by
      unfold start at h2
      rw [List.getElem?_append_left (by simpa using hi), List.getElem?_map] at h2
      cases e : vs[i]? with
      | none => rw [e] at h2; cases h2
      | some a => rw [e] at h2; cases h2; rfl
    obtain ⟨u, hu, rv⟩ := r.get ha
    have hp : ps[i]? = some y := by
      rw [← S.pre, List.getElem?_take_of_lt (by omega)]; exact h1
    have ndP : ps.Nodup := by rw [← S.pre]; exact S.nd.sublist (List.take_sublist _ _)
    refine ⟨u, rv, ?_⟩
    rcases S.par y (List.mem_of_getElem? hp) with k | k
    · exact .inl ⟨k, bindL_get ndP hp hu k⟩
    · obtain ⟨c, e⟩ := cell_has (n := s.heap.objs.size + 1) k
      refine .inr ⟨.inl k, c, e, ?_⟩
      have q := x.cell y c e
      rw [bindC_get ndP hp hu (by show scope.names.lookup y ≠ _; rw [k]; decide)] at q
      exact q
  · exact e0.hok.fresh (Nat.le_of_lt (x.above y c (PySem.mem_of_lookup h)))
  · unfold start
    show _ = N.length
    rw [List.length_append, List.length_map, List.length_replicate]
    omega
theorem fn_of {CX : CXT} {P : Program} {w : World} {K : PySem.W.Frag} {mg : Str → Option Value} {base : Heap} {k : Nat} {f : Addr} {name qual : Str} {params : Arguments} {body : List Stmt} {scope : Scope} {dV kV doc pm cdv ct oc : Value} {an od : Option Addr}
    {osl : Array (Option Value)} {N ps : List Str} {sp : Sp} (lk : K.lookup f = some ⟨oc, od, .func (PySem.W.fnOf name qual params body scope dV kV doc pm an cdv ct), osl⟩) (hcd : PySem.W.codeIn K cdv qual = true) (S : FnScope N ps scope)
    (len : ∀ vs H Q E, sp vs H Q E → vs.length = ps.length)
    (hbody : ∀ (A : Around) (outer : List Env) (s : Shared) (H : Hp) (vs : List V) (Q : VK) (E : XK), Room k (A.deeper (envOfC qual scope s.heap.objs.size f cdv)) → sp vs H Q E →
      ∃ t, PSs (cxOf CX P w K mg base N qual scope f cdv A outer s H E) body t ∧ t { nx := fun _ H' => Q .non H', rt := Q } (start N vs) H) :
    FnOk P w K mg base CX (k + 1) f (PySem.W.fnOf name qual params body scope dV kV doc pm an cdv ct) ps sp := by
  refine ⟨len, fun A outer s H args us vs Q E hr e0 hb r hsp => ?_⟩
  have hl := len _ _ _ _ hsp
  have KX : K.In s.heap := e0.mod.kin.keeps fun b o e => (e0.bs b o e).1
  have lim : s.heap.NoLimit := e0.mod.nolimit.keeps fun b o e => (e0.bs b o e).1
  have hkind : ∀ y ∈ ps.zip us, scope.names.lookup y.1 = some .local ∨ (scope.names.lookup y.1 = some .cell ∧ ((cellsFrom (s.heap.objs.size + 1) scope.names []).lookup y.1).isSome = true) := fun ⟨n, v⟩ hy => by
    rcases S.par n (List.of_mem_zip hy).1 with q | q
    · exact .inl q
    · exact .inr ⟨q, PySem.W.cellsFrom_some _ _ _ (.inl q)⟩
  refine codeAny_call_function hr.depth (KX _ _ lk) rfl S.co S.gen rfl (PySem.W.codeRec_of KX hcd) (hb _ _ _ _ ?_)
  refine wpAny_newFunctionEnv_cells S.kind hkind fun env he s1 x => ?_
  subst he
  refine ⟨lim.keeps x.toInCall.keep, codeAny_func ?_⟩
  obtain ⟨t, ht, hq⟩ := hbody A outer s H vs Q E (hr.deeper _) hsp
  have I : Inv (cxOf CX P w K mg base N qual scope f cdv A outer s H E) [] (start N vs) H s1 := inv_start S hr.hd e0 hl r x
  refine wpAny_mono (ht [] s1 (start N vs) H _ I hq) (fun fl s' hs => ?_) fun e s' hs => hs
  have fin : ∀ {σ' : St} {H' : Hp} {v : V} {u : Value}, Inv (cxOf CX P w K mg base N qual scope f cdv A outer s H E) [] σ' H' s' → RelV v u → Q v H' → CE outer P w H s Q u s' :=
    fun {σ' H' v u} J rv q => ⟨v, H', J.os, J.bare, J.base, J.hok, rv, q⟩
  cases fl with
  | ret u =>
    obtain ⟨v, σ', H', J, rv, q⟩ := hs
    exact fin J rv q
  | next =>
    obtain ⟨σ', H', J, q⟩ := hs
    exact fin (v := V.non) (u := Value.none) J rfl q
  | brk =>
    obtain ⟨_, _, _, q⟩ := hs
    exact False.elim q
  | cont =>
    obtain ⟨_, _, _, q⟩ := hs
    exact False.elim q
end L2
namespace L2
open PySem PySem.Spec PyProof.Rows
section
variable {X : Cx} {x : Str} {p pos : Pos} {e : Expr} {es : List Expr} {t : TA} {id T : String} {r : List V → Hp → VK → Prop}
def tCB (r : List V → Hp → VK → Prop) (t : TA) : TE := fun σ H Q => t σ H fun vs H1 => r vs H1 Q
theorem pe_callB (hc : CallR X (.builtin id) r) (hg : Gl X x) (hm : X.mg x = none) (hv : bootBuiltins x = some (.builtin id)) (ha : PA X (e :: es) t) (hn : x ≠ "__name__" := by decide) (hdb : (x == ("__debug__" : Str)) = false := by decide)
    (he : starEach (e :: es) X.env = (false, eval e X.env) :: starEach es X.env := by rfl) (hpl : (backTo pos (starEach es X.env)).any (·.1) = false := by rfl) : PE X (.Call (.Name x p) (e :: es) [] pos) (tCB r t) := by
  intro pins s σ H Q I h
  refine wpAny_Call_Name_kw (ld_blt I hg hm hv ?_ hn hdb)
  exact PyProof.Rows.callWith_builtin1 (thn (ha pos pins s σ H _ I h) fun us s1 ⟨vs, H1, I1, r1, q1⟩ => hc pins s1 σ H1 vs us Q I1 r1 q1) he hpl
theorem pe_callTy (hc : CallR X (.type T) r) (hg : Gl X x) (hm : X.mg x = none) (hv : bootBuiltins x = some (.type T)) (ha : PA X (e :: es) t) (hn : x ≠ "__name__" := by decide) (hdb : (x == ("__debug__" : Str)) = false := by decide)
    (he : starEach (e :: es) X.env = (false, eval e X.env) :: starEach es X.env := by rfl) (hpl : (backTo pos (starEach es X.env)).any (·.1) = false := by rfl) : PE X (.Call (.Name x p) (e :: es) [] pos) (tCB r t) := by
  intro pins s σ H Q I h
  refine wpAny_Call_Name_kw (ld_blt I hg hm hv ?_ hn hdb)
  exact PyProof.Rows.callWith_type1 (thn (ha pos pins s σ H _ I h) fun us s1 ⟨vs, H1, I1, r1, q1⟩ => hc pins s1 σ H1 vs us Q I1 r1 q1) he hpl
end
end L2
namespace HT
open PySem PyProof.Rows
section
open PySem.SeqAt
open PySem.AutoSeq1 (wpAny_loadPart')
open PySem.MeetsSeq PySem.MeetsSeq2 PySem.MeetsSeq3
end
section
variable {prog : Program} {w : World} {A : Around} {E : Value → Shared → Prop} {s : Shared}
def sIx (n d : Nat) : Option Int → Nat
  | none => d
  | some v => if v < 0 then (v + (n : Int)).toNat else min v.toNat n
theorem sIx_none (n d : Nat) : sIx n d none = d := rfl
theorem sIx_nat (n d k : Nat) : sIx n d (some (k : Int)) = min k n := by
  show (if (k : Int) < 0 then ((k : Int) + (n : Int)).toNat else min (k : Int).toNat n) = min k n
  rw [if_neg (by omega), Int.toNat_natCast]
theorem sIx_le (n d : Nat) (hd : d ≤ n) (o : Option Int) : sIx n d o ≤ n := by
  cases o with
  | none => exact hd
  | some v =>
    show (if v < 0 then (v + (n : Int)).toNat else min v.toNat n) ≤ n
    by_cases hv : v < 0
    · rw [if_pos hv]; omega
    · rw [if_neg hv]; exact Nat.min_le_right _ _
end
end HT
namespace L2
open PySem PySem.Spec PyProof.Rows
abbrev TO := St → Hp → (Option Int → Hp → Prop) → Prop
def PO (X : Cx) (e : Option Expr) (t : TO) : Prop :=
  ∀ (pins : List (Addr × Obj)) (s : Shared) (σ : St) (H : Hp) (Q : Option Int → Hp → Prop), Inv X pins σ H s → t σ H Q →
    wpAny (model X.prog X.w) X.A (evalPart e X.env) (fun u s' => ∃ o H', Inv X pins σ H' s' ∧ IsPart u o ∧ Q o H') X.xe s
def tNoPart : TO := fun _ H Q => Q none H
def tPart (t : TE) : TO := fun σ H Q => t σ H fun x H1 => ∃ i, x = .int i ∧ Q (some i) H1
section
variable {X : Cx} {e : Expr} {te : TE} {lo hi : Option Expr} {tl th : TO} {pos p2 : Pos}
theorem po_none : PO X none tNoPart := by
  intro pins s σ H Q I h
  rw [evalPart_none]
  exact wpAny_pure ⟨none, H, I, .none, h⟩
theorem po_some (h : PE X e te) : PO X (some e) (tPart te) := by
  intro pins s σ H Q I hw
  rw [evalPart_some]
  refine thn (h pins s σ H _ I hw) fun u s1 ⟨x, H1, I1, r1, q1⟩ => ?_
  obtain ⟨i, rfl, q⟩ := q1
  obtain ⟨t, rfl⟩ := r1
  exact ⟨some i, H1, I1, .int i t, q⟩
def SlR (X : Cx) (r : V → Option Int → Option Int → Hp → VK → Prop) : Prop :=
  ∀ (pins : List (Addr × Obj)) (s : Shared) (σ : St) (H : Hp) (x : V) (v vl vu : Value) (lo hi : Option Int) (sl : Addr) (Q : VK), Inv X pins σ H s → RelV x v → s.heap.IsSliceOf sl vl vu .none → IsPart vl lo → IsPart vu hi → r x lo hi H Q →
    ∃ T id, typeLookup (.type T) "__getitem__" = pure (some (.builtin id)) ∧ s.TypeIs v T ∧ wpAny (model X.prog X.w) X.A (getItem v (.ref sl)) (EP X pins σ Q) X.xe s
theorem SlR.or {r r' : V → Option Int → Option Int → Hp → VK → Prop} (h : SlR X r) (h' : SlR X r') : SlR X (fun x lo hi H Q => r x lo hi H Q ∨ r' x lo hi H Q) := by
  intro pins s σ H x v vl vu lo hi sl Q I rx hs pl pu q
  rcases q with q | q
  · exact h pins s σ H x v vl vu lo hi sl Q I rx hs pl pu q
  · exact h' pins s σ H x v vl vu lo hi sl Q I rx hs pl pu q
def tSl (r : V → Option Int → Option Int → Hp → VK → Prop) (te : TE) (tl th : TO) : TE := fun σ H Q => te σ H fun x H1 => tl σ H1 fun l H2 => th σ H2 fun u H3 => r x l u H3 Q
theorem pe_slice {r : V → Option Int → Option Int → Hp → VK → Prop} (hr : SlR X r) (he : PE X e te) (hl : PO X lo tl) (hu : PO X hi th) : PE X (.Subscript e (.Slice lo hi none p2) pos) (tSl r te tl th) := by
  intro pins s σ H Q I h
  refine Subscript_ (thn (he pins s σ H _ I h) fun v s1 ⟨x, H1, I1, r1, q1⟩ => ?_)
  refine wpAny_Slice (thn (hl pins s1 σ H1 _ I1 q1) fun vl s2 ⟨l, H2, I2, pl, q2⟩ => thn (hu pins s2 σ H2 _ I2 q2) fun vu s3 ⟨u, H3, I3, pu, q3⟩ => ?_)
  rw [evalPart_none]
  refine wpAny_pure ?_
  have I4 : Inv X pins σ H3 { s3 with heap := s3.heap.push { cls := .type "slice", data := .fields #[vl, vu, .none] } } := I3.kept (t' := s3.toks) fun b ob q => Heap.get?_push_of_some _ q
  obtain ⟨T, id, hT, ht, hg⟩ := hr pins { s3 with heap := s3.heap.push { cls := .type "slice", data := .fields #[vl, vu, .none] } } σ H3 x v vl vu l u s3.heap.objs.size Q I4 r1 (Heap.IsSliceOf.new ..) pl pu q3
  show wpAny (model X.prog X.w) X.A (subscriptTail e (.Slice lo hi none p2) v (.ref s3.heap.objs.size)) (EP X pins σ Q) X.xe { s3 with heap := s3.heap.push { cls := .type "slice", data := .fields #[vl, vu, .none] } }
  exact tail_any (ops := [.ref s3.heap.objs.size, v]) ht hT hg (by with_unfolding_all rfl)
def cutV (xs : List V) (lo hi : Option Int) : List V := (xs.drop (HT.sIx xs.length 0 lo)).take (HT.sIx xs.length xs.length hi - HT.sIx xs.length 0 lo)
theorem cutV_length (xs : List V) (lo hi : Option Int) : (cutV xs lo hi).length ≤ xs.length := by
  unfold cutV
  rw [List.length_take, List.length_drop]
  omega
end
end L2
namespace L2
open PySem PySem.Spec PyProof.Rows
def ixN (n : Nat) (i : Int) : Option Nat := if 0 ≤ i then (if i < n then some i.toNat else none) else if -(n : Int) ≤ i then some (i + n).toNat else none
def atI {α : Type} (xs : List α) (i : Int) : Option α := (ixN xs.length i).bind fun j => xs[j]?
theorem ixN_seq {n : Nat} {i : Int} {j : Nat} (h : ixN n i = some j) : seqIndex? i n = some j ∧ j < n ∧ -(n : Int) ≤ i ∧ i < n := by
  unfold ixN at h
  by_cases h0 : 0 ≤ i
  · rw [if_pos h0] at h
    by_cases h1 : i < n
    · rw [if_pos h1] at h
      have e : i.toNat = j := Option.some.inj h
      exact ⟨by rw [seqIndex_of h0 h1, e], by omega, by omega, h1⟩
    · rw [if_neg h1] at h; cases h
  · rw [if_neg h0] at h
    by_cases h1 : -(n : Int) ≤ i
    · rw [if_pos h1] at h
      have e : (i + n).toNat = j := Option.some.inj h
      exact ⟨by rw [seqIndex_neg (by omega) h1, e], by omega, h1, by omega⟩
    · rw [if_neg h1] at h; cases h
theorem atI_get {α : Type} {xs : List α} {i : Int} {v : α} (h : atI xs i = some v) : ∃ j, seqIndex? i xs.length = some j ∧ xs[j]? = some v ∧ j < xs.length ∧ -(xs.length : Int) ≤ i ∧ i < xs.length := by
  unfold atI at h
  cases e : ixN xs.length i with
  | none => rw [e] at h; cases h
  | some j =>
    rw [e] at h
    obtain ⟨h1, h2, h3, h4⟩ := ixN_seq e
    exact ⟨j, h1, h, h2, h3, h4⟩
theorem atI_nat {α : Type} {xs : List α} {j : Nat} {v : α} (h : xs[j]? = some v) : atI xs (j : Int) = some v := by
  have hj : j < xs.length := (List.getElem?_eq_some_iff.mp h).1
  have e : ixN xs.length (j : Int) = some j := by
    unfold ixN
    rw [if_pos (by omega), if_pos (by omega)]; simp
  unfold atI; rw [e]; exact h
def PlainIx (b : Expr) : Prop := ∀ o i, subscripted b false o i = operate [o, i] (getItem o i)
def IxR (X : Cx) (r : R2) : Prop :=
  ∀ (value slice : Expr) (pins : List (Addr × Obj)) (s : Shared) (σ : St) (H : Hp) (x y : V) (v u : Value) (Q : VK), Inv X pins σ H s → RelV x v → RelV y u → r x y H Q →
    subscripted slice false v u = operate [v, u] (getItem v u) → wpAny (model X.prog X.w) X.A (subscriptTail value slice v u) (EP X pins σ Q) X.xe s
def MtR (X : Cx) (id : String) (r : V → List V → Hp → VK → Prop) : Prop :=
  ∀ (pins : List (Addr × Obj)) (s : Shared) (σ : St) (H : Hp) (x : V) (xs : List V) (v : Value) (us : List Value) (Q : VK), Inv X pins σ H s → RelV x v → Vals xs us → r x xs H Q →
    wpAny (model X.prog X.w) X.A (call (.builtin id) (v :: us)) (EP X pins σ Q) X.xe s
section
variable {X : Cx} {a b : Expr} {ta tb : TE} {pos : Pos}
theorem IxR.or {r r' : R2} (h : IxR X r) (h' : IxR X r') : IxR X (fun x y H Q => r x y H Q ∨ r' x y H Q) := by
  intro value slice pins s σ H x y v u Q I rx ry q hs
  rcases q with q | q
  · exact h value slice pins s σ H x y v u Q I rx ry q hs
  · exact h' value slice pins s σ H x y v u Q I rx ry q hs
theorem MtR.or {id : String} {r r' : V → List V → Hp → VK → Prop} (h : MtR X id r) (h' : MtR X id r') : MtR X id (fun x xs H Q => r x xs H Q ∨ r' x xs H Q) := by
  intro pins s σ H x xs v us Q I rx rs q
  rcases q with q | q
  · exact h pins s σ H x xs v us Q I rx rs q
  · exact h' pins s σ H x xs v us Q I rx rs q
theorem pe_ix {r : R2} (hr : IxR X r) (ha : PE X a ta) (hb : PE X b tb) (hs : PlainIx b) : PE X (.Subscript a b pos) (tOp r ta tb) := by
  intro pins s σ H Q I h
  exact Subscript_ (binT ha hb I h fun v u s2 x y H2 I2 rx ry q => hr a b pins s2 σ H2 x y v u Q I2 rx ry q (hs _ _))
def rIxL (K : PySem.W.Frag) : R2 := fun x y H Q => ∃ p xs i v, x = .ref p ∧ y = .int i ∧ SqL K H p xs ∧ atI xs i = some v ∧ Q v H
def rIxT (K : PySem.W.Frag) : R2 := fun x y H Q => ∃ p xs i v, x = .ref p ∧ y = .int i ∧ SqT K H p xs ∧ atI xs i = some v ∧ Q v H
def rIxS : R2 := fun x y H Q => ∃ z i c, x = .str z ∧ y = .int i ∧ z.length ≤ sizeLine ∧ atI z.cps.toList i = some c ∧ Q (.str ⟨#[c]⟩) H
theorem ix_list : IxR X (rIxL X.K) := by
  intro value slice pins s σ H x y v u Q I rx ry h hs
  obtain ⟨p, xs, i, z, rfl, rfl, hq, he, q⟩ := h
  cases rx
  obtain ⟨t, rfl⟩ := ry
  obtain ⟨its, r, pl, hz⟩ := I.list hq
  obtain ⟨j, h1, h2, h3, h4, h5⟩ := atI_get he
  obtain ⟨w, ew, rw'⟩ := r.get h2
  have hl := r.length
  have hn := line63
  have fin : EP X pins σ Q w s := ⟨z, H, I, rw', q⟩
  by_cases h0 : 0 ≤ i
  · have hj : i.toNat = j := by
      rw [seqIndex_of h0 h5] at h1
      exact Option.some.inj h1
    exact item_listR pl.isList h0 (by omega) (by rw [hj]; simpa using ew) fin hs
  · have hj : (i + (its.toArray.size : Int)).toNat = j := by
      rw [seqIndex_neg (by omega) h4] at h1
      rw [List.size_toArray, ← hl]
      exact Option.some.inj h1
    exact subscriptTail_builtinR (x := w) pl.isList.typeIs slot_list_getitem.lookup
      (wpAny_getItem_list_neg (Q := fun r s' => r = w ∧ EP X pins σ Q r s') pl.isList (by omega) (by rw [List.size_toArray] <;> omega) (by omega) (by rw [hj]; simpa using ew) ⟨rfl, fin⟩) hs
theorem ix_tup : IxR X (rIxT X.K) := by
  intro value slice pins s σ H x y v u Q I rx ry h hs
  obtain ⟨p, xs, i, z, rfl, rfl, hq, he, q⟩ := h
  cases rx
  obtain ⟨t, rfl⟩ := ry
  obtain ⟨its, r, pl, hz⟩ := I.tuple hq
  obtain ⟨j, h1, h2, h3, h4, h5⟩ := atI_get he
  obtain ⟨w, ew, rw'⟩ := r.get h2
  have hl := r.length
  have hn := line63
  have fin : EP X pins σ Q w s := ⟨z, H, I, rw', q⟩
  exact subscriptTail_builtinR (x := w) pl.typeIs slot_tuple_getitem.lookup
    (getItem_tuple (j := j) (Q := fun r s' => r = w ∧ EP X pins σ Q r s') pl (by omega) (by omega) (by rw [List.size_toArray, ← hl]; exact h1) (by simpa using ew) ⟨rfl, fin⟩) hs
theorem ix_str : IxR X rIxS := by
  intro value slice pins s σ H x y v u Q I rx ry h hs
  obtain ⟨z, i, c, rfl, rfl, hz, he, q⟩ := h
  obtain ⟨t, rfl⟩ := rx
  obtain ⟨t', rfl⟩ := ry
  obtain ⟨j, h1, h2, h3, h4, h5⟩ := atI_get he
  have hl : z.cps.toList.length = z.length := by simp [Str.length]
  rw [hl] at h1 h4 h5
  have hn := line63
  exact tail_any (typeIs_str s z t) slot_str_getitem.lookup (getItem_str (c := c) (by
    have e1 : decide (i < -(2 ^ 63 : Int)) = false := decide_eq_false (by omega)
    have e2 : decide (i ≥ 2 ^ 63) = false := decide_eq_false (by omega)
    rw [e1, e2, Bool.or_false]) (by rw [h1]; simpa using h2) ⟨.str ⟨#[c]⟩, H, I.tok _, ⟨_, rfl⟩, q⟩) hs
theorem mapSeq_set (its : List Value) (n j : Nat) (u : Value) : Obj.mapSeq (·.setIfInBounds j u) { cls := .type "list", data := .seq its.toArray n } = { cls := .type "list", data := .seq (its.set j u).toArray n } := by
  simp [Obj.mapSeq]
theorem Inv.lst {pins : List (Addr × Obj)} {σ : St} {H : Hp} {s : Shared} {p : Addr} {xs : List V} (I : Inv X pins σ H s) (h : H p = some (.lst xs)) :
    ∃ (its : List Value) (n : Nat), Vals xs its ∧ s.heap.get? p = some { cls := .type "list", data := .seq its.toArray n } ∧ xs.length ≤ sizeLine := by
  obtain ⟨z, its, n, r, e⟩ := I.hok p _ h
  exact ⟨its, n, r, e, z⟩
theorem Inv.lstUpd {pins : List (Addr × Obj)} {σ : St} {H : Hp} {s : Shared} {p : Addr} {xs ys : List V} {its its' : List Value} {n n' : Nat} {f : Obj → Obj} (I : Inv X pins σ H s) (h : H p = some (.lst xs))
    (ho : s.heap.get? p = some { cls := .type "list", data := .seq its.toArray n }) (hf : f { cls := .type "list", data := .seq its.toArray n } = { cls := .type "list", data := .seq its'.toArray n' }) (r : Vals ys its') (hz : ys.length ≤ sizeLine) (t : Nat) :
    Inv X pins σ (upd H p (.lst ys)) { s with heap := s.heap.update p f, toks := t } := by
  have e : (s.heap.update p f).get? p = some { cls := .type "list", data := .seq its'.toArray n' } := by
    rw [Heap.get?_update_self f ho (by rw [hf] <;> rfl), hf]
  refine I.write (x := p) (e := p) (by rw [h]; trivial) (.inl rfl) (fun b u hb q => (Heap.get?_update_other _ _ (Ne.symm hb)).trans q) ⟨_, e⟩ ?_
  exact ⟨hz, its', n', r, e⟩
def rSetL : V → V → V → Hp → (Hp → Prop) → Prop := fun o i v H Q => ∃ p xs k j, o = .ref p ∧ i = .int k ∧ H p = some (.lst xs) ∧ ixN xs.length k = some j ∧ Q (upd H p (.lst (xs.set j v)))
theorem set_list : PSet X rSetL := by
  intro pins s σ H o i v ov iv u Q I ro ri rv h
  obtain ⟨p, xs, k, j, rfl, rfl, hp, hj, q⟩ := h
  cases ro
  obtain ⟨t, rfl⟩ := ri
  obtain ⟨its, n, r, ho, hz⟩ := I.lst hp
  obtain ⟨h1, h2, h3, h4⟩ := ixN_seq hj
  have hl := r.length
  have hn := line63
  have I' : Inv X pins σ (upd H p (.lst (xs.set j v))) { s with heap := s.heap.update p (Obj.mapSeq (·.setIfInBounds j u)) } :=
    I.lstUpd hp ho (mapSeq_set its n j u) (r.set rv j) (by rw [List.length_set]; exact hz) s.toks
  by_cases h0 : 0 ≤ k
  · have hk : k.toNat = j := by
      rw [seqIndex_of h0 h4] at h1
      exact Option.some.inj h1
    exact PySem.W.ki_setAt ho h0 (by omega) (by rw [List.size_toArray, ← hl]; exact h4) (by rw [hk]; exact ⟨_, I', q⟩)
  · have hk : (k + (its.toArray.size : Int)).toNat = j := by
      rw [seqIndex_neg (by omega) h3] at h1
      rw [List.size_toArray, ← hl]
      exact Option.some.inj h1
    exact PySem.W.ki_setBack ho (by omega) (by rw [List.size_toArray, ← hl]; exact h3) (by omega) (by rw [hk]; exact ⟨_, I', q⟩)
theorem slice_bounds (lo hi : Option Int) (n : Nat) : (sliceBounds lo hi none n).1 = ((HT.sIx n 0 lo : Nat) : Int) ∧ (sliceBounds lo hi none n).2.1 = ((HT.sIx n n hi : Nat) : Int) ∧ (sliceBounds lo hi none n).2.2 = 1 := by
  refine ⟨?_, ?_, rfl⟩
  · cases lo with
    | none => simp [sliceBounds, HT.sIx]
    | some i =>
      simp only [sliceBounds, HT.sIx, Option.getD_none, show (1 : Int) > 0 by decide, if_true]
      by_cases h : i < 0
      · simp only [h, if_true] <;> omega
      · simp only [h, if_false] <;> omega
  · cases hi with
    | none => simp [sliceBounds, HT.sIx]
    | some i =>
      simp only [sliceBounds, HT.sIx, Option.getD_none, show (1 : Int) > 0 by decide, if_true]
      by_cases h : i < 0
      · simp only [h, if_true] <;> omega
      · simp only [h, if_false] <;> omega
theorem slicePick_cut (its : List Value) (lo hi : Option Int) : slicePick its.toArray lo hi none = ((its.drop (HT.sIx its.length 0 lo)).take (HT.sIx its.length its.length hi - HT.sIx its.length 0 lo)).toArray := by
  obtain ⟨h1, h2, h3⟩ := slice_bounds lo hi its.toArray.size
  unfold slicePick
  rw [h1, h2, h3]
  simp only [sliceRange_one, pick_run, List.size_toArray] <;> rfl
def rSlL (K : PySem.W.Frag) : V → Option Int → Option Int → Hp → VK → Prop := fun x lo hi H Q => ∃ a xs, x = .ref a ∧ SqL K H a xs ∧ ∀ p, H p = none → Q (.ref p) (upd H p (.lst (cutV xs lo hi)))
theorem sl_list : SlR X (rSlL X.K) := by
  intro pins s σ H x v vl vu lo hi sl Q I rx hs pl pu h
  obtain ⟨a, xs, rfl, hx, q⟩ := h
  cases rx
  obtain ⟨its, r, ht, hz⟩ := I.list hx
  have hlen := r.length
  refine ⟨"list", _, slot_list_getitem.lookup, ht.isList.typeIs, ?_⟩
  refine wpAny_getItem_list_slice ht.isList hs pl pu .none (by simp) ?_ (by rw [List.size_toArray] <;> omega)
  rw [slicePick_cut, ← hlen]
  refine ⟨.ref s.heap.objs.size, _, I.laid (t' := s.toks) (o := .lst (cutV xs lo hi)) (fun b ob q => Heap.get?_push_of_some _ q) (Nat.le_refl _) ?_, rfl, q _ (I.hok.fresh (Nat.le_refl _))⟩
  exact ⟨Nat.le_trans (cutV_length xs lo hi) hz, _, 0, (r.drop (HT.sIx xs.length 0 lo)).take (HT.sIx xs.length xs.length hi - HT.sIx xs.length 0 lo), Heap.get?_push_size _ rfl⟩
def flatV : V → Bool
  | .non => true
  | .bl _ => true
  | .int _ => true
  | .str _ => true
  | _ => false
def eqV : V → V → Bool
  | .non, .non => true
  | .bl a, .bl b => a == b
  | .bl a, .int b => (if a then 1 else 0) == b
  | .int a, .bl b => a == (if b then 1 else 0)
  | .int a, .int b => a == b
  | .str a, .str b => a == b
  | _, _ => false
theorem eqAt_V {A : Around} {s : Shared} {y x : V} {u v : Value} (ry : RelV y u) (rx : RelV x v) (fy : flatV y = true) (fx : flatV x = true) : SeqAt.EqAt A s u v (eqV y x) := by
  cases y with
  | non =>
    cases ry
    cases x with
    | non => cases rx; exact SeqAt.EqAt.same _
    | bl b => cases rx; exact SeqAt.EqAt.none_bool b
    | int b => obtain ⟨t, rfl⟩ := rx; exact SeqAt.EqAt.none_int b t
    | str b => obtain ⟨t, rfl⟩ := rx; exact SeqAt.EqAt.none_str b t
    | _ => exact absurd (show false = true from fx) Bool.false_ne_true
  | bl a =>
    cases ry
    cases x with
    | non => cases rx; exact SeqAt.EqAt.bool_none a
    | bl b => cases rx; exact SeqAt.EqAt.bool_bool a b
    | int b => obtain ⟨t, rfl⟩ := rx; exact SeqAt.EqAt.bool_int a b t
    | str b => obtain ⟨t, rfl⟩ := rx; exact SeqAt.EqAt.bool_str a b t
    | _ => exact absurd (show false = true from fx) Bool.false_ne_true
  | int a =>
    obtain ⟨t', rfl⟩ := ry
    cases x with
    | non => cases rx; exact SeqAt.EqAt.int_none a t'
    | bl b => cases rx; exact SeqAt.EqAt.int_bool a t' b
    | int b => obtain ⟨t, rfl⟩ := rx; exact SeqAt.EqAt.int_int a t' b t
    | str b => obtain ⟨t, rfl⟩ := rx; exact SeqAt.EqAt.int_str a t' b t
    | _ => exact absurd (show false = true from fx) Bool.false_ne_true
  | str a =>
    obtain ⟨t', rfl⟩ := ry
    cases x with
    | non => cases rx; exact SeqAt.EqAt.str_none a t'
    | bl b => cases rx; exact SeqAt.EqAt.str_bool a t' b
    | int b => obtain ⟨t, rfl⟩ := rx; exact SeqAt.EqAt.str_int a t' b t
    | str b => obtain ⟨t, rfl⟩ := rx; exact SeqAt.EqAt.str_str a t' b t
    | _ => exact absurd (show false = true from fx) Bool.false_ne_true
  | _ => exact absurd (show false = true from fy) Bool.false_ne_true
def eqU (x : V) (u : Value) : Bool := match u with
  | .none => eqV .non x
  | .bool b => eqV (.bl b) x
  | .int i _ => eqV (.int i) x
  | .str z _ => eqV (.str z) x
  | _ => false
theorem eqU_of {x y : V} {u : Value} (r : RelV y u) (f : flatV y = true) : eqU x u = eqV y x := by
  cases y with
  | non => cases r; rfl
  | bl b => cases r; rfl
  | int i => obtain ⟨t, rfl⟩ := r; rfl
  | str z => obtain ⟨t, rfl⟩ := r; rfl
  | _ => exact absurd (show false = true from f) Bool.false_ne_true
theorem any_eqU {x : V} : ∀ {xs : List V} {us : List Value}, Vals xs us → xs.all flatV = true → us.any (eqU x) = xs.any fun y => eqV y x
  | _, _, .nil, _ => rfl
  | y :: xs, u :: us, .cons r t, f => by
    rw [List.all_cons, Bool.and_eq_true] at f
    rw [List.any_cons, List.any_cons, eqU_of r f.1, any_eqU t f.2]
theorem mem_eqAt {A : Around} {s : Shared} {x : V} {v : Value} (rx : RelV x v) (fx : flatV x = true) : ∀ {xs : List V} {us : List Value}, Vals xs us → xs.all flatV = true → ∀ u ∈ us, SeqAt.EqAt A s u v (eqU x u)
  | _, _, .nil, _ => fun u hu => by cases hu
  | y :: xs, u :: us, .cons r t, f => fun u' hu => by
    rw [List.all_cons, Bool.and_eq_true] at f
    rcases List.mem_cons.mp hu with rfl | hu
    · rw [eqU_of r f.1]; exact eqAt_V r rx f.1 fx
    · exact mem_eqAt rx fx t f.2 u' hu
def inV (x : V) (xs : List V) : Bool := xs.any fun y => eqV y x
def rIn (K : PySem.W.Frag) (neg : Bool) : R2 := fun x y H Q => ∃ p xs, y = .ref p ∧ (SqL K H p xs ∨ SqT K H p xs) ∧ flatV x = true ∧ xs.all flatV = true ∧ Q (.bl (if neg then !inV x xs else inV x xs)) H
theorem op_notIn_seq : OpR X (compareOp .NotIn) (rIn X.K true) := by
  intro pins s σ H x y v u Q I rx ry h
  obtain ⟨p, xs, rfl, hq, fx, fs, q⟩ := h
  cases ry
  rcases hq with hq | hq
  · obtain ⟨its, r, pl, hz⟩ := I.list hq
    refine SeqAt.notIn_listAt (eqU x) pl.isList (fun w hw => mem_eqAt rx fx r fs w (by simpa using hw)) ⟨.bl _, H, I, rfl, ?_⟩
    rw [show its.toArray.any (eqU x) = its.any (eqU x) by simp, any_eqU r fs]
    exact q
  · obtain ⟨its, r, pl, hz⟩ := I.tuple hq
    refine SeqAt.notIn_tupleAt (eqU x) pl (fun w hw => mem_eqAt rx fx r fs w (by simpa using hw)) ⟨.bl _, H, I, rfl, ?_⟩
    rw [show its.toArray.any (eqU x) = its.any (eqU x) by simp, any_eqU r fs]
    exact q
theorem call_len_seq : CallR X (.builtin "len") (fun xs H Q => ∃ p ys, xs = [.ref p] ∧ (SqL X.K H p ys ∨ SqT X.K H p ys) ∧ Q (.int ys.length) H) := by
  intro pins s σ H xs us Q I r h
  obtain ⟨p, ys, rfl, hq, q⟩ := h
  obtain ⟨u, rfl, rx⟩ := vals1 r
  cases rx
  have hn := line63
  rcases hq with hq | hq
  · obtain ⟨its, r', pl, hz⟩ := I.list hq
    have hlen := r'.length
    exact Calls.call_len_list pl.isList (by simp only [List.size_toArray] <;> omega) ⟨.int ys.length, H, I.tok _, ⟨s.toks + 1, by rw [List.size_toArray, hlen]⟩, q⟩
  · obtain ⟨its, r', pl, hz⟩ := I.tuple hq
    have hlen := r'.length
    exact len_tuple pl (by simp only [List.size_toArray] <;> omega) ⟨.int ys.length, H, I.tok _, ⟨s.toks + 1, by rw [List.size_toArray, hlen]⟩, q⟩
theorem call_len_str : CallR X (.builtin "len") (fun xs H Q => ∃ z, xs = [.str z] ∧ z.length ≤ sizeLine ∧ Q (.int z.length) H) := by
  intro pins s σ H xs us Q I r h
  obtain ⟨z, rfl, hz, q⟩ := h
  obtain ⟨u, rfl, t, rfl⟩ := vals1 r
  have hn := line63
  exact len_str (by omega) ⟨.int z.length, H, I.tok _, ⟨_, rfl⟩, q⟩
theorem CallR.or {f : Value} {r r' : List V → Hp → VK → Prop} (h : CallR X f r) (h' : CallR X f r') : CallR X f (fun xs H Q => r xs H Q ∨ r' xs H Q) := by
  intro pins s σ H xs us Q I rs q
  rcases q with q | q
  · exact h pins s σ H xs us Q I rs q
  · exact h' pins s σ H xs us Q I rs q
theorem call_list_of : CallR X (.type "list") (fun xs H Q => ∃ p ys, xs = [.ref p] ∧ (SqL X.K H p ys ∨ SqT X.K H p ys) ∧ ∀ l, H l = none → Q (.ref l) (upd H l (.lst ys))) := by
  intro pins s σ H xs us Q I r h
  obtain ⟨p, ys, rfl, hq, q⟩ := h
  obtain ⟨u, rfl, rx⟩ := vals1 r
  cases rx
  have fin : ∀ (its : List Value), Vals ys its → ys.length ≤ sizeLine → ∀ (h' : Heap) (c' : Nat), (∀ b o', s.heap.get? b = some o' → h'.get? b = some o') →
      h'.get? s.heap.objs.size = some { cls := .type "list", dict := none, data := .seq its.toArray c', slots := #[] } → EP X pins σ Q (.ref s.heap.objs.size) { s with heap := h' } := fun its r' hz h' c' kp e =>
    ⟨.ref s.heap.objs.size, _, I.laid (t' := s.toks) kp (Nat.le_refl _) (show ObjOk X.prog X.w _ h' _ (.lst ys) from ⟨hz, its, c', r', e⟩), rfl, q _ (I.hok.fresh (Nat.le_refl _))⟩
  rcases hq with hq | hq
  · obtain ⟨its, r', pl, hz⟩ := I.list hq
    have hlen := r'.length
    obtain ⟨o, ho, hc, n, hd⟩ := pl.isList
    exact call_list_seq p (.inl rfl) ho hc hd (fun h' c' kp e => fin its r' hz h' c' kp e) (by simp only [List.size_toArray] <;> omega)
  · obtain ⟨its, r', pl, hz⟩ := I.tuple hq
    have hlen := r'.length
    obtain ⟨o, ho, hc, n, hd⟩ := pl
    exact call_list_seq p (.inr rfl) ho hc hd (fun h' c' kp e => fin its r' hz h' c' kp e) (by simp only [List.size_toArray] <;> omega)
theorem call_tuple_of : CallR X (.type "tuple") (fun xs H Q => ∃ p ys, xs = [.ref p] ∧ ((SqL X.K H p ys ∧ ∀ l, H l = none → Q (.ref l) (upd H l (.tup ys))) ∨ (SqT X.K H p ys ∧ Q (.ref p) H))) := by
  intro pins s σ H xs us Q I r h
  obtain ⟨p, ys, rfl, h⟩ := h
  obtain ⟨u, rfl, rx⟩ := vals1 r
  cases rx
  rcases h with ⟨hq, q⟩ | ⟨hq, q⟩
  · obtain ⟨its, r', pl, hz⟩ := I.list hq
    have hlen := r'.length
    refine call_tuple_list pl.isList (fun h' kp => ?_) (by simp only [List.size_toArray] <;> omega)
    have I1 : Inv X pins σ H { s with heap := h' } := I.kept (t' := s.toks) kp
    have I2 : Inv X pins σ (upd H h'.objs.size (.tup ys)) { s with heap := h'.push { cls := .type "tuple", data := .seq its.toArray } } :=
      I1.laid (t' := s.toks) (fun b o e => Heap.get?_push_of_some _ e) (Nat.le_refl _) (show ObjOk X.prog X.w _ _ _ (.tup ys) from ⟨⟨hz, _, Heap.get?_push_size _ rfl, rfl⟩, its, r', IsTup.new _ _⟩)
    exact ⟨.ref h'.objs.size, _, I2, rfl, q _ (I1.hok.fresh (Nat.le_refl _))⟩
  · obtain ⟨its, r', pl, hz⟩ := I.tuple hq
    exact call_tuple_same pl ⟨.ref p, H, I, rfl, q⟩
def tyV (K : PySem.W.Frag) (T : String) (x : V) (H : Hp) : Prop := match x with
  | .str _ => T = "str"
  | .int _ => T = "int"
  | .ref p => (T = "list" ∧ ∃ xs, SqL K H p xs) ∨ (T = "tuple" ∧ ∃ o, K.lookup p = some o ∧ o.cls = .type "tuple" ∧ o.dict = none) ∨
      (T = "dict" ∧ ((∃ kvs, H p = some (.dK kvs)) ∨ ∃ kvs, H p = some (.dT kvs))) ∨ (T = "set" ∧ ∃ S n, H p = some (.set S n))
  | _ => False
theorem tyV_is {pins : List (Addr × Obj)} {σ : St} {H : Hp} {s : Shared} {T : String} {x : V} {v : Value} (I : Inv X pins σ H s) (r : RelV x v) (ty : tyV X.K T x H) :
    s.TypeIs v T ∧ ∀ a, v = .ref a → ∃ ob, s.heap.get? a = some ob ∧ ob.dict = none := by
  cases x with
  | str z =>
    obtain ⟨t, rfl⟩ := r
    cases (show T = "str" from ty)
    exact ⟨typeIs_str s z t, fun _ e => nomatch e⟩
  | int i =>
    obtain ⟨t, rfl⟩ := r
    cases (show T = "int" from ty)
    exact ⟨typeIs_int s i t, fun _ e => nomatch e⟩
  | ref p =>
    cases r
    rcases ty with ⟨rfl, xs, hq⟩ | ⟨rfl, o, hk, hc, hd⟩ | ⟨rfl, hk⟩ | ⟨rfl, S, n, hk⟩
    · obtain ⟨its, _, pl, _⟩ := I.list hq
      refine ⟨pl.isList.typeIs, fun a e => ?_⟩
      cases e
      obtain ⟨o, n, e, c, hd, _⟩ := pl
      exact ⟨o, e, hd⟩
    · refine ⟨⟨o, I.kIn p o hk, hc⟩, fun a e => ?_⟩
      cases e
      exact ⟨o, I.kIn _ o hk, hd⟩
    · have z : ∃ o, s.heap.get? p = some o ∧ o.ExactDict := by
        rcases hk with ⟨kvs, hk⟩ | ⟨kvs, hk⟩
        · obtain ⟨_, _, _, _, o, _, _, e, ex, _⟩ := I.hok p _ hk
          exact ⟨o, e, ex⟩
        · obtain ⟨_, _, _, _, o, _, _, e, ex, _⟩ := I.hok p _ hk
          exact ⟨o, e, ex⟩
      obtain ⟨o, e, ex⟩ := z
      refine ⟨⟨o, e, ex.1⟩, fun a e2 => ?_⟩
      cases e2
      exact ⟨o, e, ex.2.1⟩
    · obtain ⟨o, _, _, _, e, ex, _⟩ := I.hok p _ hk
      refine ⟨⟨o, e, ex.1⟩, fun a e2 => ?_⟩
      cases e2
      exact ⟨o, e, ex.2.1⟩
  | _ => exact False.elim ty
def tBM (K : PySem.W.Frag) (T : String) (r : V → List V → Hp → VK → Prop) (to : TE) (t : TA) : TE := fun σ H Q => to σ H fun x H1 => tyV K T x H1 ∧ t σ H1 fun xs H2 => r x xs H2 Q
variable {o e : Expr} {es : List Expr} {to : TE} {t : TA} {name : Str} {apos cpos : Pos} {T id : String} {r : V → List V → Hp → VK → Prop}
theorem pe_bm (pa : PlainAttrs T) (slot : Slot T name id) (hty : typeOf (.builtin id) = pure (.type "method_descriptor")) (hm : MtR X id r) (ho : PE X o to) (ha : PA X (e :: es) t)
    (hbase : attributeBase o name X.env (eval o X.env) = eval o X.env := by rfl)
    (hfew : ((backTo cpos (starEach (e :: es) X.env)).all (fun x => !x.1) && (backToKw cpos (keywordEach [] X.env)).all (fun x => x.1.isSome)
      && decide ((e :: es).length + ([] : List Keyword).length + (if ([] : List Keyword).isEmpty then 0 else 1) < 30)) = true := by rfl)
    (hline : (apos.endLine == cpos.line) = true := by rfl) (hs : starEach (e :: es) X.env = (false, eval e X.env) :: starEach es X.env := by rfl) (hplain : (backTo cpos (starEach es X.env)).any (·.1) = false := by rfl) :
    PE X (.Call (.Attribute o name apos) (e :: es) [] cpos) (tBM X.K T r to t) := by
  intro pins s σ H Q I h
  refine wpAny_Call_method_late hbase hfew hline rfl (thn (ho pins s σ H _ I h) fun v s1 ⟨x, H1, I1, r1, ty, q1⟩ => ?_)
  obtain ⟨h1, h2⟩ := tyV_is I1 r1 ty
  refine ⟨T, id, pa, slot, hty, h1, h2, ?_⟩
  have hA := ha cpos pins s1 σ H1 _ I1 q1
  rw [hs] at hA ⊢
  refine Calls.callWith_builtin (by show (false || (backTo cpos (starEach es X.env)).any (·.1)) = false; rw [hplain] <;> rfl) (Calls.evalArgs_plain ?_)
  exact thn hA fun us s2 ⟨vs, H2, I2, r2, q2⟩ => hm pins s2 σ H2 x vs v us Q I2 r1 r2 q2
/- xs.append(e), list.index on a module's tuple .. are MtR facts of 06m -/
end
end L2
namespace L2
open PySem PySem.Spec PyProof.Rows
def MtM (X : Cx) (id : String) (r : V → List V → Hp → VK → Prop) : Prop :=
  ∀ (pins : List (Addr × Obj)) (s : Shared) (σ : St) (H : Hp) (x : V) (xs : List V) (v : Value) (us : List Value) (Q : VK), Inv X pins σ H s → RelV x v → Vals xs us → r x xs H Q →
    wpAny (model X.prog X.w) X.A (call (.builtin id) (v :: us)) (EP X pins σ Q) X.xe s
theorem Vals.one : ∀ {x : V} {us : List Value}, Vals [x] us → ∃ u, us = [u] ∧ RelV x u
  | _, _, .cons r .nil => ⟨_, rfl, r⟩
theorem Vals.two : ∀ {x y : V} {us : List Value}, Vals [x, y] us → ∃ u v, us = [u, v] ∧ RelV x u ∧ RelV y v
  | _, _, _, .cons r (.cons q .nil) => ⟨_, _, rfl, r, q⟩
theorem Vals.eraseIdx : ∀ {xs : List V} {us : List Value} (i : Nat), Vals xs us → Vals (xs.eraseIdx i) (us.eraseIdx i)
  | _, _, _, .nil => .nil
  | _, _, 0, .cons _ t => t
  | _, _, i + 1, .cons r t => .cons r (Vals.eraseIdx i t)
theorem Vals.reverse {xs : List V} {us : List Value} (h : Vals xs us) : Vals xs.reverse us.reverse := by
  induction h with
  | nil => exact .nil
  | cons r t ih => rw [List.reverse_cons, List.reverse_cons]; exact Vals.append ih (.cons r .nil)
section
variable {X : Cx} {pins : List (Addr × Obj)} {σ : St} {H : Hp} {s : Shared} {l b : Addr} {xs ys zs : List V}
theorem Inv.lset {its its' : List Value} {n : Nat} {f : Array Value → Array Value} {t' : Nat} (I : Inv X pins σ H s) (hH : H l = some (.lst xs))
    (e : s.heap.get? l = some { cls := .type "list", data := .seq its.toArray n }) (hf : f its.toArray = its'.toArray) (hv : Vals ys its') (hz : ys.length ≤ sizeLine) :
    Inv X pins σ (upd H l (.lst ys)) { s with heap := s.heap.update l (Obj.mapSeq f), toks := t' } := by
  have q := PySem.IsL.update e f
  rw [hf] at q
  refine I.write (x := l) (e := l) (by rw [hH]; exact trivial) (.inl rfl) (fun b' u hb hu => (Heap.get?_update_other s.heap (Obj.mapSeq f) (Ne.symm hb)).trans hu) ⟨_, q⟩ ?_
  exact ⟨hz, its', _, hv, q⟩
theorem Inv.lnew {its : List Value} {t' : Nat} (I : Inv X pins σ H s) (hv : Vals ys its) (hz : ys.length ≤ sizeLine) :
    Inv X pins σ (upd H s.heap.objs.size (.lst ys)) { s with heap := s.heap.push { cls := .type "list", data := .seq its.toArray }, toks := t' } :=
  I.laid (fun _ _ q => Heap.get?_push_of_some _ q) (Nat.le_refl _) ⟨hz, its, 0, hv, Heap.get?_push_size _ rfl⟩
theorem Inv.fresh (I : Inv X pins σ H s) : H s.heap.objs.size = none := I.hok.fresh (Nat.le_refl _)
theorem Inv.lstM (I : Inv X pins σ H s) (hH : H l = some (.lst xs)) : xs.length ≤ sizeLine ∧ ∃ (its : List Value) (n : Nat), Vals xs its ∧ xs.length = its.length ∧ s.heap.get? l = some { cls := .type "list", data := .seq its.toArray n } := by
  obtain ⟨z, its, n, r, e⟩ := I.hok l _ hH
  exact ⟨z, its, n, r, r.length, e⟩
theorem notLongL {n : Nat} (h : n ≤ sizeLine) : Builtin.List.listTooLong n = false := by
  unfold Builtin.List.listTooLong
  exact decide_eq_false (by omega)
end
section
variable {X : Cx}
def rAppend : V → List V → Hp → VK → Prop := fun x vs H Q => ∃ l xs y, x = .ref l ∧ vs = [y] ∧ H l = some (.lst xs) ∧ xs.length < sizeLine ∧ Q .non (upd H l (.lst (xs ++ [y])))
theorem mt_append : MtM X "list.append" rAppend := by
  intro pins s σ H x vs v us Q I rx rv h
  obtain ⟨l, xs, y, rfl, rfl, hH, hz, q⟩ := h
  cases rx
  obtain ⟨u, rfl, ru⟩ := rv.one
  obtain ⟨z, its, n, r, hl, e⟩ := I.lstM hH
  refine call_meets F.slot_list_append ⟨_, e, rfl⟩ F.entry_list_append (F.args_list_append_2 _ _) (PySem.list_append l its.toArray n u (by rw [List.size_toArray]; omega)) ⟨e, ?_⟩
  refine ⟨.non, _, I.lset (its' := its ++ [u]) hH e (by simp) (r.append (.cons ru .nil)) ?_, rfl, q⟩
  rw [List.length_append, List.length_singleton]
  omega
def rExtend : V → List V → Hp → VK → Prop := fun x vs H Q => ∃ l b xs zs, x = .ref l ∧ vs = [.ref b] ∧ H l = some (.lst xs) ∧ H b = some (.lst zs) ∧ xs.length + zs.length ≤ sizeLine ∧ Q .non (upd H l (.lst (xs ++ zs)))
theorem mt_extend : MtM X "list.extend" rExtend := by
  intro pins s σ H x vs v us Q I rx rv h
  obtain ⟨l, b, xs, zs, rfl, rfl, hH, hB, hz, q⟩ := h
  cases rx
  obtain ⟨u, rfl, ru⟩ := rv.one
  cases ru
  obtain ⟨z, its, n, r, hl, e⟩ := I.lstM hH
  obtain ⟨z2, its2, n2, r2, hl2, e2⟩ := I.lstM hB
  have hsz : its.toArray.size + its2.toArray.size ≤ sizeLine := by rw [List.size_toArray, List.size_toArray]; omega
  have hlong : ¬ (!its.toArray.isEmpty && Builtin.List.listTooLong (its.toArray.size + its2.toArray.size)) = true := by
    rw [notLongL hsz, Bool.and_false]
    exact Bool.false_ne_true
  refine call_meets F.slot_list_extend ⟨_, e, rfl⟩ F.entry_list_extend (F.args_list_extend_2 _ _)
    (AutoSeq1.list_extend_list_list_0 l its.toArray n b its2.toArray n2 hlong (by rw [List.size_toArray]; omega) (by omega)) ⟨e, e2, ?_⟩
  refine ⟨.non, _, I.lset (its' := its ++ its2) hH e (by simp) (r.append r2) ?_, rfl, q⟩
  rw [List.length_append]
  omega
def rCat : R2 := fun x y H Q => ∃ l b xs zs, x = .ref l ∧ y = .ref b ∧ H l = some (.lst xs) ∧ H b = some (.lst zs) ∧ xs.length + zs.length ≤ sizeLine ∧ ∀ p, H p = none → Q (.ref p) (upd H p (.lst (xs ++ zs)))
theorem op_cat : OpR X (binaryOp .Add) rCat := by
  intro pins s σ H x y v u Q I rx ry h
  obtain ⟨l, b, xs, zs, rfl, rfl, hH, hB, hz, q⟩ := h
  cases rx
  cases ry
  obtain ⟨z, its, n, r, hl, e⟩ := I.lstM hH
  obtain ⟨z2, its2, n2, r2, hl2, e2⟩ := I.lstM hB
  refine PySem.P.add_list e e2 ?_ (by rw [List.size_toArray, List.size_toArray]; omega)
  have ea : its.toArray ++ its2.toArray = (its ++ its2).toArray := by simp
  rw [ea]
  exact ⟨.ref _, _, I.lnew (t' := s.toks) (r.append r2) (by rw [List.length_append]; omega), rfl, q _ I.fresh⟩
end
section
variable {prog : Program} {w : World} {A : Around} {E : Value → Shared → Prop} {s : Shared}
end
section
variable {X : Cx}
end
end L2
namespace Att
open PySem PySem.W PySem.Calls PyProof.Rows
theorem ints_of_wellAll {P : Params} {h : Heap} : ∀ (ns : List Int) (vs : List Value), WellAll P h vs (ns.map WData.int) → IntsAre vs ns := by
  intro ns
  induction ns with
  | nil =>
    intro vs w
    rw [List.map_nil] at w
    cases w
    exact .nil
  | cons n ns ih =>
    intro vs w
    rw [List.map_cons] at w
    cases w with
    | cons a b =>
      cases a
      exact .cons _ _ (ih _ b)
theorem script_of {l : OpenLaw} {n : Nat} (hn : l.most = some n) {P : Params} {h : Heap} {args : List WData} {vals : List Value}
    (hpre : l.row.toRowW.claim.pre args = true) (hwl : WellAll P h vals args) :
    ∃ a vs ns, vals = [Value.ref a] ∧ args = [WData.list (ns.map WData.int)] ∧ h.get? a = some { cls := .type "list", data := .seq vs.toArray } ∧ IntsAre vs ns ∧ ns.length ≤ n := by
  have hsh : WShape.hasAll [] args [.list .int] = true := (pre_splitW hpre).1
  have hc : l.pre.holds [] { args := args } = true := (pre_splitW hpre).2
  obtain ⟨d, r, rfl, h1, h2⟩ := hasAllW_cons hsh
  obtain rfl := hasAllW_nil h2
  obtain ⟨xs, rfl, h3⟩ := hasW_list h1
  obtain ⟨ns, rfl⟩ := items_int h3
  have hlen : ns.length ≤ n := by
    unfold OpenLaw.pre at hc
    have h4 : (WTm.not (.lt (.lit (.int (n : Int))) (.len (.arg 0)))).holds [] { args := [.list (ns.map .int)] } = true := by
      have h4 := (holds_andW hc).1
      rw [hn] at h4
      exact h4
    have h5 := condW_of h4 (w_not (w_lt w_lit (w_len_list (w_arg rfl))))
    rw [List.length_map] at h5
    refine Nat.le_of_not_lt fun q => ?_
    have q' : (n : Int) < ((ns.length : Nat) : Int) := by omega
    first
      | (rw [decide_eq_true q'] at h5; exact absurd h5 (by decide))
      | (simp at h5; omega)
  cases hwl with
  | cons w1 w2 =>
    cases w2
    cases w1 with
    | list ho hall => exact ⟨_, _, ns, rfl, rfl, ho, ints_of_wellAll ns _ hall, hlen⟩
theorem post_true (l : OpenLaw) (args : List WData) : l.row.toRowW.claim.post args (.bool true) args = true :=
  postW_of (r := l.row.toRowW) (X := (true == true))
    (show WShape.has [] (.bool true) .bool = true by first | rfl | decide | simp [WShape.has, WShape.arms, WShape.armsAll])
    (show (WTm.eq .res (.lit (.bool true))).value [] { args := args, res := some (.bool true), after := args } = some (.bool (true == true)) from w_eq_bool (w_res rfl) w_lit) rfl
theorem attach_call {l : OpenLaw} {n : Nat} {q : Program} {loose : List Str} {XP : (Str → Option Value) → Heap → Prop} {YP : World → Heap → Prop} {d : DefRec}
    (hn : l.most = some n) (hdf : d.params.defaults = [])
    (call : ∀ (w : World) (s₀ s₁ : Shared) (mg mb : Str → Option Value) (fa : Addr) (o : Obj) (pm cd doc : Value) (a : Addr) (vs : List Value) (ns : List Int),
      Ground q loose [] XP w s₀ mg mb s₁.heap → YP w s₁.heap →
      s₁.heap.get? fa = some o → o.data = .func (docDef d.name d.params d.body d.scope pm cd doc) → s₁.heap.CodeRec cd d.name → mg d.name = some (.ref fa) →
      s₁.heap.get? a = some { cls := .type "list", data := .seq vs.toArray } → IntsAre vs ns → ns.length ≤ n → s₁.gens = #[] →
      codeAny (model l.prog w) callerA (.call (.ref fa) ⟨[.ref a], []⟩) (fun r s' => r = .ok (.ret (.bool true)) ∧ OldK s₁.heap s'.heap ∧ s'.os = s₁.os ∧ AllBare s'.gens) s₁) :
    WalkO q loose XP YP l.row.toRowW d [] (fun f vs => PySem.call f vs) := by
  intro w s₀ s₁ mg mb G Y fa o pm cd doc dV kV ho hd hcd hD hmg hg args vals as hpre hlay hrd hwl hlo
  obtain rfl : dV = .none := Dflts.none hD hdf
  obtain rfl : kV = .none := Dflts.noKw hD
  obtain ⟨a, vs, ns, rfl, rfl, hobj, hints, hlen⟩ := script_of hn hpre hwl
  refine enter_call (codeAny_mono (call w s₀ s₁ mg mb fa o pm cd doc a vs ns G Y ho (fd_plain hd) hcd hmg hobj hints hlen hg) fun r s' hq => ?_)
  obtain ⟨rfl, h2, h3, h4⟩ := hq
  exact ⟨.inl ⟨.bool true, .bool true, [], rfl, fun _ => rfl, .bool true, post_true l _, fun _ => ⟨List.Pairwise.nil, fun _ hm => (nomatch hm)⟩⟩, h2, h3, h4⟩
section
variable {prog : Program} {w : World} {A : Around} {E : Value → Shared → Prop} {s : Shared} {K : Frag}
def ledger (h : Heap) (L d : Addr) : List (Addr × Obj) := (List.range h.objs.size).filterMap fun a => if a = L ∨ a = d then none else (h.get? a).map fun o => (a, o)
end
end Att
namespace L2
open PySem PySem.Spec PyProof.Rows
theorem vals_ints : ∀ {vs : List Value} {ns : List Int}, IntsAre vs ns → Vals (ns.map V.int) vs
  | _, _, .nil => .nil
  | _, _, .cons n t h => .cons ⟨t, rfl⟩ (vals_ints h)
def Only (H : Hp) : Prop := ∀ b, H b = none ∨ ∃ o xs, H b = some (.frz o (.lst xs))
theorem law_call {P : Program} {w : World} {K : PySem.W.Frag} {mg mb : Str → Option Value} {CX : CXT} {k : Nat} {fa a : Addr} {fd : FuncData} {x : Str} {sp : Sp} {s₁ : Shared} {vs : List Value} {ns : List Int}
    (KX : K.In s₁.heap) (hns : s₁.heap.Ns mainGlobals mg) (hb : s₁.heap.Ns builtinsNs mb) (hbb : ∀ x : Str, x ≠ "__name__" → mb x = bootBuiltins x) (hlim : s₁.heap.NoLimit) (hg : s₁.gens = #[])
    (ha : s₁.heap.get? a = some { cls := .type "list", data := .seq vs.toArray }) (hi : IntsAre vs ns) (hl : ns.length ≤ sizeLine) (hr : Room k callerA)
    (F : ∀ base : Heap, K.In base → base.Ns mainGlobals mg → FnOk P w K mg base CX k fa fd [x] sp) (hbind : ∀ (s : Shared) (u : Value), BindsTo s fd ⟨[u], []⟩ [(x, u)])
    (hsp : ∀ H : Hp, Only H → SqL K H a (ns.map V.int) → sp [.ref a] H (fun v _ => v = .bl true) fun _ _ _ => False)
    (hCX : ∀ H e s', CX [] H s₁ (fun _ _ _ => False) e s' → False) :
    codeAny (model P w) callerA (.call (.ref fa) ⟨[.ref a], []⟩) (fun r s' => r = .ok (.ret (.bool true)) ∧ OldK s₁.heap s'.heap ∧ s'.os = s₁.os ∧ AllBare s'.gens) s₁ := by
  have rv := vals_ints hi
  have lenV := hi.length
  have core : ∀ H : Hp, Only H → SqL K H a (ns.map V.int) → HOk P w H s₁.heap → (∀ b, H b ≠ none → b = a) → (H a ≠ none → K.lookup a = none) →
      codeAny (model P w) callerA (.call (.ref fa) ⟨[.ref a], []⟩) (fun r s' => r = .ok (.ret (.bool true)) ∧ OldK s₁.heap s'.heap ∧ s'.os = s₁.os ∧ AllBare s'.gens) s₁ := by
    intro H hO hS hok hA hK
    have base_of : ∀ {b : Addr} {o : Obj}, s₁.heap.get? b = some o → H b = none → (hidT s₁.heap H).get? b = some o := fun e n => hidT_get e n
    have noA : ∀ {b : Addr} {o : Obj} {es : Array DictEntry} {ep : Nat}, s₁.heap.get? b = some o → o.data = .dict es ep → H b = none := fun {b o es ep} e d => by
      cases q : H b with
      | none => rfl
      | some u =>
        have e' : b = a := hA b (by rw [q]; simp)
        subst e'
        rw [ha] at e; cases e
        have d' : Data.seq vs.toArray _ = Data.dict es ep := d
        cases d'
    have nsK : ∀ {b : Addr} {m : Str → Option Value}, s₁.heap.Ns b m → (hidT s₁.heap H).Ns b m := fun {b m} ⟨o, es, ep, e, d, r⟩ => ⟨o, es, ep, base_of e (noA e d), d, r⟩
    have hKb : K.In (hidT s₁.heap H) := fun b o e => base_of (KX b o e) (by
      cases q : H b with
      | none => rfl
      | some u =>
        have e' : b = a := hA b (by rw [q]; simp)
        subst e'
        rw [hK (by rw [q]; simp)] at e; cases e)
    have hM : Mod K mg (hidT s₁.heap H) := ⟨hKb, nsK hns, ⟨mb, nsK hb, hbb⟩, let ⟨mc, h1, h2⟩ := hlim; ⟨mc, nsK h1, h2⟩⟩
    have e0 : Env0 P w K mg (hidT s₁.heap H) callerA [] s₁ H := ⟨rfl, hM, fun b o e => of_hidT e, Nat.le_of_eq (hidT_size _ _), trivial, fun b hb => absurd (show b ∈ ([] : List Addr) from hb) (by simp), hok, .of_eq hg⟩
    refine codeAny_mono ((F _ hKb (nsK hns)).run callerA [] s₁ H ⟨[.ref a], []⟩ [.ref a] [.ref a] _ _ hr e0 (hbind s₁ (.ref a)) (.cons rfl .nil) (hsp H hO hS)) fun r s' h => ?_
    cases r with
    | error e => exact (hCX H e s' h).elim
    | ok fl =>
      cases fl with
      | next => exact False.elim h
      | brk => exact False.elim h
      | cont => exact False.elim h
      | ret u =>
        obtain ⟨v, H', os, bare, un, hok', r', q⟩ := h
        have q' : v = .bl true := q
        subst q'
        obtain rfl : u = Value.bool true := r'
        refine ⟨rfl, OldK.of_keep fun b o e => ?_, os, bare⟩
        cases q : H b with
        | none => exact un.keep b o e q (by intro z; exact absurd (show b ∈ ([] : List Addr) from z) (by simp)) (by simp)
        | some u =>
          rcases hO b with z | ⟨ob, xs, z⟩
          · rw [q] at z; cases z
          · have z2 := un.frzs b ob _ z
            obtain ⟨e1, _⟩ := hok b _ z
            obtain ⟨e2, _⟩ := hok' b _ z2
            rw [e] at e1; cases e1
            exact e2
  cases hk : K.lookup a with
  | some o =>
    have e := KX a o hk
    rw [ha] at e
    cases e
    refine core (fun _ => none) (fun _ => .inl rfl) (.inr ⟨_, vs.toArray, _, hk, rfl, rfl, rfl, by rw [List.size_toArray, lenV]; exact hl, by simpa using rv⟩) (fun b u z => by have z' : (none : Option HO) = some u := z; cases z') (fun b z => absurd rfl z) fun z => absurd rfl z
  | none =>
    refine core (fun b => if b = a then some (.frz { cls := .type "list", data := .seq vs.toArray } (.lst (ns.map V.int))) else none) (fun b => ?_) (.inl (.inr ⟨{ cls := .type "list", data := .seq vs.toArray }, if_pos rfl⟩)) (fun b u z => ?_) (fun b z => ?_) fun _ => hk
    · by_cases hb : b = a
      · exact .inr ⟨_, _, if_pos hb⟩
      · exact .inl (if_neg hb)
    · by_cases hb : b = a
      · have z' := (if_pos hb).symm.trans z
        cases z'
        subst hb
        exact ⟨ha, by rw [List.length_map]; exact hl, vs, _, rv, ha⟩
      · have z' := (if_neg hb).symm.trans z
        cases z'
    · by_cases hb : b = a
      · exact hb
      · exact absurd (if_neg hb) z
end L2
namespace L2
open PySem PySem.Spec PyProof.Rows
abbrev KOf {K : PySem.W.Frag} {h : Heap} (_ : K.In h) : PySem.W.Frag := K
theorem walk_of {l : PySem.W.OpenLaw} {n k : Nat} {q : Program} {loose : List Str} {XP : (Str → Option Value) → Heap → Prop} {YP : World → Heap → Prop} {d : DefRec} {K : Params → PySem.W.Frag} {CX : World → CXT} {sp : World → Sp} {x : Str}
    (hn : l.most = some n) (hn2 : n ≤ sizeLine) (hdf : d.params.defaults = []) (hr : Room k callerA)
    (hY : ∀ (w : World) (h : Heap), YP w h → (K w.params).In h)
    (F : ∀ (w : World) (mg : Str → Option Value) (fa : Addr) (h : Heap), (K w.params).In h → h.Ns mainGlobals mg → mg d.name = some (.ref fa) →
      ∃ fd : FuncData, (∀ (s : Shared) (u : Value), BindsTo s fd ⟨[u], []⟩ [(x, u)]) ∧
        ∀ base : Heap, (K w.params).In base → base.Ns mainGlobals mg → FnOk l.prog w (K w.params) mg base (CX w) k fa fd [x] (sp w))
    (hsp : ∀ (w : World) (H : Hp) (a : Addr) (ns : List Int), ns.length ≤ n → Only H → SqL (K w.params) H a (ns.map V.int) → sp w [.ref a] H (fun v _ => v = .bl true) fun _ _ _ => False)
    (hCX : ∀ (w : World) (H : Hp) (s : Shared) (e : Value) (s' : Shared), CX w [] H s (fun _ _ _ => False) e s' → False) :
    PySem.W.WalkO q loose XP YP l.row.toRowW d [] (fun f vs => PySem.call f vs) := by
  refine Att.attach_call hn hdf fun w s₀ s₁ mg mb fa o pm cd doc a vs ns G Y ho hd hcd hmg hobj hints hlen hg => ?_
  have KX := hY w _ Y
  obtain ⟨fd, hb, hF⟩ := F w mg fa _ KX G.T.g hmg
  exact law_call KX G.T.g G.T.b G.T.builtins G.T.nolimit hg hobj hints (Nat.le_trans hlen hn2) hr hF hb (fun H hO hS => hsp w H a ns hlen hO hS) fun H e s' => hCX w H s₁ e s'
theorem walk_ofK {l : PySem.W.OpenLaw} {n k : Nat} {q : Program} {loose : List Str} {XP : (Str → Option Value) → Heap → Prop} {YP : World → Heap → Prop} {d : DefRec} {K : Params → PySem.W.Frag} {CX : CXT} {sp : PySem.W.Frag → Sp} {x : Str}
    (hn : l.most = some n) (hn2 : n ≤ sizeLine) (hdf : d.params.defaults = []) (hr : Room k callerA)
    (hY : ∀ (w : World) (h : Heap), YP w h → (K w.params).In h)
    (F : ∀ (w : World) (mg : Str → Option Value) (fa : Addr) (h : Heap), (K w.params).In h → h.Ns mainGlobals mg → mg d.name = some (.ref fa) →
      ∃ fd : FuncData, (∀ (s : Shared) (u : Value), BindsTo s fd ⟨[u], []⟩ [(x, u)]) ∧
        ∀ base : Heap, (K w.params).In base → base.Ns mainGlobals mg → FnOk l.prog w (K w.params) mg base CX k fa fd [x] (sp (K w.params)))
    (hsp : ∀ (K : PySem.W.Frag) (H : Hp) (a : Addr) (ns : List Int), ns.length ≤ n → Only H → SqL K H a (ns.map V.int) → sp K [.ref a] H (fun v _ => v = .bl true) fun _ _ _ => False)
    (hCX : ∀ (H : Hp) (s : Shared) (e : Value) (s' : Shared), CX [] H s (fun _ _ _ => False) e s' → False) :
    PySem.W.WalkO q loose XP YP l.row.toRowW d [] (fun f vs => PySem.call f vs) :=
  walk_of (K := K) (CX := fun _ => CX) (sp := fun w => sp (K w.params)) hn hn2 hdf hr hY F (fun w H a ns h1 h2 h3 => hsp (K w.params) H a ns h1 h2 h3) fun _ H s e s' => hCX H s e s'
end L2
namespace L2
open PySem PySem.Spec PyProof.Rows
def defArgs (s : Stmt) : Arguments := match s with
  | .FunctionDef _ a _ _ _ _ _ _ _ _ => a
  | _ => { posonlyargs := [], args := [], vararg := none, kwonlyargs := [], kw_defaults := [], kwarg := none, defaults := [] }
def defBody (s : Stmt) : List Stmt := match s with
  | .FunctionDef _ _ b _ _ _ _ _ _ _ => b
  | _ => []
def defScope (s : Stmt) : Scope := match s with
  | .FunctionDef _ _ _ _ _ _ sc _ _ _ => sc
  | _ => { kind := .function, names := [], isGenerator := false, isCoroutine := false }
abbrev CX0 : CXT := fun _ _ _ _ _ _ => False
abbrev E0 : XK := fun _ _ _ => False
theorem pass0 {X : Cx} : Passes CX0 X E0 := fun _ _ _ _ _ _ _ h => h.elim
structure Fun (K : PySem.W.Frag) (x qual : Str) (st : Stmt) (f : Addr) (fd : FuncData) : Prop where
  ex : ∃ (oc : Value) (od : Option Addr) (kV doc pm : Value) (an : Option Addr) (cdv ct : Value) (osl : Array (Option Value)),
    fd = PySem.W.fnOf x qual (defArgs st) (defBody st) (defScope st) .none kV doc pm an cdv ct ∧ K.lookup f = some ⟨oc, od, .func fd, osl⟩ ∧ PySem.W.codeIn K cdv qual = true
  kp : PySem.W.keepIn K (.ref f) = true
section
variable {P : Program} {w : World} {K : PySem.W.Frag} {mg : Str → Option Value} {base : Heap}
theorem Fun.ok {x qual : Str} {st : Stmt} {f : Addr} {fd : FuncData} {N ps : List Str} {k : Nat} {sp : Sp} (F : Fun K x qual st f fd) (S : FnScope N ps (defScope st)) (len : ∀ vs H Q E, sp vs H Q E → vs.length = ps.length)
    (hbody : ∀ (cdv : Value) (A : Around) (outer : List Env) (s : Shared) (H : Hp) (vs : List V) (Q : VK) (E : XK), Room k (A.deeper (envOfC qual (defScope st) s.heap.objs.size f cdv)) → sp vs H Q E →
      ∃ t, PSs (cxOf CX0 P w K mg base N qual (defScope st) f cdv A outer s H E).nox (defBody st) t ∧ t { nx := fun _ H' => Q .non H', rt := Q } (start N vs) H) : FnOk P w K mg base CX0 (k + 1) f fd ps sp := by
  obtain ⟨oc, od, kV, doc, pm, an, cdv, ct, osl, rfl, lk, hcd⟩ := F.ex
  refine fn_of lk hcd S len fun A outer s H vs Q E hr hsp => ?_
  obtain ⟨t, h, q⟩ := hbody cdv A outer s H vs Q E hr hsp
  exact ⟨t, h.nox, q⟩
theorem Fun.binds {x qual : Str} {st : Stmt} {f : Addr} {fd : FuncData} {ps : List Str} (F : Fun K x qual st f fd)
    (h : ∀ (kV doc pm : Value) (an : Option Addr) (cdv ct : Value) (us : List Value), us.length = ps.length → bindArgs (PySem.W.fnOf x qual (defArgs st) (defBody st) (defScope st) .none kV doc pm an cdv ct) ⟨us, []⟩ = pure (ps.zip us)) : Binds K fd ps [] := by
  obtain ⟨oc, od, kV, doc, pm, an, cdv, ct, osl, rfl, lk, hcd⟩ := F.ex
  exact .all (h kV doc pm an cdv ct)
theorem fun_mk {x qual : Str} {st : Stmt} {f : Addr} {oc : Value} {od an : Option Addr} {osl : Array (Option Value)} {kV doc pm cdv ct : Value} (l : K.lookup f = some ⟨oc, od, .func (PySem.W.fnOf x qual (defArgs st) (defBody st) (defScope st) .none kV doc pm an cdv ct), osl⟩)
    (c : PySem.W.codeIn K cdv qual = true) (k : PySem.W.keepIn K (.ref f) = true) : Fun K x qual st f (PySem.W.fnOf x qual (defArgs st) (defBody st) (defScope st) .none kV doc pm an cdv ct) := ⟨⟨oc, od, kV, doc, pm, an, cdv, ct, osl, rfl, l, c⟩, k⟩
end
theorem hu_of {A : Around} {k : Nat} (hr : Room k A) : A.units + 1 < cLine := Nat.lt_of_le_of_lt (Nat.add_le_add_left (by decide : 1 ≤ 64) _) hr.units
theorem small1000 {n : Nat} (h : n ≤ 1000) : n < sizeLine := Nat.lt_of_le_of_lt h (by decide)
section
variable {X : Cx}
theorem pv (i : Nat) {x : Str} {pos : Pos} (hN : X.N[i]? = some x := by rfl) (hv : Vis X.env.scope x := by first | exact Or.inl rfl | exact Or.inr (Or.inl rfl) | exact Or.inr (Or.inr rfl)) (hd : (x == ("__debug__" : Str)) = false := by decide)
    (hcd : (x == ("__classdict__" : Str)) = false := by decide) : PE X (.Name x pos) (tVar i) := pe_var hN hv hd hcd
end
theorem iteF {A B : Prop} (h : B) : if false = true then A else B := by
  rw [if_neg Bool.false_ne_true]
  exact h
theorem iteT {A B : Prop} (h : A) : if true = true then A else B := by
  rw [if_pos rfl]
  exact h
theorem ite2 {c A B : Prop} [Decidable c] (h1 : c → A) (h2 : ¬ c → B) : if c then A else B := by
  by_cases h : c
  · rw [if_pos h]
    exact h1 h
  · rw [if_neg h]
    exact h2 h
theorem iteNS {c A B : Prop} [Decidable c] (hc : c) (h : B) : if (!decide c) = true then A else B := by
  rw [decide_eq_true hc]
  exact iteF h
def Same (H H' : Hp) : Prop := ∀ b o, H b = some o → H' b = some o
theorem Same.refl (H : Hp) : Same H H := fun _ _ h => h
theorem Same.trans {H H1 H2 : Hp} (a : Same H H1) (b : Same H1 H2) : Same H H2 := fun c o h => b c o (a c o h)
theorem Same.free {H H' : Hp} (e : Same H H') {l : Addr} (h : H' l = Option.none) : H l = Option.none := by
  cases q : H l with
  | none => rfl
  | some o =>
    rw [e l o q] at h
    cases h
theorem Same.seq {K : PySem.W.Frag} {H H' : Hp} {a : Addr} {xs : List V} (e : Same H H') (h : SqL K H a xs) : SqL K H' a xs := by
  rcases h with (h | ⟨o, h⟩) | h
  · exact .inl (.inl (e _ _ h))
  · exact .inl (.inr ⟨o, e _ _ h⟩)
  · exact .inr h
end L2
set_option maxHeartbeats 16000000
namespace L2
open PySem PySem.Spec PyProof.Rows
theorem lookup_mem {α : Type} : ∀ {cl : List (Str × α)} {x : Str} {c : α}, cl.lookup x = some c → (x, c) ∈ cl
  | [], _, _, h => by simp at h
  | (y, d) :: r, x, c, h => by
    rw [List.lookup_cons] at h
    cases e : x == y with
    | true =>
      rw [e] at h
      have e' : x = y := eq_of_beq e
      cases h
      rw [e']; exact List.mem_cons_self
    | false =>
      rw [e] at h
      exact List.mem_cons_of_mem _ (lookup_mem h)
theorem lookup_of_mem {α : Type} : ∀ {cl : List (Str × α)} {x : Str} {c : α}, (x, c) ∈ cl → ∃ c', cl.lookup x = some c'
  | [], _, _, h => nomatch h
  | (y, d) :: r, x, c, h => by
    rw [List.lookup_cons]
    cases e : x == y with
    | true => exact ⟨d, rfl⟩
    | false =>
      rcases List.mem_cons.mp h with h | h
      · cases h
        simp at e
      · exact lookup_of_mem h
theorem closure_go {env : Env} {f : (Str × NameKind) → List (Str × Addr) → Sem (ForInStep (List (Str × Addr)))}
    (h1 : ∀ x k cs, k ≠ NameKind.free → f (x, k) cs = pure (.yield cs)) (h2 : ∀ x cs c, env.cells.lookup x = some c → f (x, NameKind.free) cs = pure (.yield ((x, c) :: cs))) :
    ∀ (names : List (Str × NameKind)) (acc : List (Str × Addr)), (∀ x, (x, NameKind.free) ∈ names → ∃ c, env.cells.lookup x = some c) →
      ∃ cl, forIn names acc f = pure cl ∧ (∀ p ∈ cl, p ∈ acc ∨ env.cells.lookup p.1 = some p.2) ∧ (∀ p ∈ acc, p ∈ cl) ∧ ∀ x, (x, NameKind.free) ∈ names → ∃ c, (x, c) ∈ cl
  | [], acc, _ => ⟨acc, rfl, fun _ h => .inl h, fun _ h => h, fun _ h => nomatch h⟩
  | (x, k) :: r, acc, h => by
    by_cases hk : k = NameKind.free
    · subst hk
      obtain ⟨c, hc⟩ := h x List.mem_cons_self
      obtain ⟨cl, e, a, b, d⟩ := closure_go h1 h2 r ((x, c) :: acc) fun y hy => h y (List.mem_cons_of_mem _ hy)
      refine ⟨cl, ?_, fun p hp => ?_, fun p hp => b p (List.mem_cons_of_mem _ hp), fun y hy => ?_⟩
      · rw [List.forIn_cons, h2 x acc c hc, pure_bind]; exact e
      · rcases a p hp with q | q
        · rcases List.mem_cons.mp q with q | q
          · subst q; exact .inr hc
          · exact .inl q
        · exact .inr q
      · rcases List.mem_cons.mp hy with q | q
        · cases q; exact ⟨c, b _ List.mem_cons_self⟩
        · exact d y q
    · obtain ⟨cl, e, a, b, d⟩ := closure_go h1 h2 r acc fun y hy => h y (List.mem_cons_of_mem _ hy)
      refine ⟨cl, ?_, a, b, fun y hy => ?_⟩
      · rw [List.forIn_cons, h1 x k acc hk, pure_bind]; exact e
      · rcases List.mem_cons.mp hy with q | q
        · cases q; exact absurd rfl hk
        · exact d y q
theorem closure_ok {scope : Scope} {env : Env} (h : ∀ x, (x, NameKind.free) ∈ scope.names → ∃ c, env.cells.lookup x = some c) :
    ∃ cl, closureFor scope env = pure cl ∧ (∀ x c, cl.lookup x = some c → env.cells.lookup x = some c) ∧ ∀ x, (x, NameKind.free) ∈ scope.names → ∃ c, cl.lookup x = some c := by
  have go := closure_go (env := env) (f := fun x cs => match x with | (name, kind) => if (kind == NameKind.free) = true then do let a ← cellOf env name; pure (.yield ((name, a) :: cs)) else pure (.yield cs))
    (fun x k cs hk => by
      have : (k == NameKind.free) = false := by simpa using hk
      simp only [this, Bool.false_eq_true, if_false])
    (fun x cs c hc => by
      simp only [beq_self_eq_true, if_true]
      unfold cellOf
      rw [hc, pure_bind])
    scope.names [] h
  obtain ⟨cl, e, a, _, d⟩ := go
  refine ⟨cl, ?_, fun x c hx => ?_, fun x hx => ?_⟩
  · unfold closureFor
    simp only [bind_pure]
    exact e
  · rcases a _ (lookup_mem hx) with q | q
    · exact nomatch q
    · exact q
  · obtain ⟨c, hc⟩ := d x hx
    exact lookup_of_mem hc
theorem relabel_lookup {env : Env} {x : Str} {k : NameKind} : ∀ {names : List (Str × NameKind)},
    (names.map fun (n, k) => if (k == NameKind.free && env.scope.kind == .function && env.kindOf n == some .cell) then (n, NameKind.cell) else (n, k)).lookup x = some k →
      names.lookup x = some k ∨ (k = .cell ∧ names.lookup x = some .free)
  | [], h => by simp at h
  | (n, j) :: r, h => by
    have ih := @relabel_lookup env x k r
    rw [List.lookup_cons]
    change List.lookup x ((if (j == NameKind.free && env.scope.kind == .function && env.kindOf n == some .cell) = true then (n, NameKind.cell) else (n, j)) :: _) = _ at h
    by_cases hc : (j == NameKind.free && env.scope.kind == .function && env.kindOf n == some .cell) = true
    · rw [if_pos hc, List.lookup_cons] at h
      have hj : j = NameKind.free := by
        simp only [Bool.and_eq_true] at hc
        exact eq_of_beq hc.1.1
      cases hx : x == n with
      | true => rw [hx] at h; cases h; exact .inr ⟨rfl, by rw [hj]⟩
      | false => rw [hx] at h; exact ih h
    · rw [if_neg hc, List.lookup_cons] at h
      cases hx : x == n with
      | true => rw [hx] at h; exact .inl h
      | false => rw [hx] at h; exact ih h
def cxComp (X : Cx) (scope : Scope) (NL : List Str) (ix : List Nat) (cl : List (Str × Addr)) (C : Addr) (s₃ : Shared) (H₃ : Hp) (fp : List Addr) (pins : List (Addr × Obj)) : Cx where
  prog := X.prog
  w := X.w
  K := X.K
  mg := X.mg
  base := X.base
  A := X.A
  N := NL ++ ix.map fun j => X.N.getD j ""
  s₀ := s₃
  H₀ := H₃
  env := compEnvC scope cl C X.env
  outer := X.stack
  stack := X.stack
  ex := fp
  fn := fun _ => false
  calm := X.calm
  pn := X.pn ++ pins
  xe := fun _ _ => False
def comp0 (NL : List Str) (ix : List Nat) (σ : St) : St := NL.map (fun _ => none) ++ ix.map fun j => σ.getD j none
def PIfs (X : Cx) (ifs : List Expr) (t : TT) : Prop :=
  ∀ (pins : List (Addr × Obj)) (s : Shared) (σ : St) (H : Hp) (Q : Bool → Hp → Prop), Inv X pins σ H s → t σ H Q →
    wpAny (model X.prog X.w) X.A (forIn ifs true fun c r => if r = true then do let ok ← isTrue c X.env (eval c X.env); pure (ForInStep.yield ok) else pure (ForInStep.yield r)) (TP X pins σ Q) X.xe s
def tYes : TT := fun _ H Q => Q true H
theorem pifs_nil {X : Cx} : PIfs X [] tYes := fun _ _ _ H _ I h => wpAny_tests_nil ⟨H, I, h⟩
theorem pifs_one {X : Cx} {c : Expr} {t : TT} (h : PT X c t) : PIfs X [c] t := fun pins s σ H Q I q => wpAny_tests_one (h pins s σ H Q I q)
def tComp (NL : List Str) (ix : List Nat) (wi : TI) (g : TG) (tt : TT) (te : TE) : TE := fun σ H Q =>
  wi σ H fun J H1 => ∀ acc, H1 acc = none → ∃ W : Nat → Nat → List V → Hp → Prop, (∃ m, W 0 m [] (upd H1 acc (.lst []))) ∧
    ∀ i m ys H2, W i m ys H2 → H2 acc = some (.lst ys) ∧ ys.length < sizeLine ∧
      ((J.stop i H2 ∧ Q (.ref acc) H2) ∨ (J.go i H2 ∧ ∃ N : List V → Hp → Prop, (∀ ys' H', N ys' H' → ∃ m', m' < m ∧ W (i + 1) m' ys' H') ∧
        ∀ x H3, J.yld i H2 x H3 → g x (comp0 NL ix σ) H3 fun σ' H4 => σ'.drop NL.length = ix.map (fun j => σ.getD j none) ∧ tt σ' H4 fun b H5 =>
          if b = true then te σ' H5 fun v H6 => H6 acc = some (.lst ys) ∧ N (ys ++ [v]) (upd H6 acc (.lst (ys ++ [v]))) else N ys H5))
section
variable {X : Cx} {pins : List (Addr × Obj)} {σ : St} {H : Hp} {s : Shared}
structure CompScope (X : Cx) (scope : Scope) (NL : List Str) (ix : List Nat) : Prop where
  kind : scope.kind = .function
  cell : ∀ y ∈ scope.names, y.2 ≠ .cell
  names : ∀ y ∈ scope.names, y.2 = .local → scope.names.lookup y.1 = some .local
  free : ∀ y ∈ scope.names, y.2 = .free → X.env.kindOf y.1 = some .cell ∨ X.env.kindOf y.1 = some .free
  cap : ∀ j ∈ ix, ∃ x, X.N[j]? = some x ∧ scope.names.lookup x = some .free
theorem comp_inv {scope : Scope} {NL : List Str} {ix : List Nat} {cl : List (Str × Addr)} {fp : List Addr} {tn : Nat → Heap → Prop} {s₃ : Shared} {h₁ : Heap} {m : Str → Option Value} {tk : Nat}
    (S : CompScope X scope NL ix) (I : Inv X pins σ H s₃) (c1 : ∀ x c, cl.lookup x = some c → X.env.cells.lookup x = some c) (c2 : ∀ x, (x, NameKind.free) ∈ scope.names → ∃ c, cl.lookup x = some c)
    (hf : ∀ b ∈ fp, FpOk X pins H b) (ho : ∀ b ∈ fp, ∃ o, s₃.heap.get? b = some o) (hn : h₁.Ns s₃.heap.objs.size m) (old : ∀ b o, s₃.heap.get? b = some o → h₁.get? b = some o) :
    Inv (cxComp X scope NL ix cl s₃.heap.objs.size s₃ H fp pins) [] (comp0 NL ix σ) H { s₃ with heap := h₁, toks := tk } := by
  have e0 := I.env0
  have lt : ∀ b o, s₃.heap.get? b = some o → b ≠ s₃.heap.objs.size := fun b o e => Nat.ne_of_lt (Heap.lt_size e)
  have nst : ∀ b, b ≠ X.env.locals → b ∉ X.fs → b ∉ frs X.stack := fun b h1 h2 h3 => (List.mem_cons.mp (I.stkSub b h3)).elim h1 h2
  have ok : (cxComp X scope NL ix cl s₃.heap.objs.size s₃ H fp pins).Ok :=
    { mod := I.ok.mod
      kind := S.kind
      glob := I.ok.glob
      blt := I.ok.blt
      above := Nat.le_refl _
      inj := fun x y c h1 h2 => I.ok.inj x y c (c1 x c h1) (c1 y c h2)
      has := fun x hx => by
        have hfree : scope.names.lookup x = some .free := by
          rcases hx with hx | hx
          · rcases relabel_lookup hx with q | ⟨_, q⟩
            · exact absurd rfl (S.cell _ (lookup_mem q))
            · exact q
          · rcases relabel_lookup hx with q | ⟨z, _⟩
            · exact q
            · cases z
        exact c2 x (lookup_mem hfree)
      cab := fun _ _ z => nomatch z
      hd := I.ok.hd
      frames := I.ok.frames
      stk := .inl rfl
      exf := fun b hb => ⟨let ⟨o, e⟩ := ho b hb; lt b o e, fun x c hx => (hf b hb).2.2.2.2.1 x c (c1 x c hx)⟩
      bs := I.bs
      bsz := e0.bsz
      noex := fun b o e hb => by
        rcases (hf b hb).2.2.2.1 with z | z
        · exact I.ok.noex b o e z
        · exact absurd (Nat.lt_of_lt_of_le (Heap.lt_size e) (Nat.le_trans I.ok.bsz z)) (Nat.lt_irrefl _)
      exfs := fun b hb => nst b (hf b hb).2.1 (hf b hb).2.2.1
      funs := e0.funs
      frf := e0.frf }
  refine ⟨ok, rfl, I.bare, Un.kept old, ⟨m, hn, fun i x v e1 e2 e3 => ?_⟩, fun x c e => ?_, I.hok.fresh (Nat.le_refl _), fun x c e => I.freeC x c (c1 x c e), fun p hp => ?_, I.hok.kept old, ?_⟩
  · have hl : NL.length ≤ i := by
      rcases Nat.lt_or_ge i NL.length with z | z
      · exfalso
        unfold comp0 at e2
        rw [List.getElem?_append_left (by simpa using z), List.getElem?_map] at e2
        cases q : NL[i]? with
        | none => rw [q] at e2; cases e2
        | some y => rw [q] at e2; cases e2
      · exact z
    unfold comp0 at e2
    rw [List.getElem?_append_right (by simpa using hl), List.length_map, List.getElem?_map] at e2
    change (NL ++ ix.map fun j => X.N.getD j "")[i]? = some x at e1
    rw [List.getElem?_append_right hl, List.getElem?_map] at e1
    cases q : ix[i - NL.length]? with
    | none => rw [q] at e1; cases e1
    | some j =>
      rw [q] at e1 e2
      have e1' : X.N.getD j "" = x := Option.some.inj e1
      have e2' : σ.getD j none = some v := Option.some.inj e2
      obtain ⟨x', hx', hfr⟩ := S.cap j (List.mem_of_getElem? q)
      have exx : x' = x := by
        rw [← e1', List.getD_eq_getElem?_getD, hx']; rfl
      subst exx
      have hσ : σ[j]? = some (some v) := by
        rw [List.getD_eq_getElem?_getD] at e2'
        cases z : σ[j]? with
        | none => rw [z] at e2'; cases e2'
        | some o => rw [z] at e2'; exact congrArg some e2'
      have kd := S.free _ (lookup_mem hfr) rfl
      have vis : Vis X.env.scope x' := by
        rcases kd with z | z
        · exact .inr (.inl z)
        · exact .inr (.inr z)
      obtain ⟨m', hn', hl'⟩ := I.loc
      obtain ⟨u, r, l⟩ := hl' j x' v hx' hσ vis
      refine ⟨u, r, .inr ?_⟩
      have hk' : (compEnvC scope cl s₃.heap.objs.size X.env).kindOf x' = some .cell ∨ (compEnvC scope cl s₃.heap.objs.size X.env).kindOf x' = some .free := by
        rcases e3 with z | z | z
        · rcases relabel_lookup z with w | ⟨w, _⟩
          · rw [hfr] at w; cases w
          · cases w
        · exact .inl z
        · exact .inr z
      refine ⟨hk', ?_⟩
      obtain ⟨c, hc⟩ := c2 x' (lookup_mem hfr)
      rcases l with ⟨k, _⟩ | ⟨k, c', ec, o, ho', hd⟩
      · rcases kd with z | z
        · rw [k] at z; cases z
        · rw [k] at z; cases z
      · have : c' = c := by
          have := c1 x' c hc
          rw [ec] at this
          exact Option.some.inj this
        subst this
        exact ⟨c', hc, o, old _ _ ho', hd⟩
  · obtain ⟨v, o, ho', hd⟩ := I.cell x c (c1 x c e)
    exact ⟨v, o, old _ _ ho', hd⟩
  · have hp' : p ∈ X.pn ++ pins := by
      rcases List.mem_append.mp hp with z | z
      · exact z
      · exact nomatch z
    obtain ⟨e, n, ne, nf, d⟩ := I.pin p hp'
    exact ⟨old _ _ e, n, lt _ _ e, nst _ ne nf, d⟩
  · show (NL.map (fun _ => (none : Option V)) ++ ix.map fun j => σ.getD j none).length = (NL ++ ix.map fun j => X.N.getD j "").length
    simp
theorem comp_run {scope : Scope} {NL : List Str} {ix : List Nat} {elt tg iter : Expr} {ifs : List Expr} {pos : Pos} {g : TG} {tt : TT} {te : TE} {cl : List (Str × Addr)} {fp : List Addr} {it : Addr} {tn : Nat → Heap → Prop} {J : It} {Q : VK}
    {E : Value → Shared → Prop} {RR : Value → Addr → Result → Shared → Prop}
    (hc : X.calm = true) (S : CompScope X scope NL ix) (c1 : ∀ x c, cl.lookup x = some c → X.env.cells.lookup x = some c) (c2 : ∀ x, (x, NameKind.free) ∈ scope.names → ∃ c, cl.lookup x = some c)
    (hb : ∀ (cl : List (Str × Addr)) (C : Addr) (s₃ : Shared) (H₃ : Hp) (fp : List Addr) (pins : List (Addr × Obj)), PG (cxComp X scope NL ix cl C s₃ H₃ fp pins) tg g ∧ PIfs (cxComp X scope NL ix cl C s₃ H₃ fp pins) ifs tt ∧ PE (cxComp X scope NL ix cl C s₃ H₃ fp pins) elt te)
    (I : Inv X pins σ H s) (T : Turn X.prog X.w X.K tg J fp it tn) (st : tn 0 s.heap) (hf : ∀ b ∈ fp, FpOk X pins H b)
    (q : ∀ acc, H acc = none → ∃ W : Nat → Nat → List V → Hp → Prop, (∃ m, W 0 m [] (upd H acc (.lst []))) ∧
      ∀ i m ys H2, W i m ys H2 → H2 acc = some (.lst ys) ∧ ys.length < sizeLine ∧
      ((J.stop i H2 ∧ Q (.ref acc) H2) ∨ (J.go i H2 ∧ ∃ N : List V → Hp → Prop, (∀ ys' H', N ys' H' → ∃ m', m' < m ∧ W (i + 1) m' ys' H') ∧
        ∀ x H3, J.yld i H2 x H3 → g x (comp0 NL ix σ) H3 fun σ' H4 => σ'.drop NL.length = ix.map (fun j => σ.getD j none) ∧ tt σ' H4 fun b H5 =>
          if b = true then te σ' H5 fun v H6 => H6 acc = some (.lst ys) ∧ N (ys ++ [v]) (upd H6 acc (.lst (ys ++ [v]))) else N ys H5)))
    (hRR : ∀ (acc C : Addr) (H' : Hp) (s' : Shared) (m' : Str → Option Value), Inv X pins σ H' s' → s'.heap.Ns C m' → FpOk X pins H' C → Q (.ref acc) H' → RR (.ref acc) C (.ok .next) s') :
    wpAny (model X.prog X.w) X.A (newList []) (fun acc s₃ => wpAny (model X.prog X.w) X.A (newFunctionEnv scope X.env.globals cl [] X.env.qual none .none (some X.env)) (fun cenv s₄ =>
      codeAny (model X.prog X.w) X.A (.compStart (.ListComp elt [⟨tg, iter, ifs, 0⟩] scope pos) 0 (.ref it) acc { cenv with scope := relabel scope X.env }) (RR acc cenv.locals) s₄) E s₃) E s := by
  refine wpAny_newObj_type (wpAny_newFunctionEnv S.cell (by intro y hy; simp at hy) (fun h₁ hns₁ hsb₁ => ?_) S.kind)
  have I3 : Inv X pins σ (upd H s.heap.objs.size (.lst [])) { s with heap := s.heap.push { cls := .type "list", data := .seq ([] : List Value).toArray }, toks := s.toks } := I.lnew (its := []) .nil (Nat.zero_le _)
  have hfr : H s.heap.objs.size = none := I.hok.fresh (Nat.le_refl _)
  generalize hs3 : ({ s with heap := s.heap.push { cls := .type "list", data := .seq ([] : List Value).toArray }, toks := s.toks } : Shared) = s₃ at I3
  have hsz : s₃.heap.objs.size = s.heap.objs.size + 1 := by rw [← hs3]; exact Heap.size_push ..
  have old1 : ∀ b o, s.heap.get? b = some o → s₃.heap.get? b = some o := fun b o e => by rw [← hs3]; exact Heap.get?_push_of_some _ e
  have key : codeAny (model X.prog X.w) X.A (.compStart (.ListComp elt [⟨tg, iter, ifs, 0⟩] scope pos) 0 (.ref it) (.ref s.heap.objs.size) (compEnvC scope cl s₃.heap.objs.size X.env))
      (RR (.ref s.heap.objs.size) s₃.heap.objs.size) { s₃ with heap := h₁, toks := s₃.toks + 0 } := by
    have hns : h₁.Ns s₃.heap.objs.size (fun _ => none) := by
      have := hns₁
      rw [← hs3]
      exact this
    have hsb : Heap.SameBut s₃.heap.objs.size (s₃.heap.push { cls := .type "dict", data := .dict #[] }) h₁ := by
      have := hsb₁
      rw [← hs3]
      exact this
    have old : ∀ b o, s₃.heap.get? b = some o → h₁.get? b = some o := fun b o e => hsb.extBut b o (Nat.ne_of_lt (Heap.lt_size e)) (Heap.get?_push_of_some _ e)
    have hf3 : ∀ b ∈ fp, FpOk X pins (upd H s.heap.objs.size (.lst [])) b := fun b hb' => by
      obtain ⟨o, e, _⟩ := T.obj 0 _ st b hb'
      have ne : b ≠ s.heap.objs.size := Nat.ne_of_lt (Heap.lt_size e)
      exact ⟨by rw [upd_ne ne]; exact (hf b hb').1, (hf b hb').2⟩
    have ho3 : ∀ b ∈ fp, ∃ o, s₃.heap.get? b = some o := fun b hb' => by
      obtain ⟨o, e, _⟩ := T.obj 0 _ st b hb'
      exact ⟨o, old1 b o e⟩
    have st1 : tn 0 h₁ := T.keep 0 _ _ st fun b hb' o e => old b o (old1 b o e)
    have I4 := comp_inv (tn := tn) (tk := s₃.toks + 0) S I3 c1 c2 hf3 ho3 hns old
    obtain ⟨W, ⟨m0, w0⟩, turn⟩ := q s.heap.objs.size hfr
    obtain ⟨hg, ht, he⟩ := hb cl s₃.heap.objs.size s₃ (upd H s.heap.objs.size (.lst [])) fp pins
    generalize hX' : cxComp X scope NL ix cl s₃.heap.objs.size s₃ (upd H s.heap.objs.size (.lst [])) fp pins = X' at I4 hg ht he
    have p1 : X'.prog = X.prog := by rw [← hX']; rfl
    have p2 : X'.w = X.w := by rw [← hX']; rfl
    have p3 : X'.K = X.K := by rw [← hX']; rfl
    have p4 : X'.A = X.A := by rw [← hX']; rfl
    have p5 : X'.env = compEnvC scope cl s₃.heap.objs.size X.env := by rw [← hX']; rfl
    have p6 : X'.calm = true := by rw [← hX']; exact hc
    have p7 : X'.xe = fun _ _ => False := by rw [← hX']; rfl
    have stat : ∀ {H' : Hp}, (∀ b ∈ fp, H' b = none) → ∀ b ∈ fp, FpOk X' [] H' b := fun {H'} hn b hb' => by
      have z := hf3 b hb'
      obtain ⟨o, eo⟩ := ho3 b hb'
      rw [← hX']
      refine ⟨hn b hb', Nat.ne_of_lt (Heap.lt_size eo), fun q => (List.mem_cons.mp (I3.stkSub b q)).elim z.2.1 z.2.2.1, .inl hb', fun x c hx => z.2.2.2.2.1 x c (c1 x c hx), fun p hp => ?_⟩
      rcases List.mem_append.mp hp with w | w
      · exact z.2.2.2.2.2 p w
      · exact nomatch w
    have fin : ∀ i n ys H' s', Inv X' [] (comp0 NL ix σ) H' s' → W i n ys H' → Q (.ref s.heap.objs.size) H' → RR (.ref s.heap.objs.size) s₃.heap.objs.size (.ok .next) s' := fun i n ys H' s' I' w' q' => by
      obtain ⟨m', hn', _⟩ := I'.loc
      have hos : s'.os = s₃.os := by have := I'.os; rw [← hX'] at this; exact this
      have hu : Un (frs X.stack) fp (upd H s.heap.objs.size (.lst [])) H' s₃.heap s'.heap := by have := I'.base; rw [← hX'] at this; exact this
      have hk : HOk X.prog X.w H' s'.heap := by have := I'.hok; rw [← hX'] at this; exact this
      have hfC : H' s₃.heap.objs.size = none := by have := I'.free; rw [← hX'] at this; exact this
      have hnC : s'.heap.Ns s₃.heap.objs.size m' := by rw [p5] at hn'; exact hn'
      exact hRR _ _ H' s' m' (I3.call' hos hu hk I'.bare fun b hb' => ⟨(hf3 b hb').2.2.2.1, (hf3 b hb').2.1, (hf3 b hb').2.2.2.2.1, (hf3 b hb').2.2.2.2.2⟩) hnC (I3.fpOk (Nat.le_refl _) hfC) q'
    have loop : ∀ s₄ : Shared, Inv X' [] (comp0 NL ix σ) (upd H s.heap.objs.size (.lst [])) s₄ → tn 0 s₄.heap → codeAny (model X.prog X.w) X.A (.compLoop (.ListComp elt [⟨tg, iter, ifs, 0⟩] scope pos) 0 (.ref it) (.ref s.heap.objs.size) (compEnvC scope cl s₃.heap.objs.size X.env))
        (RR (.ref s.heap.objs.size) s₃.heap.objs.size) s₄ := fun s₄ I4 st1 => by
      refine codeAny_loop rfl (fun n s' => ∃ i ys H', Inv X' [] (comp0 NL ix σ) H' s' ∧ tn i s'.heap ∧ (∀ b ∈ fp, H' b = none) ∧ W i n ys H') (fun n s' hI => ?_) m0 ⟨0, [], _, I4, st1, fun b hb' => (hf3 b hb').1, w0⟩
      obtain ⟨i, ys, H', I', st', fr', w'⟩ := hI
      show wpAny _ X.A ((compTurn (.ListComp elt [⟨tg, iter, ifs, 0⟩] scope pos) 0 (.ref it) (.ref s.heap.objs.size) (compEnvC scope cl s₃.heap.objs.size X.env)).onRaise (fun x => do noteFrame x (compEnvC scope cl s₃.heap.objs.size X.env); theTreesLotGoes x)) _ _ s'
      refine wpAny_noted ?_
      rw [compTurn_list]
      obtain ⟨hacc, hz8, alt⟩ := turn i n ys H' w'
      rcases alt with ⟨stop, qn⟩ | ⟨go, N, hN, step⟩
      · have d := T.done X' p1 p2 p3 p6 i [] s' (comp0 NL ix σ) H' (notedBy (model X.prog X.w) X.A (compEnvC scope cl s₃.heap.objs.size X.env) fun e s' => RR (.ref s.heap.objs.size) s₃.heap.objs.size (.error e) s') I' (stat fr') st' stop
        rw [p4] at d
        refine wpAny_bind (wpAny_standAt (wpAny_bind (thn d fun r s1 ⟨hr, I1⟩ => ?_)))
        subst hr
        exact wpAny_pure (fin i n ys H' s1 I1 w' qn)
      · have d := T.item X' p1 p2 p3 p6 i [] s' (comp0 NL ix σ) H' (notedBy (model X.prog X.w) X.A (compEnvC scope cl s₃.heap.objs.size X.env) fun e s' => RR (.ref s.heap.objs.size) s₃.heap.objs.size (.error e) s') I' (stat fr') st' go
        rw [p4] at d
        refine wpAny_bind (wpAny_standAt (wpAny_bind (thn d fun r s1 ⟨u, hr, h4⟩ => ?_)))
        subst hr
        refine wpAny_bind (thn h4 fun _ s5 ⟨x, H5, I5, r5, y5, st5, fr5⟩ => ?_)
        have I5' := I5.pinned (stat fr5) (T.obj _ _ st5)
        have nofail : ∀ {α : Type} {t : Sem α} {R : α → Shared → Prop} {sx : Shared}, wpAny (model X'.prog X'.w) X'.A t R X'.xe sx → wpAny (model X.prog X.w) X.A t R (notedBy (model X.prog X.w) X.A (compEnvC scope cl s₃.heap.objs.size X.env) fun e s' => RR (.ref s.heap.objs.size) s₃.heap.objs.size (.error e) s') sx := fun {α t R sx} hh => by
          rw [p1, p2, p4, p7] at hh
          exact wpAny_mono hh (fun _ _ z => z) fun _ _ z => z.elim
        have again : ∀ {σ7 : St} {H7 : Hp} {s7 : Shared} {ys' : List V}, σ7.drop NL.length = ix.map (fun j => σ.getD j none) → Inv X' ([] ++ pinsAt fp s5.heap) σ7 H7 s7 → (∃ m', m' < n ∧ W (i + 1) m' ys' H7) → ∃ m, m < n ∧ ∃ i ys H', Inv X' [] (comp0 NL ix σ) H' s7 ∧ tn i s7.heap ∧ (∀ b ∈ fp, H' b = none) ∧ W i m ys H' := fun {σ7 H7 s7 ys'} hσ I7 n7 => by
          obtain ⟨m', hm, w7⟩ := n7
          have Iw : Inv X' ([] ++ pinsAt fp s5.heap) (comp0 NL ix σ) H7 s7 := I7.weak (by rw [I7.len, I'.len]) fun j v hj => by
            have hlj : NL.length ≤ j := by
              rcases Nat.lt_or_ge j NL.length with z | z
              · exfalso
                unfold comp0 at hj
                rw [List.getElem?_append_left (by simpa using z), List.getElem?_map] at hj
                cases q : NL[j]? with
                | none => rw [q] at hj; cases hj
                | some y => rw [q] at hj; cases hj
              · exact z
            unfold comp0 at hj
            rw [List.getElem?_append_right (by simpa using hlj), List.length_map, ← hσ, List.getElem?_drop] at hj
            rw [← hj]
            congr 1
            omega
          refine ⟨m', hm, i + 1, ys', H7, Iw.unpinned, T.keep _ _ _ st5 fun b hb' o e => (I7.pin (b, o) (List.mem_append_right _ (List.mem_append_right _ (mem_pinsAt hb' e)))).1, fun b hb' => ?_, w7⟩
          obtain ⟨o, e, d⟩ := T.obj _ _ st5 b hb'
          exact (I7.pin (b, o) (List.mem_append_right _ (List.mem_append_right _ (mem_pinsAt hb' e)))).2.1
        have hg' := nofail (hg _ s5 (comp0 NL ix σ) H5 x u _ I5' r5 (step x H5 y5))
        rw [p5] at hg'
        refine wpAny_bind (thn hg' fun _ s6 ⟨σ6, H6, I6, hσ6, q6⟩ => ?_)
        have ht' := nofail (ht _ s6 σ6 H6 _ I6 q6)
        rw [p5] at ht'
        refine wpAny_bind (thn ht' fun ok s7 ⟨H7, I7, q7⟩ => ?_)
        cases ok with
        | false =>
          have q7' : N ys H7 := by simpa using q7
          exact wpAny_pure ⟨rfl, again hσ6 I7 (hN _ _ q7')⟩
        | true =>
          have q7' := (if_pos rfl).mp q7
          have he' := nofail (he _ s7 σ6 H7 _ I7 q7')
          rw [p5] at he'
          refine wpAny_bind (wpAny_bind (thn he' fun v s8 ⟨y, H8, I8, r8, ha8, q8⟩ => ?_))
          have ap := nofail (mt_append _ s8 σ6 H8 (.ref s.heap.objs.size) [y] (.ref s.heap.objs.size) [v] (fun _ H9 => H9 = upd H8 s.heap.objs.size (.lst (ys ++ [y]))) I8 rfl (.cons r8 .nil) ⟨_, ys, y, rfl, rfl, ha8, hz8, rfl⟩)
          refine wpAny_bind (thn ap fun _ s9 ⟨z, H9, I9, r9, e9⟩ => wpAny_pure (wpAny_pure ⟨rfl, ?_⟩))
          subst e9
          exact again hσ6 I9 (hN _ _ q8)
    exact codeAny_compStart_list (loop _ I4 st1) (T.self X.A 0 _ _ _ st1 (loop _ I4 st1))
  exact key
theorem pe_comp {scope : Scope} {NL : List Str} {ix : List Nat} {elt tg iter : Expr} {ifs : List Expr} {pos : Pos} {wi : TI} {g : TG} {tt : TT} {te : TE}
    (hc : X.calm = true) (hi : PI X tg iter wi) (S : CompScope X scope NL ix)
    (hb : ∀ (cl : List (Str × Addr)) (C : Addr) (s₃ : Shared) (H₃ : Hp) (fp : List Addr) (pins : List (Addr × Obj)), PG (cxComp X scope NL ix cl C s₃ H₃ fp pins) tg g ∧ PIfs (cxComp X scope NL ix cl C s₃ H₃ fp pins) ifs tt ∧ PE (cxComp X scope NL ix cl C s₃ H₃ fp pins) elt te)
    (hs : ∀ x, foldedSetIterable iter X.env x = pure x := by intro _; rfl) : PE X (.ListComp elt [⟨tg, iter, ifs, 0⟩] scope pos) (tComp NL ix wi g tt te) := by
  intro pins s σ H Q I h
  obtain ⟨cl, hcl, c1, c2⟩ := closure_ok (scope := scope) (env := X.env) fun x hx => by
    rcases S.free _ hx rfl with z | z
    · exact I.ok.has x (.inl z)
    · exact I.ok.has x (.inr z)
  rw [eval_ListComp]
  refine wpAny_comprehension_free (use := none) rfl hs hcl S.kind S.names (thn (hi pins s σ H _ I h) fun xv s1 h1 => thn h1 fun itv s2 h2 => ?_)
  obtain ⟨it, fp, tn, J, H2, rfl, I2, T, st2, f2, q⟩ := h2
  refine comp_run (RR := fun acc C => compPost (model X.prog X.w) X.A X.xe none (EP X pins σ Q) acc C) hc S c1 c2 hb I2 T st2 f2 q ?_
  intro acc C H' s' m' I' hn fC q'
  refine ⟨m', hn, fun h' sb => ⟨.ref acc, H', ?_, rfl, q'⟩⟩
  exact I'.turned (t' := s'.toks) (fun b o hb e => sb.extBut b o hb e) fC.1 fC.2.1 fC.2.2.2.1 fC.2.2.2.2.1 fC.2.2.2.2.2
theorem ps_comp {i : Nat} {y : Str} {py spos : Pos} {scope : Scope} {NL : List Str} {ix : List Nat} {elt tg iter : Expr} {ifs : List Expr} {pos : Pos} {wi : TI} {g : TG} {tt : TT} {te : TE}
    (hN : X.N.Nodup) (hiy : X.N[i]? = some y) (hy : Loc X.env.scope y)
    (hc : X.calm = true) (hi : PI X tg iter wi) (S : CompScope X scope NL ix)
    (hb : ∀ (cl : List (Str × Addr)) (C : Addr) (s₃ : Shared) (H₃ : Hp) (fp : List Addr) (pins : List (Addr × Obj)), PG (cxComp X scope NL ix cl C s₃ H₃ fp pins) tg g ∧ PIfs (cxComp X scope NL ix cl C s₃ H₃ fp pins) ifs tt ∧ PE (cxComp X scope NL ix cl C s₃ H₃ fp pins) elt te)
    (hsw : swapsWith (.ListComp elt [⟨tg, iter, ifs, 0⟩] scope pos) (some (.Name y py)) spos.line X.env = pure true := by rfl)
    (hs : ∀ x, foldedSetIterable iter X.env x = pure x := by intro _; rfl)
    (hf : X.fn y = true ∨ X.env.scope.names.lookup y = some .local := by first | exact .inl rfl | exact .inr rfl | assumption) :
    PS X (.Assign [.Name y py] (.ListComp elt [⟨tg, iter, ifs, 0⟩] scope pos) spos) (tAsg (tComp NL ix wi g tt te) (gName i)) := by
  intro pins s σ H D I h
  obtain ⟨cl, hcl, c1, c2⟩ := closure_ok (scope := scope) (env := X.env) fun x hx => by
    rcases S.free _ hx rfl with z | z
    · exact I.ok.has x (.inl z)
    · exact I.ok.has x (.inr z)
  rw [exec_Assign_Name_used _ _ _ _ hsw]
  refine wpAny_bind (wpAny_standAt (wpAny_bind ?_))
  show wpAny _ X.A (do let _ ← comprehension (.ListComp elt [⟨tg, iter, ifs, 0⟩] scope pos) scope X.env _ (newList []) false (eval iter X.env) (some (assign (.Name y py) X.env))) _ _ s
  refine wpAny_bind (thn (wpAny_comprehension_free (use := some (assign (.Name y py) X.env)) (Q := fun _ s' => SP X pins D .next s') rfl hs hcl S.kind S.names
    (thn (hi pins s σ H _ I h) fun xv s1 h1 => thn h1 fun itv s2 h2 => ?_)) fun _ s' hq => wpAny_pure (wpAny_pure hq))
  obtain ⟨it, fp, tn, J, H2, rfl, I2, T, st2, f2, q⟩ := h2
  refine comp_run (RR := fun acc C => compPost (model X.prog X.w) X.A X.xe (some (assign (.Name y py) X.env)) (fun _ s' => SP X pins D .next s') acc C) (Q := fun x H1 => gName i x σ H1 D.nx) hc S c1 c2 hb I2 T st2 f2 q ?_
  intro acc C H' s' m' I' hn fC q'
  show wpAny _ X.A (assign (.Name y py) X.env (.ref acc)) _ _ _
  refine wpAny_assign_Name (store_ok2 I' hN hiy hy (v := .ref acc) rfl (fun s'' I'' hsb => ?_) hf)
  obtain ⟨a, sb, ha⟩ := hsb
  have hne : C ≠ a := by
    rcases ha with z | z
    · rw [z]; exact fC.2.1
    · exact fun w => fC.2.2.2.2.1 y a z w.symm
  refine ⟨m', hn.sameBut sb hne, fun h' sb' => ⟨_, H', ?_, q'⟩⟩
  exact I''.turned (t' := s''.toks) (fun b o hb e => sb'.extBut b o hb e) fC.1 fC.2.1 fC.2.2.2.1 fC.2.2.2.2.1 fC.2.2.2.2.2
theorem comp_by {J : It} {NL : List Str} {ix : List Nat} {g : TG} {tt : TT} {te : TE} {σ : St} {H1 : Hp} {Qs : Hp → Prop} {acc : Addr} (n : Nat) (hn : n < 1000) (Pv : Nat → List V → Hp → Prop)
    (hacc : ∀ i ys H2, Pv i ys H2 → H2 acc = some (.lst ys) ∧ ys.length ≤ i) (h0 : Pv 0 [] (upd H1 acc (.lst []))) (hstop : ∀ ys H2, Pv n ys H2 → J.stop n H2 ∧ Qs H2)
    (hturn : ∀ i ys H2, i < n → Pv i ys H2 → J.go i H2 ∧ ∀ x H3, J.yld i H2 x H3 → g x (comp0 NL ix σ) H3 fun σ' H4 => σ'.drop NL.length = ix.map (fun j => σ.getD j none) ∧ tt σ' H4 fun b H5 =>
      if b = true then te σ' H5 fun v H6 => H6 acc = some (.lst ys) ∧ Pv (i + 1) (ys ++ [v]) (upd H6 acc (.lst (ys ++ [v]))) else Pv (i + 1) ys H5) :
    ∃ W : Nat → Nat → List V → Hp → Prop, (∃ m, W 0 m [] (upd H1 acc (.lst []))) ∧
    ∀ i m ys H2, W i m ys H2 → H2 acc = some (.lst ys) ∧ ys.length < sizeLine ∧
      ((J.stop i H2 ∧ Qs H2) ∨ (J.go i H2 ∧ ∃ N : List V → Hp → Prop, (∀ ys' H', N ys' H' → ∃ m', m' < m ∧ W (i + 1) m' ys' H') ∧
        ∀ x H3, J.yld i H2 x H3 → g x (comp0 NL ix σ) H3 fun σ' H4 => σ'.drop NL.length = ix.map (fun j => σ.getD j none) ∧ tt σ' H4 fun b H5 =>
          if b = true then te σ' H5 fun v H6 => H6 acc = some (.lst ys) ∧ N (ys ++ [v]) (upd H6 acc (.lst (ys ++ [v]))) else N ys H5)) := by
  refine ⟨fun i m ys H2 => i ≤ n ∧ m = n - i ∧ Pv i ys H2, ⟨n, Nat.zero_le _, rfl, h0⟩, fun i m ys H2 ⟨hi, hm, hp⟩ => ?_⟩
  obtain ⟨a1, a2⟩ := hacc i ys H2 hp
  refine ⟨a1, small1000 (by omega), ?_⟩
  rcases Nat.lt_or_ge i n with lt | ge
  · obtain ⟨go, tn⟩ := hturn i ys H2 lt hp
    exact .inr ⟨go, Pv (i + 1), fun ys' H' hN => ⟨n - (i + 1), by omega, by omega, rfl, hN⟩, tn⟩
  · have e : i = n := by omega
    subst e
    exact .inl (hstop ys H2 hp)
end
end L2
namespace L2
open PySem PySem.Spec PyProof.Rows
section
variable {prog : Program} {w : World} {A : Around} {E : Value → Shared → Prop} {s : Shared}
theorem nextOf_tuple_item {it t : Addr} {i : Nat} {items : Array Value} {x : Value} {Q : Value → Shared → Prop} (hit : s.heap.IsTupleIter it t i)
    (ht : s.heap.IsTuple t items) (hx : items[i]? = some x)
    (hQ : ∀ h', h'.IsTupleIter it t (i + 1) → Heap.SameBut it s.heap h' → Q x { s with heap := h' }) :
    wpAny (model prog w) A (Builtin.SmallTypes.nextOf (.ref it)) Q E s := by
  obtain ⟨o, ho, hc, hd⟩ := id hit
  obtain ⟨ol, hol, _, nl, hdl⟩ := ht
  unfold Builtin.SmallTypes.nextOf
  refine wpAny_bind (wpAny_callSpecial?_slot (name := Str.ofString "__next__") hit.typeIs F.slot_tuple_iterator_next
    (wpAny_call_entry F.slot_tuple_iterator_next hit.typeIs F.entry_tuple_iterator_next ?_ (F.args_tuple_iterator_next_1 _)))
  show wpAny _ _ (field (.ref it) 0 >>= _) _ _ s
  refine wpAny_bind (wpAny_field ho hd (x := .ref t) rfl ?_)
  show wpAny _ _ (if (Value.ref t == Value.none) = true then _ else _) _ _ s
  rw [if_neg (show ¬ ((Value.ref t == Value.none) = true) from Bool.false_ne_true)]
  show wpAny _ _ (field (.ref it) 1 >>= _) _ _ s
  refine wpAny_bind (wpAny_field ho hd (x := .int i 0) rfl ?_)
  show wpAny _ _ (seqItems? (.ref t) >>= _) _ _ s
  refine wpAny_bind (wpAny_seqItems hol hdl ?_)
  simp only [Int.toNat_natCast, hx]
  refine wpAny_bind (wpAny_setField ho hd (by simp) (wpAny_pure ⟨x, rfl, wpAny_pure (hQ _ ?_ (Heap.SameBut.update ..))⟩))
  exact ⟨_, Heap.get?_update_self _ ho (Obj.isFreed_of_fields (Obj.data_mapFields hd _)), (Obj.cls_mapFields ..).trans hc, by
    rw [Obj.data_mapFields hd]; simp [rawInt]⟩
theorem nextOf_tuple_end {it t : Addr} {i : Nat} {items : Array Value} {Q : Value → Shared → Prop} (hh : A.handled = none)
    (hit : s.heap.IsTupleIter it t i) (ht : s.heap.IsTuple t items) (hx : items[i]? = none)
    (hE : ∀ h' e, Heap.ExtBut it s.heap h' → (∃ o, h'.get? e = some o ∧ o.cls = .type "StopIteration") → E (.ref e) { s with heap := h' }) :
    wpAny (model prog w) A (Builtin.SmallTypes.nextOf (.ref it)) Q E s := by
  obtain ⟨o, ho, hc, hd⟩ := id hit
  obtain ⟨ol, hol, _, nl, hdl⟩ := ht
  unfold Builtin.SmallTypes.nextOf
  refine wpAny_bind (wpAny_callSpecial?_slot (name := Str.ofString "__next__") hit.typeIs F.slot_tuple_iterator_next
    (wpAny_call_entry F.slot_tuple_iterator_next hit.typeIs F.entry_tuple_iterator_next ?_ (F.args_tuple_iterator_next_1 _)))
  show wpAny _ _ (field (.ref it) 0 >>= _) _ _ s
  refine wpAny_bind (wpAny_field ho hd (x := .ref t) rfl ?_)
  show wpAny _ _ (if (Value.ref t == Value.none) = true then _ else _) _ _ s
  rw [if_neg (show ¬ ((Value.ref t == Value.none) = true) from Bool.false_ne_true)]
  show wpAny _ _ (field (.ref it) 1 >>= _) _ _ s
  refine wpAny_bind (wpAny_field ho hd (x := .int i 0) rfl ?_)
  show wpAny _ _ (seqItems? (.ref t) >>= _) _ _ s
  refine wpAny_bind (wpAny_seqItems hol hdl ?_)
  simp only [Int.toNat_natCast, hx]
  refine wpAny_bind (wpAny_rule (wpAny_bind (wpAny_setField ho hd (by simp) ?_)))
  show wpAny _ _ (newExc (.type "StopIteration") [] >>= _) _ _ _
  refine wpAny_bind ?_
  simp only [newExc, newTuple]
  refine wpAny_bind (wpAny_newObj_type ?_ (by size_fits))
  refine wpAny_bind (m := firstArgMember _ _) (wpAny_of_eq (a := Value.none) (by first | rfl | (simp only [firstArgMember]; rfl)) ?_)
  refine wpAny_newObj_type ?_ (by size_fits)
  simp only [raiseNew]
  refine wpAny_bind (wpAny_handled ?_)
  first | rw [show A.in1.handled = none from hh] | rw [hh]
  refine wpAny_bind (wpAny_pure (wpAny_throw ?_))
  exact hE _ _ (((Heap.SameBut.update ..).extBut.push _).push _) ⟨_, Heap.get?_push_size _ rfl, rfl⟩
end
theorem draws_tuple {prog : Program} {w : World} {A : Around} (hh : A.handled = none) (it l : Addr) (hne : l ≠ it) (items : Array Value) :
    Draws prog w A it [it, l] items.size (fun i v => items[i]? = some v) (fun i h => h.IsTupleIter it l i ∧ h.IsTuple l items) where
  live := fun _ _ st => let ⟨o, ho, _⟩ := st.1; ⟨o, ho⟩
  frame := fun _ _ _ st hk => ⟨st.1.at fun o e => hk it (by simp) o e, let ⟨o, ho, r⟩ := st.2; ⟨o, hk l (by simp) o ho, r⟩⟩
  item := fun i s Q E hi st hQ => by
    refine nextOf_tuple_item st.1 st.2 (x := items[i]) (by simp [hi]) fun h' hit' hs' => ?_
    exact hQ _ h' s.toks (by simp [hi]) ⟨hit', st.2.extBut hs'.extBut hne⟩ hs'
  done := fun s Q E st hE => nextOf_tuple_end hh st.1 st.2 (by simp) hE
theorem draws_str {prog : Program} {w : World} {A : Around} (hh : A.handled = none) (it : Addr) (x : Str) (t : Tok) :
    Draws prog w A it [it] x.cps.size (fun i v => ∃ c u, x.cps[i]? = some c ∧ v = .str ⟨#[c]⟩ u) (fun i h => h.IsStrIter it (strIterType x) x t i) := by
  unfold strIterType
  cases x.cps.all (· < 128) with
  | true => exact Draws.strAscii hh it x t
  | false => exact Draws.strWide hh it x t
inductive SK where
  | lst (a : Addr) | tup (a : Addr) | str (x : Str)
def SK.val : SK → V
  | .lst a => .ref a
  | .tup a => .ref a
  | .str x => .str x
def signs (x : Str) : List V := x.cps.toList.map fun c => .str ⟨#[c]⟩
def SK.has (H : Hp) : SK → List V → Prop
  | .lst a, xs => Rd H a (.lst xs)
  | .tup a, xs => Rd H a (.tup xs)
  | .str x, xs => xs = signs x
def SK.own (it : Addr) (k : Nat) (h : Heap) : SK → Prop
  | .lst a => h.IsListIter it a k
  | .tup a => h.IsTupleIter it a k
  | .str x => ∃ t, h.IsStrIter it (strIterType x) x t k
theorem SK.own_at {it : Addr} {k : Nat} {h h' : Heap} {κ : SK} (x : κ.own it k h) (e : ∀ o, h.get? it = some o → h'.get? it = some o) : κ.own it k h' := by
  cases κ with
  | lst a => exact Heap.IsListIter.at x e
  | tup a => exact Heap.IsTupleIter.at x e
  | str y => obtain ⟨t, o, ho, r⟩ := x; exact ⟨t, o, e o ho, r⟩
theorem SK.own_obj {it : Addr} {k : Nat} {h : Heap} {κ : SK} (x : κ.own it k h) : ∃ o, h.get? it = some o ∧ (∀ v, o.data ≠ .cell v) ∧ o.cls ≠ .type "tuple" ∧ o.cls ≠ .type "zip" ∧ o.cls ≠ .type "enumerate" := by
  cases κ with
  | lst a => obtain ⟨o, ho, c, d⟩ := x; exact ⟨o, ho, (fun v z => by rw [d] at z; cases z), (fun z => by rw [c] at z; simp at z), (fun z => by rw [c] at z; simp at z), (fun z => by rw [c] at z; simp at z)⟩
  | tup a => obtain ⟨o, ho, c, d⟩ := x; exact ⟨o, ho, (fun v z => by rw [d] at z; cases z), (fun z => by rw [c] at z; simp at z), (fun z => by rw [c] at z; simp at z), (fun z => by rw [c] at z; simp at z)⟩
  | str y =>
    obtain ⟨t, o, ho, c, d⟩ := x
    refine ⟨o, ho, (fun v z => by rw [d] at z; cases z), ?_, ?_, ?_⟩ <;>
    · intro z
      rw [c] at z
      unfold strIterType at z
      split at z <;> simp at z
theorem Rd.inj {H : Hp} {a : Addr} {u v : HO} (hu : ∀ o w, u ≠ .frz o w) (hv : ∀ o w, v ≠ .frz o w) (x : Rd H a u) (y : Rd H a v) : u = v := by
  rcases x with x | ⟨o, x⟩ <;> rcases y with y | ⟨p, y⟩ <;> rw [x] at y
  · exact Option.some.inj y
  · exact absurd (Option.some.inj y) (hu p v)
  · exact absurd (Option.some.inj y).symm (hv o u)
  · have := Option.some.inj y
    injection this
theorem SK.inj {H : Hp} {κ : SK} {xs ys : List V} (x : κ.has H xs) (y : κ.has H ys) : xs = ys := by
  cases κ with
  | lst a => have := Rd.inj (u := .lst xs) (v := .lst ys) (fun _ _ z => nomatch z) (fun _ _ z => nomatch z) x y; injection this
  | tup a => have := Rd.inj (u := .tup xs) (v := .tup ys) (fun _ _ z => nomatch z) (fun _ _ z => nomatch z) x y; injection this
  | str z => exact Eq.trans x (Eq.symm y)
def SK.box : SK → List Addr
  | .lst a => [a]
  | .tup a => [a]
  | .str _ => []
theorem SK.box_some {H : Hp} {κ : SK} {xs : List V} (x : κ.has H xs) {b : Addr} (hb : b ∈ κ.box) : H b ≠ none := by
  cases κ with
  | lst a => have e : b = a := by simpa [SK.box] using hb
             subst e; intro z; rcases x with q | ⟨o, q⟩ <;> (rw [z] at q; cases q)
  | tup a => have e : b = a := by simpa [SK.box] using hb
             subst e; intro z; rcases x with q | ⟨o, q⟩ <;> (rw [z] at q; cases q)
  | str z => simp [SK.box] at hb
section
variable {X : Cx} {pins : List (Addr × Obj)} {σ : St} {H : Hp} {s : Shared}
theorem sk_draws {κ : SK} {it : Addr} {k : Nat} {xs : List V} {A : Around} (I : Inv X pins σ H s) (hv : κ.has H xs) (hit : κ.own it k s.heap) (hn : H it = none) (hh : A.handled = none) :
    ∃ (P : Nat → Value → Prop) (St : Nat → Heap → Prop), Draws X.prog X.w A it (it :: κ.box) xs.length P St ∧ St k s.heap ∧ (∀ i u, P i u → ∃ x, xs[i]? = some x ∧ RelV x u) ∧ (∀ i h, St i h → κ.own it i h) := by
  have ne : ∀ b ∈ κ.box, b ≠ it := fun b hb z => SK.box_some hv hb (by rw [z]; exact hn)
  cases κ with
  | lst a =>
    obtain ⟨_, its, n, r, e⟩ := Rd.ok hv I.hok
    have hl : s.heap.IsList a its.toArray := ⟨_, e, rfl, n, rfl⟩
    have D := Draws.list (prog := X.prog) (w := X.w) hh it a (ne a (by simp [SK.box])) its.toArray
    rw [List.size_toArray, ← r.length] at D
    refine ⟨_, _, D, ⟨hit, hl⟩, fun i u hu => ?_, fun i h st => st.1⟩
    · have hu' : its[i]? = some u := by simpa using hu
      have hlt : i < xs.length := by rw [r.length]; exact (List.getElem?_eq_some_iff.mp hu').1
      obtain ⟨u', e1, e2⟩ := r.get (List.getElem?_eq_getElem hlt)
      rw [hu'] at e1; cases e1
      exact ⟨_, List.getElem?_eq_getElem hlt, e2⟩
  | tup a =>
    obtain ⟨_, its, r, ht⟩ := Rd.ok hv I.hok
    have hl : s.heap.IsTuple a its.toArray := ht
    have D := draws_tuple (prog := X.prog) (w := X.w) hh it a (ne a (by simp [SK.box])) its.toArray
    rw [List.size_toArray, ← r.length] at D
    refine ⟨_, _, D, ⟨hit, hl⟩, fun i u hu => ?_, fun i h st => st.1⟩
    · have hu' : its[i]? = some u := by simpa using hu
      have hlt : i < xs.length := by rw [r.length]; exact (List.getElem?_eq_some_iff.mp hu').1
      obtain ⟨u', e1, e2⟩ := r.get (List.getElem?_eq_getElem hlt)
      rw [hu'] at e1; cases e1
      exact ⟨_, List.getElem?_eq_getElem hlt, e2⟩
  | str z =>
    obtain ⟨t, hit⟩ := hit
    have hv' : xs = signs z := hv
    subst hv'
    have D := draws_str (prog := X.prog) (w := X.w) hh it z t
    have e : (signs z).length = z.cps.size := by simp [signs]
    rw [← e] at D
    refine ⟨_, _, D, hit, fun i u hu => ?_, fun i h st => ⟨t, st⟩⟩
    · obtain ⟨c, u', hc, rfl⟩ := hu
      refine ⟨.str ⟨#[c]⟩, ?_, ⟨u', rfl⟩⟩
      simp only [signs, List.getElem?_map, Array.getElem?_toList, hc, Option.map_some]
theorem Inv.turnedNew {ch : List Addr} {p : Addr} {o : HO} {h' : Heap} {tk : Nat} (I : Inv X pins σ H s)
    (hch : ∀ b ∈ ch, FpOk X pins H b) (k : ∀ b ob, b ∉ ch → s.heap.get? b = some ob → h'.get? b = some ob) (hp : s.heap.objs.size ≤ p) (new : ObjOk X.prog X.w (upd H p o) h' p o) :
    Inv X pins σ (upd H p o) { s with heap := h', toks := tk } := by
  have hn : H p = none := I.hok.fresh hp
  refine I.call (g' := s.gens) (d' := s.drawn) (ch := ch) ⟨fun b u q _ _ hx => k b u hx q, fun b u q _ _ hx => ⟨u.slots, k b u hx q⟩, fun b u q n _ => ?_, fun b u q hx => ⟨u, k b u hx q⟩, fun b xs q => ?_, fun b u xs q => ?_, fun b ps q => ⟨#[], ?_⟩⟩ (fun b u e => ?_) I.bare
    fun b hb => ⟨(hch b hb).2.2.2.1, (hch b hb).2.1, (hch b hb).2.2.2.2.1, (hch b hb).2.2.2.2.2⟩
  · rw [upd_ne (Nat.ne_of_lt (Nat.lt_of_lt_of_le (Heap.lt_size q) hp))]; exact n
  · rw [upd_ne (ne_of_none q hn)]; exact q
  · rw [upd_ne (ne_of_none q hn)]; exact q
  · rw [upd_ne (ne_of_none q hn), q]; simp
  · by_cases hb : b = p
    · subst hb; rw [upd_same] at e; cases e; exact new
    · rw [upd_ne hb] at e
      refine (I.hok b u e).stay (fun c v hc q => k c v (fun hm => ?_) q) (fun c q => by rw [upd_ne (ne_of_none q hn)]; exact q) fun c xs q => by rw [upd_ne (ne_of_none q hn)]; exact q
      have z := (hch c hm).1
      rcases hc with hc | hc
      · rw [hc, e] at z; cases z
      · rw [hc] at z; cases z
theorem Inv.turnedMany {ch : List Addr} {h' : Heap} {tk : Nat} (I : Inv X pins σ H s)
    (hch : ∀ b ∈ ch, FpOk X pins H b) (k : ∀ b ob, b ∉ ch → s.heap.get? b = some ob → h'.get? b = some ob) : Inv X pins σ H { s with heap := h', toks := tk } := by
  refine I.call (g' := s.gens) (d' := s.drawn) (ch := ch) ⟨fun b u q _ _ hx => k b u hx q, fun b u q _ _ hx => ⟨u.slots, k b u hx q⟩, fun b u q n _ => n, fun b u q hx => ⟨u, k b u hx q⟩, fun b xs q => q, fun b u xs q => q, fun b ps q => ⟨#[], by rw [q]; simp⟩⟩ (fun b u e => ?_) I.bare
    fun b hb => ⟨(hch b hb).2.2.2.1, (hch b hb).2.1, (hch b hb).2.2.2.2.1, (hch b hb).2.2.2.2.2⟩
  refine (I.hok b u e).stay (fun c v hc q => k c v (fun hm => ?_) q) (fun _ q => q) fun _ _ q => q
  have z := (hch c hm).1
  rcases hc with hc | hc
  · rw [hc, e] at z; cases z
  · rw [hc] at z; cases z
end
open AutoSeq1 (wpAny_loadPart') in
section
variable {X : Cx} {pins : List (Addr × Obj)} {σ : St} {H : Hp} {s : Shared}
end
structure ZA (z TI TO i1 i2 : Addr) (fp1 fp2 : List Addr) : Prop where
  TIz : TI ≠ z
  TOz : TO ≠ z
  i1z : i1 ≠ z
  i2z : i2 ≠ z
  TITO : TI ≠ TO
  TIi1 : TI ≠ i1
  TIi2 : TI ≠ i2
  TOi1 : TO ≠ i1
  TOi2 : TO ≠ i2
  i12 : i1 ≠ i2
  z1 : z ∉ fp1
  z2 : z ∉ fp2
  o1 : TO ∉ fp1
  o2 : TO ∉ fp2
  a1 : i2 ∉ fp1
  a2 : i1 ∉ fp2
section
variable {prog : Program} {w : World} {A : Around} {E : Value → Shared → Prop} {s : Shared}
theorem zip_next_itemD {z TI TO i1 i2 : Addr} {fp1 fp2 : List Addr} {n1 n2 k : Nat} {P1 P2 : Nat → Value → Prop} {S1 S2 : Nat → Heap → Prop} {a b : Value} {Q : Value → Shared → Prop} (Z : ZA z TI TO i1 i2 fp1 fp2)
    (D1 : Draws prog w A i1 fp1 n1 P1 S1) (D2 : Draws prog w A i2 fp2 n2 P2 S2)
    (hz : IsZip s.heap z TI TO .none) (hTI : IsPair s.heap TI (.ref i1) (.ref i2)) (hTO : IsPair s.heap TO a b) (h1 : S1 k s.heap) (h2 : S2 k s.heap) (l1 : k < n1) (l2 : k < n2)
    (hQ : ∀ x y h' tk, P1 k x → P2 k y → IsZip h' z TI TO (rawInt s.heap.objs.size) → IsPair h' TO x y → S1 (k + 1) h' → S2 (k + 1) h' → IsPair h' s.heap.objs.size x y → h'.objs.size = s.heap.objs.size + 1 →
      (∀ c o, c ≠ z → c ≠ TO → c ≠ i1 → c ≠ i2 → s.heap.get? c = some o → h'.get? c = some o) → Q (.ref s.heap.objs.size) { s with heap := h', toks := tk }) :
    wpAny (model prog w) A (Builtin.«zip.__next__» ⟨[.ref z], []⟩) (fun fin s' => ∃ v, fin = .done (.ret v) ∧ Q v s') E s := by
  obtain ⟨hp, g, d, tk₀, os⟩ := s
  show wpAny _ _ (field (.ref z) 2 >>= _) _ _ _
  refine wpAny_bind (wpAny_field hz rfl (x := .bool false) rfl ?_)
  show wpAny _ _ (field (.ref z) 3 >>= _) _ _ _
  refine wpAny_bind (wpAny_field hz rfl (x := .ref TI) rfl ?_)
  refine wpAny_bind (wpAny_seqItems hTI rfl ?_)
  show wpAny _ _ (Builtin.SmallTypes.ownedTupleIsFree (.ref z) >>= _) _ _ _
  refine wpAny_bind ?_
  unfold Builtin.SmallTypes.ownedTupleIsFree
  refine wpAny_bind (wpAny_field hz rfl (x := .none) rfl (wpAny_pure ?_))
  simp only [if_true]
  refine wpAny_bind (wpAny_rule ?_)
  refine wpAny_bind (wpAny_field hz rfl (x := .ref TO) rfl ?_)
  refine wpAny_bind (wpAny_setField_rec hz (by simp) fun h₁ hz₁ hs₁ => ?_)
  replace hz₁ : IsZip h₁ z TI TO .ellipsis := hz₁
  replace hs₁ : Heap.SameBut z hp h₁ := hs₁
  refine wpAny_bind ?_
  simp only [List.zipIdx_cons, List.zipIdx_nil, List.forIn_cons, List.forIn_nil]
  refine wpAny_bind (wpAny_bind (wpAny_onRaise ?_))
  show wpAny _ _ (Builtin.SmallTypes.nextOf (.ref i1) >>= _) _ _ _
  have h1₁ : S1 k h₁ := D1.frame _ _ _ h1 fun c hc o e => hs₁.extBut _ _ (fun q => Z.z1 (q ▸ hc)) e
  refine wpAny_bind (D1.item k _ _ _ l1 h1₁ fun x h₂ tk₂ hx h1₂ hs₂ => wpAny_pure ?_)
  replace hs₂ : Heap.SameBut i1 h₁ h₂ := hs₂
  have hTO₂ : IsPair h₂ TO a b := hs₂.extBut _ _ Z.TOi1 (hs₁.extBut _ _ Z.TOz hTO)
  refine wpAny_bind (wpAny_seqItems (s := ⟨h₂, g, d, tk₂, os⟩) hTO₂ rfl ?_)
  refine wpAny_bind (wpAny_updateSeq_pair (s := ⟨h₂, g, d, tk₂, os⟩) hTO₂ fun h₃ hTO₃ hs₃ => ?_)
  replace hTO₃ : IsPair h₃ TO x b := hTO₃
  replace hs₃ : Heap.SameBut TO h₂ h₃ := hs₃
  refine wpAny_bind (wpAny_letGo (wpAny_pure ?_))
  refine wpAny_bind (wpAny_bind (wpAny_onRaise ?_))
  show wpAny _ _ (Builtin.SmallTypes.nextOf (.ref i2) >>= _) _ _ _
  have h2₃ : S2 k h₃ := D2.frame _ _ _ h2 fun c hc o e => hs₃.extBut _ _ (fun q => Z.o2 (q ▸ hc)) (hs₂.extBut _ _ (fun q => Z.a2 (q ▸ hc)) (hs₁.extBut _ _ (fun q => Z.z2 (q ▸ hc)) e))
  refine wpAny_bind (D2.item k _ _ _ l2 h2₃ fun y h₄ tk₄ hy h2₄ hs₄ => wpAny_pure ?_)
  replace hs₄ : Heap.SameBut i2 h₃ h₄ := hs₄
  have hTO₄ : IsPair h₄ TO x b := hs₄.extBut _ _ Z.TOi2 hTO₃
  refine wpAny_bind (wpAny_seqItems (s := ⟨h₄, g, d, tk₄, os⟩) hTO₄ rfl ?_)
  refine wpAny_bind (wpAny_updateSeq_pair (s := ⟨h₄, g, d, tk₄, os⟩) hTO₄ fun h₅ hTO₅ hs₅ => ?_)
  replace hTO₅ : IsPair h₅ TO x y := hTO₅
  replace hs₅ : Heap.SameBut TO h₄ h₅ := hs₅
  refine wpAny_bind (wpAny_letGo (wpAny_pure (wpAny_pure ?_)))
  refine wpAny_bind (wpAny_seqItems (s := ⟨h₅, g, d, tk₄, os⟩) hTO₅ rfl ?_)
  refine wpAny_bind (wpAny_newTuple ?_)
  have hsz : h₅.objs.size = hp.objs.size := by rw [hs₅.1, hs₄.1, hs₃.1, hs₂.1, hs₁.1]
  have hz₅ : IsZip h₅ z TI TO .ellipsis := hs₅.extBut _ _ Z.TOz.symm (hs₄.extBut _ _ Z.i2z.symm (hs₃.extBut _ _ Z.TOz.symm (hs₂.extBut _ _ Z.i1z.symm hz₁)))
  have hk₅ : ∀ c o, c ≠ z → c ≠ TO → c ≠ i1 → c ≠ i2 → hp.get? c = some o → h₅.get? c = some o := fun c o c1 c2 c3 c4 e =>
    hs₅.extBut _ _ c2 (hs₄.extBut _ _ c4 (hs₃.extBut _ _ c2 (hs₂.extBut _ _ c3 (hs₁.extBut _ _ c1 e))))
  have h1₅ : S1 (k + 1) h₅ := D1.frame _ _ _ h1₂ fun c hc o e => hs₅.extBut _ _ (fun q => Z.o1 (q ▸ hc)) (hs₄.extBut _ _ (fun q => Z.a1 (q ▸ hc)) (hs₃.extBut _ _ (fun q => Z.o1 (q ▸ hc)) e))
  have h2₅ : S2 (k + 1) h₅ := D2.frame _ _ _ h2₄ fun c hc o e => hs₅.extBut _ _ (fun q => Z.o2 (q ▸ hc)) e
  have hzlt : z < h₅.objs.size := Heap.lt_size hz₅
  show wpAny _ _ (Builtin.SmallTypes.ownedTupleHandOut (.ref z) (.ref h₅.objs.size) >>= _) _ _ _
  refine wpAny_bind ?_
  unfold Builtin.SmallTypes.ownedTupleHandOut
  have hz₆ : IsZip (h₅.push { cls := .type "tuple", data := .seq #[x, y] }) z TI TO .ellipsis := Heap.get?_push_of_some _ hz₅
  refine wpAny_bind (wpAny_setField_rec hz₆ (by simp) fun h₇ hz₇ hs₇ => ?_)
  replace hz₇ : IsZip h₇ z TI TO (rawInt h₅.objs.size) := hz₇
  replace hs₇ : Heap.SameBut z (h₅.push { cls := .type "tuple", data := .seq #[x, y] }) h₇ := hs₇
  refine wpAny_setField_rec hz₇ (by simp) fun h₈ hz₈ hs₈ => ?_
  replace hz₈ : IsZip h₈ z TI TO (rawInt h₅.objs.size) := hz₈
  replace hs₈ : Heap.SameBut z h₇ h₈ := hs₈
  have up : ∀ c o, c ≠ z → h₅.get? c = some o → h₈.get? c = some o := fun c o c1 e => hs₈.extBut _ _ c1 (hs₇.extBut _ _ c1 (Heap.get?_push_of_some _ e))
  have hT₈ : IsPair h₈ h₅.objs.size x y := hs₈.extBut _ _ (Nat.ne_of_gt hzlt) (hs₇.extBut _ _ (Nat.ne_of_gt hzlt) (Heap.get?_push_size _ rfl))
  have hz8 : h₈.objs.size = h₅.objs.size + 1 := by rw [hs₈.1, hs₇.1, Heap.size_push]
  rw [hsz] at hz₈ hT₈ hz8
  refine wpAny_pure ⟨_, rfl, ?_⟩
  show Q (.ref h₅.objs.size) _
  rw [hsz]
  exact hQ x y h₈ tk₄ hx hy hz₈ (up _ _ Z.TOz hTO₅) (D1.frame _ _ _ h1₅ fun c hc o e => up c o (fun q => Z.z1 (q ▸ hc)) e) (D2.frame _ _ _ h2₅ fun c hc o e => up c o (fun q => Z.z2 (q ▸ hc)) e) hT₈ hz8 fun c o c1 c2 c3 c4 e => up c o c1 (hk₅ c o c1 c2 c3 c4 e)
theorem zip_next_endD {z TI TO i1 i2 : Addr} {fp1 fp2 : List Addr} {n1 n2 k : Nat} {P1 P2 : Nat → Value → Prop} {S1 S2 : Nat → Heap → Prop} {a b : Value} {Q : Fin → Shared → Prop} (Z : ZA z TI TO i1 i2 fp1 fp2)
    (D1 : Draws prog w A i1 fp1 n1 P1 S1) (D2 : Draws prog w A i2 fp2 n2 P2 S2)
    (hz : IsZip s.heap z TI TO .none) (hTI : IsPair s.heap TI (.ref i1) (.ref i2)) (hTO : IsPair s.heap TO a b) (h1 : S1 k s.heap) (h2 : S2 k s.heap) (hend : n1 = k ∨ (k < n1 ∧ n2 = k))
    (hE : ∀ h' e tk, (∀ c o, c ≠ z → c ≠ TO → c ≠ i1 → c ≠ i2 → s.heap.get? c = some o → h'.get? c = some o) → (∃ o, h'.get? e = some o ∧ o.cls = .type "StopIteration") → E (.ref e) { s with heap := h', toks := tk }) :
    wpAny (model prog w) A (Builtin.«zip.__next__» ⟨[.ref z], []⟩) Q E s := by
  obtain ⟨hp, g, d, tk₀, os⟩ := s
  show wpAny _ _ (field (.ref z) 2 >>= _) _ _ _
  refine wpAny_bind (wpAny_field hz rfl (x := .bool false) rfl ?_)
  show wpAny _ _ (field (.ref z) 3 >>= _) _ _ _
  refine wpAny_bind (wpAny_field hz rfl (x := .ref TI) rfl ?_)
  refine wpAny_bind (wpAny_seqItems hTI rfl ?_)
  show wpAny _ _ (Builtin.SmallTypes.ownedTupleIsFree (.ref z) >>= _) _ _ _
  refine wpAny_bind ?_
  unfold Builtin.SmallTypes.ownedTupleIsFree
  refine wpAny_bind (wpAny_field hz rfl (x := .none) rfl (wpAny_pure ?_))
  simp only [if_true]
  refine wpAny_bind (wpAny_rule ?_)
  refine wpAny_bind (wpAny_field hz rfl (x := .ref TO) rfl ?_)
  refine wpAny_bind (wpAny_setField_rec hz (by simp) fun h₁ hz₁ hs₁ => ?_)
  replace hz₁ : IsZip h₁ z TI TO .ellipsis := hz₁
  replace hs₁ : Heap.SameBut z hp h₁ := hs₁
  refine wpAny_bind ?_
  simp only [List.zipIdx_cons, List.zipIdx_nil, List.forIn_cons, List.forIn_nil]
  refine wpAny_bind (wpAny_bind (wpAny_onRaise ?_))
  show wpAny _ _ (Builtin.SmallTypes.nextOf (.ref i1) >>= _) _ _ _
  have h1₁ : S1 k h₁ := D1.frame _ _ _ h1 fun c hc o e => hs₁.extBut _ _ (fun q => Z.z1 (q ▸ hc)) e
  rcases hend with hn | ⟨l1, hn⟩
  · subst hn
    refine wpAny_bind (D1.done _ _ _ h1₁ fun h₂ e hs₂ he => ?_)
    obtain ⟨oe, hoe, hce⟩ := he
    replace hs₂ : Heap.ExtBut i1 h₁ h₂ := hs₂
    have hz₂ : IsZip h₂ z TI TO .ellipsis := hs₂ _ _ Z.i1z.symm hz₁
    have hez : e ≠ z := fun x => by subst x; rw [hz₂] at hoe; cases hoe; simp at hce
    exact wpAny_setField_rec hz₂ (by simp) fun h₃ _ hs₃ => hE h₃ e _ (fun c o c1 _ c3 _ x => hs₃.extBut _ _ c1 (hs₂ _ _ c3 (hs₁.extBut _ _ c1 x))) ⟨oe, hs₃.extBut _ _ hez hoe, hce⟩
  · subst hn
    refine wpAny_bind (D1.item _ _ _ _ l1 h1₁ fun x h₂ tk₂ hx h1₂ hs₂ => wpAny_pure ?_)
    replace hs₂ : Heap.SameBut i1 h₁ h₂ := hs₂
    have hTO₂ : IsPair h₂ TO a b := hs₂.extBut _ _ Z.TOi1 (hs₁.extBut _ _ Z.TOz hTO)
    refine wpAny_bind (wpAny_seqItems (s := ⟨h₂, g, d, tk₂, os⟩) hTO₂ rfl ?_)
    refine wpAny_bind (wpAny_updateSeq_pair (s := ⟨h₂, g, d, tk₂, os⟩) hTO₂ fun h₃ hTO₃ hs₃ => ?_)
    replace hs₃ : Heap.SameBut TO h₂ h₃ := hs₃
    refine wpAny_bind (wpAny_letGo (wpAny_pure ?_))
    refine wpAny_bind (wpAny_bind (wpAny_onRaise ?_))
    show wpAny _ _ (Builtin.SmallTypes.nextOf (.ref i2) >>= _) _ _ _
    have h2₃ := D2.frame _ _ h₃ h2 fun c hc o e => hs₃.extBut _ _ (fun q => Z.o2 (q ▸ hc)) (hs₂.extBut _ _ (fun q => Z.a2 (q ▸ hc)) (hs₁.extBut _ _ (fun q => Z.z2 (q ▸ hc)) e))
    refine wpAny_bind (D2.done _ _ _ h2₃ fun h₄ e hs₄ he => ?_)
    obtain ⟨oe, hoe, hce⟩ := he
    replace hs₄ : Heap.ExtBut i2 h₃ h₄ := hs₄
    have hz₄ : IsZip h₄ z TI TO .ellipsis := hs₄ _ _ Z.i2z.symm (hs₃.extBut _ _ Z.TOz.symm (hs₂.extBut _ _ Z.i1z.symm hz₁))
    have hez : e ≠ z := fun x => by subst x; rw [hz₄] at hoe; cases hoe; simp at hce
    exact wpAny_setField_rec hz₄ (by simp) fun h₅ _ hs₅ => hE h₅ e _ (fun c o c1 c2 c3 c4 x => hs₅.extBut _ _ c1 (hs₄ _ _ c4 (hs₃.extBut _ _ c2 (hs₂.extBut _ _ c3 (hs₁.extBut _ _ c1 x))))) ⟨oe, hs₅.extBut _ _ hez hoe, hce⟩
end
def Itz (κ1 κ2 : SK) : It :=
  ⟨fun i H => ∃ xs ys x y, κ1.has H xs ∧ κ2.has H ys ∧ xs[i]? = some x ∧ ys[i]? = some y,
   fun i H v H' => ∃ p x y, v = .ref p ∧ H p = none ∧ H' = upd H p (.tup [x, y]) ∧ (∀ xs, κ1.has H xs → xs[i]? = some x) ∧ ∀ ys, κ2.has H ys → ys[i]? = some y,
   fun i H => ∃ xs ys, κ1.has H xs ∧ κ2.has H ys ∧ (xs.length = i ∨ (i < xs.length ∧ ys.length = i))⟩
theorem turn_zip {P : Program} {w : World} {K : PySem.W.Frag} {elts : List Expr} {x1 : Nat} {tpos : Pos} (κ1 κ2 : SK) (z TI TO i1 i2 : Addr) (hnd : [z, TI, TO, i1, i2].Nodup) :
    Turn P w K (.Tuple elts x1 tpos) (Itz κ1 κ2) [z, TI, TO, i1, i2] z (fun i h => IsZip h z TI TO .none ∧ IsPair h TI (.ref i1) (.ref i2) ∧ (∃ a b, IsPair h TO a b) ∧ κ1.own i1 i h ∧ κ2.own i2 i h) where
  mem := by simp
  obj := fun i h st b hb => by
    obtain ⟨hz, hTI, ⟨a, c, hTO⟩, h1, h2⟩ := st
    simp only [List.mem_cons, List.not_mem_nil, or_false] at hb
    rcases hb with rfl | rfl | rfl | rfl | rfl
    · exact ⟨_, hz, fun v y => by have y' : Data.fields _ = Data.cell v := y; cases y'⟩
    · exact ⟨_, hTI, fun v y => by have y' : Data.seq _ _ = Data.cell v := y; cases y'⟩
    · exact ⟨_, hTO, fun v y => by have y' : Data.seq _ _ = Data.cell v := y; cases y'⟩
    · obtain ⟨o, e1, e2, _⟩ := SK.own_obj h1; exact ⟨o, e1, e2⟩
    · obtain ⟨o, e1, e2, _⟩ := SK.own_obj h2; exact ⟨o, e1, e2⟩
  keep := fun i h h' st k => by
    obtain ⟨hz, hTI, ⟨a, c, hTO⟩, h1, h2⟩ := st
    exact ⟨k z (by simp) _ hz, k TI (by simp) _ hTI, ⟨a, c, k TO (by simp) _ hTO⟩, SK.own_at h1 fun o q => k i1 (by simp) o q, SK.own_at h2 fun o q => k i2 (by simp) o q⟩
  item := by
    intro X hP hw hK hc i pins s σ H E I hf st hg
    subst hP hw hK
    obtain ⟨hz, hTI, ⟨a, c, hTO⟩, h1, h2⟩ := st
    obtain ⟨xs, ys, x, y, hx, hy, hxi, hyi⟩ := hg
    have l1 : i < xs.length := (List.getElem?_eq_some_iff.mp hxi).1
    have l2 : i < ys.length := (List.getElem?_eq_some_iff.mp hyi).1
    have hh : X.A.in1.handled = none := I.ok.hd hc
    obtain ⟨P1, S1, D1, s1, r1, w1⟩ := sk_draws (A := X.A.in1) I hx h1 (hf i1 (by simp)).1 hh
    obtain ⟨P2, S2, D2, s2, r2, w2⟩ := sk_draws (A := X.A.in1) I hy h2 (hf i2 (by simp)).1 hh
    simp only [List.nodup_cons, List.mem_cons, List.not_mem_nil, or_false, not_or] at hnd
    obtain ⟨⟨n1, n2, n3, n4⟩, ⟨n5, n6, n7⟩, ⟨n8, n9⟩, n10, _⟩ := hnd
    have nb : ∀ {κ : SK} {zs : List V} {b it : Addr}, κ.has H zs → H b = none → b ≠ it → b ∉ it :: κ.box := fun {κ zs b it} hκ hb hne q => by
      rcases List.mem_cons.mp q with q | q
      · exact hne q
      · exact SK.box_some hκ q hb
    have Z : ZA z TI TO i1 i2 (i1 :: κ1.box) (i2 :: κ2.box) :=
      { TIz := Ne.symm n1, TOz := Ne.symm n2, i1z := Ne.symm n3, i2z := Ne.symm n4, TITO := n5, TIi1 := n6, TIi2 := n7, TOi1 := n8, TOi2 := n9, i12 := n10
        z1 := nb hx (hf z (by simp)).1 n3, z2 := nb hy (hf z (by simp)).1 n4, o1 := nb hx (hf TO (by simp)).1 n8, o2 := nb hy (hf TO (by simp)).1 n9, a1 := nb hx (hf i2 (by simp)).1 (Ne.symm n10), a2 := nb hy (hf i1 (by simp)).1 n10 }
    have hT : s.TypeIs (.ref z) "zip" := ⟨_, hz, rfl⟩
    unfold pyNext
    refine wpAny_bind (wpAny_attempt (wpAny_callSpecial?_slot (name := Str.ofString "__next__") hT F.slot_zip_next
      (wpAny_call_entry F.slot_zip_next hT F.entry_zip_next
        (zip_next_itemD Z D1 D2 hz hTI hTO s1 s2 l1 l2 fun u v h' tk hu hv hz' hTO' s1' s2' hT' hsz hk => wpAny_pure ⟨_, rfl, ?_⟩) (F.args_zip_next_1 _))))
    refine wpAny_letOwnedTupleGo_zip hz' fun h'' hz'' hs'' => ?_
    obtain ⟨x', hx', rx⟩ := r1 i u hu
    obtain ⟨y', hy', ry⟩ := r2 i v hv
    have ex : x' = x := Option.some.inj (hx'.symm.trans hxi)
    have ey : y' = y := Option.some.inj (hy'.symm.trans hyi)
    subst ex ey
    have kk : ∀ b ob, b ∉ [z, TI, TO, i1, i2] → s.heap.get? b = some ob → h''.get? b = some ob := fun b ob hb q =>
      (hs''.2 b (fun e => hb (by simp [e]))).trans (hk b ob (fun e => hb (by simp [e])) (fun e => hb (by simp [e])) (fun e => hb (by simp [e])) (fun e => hb (by simp [e])) q)
    have ne : s.heap.objs.size ≠ z := Nat.ne_of_gt (Heap.lt_size hz)
    have hT'' : h''.get? s.heap.objs.size = some { cls := .type "tuple", data := .seq #[u, v] } := (hs''.2 _ ne).trans hT'
    refine ⟨.ref s.heap.objs.size, upd H s.heap.objs.size (.tup [x', y']), I.turnedNew (tk := tk) hf kk (Nat.le_refl _) ⟨⟨(by show 2 ≤ sizeLine; decide), _, hT'', rfl⟩, [u, v], .cons rx (.cons ry .nil), _, hT'', rfl, 0, rfl⟩, rfl,
      ⟨_, x', y', rfl, I.hok.fresh (Nat.le_refl _), rfl, fun zs hzs => by rw [SK.inj hzs hx]; exact hxi, fun zs hzs => by rw [SK.inj hzs hy]; exact hyi⟩,
      ⟨hz'', hs''.extBut _ _ (Ne.symm n1) (hk _ _ (Ne.symm n1) n5 n6 n7 hTI), ⟨_, _, hs''.extBut _ _ (Ne.symm n2) hTO'⟩, SK.own_at (w1 _ _ s1') fun o q => (hs''.2 i1 (Ne.symm n3)).trans q, SK.own_at (w2 _ _ s2') fun o q => (hs''.2 i2 (Ne.symm n4)).trans q⟩, fun b hb => ?_⟩
    have hob : ∃ o, s.heap.get? b = some o := by
      simp only [List.mem_cons, List.not_mem_nil, or_false] at hb
      rcases hb with rfl | rfl | rfl | rfl | rfl
      · exact ⟨_, hz⟩
      · exact ⟨_, hTI⟩
      · exact ⟨_, hTO⟩
      · obtain ⟨o, e1, _⟩ := SK.own_obj h1; exact ⟨o, e1⟩
      · obtain ⟨o, e1, _⟩ := SK.own_obj h2; exact ⟨o, e1⟩
    obtain ⟨o, hob⟩ := hob
    rw [upd_ne (Nat.ne_of_lt (Heap.lt_size hob))]
    exact (hf b hb).1
  done := by
    intro X hP hw hK hc i pins s σ H E I hf st hg
    subst hP hw hK
    obtain ⟨hz, hTI, ⟨a, c, hTO⟩, h1, h2⟩ := st
    obtain ⟨xs, ys, hx, hy, hend⟩ := hg
    have hh : X.A.in1.handled = none := I.ok.hd hc
    obtain ⟨P1, S1, D1, s1, r1, w1⟩ := sk_draws (A := X.A.in1) I hx h1 (hf i1 (by simp)).1 hh
    obtain ⟨P2, S2, D2, s2, r2, w2⟩ := sk_draws (A := X.A.in1) I hy h2 (hf i2 (by simp)).1 hh
    simp only [List.nodup_cons, List.mem_cons, List.not_mem_nil, or_false, not_or] at hnd
    obtain ⟨⟨n1, n2, n3, n4⟩, ⟨n5, n6, n7⟩, ⟨n8, n9⟩, n10, _⟩ := hnd
    have nb : ∀ {κ : SK} {zs : List V} {b it : Addr}, κ.has H zs → H b = none → b ≠ it → b ∉ it :: κ.box := fun {κ zs b it} hκ hb hne q => by
      rcases List.mem_cons.mp q with q | q
      · exact hne q
      · exact SK.box_some hκ q hb
    have Z : ZA z TI TO i1 i2 (i1 :: κ1.box) (i2 :: κ2.box) :=
      { TIz := Ne.symm n1, TOz := Ne.symm n2, i1z := Ne.symm n3, i2z := Ne.symm n4, TITO := n5, TIi1 := n6, TIi2 := n7, TOi1 := n8, TOi2 := n9, i12 := n10
        z1 := nb hx (hf z (by simp)).1 n3, z2 := nb hy (hf z (by simp)).1 n4, o1 := nb hx (hf TO (by simp)).1 n8, o2 := nb hy (hf TO (by simp)).1 n9, a1 := nb hx (hf i2 (by simp)).1 (Ne.symm n10), a2 := nb hy (hf i1 (by simp)).1 n10 }
    have hT : s.TypeIs (.ref z) "zip" := ⟨_, hz, rfl⟩
    unfold pyNext
    refine wpAny_bind (wpAny_attempt (wpAny_callSpecial?_slot (name := Str.ofString "__next__") hT F.slot_zip_next
      (wpAny_call_entry F.slot_zip_next hT F.entry_zip_next (zip_next_endD Z D1 D2 hz hTI hTO s1 s2 hend fun h' e tk hk he => ?_) (F.args_zip_next_1 _))))
    obtain ⟨o, ho, hcl⟩ := he
    refine wpAny_bind (wpAny_isInstance (T := "StopIteration") (b := true) ⟨o, ho, hcl⟩ isSubtype_stop ?_)
    exact wpAny_pure ⟨rfl, I.turnedMany hf fun b ob hb q => hk b ob (fun e => hb (by simp [e])) (fun e => hb (by simp [e])) (fun e => hb (by simp [e])) (fun e => hb (by simp [e])) q⟩
  self := fun _ _ _ _ _ st h => wpAny_pyIter_zip st.1 h
def itObj (v : Value) : SK → Obj
  | .lst _ => { cls := .type "list_iterator", data := .fields #[v, .int 0 0] }
  | .tup _ => { cls := .type "tuple_iterator", data := .fields #[v, .int 0 0] }
  | .str x => { cls := .type (strIterType x), data := .fields #[v, .int 0 0] }
theorem itObj_live (v : Value) (κ : SK) : (itObj v κ).isFreed = false := by cases κ <;> rfl
def Iters (h : Heap) (v : Value) (o : Obj) : Prop := ∀ (prog : Program) (w : World) (A : Around) (E : Value → Shared → Prop) (s : Shared) (Q : Value → Shared → Prop), (∀ b ob, h.get? b = some ob → s.heap.get? b = some ob) → Q (.ref s.heap.objs.size) { s with heap := s.heap.push o } → wpAny (model prog w) A (pyIter v) Q E s
theorem sk_iters {X : Cx} {pins : List (Addr × Obj)} {σ : St} {H : Hp} {s : Shared} {κ : SK} {xs : List V} {u : Value} (I : Inv X pins σ H s) (hv : κ.has H xs) (r : RelV κ.val u) : Iters s.heap u (itObj u κ) := by
  intro prog w A E s' Q k h
  cases κ with
  | lst a =>
    cases (show u = Value.ref a from r)
    obtain ⟨_, its, n, rr, e⟩ := Rd.ok hv I.hok
    exact wpAny_pyIter_list (items := its.toArray) ⟨_, k _ _ e, rfl, n, rfl⟩ h
  | tup a =>
    cases (show u = Value.ref a from r)
    obtain ⟨_, its, rr, o, e, c⟩ := Rd.ok hv I.hok
    exact wpAny_pyIter_tuple (items := its.toArray) ⟨o, k _ _ e, c⟩ h
  | str x =>
    obtain ⟨t, q⟩ := (show ∃ t, u = Value.str x t from r)
    subst q
    exact wpAny_pyIter_strU h
theorem sk_own0 {κ : SK} {u : Value} {h h' : Heap} {it : Addr} (r : RelV κ.val u) (e : h.get? it = some (itObj u κ)) : κ.own it 0 h := by
  cases κ with
  | lst a => cases (show u = Value.ref a from r); exact ⟨_, e, rfl, rfl⟩
  | tup a => cases (show u = Value.ref a from r); exact ⟨_, e, rfl, rfl⟩
  | str x => obtain ⟨t, q⟩ := (show ∃ t, u = Value.str x t from r); subst q; exact ⟨t, _, e, rfl, rfl⟩
abbrev zH1 (h : Heap) (o1 : Obj) : Heap := h.push o1
abbrev zH2 (h : Heap) (o1 o2 : Obj) : Heap := (zH1 h o1).push o2
abbrev zH3 (h : Heap) (o1 o2 : Obj) : Heap := (zH2 h o1 o2).push { cls := .type "tuple", data := .seq #[.ref h.objs.size, .ref (zH1 h o1).objs.size] }
abbrev zH4 (h : Heap) (o1 o2 : Obj) : Heap := (zH3 h o1 o2).push { cls := .type "tuple", data := .seq #[.none, .none] }
abbrev zH5 (h : Heap) (o1 o2 : Obj) : Heap := (zH4 h o1 o2).push { cls := .type "zip", data := .fields #[.none, .bool false, .bool false, .ref (zH2 h o1 o2).objs.size, .ref (zH3 h o1 o2).objs.size] }
set_option maxHeartbeats 4000000 in
theorem meets_zipG (v1 v2 : Value) (o1 o2 : Obj) :
    Meets (Builtin.«zip.__new__» ⟨[.type "zip", v1, v2], []⟩) (fun _ R s => Iters s.heap v1 o1 ∧ Iters s.heap v2 o2 ∧
      R (.ok (.ret (.ref (zH4 s.heap o1 o2).objs.size))) { s with heap := zH5 s.heap o1 o2 }) :=
  .of_wp fun prog w A R s h => by
    obtain ⟨hp, g, d, tk, os⟩ := s; obtain ⟨hl1, hl2, h⟩ := h
    have hsub := sub_zip
    have g1 : ∀ (A : Around) (E : Value → Shared → Prop) (Q : Value → Shared → Prop), Q (.ref hp.objs.size) ⟨hp.push o1, g, d, tk, os⟩ → wpAny (model prog w) A (pyIter v1) Q E ⟨hp, g, d, tk, os⟩ := fun A E Q q => hl1 prog w A E ⟨hp, g, d, tk, os⟩ Q (fun _ _ e => e) q
    have g2 : ∀ (A : Around) (E : Value → Shared → Prop) (Q : Value → Shared → Prop), Q (.ref (hp.push o1).objs.size) ⟨(hp.push o1).push o2, g, d, tk, os⟩ → wpAny (model prog w) A (pyIter v2) Q E ⟨hp.push o1, g, d, tk, os⟩ := fun A E Q q => hl2 prog w A E ⟨hp.push o1, g, d, tk, os⟩ Q (fun _ _ e => Heap.get?_push_of_some _ e) q
    wp_walk using g1 _ _ _, g2 _ _ _
    exact ⟨_, rfl, h⟩
theorem call_zipG {prog : Program} {w : World} {A : Around} {E : Value → Shared → Prop} {s : Shared} {v1 v2 : Value} {o1 o2 : Obj} {Q : Value → Shared → Prop} (f1 : o1.isFreed = false) (f2 : o2.isFreed = false) (hl1 : Iters s.heap v1 o1) (hl2 : Iters s.heap v2 o2)
    (h : ∀ h', IsZip h' (s.heap.objs.size + 4) (s.heap.objs.size + 2) (s.heap.objs.size + 3) .none → IsPair h' (s.heap.objs.size + 2) (.ref s.heap.objs.size) (.ref (s.heap.objs.size + 1)) →
      IsPair h' (s.heap.objs.size + 3) .none .none → h'.get? s.heap.objs.size = some o1 → h'.get? (s.heap.objs.size + 1) = some o2 →
      (∀ c o, s.heap.get? c = some o → h'.get? c = some o) → Q (.ref (s.heap.objs.size + 4)) { s with heap := h' }) :
    wpAny (model prog w) A (call (.type "zip") [v1, v2]) Q E s := by
  refine callType_new F.called_zip (by decide) (F.typeCall_zip_2 _ _) (F.newCall_zip_2 _ _) (fun obj => F.args_object_init_3 obj _ _) F.entry_zip_new
    (meets_zipG v1 v2 o1 o2) ⟨hl1, hl2, ?_⟩
  have z1 : (zH1 s.heap o1).objs.size = s.heap.objs.size + 1 := Heap.size_push ..
  have z2 : (zH2 s.heap o1 o2).objs.size = s.heap.objs.size + 2 := by rw [Heap.size_push, z1]
  have z3 : (zH3 s.heap o1 o2).objs.size = s.heap.objs.size + 3 := by rw [Heap.size_push, z2]
  have z4 : (zH4 s.heap o1 o2).objs.size = s.heap.objs.size + 4 := by rw [Heap.size_push, z3]
  have g5 : (zH5 s.heap o1 o2).get? (zH4 s.heap o1 o2).objs.size = some _ := Heap.get?_push_size _ rfl
  have g4 : (zH5 s.heap o1 o2).get? (zH3 s.heap o1 o2).objs.size = some _ := Heap.get?_push_of_some _ (Heap.get?_push_size _ rfl)
  have g3 : (zH5 s.heap o1 o2).get? (zH2 s.heap o1 o2).objs.size = some _ := Heap.get?_push_of_some _ (Heap.get?_push_of_some _ (Heap.get?_push_size _ rfl))
  have g2 : (zH5 s.heap o1 o2).get? (zH1 s.heap o1).objs.size = some _ := Heap.get?_push_of_some _ (Heap.get?_push_of_some _ (Heap.get?_push_of_some _ (Heap.get?_push_size _ f2)))
  have g1 : (zH5 s.heap o1 o2).get? s.heap.objs.size = some _ := Heap.get?_push_of_some _ (Heap.get?_push_of_some _ (Heap.get?_push_of_some _ (Heap.get?_push_of_some _ (Heap.get?_push_size _ f1))))
  show _ ∧ _
  rw [z2, z3, z4] at g5
  rw [z1, z2] at g3
  rw [z3] at g4
  rw [z1] at g2
  rw [z4]
  exact ⟨⟨_, g5, rfl⟩, h _ g5 g3 g4 g1 g2 fun c o x =>
    Heap.get?_push_of_some _ (Heap.get?_push_of_some _ (Heap.get?_push_of_some _ (Heap.get?_push_of_some _ (Heap.get?_push_of_some _ x))))⟩
section
variable {X : Cx}
def iZip (ta : TA) : TI := fun σ H R => ta σ H fun vs H1 => ∃ κ1 κ2 : SK, vs = [κ1.val, κ2.val] ∧ (∃ xs, κ1.has H1 xs) ∧ (∃ ys, κ2.has H1 ys) ∧ R (Itz κ1 κ2) H1
theorem pi_zip {a b : Expr} {ta : TA} {p pos : Pos} {elts : List Expr} {x1 : Nat} {tpos : Pos} (hg : Gl X "zip") (hm : X.mg "zip" = none) (ha : PA X [a, b] ta)
    (hs : starEach [a, b] X.env = [(false, eval a X.env), (false, eval b X.env)] := by rfl) (hs2 : starEach [b] X.env = [(false, eval b X.env)] := by rfl) : PI X (.Tuple elts x1 tpos) (.Call (.Name "zip" p) [a, b] [] pos) (iZip ta) := by
  intro pins s σ H R I h
  refine Call_ (ld_blt I hg hm boot_zip (PyProof.Rows.callWith_type1 (thn (ha pos pins s σ H _ I h) fun us s1 ⟨vs, H1, I1, r1, q1⟩ => ?_) (by rw [hs, hs2]) (by rw [hs2]; rfl)))
  obtain ⟨κ1, κ2, e, ⟨xs, hx⟩, ⟨ys, hy⟩, q⟩ := q1
  subst e
  obtain ⟨u, v, rfl, ru, rv⟩ := vals2 r1
  refine call_zipG (itObj_live u κ1) (itObj_live v κ2) (sk_iters I1 hx ru) (sk_iters I1 hy rv) fun h' hz hTI hTO h1 h2 hk => ?_
  refine wpAny_pyIter_zip hz ⟨s1.heap.objs.size + 4, [s1.heap.objs.size + 4, s1.heap.objs.size + 2, s1.heap.objs.size + 3, s1.heap.objs.size, s1.heap.objs.size + 1], _, _, H1, rfl, I1.kept (t' := s1.toks) hk,
    turn_zip κ1 κ2 _ _ _ _ _ (by simp), ⟨hz, hTI, ⟨_, _, hTO⟩, sk_own0 (h' := h') ru h1, sk_own0 (h' := h') rv h2⟩, fun b hb => ?_, q⟩
  have hge : s1.heap.objs.size ≤ b := by
    simp only [List.mem_cons, List.not_mem_nil, or_false] at hb
    rcases hb with rfl | rfl | rfl | rfl | rfl <;> first | exact Nat.le_add_right _ _ | exact Nat.le_refl _
  exact I1.fpOk hge (I1.hok.fresh hge)
end
theorem for_zip {κ1 κ2 : SK} {xs ys : List V} {g : TG} {tb : TS} {D : Ends} {σ : St} {H : Hp} (Pv : Nat → St → Hp → Prop) (h0 : Pv 0 σ H) (hlen : xs.length = ys.length) (hl : ∀ i σ H, i ≤ xs.length → Pv i σ H → κ1.has H xs ∧ κ2.has H ys)
    (hs : ∀ i x y σ H p, xs[i]? = some x → ys[i]? = some y → Pv i σ H → H p = none → g (.ref p) σ (upd H p (.tup [x, y])) fun σ2 H2 => tb { D with nx := Pv (i + 1), ct := Pv (i + 1), bk := D.nx } σ2 H2) (hd : ∀ σ H, Pv xs.length σ H → D.nx σ H) :
    ∃ W : Nat → Nat → St → Hp → Prop, (∃ m, W 0 m σ H) ∧ ∀ i m σ H, W i m σ H →
      ((Itz κ1 κ2).stop i H ∧ D.nx σ H) ∨ ((Itz κ1 κ2).go i H ∧ ∃ N : St → Hp → Prop, (∀ σ' H', N σ' H' → ∃ m', m' < m ∧ W (i + 1) m' σ' H') ∧ ∀ x H', (Itz κ1 κ2).yld i H x H' → g x σ H' fun σ2 H2 => tb { D with nx := N, ct := N, bk := D.nx } σ2 H2) := by
  refine ⟨fun i m σ H => i ≤ xs.length ∧ m = xs.length - i ∧ Pv i σ H, ⟨xs.length, Nat.zero_le _, rfl, h0⟩, fun i m σ H ⟨hi, hm, hp⟩ => ?_⟩
  obtain ⟨a1, a2⟩ := hl i σ H hi hp
  rcases Nat.lt_or_ge i xs.length with lt | ge
  · have lt2 : i < ys.length := by omega
    refine .inr ⟨⟨xs, ys, xs[i], ys[i], a1, a2, List.getElem?_eq_getElem lt, List.getElem?_eq_getElem lt2⟩, Pv (i + 1), fun σ' H' hn => ⟨xs.length - (i + 1), by omega, by omega, rfl, hn⟩, fun x H' hy => ?_⟩
    obtain ⟨p, x', y', rfl, hpn, rfl, e1, e2⟩ := hy
    exact hs i x' y' σ H p (e1 xs a1) (e2 ys a2) hp hpn
  · have e : i = xs.length := by omega
    subst e
    exact .inl ⟨⟨xs, ys, a1, a2, .inl rfl⟩, hd σ H hp⟩
def cutS (z : Str) (lo hi : Option Int) : Str := ⟨((z.cps.toList.drop (HT.sIx z.length 0 lo)).take (HT.sIx z.length z.length hi - HT.sIx z.length 0 lo)).toArray⟩
theorem clip_s (i : Int) (n d : Nat) : max 0 (min (if i < 0 then i + (n : Int) else i) (n : Int)) = ((HT.sIx n d (some i) : Nat) : Int) := by
  simp only [HT.sIx]
  split
  · omega
  · omega
theorem range_cut (a b : Nat) : sliceRange (a : Int) (b : Int) 1 = (List.range (b - a)).map fun k => a + k := by
  unfold sliceRange
  simp only [show ((1 : Int) > 0) = True from by simp, if_true]
  by_cases hlt : (a : Int) < b
  · have e3 : (((b : Int) - a + 1 - 1) / 1).toNat = b - a := by
      rw [Int.ediv_one]; omega
    simp only [hlt, if_true, e3]
    refine List.map_congr_left fun k _ => ?_
    omega
  · have : b - a = 0 := by omega
    simp [hlt, this]
theorem sliceIdx_cut (lo hi : Option Int) (n : Nat) : Builtin.Str.strSliceIndices lo hi 1 n = (List.range (HT.sIx n n hi - HT.sIx n 0 lo)).map fun k => HT.sIx n 0 lo + k := by
  unfold Builtin.Str.strSliceIndices
  simp only [show ((1 : Int) > 0) = True from by simp, if_true]
  cases lo with
  | none =>
    cases hi with
    | none => exact range_cut 0 n
    | some j => dsimp only; rw [clip_s j n n]; exact range_cut 0 _
  | some i =>
    cases hi with
    | none => dsimp only; rw [clip_s i n 0]; exact range_cut _ n
    | some j => dsimp only; rw [clip_s i n 0, clip_s j n n]; exact range_cut _ _
theorem slice_text (z : Str) (t : Tok) (l u : Option (Int × Tok)) : ∀ (Q : Value → Shared → Prop) (s : Shared), z.length ≤ sizeLine → (∀ t' s', s'.heap = s.heap → s'.gens = s.gens → s'.drawn = s.drawn → s'.os = s.os → Q (.str (cutS z (l.map (·.1)) (u.map (·.1))) t') s') → (sliceMade z t l u none).post Q s := by
  intro Q s hz h
  have hidx := sliceIdx_cut (l.map (·.1)) (u.map (·.1)) z.length
  have hle : HT.sIx z.length z.length (u.map (·.1)) ≤ z.length := HT.sIx_le _ _ (Nat.le_refl _) _
  have hlo : HT.sIx z.length 0 (l.map (·.1)) ≤ z.length := HT.sIx_le _ _ (Nat.zero_le _) _
  have hzl : z.length = z.cps.toList.length := by simp [Str.length]
  have cut : ((slicePicked z l u none).filterMap (z.cps[·]?)) = (z.cps.toList.drop (HT.sIx z.length 0 (l.map (·.1)))).take (HT.sIx z.length z.length (u.map (·.1)) - HT.sIx z.length 0 (l.map (·.1))) := by
    have p := StrLaws.picks z.cps.toList (HT.sIx z.length z.length (u.map (·.1)) - HT.sIx z.length 0 (l.map (·.1))) (HT.sIx z.length 0 (l.map (·.1))) (by omega)
    rw [← p]
    unfold slicePicked
    simp only [Option.map_none, Option.getD_none]
    rw [hidx]
    congr 1
    funext k
    simp
  unfold sliceMade
  split
  · rename_i c
    have whole : cutS z (l.map (·.1)) (u.map (·.1)) = z := by
      unfold cutS
      have e : (slicePicked z l u none).length = z.length := by
        simp only [Bool.and_eq_true, beq_iff_eq] at c
        exact c.2
      have e' : HT.sIx z.length z.length (u.map (·.1)) - HT.sIx z.length 0 (l.map (·.1)) = z.length := by
        unfold slicePicked at e
        simp only [Option.map_none, Option.getD_none] at e
        rw [hidx] at e
        simpa using e
      have e0 : HT.sIx z.length 0 (l.map (·.1)) = 0 := by omega
      rw [e', e0, List.drop_zero, hzl, List.take_length]
    have := h t s rfl rfl rfl rfl
    rw [whole] at this
    exact this
  · rw [cut]
    have hl' : (⟨((z.cps.toList.drop (HT.sIx z.length 0 (l.map (·.1)))).take (HT.sIx z.length z.length (u.map (·.1)) - HT.sIx z.length 0 (l.map (·.1)))).toArray⟩ : Str).length ≤ sizeLine := by
      have : (⟨((z.cps.toList.drop (HT.sIx z.length 0 (l.map (·.1)))).take (HT.sIx z.length z.length (u.map (·.1)) - HT.sIx z.length 0 (l.map (·.1)))).toArray⟩ : Str).length ≤ z.length := by
        simp only [Str.length, List.size_toArray, List.length_take, List.length_drop]
        have : z.cps.size = z.length := rfl
        omega
      omega
    first
      | exact ⟨hl', h _ _ rfl rfl rfl rfl⟩
      | exact h _ _ rfl rfl rfl rfl
def rSlS : V → Option Int → Option Int → Hp → VK → Prop := fun x lo hi H Q => ∃ z, x = .str z ∧ z.length ≤ sizeLine ∧ Q (.str (cutS z lo hi)) H
theorem sl_str {X : Cx} : SlR X rSlS := by
  intro pins s σ H x v vl vu lo hi sl Q I rx hs pl pu h
  obtain ⟨z, rfl, hz, q⟩ := h
  obtain ⟨t, rfl⟩ := rx
  refine ⟨"str", _, F.slot_str_getitem.lookup, typeIs_str s z t, ?_⟩
  have part : ∀ {v : Value} {o : Option Int}, IsPart v o → ∃ p : Option (Int × Tok), v = partValue p ∧ p.map (·.1) = o := fun {v o} p => by
    cases p with
    | none => exact ⟨none, rfl, rfl⟩
    | int i t => exact ⟨some (i, t), rfl, rfl⟩
  obtain ⟨l, rfl, rfl⟩ := part pl
  obtain ⟨u, rfl, rfl⟩ := part pu
  refine wpAny_getItem_str_slice (l := l) (u := u) (st := none) hs rfl (slice_text z t l u _ s hz fun t' s' e1 e2 e3 e4 => ⟨.str _, H, ?_, ⟨t', rfl⟩, q⟩)
  obtain ⟨hp, g, d, tk, os⟩ := s'
  cases e1; cases e2; cases e3; cases e4
  exact I.tok tk
theorem cutS_to (z : Str) (k : Nat) : (cutS z none (some (k : Int))).cps.toList = z.cps.toList.take k := by
  unfold cutS
  have hzl : z.length = z.cps.toList.length := by simp [Str.length]
  simp only [HT.sIx_nat, HT.sIx_none, List.drop_zero, Nat.sub_zero]
  rcases Nat.le_total k z.length with h | h
  · rw [Nat.min_eq_left h]
  · rw [Nat.min_eq_right h, hzl, List.take_length]
    exact (List.take_of_length_le (by omega)).symm
theorem call_isinst {X : Cx} : CallR X (.builtin "isinstance") (fun vs H Q => ∃ x t T b, vs = [x, .ty T] ∧ TyOf X.K H x t ∧ PySem.W.kitOne X.K t (.type T) = some b ∧ Q (.bl b) H) := by
  intro pins s σ H xs us Q I r h
  obtain ⟨x, t, T, b, rfl, ty, e, q⟩ := h
  obtain ⟨u, v, rfl, ru, rv⟩ := vals2 r
  cases (show v = Value.type T from rv)
  exact isinst_ok I ru ty e fun tk => ⟨.bl b, H, I.tok tk, rfl, q⟩
end L2
namespace L2
open PySem PySem.Spec PyProof.Rows
theorem csc {X : Cx} {scope : Scope} {NL : List Str} {ix : List Nat} (esc : Scope) (N : List Str) (h1 : X.env.scope = esc := by rfl) (h2 : X.N = N := by rfl) (c1 : scope.kind = .function := by rfl)
    (c2 : ∀ y ∈ scope.names, y.2 ≠ .cell := by decide +kernel) (c3 : ∀ y ∈ scope.names, y.2 = .local → scope.names.lookup y.1 = some .local := by decide +kernel)
    (c4 : ∀ y ∈ scope.names, y.2 = .free → esc.names.lookup y.1 = some .cell ∨ esc.names.lookup y.1 = some .free := by decide +kernel)
    (c5 : ∀ j ∈ ix, (N[j]?).bind (fun x => scope.names.lookup x) = some .free := by decide +kernel) : CompScope X scope NL ix where
  kind := c1
  cell := c2
  names := c3
  free := fun y hy hf => by
    have := c4 y hy hf
    rw [← h1] at this
    exact this
  cap := fun j hj => by
    have := c5 j hj
    rw [h2]
    cases e : N[j]? with
    | none => rw [e] at this; cases this
    | some x => rw [e] at this; exact ⟨x, rfl, this⟩
def Has (P : Program) (w : World) (K : PySem.W.Frag) (mg : Str → Option Value) (base : Heap) (x : Str) (k : Nat) (ps : List Str) (sp : Sp) : Prop :=
  ∃ f fd, FnOk P w K mg base CX0 k f fd ps sp ∧ Binds K fd ps [] ∧ PySem.W.keepIn K (.ref f) = true ∧ mg x = some (.ref f)
section
variable {P : Program} {w : World} {K : PySem.W.Frag} {mg : Str → Option Value} {base : Heap}
theorem Has.mono {x : Str} {j k : Nat} {ps : List Str} {sp : Sp} (G : Has P w K mg base x j ps sp) (h : j ≤ k) : Has P w K mg base x k ps sp :=
  let ⟨f, fd, F, r⟩ := G; ⟨f, fd, F.mono h, r⟩
def Df (K : PySem.W.Frag) (mg : Str → Option Value) (x : Str) (st : Stmt) : Prop := ∃ f fd, Fun K x x st f fd ∧ mg x = some (.ref f)
theorem Df.has {x : Str} {st : Stmt} {N ps : List Str} {k : Nat} {sp : Sp} (D : Df K mg x st) (S : FnScope N ps (defScope st))
    (hb : ∀ (kV doc pm : Value) (an : Option Addr) (cdv ct : Value) (us : List Value), us.length = ps.length → bindArgs (PySem.W.fnOf x x (defArgs st) (defBody st) (defScope st) .none kV doc pm an cdv ct) ⟨us, []⟩ = pure (ps.zip us))
    (len : ∀ vs H Q E, sp vs H Q E → vs.length = ps.length)
    (hbody : ∀ (f : Addr) (cdv : Value) (A : Around) (outer : List Env) (s : Shared) (H : Hp) (vs : List V) (Q : VK) (E : XK), Room k (A.deeper (envOfC x (defScope st) s.heap.objs.size f cdv)) → sp vs H Q E →
      ∃ t, PSs (cxOf CX0 P w K mg base N x (defScope st) f cdv A outer s H E).nox (defBody st) t ∧ t { nx := fun _ H' => Q .non H', rt := Q } (start N vs) H) : Has P w K mg base x (k + 1) ps sp := by
  obtain ⟨f, fd, F, m⟩ := D
  exact ⟨f, fd, F.ok S len fun cdv A outer s H vs Q E hr h => hbody f cdv A outer s H vs Q E hr h, F.binds hb, F.kp, m⟩
end
theorem pe_callH {X : Cx} {x : Str} {k : Nat} {ps : List Str} {sp : Sp} {p pos : Pos} {e : Expr} {es : List Expr} {t : TA} (G : Has X.prog X.w X.K X.mg X.base x k ps sp) (hr : Room k X.A) (hg : Gl X x) (ha : PA X (e :: es) t)
    (hdb : (x == ("__debug__" : Str)) = false := by decide) (he : starEach (e :: es) X.env = (false, eval e X.env) :: starEach es X.env := by rfl) (hpl : (backTo pos (starEach es X.env)).any (·.1) = false := by rfl) :
    PE X (.Call (.Name x p) (e :: es) [] pos) (tCall sp [] E0 t) := by
  obtain ⟨f, fd, F, b, kp, m⟩ := G
  exact pe_call F hr hg m kp b .nil pass0 ha hdb he hpl
structure Blt (mg : Str → Option Value) : Prop where
  len : mg "len" = none
  range : mg "range" = none
  zip : mg "zip" = none
  enumerate : mg "enumerate" = none
  max : mg "max" = none
  min : mg "min" = none
  int_ : mg "int" = none
  str_ : mg "str" = none
  bool_ : mg "bool" = none
  list_ : mg "list" = none
  tuple_ : mg "tuple" = none
  isinstance : mg "isinstance" = none
abbrev Pool (H : Hp) (p : Addr) : Prop := ∃ x y : Int, H p = some (.lst [.int x, .int y])
structure Kp (p : Addr) (H H' : Hp) : Prop where
  pool : Pool H' p
  keep : ∀ b o, b ≠ p → H b = some o → H' b = some o
section
variable {p q : Addr} {H H1 H2 : Hp} {o : HO}
theorem Kp.refl (h : Pool H p) : Kp p H H := ⟨h, fun _ _ _ e => e⟩
theorem Kp.trans (a : Kp p H H1) (b : Kp p H1 H2) : Kp p H H2 := ⟨b.pool, fun c u hc e => b.keep c u hc (a.keep c u hc e)⟩
theorem Kp.new (a : Kp p H H1) (hq : H1 q = none) : Kp p H (upd H1 q o) := by
  obtain ⟨⟨x, y, e⟩, k⟩ := a
  refine ⟨⟨x, y, by rw [upd_ne (ne_of_none e hq)]; exact e⟩, fun c u hc h => ?_⟩
  have := k c u hc h
  rw [upd_ne (ne_of_none this hq)]; exact this
theorem Kp.write (a : Kp p H H1) (hq : H q = none) (hp : q ≠ p) : Kp p H (upd H1 q o) := by
  obtain ⟨⟨x, y, e⟩, k⟩ := a
  refine ⟨⟨x, y, by rw [upd_ne (Ne.symm hp)]; exact e⟩, fun c u hc h => ?_⟩
  rw [upd_ne (ne_of_none h hq)]; exact k c u hc h
theorem Pool.ne (h : Pool H p) (hq : H q = none) : q ≠ p := by
  obtain ⟨x, y, e⟩ := h
  exact Ne.symm (ne_of_none e hq)
end
theorem bt_len : bootBuiltins "len" = some (.builtin "len") := by decide +kernel
theorem bt_max : bootBuiltins "max" = some (.builtin "max") := by decide +kernel
theorem bt_min : bootBuiltins "min" = some (.builtin "min") := by decide +kernel
theorem bt_sorted : bootBuiltins "sorted" = some (.builtin "sorted") := by decide +kernel
theorem bt_isinstance : bootBuiltins "isinstance" = some (.builtin "isinstance") := by decide +kernel
theorem bt_int : bootBuiltins "int" = some (.type "int") := by decide +kernel
theorem bt_str : bootBuiltins "str" = some (.type "str") := by decide +kernel
theorem bt_bool : bootBuiltins "bool" = some (.type "bool") := by decide +kernel
theorem bt_list : bootBuiltins "list" = some (.type "list") := by decide +kernel
theorem bt_tuple : bootBuiltins "tuple" = some (.type "tuple") := by decide +kernel
theorem Same.new {H0 H : Hp} {q : Addr} {o : HO} (h : Same H0 H) (hq : H q = none) : Same H0 (upd H q o) := fun b u e => by
  have := h b u e
  rw [upd_ne (ne_of_none this hq)]; exact this
theorem Same.write {H0 H : Hp} {q : Addr} {o : HO} (h : Same H0 H) (hq : H0 q = none) : Same H0 (upd H q o) := fun b u e => by
  rw [upd_ne (ne_of_none e hq)]; exact h b u e
theorem app_list (a y : Str) : (a ++ y).cps.toList = a.cps.toList ++ y.cps.toList := by
  show (a.cps ++ y.cps).toList = _
  simp
end L2
namespace L2
open PySem PySem.Spec PyProof.Rows
section
variable {X : Cx}
theorem mt_startswith : MtR X "str.startswith" (fun x vs H Q => ∃ z p, x = .str z ∧ vs = [.str p] ∧ Q (.bl (Txt.startswith z p)) H) := by
  intro pins s σ H x xs v us Q I rx rv h
  obtain ⟨z, p, rfl, rfl, q⟩ := h
  obtain ⟨t, rfl⟩ := rx
  obtain ⟨u, rfl, t', rfl⟩ := rv.one
  exact SC.startswith ⟨.bl _, H, I, rfl, q⟩
theorem pe_starts {o e : Expr} {to te : TE} {apos cpos : Pos} (ho : PE X o to) (he : PE X e te) (hbase : attributeBase o "startswith" X.env (eval o X.env) = eval o X.env := by rfl)
    (h1 : starEach [e] X.env = [(false, eval e X.env)] := by rfl) (hl : (apos.endLine == cpos.line) = true := by rfl) :
    PE X (.Call (.Attribute o "startswith" apos) [e] [] cpos) (tBM X.K "str" (fun x vs H Q => ∃ z p, x = .str z ∧ vs = [.str p] ∧ Q (.bl (Txt.startswith z p)) H) to (tCons te tNil)) :=
  pe_bm PySem.F.plainAttrs_str PySem.F.slot_str_startswith PySem.F.type_str_startswith mt_startswith ho (pa_cons he pa_nil h1) hbase (by rw [h1]; rfl) hl h1 (by rfl)
theorem pifs_startsK (K : PySem.W.Frag) {o e : Expr} {to te : TE} {apos cpos : Pos} (ho : PE X o to) (he : PE X e te) (hK : X.K = K := by rfl) (hbase : attributeBase o "startswith" X.env (eval o X.env) = eval o X.env := by rfl)
    (h1 : starEach [e] X.env = [(false, eval e X.env)] := by rfl) (hl : (apos.endLine == cpos.line) = true := by rfl) :
    PIfs X [.Call (.Attribute o "startswith" apos) [e] [] cpos] (tB (tBM K "str" (fun x vs H Q => ∃ z p, x = .str z ∧ vs = [.str p] ∧ Q (.bl (Txt.startswith z p)) H) to (tCons te tNil))) := by
  subst hK
  exact pifs_one (pt_val (pe_starts ho he hbase h1 hl))
theorem strsAre_of : ∀ {ys : List Str} {us : List Value}, Vals (ys.map V.str) us → StrsAre us ys
  | [], [], _ => .nil
  | [], _ :: _, h => nomatch h
  | _ :: _, [], h => nomatch h
  | y :: r, u :: us, h => by
    cases h with
    | cons a b =>
      obtain ⟨t, rfl⟩ := a
      exact .cons y t (strsAre_of b)
theorem op_mul_str : OpR X (binaryOp .Mult) (fun x y H Q => ∃ z n, x = .str z ∧ y = .int n ∧ MulOk z n ∧ Q (.str (Txt.mul z n)) H) := by
  intro pins s σ H x y v u Q I rx ry h
  obtain ⟨z, n, rfl, rfl, hok, q⟩ := h
  obtain ⟨t, rfl⟩ := rx
  obtain ⟨t', rfl⟩ := ry
  exact SB.mul hok fun t' k => ⟨.str _, H, I.tok k, ⟨t', rfl⟩, q⟩
theorem flat_strs (ns : List Str) : (ns.map V.str).all flatV = true := by
  rw [List.all_eq_true]; intro x hx; obtain ⟨n, _, rfl⟩ := List.mem_map.mp hx; rfl
end
section
variable {NL : List Str} {ix : List Nat} {g : TG} {tt : TT} {te : TE} {σ : St} {H1 : Hp} {Qs : Hp → Prop} {acc : Addr}
theorem comp_lst {K : PySem.W.Frag} {a : Addr} {xs : List V} (hn : xs.length < 1000) (Pv : Nat → List V → Hp → Prop)
    (hl : ∀ i ys H2, Pv i ys H2 → SqL K H2 a xs) (hacc : ∀ i ys H2, Pv i ys H2 → H2 acc = some (.lst ys) ∧ ys.length ≤ i) (h0 : Pv 0 [] (upd H1 acc (.lst []))) (hstop : ∀ ys H2, Pv xs.length ys H2 → Qs H2)
    (hturn : ∀ i x ys H2, xs[i]? = some x → Pv i ys H2 → g x (comp0 NL ix σ) H2 fun σ' H4 => σ'.drop NL.length = ix.map (fun j => σ.getD j none) ∧ tt σ' H4 fun b H5 =>
      if b = true then te σ' H5 fun v H6 => H6 acc = some (.lst ys) ∧ Pv (i + 1) (ys ++ [v]) (upd H6 acc (.lst (ys ++ [v]))) else Pv (i + 1) ys H5) :
    ∃ W : Nat → Nat → List V → Hp → Prop, (∃ m, W 0 m [] (upd H1 acc (.lst []))) ∧
    ∀ i m ys H2, W i m ys H2 → H2 acc = some (.lst ys) ∧ ys.length < sizeLine ∧
      (((Itl K a).stop i H2 ∧ Qs H2) ∨ ((Itl K a).go i H2 ∧ ∃ N : List V → Hp → Prop, (∀ ys' H', N ys' H' → ∃ m', m' < m ∧ W (i + 1) m' ys' H') ∧
        ∀ x H3, (Itl K a).yld i H2 x H3 → g x (comp0 NL ix σ) H3 fun σ' H4 => σ'.drop NL.length = ix.map (fun j => σ.getD j none) ∧ tt σ' H4 fun b H5 =>
          if b = true then te σ' H5 fun v H6 => H6 acc = some (.lst ys) ∧ N (ys ++ [v]) (upd H6 acc (.lst (ys ++ [v]))) else N ys H5)) := by
  refine comp_by xs.length hn Pv hacc h0 (fun ys H2 hp => ⟨⟨xs, hl _ _ _ hp, Nat.le_refl _⟩, hstop ys H2 hp⟩) fun i ys H2 hi hp => ?_
  have hs := hl _ _ _ hp
  refine ⟨⟨xs, xs[i], hs, List.getElem?_eq_getElem hi⟩, ?_⟩
  rintro x H3 ⟨rfl, hx⟩
  exact hturn i x ys H3 (hx xs hs) hp
end
theorem kit_int_bool (K : PySem.W.Frag) : PySem.W.kitOne K (.type "int") (.type "bool") = some false := by rfl
theorem kit_same (K : PySem.W.Frag) (T : String) : PySem.W.kitOne K (.type T) (.type T) = some true := by
  unfold PySem.W.kitOne
  rw [if_pos (beq_self_eq_true _)]
theorem foldl_repN (xs : Array Nat) : ∀ (n : Nat) (acc : Array Nat), ((List.replicate n xs).foldl (· ++ ·) acc).size = acc.size + n * xs.size
  | 0, acc => by simp
  | n + 1, acc => by
    rw [List.replicate_succ, List.foldl_cons, foldl_repN xs n, Array.size_append, Nat.succ_mul]
    omega
theorem mul_len {c : Nat} {n : Int} (h : 0 ≤ n) : (Txt.mul ⟨#[c]⟩ n).cps.toList.length = n.toNat := by
  unfold Txt.mul
  split
  · have : n.toNat = 0 := by omega
    rw [this]; rfl
  · split
    · rename_i h1 h2
      have h3 : n = 1 := by
        simp only [Bool.or_eq_true, beq_iff_eq] at h2
        rcases h2 with h2 | h2
        · exact h2
        · have h4 : (⟨#[c]⟩ : Str).length = 1 := rfl
          omega
      subst h3; rfl
    · rw [Array.length_toList]
      show (List.foldl (· ++ ·) #[] (List.replicate n.toNat #[c])).size = n.toNat
      rw [foldl_repN]
      simp
abbrev Deck (H : Hp) (p : Addr) (c : Int) : Prop := ∃ x y z : Int, H p = some (.lst [.int x, .int y, .int z]) ∧ 0 ≤ z ∧ z ≤ c
structure Kd (p : Addr) (c : Int) (H H' : Hp) : Prop where
  deck : Deck H' p c
  keep : ∀ b o, b ≠ p → H b = some o → H' b = some o
section
variable {p q : Addr} {H H1 H2 : Hp} {o : HO} {c d : Int}
theorem Deck.mono (h : Deck H p c) (e : c ≤ d) : Deck H p d := let ⟨x, y, z, a, b, f⟩ := h; ⟨x, y, z, a, b, Int.le_trans f e⟩
theorem Kd.mono (h : Kd p c H H1) (e : c ≤ d) : Kd p d H H1 := ⟨h.deck.mono e, h.keep⟩
theorem Kd.refl (h : Deck H p c) : Kd p c H H := ⟨h, fun _ _ _ e => e⟩
theorem Kd.trans (a : Kd p c H H1) (b : Kd p d H1 H2) : Kd p d H H2 := ⟨b.deck, fun k u hc e => b.keep k u hc (a.keep k u hc e)⟩
theorem Kd.new (a : Kd p c H H1) (hq : H1 q = none) : Kd p c H (upd H1 q o) := by
  obtain ⟨⟨x, y, z, e, r⟩, k⟩ := a
  refine ⟨⟨x, y, z, by rw [upd_ne (ne_of_none e hq)]; exact e, r⟩, fun b u hc h => ?_⟩
  have := k b u hc h
  rw [upd_ne (ne_of_none this hq)]; exact this
theorem Kd.write (a : Kd p c H H1) (hq : H q = none) (hp : q ≠ p) : Kd p c H (upd H1 q o) := by
  obtain ⟨⟨x, y, z, e, r⟩, k⟩ := a
  refine ⟨⟨x, y, z, by rw [upd_ne (Ne.symm hp)]; exact e, r⟩, fun b u hc h => ?_⟩
  rw [upd_ne (ne_of_none h hq)]; exact k b u hc h
theorem Deck.ne (h : Deck H p c) (hq : H q = none) : q ≠ p := by
  obtain ⟨x, y, z, e, _⟩ := h
  exact Ne.symm (ne_of_none e hq)
theorem Kd.same (a : Kd p c H H1) (s : Same H1 H2) : Kd p c H H2 := by
  obtain ⟨⟨x, y, z, e, r⟩, k⟩ := a
  exact ⟨⟨x, y, z, s _ _ e, r⟩, fun b u hc h => s _ _ (k b u hc h)⟩
theorem Kd.fresh (a : Kd p c H H1) (hq : H1 q = none) : H q = none := by
  cases e : H q with
  | none => rfl
  | some u =>
    have := a.keep q u (a.deck.ne hq) e
    rw [hq] at this; cases this
theorem ne_deck {o : HO} (h : Deck H p c) (e : H q = some o) (ho : ∀ x y z : Int, o ≠ .lst [.int x, .int y, .int z]) : q ≠ p := fun k => by
  obtain ⟨x, y, z, hp, _⟩ := h
  subst k
  rw [hp] at e
  exact ho x y z (Option.some.inj e).symm
end
end L2
namespace L2
open PySem PySem.Spec PyProof.Rows
section
variable {X : Cx}
theorem strsAre_get {vs : List Value} {ss : List Str} (h : StrsAre vs ss) : Vals (ss.map V.str) vs := by
  induction h with
  | nil => exact .nil
  | cons y t _ ih => exact .cons ⟨t, rfl⟩ ih
theorem call_sorted_strs : CallR X (.builtin "sorted") (fun vs H Q => ∃ (a : Addr) (ss : List Str), vs = [.ref a] ∧ SqL X.K H a (ss.map V.str) ∧ ss.length < 64 ∧
    ∀ (ss' : List Str) (l : Addr), ss'.Perm ss → sortedS ss' = true → H l = none → Q (.ref l) (upd H l (.lst (ss'.map V.str)))) := by
  intro pins s σ H xs us Q I r h
  obtain ⟨a, ss, rfl, hl, h64, q⟩ := h
  obtain ⟨u, rfl, ru⟩ := vals1 r
  cases (show u = Value.ref a from ru)
  obtain ⟨its, rv, ht, hz⟩ := I.list hl
  have hlen := rv.length
  rw [List.length_map] at hlen
  refine sorted_strs ht.isList (strsAre_of rv) (by omega) fun out ss' a1 a2 a3 => ?_
  obtain ⟨e, he⟩ := sortedAll_at s.heap its out
  have l2 := a2.length_eq
  refine ⟨.ref (s.heap.objs.size + 1), _, I.laid (t' := s.toks) (fun _ _ => sortedAll_old) (Nat.le_succ _) (show ObjOk X.prog X.w _ _ _ (.lst (ss'.map V.str)) from ⟨?_, out.toList, e, strsAre_get a1, he⟩), rfl, q ss' _ a2 a3 (I.hok.fresh (Nat.le_succ _))⟩
  rw [List.length_map]
  exact Nat.le_of_lt (small1000 (by omega))
end
end L2
namespace L2
open PySem.W PyProof.Rows
section
variable {α β : Type} {n : Nat} {lt : Nat → Nat → Bool}
structure TotB (n : Nat) (lt : Nat → Nat → Bool) : Prop where
  asym : ∀ i j, lt i j = true → lt j i = false
  tr : ∀ i j k, lt j i = false → lt k j = false → lt k i = false
  tot : ∀ i j, i < n → j < n → lt i j = false → lt j i = false → i = j
def PermN (n : Nat) (p : Array Nat) : Prop := p.toList.Perm (List.range n)
theorem PermN.sz {p : Array Nat} (h : PermN n p) : p.size = n := by
  have := List.Perm.length_eq h
  simpa using this
theorem PermN.below {p : Array Nat} (h : PermN n p) (h0 : 0 < n) (k : Nat) : p.getD k 0 < n := by
  rw [Array.getD_eq_getD_getElem?]
  cases e : p[k]? with
  | none => exact h0
  | some x =>
    have : x ∈ p.toList := by
      have := Array.mem_of_getElem? e
      exact Array.mem_toList_iff.mpr this
    exact List.mem_range.mp ((List.Perm.mem_iff h).mp this)
theorem PermN.inj {p : Array Nat} (h : PermN n p) {i j : Nat} (hi : i < n) (hj : j < n) (e : p.getD i 0 = p.getD j 0) : i = j := by
  have nd : p.toList.Nodup := (List.Perm.nodup_iff h).mpr List.nodup_range
  have s := h.sz
  have hi' : i < p.toList.length := by rw [Array.length_toList, s]; exact hi
  have hj' : j < p.toList.length := by rw [Array.length_toList, s]; exact hj
  rw [Array.getD_eq_getD_getElem?, Array.getD_eq_getD_getElem?, Array.getElem?_eq_getElem (by omega), Array.getElem?_eq_getElem (by omega)] at e
  have e' : p.toList[i] = p.toList[j] := by simpa using e
  exact (List.getElem_inj nd).mp e'
variable (o : TotB n lt)
include o
end
open PySem PySem.Spec
def shV : V → Nat
  | .int _ => 1
  | .str _ => 2
  | _ => 0
def ltV : V → V → Bool
  | .int i, .int j => decide (i < j)
  | .str a, .str b => decide (a.cps.toList < b.cps.toList)
  | _, _ => false
def lexV : List V → List V → Bool
  | x :: xs, y :: ys => if x = y then lexV xs ys else ltV x y
  | [], _ :: _ => true
  | _, _ => false
theorem str_eq {a b : Str} (h : a.cps.toList = b.cps.toList) : a = b := by
  obtain ⟨x⟩ := a; obtain ⟨y⟩ := b
  have : x = y := Array.toList_inj.mp h
  rw [this]
theorem two_kinds {x y : V} (hs : shV x = shV y) (h0 : shV x ≠ 0) : (∃ i j, x = .int i ∧ y = .int j) ∨ ∃ a b, x = .str a ∧ y = .str b := by
  cases x <;> cases y <;> simp [shV] at hs h0 ⊢
theorem ltV_asym {x y : V} (h : ltV x y = true) : ltV y x = false := by
  cases x <;> cases y <;> simp [ltV] at h ⊢
  · omega
  · exact List.not_lt.mp (List.lt_asymm h)
theorem ltV_tot {x y : V} (hs : shV x = shV y) (h0 : shV x ≠ 0) (h1 : ltV x y = false) (h2 : ltV y x = false) : x = y := by
  rcases two_kinds hs h0 with ⟨i, j, rfl, rfl⟩ | ⟨a, b, rfl, rfl⟩
  · have h1' : ¬ i < j := of_decide_eq_false h1
    have h2' : ¬ j < i := of_decide_eq_false h2
    rw [show i = j by omega]
  · have h1' : ¬ a.cps.toList < b.cps.toList := of_decide_eq_false h1
    have h2' : ¬ b.cps.toList < a.cps.toList := of_decide_eq_false h2
    rw [str_eq (List.le_antisymm (List.not_lt.mp h2') (List.not_lt.mp h1'))]
theorem ltV_tr {x y z : V} (hs : shV x = shV y) (ht : shV y = shV z) (h0 : shV x ≠ 0) (h1 : ltV y x = false) (h2 : ltV z y = false) : ltV z x = false := by
  rcases two_kinds hs h0 with ⟨i, j, rfl, rfl⟩ | ⟨a, b, rfl, rfl⟩
  · rcases two_kinds ht (by simp [shV]) with ⟨_, k, e, rfl⟩ | ⟨_, _, e, _⟩
    · have h1' : ¬ j < i := of_decide_eq_false h1
      cases e
      have h2' : ¬ k < j := of_decide_eq_false h2
      exact decide_eq_false (by omega)
    · cases e
  · rcases two_kinds ht (by simp [shV]) with ⟨_, _, e, _⟩ | ⟨_, c, e, rfl⟩
    · cases e
    · cases e
      have h1' : ¬ b.cps.toList < a.cps.toList := of_decide_eq_false h1
      have h2' : ¬ c.cps.toList < b.cps.toList := of_decide_eq_false h2
      exact decide_eq_false (List.not_lt.mpr (List.le_trans (List.not_lt.mp h1') (List.not_lt.mp h2')))
theorem lexV_asym : ∀ (xs ys : List V), lexV xs ys = true → lexV ys xs = false
  | x :: xs, y :: ys, h => by
    unfold lexV at h ⊢
    by_cases e : x = y
    · rw [if_pos e] at h; rw [if_pos e.symm]; exact lexV_asym xs ys h
    · rw [if_neg e] at h; rw [if_neg (Ne.symm e)]; exact ltV_asym h
  | [], _ :: _, _ => rfl
  | [], [], h => by cases h
  | _ :: _, [], h => by cases h
theorem lexV_tot : ∀ (xs ys : List V), xs.map shV = ys.map shV → 0 ∉ xs.map shV → lexV xs ys = false → lexV ys xs = false → xs = ys
  | x :: xs, y :: ys, hs, h0, h1, h2 => by
    simp only [List.map_cons, List.cons.injEq] at hs
    simp only [List.map_cons, List.mem_cons, not_or] at h0
    unfold lexV at h1 h2
    by_cases e : x = y
    · rw [if_pos e] at h1; rw [if_pos e.symm] at h2
      rw [e, lexV_tot xs ys hs.2 h0.2 h1 h2]
    · rw [if_neg e] at h1; rw [if_neg (Ne.symm e)] at h2
      exact absurd (ltV_tot hs.1 (Ne.symm h0.1) h1 h2) e
  | [], [], _, _, _, _ => rfl
  | [], _ :: _, hs, _, _, _ => by cases hs
  | _ :: _, [], hs, _, _, _ => by cases hs
theorem lexV_tr : ∀ (xs ys zs : List V), xs.map shV = ys.map shV → ys.map shV = zs.map shV → 0 ∉ xs.map shV → lexV ys xs = false → lexV zs ys = false → lexV zs xs = false
  | x :: xs, y :: ys, z :: zs, hs, ht, h0, h1, h2 => by
    simp only [List.map_cons, List.cons.injEq] at hs ht
    simp only [List.map_cons, List.mem_cons, not_or] at h0
    unfold lexV at h1 h2 ⊢
    by_cases e : y = x
    · rw [if_pos e] at h1
      by_cases f : z = y
      · rw [if_pos f] at h2; rw [if_pos (f.trans e)]; exact lexV_tr xs ys zs hs.2 ht.2 h0.2 h1 h2
      · rw [if_neg f] at h2; rw [if_neg (fun q => f (q.trans e.symm)), ← e]; exact h2
    · rw [if_neg e] at h1
      by_cases f : z = y
      · rw [if_pos f] at h2; rw [if_neg (fun q => e (f.symm.trans q)), f]; exact h1
      · rw [if_neg f] at h2
        by_cases g : z = x
        · exact absurd (ltV_tot hs.1.symm (by rw [← hs.1]; exact Ne.symm h0.1) h1 (by rw [← g]; exact h2)) e
        · rw [if_neg g]; exact ltV_tr hs.1 ht.1 (Ne.symm h0.1) h1 h2
  | [], [], [], _, _, _, _, _ => rfl
  | [], _ :: _, _, hs, _, _, _, _ => by cases hs
  | _ :: _, [], _, hs, _, _, _, _ => by cases hs
  | [], [], _ :: _, _, ht, _, _, _ => by cases ht
  | _ :: _, _ :: _, [], _, ht, _, _, _ => by cases ht
structure Keys (n : Nat) (K : Nat → List V) (sh : List Nat) : Prop where
  shp : ∀ i, (K i).map shV = sh
  ne : sh ≠ []
  z : 0 ∉ sh
  inj : ∀ i j, i < n → j < n → K i = K j → i = j
theorem Keys.tot {n : Nat} {K : Nat → List V} {sh : List Nat} (k : Keys n K sh) : TotB n (fun i j => lexV (K i) (K j)) where
  asym := fun i j h => lexV_asym _ _ h
  tr := fun i j l h1 h2 => lexV_tr _ _ _ ((k.shp i).trans (k.shp j).symm) ((k.shp j).trans (k.shp l).symm) (by rw [k.shp]; exact k.z) h1 h2
  tot := fun i j hi hj h1 h2 => k.inj i j hi hj (lexV_tot _ _ ((k.shp i).trans (k.shp j).symm) (by rw [k.shp]; exact k.z) h1 h2)
section
variable {prog : Program} {w : World} {A : Around} {E : Value → Shared → Prop} {s : Shared} {Q : Bool → Shared → Prop}
def KeysOn (h : Heap) (ks : List Value) (K : Nat → List V) : Prop := ∀ (i : Nat) (v : Value), ks[i]? = some v → ∃ a its, v = .ref a ∧ IsTup h a its.toArray ∧ Vals (K i) its
theorem KeysOn.keeps {h h' : Heap} {ks : List Value} {K : Nat → List V} (x : KeysOn h ks K) (k : ∀ b o, o.cls = .type "tuple" → h.get? b = some o → h'.get? b = some o) : KeysOn h' ks K := fun i v hv => by
  obtain ⟨a, its, rfl, ⟨o, ho, hc, r⟩, q⟩ := x i v hv
  exact ⟨a, its, rfl, ⟨o, k _ _ hc ho, hc, r⟩, q⟩
variable {n : Nat} {K : Nat → List V} {sh : List Nat} {ks : List Value}
end
end L2
namespace L2
open PySem PySem.Spec PyProof.Rows PySem.W
section
variable {prog : Program} {w : World} {A : Around} {E : Value → Shared → Prop} {s : Shared} {K : Nat → List V} {sh : List Nat} {vs : List Value}
end
section
variable {X : Cx}
end
end L2
namespace L2
open PySem PySem.Spec PyProof.Rows PySem.W
section
variable {X : Cx} {pins : List (Addr × Obj)} {σ : St} {H : Hp} {s : Shared}
end
end L2
namespace L2
open PySem PySem.Spec PyProof.Rows PySem.W
def codeO (c : Addr) (qual : Str) : HO := .ext fun h => h.CodeRec (.ref c) qual
def LamAt (P : Addr) (lp : Pos) (qual : Str) (H : Hp) : Prop := ∃ ps, H P = some (.tbl ps) ∧ TriplesOk ps.toList ∧ (codeAmong lp ps.toList = none ∨ ∃ c, codeAmong lp ps.toList = some (.ref c) ∧ H c = some (codeO c qual))
abbrev Lm := Addr × Pos × Str
def Lams (ls : List Lm) (H : Hp) : Prop := ∀ l ∈ ls, LamAt l.1 l.2.1 l.2.2 H
structure Kt (ls : List Lm) (H H' : Hp) : Prop where
  lam : Lams ls H'
  keep : ∀ b o, (∀ ps, o ≠ .tbl ps) → H b = some o → H' b = some o
  here : ∀ b, H' b = none → H b = none
section
variable {P q : Addr} {lp : Pos} {qual : Str} {H H1 H2 : Hp} {o : HO} {ls : List Lm} {xs : List V}
theorem LamAt.same (a : LamAt P lp qual H) (s : Same H H1) : LamAt P lp qual H1 := by
  obtain ⟨ps, a, b, c⟩ := a
  refine ⟨ps, s _ _ a, b, ?_⟩
  rcases c with c | ⟨d, c, e⟩
  · exact .inl c
  · exact .inr ⟨d, c, s _ _ e⟩
theorem LamAt.start (h : H P = some (.tbl #[])) : LamAt P lp qual H := ⟨#[], h, trivial, .inl rfl⟩
theorem Lams.same (a : Lams ls H) (s : Same H H1) : Lams ls H1 := fun l hl => (a l hl).same s
theorem LamAt.write (a : LamAt P lp qual H) (h : H q = some (.lst xs)) : LamAt P lp qual (upd H q o) := by
  obtain ⟨ps, a, b, c⟩ := a
  refine ⟨ps, by rw [upd_ne (ne_of a h (by intro z; cases z))]; exact a, b, ?_⟩
  rcases c with c | ⟨d, c, e⟩
  · exact .inl c
  · exact .inr ⟨d, c, by rw [upd_ne (ne_of e h (by intro z; cases z))]; exact e⟩
theorem Kt.refl (a : Lams ls H) : Kt ls H H := ⟨a, fun _ _ _ e => e, fun _ e => e⟩
theorem Kt.trans (a : Kt ls H H1) (b : Kt ls H1 H2) : Kt ls H H2 := ⟨b.lam, fun c u hc e => b.keep c u hc (a.keep c u hc e), fun c e => a.here c (b.here c e)⟩
theorem Kt.same (a : Kt ls H H1) (s : Same H1 H2) : Kt ls H H2 := ⟨a.lam.same s, fun c u hc e => s _ _ (a.keep c u hc e), fun c e => a.here c (s.free e)⟩
theorem Kt.of (s : Same H H1) (a : Lams ls H) : Kt ls H H1 := (Kt.refl a).same s
theorem Kt.write (a : Kt ls H H1) (hq : H q = none) (h : H1 q = some (.lst xs)) : Kt ls H (upd H1 q o) :=
  ⟨fun l hl => (a.lam l hl).write h, fun b u hb e => by rw [upd_ne (ne_of_none e hq)]; exact a.keep b u hb e, fun b e => by
    by_cases z : b = q
    · rw [z, upd_same] at e; cases e
    · rw [upd_ne z] at e; exact a.here b e⟩
theorem Kt.lst (a : Kt ls H H1) (h : H q = some (.lst xs)) : H1 q = some (.lst xs) := a.keep _ _ (fun _ z => by cases z) h
theorem Kt.tup (a : Kt ls H H1) (h : H q = some (.tup xs)) : H1 q = some (.tup xs) := a.keep _ _ (fun _ z => by cases z) h
theorem Kt.seq {K : PySem.W.Frag} (a : Kt ls H H1) (h : SqL K H q xs) : SqL K H1 q xs := by
  rcases h with (h | ⟨ob, h⟩) | h
  · exact .inl (.inl (a.lst h))
  · exact .inl (.inr ⟨ob, a.keep _ _ (fun _ z => by cases z) h⟩)
  · exact .inr h
end
section
variable {X : Cx} {pins : List (Addr × Obj)} {σ : St} {H : Hp} {s : Shared}
end
end L2
namespace L2
open PySem PySem.Spec PyProof.Rows PySem.W
section
variable {prog : Program} {w : World} {A : Around} {E : Value → Shared → Prop} {s : Shared}
end
section
variable {X : Cx}
end
end L2
namespace L2
open PySem PySem.Spec PyProof.Rows PySem.W
structure TabAt (base : Heap) (mg : Str → Option Value) (nm : Str) (T : Addr) : Prop where
  fn : ∃ a o fd c, mg nm = some (.ref a) ∧ base.get? a = some o ∧ o.data = .func fd ∧ fd.code = .ref c ∧ CodeHd base c T
  blt : base.BuiltinsAt mg T
inductive Two {α β : Type} (R : α → β → Prop) : List α → List β → Prop
  | nil : Two R [] []
  | cons {a b xs ys} : R a b → Two R xs ys → Two R (a :: xs) (b :: ys)
end L2
namespace L2
open PySem PySem.Spec PyProof.Rows PySem.W
theorem ix_listK {X : Cx} (K : PySem.W.Frag) (hK : X.K = K := by rfl) : IxR X (rIxL K) := by
  subst hK; exact ix_list
end L2
namespace L2
open PySem PySem.Spec PyProof.Rows PySem.W
def keyOf (e : Int × Value) : Str := match e.2 with | .str x _ => x | _ => Str.empty
structure SetS (w : World) (led : Bool) (es : Array (Int × Value)) (t : SetTable) (S : List Str) : Prop where
  ent : ∀ e ∈ es.toList, ∃ x tk, e = (hashStr w x, Value.str x tk)
  nd : (es.toList.map keyOf).Nodup
  mem : ∀ x, x ∈ es.toList.map keyOf ↔ x ∈ S
  fit : t.fits es.size = true
  led : t.led = led
  pl : es.size = 0 ∨ t.plain = false
theorem relay_led (t : SetTable) (es : Array (Int × Value)) (n : Nat) : (relayAll t es n).2.1.led = t.led ∧ (t.plain = false → (relayAll t es n).2.1.plain = false) := by
  unfold relayAll
  cases e : t.relaid (es.map (·.1)) n with
  | none => exact ⟨rfl, fun _ => rfl⟩
  | some p =>
    obtain ⟨t', order⟩ := p
    dsimp only
    have hl : t'.led = t.led ∧ t'.plain = t.plain := by
      unfold SetTable.relaid SetTable.laid at e
      cases e2 : SetTable.layClean (SetTable.sizeAbove n - 1) (es.map (·.1)) with
      | none => rw [e2] at e; cases e
      | some o =>
        rw [e2] at e
        injection e with e
        injection e with e1 e3
        rw [← e1]
        exact ⟨rfl, rfl⟩
    split
    · exact ⟨hl.1, fun h => by rw [hl.2]; exact h⟩
    · exact ⟨rfl, fun _ => rfl⟩
theorem or_led (t : SetTable) (n : Nat) : (t.orStandIn n).led = t.led := by
  unfold SetTable.orStandIn
  split <;> rfl
theorem lay_led (t : SetTable) (es : Array (Int × Value)) (h : Int) (x : Value) : (layNew t es h x).2.1.led = t.led := by
  unfold layNew
  cases e : t.freeSlot h with
  | none => rfl
  | some p =>
    obtain ⟨slot, wd⟩ := p
    exact or_led _ _
theorem keyOf_perm {a b : List (Int × Value)} (p : a.Perm b) : (a.map keyOf).Perm (b.map keyOf) := p.map _
theorem SetS.grow {w : World} {led : Bool} {es es' : Array (Int × Value)} {t t' : SetTable} {S : List Str} {x : Str} {tk : Tok} (h : SetS w led es t S) (nx : x ∉ S) (p : es'.toList.Perm (es.push (hashStr w x, .str x tk)).toList) (f : t'.fits es'.size = true) (l : t'.led = led) (q : t'.plain = false) : SetS w led es' t' (S ++ [x]) where
  ent := fun e he => by
    have := p.mem_iff.mp he
    rw [Array.toList_push] at this
    rcases List.mem_append.mp this with z | z
    · exact h.ent e z
    · exact ⟨x, tk, List.mem_singleton.mp z⟩
  nd := by
    rw [(keyOf_perm p).nodup_iff, Array.toList_push, List.map_append, List.nodup_append]
    refine ⟨h.nd, by simp, fun a ha b hb => ?_⟩
    have hb' : b = x := by simpa [keyOf] using hb
    subst hb'
    exact fun e => nx (by rw [← e]; exact (h.mem a).mp ha)
  mem := fun y => by
    rw [(keyOf_perm p).mem_iff, Array.toList_push, List.map_append, List.mem_append, List.mem_append, h.mem y]
    simp [keyOf]
  fit := f
  led := l
  pl := .inr q
theorem SetS.relay {w : World} {led : Bool} {es : Array (Int × Value)} {t : SetTable} {S : List Str} (h : SetS w led es t S) (q : t.plain = false) (n : Nat) : SetS w led (relayAll t es n).1 (relayAll t es n).2.1 S where
  ent := fun e he => h.ent e ((relayAll_perm t es n).mem_iff.mp he)
  nd := by rw [(keyOf_perm (relayAll_perm t es n)).nodup_iff]; exact h.nd
  mem := fun y => by rw [(keyOf_perm (relayAll_perm t es n)).mem_iff]; exact h.mem y
  fit := relayAll_fits t es n
  led := (relay_led t es n).1.trans h.led
  pl := .inr ((relay_led t es n).2 q)
structure SetA (w : World) (led : Bool) (h : Heap) (a : Addr) (S : List Str) (n : Nat) : Prop where
  ex : ∃ es ep t, h.get? a = some { cls := .type "set", data := .set es ep t } ∧ SetS w led es t S ∧ es.size ≤ n
section
variable {prog : Program} {w : World} {A : Around} {E : Value → Shared → Prop} {s : Shared}
theorem store_set {a : Addr} {es es' : Array (Int × Value)} {ep : Nat} {t t' : SetTable} {Q : Unit → Shared → Prop} (ha : s.heap.get? a = some { cls := .type "set", data := .set es ep t }) (hz : es'.size ≤ sizeLine)
    (h : ∀ h', Heap.SameBut a s.heap h' → h'.get? a = some { cls := .type "set", data := .set es' (ep + 1) t' } → Q () { s with heap := h' }) : wpAny (model prog w) A (storeSet a es' t') Q E s := by
  unfold storeSet
  refine wpAny_bind (wpAny_load ha ?_)
  dsimp only
  rw [if_neg (by omega)]
  refine wpAny_update ha (h _ (Heap.SameBut.update ..) ?_)
  rw [Heap.get?_update_self _ ha rfl]
  rfl
theorem gave_ok {b : Bool} {Q : Unit → Shared → Prop} (h : Q () s) : wpAny (model prog w) A (match b with | true => rule "set.scan.the-table-gave-way" | false => pure ()) Q E s := by
  cases b with
  | true => exact wpAny_rule h
  | false => exact wpAny_pure h
theorem add_text {a : Addr} {S : List Str} {n : Nat} {led : Bool} {x : Str} {tk : Tok} {Q : Bool → Shared → Prop} (ha : SetA w led s.heap a S n) (hn : n + 1 < scanBound)
    (h : ∀ b h', Heap.SameBut a s.heap h' → SetA w led h' a (S ++ [x]) (n + 1) → Q b { s with heap := h', toks := s.toks + 1 }) : wpAny (model prog w) A (setAdd a (.str x tk)) Q E s := by
  obtain ⟨es, ep, t, hget, hS, hsz⟩ := ha
  have hsc : scanBound = 4096 := rfl
  have is : (strKind prog w).is x (.str x tk) = true := by show (x == x) = true; exact beq_self_eq_true x
  have elems : ElemsOf (strKind prog w) es.toList := fun e he => by
    obtain ⟨y, tk', rfl⟩ := hS.ent e he
    exact ⟨⟨y, by show (y == y) = true; exact beq_self_eq_true y, rfl⟩, rfl⟩
  unfold setAdd
  refine wpAny_holding (wpAny_bind ((strKind prog w).pyHash is ?_))
  unfold setAddHashed
  refine wpAny_holding ?_
  rw [setAddHashedIn.eq_def]
  show wpAny _ _ (setState a >>= _) _ _ _
  refine wpAny_bind (wpAny_setState_of (s := { s with toks := s.toks + 1 }) hget rfl hS.fit ?_)
  have bs : byScan (.str x tk) es = true := by
    unfold byScan
    have h1 : (Value.str x tk).scannable = true := rfl
    have h2 : (es.all fun e => e.2.scannable) = true := by
      rw [Array.all_eq_true_iff_forall_mem]
      intro e he
      exact (elems e (Array.mem_toList_iff.mpr he)).2
    rw [h1, h2, decide_eq_true (by omega)]; rfl
  dsimp only
  rw [if_pos bs]
  refine wpAny_bind ?_
  unfold setAddByScan
  refine wpAny_bind (wpAny_rule (wpAny_bind (wpAny_setScan_of (s := { s with toks := s.toks + 1 }) is hget rfl hS.fit elems ?_)))
  cases ef : List.findIdx? (fun e => (strKind prog w).is x e.2) es.toList with
  | some j =>
    dsimp only
    refine wpAny_pure (wpAny_pure ?_)
    have xin : x ∈ S := by
      rw [← hS.mem x]
      obtain ⟨hj, hp, _⟩ := List.findIdx?_eq_some_iff_getElem.mp ef
      have hm := List.getElem_mem hj
      obtain ⟨y, tk', e⟩ := hS.ent _ hm
      rw [e] at hp
      have : y = x := eq_of_beq (show (y == x) = true from hp)
      subst this
      exact List.mem_map.mpr ⟨_, hm, by rw [e]; rfl⟩
    refine h false s.heap (Heap.SameBut.refl ..) ⟨es, ep, t, hget, ⟨hS.ent, hS.nd, fun y => ?_, hS.fit, hS.led, hS.pl⟩, by omega⟩
    rw [hS.mem y, List.mem_append]
    constructor
    · exact .inl
    · rintro (z | z)
      · exact z
      · rw [List.mem_singleton.mp z]; exact xin
  | none =>
    dsimp only
    have xout : x ∉ S := fun hin => by
      rw [← hS.mem x] at hin
      obtain ⟨e, he, ek⟩ := List.mem_map.mp hin
      have := List.findIdx?_eq_none_iff.mp ef e he
      obtain ⟨y, tk', rfl⟩ := hS.ent e he
      have ey : y = x := ek
      subst ey
      exact absurd (show (strKind prog w).is y (.str y tk') = true from (by show (y == y) = true; exact beq_self_eq_true y)) (by rw [this]; simp)
    have lp := layNew_perm t es ((strKind prog w).hash x) (.str x tk)
    have lf := layNew_fits t es ((strKind prog w).hash x) (.str x tk)
    have ll := lay_led t es ((strKind prog w).hash x) (.str x tk)
    have lz := lp.length_eq
    rw [Array.length_toList, Array.length_toList, Array.size_push] at lz
    generalize layNew t es ((strKind prog w).hash x) (.str x tk) = L at lp lf ll lz
    obtain ⟨es1, t1, wd, gv⟩ := L
    dsimp only at lp lf ll lz ⊢
    have zl : sizeLine = 268435455 ∨ 4096 ≤ sizeLine := .inr (by rw [sizeLine_eq]; decide)
    have zz : es1.size ≤ sizeLine := by rcases zl with z | z <;> omega
    refine wpAny_bind (gave_ok ?_)
    have fin : ∀ t2 : SetTable, t2.fits es1.size = true → t2.led = led → t2.plain = false →
        wpAny (model prog w) A (do
          storeSet a es1 t2
          have __do_jp : Unit → Sem (Option Bool) := fun __r => pure (some true)
          if (!wd && t2.tooFull) = true then
            match relayAll t2 es1 (SetTable.grown es1.size) with
            | (es, t, gave) => do
              (match gave with | true => rule "set.scan.the-table-gave-way" | false => pure ())
              let __r ← storeSet a es t
              __do_jp __r
          else __do_jp ()) (fun r s' => wpAny (model prog w) A (match r with | some added => pure added | none => setAddHashedIn a (.str x tk) ((strKind prog w).hash x) 99999) Q E s') E { s with toks := s.toks + 1 } := fun t2 f2 l2 p2 => by
      have g := hS.grow (es' := es1) (t' := t2) (tk := tk) xout lp f2 l2 p2
      refine wpAny_bind (store_set (s := { s with toks := s.toks + 1 }) hget zz fun h1 sb1 hg1 => ?_)
      dsimp only
      split
      · have gr := g.relay p2 (SetTable.grown es1.size)
        have rz := (relayAll_perm t2 es1 (SetTable.grown es1.size)).length_eq
        rw [Array.length_toList, Array.length_toList] at rz
        generalize relayAll t2 es1 (SetTable.grown es1.size) = Rr at gr rz
        obtain ⟨es3, t3, gv3⟩ := Rr
        dsimp only at gr rz ⊢
        refine wpAny_bind (gave_ok ?_)
        refine wpAny_bind (store_set (s := { s with heap := h1, toks := s.toks + 1 }) hg1 (by omega) fun h2 sb2 hg2 => ?_)
        refine wpAny_pure (wpAny_pure ?_)
        exact h true h2 (sb1.trans sb2) ⟨es3, _, t3, hg2, gr, by omega⟩
      · refine wpAny_pure (wpAny_pure ?_)
        exact h true h1 sb1 ⟨es1, _, t2, hg1, g, by omega⟩
    by_cases hp : t1.plain = true
    · rw [if_pos hp, hashByValue.eq_5]
      refine wpAny_bind (wpAny_pure ?_)
      have ff := fin { mask := t1.mask, place := t1.place, dummies := t1.dummies, finger := t1.finger, led := t1.led, moves := t1.moves, plain := false } lf (ll.trans hS.led) rfl
      exact ff
    · rw [if_neg hp]
      refine wpAny_bind (wpAny_pure ?_)
      have ff := fin t1 lf (ll.trans hS.led) (by simpa using hp)
      exact ff
end
end L2
namespace L2
open PySem PySem.Spec PyProof.Rows PySem.W
def ledOf (w : World) : Bool := !w.params.followText "set-order"
section
variable {prog : Program} {w : World} {A : Around} {E : Value → Shared → Prop} {s : Shared}
theorem by_text {Q : Bool → Shared → Prop} (h : Q (w.params.followText "set-order") s) : wpAny (model prog w) A setsByText Q E s := by
  unfold setsByText
  exact wpAny_bind (wpAny_askSetting (wpAny_pure h))
theorem code_set_new_led (a : Value) {Q₁ : Value → Shared → Prop} (h : Q₁ (.ref s.heap.objs.size) { s with heap := s.heap.push { cls := .type "set", data := .set #[] 0 (SetTable.fresh 0 0 (ledOf w)) } }) :
    codeAny (model prog w) A (.call (.builtin "set.__new__") ⟨[.type "set", a], []⟩) (wants Q₁ E) s := by
  refine codeAny_call_builtin F.plain_set_new F.entry_set_new ?_
  rw [F.newCall_set_1]
  refine wpAny_pure ?_
  unfold Builtin.«set.__new__» Builtin.Frozenset.newClass
  dsimp only
  refine wpAny_bind (wpAny_bind ?_)
  show wpAny _ _ (pure true) _ _ _
  refine wpAny_pure ?_
  rw [if_neg (by decide)]
  refine wpAny_bind ?_
  rw [F.sub_set_set]
  refine wpAny_pure ?_
  rw [if_neg (by decide)]
  refine wpAny_pure ?_
  unfold newSet
  refine wpAny_bind (wpAny_bind (by_text ?_))
  dsimp only
  refine wpAny_newObj_type ?_
  exact wpAny_pure h
theorem SetA.keeps {led : Bool} {h h' : Heap} {a : Addr} {S : List Str} {n : Nat} (x : SetA w led h a S n) (k : ∀ o, h.get? a = some o → h'.get? a = some o) : SetA w led h' a S n := by
  obtain ⟨es, ep, t, e, r⟩ := x
  exact ⟨es, ep, t, k _ e, r⟩
theorem SetA.start {h : Heap} {a : Addr} {led : Bool} (e : h.get? a = some { cls := .type "set", data := .set #[] 0 (SetTable.fresh 0 0 led) }) : SetA w led h a [] 0 :=
  ⟨#[], 0, _, e, ⟨fun x hx => by simp at hx, by simp, fun x => by simp, by rfl, rfl, .inl rfl⟩, Nat.le_refl _⟩
theorem SetA.typeIs {led : Bool} {a : Addr} {S : List Str} {n : Nat} (x : SetA w led s.heap a S n) : s.TypeIs (.ref a) "set" := by
  obtain ⟨es, ep, t, e, r⟩ := x
  exact ⟨_, e, rfl⟩
theorem set_loop {led : Bool} {l I S : Addr} {items : Array Value} {ss : List Str} {R : Result → Shared → Prop} (hv : StrsAre items.toList ss) (hh : A.handled = none) (lI : l ≠ I) (SI : S ≠ I) (Sl : S ≠ l) (hn : items.size + 1 < scanBound) :
    ∀ (k i : Nat) (s : Shared), items.size - i = k → i ≤ items.size → s.heap.IsListIter I l i → s.heap.IsList l items → SetA w led s.heap S (ss.take i) i →
      (∀ h' tk, (∀ b o, b ≠ I → b ≠ S → s.heap.get? b = some o → h'.get? b = some o) → SetA w led h' S ss items.size → R (.ok (.ret .none)) { s with heap := h', toks := tk }) →
      codeAny (model prog w) A (.builtin "set.update.loop" ⟨[.ref S, .ref I], []⟩) R s
  | 0, i, s, hk, hi, h1, h2, h3, h => by
    have ei : i = items.size := by omega
    subst ei
    refine codeAny_builtin F.entry_set_update_loop ?_
    rw [Around.under_plainId F.plain_set_update_loop _]
    show wpAny _ A.in1 (pyNext (.ref I) >>= _) _ _ s
    have Wk := Walks.list (prog := prog) (w := w) (A := A.in1) hh I l lI items
    have sl : ss.length = items.size := by have := hv.length; simpa using this.symm
    refine wpAny_bind (Wk.done s _ _ ⟨h1, h2⟩ fun h' tk kp => wpAny_pure ?_)
    refine h h' tk (fun b o n1 _ e => kp b o (by simpa using n1) e) ?_
    have := h3.keeps (h' := h') fun o e => kp S o (by simpa using SI) e
    rw [List.take_of_length_le (by omega)] at this
    exact this
  | k + 1, i, s, hk, hi, h1, h2, h3, h => by
    have il : i < items.size := by omega
    refine codeAny_builtin F.entry_set_update_loop ?_
    rw [Around.under_plainId F.plain_set_update_loop _]
    show wpAny _ A.in1 (pyNext (.ref I) >>= _) _ _ s
    have Wk := Walks.list (prog := prog) (w := w) (A := A.in1) hh I l lI items
    have sl : ss.length = items.size := by have := hv.length; simpa using this.symm
    refine wpAny_bind (Wk.item i s _ _ il ⟨h1, h2⟩ fun v h' tk hP hSt kp => ?_)
    obtain ⟨x, tkx, rfl, hx⟩ : ∃ x tkx, v = .str x tkx ∧ ss[i]? = some x := by
      have hx : ss[i]? = some (ss[i]'(by omega)) := List.getElem?_eq_getElem _
      obtain ⟨u, e1, e2⟩ := (strsAre_get hv).get (i := i) (x := V.str (ss[i]'(by omega))) (by rw [List.getElem?_map, hx]; rfl)
      rw [Array.getElem?_toList, hP] at e1
      cases e1
      obtain ⟨tkx, e3⟩ := e2
      exact ⟨_, tkx, e3, hx⟩
    have h3' := h3.keeps (h' := h') fun o e => kp S o (by simpa using SI) e
    dsimp only
    refine wpAny_bind (wpAny_holding (add_text (s := { s with heap := h', toks := tk }) h3' (by omega) fun b h2' sb hA => ?_))
    refine wpAny_pure ⟨plainId_quiet F.plain_set_update_loop _, ?_⟩
    have et : ss.take i ++ [x] = ss.take (i + 1) := by rw [List.take_succ, hx]; rfl
    rw [et] at hA
    refine set_loop hv hh lI SI Sl hn k (i + 1) { s with heap := h2', toks := tk + 1 } (by omega) (by omega) ?_ ?_ hA fun h4 tk4 k4 hA4 => ?_
    · exact hSt.1.at fun o e => sb.extBut _ _ (Ne.symm SI) e
    · obtain ⟨o, e, r⟩ := hSt.2
      exact ⟨o, sb.extBut _ _ (Ne.symm Sl) e, r⟩
    · exact h h4 tk4 (fun b o n1 n2 e => k4 b o n1 n2 (sb.extBut _ _ n2 (kp b o (by simpa using n1) e))) hA4
end
end L2
namespace L2
open PySem PySem.Spec PyProof.Rows PySem.W
section
variable {prog : Program} {w : World} {A : Around} {E : Value → Shared → Prop} {s : Shared}
theorem name_set : typeNameCut 200 (Value.type "set") = pure "set" := by kernel_rfl
theorem set_init {D l : Addr} {items : Array Value} {ss : List Str} {Pf : PySem.Fin → Shared → Prop} (hget : s.heap.get? D = some { cls := .type "set", data := .set #[] 0 (SetTable.fresh 0 0 (ledOf w)) }) (hl : s.heap.IsList l items) (Dl : D ≠ l) (hv : StrsAre items.toList ss) (hh : A.handled = none) (hn : items.size + 1 < scanBound)
    (h : ∀ h' tk, (∀ b o, b ≠ D → s.heap.get? b = some o → h'.get? b = some o) → SetA w (ledOf w) h' D ss items.size → Pf (.done (.ret .none)) { s with heap := h', toks := tk }) :
    wpAny (model prog w) A (Builtin.«set.__init__» ⟨[.ref D, .ref l], []⟩) Pf E s := by
  have hT : s.TypeIs (.ref D) "set" := ⟨_, hget, rfl⟩
  have hTl : s.TypeIs (.ref l) "list" := by obtain ⟨o, e, r, _⟩ := hl; exact ⟨o, e, r⟩
  unfold Builtin.«set.__init__»
  refine wpAny_bind ?_
  unfold noKeywords
  show wpAny _ _ (pure ()) _ _ _
  refine wpAny_pure ?_
  dsimp only
  unfold typeNameOfCut shownTypeOf
  refine wpAny_bind (wpAny_bind (wpAny_bind (wpAny_typeOf hT ?_)))
  rw [if_neg (by decide)]
  refine wpAny_pure ?_
  rw [name_set]
  refine wpAny_pure ?_
  refine wpAny_bind ?_
  unfold checkCount
  show wpAny _ _ (pure ()) _ _ _
  refine wpAny_pure ?_
  refine wpAny_bind ?_
  show wpAny _ _ (pure D) _ _ _
  refine wpAny_pure ?_
  refine wpAny_bind ?_
  unfold setUsed
  refine wpAny_bind (wpAny_setState_of hget rfl rfl (wpAny_pure ?_))
  have hfill : (((#[], 0, SetTable.fresh 0 0 (ledOf w)) : Array (Int × Value) × Nat × SetTable).2.2.fill != 0) = false := rfl
  rw [hfill, if_neg (by decide)]
  refine wpAny_bind ?_
  unfold Builtin.Frozenset.updateFrom
  refine wpAny_bind ?_
  unfold Builtin.Frozenset.isAnySet
  refine wpAny_bind (wpAny_isInstance hTl F.sub_list_set ?_)
  refine wpAny_isInstance hTl F.sub_list_frozenset ?_
  rw [if_neg (by decide)]
  refine wpAny_bind (wpAny_typeOf hTl ?_)
  rw [if_neg (by decide)]
  have lD : l < s.heap.objs.size := by obtain ⟨o, e, _⟩ := hl; exact Heap.lt_size e
  have DD : D < s.heap.objs.size := Heap.lt_size hget
  refine wpAny_bind (wpAny_pyIter_list hl ?_)
  refine wpAny_bind (wpAny_runValue ?_)
  refine set_loop (led := ledOf w) (l := l) hv (show A.handled = none from hh) (Nat.ne_of_lt lD) (Nat.ne_of_lt DD) Dl hn items.size 0 { s with heap := s.heap.push { cls := .type "list_iterator", data := .fields #[.ref l, .int 0 0] } } (Nat.sub_zero _) (Nat.zero_le _) ⟨_, Heap.get?_push_size _ rfl, rfl, rfl⟩ (Heap.IsList.push hl _) (SetA.start (Heap.get?_push_of_some _ hget)) fun h' tk kp hA => ?_
  refine wpAny_pure (wpAny_pure ?_)
  exact h h' tk (fun b o n e => kp b o (Nat.ne_of_lt (Heap.lt_size e)) n (Heap.get?_push_of_some _ e)) hA
theorem set_call {l : Addr} {items : Array Value} {ss : List Str} {Q : Value → Shared → Prop} (hl : s.heap.IsList l items) (hv : StrsAre items.toList ss) (hh : A.handled = none) (hn : items.size + 1 < scanBound)
    (h : ∀ h' tk, (∀ b o, s.heap.get? b = some o → h'.get? b = some o) → SetA w (ledOf w) h' s.heap.objs.size ss items.size → Q (.ref s.heap.objs.size) { s with heap := h', toks := tk }) :
    wpAny (model prog w) A (call (.type "set") [.ref l]) Q E s := by
  have hlt : l < s.heap.objs.size := by obtain ⟨o, e, _⟩ := hl; exact Heap.lt_size e
  obtain ⟨c, tl, hmro⟩ := F.called_set.mro
  refine wpAny_call (codeAny_of_tree ?_)
  show wpAny _ _ (pure (Fin.again (.builtin "type.__call__" ⟨[.type "set", .ref l], []⟩))) _ _ _
  refine wpAny_pure ⟨Code.quiet_builtin _ (by decide +kernel), codeAny_builtin F.entry_type_call ?_⟩
  rw [Around.under_plain (weight_type_call_type "set" [.ref l] []) rfl]
  unfold Builtin.«type.__call__»
  dsimp only
  rw [if_neg (by decide), if_neg (by rw [F.called_set.canCreate]; decide)]
  refine wpAny_bind ?_
  rw [F.typeCall_set_1]
  refine wpAny_pure ?_
  refine wpAny_bind ?_
  rw [hmro]
  refine wpAny_pure ?_
  rw [if_neg (by simp)]
  refine wpAny_bind ?_
  rw [F.called_set.made]
  refine wpAny_pure ?_
  dsimp only
  refine wpAny_bind (wpAny_pure ?_)
  refine wpAny_bind (wpAny_holding (wpAny_call ?_))
  refine code_set_new_led _ ?_
  have hget : (s.heap.push { cls := .type "set", data := .set #[] 0 (SetTable.fresh 0 0 (ledOf w)) }).get? s.heap.objs.size = some { cls := .type "set", data := .set #[] 0 (SetTable.fresh 0 0 (ledOf w)) } := Heap.get?_push_size _ rfl
  have hT : ({ s with heap := s.heap.push { cls := .type "set", data := .set #[] 0 (SetTable.fresh 0 0 (ledOf w)) } } : Shared).TypeIs (.ref s.heap.objs.size) "set" := ⟨_, hget, rfl⟩
  refine wpAny_bind (wpAny_isInstance hT F.called_set.sub ?_)
  rw [if_neg (by decide)]
  refine wpAny_bind (wpAny_holding ?_)
  refine wpAny_callSpecial?_slot hT F.called_set.init (wpAny_call (codeAny_call_builtin F.called_set.init.plain F.entry_set_init (check_set_init_1 hT ?_)))
  refine set_init (s := { s with heap := s.heap.push { cls := .type "set", data := .set #[] 0 (SetTable.fresh 0 0 (ledOf w)) } }) hget (Heap.IsList.push hl _) (Ne.symm (Nat.ne_of_lt hlt)) hv hh hn fun h' tk kp hA => ?_
  dsimp only
  rw [if_neg (by decide)]
  refine wpAny_pure ?_
  exact h h' tk (fun b o e => kp b o (Nat.ne_of_lt (Heap.lt_size e)) (Heap.get?_push_of_some _ e)) hA
end
end L2
namespace L2
open PySem PySem.Spec PyProof.Rows PySem.W
theorem slot_seti_next : Slot "set_iterator" (Str.ofString "__next__") "set_iterator.__next__" := Slot.of (owner := "set_iterator") (n := "__next__") (by kernel_rfl) (by kernel_rfl) (by kernel_rfl) (by kernel_rfl) (.inl (by kernel_rfl)) (by kernel_rfl)
theorem entry_seti_next : entryFor table "set_iterator.__next__" = some Builtin.«set_iterator.__next__» := by kernel_rfl
theorem entry_set_iter : entryFor table "set.__iter__" = some Builtin.«frozenset.__iter__» := by kernel_rfl
theorem own_seti : List.lookup (String.ofList ['r', 'o', 't', 'a', 'r', 'e', 't', 'i', '_', 't', 'e', 's'].reverse) Manifest.owners = some Manifest.sig_set_iterator := by kernel_rfl
theorem args_seti_next (a : Value) : argsOk "set_iterator.__next__" { pos := [a] } := by
  show (match Manifest.signature? "set_iterator.__next__" with | some sig => Bind.checkArgs "set_iterator.__next__" sig { pos := [a] } | none => pure ()) = pure ()
  rw [signature?_of (id := "set_iterator.__next__") (n := ['_', '_', 't', 'x', 'e', 'n', '_', '_']) (o := ['r', 'o', 't', 'a', 'r', 'e', 't', 'i', '_', 't', 'e', 's']) (by kernel_rfl) own_seti]
  kernel_rfl
theorem perm_pick {α : Type} : ∀ {xs : List α} {i : Nat} {x : α}, xs[i]? = some x → (x :: xs.eraseIdx i).Perm xs
  | [], i, x, h => by simp at h
  | y :: ys, 0, x, h => by
    have : y = x := by simpa using h
    subst this
    exact List.Perm.refl _
  | y :: ys, i + 1, x, h => by
    have ih := perm_pick (xs := ys) (i := i) (x := x) (by simpa using h)
    rw [List.eraseIdx_cons_succ]
    exact (List.Perm.swap y x _).trans (ih.cons y)
theorem pick_go {α : Type} (next : Nat → Nat) : ∀ (fuel k : Nat) (left : List α) (out : Array α), left.length = fuel → (pickOrder.go next fuel k left out).toList.Perm (out.toList ++ left)
  | 0, k, left, out, h => by
    rw [pickOrder.go.eq_1]
    have : left = [] := List.length_eq_zero_iff.mp h
    rw [this, List.append_nil]
  | fuel + 1, k, left, out, h => by
    have lt : next k % left.length < left.length := Nat.mod_lt _ (by omega)
    have e : left[next k % left.length]? = some left[next k % left.length] := List.getElem?_eq_getElem lt
    rw [pickOrder.go.eq_2, e]
    dsimp only
    refine (pick_go next fuel (k + 1) _ _ (by rw [List.length_eraseIdx_of_lt lt]; omega)).trans ?_
    rw [Array.toList_push, List.append_assoc]
    exact List.Perm.append_left _ (perm_pick e)
theorem pick_perm {α : Type} (next : Nat → Nat) (xs : Array α) : (pickOrder next xs).toList.Perm xs.toList := by
  unfold pickOrder
  have := pick_go next xs.size 0 xs.toList #[] (by simp)
  simpa using this
section
variable {prog : Program} {w : World} {A : Around} {E : Value → Shared → Prop}
theorem choose_ok {s : Shared} {src : Source} {n : Nat} {Q : Nat → Shared → Prop} (hn : n ≠ 0) (h : ∀ i d, i < n → Q i { s with drawn := d }) : wpAny (model prog w) A (choose src n) Q E s := by
  intro Γ p hΓ
  unfold choose
  rw [Sem.wp_choose]
  refine ⟨hn, ?_⟩
  rw [Sem.wp_pure]
  exact h _ _ (Nat.mod_lt _ (by omega))
theorem draw_ok {α : Type} : ∀ (n : Nat) (xs : List α) (s : Shared) (Q : List α → Shared → Prop), xs.length = n → (∀ ys d, ys.Perm xs → Q ys { s with drawn := d }) → wpAny (model prog w) A (drawOrder n xs) Q E s
  | 0, xs, s, Q, h, q => by
    rw [drawOrder.eq_1]
    have : xs = [] := List.length_eq_zero_iff.mp h
    subst this
    exact wpAny_pure (q [] s.drawn (List.Perm.refl _))
  | n + 1, xs, s, Q, h, q => by
    rw [drawOrder.eq_3 _ _ (fun e => by rw [e] at h; cases h)]
    refine wpAny_bind (choose_ok (by omega) fun i d hi => ?_)
    have e : xs[i]? = some xs[i] := List.getElem?_eq_getElem hi
    rw [e]
    dsimp only
    refine wpAny_bind (draw_ok n (xs.eraseIdx i) _ _ (by rw [List.length_eraseIdx_of_lt hi]; omega) fun ys d' hp => ?_)
    exact wpAny_pure (q _ _ ((hp.cons _).trans (perm_pick e)))
theorem below_one (p : Nat) : SetTable.below #[p] 0 = 0 ∧ SetTable.below #[p] (p + 1) = 1 := by
  constructor
  · simp [SetTable.below, SetTable.below.go]
  · simp [SetTable.below, SetTable.below.go]
abbrev setIt (f : Value) (i : Nat) (D : Addr) (n ep : Nat) : Obj := { cls := .type "set_iterator", data := .fields #[f, rawInt (i : Int), .ref D, rawInt (n : Int), rawInt (ep : Int)] }
theorem seti_get {h : Heap} {I : Addr} {f g : Value} {i j : Nat} {D : Addr} {n ep : Nat} (e : h.get? I = some (setIt f i D n ep)) : (h.update I (Obj.mapFields fun vs => vs.setIfInBounds 1 (rawInt ((i : Int) + 1)))).get? I = some (setIt f (i + 1) D n ep) := by
  rw [Heap.get?_update_self _ e rfl]
  rfl
variable {s : Shared}
theorem seti_stop {I : Addr} {o : Obj} {vs : Array Value} {Pf : PySem.Fin → Shared → Prop} (hh : A.handled = none) (ho : s.heap.get? I = some o) (hd : o.data = .fields vs) (h2 : 2 < vs.size)
    (hE : ∀ h' e, Heap.ExtBut I s.heap h' → (∃ o, h'.get? e = some o ∧ o.cls = .type "StopIteration") → E (.ref e) { s with heap := h' }) :
    wpAny (model prog w) A (do setField (.ref I) 2 .none; let __do_lift ← newExc (.type "StopIteration") []; raiseNew __do_lift) Pf E s := by
  refine wpAny_bind (wpAny_setField ho hd h2 ?_)
  refine wpAny_bind ?_
  simp only [newExc, newTuple]
  refine wpAny_bind (wpAny_newObj_type ?_ (by size_fits))
  refine wpAny_bind (m := firstArgMember _ _) (wpAny_of_eq (a := Value.none) (by first | rfl | (simp only [firstArgMember]; rfl)) ?_)
  refine wpAny_newObj_type ?_ (by size_fits)
  simp only [raiseNew]
  refine wpAny_bind (wpAny_handled ?_)
  rw [hh]
  refine wpAny_bind (wpAny_pure (wpAny_throw ?_))
  exact hE _ _ (((Heap.SameBut.update ..).extBut.push _).push _) ⟨_, Heap.get?_push_size _ rfl, rfl⟩
theorem seti_pre {I D : Addr} {f : Value} {i ep : Nat} {es : Array (Int × Value)} {t : SetTable} {Pf : PySem.Fin → Shared → Prop} (hI : s.heap.get? I = some (setIt f i D es.size ep)) (hD : s.heap.get? D = some { cls := .type "set", data := .set es ep t }) (hf : t.fits es.size = true)
    (h : wpAny (model prog w) A (match f with
          | .int slot tok => do
            let __do_lift ← setNext D slot.toNat i ep
            match __do_lift with
              | some (x, next) => do
                setField (.ref I) 0 (rawInt next)
                setField (.ref I) 1 (rawInt ((i : Int) + 1))
                ret x
              | none => do
                setField (.ref I) 2 .none
                let __do_lift ← newExc (.type "StopIteration") []
                raiseNew __do_lift
          | x => do
            let __x ← seqItems? f
            match __x with
              | some places =>
                match places[i]? with
                | some (.int place tok) => do
                  let x ← setNextDrawn D place.toNat ep
                  setField (.ref I) 1 (rawInt ((i : Int) + 1))
                  ret x
                | some val => unsupported "internal:set_iterator"
                | none => do
                  setField (.ref I) 0 (rawInt 0)
                  setField (.ref I) 2 .none
                  let __do_lift ← newExc (.type "StopIteration") []
                  raiseNew __do_lift
              | x => unsupported "internal:set_iterator") Pf E s) :
    wpAny (model prog w) A (Builtin.«set_iterator.__next__» ⟨[.ref I], []⟩) Pf E s := by
  unfold Builtin.«set_iterator.__next__»
  refine wpAny_bind ?_
  show wpAny _ _ (pure (Value.ref I, [])) _ _ _
  refine wpAny_pure ?_
  dsimp only
  refine wpAny_bind (wpAny_fieldsOf hI rfl ?_)
  show wpAny _ _ (setEntries D >>= _) _ _ s
  unfold setEntries
  refine wpAny_bind (wpAny_bind (wpAny_setState_of hD rfl hf (wpAny_pure ?_)))
  dsimp only
  rw [if_neg (by simp)]
  simp only [Int.toNat_natCast]
  exact h
theorem setNext_text {D : Addr} {slot i ep : Nat} {es : Array (Int × Value)} {t : SetTable} {Q : Option (Value × Nat) → Shared → Prop} (bt : w.params.followText "set-order" = true) (hD : s.heap.get? D = some { cls := .type "set", data := .set es ep t }) (hf : t.fits es.size = true)
    (h : Q (((pickOrder (w.params.setOrder D ep) es)[i]?).map fun e => (e.2, slot)) s) : wpAny (model prog w) A (setNext D slot i ep) Q E s := by
  unfold setNext
  refine wpAny_bind (wpAny_setState_of hD rfl hf ?_)
  dsimp only
  refine wpAny_bind (by_text ?_)
  rw [bt, if_pos rfl, if_neg (by simp)]
  unfold setWalk
  refine wpAny_bind (wpAny_bind (wpAny_setState_of hD rfl hf ?_))
  dsimp only
  refine wpAny_bind (by_text ?_)
  rw [bt, if_pos rfl]
  refine wpAny_bind (wpAny_askSetting (wpAny_pure (wpAny_pure h)))
theorem setNext_led {D : Addr} {slot i ep : Nat} {es : Array (Int × Value)} {t : SetTable} {Q : Option (Value × Nat) → Shared → Prop} (bt : w.params.followText "set-order" = false) (hD : s.heap.get? D = some { cls := .type "set", data := .set es ep t }) (hf : t.fits es.size = true) (hl : t.led = true) (hz : es.size ≤ 1)
    (h : Q (match es[SetTable.below t.place slot]?, t.place[SetTable.below t.place slot]? with | some (_, x), some j => some (x, j + 1) | _, _ => none) s) : wpAny (model prog w) A (setNext D slot i ep) Q E s := by
  unfold setNext
  refine wpAny_bind (wpAny_setState_of hD rfl hf ?_)
  dsimp only
  refine wpAny_bind (by_text ?_)
  rw [bt, if_neg (by decide)]
  rw [if_neg (by
    show ¬ ((!t.plain && decide (es.size > 1)) = true)
    rw [decide_eq_false (by omega)]
    simp)]
  refine wpAny_bind ?_
  show wpAny _ _ (if (!t.led && !es.isEmpty) = true then _ else pure ()) _ _ _
  rw [if_neg (by rw [hl]; simp)]
  exact wpAny_pure (wpAny_pure h)
end
end L2
namespace L2
open PySem PySem.Spec PyProof.Rows PySem.W
theorem slot_seti_iter : Slot "set_iterator" (Str.ofString "__iter__") "set_iterator.__iter__" := Slot.of (owner := "set_iterator") (n := "__iter__") (by kernel_rfl) (by kernel_rfl) (by kernel_rfl) (by kernel_rfl) (.inl (by kernel_rfl)) (by kernel_rfl)
theorem entry_seti_iter : entryFor table "set_iterator.__iter__" = some Builtin.«dict_keyiterator.__iter__» := by kernel_rfl
theorem args_seti_iter (a : Value) : argsOk "set_iterator.__iter__" { pos := [a] } := by
  show (match Manifest.signature? "set_iterator.__iter__" with | some sig => Bind.checkArgs "set_iterator.__iter__" sig { pos := [a] } | none => pure ()) = pure ()
  rw [signature?_of (id := "set_iterator.__iter__") (n := ['_', '_', 'r', 'e', 't', 'i', '_', '_']) (o := ['r', 'o', 't', 'a', 'r', 'e', 't', 'i', '_', 't', 'e', 's']) (by kernel_rfl) own_seti]
  kernel_rfl
section
variable {prog : Program} {w : World} {A : Around}
theorem seti_self {E : Value → Shared → Prop} {s : Shared} {I D : Addr} {f : Value} {i n ep : Nat} {Q : Value → Shared → Prop} (hI : s.heap.get? I = some (setIt f i D n ep)) (q : Q (.ref I) s) : wpAny (model prog w) A (pyIter (.ref I)) Q E s := by
  have hT : s.TypeIs (.ref I) "set_iterator" := ⟨_, hI, rfl⟩
  refine wpAny_pyIter_slot hT slot_seti_iter (wpAny_call_entry slot_seti_iter hT entry_seti_iter ?_ (args_seti_iter _))
  exact wpAny_pure ⟨.ref I, rfl, "set_iterator", _, hT, slot_seti_next.lookup, q⟩
theorem seti_next {E : Value → Shared → Prop} {s : Shared} {I D : Addr} {f : Value} {i n ep : Nat} {Q : Option Value → Shared → Prop} (hI : s.heap.get? I = some (setIt f i D n ep))
    (h : wpAny (model prog w) A.in1 (Builtin.«set_iterator.__next__» ⟨[.ref I], []⟩) (fun fin s' => ∃ v, fin = Fin.done (Flow.ret v) ∧ Q (some v) s') (fun e s' => (∃ o, s'.heap.get? (match e with | .ref a => a | _ => 0) = some o ∧ o.cls = .type "StopIteration") ∧ (∃ a, e = .ref a) ∧ Q none s') s) :
    wpAny (model prog w) A (pyNext (.ref I)) Q E s := by
  have hT : s.TypeIs (.ref I) "set_iterator" := ⟨_, hI, rfl⟩
  unfold pyNext
  refine wpAny_bind (wpAny_attempt (wpAny_callSpecial?_slot (name := Str.ofString "__next__") hT slot_seti_next (wpAny_call_entry slot_seti_next hT entry_seti_next ?_ (args_seti_next _))))
  refine wpAny_mono h (fun fin s' hf => ?_) (fun e s' he => ?_)
  · obtain ⟨v, e1, q⟩ := hf
    exact ⟨v, e1, wpAny_pure q⟩
  · obtain ⟨⟨o, ho, hc⟩, ⟨a, rfl⟩, q⟩ := he
    refine wpAny_bind (wpAny_isInstance (T := "StopIteration") (b := true) ⟨o, ho, hc⟩ isSubtype_stop ?_)
    exact wpAny_pure q
abbrev setAt (D : Addr) (es : Array (Int × Value)) (ep : Nat) (t : SetTable) (h : Heap) : Prop := h.get? D = some { cls := .type "set", data := .set es ep t }
theorem walks_text (bt : w.params.followText "set-order" = true) (hh : A.handled = none) {I D : Addr} (DI : D ≠ I) {es : Array (Int × Value)} {ep : Nat} {t : SetTable} (hf : t.fits es.size = true) :
    Walks prog w A I [I, D] [I] es.size (fun i v => ((pickOrder (w.params.setOrder D ep) es).toList.map (·.2))[i]? = some v) (fun i h => h.get? I = some (setIt (rawInt 0) i D es.size ep) ∧ setAt D es ep t h) where
  sub := fun b hb => by simp at hb; simp [hb]
  frame := fun i h h' st k => ⟨k I (by simp) _ st.1, k D (by simp) _ st.2⟩
  item := fun i s Q E hi st hQ => by
    have pz : (pickOrder (w.params.setOrder D ep) es).size = es.size := by
      have := (pick_perm (w.params.setOrder D ep) es).length_eq
      simpa using this
    have e : (pickOrder (w.params.setOrder D ep) es)[i]? = some ((pickOrder (w.params.setOrder D ep) es)[i]'(by omega)) := Array.getElem?_eq_getElem _
    refine seti_next st.1 (seti_pre st.1 st.2 hf ?_)
    show wpAny _ _ (setNext D 0 i ep >>= _) _ _ s
    refine wpAny_bind (setNext_text bt st.2 hf ?_)
    rw [e]
    dsimp only [Option.map_some]
    refine wpAny_bind (wpAny_setField st.1 rfl (by simp) ?_)
    have e1 : (s.heap.update I (Obj.mapFields fun vs => vs.setIfInBounds 0 (rawInt ((0 : Nat) : Int)))).get? I = some (setIt (rawInt 0) i D es.size ep) := by
      rw [Heap.get?_update_self _ st.1 rfl]; rfl
    refine wpAny_bind (wpAny_setField (s := { s with heap := s.heap.update I (Obj.mapFields fun vs => vs.setIfInBounds 0 (rawInt ((0 : Nat) : Int))) }) e1 rfl (by simp) (wpAny_pure ⟨_, rfl, ?_⟩))
    refine hQ _ _ s.toks ?_ ⟨seti_get (g := rawInt 0) (j := 0) e1, ?_⟩ (fun b o hb eb => ?_)
    · rw [List.getElem?_map, Array.getElem?_toList, e]; rfl
    · exact (Heap.get?_update_ne _ _ _ _ DI).trans ((Heap.get?_update_ne _ _ _ _ DI).trans st.2)
    · have nb : b ≠ I := by simpa using hb
      rw [Heap.get?_update_ne _ _ _ _ nb, Heap.get?_update_ne _ _ _ _ nb]; exact eb
  done := fun s Q E st hQ => by
    have pz : (pickOrder (w.params.setOrder D ep) es).size = es.size := by
      have := (pick_perm (w.params.setOrder D ep) es).length_eq
      simpa using this
    refine seti_next st.1 (seti_pre st.1 st.2 hf ?_)
    show wpAny _ _ (setNext D 0 es.size ep >>= _) _ _ s
    refine wpAny_bind (setNext_text bt st.2 hf ?_)
    rw [Array.getElem?_eq_none (by omega)]
    dsimp only [Option.map_none]
    refine seti_stop (show A.in1.handled = none from hh) st.1 rfl (by simp) fun h' e x ho => ⟨ho, ⟨e, rfl⟩, hQ h' s.toks fun b o hb eb => x b o (by simpa using hb) eb⟩
  self := fun i s Q E st q => seti_self st.1 q
theorem walks_led (bt : w.params.followText "set-order" = false) (hh : A.handled = none) {I D : Addr} (DI : D ≠ I) {es : Array (Int × Value)} {ep : Nat} {t : SetTable} (hf : t.fits es.size = true) (hl : t.led = true) (hz : es.size ≤ 1) :
    Walks prog w A I [I, D] [I] es.size (fun i v => (es.toList.map (·.2))[i]? = some v) (fun i h => h.get? I = some (setIt (rawInt (if i = 0 then 0 else ((t.place.getD 0 0 : Nat) : Int) + 1)) i D es.size ep) ∧ setAt D es ep t h) where
  sub := fun b hb => by simp at hb; simp [hb]
  frame := fun i h h' st k => ⟨k I (by simp) _ st.1, k D (by simp) _ st.2⟩
  item := fun i s Q E hi st hQ => by
    have i0 : i = 0 := by omega
    subst i0
    have pz : t.place.size = es.size := by
      unfold SetTable.fits at hf
      simp only [Bool.and_eq_true, beq_iff_eq] at hf
      exact hf.1
    obtain ⟨p, hp⟩ : ∃ p, t.place = #[p] := Array.size_eq_one_iff.mp (by omega)
    obtain ⟨en, hen⟩ : ∃ en, es = #[en] := Array.size_eq_one_iff.mp (by omega)
    refine seti_next st.1 (seti_pre st.1 st.2 hf ?_)
    show wpAny _ _ (setNext D 0 0 ep >>= _) _ _ s
    refine wpAny_bind (setNext_led bt st.2 hf hl hz ?_)
    rw [hp, (below_one p).1, hen]
    show wpAny _ _ (do setField (.ref I) 0 (rawInt ((p + 1 : Nat) : Int)); setField (.ref I) 1 (rawInt (((0 : Nat) : Int) + 1)); ret en.2) _ _ s
    refine wpAny_bind (wpAny_setField st.1 rfl (by simp) ?_)
    have e1 : (s.heap.update I (Obj.mapFields fun vs => vs.setIfInBounds 0 (rawInt ((p + 1 : Nat) : Int)))).get? I = some (setIt (rawInt ((p + 1 : Nat) : Int)) 0 D es.size ep) := by
      rw [Heap.get?_update_self _ st.1 rfl]; rfl
    refine wpAny_bind (wpAny_setField (s := { s with heap := s.heap.update I (Obj.mapFields fun vs => vs.setIfInBounds 0 (rawInt ((p + 1 : Nat) : Int))) }) e1 rfl (by simp) (wpAny_pure ⟨_, rfl, ?_⟩))
    refine hQ _ _ s.toks ?_ ⟨?_, ?_⟩ (fun b o hb eb => ?_)
    · rw [hen]; rfl
    · have := seti_get (g := rawInt 0) (j := 0) e1
      rw [hp]
      exact this
    · exact (Heap.get?_update_ne _ _ _ _ DI).trans ((Heap.get?_update_ne _ _ _ _ DI).trans st.2)
    · have nb : b ≠ I := by simpa using hb
      rw [Heap.get?_update_ne _ _ _ _ nb, Heap.get?_update_ne _ _ _ _ nb]; exact eb
  done := fun s Q E st hQ => by
    have pz : t.place.size = es.size := by
      unfold SetTable.fits at hf
      simp only [Bool.and_eq_true, beq_iff_eq] at hf
      exact hf.1
    refine seti_next st.1 (seti_pre st.1 st.2 hf ?_)
    have fin : wpAny (model prog w) A.in1 (do setField (.ref I) 2 .none; let __do_lift ← newExc (.type "StopIteration") []; raiseNew __do_lift) (fun fin s' => ∃ v, fin = Fin.done (Flow.ret v) ∧ Q (some v) s') (fun e s' => (∃ o, s'.heap.get? (match e with | .ref a => a | _ => 0) = some o ∧ o.cls = .type "StopIteration") ∧ (∃ a, e = .ref a) ∧ Q none s') s :=
      seti_stop (show A.in1.handled = none from hh) st.1 rfl (by simp) fun h' e x ho => ⟨ho, ⟨e, rfl⟩, hQ h' s.toks fun b o hb eb => x b o (by simpa using hb) eb⟩
    rcases Nat.eq_zero_or_pos es.size with z | z
    · rw [if_pos z]
      show wpAny _ _ (setNext D 0 es.size ep >>= _) _ _ s
      refine wpAny_bind (setNext_led bt st.2 hf hl hz ?_)
      have : es = #[] := Array.eq_empty_of_size_eq_zero z
      rw [this]
      exact fin
    · rw [if_neg (by omega)]
      obtain ⟨p, hp⟩ : ∃ p, t.place = #[p] := Array.size_eq_one_iff.mp (by omega)
      obtain ⟨en, hen⟩ : ∃ en, es = #[en] := Array.size_eq_one_iff.mp (by omega)
      have e0 : ((t.place.getD 0 0 : Nat) : Int) + 1 = ((p + 1 : Nat) : Int) := by rw [hp]; rfl
      rw [e0]
      show wpAny _ _ (setNext D (p + 1) es.size ep >>= _) _ _ s
      refine wpAny_bind (setNext_led bt st.2 hf hl hz ?_)
      rw [hp, (below_one p).2, hen]
      exact fin
  self := fun i s Q E st q => seti_self st.1 q
theorem walks_drawn (hh : A.handled = none) {I D T : Addr} (DI : D ≠ I) (TI : T ≠ I) {es : Array (Int × Value)} {ep : Nat} {t : SetTable} (hf : t.fits es.size = true) {ps : List Nat} (hp : ps.Perm (List.range es.size)) :
    Walks prog w A I [I, D, T] [I] es.size (fun i v => (ps.map fun p => (es.toList.getD p (0, .none)).2)[i]? = some v) (fun i h => h.get? I = some (setIt (.ref T) i D es.size ep) ∧ setAt D es ep t h ∧ h.get? T = some { cls := .type "tuple", data := .seq (ps.map fun p : Nat => rawInt (p : Int)).toArray }) where
  sub := fun b hb => by simp at hb; simp [hb]
  frame := fun i h h' st k => ⟨k I (by simp) _ st.1, k D (by simp) _ st.2.1, k T (by simp) _ st.2.2⟩
  item := fun i s Q E hi st hQ => by
    have pl : ps.length = es.size := by have := hp.length_eq; simpa using this
    have ei : ps[i]? = some (ps[i]'(by omega)) := List.getElem?_eq_getElem _
    have pil : ps[i]'(by omega) < es.size := List.mem_range.mp (hp.mem_iff.mp (List.getElem_mem _))
    refine seti_next st.1 (seti_pre st.1 st.2.1 hf ?_)
    show wpAny _ _ (seqItems? (.ref T) >>= _) _ _ s
    refine wpAny_bind (wpAny_seqItems st.2.2 rfl ?_)
    dsimp only
    have eg : (ps.map fun p : Nat => rawInt (p : Int)).toArray[i]? = some (.int ((ps[i]'(by omega) : Nat) : Int) 0) := by
      rw [List.getElem?_toArray, List.getElem?_map, ei]; rfl
    rw [eg]
    dsimp only
    unfold setNextDrawn
    refine wpAny_bind (wpAny_bind (wpAny_setState_of st.2.1 rfl hf ?_))
    dsimp only
    rw [if_neg (by simp), Int.toNat_natCast, Array.getElem?_eq_getElem pil]
    dsimp only
    refine wpAny_pure ?_
    refine wpAny_bind (wpAny_setField st.1 rfl (by simp) (wpAny_pure ⟨_, rfl, ?_⟩))
    refine hQ _ _ s.toks ?_ ⟨seti_get (g := rawInt 0) (j := 0) st.1, ?_, ?_⟩ (fun b o hb eb => ?_)
    · rw [List.getElem?_map, ei]
      show some ((es.toList.getD (ps[i]'(by omega)) (0, .none)).2) = _
      rw [List.getD_eq_getElem?_getD, Array.getElem?_toList, Array.getElem?_eq_getElem pil]; rfl
    · exact (Heap.get?_update_ne _ _ _ _ DI).trans st.2.1
    · rw [Heap.get?_update_ne _ _ _ _ TI]; exact st.2.2
    · have nb : b ≠ I := by simpa using hb
      rw [Heap.get?_update_ne _ _ _ _ nb]; exact eb
  done := fun s Q E st hQ => by
    have pl : ps.length = es.size := by have := hp.length_eq; simpa using this
    refine seti_next st.1 (seti_pre st.1 st.2.1 hf ?_)
    show wpAny _ _ (seqItems? (.ref T) >>= _) _ _ s
    refine wpAny_bind (wpAny_seqItems st.2.2 rfl ?_)
    dsimp only
    rw [show (ps.map fun p : Nat => rawInt (p : Int)).toArray[es.size]? = none by rw [List.getElem?_toArray, List.getElem?_map, List.getElem?_eq_none (by omega)]; rfl]
    dsimp only
    refine wpAny_bind (wpAny_setField st.1 rfl (by simp) ?_)
    have e1 : (s.heap.update I (Obj.mapFields fun vs => vs.setIfInBounds 0 (rawInt 0))).get? I = some (setIt (rawInt 0) es.size D es.size ep) := by
      rw [Heap.get?_update_self _ st.1 rfl]; rfl
    refine seti_stop (s := { s with heap := s.heap.update I (Obj.mapFields fun vs => vs.setIfInBounds 0 (rawInt 0)) }) (show A.in1.handled = none from hh) e1 rfl (by simp) fun h' e x ho => ⟨ho, ⟨e, rfl⟩, hQ h' s.toks fun b o hb eb => x b o (by simpa using hb) (by
      have nb : b ≠ I := by simpa using hb
      rw [Heap.get?_update_ne _ _ _ _ nb]; exact eb)⟩
  self := fun i s Q E st q => seti_self st.1 q
end
end L2
namespace L2
open PySem PySem.Spec PyProof.Rows PySem.W
section
variable {prog : Program} {w : World} {A : Around} {E : Value → Shared → Prop} {s : Shared}
theorem range_map_getD {α β : Type} (f : α → β) (l : List α) (d : α) : ((List.range l.length).map fun p => f (l.getD p d)) = l.map f := by
  apply List.ext_getElem
  · simp
  · intro i h1 h2
    simp only [List.length_map] at h2
    rw [List.getElem_map, List.getElem_range, List.getElem_map, List.getD_eq_getElem?_getD, List.getElem?_eq_getElem h2]; rfl
theorem set_iter {D : Addr} {es : Array (Int × Value)} {ep : Nat} {t : SetTable} {S : List Str} {Q : Value → Shared → Prop} (hD : setAt D es ep t s.heap) (hS : SetS w (ledOf w) es t S) (hz : es.size ≤ 1000)
    (h : ∀ (I : Addr) (fp : List Addr) (St : Nat → Heap → Prop) (vs : List Value) (h1 : Heap) (d : Drawn), (∀ A' : Around, A'.handled = none → Walks prog w A' I fp [I] es.size (fun i v => vs[i]? = some v) St) → St 0 h1 → s.heap.objs.size ≤ I → (∀ b ∈ fp, b < h1.objs.size) → (∀ b o, s.heap.get? b = some o → h1.get? b = some o) → vs.Perm (es.toList.map (·.2)) → h1.get? I ≠ none → (∀ b ∈ fp, b = I ∨ b = D ∨ s.heap.objs.size ≤ b) → Q (.ref I) { s with heap := h1, drawn := d }) :
    wpAny (model prog w) A (pyIter (.ref D)) Q E s := by
  have hT : s.TypeIs (.ref D) "set" := ⟨_, hD, rfl⟩
  have Dlt : D < s.heap.objs.size := Heap.lt_size hD
  refine wpAny_pyIter_slot hT F.slot_set_iter (wpAny_call_entry F.slot_set_iter hT entry_set_iter ?_ (F.args_set_iter_1 _))
  unfold Builtin.«frozenset.__iter__» Builtin.Frozenset.slot0
  refine wpAny_bind (wpAny_bind ?_)
  show wpAny _ _ (pure (Value.ref D, [])) _ _ _
  refine wpAny_pure ?_
  show wpAny _ _ (pure D) _ _ _
  refine wpAny_pure ?_
  unfold Builtin.Frozenset.sizeOf setEntries
  refine wpAny_bind (wpAny_bind (wpAny_bind (wpAny_setState_of hD rfl hS.fit (wpAny_pure (wpAny_pure ?_)))))
  unfold setDrawn
  refine wpAny_bind (wpAny_bind (wpAny_setState_of hD rfl hS.fit ?_))
  dsimp only
  refine wpAny_bind (by_text (wpAny_pure ?_))
  have szp : ∀ (g : Heap) (o : Obj), (g.push o).objs.size = g.objs.size + 1 := fun g o => Heap.size_push ..
  by_cases dr : (!w.params.followText "set-order" && (!t.plain && decide (es.size > 1))) = true
  · refine wpAny_ite_true ?_ ?_
    · exact decide_eq_true dr
    refine wpAny_bind (draw_ok es.size (List.range es.size) _ _ (by simp) fun ps d hp => ?_)
    have pl : ps.length = es.size := by have := hp.length_eq; simpa using this
    unfold newTuple
    refine wpAny_bind (wpAny_newObj_type ?_ (by
      show (ps.map fun i : Nat => rawInt (i : Int)).toArray.size ≤ sizeLine
      rw [List.size_toArray, List.length_map, sizeLine_eq]; omega))
    unfold setEpoch
    have hD1 : setAt D es ep t (s.heap.push { cls := .type "tuple", data := .seq (ps.map fun i : Nat => rawInt (i : Int)).toArray }) := Heap.get?_push_of_some _ hD
    refine wpAny_bind (wpAny_bind (wpAny_setState_of (s := { s with heap := s.heap.push { cls := .type "tuple", data := .seq (ps.map fun i : Nat => rawInt (i : Int)).toArray }, drawn := d }) hD1 rfl hS.fit (wpAny_pure ?_)))
    dsimp only
    unfold newFields
    refine wpAny_bind (wpAny_newObj_type ?_)
    refine wpAny_pure ⟨_, rfl, "set_iterator", _, ⟨_, Heap.get?_push_size _ rfl, rfl⟩, slot_seti_next.lookup, ?_⟩
    have TI : s.heap.objs.size ≠ (s.heap.push { cls := .type "tuple", data := .seq (ps.map fun i : Nat => rawInt (i : Int)).toArray }).objs.size := by rw [szp]; omega
    have DI : D ≠ (s.heap.push { cls := .type "tuple", data := .seq (ps.map fun i : Nat => rawInt (i : Int)).toArray }).objs.size := by rw [szp]; exact Nat.ne_of_lt (Nat.lt_succ_of_lt Dlt)
    refine h _ _ _ _ _ d (fun A' hA' => walks_drawn (T := s.heap.objs.size) hA' DI TI hS.fit hp) ⟨Heap.get?_push_size _ rfl, Heap.get?_push_of_some _ hD1, Heap.get?_push_of_some _ (Heap.get?_push_size _ rfl)⟩ ?_ ?_ (fun b o e => Heap.get?_push_of_some _ (Heap.get?_push_of_some _ e)) ?_ ?_ ?_
    · rw [szp]; omega
    · intro b hb
      rw [szp, szp]
      simp only [List.mem_cons, List.not_mem_nil, or_false] at hb
      rcases hb with rfl | rfl | rfl
      · rw [szp]; exact Nat.lt_succ_self _
      · exact Nat.lt_succ_of_lt (Nat.lt_succ_of_lt Dlt)
      · exact Nat.lt_succ_of_lt (Nat.lt_succ_self _)
    · have := hp.map (fun p => (es.toList.getD p (0, .none)).2)
      have e2 := range_map_getD (fun e : Int × Value => e.2) es.toList (0, .none)
      rw [Array.length_toList] at e2
      rw [e2] at this
      exact this
    · rw [Heap.get?_push_size _ rfl]; simp
    · intro b hb
      simp only [List.mem_cons, List.not_mem_nil, or_false] at hb
      rcases hb with rfl | rfl | rfl
      · exact .inl rfl
      · exact .inr (.inl rfl)
      · exact .inr (.inr (Nat.le_refl _))
  · refine wpAny_ite_false ?_ ?_
    · exact decide_eq_false dr
    refine wpAny_bind (wpAny_pure ?_)
    unfold setEpoch
    refine wpAny_bind (wpAny_bind (wpAny_setState_of hD rfl hS.fit (wpAny_pure ?_)))
    dsimp only
    unfold newFields
    refine wpAny_bind (wpAny_newObj_type ?_)
    refine wpAny_pure ⟨_, rfl, "set_iterator", _, ⟨_, Heap.get?_push_size _ rfl, rfl⟩, slot_seti_next.lookup, ?_⟩
    have DI : D ≠ s.heap.objs.size := Nat.ne_of_lt Dlt
    have fpl : ∀ b ∈ [s.heap.objs.size, D], b < (s.heap.push (setIt (rawInt 0) 0 D es.size ep)).objs.size := fun b hb => by
      rw [szp]
      simp only [List.mem_cons, List.not_mem_nil, or_false] at hb
      rcases hb with rfl | rfl
      · exact Nat.lt_succ_self _
      · exact Nat.lt_succ_of_lt Dlt
    have fpw : ∀ b ∈ [s.heap.objs.size, D], b = s.heap.objs.size ∨ b = D ∨ s.heap.objs.size ≤ b := fun b hb => by
      simp only [List.mem_cons, List.not_mem_nil, or_false] at hb
      rcases hb with rfl | rfl
      · exact .inl rfl
      · exact .inr (.inl rfl)
    cases bt : w.params.followText "set-order" with
    | true =>
      refine h _ _ _ _ _ s.drawn (fun A' hA' => walks_text bt hA' DI hS.fit) ⟨Heap.get?_push_size _ rfl, Heap.get?_push_of_some _ hD⟩ (Nat.le_refl _) fpl (fun b o e => Heap.get?_push_of_some _ e) ((pick_perm _ es).map _) (by rw [Heap.get?_push_size _ rfl]; simp) fpw
    | false =>
      have hl : t.led = true := by rw [hS.led]; unfold ledOf; rw [bt]; rfl
      have z1 : es.size ≤ 1 := by
        rcases hS.pl with z | z
        · omega
        · rw [bt, z] at dr
          have : ¬ es.size > 1 := fun c => dr (by simp [c])
          omega
      refine h _ _ _ _ _ s.drawn (fun A' hA' => walks_led bt hA' DI hS.fit hl z1) ⟨Heap.get?_push_size _ rfl, Heap.get?_push_of_some _ hD⟩ (Nat.le_refl _) fpl (fun b o e => Heap.get?_push_of_some _ e) (List.Perm.refl _) (by rw [Heap.get?_push_size _ rfl]; simp) fpw
theorem hint_set {r : Addr} {Q : Bool → Shared → Prop} (hT : s.TypeIs (.ref r) "set") (h : Q false s) : wpAny (model prog w) A (Builtin.List.listLengthHint (.ref r)) Q E s := by
  unfold Builtin.List.listLengthHint
  refine wpAny_bind (wpAny_specialOf hT F.slot_set_len.lookup ?_)
  dsimp only
  rw [show splitId "set.__len__" = some ("set", "__len__") by kernel_rfl]
  dsimp only
  refine wpAny_bind (wpAny_isInstance hT F.sub_set_set ?_)
  rw [if_neg (by decide)]
  refine wpAny_ite_true (by kernel_rfl) ?_
  refine wpAny_bind (wpAny_typeOf hT ?_)
  exact wpAny_pure h
end
end L2
namespace L2
open PySem PySem.Spec PyProof.Rows PySem.W
section
variable {prog : Program} {w : World} {A : Around} {E : Value → Shared → Prop} {s : Shared}
theorem set_collect {D : Addr} {es : Array (Int × Value)} {ep : Nat} {t : SetTable} {S : List Str} {Q : List Value → Shared → Prop} (hD : setAt D es ep t s.heap) (hS : SetS w (ledOf w) es t S) (hh : A.handled = none) (hz : es.size ≤ 1000)
    (h : ∀ h' tk d acc, (∀ b o, s.heap.get? b = some o → h'.get? b = some o) → s.heap.objs.size ≤ h'.objs.size → acc.Perm (es.toList.map (·.2)) → Q acc { s with heap := h', toks := tk, drawn := d }) :
    wpAny (model prog w) A (collect (.ref D)) Q E s := by
  have Dlt : D < s.heap.objs.size := Heap.lt_size hD
  unfold collect
  refine wpAny_bind (wpAny_runValue (codeAny_builtin F.entry_proto_collect ?_))
  rw [Around.under_plainId F.plain_proto_collect _]
  show wpAny _ A.in1 (newList [] >>= fun l => again (.builtin "list.__iadd__" ⟨[l, .ref D], []⟩)) _ _ s
  refine wpAny_bind (wpAny_newObj_type ?_)
  refine wpAny_pure ⟨plainId_quiet F.plain_list_iadd _, codeAny_builtin F.entry_list_iadd ?_⟩
  rw [Around.under_plainId F.plain_list_iadd _]
  show wpAny _ A.in1 (Builtin.List.listExtendWith (.ref s.heap.objs.size) (.ref D) (.ref s.heap.objs.size)) _ _ _
  have hS₁ : (s.heap.push { cls := .type "list", data := .seq ([] : List Value).toArray }).get? s.heap.objs.size = some { cls := .type "list", data := .seq #[] 0 } := Heap.get?_push_size _ rfl
  have hD1 : setAt D es ep t (s.heap.push { cls := .type "list", data := .seq ([] : List Value).toArray }) := Heap.get?_push_of_some _ hD
  have szp : (s.heap.push { cls := .type "list", data := .seq ([] : List Value).toArray }).objs.size = s.heap.objs.size + 1 := Heap.size_push ..
  have old1 : ∀ b o, s.heap.get? b = some o → (s.heap.push { cls := .type "list", data := .seq ([] : List Value).toArray }).get? b = some o := fun b o e => Heap.get?_push_of_some _ e
  generalize s.heap.push { cls := .type "list", data := .seq ([] : List Value).toArray } = g at hS₁ hD1 szp old1
  have hT : ({ s with heap := g } : Shared).TypeIs (.ref D) "set" := ⟨_, hD1, rfl⟩
  unfold Builtin.List.listExtendWith
  refine wpAny_bind (wpAny_typeOf hT ?_)
  rw [if_neg (by
    have : (s.heap.objs.size == D) = false := by simpa using Nat.ne_of_gt Dlt
    show ¬ (((s.heap.objs.size == D) || _ || _) = true)
    rw [this]; decide)]
  refine wpAny_bind (set_iter (s := { s with heap := g }) hD1 hS hz fun I fp St vs h1 d Wk st0 Ige fpl old2 vp hI fpw => ?_)
  have hT2 : ({ s with heap := h1, drawn := d } : Shared).TypeIs (.ref D) "set" := ⟨_, old2 _ _ hD1, rfl⟩
  refine wpAny_bind (wpAny_holding (hint_set hT2 ?_))
  dsimp only
  have Ige' : s.heap.objs.size + 1 ≤ I := by rw [← szp]; exact Ige
  have vl : vs.length = es.size := by have := vp.length_eq; simpa using this
  have hS2 := old2 _ _ hS₁
  have nfp : s.heap.objs.size ∉ fp := fun hm => by
    rcases fpw _ hm with z | z | z
    · have z' : s.heap.objs.size = I := z
      rw [← z'] at Ige'
      exact Nat.not_succ_le_self _ Ige'
    · have z' : s.heap.objs.size = D := z
      rw [z'] at Dlt
      exact Nat.lt_irrefl _ Dlt
    · rw [szp] at z
      have z' : s.heap.objs.size + 1 ≤ s.heap.objs.size := z
      omega
  have fin : ∀ (c0 : Nat) (h2 : Heap), h2.get? s.heap.objs.size = some { cls := .type "list", data := .seq #[] c0 } → (∀ b o, b ≠ s.heap.objs.size → h1.get? b = some o → h2.get? b = some o) →
      codeAny (model prog w) A (.builtin "list.extend.loop" ⟨[.ref s.heap.objs.size, .ref I, .ref s.heap.objs.size], []⟩) (fun r s' => match r with | .ok (.ret v) => wpAny (model prog w) A (match v with | .ref a => (do let __do_lift ← load a; match __do_lift.data with | .seq xs _ => pure xs.toList | _ => unsupported "internal:collect") | _ => unsupported "internal:collect") Q E s' | .ok _ => False | .error e => E e s') { s with heap := h2, drawn := d } := fun c0 h2 hg2 k2 => by
    refine codeAny_extend_loopS (Wk A.in1 hh).toS (by rw [sizeLine_eq]; omega) s.heap.objs.size nfp (.ref s.heap.objs.size) es.size 0 _ #[] c0 (Nat.sub_zero _) (Nat.zero_le _) ((Wk A.in1 hh).frame 0 _ _ st0 fun b hb o e => k2 b o (fun z => nfp (by rw [← z]; exact hb)) e) hg2 ⟨rfl, fun j v hj => by simp at hj⟩ fun s' acc' c' mv hg3 it => ?_
    obtain ⟨hp', gn', dr', tk', os'⟩ := s'
    have e1 : gn' = s.gens := mv.gens
    have e2 : dr' = d := mv.drawn
    have e3 : os' = s.os := mv.os
    subst e1; subst e2; subst e3
    refine wpAny_bind (wpAny_load hg3 (wpAny_pure ?_))
    have ea : acc'.toList = vs := by
      apply List.ext_getElem?
      intro i
      rcases Nat.lt_or_ge i es.size with c | c
      · have hi : i < acc'.size := by rw [it.1]; exact c
        have := it.2 i acc'[i] (Array.getElem?_eq_getElem hi)
        rw [Array.getElem?_toList, Array.getElem?_eq_getElem hi, this]
      · rw [Array.getElem?_toList, Array.getElem?_eq_none (by rw [it.1]; exact c), List.getElem?_eq_none (by omega)]
    rw [ea]
    refine h hp' tk' _ vs (fun b o e => ?_) ?_ vp
    · have bl : b ≠ s.heap.objs.size := Nat.ne_of_lt (Heap.lt_size e)
      have bI : b ≠ I := fun z => by
        have h1 : b < s.heap.objs.size := Heap.lt_size e
        have h2 : b = I := z
        have h3 : I < s.heap.objs.size := by rw [← h2]; exact h1
        exact absurd (Nat.lt_of_lt_of_le h3 (Nat.le_of_succ_le Ige')) (Nat.lt_irrefl _)
      exact mv.heap b o (by simp [bl, bI]) (k2 b o bl (old2 _ _ (old1 _ _ e)))
    · exact Nat.le_of_lt (Heap.lt_size hg3)
  rw [if_pos (by decide +kernel)]
  refine wpAny_bind (wpAny_rule (wpAny_bind ?_))
  unfold Builtin.List.listTouch
  refine wpAny_bind (listUpdate_at (a := s.heap.objs.size) (s := { s with heap := h1, drawn := d }) hS2 rfl ?_ (Nat.zero_le _) (by show 1 ≤ sizeLine + 1; omega))
  have g1 := get?_update_seq hS2 (fun x => x.push Value.none)
  refine listUpdate_at (a := s.heap.objs.size) (s := { s with heap := h1.update s.heap.objs.size (Obj.mapSeq fun x => x.push Value.none), drawn := d }) g1 rfl ?_ (by show 1 ≤ sizeLine; rw [sizeLine_eq]; decide) (Nat.zero_le _)
  have g2 := get?_update_seq g1 (fun x => x.pop)
  refine wpAny_pure ⟨plainId_quiet (by kernel_rfl) _, ?_⟩
  exact fin _ _ g2 fun b o n e => (Heap.get?_update_ne _ _ _ _ n).trans ((Heap.get?_update_ne _ _ _ _ n).trans e)
theorem perm_strs : ∀ {es : List (Int × Value)} {acc : List Value}, (∀ e ∈ es, ∃ x tk, e = (hashStr w x, Value.str x tk)) → acc.Perm (es.map (·.2)) → ∃ ss, StrsAre acc ss ∧ ss.Perm (es.map keyOf) := fun {es acc} he hp => by
  let f : Value → Str := fun v => match v with | .str x _ => x | _ => Str.empty
  have hall : ∀ v ∈ acc, ∃ x tk, v = Value.str x tk := fun v hv => by
    obtain ⟨e, hm, rfl⟩ := List.mem_map.mp (hp.mem_iff.mp hv)
    obtain ⟨x, tk, rfl⟩ := he e hm
    exact ⟨x, tk, rfl⟩
  have go : ∀ (l : List Value), (∀ v ∈ l, ∃ x tk, v = Value.str x tk) → StrsAre l (l.map f) := fun l => by
    induction l with
    | nil => intro _; exact .nil
    | cons v r ih =>
      intro hl
      obtain ⟨x, tk, rfl⟩ := hl v List.mem_cons_self
      exact .cons x tk (ih fun u hu => hl u (List.mem_cons_of_mem _ hu))
  refine ⟨acc.map f, go acc hall, ?_⟩
  have := hp.map f
  rw [List.map_map] at this
  have e2 : es.map (f ∘ fun e => e.2) = es.map keyOf := List.map_congr_left fun e _ => rfl
  rw [e2] at this
  exact this
theorem set_sorted {D : Addr} {S : List Str} {n : Nat} {Q : Value → Shared → Prop} (hA : SetA w (ledOf w) s.heap D S n) (hh : A.handled = none) (hn : n < 64)
    (h : ∀ h' tk d l out ss' e, (∀ b o, s.heap.get? b = some o → h'.get? b = some o) → s.heap.objs.size ≤ l → h'.get? l = some (seqObj "list" out e) → StrsAre out.toList ss' → ss'.Nodup → (∀ x, x ∈ ss' ↔ x ∈ S) → sortedS ss' = true → ss'.length ≤ n → Q (.ref l) { s with heap := h', toks := tk, drawn := d }) :
    wpAny (model prog w) A (call (.builtin "sorted") [.ref D]) Q E s := by
  obtain ⟨es, ep, t, hD, hS, hsz⟩ := hA
  refine Calls.call_function_entry kind_sorted plain_sorted entry_sorted (args_sorted1 _) ?_
  unfold Builtin.«sorted»
  refine wpAny_bind (m := checkCount "sorted" 1 1 _) (wpAny_pure ?_)
  refine wpAny_bind (set_collect (A := A.in1) hD hS hh (by omega) fun h1 tk d acc old1 sz1 hp => ?_)
  obtain ⟨ss, hv, hpk⟩ := perm_strs hS.ent hp
  have al : acc.length = es.size := by have := hp.length_eq; simpa using this
  have fz : acc.length ≤ sizeLine := by rw [sizeLine_eq]; omega
  refine wpAny_bind (wpAny_newList ?_ fz)
  have hDL : (h1.push (seqObj "list" acc.toArray 0)).get? h1.objs.size = some (seqObj "list" acc.toArray 0) := Heap.get?_push_size _ rfl
  refine wpAny_bind (wpAny_holding (wpAny_call_entry slot_list_sort ⟨_, hDL, rfl⟩ entry_list_sort (list_sort_treeK (s := { s with heap := h1.push (seqObj "list" acc.toArray 0), toks := tk, drawn := d }) strKind_oneLt hDL (StrsAre.keysOf hv) (fun v₁ v₂ rest e => keyKind_strs (by rw [← e]; exact hv)) (by omega) fun st' a1 a2 => ⟨_, rfl, ?_⟩) (args_list_sort _)))
  obtain ⟨ss', b1, b2, b3⟩ := sorted_out_str hv a1 a2
  obtain ⟨e, he⟩ := sortedHeap_at hDL
  refine wpAny_pure ⟨_, rfl, h _ tk d h1.objs.size _ ss' e (fun b o eb => ?_) sz1 he b1 ?_ (fun x => ?_) b3 ?_⟩
  · have lt := Heap.lt_size (old1 _ _ eb)
    rw [sortedHeap_old (Nat.ne_of_lt lt) (by rw [show (h1.push (seqObj "list" acc.toArray 0)).objs.size = h1.objs.size + 1 from Heap.size_push ..]; exact Nat.lt_succ_of_lt lt)]
    exact Heap.get?_push_of_some _ (old1 _ _ eb)
  · exact (b2.trans hpk).nodup_iff.mpr hS.nd
  · rw [(b2.trans hpk).mem_iff]; exact hS.mem x
  · have t1 : (es.toList.map keyOf).length = es.size := by rw [List.length_map, Array.length_toList]
    have t2 := (b2.trans hpk).length_eq
    exact Nat.le_trans (Nat.le_of_eq (t2.trans t1)) hsz
end
end L2
namespace L2
open PySem PySem.Spec PyProof.Rows PySem.W
theorem Inv.drawn {X : Cx} {pins : List (Addr × Obj)} {σ : St} {H : Hp} {s : Shared} (I : Inv X pins σ H s) (d : Drawn) : Inv X pins σ H { s with drawn := d } :=
  ⟨I.ok, I.os, I.bare, I.base, I.loc, I.cell, I.free, I.freeC, I.pin, I.hok, I.len⟩
theorem bt_set : bootBuiltins "set" = some (.type "set") := by kernel_rfl
theorem bt_sorted' : bootBuiltins "sorted" = some (.builtin "sorted") := by kernel_rfl
section
variable {X : Cx} {a : Expr} {ta : TA} {p p2 pos pos2 : Pos}
def tSortSet (K : PySem.W.Frag) (ta : TA) : TE := fun σ H Q => ta σ H fun vs H1 => ∃ (l : Addr) (ss : List Str), vs = [.ref l] ∧ SqL K H1 l (ss.map V.str) ∧ ss.length < 64 ∧
  ∀ (ss' : List Str) (r : Addr), ss'.Nodup → (∀ x, x ∈ ss' ↔ x ∈ ss) → sortedS ss' = true → ss'.length ≤ ss.length → H1 r = none → Q (.ref r) (upd H1 r (.lst (ss'.map V.str)))
theorem pe_sortset (K : PySem.W.Frag) (hc : X.calm = true) (hg1 : Gl X "sorted") (hm1 : X.mg "sorted" = none) (hg2 : Gl X "set") (hm2 : X.mg "set" = none) (ha : PA X [a] ta) (hK : X.K = K := by rfl)
    (he : starEach [.Call (.Name "set" p2) [a] [] pos2] X.env = [(false, eval (.Call (.Name "set" p2) [a] [] pos2) X.env)] := by rfl) (he2 : starEach [a] X.env = [(false, eval a X.env)] := by rfl) :
    PE X (.Call (.Name "sorted" p) [.Call (.Name "set" p2) [a] [] pos2] [] pos) (tSortSet K ta) := by
  subst hK
  intro pins s σ H Q I h
  refine wpAny_Call_Name_kw (ld_blt I hg1 hm1 bt_sorted' ?_ (by decide) (by decide))
  refine PyProof.Rows.callWith_builtin1 ?_ he rfl
  rw [he]
  show wpAny _ _ (spliced ((false, eval (.Call (.Name "set" p2) [a] [] pos2) X.env) :: backTo pos (starEach [] X.env))) _ _ _
  refine Calls.spliced_cons ?_
  refine wpAny_Call_Name_kw (ld_blt (I.tok _) hg2 hm2 bt_set ?_ (by decide) (by decide))
  refine PyProof.Rows.callWith_type1 (thn (ha pos2 pins _ σ H _ (I.tok _) h) fun us s1 ⟨vs, H1, I1, r1, q1⟩ => ?_) he2 rfl
  obtain ⟨l, ss, rfl, hq, h64, q⟩ := q1
  obtain ⟨u, rfl, ru⟩ := vals1 r1
  cases (show u = Value.ref l from ru)
  obtain ⟨its, rv, ht, hz⟩ := I1.list hq
  have hlen := rv.length
  rw [List.length_map] at hlen
  have hh : X.A.handled = none := I1.ok.hd hc
  have hsz : its.toArray.size = its.length := List.size_toArray ..
  refine set_call ht.isList (strsAre_of rv) hh (by show its.toArray.size + 1 < 4096; omega) fun h2 tk2 old2 hA => ?_
  refine Calls.spliced_nil ?_
  have lt2 : s1.heap.objs.size < h2.objs.size := by
    obtain ⟨es, ep, t, e, _⟩ := id hA
    exact Heap.lt_size e
  refine set_sorted (s := { s1 with heap := h2, toks := tk2 }) hA hh (by omega) fun h3 tk3 d l3 out ss' e old3 lge hg3 hv3 nd3 mem3 srt3 len3 => ?_
  have lge' : s1.heap.objs.size ≤ l3 := Nat.le_trans (Nat.le_of_lt lt2) lge
  have sl : ss'.length ≤ ss.length := by omega
  have I3 := I1.laid (t' := tk3) (h' := h3) (a := l3) (o := .lst (ss'.map V.str)) (fun b o eb => old3 b o (old2 b o eb)) lge' (show ObjOk X.prog X.w _ _ _ (.lst (ss'.map V.str)) from ⟨by rw [List.length_map]; exact Nat.le_of_lt (small1000 (by omega)), out.toList, e, strsAre_get hv3, hg3⟩)
  exact ⟨.ref l3, _, I3.drawn d, rfl, q ss' l3 nd3 mem3 srt3 sl (I1.hok.fresh lge')⟩
end
end L2
namespace L2
open PySem PySem.Spec PyProof.Rows
section
variable {κ : Type} [DecidableEq κ]
def valV (kvs : List (κ × V)) (k : κ) : Option V := (kvs.find? fun kv => decide (kv.1 = k)).map (·.2)
def putK (kvs : List (κ × V)) (k : κ) (v : V) : List (κ × V) :=
  if (kvs.any fun kv => decide (kv.1 = k)) = true then kvs.map (fun kv => if kv.1 = k then (kv.1, v) else kv) else kvs ++ [(k, v)]
def dropK (kvs : List (κ × V)) (k : κ) : List (κ × V) := kvs.filter fun kv => decide (kv.1 ≠ k)
theorem valV_pos {p : κ × V} {r : List (κ × V)} {k : κ} (e : p.1 = k) : valV (p :: r) k = some p.2 := by simp [valV, List.find?_cons, e]
theorem valV_neg {p : κ × V} {r : List (κ × V)} {k : κ} (e : ¬ p.1 = k) : valV (p :: r) k = valV r k := by simp [valV, List.find?_cons, e]
theorem valV_any (k : κ) : ∀ kvs : List (κ × V), (kvs.any fun kv => decide (kv.1 = k)) = (valV kvs k).isSome
  | [] => rfl
  | p :: r => by
    rw [List.any_cons]
    by_cases e : p.1 = k
    · simp only [valV_pos e, decide_eq_true e, Bool.true_or, Option.isSome_some]
    · rw [valV_neg e, decide_eq_false e, Bool.false_or]; exact valV_any k r
theorem valV_map (k j : κ) (y : V) : ∀ kvs : List (κ × V), valV (kvs.map fun kv => if kv.1 = k then (kv.1, y) else kv) j = (valV kvs j).map fun x => if j = k then y else x
  | [] => rfl
  | p :: r => by
    have ih := valV_map k j y r
    rw [List.map_cons]
    by_cases h : p.1 = k
    · rw [if_pos h]
      by_cases e : p.1 = j
      · rw [valV_pos (p := (p.1, y)) e, valV_pos e, Option.map_some, if_pos (e.symm.trans h)]
      · rw [valV_neg (p := (p.1, y)) e, valV_neg e, ih]
    · rw [if_neg h]
      by_cases e : p.1 = j
      · rw [valV_pos (p := p) e, valV_pos e, Option.map_some, if_neg (fun z => h (e.trans z))]
      · rw [valV_neg (p := p) e, valV_neg e, ih]
theorem valV_snoc (k j : κ) (y : V) : ∀ kvs : List (κ × V), valV kvs k = none → valV (kvs ++ [(k, y)]) j = if j = k then some y else valV kvs j
  | [], _ => by
    by_cases e : k = j
    · rw [if_pos e.symm]; exact valV_pos (p := (k, y)) e
    · rw [if_neg (fun z => e z.symm)]; exact valV_neg (p := (k, y)) e
  | p :: r, hn => by
    rw [List.cons_append]
    have hk : ¬ p.1 = k := fun z => by rw [valV_pos z] at hn; cases hn
    rw [valV_neg hk] at hn
    have ih := valV_snoc k j y r hn
    by_cases e : p.1 = j
    · rw [valV_pos e, valV_pos e, if_neg (fun z => hk (e.trans z))]
    · rw [valV_neg e, valV_neg e, ih]
theorem valV_put (kvs : List (κ × V)) (k j : κ) (y : V) : valV (putK kvs k y) j = if j = k then some y else valV kvs j := by
  unfold putK
  by_cases a : (kvs.any fun kv => decide (kv.1 = k)) = true
  · rw [if_pos a, valV_map]
    rw [valV_any] at a
    by_cases e : j = k
    · obtain ⟨x, hx⟩ := Option.isSome_iff_exists.mp a
      rw [if_pos e, e, hx, Option.map_some, if_pos rfl]
    · rw [if_neg e]
      cases valV kvs j with
      | none => rfl
      | some x => rw [Option.map_some, if_neg e]
  · rw [if_neg a]
    refine valV_snoc k j y kvs ?_
    rw [valV_any] at a
    cases q : valV kvs k with
    | none => rfl
    | some x => rw [q] at a; exact (a rfl).elim
theorem length_putK (kvs : List (κ × V)) (k : κ) (v : V) : (putK kvs k v).length ≤ kvs.length + 1 := by
  unfold putK
  split
  · rw [List.length_map]; omega
  · rw [List.length_append, List.length_cons, List.length_nil]; omega
theorem RelO.isSome_eq {o : Option V} {u : Option Value} (r : RelO o u) : o.isSome = u.isSome := by
  cases o with
  | none => cases u with
    | none => rfl
    | some _ => exact (show False from r).elim
  | some _ => cases u with
    | none => exact (show False from r).elim
    | some _ => rfl
theorem RelO.getD {o : Option V} {u : Option Value} {d : V} {d' : Value} (r : RelO o u) (rd : RelV d d') : RelV (o.getD d) (u.getD d') := by
  cases o with
  | none => cases u with
    | none => exact rd
    | some _ => exact (show False from r).elim
  | some _ => cases u with
    | none => exact (show False from r).elim
    | some _ => exact r
theorem KV.val {kvs : List (κ × V)} {vs : List (κ × Value)} (r : KV kvs vs) (k : κ) : RelO (valV kvs k) (valueAt vs k) := by
  unfold KV at r
  induction r with
  | nil => exact True.intro
  | @cons p q ps qs h t ih =>
    obtain ⟨h1, h2⟩ := h
    by_cases e : p.1 = k
    · have e' : q.1 = k := h1.symm.trans e
      have b : valueAt (q :: qs) k = some q.2 := by simp [valueAt, List.find?_cons, e']
      rw [valV_pos e, b]; exact h2
    · have e' : ¬ q.1 = k := fun z => e (h1.trans z)
      have b : valueAt (q :: qs) k = valueAt qs k := by simp [valueAt, List.find?_cons, e']
      rw [valV_neg e, b]; exact ih
theorem KV.any {kvs : List (κ × V)} {vs : List (κ × Value)} (r : KV kvs vs) (k : κ) : (kvs.any fun kv => decide (kv.1 = k)) = vs.any fun kv => decide (kv.1 = k) := by
  unfold KV at r
  induction r with
  | nil => rfl
  | cons h t ih => rw [List.any_cons, List.any_cons, ih, h.1]
theorem KV.repl {kvs : List (κ × V)} {vs : List (κ × Value)} (r : KV kvs vs) (k : κ) {y : V} {u : Value} (ry : RelV y u) :
    KV (kvs.map fun kv => if kv.1 = k then (kv.1, y) else kv) (vs.map fun kv => if kv.1 = k then (kv.1, u) else kv) := by
  unfold KV at r ⊢
  induction r with
  | nil => exact .nil
  | @cons p q ps qs h t ih =>
    rw [List.map_cons, List.map_cons]
    refine .cons ?_ ih
    obtain ⟨h1, h2⟩ := h
    by_cases e : p.1 = k
    · rw [if_pos e, if_pos (h1.symm.trans e)]; exact ⟨h1, ry⟩
    · rw [if_neg e, if_neg (fun z => e (h1.trans z))]; exact ⟨h1, h2⟩
theorem KV.put {kvs : List (κ × V)} {vs : List (κ × Value)} (r : KV kvs vs) (k : κ) {y : V} {u : Value} (ry : RelV y u) : KV (putK kvs k y) (stored vs k u) := by
  unfold putK stored
  rw [r.any k]
  by_cases e : (vs.any fun kv => decide (kv.1 = k)) = true
  · rw [if_pos e, if_pos e]; exact r.repl k ry
  · rw [if_neg e, if_neg e]; exact Paired.snoc r ⟨rfl, ry⟩
theorem KV.drop {kvs : List (κ × V)} {vs : List (κ × Value)} (r : KV kvs vs) (k : κ) : KV (dropK kvs k) (without vs k) := by
  unfold KV at r ⊢
  unfold dropK without
  induction r with
  | nil => exact .nil
  | @cons p q ps qs h t ih =>
    obtain ⟨h1, h2⟩ := h
    rw [List.filter_cons, List.filter_cons]
    by_cases e : p.1 = k
    · have a : ¬ decide (p.1 ≠ k) = true := by simp [e]
      have b : ¬ decide (q.1 ≠ k) = true := by simp [h1.symm.trans e]
      rw [if_neg a, if_neg b]; exact ih
    · have e' : ¬ q.1 = k := fun z => e (h1.trans z)
      have a : decide (p.1 ≠ k) = true := by simp [e]
      have b : decide (q.1 ≠ k) = true := by simp [e']
      rw [if_pos a, if_pos b]; exact .cons ⟨h1, h2⟩ ih
theorem KV.keys {kvs : List (κ × V)} {vs : List (κ × Value)} (r : KV kvs vs) : kvs.map (·.1) = vs.map (·.1) := by
  unfold KV at r
  induction r with
  | nil => rfl
  | cons h t ih => rw [List.map_cons, List.map_cons, ih, h.1]
theorem KV.length {kvs : List (κ × V)} {vs : List (κ × Value)} (r : KV kvs vs) : kvs.length = vs.length := Paired.length r
end
theorem kV_is {P : Program} {w : World} {k : Key} {u : Value} (r : RelV (kV k) u) : (mixKind P w).is k u = true := by
  cases k with
  | inl i => obtain ⟨t, e⟩ := (show ∃ t, u = Value.int i t from r); subst e; exact mixKind_int P w i t
  | inr x => obtain ⟨t, e⟩ := (show ∃ t, u = Value.str x t from r); subst e; exact mixKind_str P w x t
theorem items_are {P : Program} {w : World} : ∀ {ks : List Key} {us : List Value}, Vals (ks.map kV) us → ItemsAre (mixKind P w) ks us
  | [], _, r => by rw [List.map_nil] at r; cases r; exact .nil
  | k :: ks, _, r => by
    rw [List.map_cons] at r
    cases r with
    | cons h t => exact .cons (kV_is h) (items_are t)
abbrev KT (H : Hp) : List (List Key × V) → List (List Key × Addr × Value) → Prop := Paired fun p q => p.1 = q.1 ∧ H q.2.1 = some (.tup (p.1.map kV)) ∧ RelV p.2 q.2.2
theorem KT.val {H : Hp} {kvs : List (List Key × V)} {xs : List (List Key × Addr × Value)} (r : KT H kvs xs) (k : List Key) : RelO (valV kvs k) ((atKey xs k).map (·.2)) := by
  induction r with
  | nil => exact True.intro
  | @cons p q ps qs h t ih =>
    obtain ⟨h1, _, h2⟩ := h
    by_cases e : p.1 = k
    · have e' : q.1 = k := h1.symm.trans e
      have b : atKey (q :: qs) k = some q.2 := by simp [atKey, List.find?_cons, e']
      rw [valV_pos e, b]; exact h2
    · have e' : ¬ q.1 = k := fun z => e (h1.trans z)
      have b : atKey (q :: qs) k = atKey qs k := by simp [atKey, List.find?_cons, e']
      rw [valV_neg e, b]; exact ih
theorem KT.repl {H : Hp} {kvs : List (List Key × V)} {xs : List (List Key × Addr × Value)} (r : KT H kvs xs) (k : List Key) {y : V} {u : Value} (ry : RelV y u) :
    KT H (kvs.map fun kv => if kv.1 = k then (kv.1, y) else kv) (xs.map (putAt k u)) := by
  induction r with
  | nil => exact .nil
  | @cons p q ps qs h t ih =>
    rw [List.map_cons, List.map_cons]
    refine .cons ?_ ih
    obtain ⟨h1, h2, h3⟩ := h
    unfold putAt
    by_cases e : p.1 = k
    · rw [if_pos e, if_pos (h1.symm.trans e)]; exact ⟨h1, h2, ry⟩
    · rw [if_neg e, if_neg (fun z => e (h1.trans z))]; exact ⟨h1, h2, h3⟩
theorem KT.put {H : Hp} {kvs : List (List Key × V)} {xs : List (List Key × Addr × Value)} (r : KT H kvs xs) (k : List Key) {b : Addr} {y : V} {u : Value} (hb : H b = some (.tup (k.map kV))) (ry : RelV y u) :
    KT H (putK kvs k y) (storedH xs k b u) := by
  have e : (kvs.any fun kv => decide (kv.1 = k)) = (atKey xs k).isSome := by
    rw [valV_any, (r.val k).isSome_eq, Option.isSome_map]
  unfold putK storedH
  rw [e]
  by_cases q : (atKey xs k).isSome = true
  · rw [if_pos q, if_pos q]; exact r.repl k ry
  · rw [if_neg q, if_neg q]; exact Paired.snoc r ⟨rfl, hb, ry⟩
theorem KT.keeps {H H' : Hp} {kvs : List (List Key × V)} {xs : List (List Key × Addr × Value)} (r : KT H kvs xs) (ht : ∀ b ys, H b = some (.tup ys) → H' b = some (.tup ys)) : KT H' kvs xs :=
  Paired.mapP r fun _ _ z => ⟨z.1, ht _ _ z.2.1, z.2.2⟩
section
variable {P : Program} {w : World} {H : Hp} {h : Heap} {a : Addr}
theorem rd_of {u : HO} (ok : HOk P w H h) (e : Rd H a u) : ObjOk P w H h a u := e.ok ok
theorem dk_rd {kvs : List (Key × V)} (ok : HOk P w H h) (e : Rd H a (.dK kvs)) : kvs.length ≤ sizeLine ∧ (a == sysModules) = false ∧ ∃ vs, KV kvs vs ∧ h.DictOf (mixKind P w) a vs :=
  show ObjOk P w H h a (.dK kvs) from rd_of ok e
theorem dk_of {kvs : List (Key × V)} (ok : HOk P w H h) (e : H a = some (.dK kvs)) : kvs.length ≤ sizeLine ∧ (a == sysModules) = false ∧ ∃ vs, KV kvs vs ∧ h.DictOf (mixKind P w) a vs := dk_rd ok (.inl e)
theorem key_of {ks : List Key} (ok : HOk P w H h) (e : H a = some (.tup (ks.map kV))) : (tupleKind (mixKind P w)).is h ks a := by
  obtain ⟨_, its, r, o, h1, h2, n, h3⟩ := (show ObjOk P w H h a (.tup (ks.map kV)) from ok a _ e)
  exact ⟨o, its.toArray, n, h1, h2, h3, by simpa using items_are r⟩
theorem dt_rd {kvs : List (List Key × V)} (ok : HOk P w H h) (e : Rd H a (.dT kvs)) : kvs.length ≤ sizeLine ∧ (a == sysModules) = false ∧
    ∃ xs, KT H kvs xs ∧ h.DictOfH (tupleKind (mixKind P w)) a xs := by
  obtain ⟨z, y, xs, r, o, es, ep, h1, h2, h3, h4, h5⟩ := (show ObjOk P w H h a (.dT kvs) from rd_of ok e)
  refine ⟨z, y, xs, r, o, es, ep, h1, h2, h3, h4, fun x hx => ?_, h5⟩
  have all : ∀ {l : List (List Key × V)} {m : List (List Key × Addr × Value)}, KT H l m → ∀ x ∈ m, (tupleKind (mixKind P w)).is h x.1 x.2.1 := by
    intro l m q
    induction q with
    | nil => intro x hx; exact nomatch hx
    | @cons p q ps qs hq t ih =>
      intro x hx
      rcases List.mem_cons.mp hx with e | hx
      · subst e
        exact key_of ok (by rw [← hq.1]; exact hq.2.1)
      · exact ih x hx
  exact all r x hx
theorem dt_of {kvs : List (List Key × V)} (ok : HOk P w H h) (e : H a = some (.dT kvs)) : kvs.length ≤ sizeLine ∧ (a == sysModules) = false ∧
    ∃ xs, KT H kvs xs ∧ h.DictOfH (tupleKind (mixKind P w)) a xs := dt_rd ok (.inl e)
end
def DGet (H : Hp) (a : Addr) (y : V) (r : Option V) : Prop :=
  (∃ kvs k, Rd H a (.dK kvs) ∧ y = kV k ∧ r = valV kvs k) ∨ ∃ kvs k b, Rd H a (.dT kvs) ∧ y = .ref b ∧ H b = some (.tup (k.map kV)) ∧ r = valV kvs k
def DPut (H : Hp) (a : Addr) (y v : V) (H' : Hp) : Prop :=
  (∃ kvs k, H a = some (.dK kvs) ∧ y = kV k ∧ kvs.length < sizeLine ∧ H' = upd H a (.dK (putK kvs k v))) ∨
  ∃ kvs k b, H a = some (.dT kvs) ∧ y = .ref b ∧ H b = some (.tup (k.map kV)) ∧ kvs.length < sizeLine ∧ H' = upd H a (.dT (putK kvs k v))
theorem DGet.k {H : Hp} {a : Addr} {kvs : List (Key × V)} {k : Key} (e : H a = some (.dK kvs)) : DGet H a (kV k) (valV kvs k) := .inl ⟨kvs, k, .inl e, rfl, rfl⟩
theorem DGet.t {H : Hp} {a b : Addr} {kvs : List (List Key × V)} {k : List Key} (e : H a = some (.dT kvs)) (eb : H b = some (.tup (k.map kV))) : DGet H a (.ref b) (valV kvs k) := .inr ⟨kvs, k, b, .inl e, rfl, eb, rfl⟩
theorem DPut.k {H : Hp} {a : Addr} {kvs : List (Key × V)} {k : Key} {v : V} (e : H a = some (.dK kvs)) (hl : kvs.length < sizeLine) : DPut H a (kV k) v (upd H a (.dK (putK kvs k v))) := .inl ⟨kvs, k, e, rfl, hl, rfl⟩
theorem DPut.t {H : Hp} {a b : Addr} {kvs : List (List Key × V)} {k : List Key} {v : V} (e : H a = some (.dT kvs)) (eb : H b = some (.tup (k.map kV))) (hl : kvs.length < sizeLine) :
    DPut H a (.ref b) v (upd H a (.dT (putK kvs k v))) := .inr ⟨kvs, k, b, e, rfl, eb, hl, rfl⟩
section
variable {X : Cx} {pins : List (Addr × Obj)} {σ : St} {H : Hp} {s : Shared} {a : Addr} {y v : V} {u r : Value} {o : Option V} {A : Around} {E : Value → Shared → Prop}
theorem Inv.big (I : Inv X pins σ H s) : sysModules < s.heap.objs.size := by
  have h : mainGlobals < s.heap.objs.size := (I.mod.glob.keeps I.bk).lt
  exact Nat.lt_trans (by decide) h
theorem d_in {Q : Value → Shared → Prop} (hu : A.units + 1 < cLine) (I : Inv X pins σ H s) (g : DGet H a y o) (ry : RelV y u) (h : ∀ s', Inv X pins σ H s' → Q (.bool o.isSome) s') :
    wpAny (model X.prog X.w) A (compareOp .In u (.ref a)) Q E s := by
  rcases g with ⟨kvs, k, e, ey, l⟩ | ⟨kvs, k, b, e, ey, eb, l⟩
  · subst ey
    obtain ⟨z, hd, vs, rel, dd⟩ := dk_rd I.hok e
    refine wpAny_in_of (kV_is ry) hd dd.mapOf ?_
    rw [← (rel.val k).isSome_eq, ← l]
    exact h _ (I.tok _)
  · subst ey
    cases (show u = Value.ref b from ry)
    obtain ⟨z, hd, xs, rel, dd⟩ := dt_rd I.hok e
    refine wpAny_in_heap (tupleKind_room_in1 hu) (key_of I.hok eb) hd dd ?_
    have q := (rel.val k).isSome_eq
    rw [Option.isSome_map] at q
    rw [← q, ← l]
    exact h _ (I.tok _)
theorem d_write {h' : Heap} {t' : Nat} {ob : HO} (I : Inv X pins σ H s) (mu : Mut (H a)) (hs : Heap.SameBut a s.heap h') (he : ∃ q, h'.get? a = some q) (new : ObjOk X.prog X.w (upd H a ob) h' a ob) :
    Inv X pins σ (upd H a ob) { s with heap := h', toks := t' } :=
  I.write (x := a) (e := a) mu (.inl rfl) (fun b q hb z => (hs.2 b hb).trans z) he new
theorem dk_new {P : Program} {w : World} {H' : Hp} {h' : Heap} {kvs : List (Key × V)} {vs : List (Key × Value)} (z : kvs.length ≤ sizeLine) (hd : (a == sysModules) = false) (rel : KV kvs vs) (dd : h'.DictOf (mixKind P w) a vs) :
    ObjOk P w H' h' a (.dK kvs) := ⟨z, hd, vs, rel, dd⟩
theorem d_setItem {H' : Hp} {Q : Unit → Shared → Prop} (hu : A.units + 1 < cLine) (I : Inv X pins σ H s) (g : DPut H a y v H') (ry : RelV y u) (rv : RelV v r) (h : ∀ s', Inv X pins σ H' s' → Q () s') :
    wpAny (model X.prog X.w) A (setItem (.ref a) u r) Q E s := by
  rcases g with ⟨kvs, k, e, ey, l, eH⟩ | ⟨kvs, k, b, e, ey, eb, l, eH⟩
  · subst ey eH
    obtain ⟨z, hd, vs, rel, dd⟩ := dk_of I.hok e
    have hz : vs.length ≤ sizeLine := by rw [← rel.length]; exact z
    have hl : (putK kvs k v).length ≤ sizeLine := by have := length_putK kvs k v; omega
    refine wpAny_setItem_pairs (hsz := hz) (kV_is ry) dd fun h' dd' hs => h _ ?_
    have he : ∃ q, h'.get? a = some q := let ⟨q, _, _, hq, _⟩ := dd'; ⟨q, hq⟩
    exact d_write I (by rw [e]; exact True.intro) hs he (dk_new hl hd (rel.put k rv) dd')
  · subst ey eH
    cases (show u = Value.ref b from ry)
    obtain ⟨z, hd, xs, rel, dd⟩ := dt_of I.hok e
    have hz : xs.length ≤ sizeLine := by rw [← Paired.length rel]; exact z
    have hl : (putK kvs k v).length ≤ sizeLine := by have := length_putK kvs k v; omega
    refine wpAny_setItem_heap (hsz := hz) (tupleKind_room_in1 hu) (key_of I.hok eb) dd fun h' dd' hs => h _ ?_
    obtain ⟨q, es, ep, hq, h2, h3, h4, _, h5⟩ := dd'
    refine d_write I (by rw [e]; exact True.intro) hs ⟨q, hq⟩ ⟨hl, hd, _, (rel.put k eb rv).keeps fun c ys ec => ?_, q, es, ep, hq, h2, h3, h4, h5⟩
    rw [upd_ne (ne_of ec e (fun z => nomatch z))]
    exact ec
end
section
variable {X : Cx} {pins : List (Addr × Obj)} {σ : St} {H : Hp} {s : Shared} {a : Addr} {kvs : List (Key × V)} {k : Key} {u : Value} {A : Around} {E : Value → Shared → Prop}
theorem d_len {Q : Value → Shared → Prop} (I : Inv X pins σ H s) (e : Rd H a (.dK kvs)) (h : ∀ t s', Inv X pins σ H s' → Q (.int kvs.length t) s') : wpAny (model X.prog X.w) A (call (.builtin "len") [.ref a]) Q E s := by
  obtain ⟨z, hd, vs, rel, dd⟩ := dk_rd I.hok e
  refine call_len_dict hd dd (by rw [← rel.length]; rw [sizeLine_eq] at z; omega) ?_
  rw [← rel.length]
  exact h _ _ (I.tok _)
end
def tDIn (ty td : TE) : TE := fun σ H Q => ty σ H fun y H1 => td σ H1 fun x H2 => ∃ a o, x = .ref a ∧ DGet H2 a y o ∧ Q (.bl o.isSome) H2
def sDPut (td ty tv : TE) : TS := fun D σ H => tv σ H fun v H1 => td σ H1 fun x H2 => ty σ H2 fun y H3 => ∃ a H4, x = .ref a ∧ DPut H3 a y v H4 ∧ D.nx σ H4
section
variable {X : Cx} {o i e value : Expr} {pos pos' tpos : Pos} {td ty tv : TE}
theorem pc_din (hu : X.A.units + 1 < cLine) (hi : PE X i ty) (ho : PE X o td) : PC X .In i o (tDIn ty td) := by
  intro pins s σ H Q I h
  refine thn (hi pins s σ H _ I h) fun iv s1 ⟨y, H1, I1, ry, q1⟩ => thn (ho pins s1 σ H1 _ I1 q1) fun u s2 ⟨x, H2, I2, rx, a, ov, ex, g, q2⟩ => ?_
  subst ex
  obtain rfl : u = Value.ref a := rx
  exact d_in hu I2 g ry fun s3 I3 => ⟨.bl ov.isSome, H2, I3, rfl, q2⟩
theorem ps_dput (hu : X.A.units + 1 < cLine) (ho : PE X o td) (hi : PE X i ty) (hv : PE X value tv) (hs : swapsWith value (some (.Subscript o i pos')) pos.line X.env = pure false) :
    PS X (.Assign [.Subscript o i pos'] value pos) (sDPut td ty tv) := by
  intro pins s σ H D I h
  refine wpAny_Assign_Subscript (thn (hv pins s σ H _ I h) fun r s1 ⟨v, H1, I1, rv, q1⟩ => thn (ho pins s1 σ H1 _ I1 q1) fun u s2 ⟨x, H2, I2, rx, q2⟩ => thn (hi pins s2 σ H2 _ I2 q2) fun iv s3 ⟨y, H3, I3, ry, a, H4, ex, g, q3⟩ => ?_) hs
  subst ex
  obtain rfl : u = Value.ref a := rx
  exact d_setItem hu I3 g ry rv fun s4 I4 => ⟨σ, H4, I4, q3⟩
end
theorem dk_empty {P : Program} {w : World} {H : Hp} (h : Heap) (hb : sysModules < h.objs.size) : ObjOk P w H (h.push { cls := .type "dict", data := .dict #[] }) h.objs.size (.dK []) :=
  ⟨Nat.zero_le _, beq_eq_false_iff_ne.mpr (Ne.symm (Nat.ne_of_lt hb)), [], .nil, Heap.DictOf.new h⟩
def tDNewK : TE := fun _ H Q => ∀ p, H p = none → Q (.ref p) (upd H p (.dK []))
section
variable {X : Cx} {pos : Pos}
theorem pe_dnewK : PE X (.Dict [] [] pos) tDNewK := fun pins s σ H Q I h =>
  wpAny_Dict_empty ⟨.ref s.heap.objs.size, _, I.laid (a := s.heap.objs.size) (o := .dK []) (t' := s.toks) (fun _ _ q => Heap.get?_push_of_some _ q) (Nat.le_refl _) (dk_empty s.heap I.big), rfl, h _ (I.hok.fresh (Nat.le_refl _))⟩
end
def tPairs : List (TE × TE) → St → Hp → (List (V × V) → Hp → Prop) → Prop
  | [], _, H, Q => Q [] H
  | (tk, tv) :: r, σ, H, Q => tk σ H fun x H1 => tv σ H1 fun y H2 => tPairs r σ H2 fun ps H3 => Q ((x, y) :: ps) H3
abbrev VV : List (V × V) → List (Value × Value) → Prop := Paired fun p q => RelV p.1 q.1 ∧ RelV p.2 q.2
def PPs (X : Cx) (pos : Pos) (keys : List (Option Expr)) (values : List Expr) (trs : List (TE × TE)) : Prop :=
  ∀ (pins : List (Addr × Obj)) (s : Shared) (σ : St) (H : Hp) (Q : List (V × V) → Hp → Prop), Inv X pins σ H s → tPairs trs σ H Q →
    wpAny (model X.prog X.w) X.A (evalPairs (pairTrees keys values X.env pos)) (fun vs s' => ∃ ps H', Inv X pins σ H' s' ∧ VV ps vs ∧ Q ps H') X.xe s
theorem pps_nil {X : Cx} {pos : Pos} : PPs X pos [] [] [] := fun pins s σ H Q I h => pairTrees_nil_walk ⟨[], H, I, .nil, h⟩
theorem pps_cons {X : Cx} {pos : Pos} {k v : Expr} {ks : List (Option Expr)} {vs : List Expr} {tk tv : TE} {trs : List (TE × TE)} (hk : PE X k tk) (hv : PE X v tv) (hr : PPs X pos ks vs trs) :
    PPs X pos (some k :: ks) (v :: vs) ((tk, tv) :: trs) := fun pins s σ H Q I h =>
  pairTrees_cons_walk (thn (hk pins s σ H _ I h) fun u s1 ⟨x, H1, I1, rx, q1⟩ => thn (hv pins s1 σ H1 _ I1 q1) fun w2 s2 ⟨y, H2, I2, ry, q2⟩ =>
    thn (hr pins s2 σ H2 _ I2 q2) fun ws s3 ⟨ps, H3, I3, rel, q3⟩ => ⟨(x, y) :: ps, H3, I3, .cons ⟨rx, ry⟩ rel, q3⟩)
def mergeK (kvs more : List (Key × V)) : List (Key × V) := more.foldl (fun acc kv => putK acc kv.1 kv.2) kvs
theorem KV.merge : ∀ {more : List (Key × V)} {rs : List (Key × Value)} {kvs : List (Key × V)} {vs : List (Key × Value)}, KV more rs → KV kvs vs → KV (mergeK kvs more) (merged vs rs) := by
  intro more rs kvs vs r
  unfold KV at r
  induction r generalizing kvs vs with
  | nil => intro q; exact q
  | @cons p q ps qs h t ih =>
    intro r0
    have e : KV (putK kvs p.1 p.2) (stored vs q.1 q.2) := by
      have := r0.put p.1 h.2
      rw [← h.1]; exact this
    exact ih e
theorem length_mergeK : ∀ (more kvs : List (Key × V)), (mergeK kvs more).length ≤ kvs.length + more.length
  | [], kvs => by show kvs.length ≤ kvs.length + 0; omega
  | p :: r, kvs => by
    have h1 := length_mergeK r (putK kvs p.1 p.2)
    have h2 := length_putK kvs p.1 p.2
    show (mergeK (putK kvs p.1 p.2) r).length ≤ _
    rw [List.length_cons]; omega
theorem carries_of {P : Program} {w : World} : ∀ {kvs : List (Key × V)} {ws : List (Value × Value)}, VV (kvs.map fun kv => (kV kv.1, kv.2)) ws → ∃ rs, Carries (mixKind P w) ws rs ∧ KV kvs rs
  | [], _, r => by rw [List.map_nil] at r; cases r; exact ⟨[], True.intro, .nil⟩
  | p :: kvs, _, r => by
    rw [List.map_cons] at r
    cases r with
    | @cons a b as bs h t =>
      obtain ⟨rs, c, q⟩ := carries_of (P := P) (w := w) t
      obtain ⟨b1, b2⟩ := b
      exact ⟨(p.1, b2) :: rs, ⟨kV_is h.1, rfl, c⟩, .cons ⟨rfl, h.2⟩ q⟩
def tDisp (trs : List (TE × TE)) : TE := fun σ H Q => ∀ p, H p = none → tPairs trs σ (upd H p (.dK [])) fun ps H2 => H2 p = some (.dK []) ∧ ∃ kvs : List (Key × V), ps = kvs.map (fun kv => (kV kv.1, kv.2)) ∧ kvs.length ≤ 15 ∧ Q (.ref p) (upd H2 p (.dK (mergeK [] kvs)))
theorem pe_disp {X : Cx} {pos : Pos} {keys : List (Option Expr)} {values : List Expr} {trs : List (TE × TE)} (h : PPs X pos keys values trs) (hall : keys.all (·.isSome) = true) (hl : keys.length = values.length) (h0 : keys ≠ [])
    (h15 : keys.length ≤ 15) : PE X (.Dict keys values pos) (tDisp trs) := by
  intro pins s σ H Q I q
  have hn := I.hok.fresh (Nat.le_refl s.heap.objs.size)
  have I1 := I.laid (a := s.heap.objs.size) (o := .dK []) (h' := s.heap.push { cls := .type "dict", data := .dict #[] }) (t' := s.toks) (fun _ _ q => Heap.get?_push_of_some _ q) (Nat.le_refl _) (dk_empty s.heap I.big)
  refine wpAny_Dict_walk (knd := mixKind X.prog X.w) hall hl h0 h15 (thn (h pins _ σ _ _ I1 (q _ hn)) fun ws s2 ⟨ps, H2, I2, rel, e, kvs, ep, lk, q2⟩ => ?_)
  subst ep
  obtain ⟨rs, c, rk⟩ := carries_of (P := X.prog) (w := X.w) rel
  obtain ⟨z, hd, vs0, r0, dd⟩ := dk_of I2.hok e
  cases r0
  refine ⟨rs, c, dd, fun h' dd' hs => ⟨.ref s.heap.objs.size, _, ?_, rfl, q2⟩⟩
  have hz : (mergeK [] kvs).length ≤ sizeLine := by
    have h1 := length_mergeK kvs []
    rw [List.length_nil] at h1
    rw [sizeLine_eq]; omega
  have he : ∃ q, h'.get? s.heap.objs.size = some q := let ⟨q, _, _, hq, _⟩ := dd'; ⟨q, hq⟩
  exact d_write I2 (by rw [e]; exact True.intro) hs he (dk_new hz hd (rk.merge .nil) dd')
structure M1 (X : Cx) (o : Expr) (m : Str) (apos : Pos) (e : Expr) (cpos : Pos) : Prop where
  base : attributeBase o m X.env (eval o X.env) = eval o X.env
  few : ((backTo cpos (starEach [e] X.env)).all (fun x => !x.1) && (backToKw cpos (keywordEach [] X.env)).all (fun x => x.1.isSome)
    && decide (([e] : List Expr).length + ([] : List Keyword).length + (if ([] : List Keyword).isEmpty then 0 else 1) < 30)) = true
  line : (apos.endLine == cpos.line) = true
  trees : backTo cpos (starEach [e] X.env) = [(false, eval e X.env)]
structure M2 (X : Cx) (o : Expr) (m : Str) (apos : Pos) (e f : Expr) (cpos : Pos) : Prop where
  base : attributeBase o m X.env (eval o X.env) = eval o X.env
  few : ((backTo cpos (starEach [e, f] X.env)).all (fun x => !x.1) && (backToKw cpos (keywordEach [] X.env)).all (fun x => x.1.isSome)
    && decide (([e, f] : List Expr).length + ([] : List Keyword).length + (if ([] : List Keyword).isEmpty then 0 else 1) < 30)) = true
  line : (apos.endLine == cpos.line) = true
  trees : backTo cpos (starEach [e, f] X.env) = [(false, eval e X.env), (false, eval f X.env)]
def IsD (H : Hp) (a : Addr) : Prop := (∃ kvs, Rd H a (.dK kvs)) ∨ ∃ kvs, Rd H a (.dT kvs)
theorem isD_at {X : Cx} {pins : List (Addr × Obj)} {σ : St} {H : Hp} {s : Shared} {a : Addr} (I : Inv X pins σ H s) (d : IsD H a) :
    s.TypeIs (.ref a) "dict" ∧ (∀ b, Value.ref a = .ref b → ∃ ob, s.heap.get? b = some ob ∧ ob.dict = none) ∧ (a == sysModules) = false := by
  rcases d with ⟨kvs, e⟩ | ⟨kvs, e⟩
  · obtain ⟨_, hd, vs, _, dd⟩ := dk_rd I.hok e
    refine ⟨dd.typeIs, fun b q => ?_, hd⟩
    cases q
    obtain ⟨ob, _, _, h1, h2, _⟩ := dd
    exact ⟨ob, h1, h2.2.1⟩
  · obtain ⟨_, hd, xs, _, dd⟩ := dt_rd I.hok e
    refine ⟨dd.typeIs, fun b q => ?_, hd⟩
    cases q
    obtain ⟨ob, _, _, h1, h2, _⟩ := dd
    exact ⟨ob, h1, h2.2.1⟩
section
variable {X : Cx} {pins : List (Addr × Obj)} {σ : St} {H : Hp} {s : Shared} {a : Addr} {y d : V} {u r : Value} {o : Option V} {A : Around} {E : Value → Shared → Prop}
theorem d_get2 {Q : Value → Shared → Prop} (hu : A.units + 1 < cLine) (I : Inv X pins σ H s) (g : DGet H a y o) (ry : RelV y u) (rd : RelV d r) (h : ∀ w' s', Inv X pins σ H s' → RelV (o.getD d) w' → Q w' s') :
    wpAny (model X.prog X.w) A (call (.builtin "dict.get") [.ref a, u, r]) Q E s := by
  rcases g with ⟨kvs, k, e, ey, l⟩ | ⟨kvs, k, b, e, ey, eb, l⟩
  · subst ey
    obtain ⟨z, hd, vs, rel, dd⟩ := dk_rd I.hok e
    refine call_meetsIn PySem.F.slot_dict_get dd.typeIs PySem.F.entry_dict_get (PySem.F.args_dict_get_3 _ _ _) (meets_dict_get_default (mixKind X.prog X.w) a (kV_is ry) hd r) ⟨_, dd.mapOf, h _ _ (I.tok _) ?_⟩
    rw [l]
    exact (rel.val k).getD rd
  · subst ey
    cases (show u = Value.ref b from ry)
    obtain ⟨z, hd, xs, rel, dd⟩ := dt_rd I.hok e
    refine call_meetsIn PySem.F.slot_dict_get dd.typeIs PySem.F.entry_dict_get (PySem.F.args_dict_get_3 _ _ _) (meetsH_dict_get_default (tupleKind (mixKind X.prog X.w)) a b hd r) ⟨tupleKind_room_in1 hu, k, xs, key_of I.hok eb, dd, h _ _ (I.tok _) ?_⟩
    rw [l]
    exact (rel.val k).getD rd
end
def tDGet2 (td ty tx : TE) : TE := fun σ H Q => td σ H fun x H1 => ∃ a, x = .ref a ∧ IsD H1 a ∧ ty σ H1 fun y H2 => tx σ H2 fun z H3 => ∃ o, DGet H3 a y o ∧ Q (o.getD z) H3
section
variable {X : Cx} {o e f : Expr} {apos cpos : Pos} {td ty tx : TE}
theorem pe_dget2 (hu : X.A.units + 1 < cLine) (ho : PE X o td) (he : PE X e ty) (hf : PE X f tx) (m : M2 X o "get" apos e f cpos) : PE X (.Call (.Attribute o "get" apos) [e, f] [] cpos) (tDGet2 td ty tx) := by
  intro pins s σ H Q I h
  refine wpAny_Call_method m.base m.few m.line PySem.F.plainAttrs_dict PySem.F.slot_dict_get PySem.F.type_dict_get (thn (ho pins s σ H _ I h) fun u s1 ⟨x, H1, I1, rx, a, ex, d, q1⟩ => ?_)
  subst ex
  obtain rfl : u = Value.ref a := rx
  obtain ⟨t1, t2, _⟩ := isD_at I1 d
  refine ⟨t1, t2, ?_⟩
  rw [m.trees]
  refine Calls.callWith_builtin rfl (Calls.evalArgs_plain (Calls.spliced_cons (thn (he pins s1 σ H1 _ I1 q1) fun iv s2 ⟨y, H2, I2, ry, q2⟩ =>
    Calls.spliced_cons (thn (hf pins s2 σ H2 _ I2 q2) fun fv s3 ⟨z, H3, I3, rz, ov, g, q3⟩ => Calls.spliced_nil ?_))))
  exact d_get2 hu I3 g ry rz fun w' s4 I4 rw' => ⟨_, H3, I4, rw', q3⟩
end
section
variable {X : Cx} {pins : List (Addr × Obj)} {σ : St} {H : Hp} {s : Shared} {a : Addr} {kvs : List (Key × V)} {A : Around} {E : Value → Shared → Prop}
end
section
variable {X : Cx} {pins : List (Addr × Obj)} {σ : St} {H : Hp} {s : Shared} {a : Addr} {y : V} {u : Value} {A : Around} {E : Value → Shared → Prop}
end
end L2
namespace L2
open PySem PySem.Spec PyProof.Rows PySem.W
open MeetsSeq MeetsSeq2 MeetsSeq3 SeqRoads2 SeqAt
section
variable {X : Cx} {tg : Expr}
end
section
theorem small10000 {n : Nat} (h : n < 10000) : n < sizeLine := by
  rw [sizeLine_eq]; omega
end
section
variable {NL : List Str} {ix : List Nat} {g : TG} {tt : TT} {te : TE} {σ : St} {H1 : Hp} {Qs : Hp → Prop} {acc : Addr}
end
section
variable {X : Cx}
theorem call_lenD : CallR X (.builtin "len") (fun xs H Q => ∃ a kvs, xs = [V.ref a] ∧ Rd H a (.dK kvs) ∧ Q (.int kvs.length) H) := by
  intro pins s σ H xs us Q I r h
  obtain ⟨a, kvs, rfl, ha, q⟩ := h
  obtain ⟨u, rfl, ru⟩ := vals1 r
  cases ru
  exact d_len I ha fun t s' I' => ⟨.int kvs.length, H, I', ⟨t, rfl⟩, q⟩
end
end L2
namespace L2
open PySem PySem.Spec PyProof.Rows PySem.W
end L2
namespace L2
open PySem PySem.Spec PyProof.Rows PySem.W
end L2
namespace L2
open PySem PySem.Spec PyProof.Rows PySem.W
section
variable {prog : Program} {w : World} {A : Around} {E : Value → Shared → Prop}
def DPrs (h : Heap) (D : Addr) (items : Array Value) (ps : List (Key × Value)) : Prop :=
  ps.length = items.size ∧ ∀ (j : Nat) (k : Key) (v : Value), ps[j]? = some (k, v) → ∃ (a : Addr) (ku : Value), items[j]? = some (Value.ref a) ∧ a ≠ D ∧ RelV (kV k) ku ∧ IsTup h a #[ku, v]
theorem DPrs.keeps {h h' : Heap} {D I : Addr} {items : Array Value} {ps : List (Key × Value)} (p : DPrs h D items ps) (nI : ∀ a : Addr, Value.ref a ∈ items → a ≠ I) (k : ∀ b o, b ≠ I → b ≠ D → h.get? b = some o → h'.get? b = some o) : DPrs h' D items ps := by
  refine ⟨p.1, fun j kk v e => ?_⟩
  obtain ⟨a, ku, ha, hD, hk, o, e1, e2⟩ := p.2 j kk v e
  exact ⟨a, ku, ha, hD, hk, o, k a o (nI a (Array.mem_of_getElem? ha)) hD e1, e2⟩
end
end L2
namespace L2
open PySem PySem.Spec PyProof.Rows PySem.W
section
variable {prog : Program} {w : World} {A : Around} {E : Value → Shared → Prop} {s : Shared}
end
end L2
namespace L2
open PySem PySem.Spec PyProof.Rows PySem.W
section
variable {X : Cx}
end
end L2
namespace Tim
open PySem PyProof.Rows
abbrev setG (st : SortSt) (g : Nat) : SortSt := SortSt.mk' (kindOf st) (arrOf st) (pendingOf st) g (failedOf st)
end Tim
namespace Tim
open PySem PyProof.Rows
section
variable {prog : Program} {w : World} {A : Around} {E : Value → Shared → Prop} {s : Shared} {a₀ : Array Keyed} {κ : SortKind} {O : KeyOrd} {key : Keyed → O.α}
def mrg (key : Keyed → O.α) : List Keyed → List Keyed → List Keyed
  | [], ys => ys
  | x :: xs, [] => x :: xs
  | x :: xs, y :: ys => if O.blt (key y) (key x) = true then y :: mrg key (x :: xs) ys else x :: mrg key xs (y :: ys)
termination_by xs ys => xs.length + ys.length
abbrev Srt (key : Keyed → O.α) (l : List Keyed) : Prop := l.Pairwise fun x y => O.blt (key y) (key x) = false
end
end Tim
namespace Tim
open PySem PyProof.Rows
section
variable {prog : Program} {w : World} {A : Around} {E : Value → Shared → Prop} {s : Shared} {a₀ : Array Keyed} {κ : SortKind} {O : KeyOrd} {key : Keyed → O.α}
structure Two (key : Keyed → O.α) (a₀ a b : Array Keyed) : Prop where
  ma : ∀ x ∈ a, x ∈ a₀
  mb : ∀ x ∈ b, x ∈ a₀
  na : 1 ≤ a.size
  nb : 1 ≤ b.size
  sa : Srt key a.toList
  sb : Srt key b.toList
  fst : ∀ x ∈ a, ∀ y, b[0]? = some y → O.blt (key y) (key x) = true
  lst : ∀ y ∈ b, ∀ x, a[a.size - 1]? = some x → O.blt (key y) (key x) = true
def LoI (key : Keyed → O.α) (a b o : Array Keyed) (p q : Nat) : Prop := o.toList ++ mrg key (a.toList.drop p) (b.toList.drop q) = mrg key a.toList b.toList
section
variable {a b o : Array Keyed} {p q k : Nat} {x y : Keyed}
end
abbrev LSt := Option (Array Keyed) × Array Keyed × Nat × Nat × Nat × Nat × Nat
structure GoesOn (key : Keyed → O.α) (a b : Array Keyed) (st : SortSt) (m : Nat) (R : ForInStep LSt → SortSt → Prop) : Prop where
  fin : ∀ (out : Array Keyed) c g, out.toList = mrg key a.toList b.toList → R (.done (some out, c)) (setG st g)
  brk : ∀ o p q g c d g', LoI key a b o p q → p + 1 < a.size → q < b.size → m ≤ p + q → R (.done (none, o, p, q, g, c, d)) (setG st g')
  yld : ∀ o p q g c d g', LoI key a b o p q → p + 1 < a.size → q < b.size → m ≤ p + q → R (.yield (none, o, p, q, g, c, d)) (setG st g')
section
variable {a b o : Array Keyed} {p q k g c d m g' : Nat} {x y : Keyed} {st : SortSt} {R : ForInStep LSt → SortSt → Prop}
end
end
end Tim
namespace Tim
open PySem PyProof.Rows
section
variable {prog : Program} {w : World} {A : Around} {E : Value → Shared → Prop} {s : Shared} {a₀ : Array Keyed} {κ : SortKind} {O : KeyOrd} {key : Keyed → O.α}
def HiI (key : Keyed → O.α) (a b o : Array Keyed) (p q : Nat) : Prop := mrg key (a.toList.take p) (b.toList.take q) ++ o.toList.reverse = mrg key a.toList b.toList
section
variable {a b o : Array Keyed} {p q f : Nat} {x y : Keyed}
end
abbrev HSt := Option (Array Keyed) × Nat × Nat × Array Keyed × Nat × Nat × Nat
structure GoesHi (key : Keyed → O.α) (a b : Array Keyed) (st : SortSt) (m : Nat) (R : ForInStep HSt → SortSt → Prop) : Prop where
  fin : ∀ (out : Array Keyed) c g, out.toList = mrg key a.toList b.toList → R (.done (some out, c)) (setG st g)
  brk : ∀ o p q g c d g', HiI key a b o p q → 0 < p → p ≤ a.size → 1 < q → q ≤ b.size → p + q ≤ m → R (.done (none, p, q, o, g, c, d)) (setG st g')
  yld : ∀ o p q g c d g', HiI key a b o p q → 0 < p → p ≤ a.size → 1 < q → q ≤ b.size → p + q ≤ m → R (.yield (none, p, q, o, g, c, d)) (setG st g')
section
variable {a b o : Array Keyed} {p q k g c d m g' : Nat} {x y : Keyed} {st : SortSt} {R : ForInStep HSt → SortSt → Prop}
end
end
end Tim
namespace Tim
open PySem PyProof.Rows
section
variable {prog : Program} {w : World} {A : Around} {E : Value → Shared → Prop} {s : Shared} {a₀ : Array Keyed} {κ : SortKind} {O : KeyOrd} {key : Keyed → O.α}
theorem three (L : List Keyed) {u v : Nat} (h : u ≤ v) : L = L.take u ++ (L.drop u).take (v - u) ++ L.drop v := by
  have e : L.drop v = (L.drop u).drop (v - u) := by rw [List.drop_drop]; congr 1; omega
  rw [e, List.append_assoc, List.take_append_drop, List.take_append_drop]
end
end Tim
namespace Tim
open PySem PyProof.Rows
section
variable {prog : Program} {w : World} {A : Around} {E : Value → Shared → Prop} {s : Shared} {a₀ : Array Keyed} {κ : SortKind} {O : KeyOrd} {key : Keyed → O.α}
def Dist (key : Keyed → O.α) (a₀ : Array Keyed) : Prop := (a₀.toList.map key).Nodup
theorem Dist.inj (D : Dist key a₀) {xs : Array Keyed} (h : xs.Perm a₀) {i j : Nat} {x y : Keyed} (ex : xs[i]? = some x) (ey : xs[j]? = some y) (h1 : O.blt (key x) (key y) = false) (h2 : O.blt (key y) (key x) = false) : i = j := by
  have nd : (xs.toList.map key).Nodup := (List.Perm.nodup_iff ((Array.perm_iff_toList_perm.mp h).map key)).mpr D
  obtain ⟨g1, rfl⟩ := Array.getElem?_eq_some_iff.mp ex
  obtain ⟨g2, rfl⟩ := Array.getElem?_eq_some_iff.mp ey
  refine (List.getElem_inj (h₀ := by simpa using g1) (h₁ := by simpa using g2) nd).mp ?_
  rw [List.getElem_map, List.getElem_map, Array.getElem_toList, Array.getElem_toList]
  exact O.total _ _ h1 h2
end
end Tim
namespace Tim
open PySem PyProof.Rows
section
variable {prog : Program} {w : World} {A : Around} {E : Value → Shared → Prop} {s : Shared} {a₀ : Array Keyed} {κ : SortKind} {O : KeyOrd} {key : Keyed → O.α}
end
end Tim
namespace L2
open PySem PySem.Spec PyProof.Rows PySem.W Tim
section
variable {prog : Program} {w : World} {A : Around} {E : Value → Shared → Prop} {s : Shared}
end
section
variable {prog : Program} {w : World} {A : Around} {E : Value → Shared → Prop} {s : Shared} {T : String} {r d : Addr} {n : Nat} {P : Nat → Value → Prop} {OK : Heap → Prop}
end
section
variable {X : Cx}
def rIndexB : V → List V → Hp → VK → Prop := fun x vs H Q => ∃ (l : Addr) (ss : List Str) (y : Str), x = .ref l ∧ vs = [.str y] ∧ H l = some (.lst (ss.map V.str)) ∧ y ∈ ss ∧ ss.length ≤ 10000 ∧ Q (.int ((ss.idxOf y : Nat) : Int)) H
theorem mt_indexB : MtM X "list.index" rIndexB := by
  intro pins s σ H x vs v us Q I rx rv h
  obtain ⟨l, ss, y, rfl, rfl, hH, hm, hl, q⟩ := h
  cases rx
  obtain ⟨u, rfl, ru⟩ := rv.one
  have ru0 := ru
  obtain ⟨ty, rfl⟩ := ru
  obtain ⟨z, its, n, r, hz, e⟩ := I.lstM hH
  have rl := r.length
  rw [List.length_map] at rl
  have jl : ss.idxOf y < ss.length := List.idxOf_lt_length_of_mem hm
  have key : ∀ (j : Nat) (hj : j < its.toArray.size), eqU (V.str y) its.toArray[j] = (ss[j]'(by rw [rl]; simpa using hj) == y) := fun j hj => by
    have hj' : j < ss.length := by rw [rl]; simpa using hj
    obtain ⟨w', e1, e2⟩ := r.get (i := j) (x := V.str (ss[j])) (by rw [List.getElem?_map, List.getElem?_eq_getElem hj']; rfl)
    obtain ⟨t', rfl⟩ := e2
    have : its.toArray[j] = Value.str ss[j] t' := by
      rw [List.getElem?_eq_getElem (by omega)] at e1
      simpa using Option.some.inj e1
    rw [this]
    rfl
  refine call_meets F.slot_list_index ⟨_, e, rfl⟩ F.entry_list_index (F.args_list_index_2 _ _) (SeqAt.list_indexAt l its.toArray n none #[] (.str y ty) (eqU (V.str y)) (ss.idxOf y) (by rw [List.size_toArray]; omega) (by omega) ?_ ?_) ⟨e, fun u hu => mem_eqAt (x := V.str y) ru0 rfl r (flat_strs ss) u (by simpa using hu), ?_⟩
  · rw [key _ (by rw [List.size_toArray]; omega), List.getElem_idxOf jl]; exact beq_self_eq_true y
  · intro m hm' hlt
    rw [key m hm']
    have := List.not_of_lt_findIdx (p := (· == y)) (xs := ss) (i := m) hlt
    simpa using this
  · exact ⟨.int _, H, I.tok _, ⟨_, rfl⟩, q⟩
theorem pe_indexB (K : PySem.W.Frag) {o e : Expr} {to te : TE} {apos cpos : Pos} (ho : PE X o to) (he : PE X e te) (hK : X.K = K := by rfl) (hbase : attributeBase o "index" X.env (eval o X.env) = eval o X.env := by rfl)
    (h1 : starEach [e] X.env = [(false, eval e X.env)] := by rfl) (hl : (apos.endLine == cpos.line) = true := by rfl) :
    PE X (.Call (.Attribute o "index" apos) [e] [] cpos) (tBM K "list" rIndexB to (tCons te tNil)) := by
  subst hK
  exact pe_bm PySem.F.plainAttrs_list PySem.F.slot_list_index PySem.F.type_list_index mt_indexB ho (pa_cons he pa_nil h1) hbase (by rw [h1]; rfl) hl h1 (by rfl)
end
end L2
namespace L2
open PySem PySem.Spec PyProof.Rows PySem.W
section
variable {X : Cx}
def rCountS : V → List V → Hp → VK → Prop := fun x vs H Q => ∃ (l : Addr) (ss : List Str) (y : Str), x = .ref l ∧ vs = [.str y] ∧ H l = some (.lst (ss.map V.str)) ∧ Q (.int ((ss.count y : Nat) : Int)) H
theorem mt_countS : MtM X "list.count" rCountS := by
  intro pins s σ H x vs v us Q I rx rv h
  obtain ⟨l, ss, y, rfl, rfl, hH, q⟩ := h
  cases rx
  obtain ⟨u, rfl, ru⟩ := rv.one
  have ru0 := ru
  obtain ⟨ty, rfl⟩ := ru
  obtain ⟨z, its, n, r, hz, e⟩ := I.lstM hH
  refine call_meets F.slot_list_count ⟨_, e, rfl⟩ F.entry_list_count (F.args_list_count_2 _ _) (SeqAt.list_countAt l its.toArray n none #[] (.str y ty) (eqU (V.str y))) ⟨e, fun u hu => mem_eqAt (x := V.str y) ru0 rfl r (flat_strs ss) u (by simpa using hu), ?_⟩
  have key : ∀ (ms : List Str) (us : List Value), Vals (ms.map V.str) us → us.countP (eqU (V.str y)) = ms.count y := by
    intro ms
    induction ms with
    | nil => intro us hv; cases hv; rfl
    | cons m ms ih =>
      intro us hv
      cases hv with
      | cons h t =>
        obtain ⟨tk, rfl⟩ := h
        rw [List.countP_cons, List.count_cons, ih _ t]
        rfl
  have ek : its.toArray.toList.countP (eqU (V.str y)) = ss.count y := by rw [List.toList_toArray]; exact key ss its r
  exact ⟨.int _, H, I.tok _, ⟨_, by rw [ek]⟩, q⟩
theorem pe_countS (K : PySem.W.Frag) {o e : Expr} {to te : TE} {apos cpos : Pos} (ho : PE X o to) (he : PE X e te) (hK : X.K = K := by rfl) (hbase : attributeBase o "count" X.env (eval o X.env) = eval o X.env := by rfl)
    (h1 : starEach [e] X.env = [(false, eval e X.env)] := by rfl) (hl : (apos.endLine == cpos.line) = true := by rfl) :
    PE X (.Call (.Attribute o "count" apos) [e] [] cpos) (tBM K "list" rCountS to (tCons te tNil)) := by
  subst hK
  exact pe_bm PySem.F.plainAttrs_list PySem.F.slot_list_count PySem.F.type_list_count mt_countS ho (pa_cons he pa_nil h1) hbase (by rw [h1]; rfl) hl h1 (by rfl)
variable {e st : Expr} {te : TE} {ts : TO} {pos p2 : Pos}
end
section
variable {X : Cx} {tg : Expr}
end
section
variable {NL : List Str} {ix : List Nat} {g : TG} {tt : TT} {te : TE} {σ : St} {H1 : Hp} {Qs : Hp → Prop} {acc : Addr}
end
section
variable {X : Cx}
theorem pe_startsK (K : PySem.W.Frag) {o e : Expr} {to te : TE} {apos cpos : Pos} (ho : PE X o to) (he : PE X e te) (hK : X.K = K := by rfl) (hbase : attributeBase o "startswith" X.env (eval o X.env) = eval o X.env := by rfl)
    (h1 : starEach [e] X.env = [(false, eval e X.env)] := by rfl) (hl : (apos.endLine == cpos.line) = true := by rfl) :
    PE X (.Call (.Attribute o "startswith" apos) [e] [] cpos) (tBM K "str" (fun x vs H Q => ∃ z p, x = .str z ∧ vs = [.str p] ∧ Q (.bl (Txt.startswith z p)) H) to (tCons te tNil)) := by
  subst hK
  exact pe_starts ho he hbase h1 hl
end
end L2
namespace L2
open PySem PySem.Spec PyProof.Rows PySem.W
def DPrsT (P : Program) (w : World) (h : Heap) (D : Addr) (items : Array Value) (ps : List (List Key × Addr × Value)) : Prop :=
  ps.length = items.size ∧ ∀ (j : Nat) (k : List Key) (b : Addr) (v : Value), ps[j]? = some (k, b, v) → ∃ a : Addr, items[j]? = some (Value.ref a) ∧ a ≠ D ∧ b ≠ D ∧ IsTup h a #[.ref b, v] ∧ (tupleKind (mixKind P w)).is h k b
theorem DPrsT.keeps {P : Program} {w : World} {h h' : Heap} {D I : Addr} {items : Array Value} {ps : List (List Key × Addr × Value)} (p : DPrsT P w h D items ps) (nI : ∀ a : Addr, Value.ref a ∈ items → a ≠ I) (nIb : ∀ (j : Nat) k b v, ps[j]? = some (k, b, v) → b ≠ I)
    (k : ∀ b o, b ≠ I → b ≠ D → h.get? b = some o → h'.get? b = some o) : DPrsT P w h' D items ps := by
  refine ⟨p.1, fun j kk b v e => ?_⟩
  obtain ⟨a, ha, hD, hbD, ⟨o, e1, e2⟩, o2, its, n, e3, r⟩ := p.2 j kk b v e
  exact ⟨a, ha, hD, hbD, ⟨o, k a o (nI a (Array.mem_of_getElem? ha)) hD e1, e2⟩, o2, its, n, k b o2 (nIb j kk b v e) hbD e3, r⟩
section
variable {prog : Program} {w : World} {A : Around} {E : Value → Shared → Prop}
end
section
variable {prog : Program} {w : World} {A : Around} {E : Value → Shared → Prop} {s : Shared}
end
section
variable {X : Cx}
end
end L2
namespace L2
open PySem PySem.Spec PyProof.Rows
theorem ObjOk.obj {P : Program} {w : World} {H : Hp} {h : Heap} {a : Addr} {o : HO} (x : ObjOk P w H h a o) : ∃ u, h.get? a = some u := by
  cases o with
  | lst xs => obtain ⟨_, _, _, _, e⟩ := x; exact ⟨_, e⟩
  | tup xs => obtain ⟨⟨_, o, e, _⟩, _⟩ := x; exact ⟨_, e⟩
  | dK kvs => obtain ⟨_, _, _, _, o, _, _, e, _⟩ := x; exact ⟨_, e⟩
  | dT kvs => obtain ⟨_, _, _, _, o, _, _, e, _⟩ := x; exact ⟨_, e⟩
  | set S n => obtain ⟨o, _, _, _, e, _⟩ := x; exact ⟨_, e⟩
  | ins C dx fs => obtain ⟨_, _, _, e, _⟩ := x; exact ⟨_, e⟩
  | own y => exact x
  | xd fs => obtain ⟨_, ⟨_, _, _, e, _⟩, _⟩ := x; exact ⟨_, e⟩
  | rng lo hi => obtain ⟨_, _, _, e⟩ := x; exact ⟨_, e⟩
  | frz ob u => exact ⟨_, x.1⟩
  | tbl ps => exact ⟨_, x⟩
  | met f y => exact ⟨_, x⟩
  | ext φ => exact x.2.1
def FlyS (l : List Env) (H₀ : Hp) (h₀ : Heap) (H' : Hp) (a C : Addr) (h : Heap) : Prop :=
  ∃ B a0, Heap.FlyingW B l a (.ref C) a0 h ∧ (∀ b o, h₀.get? b = some o → b ∉ frs l → ∃ o', B.get? b = some o' ∧ (H₀ b = none → o' = o)) ∧ ∀ b u, H' b = some u → ∃ o, B.get? b = some o
def CXE (P : Program) (w : World) : CXT := fun outer H s E e s' => ∃ a C H', e = .ref a ∧ s'.os = s.os ∧ AllBare s'.gens ∧ Un (frs outer) [] H H' s.heap s'.heap ∧ HOk P w H' s'.heap ∧ FlyS outer H s.heap H' a C s'.heap ∧ H' a = none ∧ E e (some C) H'
theorem hok_in {P : Program} {w : World} {H : Hp} {h h' B : Heap} (x : HOk P w H h) (hB : ∀ b o, B.get? b = some o → h.get? b = some o) (hB' : B.StaysIn h') (t : ∀ b u, H b = some u → ∃ o, B.get? b = some o) : HOk P w H h' := fun a o e =>
  (x a o e).stay (fun b u hb q => by
    have : ∃ o, B.get? b = some o := by
      rcases hb with rfl | hb
      · exact t _ _ e
      · exact t _ _ hb
    obtain ⟨o', e'⟩ := this
    have z := hB _ _ e'
    rw [q] at z; cases z
    exact hB' _ _ e') (fun _ q => q) fun _ _ q => q
theorem fly_out {X : Cx} {pins : List (Addr × Obj)} {σ : St} {H1 H2 : Hp} {s1 : Shared} {B h2 : Heap} (I : Inv X pins σ H1 s1) (hex : X.ex = [])
    (inB : ∀ b o, s1.heap.get? b = some o → b ∉ frs X.stack → ∃ o', B.get? b = some o' ∧ (H1 b = none → o' = o)) (st : B.StaysIn h2)
    (fr : ∀ b o, s1.heap.get? b = some o → b ∈ frs X.stack → ∃ sl, h2.get? b = some { o with slots := sl }) (free : ∀ b o, s1.heap.get? b = some o → H1 b = none → H2 b = none)
    (tups : ∀ b xs, H1 b = some (.tup xs) → H2 b = some (.tup xs)) (frzs : ∀ b o u, H1 b = some (.frz o u) → H2 b = some (.frz o u)) (tbls : ∀ b ps, H1 b = some (.tbl ps) → ∃ more, H2 b = some (.tbl (ps ++ more))) :
    Un X.fs [] X.H₀ H2 X.s₀.heap h2 ∧ ∀ b o, X.s₀.heap.get? b = some o → b ∉ X.fs → ∃ o', B.get? b = some o' ∧ (X.H₀ b = none → o' = o) := by
  have nx : ∀ b : Addr, b ∉ X.ex := fun b => by rw [hex]; simp
  have ns : ∀ b o, X.s₀.heap.get? b = some o → b ∉ X.fs → b ∉ frs X.stack := fun b o e n z => by
    rcases List.mem_cons.mp (I.stkSub b z) with q | q
    · rw [q] at e
      exact absurd (Nat.lt_of_lt_of_le (Heap.lt_size e) I.ok.above) (Nat.lt_irrefl _)
    · exact n q
  have toB : ∀ b o, X.s₀.heap.get? b = some o → b ∉ X.fs → ∃ o', B.get? b = some o' ∧ (X.H₀ b = none → o' = o) := fun b o e n => by
    obtain ⟨o1, e1⟩ := I.base.there b o e (nx b)
    obtain ⟨o2, e2, k2⟩ := inB b o1 e1 (ns b o e n)
    refine ⟨o2, e2, fun h0 => ?_⟩
    have z := I.base.keep b o e h0 n (nx b)
    rw [e1] at z; cases z
    exact k2 (I.base.free b o e h0 (nx b))
  have inSt : ∀ b ∈ X.fs, ∀ o1, s1.heap.get? b = some o1 → ∃ sl, h2.get? b = some { o1 with slots := sl } := fun b hb o1 e1 => by
    by_cases hs : b ∈ frs X.stack
    · exact fr b o1 e1 hs
    · obtain ⟨o2, e2, k2⟩ := inB b o1 e1 hs
      have h1 : H1 b = none := by
        obtain ⟨_, o, ho, _⟩ := I.ok.funs.mem hb
        exact I.base.free b o ho (I.ok.frf b hb) (nx b)
      rw [k2 h1] at e2
      exact ⟨o1.slots, st _ _ e2⟩
  refine ⟨⟨fun b o e n hb _ => ?_, fun b o e n hb _ => ?_, fun b o e n _ => ?_, fun b o e _ => ?_, fun b xs e => tups _ _ (I.base.tups _ _ e), fun b o u e => frzs _ _ _ (I.base.frzs _ _ _ e), fun b ps e => ?_⟩, toB⟩
  · obtain ⟨o', e', k⟩ := toB b o e hb
    rw [k n] at e'
    exact st _ _ e'
  · obtain ⟨sl, e1⟩ := I.base.slot b o e n hb (nx b)
    obtain ⟨sl2, e2⟩ := inSt b hb _ e1
    exact ⟨sl2, e2⟩
  · obtain ⟨o1, e1⟩ := I.base.there b o e (nx b)
    exact free b o1 e1 (I.base.free b o e n (nx b))
  · obtain ⟨o1, e1⟩ := I.base.there b o e (nx b)
    by_cases hb : b ∈ X.fs
    · obtain ⟨sl, q⟩ := inSt b hb o1 e1
      exact ⟨_, q⟩
    · obtain ⟨o', e', _⟩ := toB b o e hb
      exact ⟨o', st _ _ e'⟩
  · obtain ⟨m1, e1⟩ := I.base.tbls b ps e
    obtain ⟨m2, e2⟩ := tbls b _ e1
    exact ⟨m1 ++ m2, by rw [e2, Array.append_assoc]⟩
def Raises (X : Cx) (E : XK) : Prop := ∀ (pins : List (Addr × Obj)) (σ : St) (H1 : Hp) (s1 : Shared) (h' : Heap) (a C : Addr) (vs : List Value), Inv X pins σ H1 s1 → Heap.MadeExcOf s1.heap h' a (.ref C) vs → E (.ref a) (some C) H1 → X.xe (.ref a) { s1 with heap := h' }
section
variable {P : Program} {w : World} {K : PySem.W.Frag} {mg : Str → Option Value} {base : Heap} {N : List Str} {qual : Str} {scope : Scope} {f : Addr} {cd : Value} {A : Around} {outer : List Env} {s : Shared} {H : Hp} {E : XK}
theorem raises_cx : Raises (cxOf (CXE P w) P w K mg base N qual scope f cd A outer s H E) E := by
  intro pins σ H1 s1 h' a C vs I mk hE
  have stk := I.stack
  have nTr : ∀ b u, H1 b = some u → b ∉ frs (cxOf (CXE P w) P w K mg base N qual scope f cd A outer s H E).stack := fun b u e z => by
    rw [I.stkFree b z] at e; cases e
  have inB : ∀ b o, s1.heap.get? b = some o → b ∉ frs (cxOf (CXE P w) P w K mg base N qual scope f cd A outer s H E).stack → (PySem.W.hideAll s1.heap (frs (cxOf (CXE P w) P w K mg base N qual scope f cd A outer s H E).stack)).get? b = some o := fun b o e n => PySem.W.hideAll_get _ e n
  show wpAny _ _ (leaving _ _) _ _ _
  refine wpAny_leaves_madeW (base := PySem.W.hideAll s1.heap (frs (cxOf (CXE P w) P w K mg base N qual scope f cd A outer s H E).stack)) (h := s1.heap) I.ok.frames rfl (fun b o q => PySem.W.of_hideAll _ q)
    (PySem.W.funFrames_hide stk fun env he b hb => List.mem_filterMap.mpr ⟨env, he, hb⟩) mk fun h2 t fl _ _ sm => ?_
  generalize PySem.W.hideAll s1.heap (frs (cxOf (CXE P w) P w K mg base N qual scope f cd A outer s H E).stack) = B at inB fl
  have BS : ∀ b o, B.get? b = some o → s1.heap.get? b = some o ∨ True := fun _ _ _ => .inr trivial
  obtain ⟨u, k1⟩ := fly_out (H2 := H1) (B := B) (h2 := h2) I rfl (fun b o e n => ⟨o, inB b o e n, fun _ => rfl⟩) fl.1
    (fun b o e hb => by
      obtain ⟨_, o', e', nf⟩ := stk.mem hb
      rw [e] at e'; cases e'
      exact sm b o (mk.keeps _ _ e) nf)
    (fun _ _ _ z => z) (fun _ _ z => z) (fun _ _ _ z => z) (fun b ps z => ⟨#[], by rw [z]; simp⟩)
  have tr : ∀ b u, H1 b = some u → ∃ o, B.get? b = some o := fun b u e => by
    obtain ⟨o, eo⟩ := (I.hok b u e).obj
    exact ⟨o, inB b o eo (nTr b u e)⟩
  refine ⟨a, C, H1, rfl, I.os, I.bare, u, fun b o e => ?_, ⟨B, _, fl, k1, tr⟩, ?_, hE⟩
  · refine (I.hok b o e).stay (fun c v hc q => ?_) (fun _ q => q) fun _ _ q => q
    have nc : c ∉ frs (cxOf (CXE P w) P w K mg base N qual scope f cd A outer s H E).stack := by
      rcases hc with rfl | hc
      · exact nTr _ _ e
      · exact nTr _ _ hc
    exact fl.1 _ _ (inB c v q nc)
  · cases q : H1 a with
    | none => rfl
    | some u =>
      obtain ⟨o, eo⟩ := (I.hok a u q).obj
      rw [mk.new] at eo; cases eo
theorem passes_cx : Passes (CXE P w) (cxOf (CXE P w) P w K mg base N qual scope f cd A outer s H E) E := by
  intro pins σ H1 s1 e s2 I h
  obtain ⟨a, C, H2, rfl, os, bare, un, hok, ⟨B, a0, fl, k0, tr⟩, ha, hE⟩ := h
  show wpAny _ _ (leaving _ _) _ _ _
  refine wpAny_leaves_onW (base := B) I.ok.frames rfl fl fun h3 fl3 sm => ?_
  obtain ⟨u, k1⟩ := fly_out (H2 := H2) (B := B) (h2 := h3) I rfl k0 fl3.1
    (fun b o e hb => by
      obtain ⟨sl, e2⟩ := un.slot b o e (I.stkFree b hb) hb (by simp)
      obtain ⟨_, o', e', nf⟩ := I.stack.mem hb
      rw [e] at e'; cases e'
      obtain ⟨sl3, e3⟩ := sm b _ e2 nf
      exact ⟨sl3, e3⟩)
    (fun b o e n => un.free b o e n (by simp)) un.tups un.frzs un.tbls
  exact ⟨a, C, H2, rfl, os.trans I.os, bare, u, hok_in hok fl.1 fl3.1 tr, ⟨B, a0, fl3, k1, tr⟩, ha, hE⟩
end
end L2
namespace L2
open PySem PySem.Spec PyProof.Rows
def excO (a C : Addr) : HO := .ext fun h => ∃ o vs, h.get? a = some o ∧ o.cls = .ref C ∧ o.data = .fields vs
def Up (X : Cx) (pins : List (Addr × Obj)) (σ : St) (a C : Addr) (H2 : Hp) (s : Shared) : Prop :=
  ∃ H1 s1, Inv X pins σ H1 s1 ∧ s.os = s1.os ∧ AllBare s.gens ∧ Un (frs X.stack) [] H1 H2 s1.heap s.heap ∧ HOk X.prog X.w H2 s.heap ∧ FlyS X.stack H1 s1.heap H2 a C s.heap ∧ H2 a = none
section
variable {X : Cx} {pins : List (Addr × Obj)} {σ : St} {a C : Addr} {H1 H2 : Hp} {s s1 : Shared} {B h h' : Heap} {a0 : Value}
theorem excO_ok (H : Hp) (e : ∃ o vs, h.get? a = some o ∧ o.cls = .ref C ∧ o.data = .fields vs) : ObjOk X.prog X.w H h a (excO a C) := by
  refine ⟨e, ?_, fun h1 h2 ⟨o, vs, x1, x2, x3⟩ k => ⟨o, vs, k _ x1, x2, x3⟩⟩
  obtain ⟨o, _, e, _⟩ := e
  exact ⟨o, e⟩
theorem Up.inv (U : Up X pins σ a C H2 s) : Inv X pins σ (upd H2 a (excO a C)) s := by
  obtain ⟨H1, s1, I, os, bare, un, hok, ⟨B, a0, fl, k0, tr⟩, ha⟩ := U
  obtain ⟨oe, vs, e1, e2, e3, _⟩ := fl.first
  have na : ∀ b o, s1.heap.get? b = some o → b ≠ a := fun b o e z => by
    subst z
    by_cases hb : b ∈ frs X.stack
    · obtain ⟨_, o', e', nf⟩ := fl.2.2.1.mem hb
      rw [e1] at e'; cases e'
      exact nf vs e3
    · obtain ⟨o', e', _⟩ := k0 b o e hb
      rw [fl.2.1] at e'; cases e'
  have up : ∀ b u, H2 b = some u → upd H2 a (excO a C) b = some u := fun b u e => by rw [upd_ne (ne_of_none e ha)]; exact e
  refine I.call' (ch := []) os ⟨un.keep, un.slot, fun b o e n hx => ?_, un.there, fun b xs e => up _ _ (un.tups b xs e), fun b o u e => up _ _ (un.frzs b o u e), fun b ps e => ?_⟩ (fun b o e => ?_) bare (fun _ z => nomatch z)
  · rw [upd_ne (na b o e)]; exact un.free b o e n hx
  · obtain ⟨more, e2⟩ := un.tbls b ps e
    exact ⟨more, up _ _ e2⟩
  · by_cases hb : b = a
    · subst hb
      rw [upd_same] at e; cases e
      exact excO_ok _ ⟨oe, vs, e1, e2, e3⟩
    · rw [upd_ne hb] at e
      exact (hok b o e).stay (fun _ _ _ q => q) (fun c q => up _ _ q) fun c xs q => up _ _ q
theorem up_on (I : Inv X pins σ H1 s1) (os : s.os = s1.os) (bare : AllBare s.gens) (un : Un (frs X.stack) [] H1 H2 s1.heap s.heap) (hok : HOk X.prog X.w H2 s.heap) (hB : B.StaysIn s.heap) (ffs : s.heap.FunFrames B X.stack)
    (k0 : ∀ b o, s1.heap.get? b = some o → b ∉ frs X.stack → ∃ o', B.get? b = some o' ∧ (H1 b = none → o' = o)) (tr : ∀ b u, H2 b = some u → ∃ o, B.get? b = some o) (ha : H2 a = none)
    (fl' : Heap.FlyingW B X.stack a (.ref C) a0 h') (sm : s.heap.UpToSlots h') : Up X pins σ a C H2 { s with heap := h' } := by
  refine ⟨H1, s1, I, os, bare, ⟨fun b o e n hb _ => ?_, fun b o e n hb _ => ?_, un.free, fun b o e _ => ?_, un.tups, un.frzs, un.tbls⟩, hok_in hok hB fl'.1 tr, ⟨B, a0, fl', k0, tr⟩, ha⟩
  · obtain ⟨o', e', k⟩ := k0 b o e hb
    rw [k n] at e'
    exact fl'.1 _ _ e'
  · obtain ⟨sl, e2⟩ := un.slot b o e n hb (by simp)
    obtain ⟨_, o', e', nf⟩ := ffs.mem hb
    rw [e2] at e'; cases e'
    obtain ⟨sl3, e3⟩ := sm b _ e2 nf
    exact ⟨sl3, e3⟩
  · by_cases hb : b ∈ frs X.stack
    · obtain ⟨_, o', e', _⟩ := fl'.2.2.1.mem hb
      exact ⟨o', e'⟩
    · obtain ⟨o', e', _⟩ := k0 b o e hb
      exact ⟨o', fl'.1 _ _ e'⟩
theorem up_lands {M : Model} {A : Around} {E : Value → Shared → Prop} {Q : Unit → Shared → Prop} (U : Up X pins σ a C H2 s) (h : ∀ h', Up X pins σ a C H2 { s with heap := h' } → Q () { s with heap := h' }) :
    wpAny M A (setFlight (.ref a) none) Q E s := by
  obtain ⟨H1, s1, I, os, bare, un, hok, ⟨B, a0, fl, k0, tr⟩, ha⟩ := U
  exact lands_againW fl fun h' fl' sm => h h' (up_on I os bare un hok fl.1 fl.2.2.1 k0 tr ha fl' sm)
theorem up_looks {M : Model} {A : Around} {E : Value → Shared → Prop} {Q : Unit → Shared → Prop} (hA : A.frames = some X.stack) (hst : X.stack = X.env :: X.outer) (hf : X.env.frame = some X.env.locals) (U : Up X pins σ a C H2 s)
    (h : ∀ h', Up X pins σ a C H2 { s with heap := h' } → Q () { s with heap := h' }) :
    wpAny M A (noteFrame (.ref a) X.env) (fun _ s2 => wpAny M A (setFlight (.ref a) none) Q E s2) E s := by
  obtain ⟨H1, s1, I, os, bare, un, hok, ⟨B, a0, fl, k0, tr⟩, ha⟩ := U
  have fl0 := fl
  rw [hst] at fl0 hA
  refine wpAny_looks_onW hA hf fl0 fun h1 hh sm => ?_
  refine wpAny_landsW hh fun h2 fl2 sm2 => ?_
  rw [← hst] at fl2
  exact h h2 (up_on I os bare un hok fl.1 fl.2.2.1 k0 tr ha fl2 (sm.trans sm2))
abbrev Cx.caught (X : Cx) (a : Addr) : Cx := { X with A := X.A.mark (some (.ref a)), calm := false, xe := fun _ _ => False }
theorem Inv.caught {H : Hp} (I : Inv X pins σ H s) (a : Addr) : Inv (X.caught a) pins σ H s :=
  ⟨⟨I.ok.mod, I.ok.kind, I.ok.glob, I.ok.blt, I.ok.above, I.ok.inj, I.ok.has, I.ok.cab, (fun z => nomatch z), I.ok.frames, I.ok.stk, I.ok.exf, I.ok.bs, I.ok.bsz, I.ok.noex, I.ok.exfs, I.ok.funs, I.ok.frf⟩, I.os, I.bare, I.base, I.loc, I.cell, I.free, I.freeC, I.pin, I.hok, I.len⟩
theorem Inv.uncaught {H : Hp} (ok : X.Ok) (I : Inv (X.caught a) pins σ H s) : Inv X pins σ H s := ⟨ok, I.os, I.bare, I.base, I.loc, I.cell, I.free, I.freeC, I.pin, I.hok, I.len⟩
theorem Inv.goes {M : Model} {A : Around} {E : Value → Shared → Prop} {H : Hp} {i : Nat} {n : Str} {pos : Pos} {Q : Unit → Shared → Prop} (I : Inv X pins σ H s) (hN : X.N.Nodup) (hi : X.N[i]? = some n) (hl : X.env.kindOf n = some .local)
    (h : ∀ s', Inv X pins (σ.set i none) H s' → Q () s') : wpAny M A (do bindName X.env n .none; unbindBehindTheSuite X.env n pos) Q E s := by
  obtain ⟨m, hn, hl'⟩ := id I.loc
  have hcls : (X.env.scope.kind == .class || (X.env.scope.kind == .module && X.env.locals != X.env.globals)) = false := by rw [I.ok.kind]; rfl
  have hiσ : i < σ.length := by rw [I.len]; exact (List.getElem?_eq_some_iff.mp hi).1
  refine wpAny_nameGoes_keeps hl hn hcls fun h' v hn' hs => ?_
  obtain ⟨oL, _, _, hoL, _⟩ := id hn
  refine h _ ⟨I.ok, I.os, I.bare, ⟨fun b o e n hb hx => ?_, fun b o e n hb hx => ?_, I.base.free, fun b o e hx => ?_, I.base.tups, I.base.frzs, I.base.tbls⟩, ⟨_, hn', fun j y v' e1 e2 e3 => ?_⟩, fun y c e => ?_, I.free, I.freeC, fun p hp => ?_, fun b ob e => ?_, by simpa using I.len⟩
  · exact (hs.2 b (Nat.ne_of_lt (Nat.lt_of_lt_of_le (Heap.lt_size e) I.ok.above))).trans (I.base.keep b o e n hb hx)
  · obtain ⟨sl, e1⟩ := I.base.slot b o e n hb hx
    exact ⟨sl, (hs.2 b (Nat.ne_of_lt (Nat.lt_of_lt_of_le (Heap.lt_size e) I.ok.above))).trans e1⟩
  · obtain ⟨o', e1⟩ := I.base.there b o e hx
    exact ⟨o', (hs.2 b (Nat.ne_of_lt (Nat.lt_of_lt_of_le (Heap.lt_size e) I.ok.above))).trans e1⟩
  · by_cases hj : j = i
    · subst hj
      rw [List.getElem?_set_self hiσ] at e2
      cases e2
    · rw [List.getElem?_set_ne (Ne.symm hj)] at e2
      obtain ⟨u', r', q⟩ := hl' j y v' e1 e2 e3
      refine ⟨u', r', ?_⟩
      rcases q with ⟨k, e⟩ | ⟨k, c, e, z⟩
      · refine .inl ⟨k, ?_⟩
        have : y ≠ n := fun e => hj (nodup_ix hN e1 (e ▸ hi))
        simp [this, e]
      · exact .inr ⟨k, c, e, z.sameBut hs (I.cne y c e)⟩
  · obtain ⟨w', z⟩ := I.cell y c e
    exact ⟨w', z.sameBut hs (I.cne y c e)⟩
  · obtain ⟨e, n, ne, nf, d⟩ := I.pin p hp
    exact ⟨(hs.2 p.1 ne).trans e, n, ne, nf, d⟩
  · refine (I.hok b ob e).stay (fun c w' hc q => (hs.2 c ?_).trans q) (fun _ q => q) fun _ _ q => q
    rintro rfl
    rcases hc with rfl | hc
    · rw [I.free] at e; cases e
    · rw [I.free] at hc; cases hc
end
def PH (X : Cx) (hs : List ExceptHandler) (th : Addr → Addr → TS) : Prop :=
  ∀ (pins : List (Addr × Obj)) (s : Shared) (σ : St) (H2 : Hp) (D : Ends) (a C : Addr), Up X pins σ a C H2 s → th a C D σ (upd H2 a (excO a C)) → wpAny (model X.prog X.w) X.A (handleBy (.ref a) X.env hs) (SP X pins D) X.xe s
def Ends.goes (D : Ends) (i : Nat) : Ends := ⟨fun σ H => D.nx (σ.set i none) H, D.rt, fun σ H => D.bk (σ.set i none) H, fun σ H => D.ct (σ.set i none) H⟩
section
variable {X : Cx} {x n : Str} {i : Nat} {np pos : Pos} {b₀ : Stmt} {suite : List Stmt} {rest : List ExceptHandler} {Cl : Addr} {th : Addr → TS} {tr : Addr → Addr → TS}
theorem typ_of {M : Model} {H : Hp} {h : Heap} {a C : Addr} (e : ObjOk X.prog X.w H h a (excO a C)) : PySem.W.Looks M h (typeOf (.ref a)) (.ref C) := by
  obtain ⟨⟨o, vs, e1, e2, _⟩, _⟩ := e
  rw [← e2]
  exact (PySem.W.Looks.ld e1).andThen .now
theorem ph_as (hg : Gl X x) (hm : X.mg x = some (.ref Cl)) (hN : X.N.Nodup) (hi : X.N[i]? = some n) (hl : X.env.scope.names.lookup n = some .local) (hb : ∀ a, PSs (X.caught a) (b₀ :: suite) (th a)) (hd : (x == ("__debug__" : Str)) = false := by decide) :
    PH X (.ExceptHandler (some (.Name x np)) (some n) (b₀ :: suite) pos :: rest) (fun a C D σ H => PySem.W.exmOne X.K (.ref C) (.ref Cl) = some true ∧ th a (D.goes i) (σ.set i (some (.ref a))) H) := by
  intro pins s σ H2 D a C U h
  obtain ⟨hx, h⟩ := h
  have I := U.inv
  refine wpAny_handleBy_cons (codeAny_handlers_test (ld_glob (I.caught a) hg hm ?_ hd)) (by intro q; cases q)
  refine (PySem.W.exm_one I.kIn (typ_of (I.hok a _ upd_same)) hx).here ?_
  refine codeAny_handlers_suite_as ?_
  refine up_lands U fun h' U' => ?_
  have I' := U'.inv
  refine store_ok I' hN hi (.inl hl) (v := .ref a) rfl (fun s2 I2 => ?_) (.inr hl)
  refine wpAny_mono (hb a pins s2 _ _ (D.goes i) (I2.caught a) h) (fun f s3 q => ?_) fun _ _ z => False.elim z
  cases f with
  | next => obtain ⟨σ', H', J, q⟩ := q; exact (J.uncaught I.ok).goes hN hi hl fun s4 J4 => ⟨_, H', J4, q⟩
  | brk => obtain ⟨σ', H', J, q⟩ := q; exact (J.uncaught I.ok).goes hN hi hl fun s4 J4 => ⟨_, H', J4, q⟩
  | cont => obtain ⟨σ', H', J, q⟩ := q; exact (J.uncaught I.ok).goes hN hi hl fun s4 J4 => ⟨_, H', J4, q⟩
  | ret u => obtain ⟨v, σ', H', J, r, q⟩ := q; exact (J.uncaught I.ok).goes hN hi hl fun s4 J4 => ⟨v, _, H', J4, r, q⟩
end
def PassesAt (CX : CXT) (X : Cx) (E : XK) (σ : St) : Prop := ∀ (pins : List (Addr × Obj)) (H : Hp) (s : Shared) (e : Value) (s' : Shared), Inv X pins σ H s → CX X.stack H s E e s' → X.xe e s'
theorem Passes.at {CX : CXT} {X : Cx} {E : XK} {σ : St} (h : Passes CX X E) : PassesAt CX X E σ := fun pins H s e s' I q => h pins σ H s e s' I q
abbrev Cx.tries (X : Cx) (pn : List (Addr × Obj)) (xe : Value → Shared → Prop) : Cx := { X with pn := pn, xe := xe }
def eTry (th : Addr → Addr → TS) (D : Ends) (σ : St) : XK := fun v c H' => ∃ a C, v = .ref a ∧ c = some C ∧ th a C D σ (upd H' a (excO a C))
def tTry (tb : XK → St → TS) (th : Addr → Addr → TS) : TS := fun D σ H => tb (eTry th D σ) σ D σ H
theorem ps_try {X : Cx} {body : List Stmt} {h₀ : ExceptHandler} {hs : List ExceptHandler} {pos : Pos} {tb : XK → St → TS} {th : Addr → Addr → TS}
    (hb : ∀ pn xe E σ0, PassesAt (CXE X.prog X.w) (X.tries pn xe) E σ0 → PSs (X.tries pn xe) body (tb E σ0)) (hh : PH X (h₀ :: hs) th)
    (hst : X.stack = X.env :: X.outer := by rfl) (hf : X.env.frame = some X.env.locals := by rfl) : PS X (.Try body (h₀ :: hs) [] [] pos) (tTry tb th) := by
  intro pins s σ H D I h
  have toX : ∀ {xe : Value → Shared → Prop} {pins' : List (Addr × Obj)} {σ' : St} {H' : Hp} {s' : Shared}, Inv (X.tries (X.pn ++ pins) xe) pins' σ' H' s' → Inv X pins σ' H' s' := fun {xe pins' σ' H' s'} J =>
    ⟨I.ok, J.os, J.bare, J.base, J.loc, J.cell, J.free, J.freeC, fun p hp => J.pin p (List.mem_append_left _ hp), J.hok, J.len⟩
  refine wpAny_Try_except ?_
  have J : ∀ xe, Inv (X.tries (X.pn ++ pins) xe) [] σ H s := fun xe =>
    ⟨⟨I.ok.mod, I.ok.kind, I.ok.glob, I.ok.blt, I.ok.above, I.ok.inj, I.ok.has, I.ok.cab, I.ok.hd, I.ok.frames, I.ok.stk, I.ok.exf, I.ok.bs, I.ok.bsz, I.ok.noex, I.ok.exfs, I.ok.funs, I.ok.frf⟩, I.os, I.bare, I.base, I.loc, I.cell, I.free, I.freeC, fun p hp => by
      rw [List.append_nil] at hp
      exact I.pin p hp, I.hok, I.len⟩
  refine wpAny_mono (hb (X.pn ++ pins) (fun e s' => ∃ a C H2, e = .ref a ∧ Up X pins σ a C H2 s' ∧ th a C D σ (upd H2 a (excO a C))) (eTry th D σ) σ ?_ [] s σ H D (J _) h) (fun f s1 q => ?_) fun e s1 q => ?_
  · rintro pins' H1 s1 e s2 I1 ⟨a, C, H2, rfl, os, bare, un, hok, fly, ha, a', C', e1, e2, hE⟩
    cases e1; cases e2
    exact ⟨a, C, H2, rfl, ⟨H1, s1, toX I1, os, bare, un, hok, fly, ha⟩, hE⟩
  · cases f with
    | next => obtain ⟨σ', H', J, q⟩ := q; exact wpAny_execs_nil ⟨σ', H', toX J, q⟩
    | brk => obtain ⟨σ', H', J, q⟩ := q; exact ⟨σ', H', toX J, q⟩
    | cont => obtain ⟨σ', H', J, q⟩ := q; exact ⟨σ', H', toX J, q⟩
    | ret u => obtain ⟨v, σ', H', J, r, q⟩ := q; exact ⟨v, σ', H', toX J, r, q⟩
  · obtain ⟨a, C, H2, rfl, U, hE⟩ := q
    exact up_looks I.ok.frames hst hf U fun h' U' => hh pins _ σ H2 D a C U' hE
end L2
namespace L2
open PySem PySem.Spec PyProof.Rows PySem.W PySem.Calls PySem.Builtin PySem.Builtin.ObjectAttr PySem.Builtin.Getset_descriptor
structure ExK (K : Frag) (C : Addr) : Prop where
  ga : findIn K (.ref C) "__getattribute__" = some (some (.builtin "BaseException.__getattribute__"))
  gn : findIn K (.ref C) "__getattr__" = some none
  cl : findIn K (.ref C) "__class__" = some (some (.builtin "object.__class__"))
  gt : specialIn K (.builtin "object.__class__") "__get__" = some (some (.builtin "getset_descriptor.__get__"))
  tk : takesIn K (.builtin "object.__class__") = some true
  ob : mroIn K C (.type "object") = some true
  be : mroIn K C (.type "BaseException") = some true
  cd : (clsIn K C).isSome = true
section
variable {prog : Program} {w : World} {A : Around} {E : Value → Shared → Prop} {s : Shared} {K : Frag} {x C : Addr} {R : Result → Shared → Prop}
theorem exc_class_get {tp : Value} (X : K.In s.heap) (L0 : Looks (model prog w) s.heap (typeOf (.ref x)) (.ref C)) (L1 : Looks (model prog w) s.heap (isSubtype (.ref C) (.type "object")) true)
    (h : R (.ok (.ret (.ref C))) s) : codeAny (model prog w) A (.call (.builtin "getset_descriptor.__get__") ⟨[.builtin "object.__class__", .ref x, tp], []⟩) R s := by
  obtain ⟨hh, g, dr, t, os⟩ := s
  refine codeAny_call_builtin KF.slot_gs.plain KF.entry_gs (KF.slot_gs.check _ _ _ _ _ _ _ _ KF.type_class (KF.args_gs _ _ _) ?_)
  unfold Builtin.«getset_descriptor.__get__» descrGet
  rw [dga_obj]
  refine wpAny_bind (wpAny_pure ?_)
  unfold descrGetter descrCheckInstance descrNameAndClass isInstance
  simp only [KF.owner_class]
  repeat lk
  refine ⟨Code.quiet_builtin _ (by decide +kernel), codeAny_builtin KF.entry_class ?_⟩
  unfold Builtin.«object.__class__» shownTypeOf
  repeat lk
  exact h
theorem exc_find {M : Model} {h : Heap} (X : K.In h) (Z : ExK K C) : Looks M h (find (.ref x) (.ref C) "__class__") (.bind (.builtin "getset_descriptor.__get__") (.builtin "object.__class__")) := by
  have L1 := looks_findIn (M := M) X Z.cl
  have L2 : Looks M h (getOf (some (.builtin "object.__class__"))) (some (.builtin "getset_descriptor.__get__")) := looks_specialIn X Z.gt
  have L3 := looks_takesIn (M := M) X Z.tk
  refine L1.andThen (L2.andThen ?_)
  exact (show Looks M h (dataDescriptor? (some (.builtin "object.__class__")) (some (.builtin "getset_descriptor.__get__"))) (some (.builtin "getset_descriptor.__get__", .builtin "object.__class__")) from L3.andThen .now).andThen (Looks.tag .now)
theorem exc_entry {tk : Tok} {Q : Fin → Shared → Prop} (X : K.In s.heap) (Z : ExK K C) (L0 : Looks (model prog w) s.heap (typeOf (.ref x)) (.ref C)) (h : Q (.done (.ret (.ref C))) s) :
    wpAny (model prog w) A (Builtin.«object.__getattribute__» ⟨[.ref x, .str "__class__" tk], []⟩) Q E s := by
  have L1 := looks_mroIn (M := model prog w) X Z.ob
  have L2 := exc_find (M := model prog w) (x := x) X Z
  obtain ⟨hh, g, dr, t, os⟩ := s
  unfold Builtin.«object.__getattribute__»
  repeat (any_goals (first | assumption | (refine wpAny_bind (L0.at ?_)) | (refine wpAny_bind (L2.at ?_)) | wp_step))
  refine exc_class_get X L0 L1 ?_
  repeat (any_goals (first | assumption | wp_step))
theorem exc_kind : builtinKind "BaseException.__getattribute__" = some .slot := by decide +kernel
theorem exc_split : splitId "BaseException.__getattribute__" = some ("BaseException", "__getattribute__") := by decide +kernel
theorem exc_check {M : Model} {nameV : Value} {Q : Unit → Shared → Prop} (LI : Looks M s.heap (isInstance (.ref x) (.type "BaseException")) true) (h : Q () s) :
    wpAny M A (checkBuiltinCall "BaseException.__getattribute__" ⟨[.ref x, nameV], []⟩) Q E s :=
  check_slot (i := "BaseException.__getattribute__") (owner := "BaseException") (n := "__getattribute__") (self := .ref x) (rest := [nameV]) (kw := []) exc_kind exc_split LI (F.args_bexc_ga (.ref x) nameV) h
theorem exc_call {tk : Tok} (X : K.In s.heap) (Z : ExK K C) (L0 : Looks (model prog w) s.heap (typeOf (.ref x)) (.ref C)) (h : R (.ok (.ret (.ref C))) s) :
    codeAny (model prog w) A (.call (.builtin "BaseException.__getattribute__") ⟨[.ref x, .str "__class__" tk], []⟩) R s :=
  codeAny_call_builtin F.attrBase_ValueError.ga.plain F.entry_bexc_ga (exc_check (L0.andThen (looks_mroIn (M := model prog w) X Z.be)) (exc_entry X Z L0 h))
theorem exc_by {hh : Heap} {g : Array GenState} {dr : Drawn} {t : Nat} {os : OsState} {tk : Tok} {fill expr : Bool} {Q : Value → Shared → Prop} (X : K.In hh) (Z : ExK K C) (L0 : Looks (model prog w) hh (typeOf (.ref x)) (.ref C)) (h : Q (.ref C) ⟨hh, g, dr, t, os⟩) :
    wpAny (model prog w) A (getAttrBy (.ref x) (.str "__class__" tk) fill expr) Q E ⟨hh, g, dr, t, os⟩ := by
  have f3 := F.attrBase_ValueError.ga.bind (.ref x)
  have hx0 : (expr && onTheHeap (Value.builtin "BaseException.__getattribute__")) = false := by cases expr <;> rfl
  have hx2 : (Value.builtin "BaseException.__getattribute__" == Value.builtin "object.__getattribute__") = false := by decide +kernel
  have hx1 : (onTheHeap (Value.ref C) && Value.builtin "BaseException.__getattribute__" == Value.builtin "object.__getattribute__") = false := by rw [hx2]; rfl
  have L1 := looks_findIn (M := model prog w) X Z.ga
  have L2 := looks_findIn (M := model prog w) X Z.gn
  repeat (any_goals (first | assumption | (refine wpAny_bind (L0.at ?_)) | (refine wpAny_bind (L1.at ?_)) | (refine wpAny_bind (L2.at ?_)) | wp_step))
  refine exc_call X Z L0 ?_
  repeat (any_goals (first | assumption | wp_step))
theorem exc_class {hh : Heap} {g : Array GenState} {dr : Drawn} {t : Nat} {os : OsState} {Q : Option Value → Shared → Prop} (X : K.In hh) (Z : ExK K C) (L0 : Looks (model prog w) hh (typeOf (.ref x)) (.ref C)) (h : Q (some (.ref C)) ⟨hh, g, dr, t + 1, os⟩) :
    wpAny (model prog w) A (getAttr? (.ref x) "__class__") Q E ⟨hh, g, dr, t, os⟩ := by
  unfold getAttr? getAttrBy?
  repeat (any_goals (first | assumption | (with_reducible apply exc_by X Z L0) | wp_step))
end
end L2
namespace L2
open PySem PySem.Spec PyProof.Rows PySem.W
theorem kitx_exc {K : Frag} {a C : Addr} (Z : ExK K C) : KitX K (.ref a) (.ref C) (fun h => ∃ o vs, h.get? a = some o ∧ o.cls = .ref C ∧ o.data = .fields vs) where
  ty := fun M h _ ⟨o, vs, e1, e2, _⟩ => e2 ▸ (Looks.ld e1).andThen .now
  it := fun M h X _ => by
    obtain ⟨cd, hcD⟩ := Option.isSome_iff_exists.mp Z.cd
    unfold clsIn at hcD
    split at hcD
    · rename_i c' d' cd' sl' ho
      intro A' Q' E' s' k q
      unfold isType loadHead
      exact wpAny_bind (wpAny_loadPart (k _ _ (X _ _ ho)) (wpAny_pure q))
    · cases hcD
  ne := fun h tp dd its n sl X htp => by
    obtain ⟨cd, hcD⟩ := Option.isSome_iff_exists.mp Z.cd
    refine Bool.eq_false_iff.mpr fun q => ?_
    have e : C = tp := Value.ref.inj (beq_iff_eq.mp q)
    subst e
    unfold clsIn at hcD
    split at hcD
    · rename_i c' d' cd' sl' ho
      have z := (X _ _ ho).symm.trans htp
      cases z
    · cases hcD
  ca := fun {prog w A E Q s} X I k => by
    obtain ⟨hh, g, d, t, os⟩ := s
    obtain ⟨o, vs, e1, e2, _⟩ := I
    exact exc_class (C := C) X Z (e2 ▸ (Looks.ld e1).andThen .now) k
section
variable {X : Cx}
theorem vals_ref : ∀ {Ds : List Addr} {its : List Value}, Vals (Ds.map V.ref) its → its = Ds.map Value.ref
  | [], _, .nil => rfl
  | D :: Ds, _ :: _, .cons r h => by rw [vals_ref h]; cases (show _ = Value.ref D from r); rfl
theorem call_isinstE (K : Frag) (hK : X.K = K := by rfl) : CallR X (.builtin "isinstance") (fun vs H Q => ∃ (a C D : Addr) (b : Bool), vs = [.ref a, .ref D] ∧ H a = some (excO a C) ∧ ExK K C ∧ kitOne K (.ref C) (.ref D) = some b ∧ Q (.bl b) H) := by
  subst hK
  intro pins s σ H xs us Q I r h
  obtain ⟨a, C, D, b, rfl, ha, Z, e, q⟩ := h
  obtain ⟨u, v, rfl, ru, rv⟩ := vals2 r
  cases (show u = Value.ref a from ru)
  cases (show v = Value.ref D from rv)
  exact kia_one (kitx_exc Z) I.kIn (I.hok a _ ha).1 e (fun z => nomatch z) fun tk => ⟨.bl b, H, I.tok tk, rfl, q⟩
theorem call_isinstEB (K : Frag) (hK : X.K = K := by rfl) : CallR X (.builtin "isinstance") (fun vs H Q => ∃ (a C : Addr) (T : String) (b : Bool), vs = [.ref a, .ty T] ∧ H a = some (excO a C) ∧ ExK K C ∧ kitOne K (.ref C) (.type T) = some b ∧ Q (.bl b) H) := by
  subst hK
  intro pins s σ H xs us Q I r h
  obtain ⟨a, C, T, b, rfl, ha, Z, e, q⟩ := h
  obtain ⟨u, v, rfl, ru, rv⟩ := vals2 r
  cases (show u = Value.ref a from ru)
  cases (show v = Value.type T from rv)
  exact kia_one (kitx_exc Z) I.kIn (I.hok a _ ha).1 e (fun z => nomatch z) fun tk => ⟨.bl b, H, I.tok tk, rfl, q⟩
theorem call_isinstET (K : Frag) (hK : X.K = K := by rfl) : CallR X (.builtin "isinstance") (fun vs H Q => ∃ (a C c : Addr) (Ds : List Addr) (b : Bool), vs = [.ref a, .ref c] ∧ H a = some (excO a C) ∧ H c = some (.tup (Ds.map V.ref)) ∧ ExK K C ∧ kitAny K (.ref C) (Ds.map Value.ref) = some b ∧ Q (.bl b) H) := by
  subst hK
  intro pins s σ H xs us Q I r h
  obtain ⟨a, C, c, Ds, b, rfl, ha, hc, Z, e, q⟩ := h
  obtain ⟨u, v, rfl, ru, rv⟩ := vals2 r
  cases (show u = Value.ref a from ru)
  cases (show v = Value.ref c from rv)
  obtain ⟨_, its, rv2, ⟨o, h1, h2, n, h3⟩⟩ := (show ObjOk X.prog X.w H s.heap c (.tup (Ds.map V.ref)) from I.hok c _ hc)
  cases vals_ref rv2
  obtain ⟨cls, dd, dat, sl⟩ := o
  cases h2; cases h3
  exact kia_tup (kitx_exc Z) I.kIn (I.hok a _ ha).1 h1 e (fun z => nomatch z) fun tk => ⟨.bl b, H, I.tok tk, rfl, q⟩
end
abbrev bmV : List Value := [.type "ValueError", .type "Exception", .type "BaseException", .type "object"]
theorem exc_obj {K : Frag} {h : Heap} {C : Addr} {bmB : List Value} {newId : String} (X : K.In h) (q : excIn K C bmB newId = true) :
    ∃ bm N nm q bs hdct sn sub ab col dd k0 k1 k2 k3 k5 mN, h.get? C = some (excClassObj nm q C N bs bm hdct sn sub ab col dd k0 k1 k2 k3 k5 newId) ∧ h.Ns N mN ∧ mN "__init__" = none ∧ OwnTail h bmB bm := by
  unfold excIn at q
  split at q
  · rename_i dd cd sl ho
    split at q
    · rename_i C' bm k0 k1 k2 k3 n k5 hm hs
      simp only [Bool.and_eq_true, beq_iff_eq, Bool.not_eq_true'] at q
      obtain ⟨⟨⟨⟨⟨rfl, rfl⟩, hdel⟩, ht⟩, hok⟩, hni⟩ := q
      obtain ⟨nm, bs, mro, ns, qn, hd, sn, sub, ab, col, del⟩ := cd
      dsimp only at hm hdel hok hni
      subst hm hdel
      have hsl : sl = #[k0, k1, k2, k3, some (.builtin n), k5] := by
        obtain ⟨l⟩ := sl
        simp only at hs
        rw [hs]
      subst hsl
      exact ⟨bm, ns, nm, qn, bs, hd, sn, sub, ab, col, dd, k0, k1, k2, k3, k5, _, X _ _ ho, .of_isNs (isNs_of_in X hok), nsMap_none_of_in X hok hni, tail_of_in X ht⟩
    · cases q
  · cases q
def tRaise (E : XK) (C : Addr) (ta : TA) : TS := fun _ σ H => ta σ H fun vs H1 => vs.length ≤ sizeLine ∧ ∀ a, H1 a = none → E (.ref a) (some C) H1
theorem ps_raise {X : Cx} {E : XK} {x : Str} {C : Addr} {e₀ : Expr} {rest : List Expr} {ta : TA} {np cpos pos : Pos} (R : Raises X E) (hm : X.mg x = some (.ref C)) (hq : excIn X.K C bmV "ValueError.__new__" = true) (hg : Gl X x) (ha : PA X (e₀ :: rest) ta)
    (hc : X.calm = true := by rfl) (he : starEach (e₀ :: rest) X.env = (false, eval e₀ X.env) :: starEach rest X.env := by rfl) (hplain : (backTo cpos (starEach rest X.env)).any (·.1) = false := by rfl) (hd : (x == ("__debug__" : Str)) = false := by decide) :
    PS X (.Raise (some (.Call (.Name x np) (e₀ :: rest) [] cpos)) none pos) (tRaise E C ta) := by
  intro pins s σ H D I h
  obtain ⟨tl, N, nm, q, bs, hdct, sn, sub, ab, col, dd, k0, k1, k2, k3, k5, mN, hC, hN, hni, T⟩ := exc_obj I.ok.mod.kin hq
  refine wpAny_Raise_call_subT (C := C) (nm := nm) (q := q) (N := N) (bs := bs) (bm := tl) (hdct := hdct) (sn := sn) (sub := sub) (ab := ab) (col := col) (dd := dd) (k0 := k0) (k1 := k1) (k2 := k2) (k3 := k3) (k5 := k5)
    F.excBase_ValueError (mN := mN) (T.hasType F.excBase_ValueError.hasBase) (I.ok.hd hc) (by rw [he]; show (false || (backTo cpos (starEach rest X.env)).any (·.1)) = false; rw [hplain]; rfl) hni (ld_glob I hg hm ⟨rfl, ?_⟩ hd)
  have hh := ha cpos pins s σ H _ I h
  rw [he] at hh ⊢
  refine Calls.evalArgs_plain (wpAny_mono hh (fun vs s₂ h₂ => ?_) fun _ _ y => y)
  obtain ⟨us, H1, I1, r, hz, q⟩ := h₂
  refine ⟨rfl, by rw [← r.length]; exact hz, I1.bk _ _ hC, hN.keeps I1.bk, T.keeps I1.bk, fun h' e mk => R pins σ H1 s₂ h' e C vs I1 mk (q e ?_)⟩
  cases z : H1 e with
  | none => rfl
  | some u =>
    obtain ⟨o, eo⟩ := (I1.hok e u z).obj
    rw [mk.new] at eo; cases eo
def HasX (P : Program) (w : World) (K : Frag) (mg : Str → Option Value) (base : Heap) (x : Str) (k : Nat) (ps : List Str) (sp : Sp) : Prop :=
  ∃ f fd, FnOk P w K mg base (CXE P w) k f fd ps sp ∧ Binds K fd ps [] ∧ keepIn K (.ref f) = true ∧ mg x = some (.ref f)
section
variable {P : Program} {w : World} {K : Frag} {mg : Str → Option Value} {base : Heap}
theorem HasX.mono {x : Str} {j k : Nat} {ps : List Str} {sp : Sp} (G : HasX P w K mg base x j ps sp) (h : j ≤ k) : HasX P w K mg base x k ps sp :=
  let ⟨f, fd, F, r⟩ := G; ⟨f, fd, F.mono h, r⟩
theorem Df.hasX {x : Str} {st : Stmt} {N ps : List Str} {k : Nat} {sp : Sp} (D : Df K mg x st) (S : FnScope N ps (defScope st))
    (hb : ∀ (kV doc pm : Value) (an : Option Addr) (cdv ct : Value) (us : List Value), us.length = ps.length → bindArgs (fnOf x x (defArgs st) (defBody st) (defScope st) .none kV doc pm an cdv ct) ⟨us, []⟩ = pure (ps.zip us))
    (len : ∀ vs H Q E, sp vs H Q E → vs.length = ps.length)
    (hbody : ∀ (f : Addr) (cdv : Value) (A : Around) (outer : List Env) (s : Shared) (H : Hp) (vs : List V) (Q : VK) (E : XK), Room k (A.deeper (envOfC x (defScope st) s.heap.objs.size f cdv)) → sp vs H Q E →
      ∃ t, PSs (cxOf (CXE P w) P w K mg base N x (defScope st) f cdv A outer s H E) (defBody st) t ∧ t { nx := fun _ H' => Q .non H', rt := Q } (start N vs) H) : HasX P w K mg base x (k + 1) ps sp := by
  obtain ⟨f, fd, F, m⟩ := D
  refine ⟨f, fd, ?_, F.binds hb, F.kp, m⟩
  obtain ⟨oc, od, kV, doc, pm, an, cdv, ct, osl, rfl, lk, hcd⟩ := F.ex
  exact fn_of lk hcd S len fun A outer s H vs Q E hr hsp => hbody f cdv A outer s H vs Q E hr hsp
end
section
variable {X : Cx} {x : Str} {k : Nat} {ps : List Str} {sp : Sp} {p pos : Pos} {e : Expr} {es : List Expr} {t : TA} {E : XK} {σ0 : St}
theorem pe_callE (G : HasX X.prog X.w X.K X.mg X.base x k ps sp) (hx : Passes (CXE X.prog X.w) X E) (hr : Room k X.A) (hg : Gl X x) (ha : PA X (e :: es) t)
    (hdb : (x == ("__debug__" : Str)) = false := by decide) (he : starEach (e :: es) X.env = (false, eval e X.env) :: starEach es X.env := by rfl) (hpl : (backTo pos (starEach es X.env)).any (·.1) = false := by rfl) :
    PE X (.Call (.Name x p) (e :: es) [] pos) (tCall sp [] E t) := by
  obtain ⟨f, fd, F, b, kp, m⟩ := G
  exact pe_call F hr hg m kp b .nil hx ha hdb he hpl
theorem run_fnX {f : Addr} {fd : FuncData} {pins : List (Addr × Obj)} {H : Hp} {s : Shared} {Q : VK} {us : List Value} {vs : List V} (F : FnOk X.prog X.w X.K X.mg X.base (CXE X.prog X.w) k f fd ps sp) (hr : Room k X.A) (hb : Binds X.K fd ps []) (hx : PassesAt (CXE X.prog X.w) X E σ0)
    (I : Inv X pins σ0 H s) (r : Vals vs us) (h : sp (vs ++ []) H Q E) : wpAny (model X.prog X.w) X.A (call (.ref f) us) (EP X pins σ0 Q) X.xe s := by
  have r2 : Vals (vs ++ []) (us ++ []) := r.append .nil
  have hl : (us ++ []).length = ps.length := by rw [← r2.length]; exact F.len _ _ _ _ h
  refine wpAny_call (codeAny_mono (F.run X.A X.stack s H ⟨us, []⟩ (us ++ []) (vs ++ []) Q E hr I.env0 (hb s us I.kIn hl) r2 h) fun r s' hq => ?_)
  cases r with
  | error e => exact hx pins H s e s' I hq
  | ok fl =>
    cases fl with
    | ret u => exact I.after hq
    | next => exact False.elim hq
    | brk => exact False.elim hq
    | cont => exact False.elim hq
end
end L2
namespace L2
open PySem PySem.Spec PyProof.Rows PySem.W
@[irreducible] def bigL : Int := 2 ^ 1000
section
variable {X : Cx}
theorem op_fdivL : OpR X (binaryOp .FloorDiv) (rI (fun _ j => 0 < j ∧ j < bigL) fun i j => .int (i / j)) := opI fun i j _ _ _ _ _ hc q => by
  have h1 : (0 : Int) < j := hc.1
  have h2 : j < 2 ^ 1000 := by have := hc.2; unfold bigL at this; exact this
  refine floordiv_int (by omega) (by rw [Int.fdiv_eq_ediv_of_nonneg i (by omega)]; exact q) (.inl (PyProof.noPylong_of_log2 ?_))
  have h3 : j.natAbs < 2 ^ 1000 := by
    have : (j.natAbs : Int) < ((2 ^ 1000 : Nat) : Int) := by
      rw [Int.natAbs_of_nonneg (by omega)]
      exact_mod_cast h2
    exact_mod_cast this
  have h4 := (Nat.log2_lt (by omega)).mpr h3
  omega
theorem flat_bls (ns : List Bool) : (ns.map V.bl).all flatV = true := by
  rw [List.all_map]; exact List.all_eq_true.mpr fun _ _ => rfl
def rCountB : V → List V → Hp → VK → Prop := fun x vs H Q => ∃ (l : Addr) (ns : List Bool) (y : Bool), x = .ref l ∧ vs = [.bl y] ∧ H l = some (.lst (ns.map V.bl)) ∧ Q (.int ((ns.count y : Nat) : Int)) H
theorem mt_countB : MtM X "list.count" rCountB := by
  intro pins s σ H x vs v us Q I rx rv h
  obtain ⟨l, ns, y, rfl, rfl, hH, q⟩ := h
  cases rx
  obtain ⟨u, rfl, ru⟩ := rv.one
  have ru0 := ru
  cases (show u = Value.bool y from ru)
  obtain ⟨z, its, n, r, hz, e⟩ := I.lstM hH
  refine call_meets F.slot_list_count ⟨_, e, rfl⟩ F.entry_list_count (F.args_list_count_2 _ _) (SeqAt.list_countAt l its.toArray n none #[] (.bool y) (eqU (V.bl y))) ⟨e, fun u hu => mem_eqAt (x := V.bl y) ru0 rfl r (flat_bls ns) u (by simpa using hu), ?_⟩
  have key : ∀ (ms : List Bool) (us : List Value), Vals (ms.map V.bl) us → us.countP (eqU (V.bl y)) = ms.count y := by
    intro ms
    induction ms with
    | nil => intro us hv; cases hv; rfl
    | cons m ms ih =>
      intro us hv
      cases hv with
      | cons h t =>
        cases (show _ = Value.bool m from h)
        rw [List.countP_cons, List.count_cons, ih _ t]
        cases m <;> cases y <;> rfl
  have ek : its.toArray.toList.countP (eqU (V.bl y)) = ns.count y := by rw [List.toList_toArray]; exact key ns its r
  exact ⟨.int _, H, I.tok _, ⟨_, by rw [ek]⟩, q⟩
theorem pe_countB (K : PySem.W.Frag) {o e : Expr} {to te : TE} {apos cpos : Pos} (ho : PE X o to) (he : PE X e te) (hK : X.K = K := by rfl) (hbase : attributeBase o "count" X.env (eval o X.env) = eval o X.env := by rfl)
    (h1 : starEach [e] X.env = [(false, eval e X.env)] := by rfl) (hl : (apos.endLine == cpos.line) = true := by rfl) :
    PE X (.Call (.Attribute o "count" apos) [e] [] cpos) (tBM K "list" rCountB to (tCons te tNil)) := by
  subst hK
  exact pe_bm PySem.F.plainAttrs_list PySem.F.slot_list_count PySem.F.type_list_count mt_countB ho (pa_cons he pa_nil h1) hbase (by rw [h1]; rfl) hl h1 (by rfl)
def rIndexT : V → List V → Hp → VK → Prop := fun x vs H Q => ∃ (l : Addr) (ss : List Bool) (y : Bool), x = .ref l ∧ vs = [.bl y] ∧ H l = some (.lst (ss.map V.bl)) ∧ y ∈ ss ∧ ss.length ≤ 10000 ∧ Q (.int ((ss.idxOf y : Nat) : Int)) H
theorem mt_indexT : MtM X "list.index" rIndexT := by
  intro pins s σ H x vs v us Q I rx rv h
  obtain ⟨l, ss, y, rfl, rfl, hH, hm, hl, q⟩ := h
  cases rx
  obtain ⟨u, rfl, ru⟩ := rv.one
  have ru0 := ru
  cases (show u = Value.bool y from ru)
  obtain ⟨z, its, n, r, hz, e⟩ := I.lstM hH
  have rl := r.length
  rw [List.length_map] at rl
  have jl : ss.idxOf y < ss.length := List.idxOf_lt_length_of_mem hm
  have key : ∀ (j : Nat) (hj : j < its.toArray.size), eqU (V.bl y) its.toArray[j] = (ss[j]'(by rw [rl]; simpa using hj) == y) := fun j hj => by
    have hj' : j < ss.length := by rw [rl]; simpa using hj
    obtain ⟨w', e1, e2⟩ := r.get (i := j) (x := V.bl (ss[j])) (by rw [List.getElem?_map, List.getElem?_eq_getElem hj']; rfl)
    cases (show w' = Value.bool ss[j] from e2)
    have : its.toArray[j] = Value.bool ss[j] := by
      rw [List.getElem?_eq_getElem (by omega)] at e1
      simpa using Option.some.inj e1
    rw [this]
    generalize ss[j] = b
    cases b <;> cases y <;> rfl
  refine call_meets F.slot_list_index ⟨_, e, rfl⟩ F.entry_list_index (F.args_list_index_2 _ _) (SeqAt.list_indexAt l its.toArray n none #[] (.bool y) (eqU (V.bl y)) (ss.idxOf y) (by rw [List.size_toArray]; omega) (by omega) ?_ ?_) ⟨e, fun u hu => mem_eqAt (x := V.bl y) ru0 rfl r (flat_bls ss) u (by simpa using hu), ?_⟩
  · rw [key _ (by rw [List.size_toArray]; omega), List.getElem_idxOf jl]; exact beq_self_eq_true y
  · intro m hm' hlt
    rw [key m hm']
    have := List.not_of_lt_findIdx (p := (· == y)) (xs := ss) (i := m) hlt
    simpa using this
  · exact ⟨.int _, H, I.tok _, ⟨_, rfl⟩, q⟩
theorem pe_indexT (K : PySem.W.Frag) {o e : Expr} {to te : TE} {apos cpos : Pos} (ho : PE X o to) (he : PE X e te) (hK : X.K = K := by rfl) (hbase : attributeBase o "index" X.env (eval o X.env) = eval o X.env := by rfl)
    (h1 : starEach [e] X.env = [(false, eval e X.env)] := by rfl) (hl : (apos.endLine == cpos.line) = true := by rfl) :
    PE X (.Call (.Attribute o "index" apos) [e] [] cpos) (tBM K "list" rIndexT to (tCons te tNil)) := by
  subst hK
  exact pe_bm PySem.F.plainAttrs_list PySem.F.slot_list_index PySem.F.type_list_index mt_indexT ho (pa_cons he pa_nil h1) hbase (by rw [h1]; rfl) hl h1 (by rfl)
theorem pe_callXV (P : Program) (w : World) (K : Frag) (mg : Str → Option Value) (base : Heap) {k : Nat} {pos : Pos} {fe e : Expr} {es : List Expr} {tf : TE} {t : TA} {E : XK} {σ0 : St} (hx : PassesAt (CXE X.prog X.w) X E σ0) (hr : Room k X.A) (hf : PE X fe tf) (ha : PA X (e :: es) t) (e1 : X.prog = P := by rfl) (e2 : X.w = w := by rfl) (e3 : X.K = K := by rfl) (e4 : X.mg = mg := by rfl) (e5 : X.base = base := by rfl)
    (harm : eval (.Call fe (e :: es) [] pos) X.env = (do let f ← eval fe X.env; callWith pos f [] (backTo pos (starEach (e :: es) X.env)) (backToKw pos (keywordEach [] X.env))) := by rfl)
    (he : starEach (e :: es) X.env = (false, eval e X.env) :: starEach es X.env := by rfl) (hpl : (backTo pos (starEach es X.env)).any (·.1) = false := by rfl) :
    PE X (.Call fe (e :: es) [] pos) (fun σ H Q => σ = σ0 ∧ tf σ H fun x H1 => ∃ f fd ps sp, x = .ref f ∧ FnOk P w K mg base (CXE P w) k f fd ps sp ∧ Binds K fd ps [] ∧ keepIn K (.ref f) = true ∧ tCall sp [] E t σ H1 Q) := by
  subst e1 e2 e3 e4 e5
  rintro pins s σ H Q I ⟨rfl, h⟩
  rw [harm]
  refine wpAny_bind (thn (hf pins s σ H _ I h) fun u s1 ⟨x, H1, I1, rx, f, fd, ps, sp, ex, F, b, kp, q1⟩ => ?_)
  subst ex
  cases (show u = Value.ref f from rx)
  refine callWith_K (h₀ := X.base) I.ok.mod.kin kp (thn (ha pos pins s1 σ H1 _ I1 q1) fun us s2 ⟨vs, H2, I2, r, q⟩ => ⟨I2.kIn, ?_⟩) he hpl
  exact run_fnX F hr b hx I2 r q
end
end L2
namespace W16
open PySem
def lcp : List Nat → List Nat → Nat
  | a :: x, b :: y => if a = b then lcp x y + 1 else 0
  | _, _ => 0
theorem lcp_cons (a b : Nat) (x y : List Nat) : lcp (a :: x) (b :: y) = if a = b then lcp x y + 1 else 0 := rfl
theorem lcp_nil (x : List Nat) : lcp x [] = 0 := by cases x <;> rfl
theorem lcp_le : ∀ x y : List Nat, lcp x y ≤ x.length ∧ lcp x y ≤ y.length
  | [], y => ⟨Nat.zero_le _, Nat.zero_le _⟩
  | a :: x, [] => ⟨Nat.zero_le _, Nat.zero_le _⟩
  | a :: x, b :: y => by
    have h := lcp_le x y
    unfold lcp
    by_cases e : a = b
    · rw [if_pos e, List.length_cons, List.length_cons]; omega
    · rw [if_neg e]; exact ⟨Nat.zero_le _, Nat.zero_le _⟩
theorem take_pre : ∀ (x y : List Nat) (n : Nat), n ≤ x.length → (x.take n <+: y ↔ n ≤ lcp x y)
  | x, y, 0, _ => ⟨fun _ => Nat.zero_le _, fun _ => by rw [List.take_zero]; exact List.nil_prefix⟩
  | [], y, n + 1, h => by cases h
  | a :: x, [], n + 1, h => by
    rw [lcp_nil, List.take_succ_cons]
    exact ⟨fun p => absurd (List.prefix_nil.mp p) (List.cons_ne_nil _ _), fun p => by omega⟩
  | a :: x, b :: y, n + 1, h => by
    have ih := take_pre x y n (by rw [List.length_cons] at h; omega)
    rw [List.take_succ_cons, List.cons_prefix_cons, ih, lcp_cons]
    by_cases e : a = b
    · rw [if_pos e]; exact ⟨fun p => by omega, fun p => ⟨e, by omega⟩⟩
    · rw [if_neg e]; exact ⟨fun p => absurd p.1 e, fun p => by omega⟩
theorem lcp_stop : ∀ (x y : List Nat) (n : Nat), n ≤ x.length → n ≤ y.length → (∀ j, j < n → x[j]? = y[j]?) → (n < x.length → n < y.length → x[n]? ≠ y[n]?) → lcp x y = n
  | [], y, n, h, _, _, _ => by have : n = 0 := by simpa using h
                               subst this; rfl
  | a :: x, [], n, _, h, _, _ => by have : n = 0 := by simpa using h
                                    subst this; rfl
  | a :: x, b :: y, 0, _, _, _, s => by
    have := s (by rw [List.length_cons]; omega) (by rw [List.length_cons]; omega)
    unfold lcp
    rw [if_neg (fun e => this (by rw [e]; rfl))]
  | a :: x, b :: y, n + 1, h1, h2, h, s => by
    have e : a = b := by simpa using h 0 (by omega)
    unfold lcp
    rw [if_pos e, lcp_stop x y n (by rw [List.length_cons] at h1; omega) (by rw [List.length_cons] at h2; omega) (fun j hj => by simpa using h (j + 1) (by omega))
      (fun k1 k2 => by simpa using s (by rw [List.length_cons]; omega) (by rw [List.length_cons]; omega))]
def mx (ss : List (List Nat)) (x : List Nat) : Nat := ss.foldr (fun z m => max (lcp x z) m) 0
theorem starts_iff (z p : Str) : Txt.startswith z p = true ↔ p.cps.toList <+: z.cps.toList := by
  unfold Txt.startswith
  rw [StrLaws.subAt_eq, List.drop_zero]
  have lp : p.length = p.cps.toList.length := by first | rfl | simp [Str.length]
  have lz : z.length = z.cps.toList.length := by first | rfl | simp [Str.length]
  rw [lp, lz, Bool.and_eq_true, decide_eq_true_iff, beq_iff_eq, List.prefix_iff_eq_take]
  constructor
  · rintro ⟨_, h⟩; exact h.symm
  · intro h
    refine ⟨?_, h.symm⟩
    have := congrArg List.length h
    rw [List.length_take] at this
    omega
end W16
namespace W7
def wd (ups : List Int) (lab : List Nat) : Nat → Nat → List Nat
  | 0, _ => []
  | f + 1, k => lab.getD k 0 :: (if ups.getD k 0 < 0 then [] else wd ups lab f (ups.getD k 0).toNat)
structure TreeOk (ups : List Int) (lab : List Nat) : Prop where
  len : ups.length = lab.length
  pos : 0 < ups.length
  most : ups.length ≤ 60
  root : ups.getD 0 0 = -1
  up : ∀ k, 0 < k → k < ups.length → 0 ≤ ups.getD k 0 ∧ ups.getD k 0 < (k : Int)
theorem TreeOk.lt {ups : List Int} {lab : List Nat} (t : TreeOk ups lab) {k : Nat} (h : k < ups.length) (h0 : ¬ ups.getD k 0 < 0) : (ups.getD k 0).toNat < k := by
  rcases Nat.eq_zero_or_pos k with e | e
  · subst e; have := t.root; omega
  · have := t.up k e h; omega
theorem TreeOk.neg {ups : List Int} {lab : List Nat} (t : TreeOk ups lab) {k : Nat} (h : k < ups.length) : ups.getD k 0 < 0 ↔ ups.getD k 0 = -1 := by
  rcases Nat.eq_zero_or_pos k with e | e
  · subst e; have := t.root; omega
  · have := t.up k e h; omega
theorem wd_fuel {ups : List Int} {lab : List Nat} (t : TreeOk ups lab) : ∀ (f g k : Nat), k < ups.length → k < f → k < g → wd ups lab f k = wd ups lab g k
  | 0, _, _, _, h, _ => absurd h (Nat.not_lt_zero _)
  | _ + 1, 0, _, _, _, h => absurd h (Nat.not_lt_zero _)
  | f + 1, g + 1, k, hk, hf, hg => by
    simp only [wd]
    congr 1
    split
    · rfl
    · rename_i h0
      have := t.lt hk h0
      exact wd_fuel t f g _ (by omega) (by omega) (by omega)
def W (ups : List Int) (lab : List Nat) (k : Nat) : List Nat := wd ups lab (k + 1) k
theorem W_eq {ups : List Int} {lab : List Nat} (t : TreeOk ups lab) {k : Nat} (hk : k < ups.length) : W ups lab k = lab.getD k 0 :: (if ups.getD k 0 < 0 then [] else W ups lab (ups.getD k 0).toNat) := by
  unfold W
  rw [wd]
  congr 1
  split
  · rfl
  · rename_i h0
    have := t.lt hk h0
    exact wd_fuel t _ _ _ (by omega) (by omega) (by omega)
theorem W_len {ups : List Int} {lab : List Nat} (t : TreeOk ups lab) : ∀ (n k : Nat), k < n → k < ups.length → (W ups lab k).length ≤ k + 1
  | 0, _, h, _ => absurd h (Nat.not_lt_zero _)
  | n + 1, k, hn, hk => by
    rw [W_eq t hk]
    split
    · simp
    · rename_i h0
      have := t.lt hk h0
      have ih := W_len t n (ups.getD k 0).toNat (by omega) (by omega)
      simp only [List.length_cons]
      omega
def R (ups : List Int) (lab : List Nat) (k : Int) : List Nat := if k < 0 then [] else W ups lab k.toNat
theorem R_step {ups : List Int} {lab : List Nat} (t : TreeOk ups lab) {k : Int} (h0 : 0 ≤ k) (hk : k < (ups.length : Int)) : R ups lab k = lab.getD k.toNat 0 :: R ups lab (ups.getD k.toNat 0) := by
  unfold R
  rw [if_neg (by omega), W_eq t (by omega)]
end W7
namespace S20
open PySem L2 W7
def top (i : Nat) : Stmt := PySem.Challenge.pw_upwords_k20_no_such_word_or_number.main.body.getD i (.Pass ⟨0, 0, 0, 0⟩)
abbrev s_is_whole : Stmt := top 18
abbrev N_is_whole : List Str := ["thing"]
theorem sc_is_whole : FnScope N_is_whole ["thing"] (defScope s_is_whole) := ⟨rfl, rfl, rfl, by decide +kernel, rfl, by decide +kernel, by decide +kernel⟩
abbrev s_is_number_below : Stmt := top 19
abbrev N_is_number_below : List Str := ["thing", "behind"]
theorem sc_is_number_below : FnScope N_is_number_below ["thing", "behind"] (defScope s_is_number_below) := ⟨rfl, rfl, rfl, by decide +kernel, rfl, by decide +kernel, by decide +kernel⟩
abbrev s_words_of : Stmt := top 21
abbrev N_words_of : List Str := ["tree", "words", "letter", "up"]
theorem sc_words_of : FnScope N_words_of ["tree"] (defScope s_words_of) := ⟨rfl, rfl, rfl, by decide +kernel, rfl, by decide +kernel, by decide +kernel⟩
abbrev s_alike_of : Stmt := top 23
abbrev N_alike_of : List Str := ["tree", "words"]
theorem sc_alike_of : FnScope N_alike_of ["tree"] (defScope s_alike_of) := ⟨rfl, rfl, rfl, by decide +kernel, rfl, by decide +kernel, by decide +kernel⟩
abbrev s_many_alike : Stmt := top 24
abbrev N_many_alike : List Str := ["one", "other", "many"]
theorem sc_many_alike : FnScope N_many_alike ["one", "other"] (defScope s_many_alike) := ⟨rfl, rfl, rfl, by decide +kernel, rfl, by decide +kernel, by decide +kernel⟩
abbrev s_count_read : Stmt := top 26
abbrev N_count_read : List Str := ["words", "word"]
theorem sc_count_read : FnScope N_count_read ["words", "word"] (defScope s_count_read) := ⟨rfl, rfl, rfl, by decide +kernel, rfl, by decide +kernel, by decide +kernel⟩
abbrev s_unlike_words : Stmt := top 28
abbrev N_unlike_words : List Str := ["tree", "found", "word", "alike"]
theorem sc_unlike_words : FnScope N_unlike_words ["tree"] (defScope s_unlike_words) := ⟨rfl, rfl, rfl, by decide +kernel, rfl, by decide +kernel, by decide +kernel⟩
abbrev s_nth_word : Stmt := top 29
abbrev N_nth_word : List Str := ["tree", "k", "unlike"]
theorem sc_nth_word : FnScope N_nth_word ["tree", "k"] (defScope s_nth_word) := ⟨rfl, rfl, rfl, by decide +kernel, rfl, by decide +kernel, by decide +kernel⟩
abbrev s_number_of : Stmt := top 30
abbrev N_number_of : List Str := ["tree", "word", "unlike"]
theorem sc_number_of : FnScope N_number_of ["tree", "word"] (defScope s_number_of) := ⟨rfl, rfl, rfl, by decide +kernel, rfl, by decide +kernel, by decide +kernel⟩
abbrev s_fronts_of : Stmt := top 31
abbrev N_fronts_of : List Str := ["tree", "word", "words"]
theorem sc_fronts_of : FnScope N_fronts_of ["tree", "word"] (defScope s_fronts_of) := ⟨rfl, rfl, rfl, by decide +kernel, rfl, by decide +kernel, by decide +kernel⟩
abbrev s_behinds_of : Stmt := top 32
abbrev N_behinds_of : List Str := ["tree", "word", "words", "longer"]
theorem sc_behinds_of : FnScope N_behinds_of ["tree", "word"] (defScope s_behinds_of) := ⟨rfl, rfl, rfl, by decide +kernel, rfl, by decide +kernel, by decide +kernel⟩
abbrev s_words_if_read : Stmt := top 33
abbrev N_words_if_read : List Str := ["tree", "word", "words"]
theorem sc_words_if_read : FnScope N_words_if_read ["tree", "word"] (defScope s_words_if_read) := ⟨rfl, rfl, rfl, by decide +kernel, rfl, by decide +kernel, by decide +kernel⟩
abbrev s_tallied : Stmt := top 34
abbrev N_tallied : List Str := ["letters"]
theorem sc_tallied : FnScope N_tallied ["letters"] (defScope s_tallied) := ⟨rfl, rfl, rfl, by decide +kernel, rfl, by decide +kernel, by decide +kernel⟩
abbrev s_law_prime : Stmt := top 36
abbrev N_law_prime : List Str := ["at", "some"]
theorem sc_law_prime : FnScope N_law_prime ["at"] (defScope s_law_prime) := ⟨rfl, rfl, rfl, by decide +kernel, rfl, by decide +kernel, by decide +kernel⟩
abbrev s_law_pool : Stmt := top 37
abbrev N_law_pool : List Str := ["cell"]
theorem sc_law_pool : FnScope N_law_pool ["cell"] (defScope s_law_pool) := ⟨rfl, rfl, rfl, by decide +kernel, rfl, by decide +kernel, by decide +kernel⟩
abbrev s_law_take : Stmt := top 38
abbrev N_law_take : List Str := ["pool", "many", "found", "at", "one", "two"]
theorem sc_law_take : FnScope N_law_take ["pool", "many"] (defScope s_law_take) := ⟨rfl, rfl, rfl, by decide +kernel, rfl, by decide +kernel, by decide +kernel⟩
abbrev s_law_cells : Stmt := top 39
abbrev N_law_cells : List Str := ["script", "most", "found", "k"]
theorem sc_law_cells : FnScope N_law_cells ["script", "most"] (defScope s_law_cells) := ⟨rfl, rfl, rfl, by decide +kernel, rfl, by decide +kernel, by decide +kernel⟩
abbrev s_law_letter : Stmt := top 40
abbrev N_law_letter : List Str := ["pool", "base"]
theorem sc_law_letter : FnScope N_law_letter ["pool", "base"] (defScope s_law_letter) := ⟨rfl, rfl, rfl, by decide +kernel, rfl, by decide +kernel, by decide +kernel⟩
abbrev s_law_tree : Stmt := top 41
abbrev N_law_tree : List Str := ["pool", "most", "many", "base", "way", "turns", "climbs", "signs", "ups", "labels", "k", "some", "place", "step"]
theorem sc_law_tree : FnScope N_law_tree ["pool", "most"] (defScope s_law_tree) := ⟨rfl, rfl, rfl, by decide +kernel, rfl, by decide +kernel, by decide +kernel⟩
abbrev s_law_word : Stmt := top 42
abbrev N_law_word : List Str := ["tree", "place", "found"]
theorem sc_law_word : FnScope N_law_word ["tree", "place"] (defScope s_law_word) := ⟨rfl, rfl, rfl, by decide +kernel, rfl, by decide +kernel, by decide +kernel⟩
abbrev s_law_reads : Stmt := top 43
abbrev N_law_reads : List Str := ["tree", "found", "place", "word", "length"]
theorem sc_law_reads : FnScope N_law_reads ["tree"] (defScope s_law_reads) := ⟨rfl, rfl, rfl, by decide +kernel, rfl, by decide +kernel, by decide +kernel⟩
abbrev s_law_seek : Stmt := top 44
abbrev N_law_seek : List Str := ["pool", "tree", "way", "word", "first", "last", "letter", "some"]
theorem sc_law_seek : FnScope N_law_seek ["pool", "tree"] (defScope s_law_seek) := ⟨rfl, rfl, rfl, by decide +kernel, rfl, by decide +kernel, by decide +kernel⟩
abbrev s_law_kind : Stmt := top 45
abbrev N_law_kind : List Str := ["way", "tree", "thing", "caught", "e", "some", "others"]
theorem sc_law_kind : FnScope N_law_kind ["way", "tree", "thing"] (defScope s_law_kind) := ⟨rfl, rfl, rfl, by decide +kernel, rfl, by decide +kernel, by decide +kernel⟩
abbrev s_law_things : Stmt := top 46
abbrev N_law_things : List Str := ["pool", "many", "some"]
theorem sc_law_things : FnScope N_law_things ["pool", "many"] (defScope s_law_things) := ⟨rfl, rfl, rfl, by decide +kernel, rfl, by decide +kernel, by decide +kernel⟩
abbrev s_law : Stmt := top 47
abbrev N_law : List Str := ["script", "cell", "pool", "tree", "reads", "thing", "good", "word", "due"]
theorem sc_law : FnScope N_law ["script"] (defScope s_law) := ⟨rfl, rfl, rfl, by decide +kernel, rfl, by decide +kernel, by decide +kernel⟩
section
variable {P : Program} {w : World} {K : PySem.W.Frag} {mg : Str → Option Value} {base : Heap} {k : Nat}
def mk (l : List Nat) : Str := ⟨l.toArray⟩
theorem mk_cps (l : List Nat) : (mk l).cps.toList = l := rfl
theorem mk_len (l : List Nat) : (mk l).length = l.length := by simp [mk, Str.length]
theorem str_ext {a b : Str} (h : a.cps.toList = b.cps.toList) : a = b := by
  obtain ⟨x⟩ := a; obtain ⟨y⟩ := b
  have : x = y := Array.toList_inj.mp h
  rw [this]
theorem mk_app (c : Nat) (l : List Nat) : (⟨#[c]⟩ : Str) ++ mk l = mk (c :: l) := by
  apply str_ext
  rw [app_list]
  rfl
def TreeAt (H : Hp) (t : Addr) (ups : List Int) (lab : Str) : Prop := ∃ u, H t = some (.tup [.ref u, .str lab]) ∧ H u = some (.tup (ups.map V.int)) ∧ TreeOk ups lab.cps.toList
theorem TreeAt.same {H H' : Hp} {t : Addr} {ups : List Int} {lab : Str} (h : TreeAt H t ups lab) (s : Same H H') : TreeAt H' t ups lab := by
  obtain ⟨u, a, b, c⟩ := h
  exact ⟨u, s _ _ a, s _ _ b, c⟩
def oneV (cs : List Nat) : List V := cs.map fun c => .str ⟨#[c]⟩
theorem oneV_len (cs : List Nat) : (oneV cs).length = cs.length := List.length_map _
theorem oneV_at {cs : List Nat} {i : Int} (h0 : 0 ≤ i) (h1 : i < (cs.length : Int)) : ∃ c, atI (oneV cs) i = some (.str ⟨#[c]⟩) ∧ c ∈ cs := by
  have hk : i.toNat < cs.length := by omega
  refine ⟨cs[i.toNat], ?_, List.getElem_mem hk⟩
  have e := atI_nat (xs := oneV cs) (j := i.toNat) (v := .str ⟨#[cs[i.toNat]]⟩) (by unfold oneV; rw [List.getElem?_map, List.getElem?_eq_getElem hk]; rfl)
  rw [show ((i.toNat : Nat) : Int) = i by omega] at e
  exact e
theorem ints_at {us : List Int} {i : Int} (h0 : 0 ≤ i) (h1 : i < (us.length : Int)) : atI (us.map V.int) i = some (.int (us.getD i.toNat 0)) := by
  have hk : i.toNat < us.length := by omega
  have e := atI_nat (xs := us.map V.int) (j := i.toNat) (v := .int (us.getD i.toNat 0)) (by rw [List.getElem?_map, List.getElem?_eq_getElem hk, List.getD_eq_getElem?_getD, List.getElem?_eq_getElem hk]; rfl)
  rw [show ((i.toNat : Nat) : Int) = i by omega] at e
  exact e
abbrev Lw (c : Nat) : Prop := 97 ≤ c ∧ c < 123
theorem alph_at {i : Int} (h0 : 0 ≤ i) (h1 : i < 26) : ∃ c, atI (Str.ofString "abcdefghijklmnopqrstuvwxyz").cps.toList i = some c ∧ Lw c := by
  have hl : (Str.ofString "abcdefghijklmnopqrstuvwxyz").cps.toList.length = 26 := by decide +kernel
  have hk : i.toNat < (Str.ofString "abcdefghijklmnopqrstuvwxyz").cps.toList.length := by omega
  have e := atI_nat (xs := (Str.ofString "abcdefghijklmnopqrstuvwxyz").cps.toList) (j := i.toNat) (List.getElem?_eq_getElem hk)
  rw [show ((i.toNat : Nat) : Int) = i by omega] at e
  have all : ∀ c ∈ (Str.ofString "abcdefghijklmnopqrstuvwxyz").cps.toList, Lw c := by decide +kernel
  exact ⟨_, e, all _ (List.getElem_mem hk)⟩
theorem menu {us : List Int} {n lo hi : Int} (h0 : 0 ≤ n) (h1 : n < (us.length : Int)) (hb : ∀ v ∈ us, lo ≤ v ∧ v ≤ hi) : ∃ v : Int, atI (us.map V.int) n = some (.int v) ∧ lo ≤ v ∧ v ≤ hi := by
  refine ⟨_, ints_at h0 h1, ?_⟩
  have hk : n.toNat < us.length := by omega
  rw [List.getD_eq_getElem?_getD, List.getElem?_eq_getElem hk]
  exact hb _ (List.getElem_mem hk)
def sp_prime : Sp := fun vs H Q _ => ∃ z : Int, vs = [.int z] ∧ ∀ (n : Int) (H' : Hp), 0 < n → n < 2147483648 → Same H H' → Q (.int n) H'
theorem has_prime (D : Df K mg "_law_prime" s_law_prime) (B : Blt mg) : Has P w K mg base "_law_prime" (k + 1) ["at"] sp_prime := by
  refine D.has sc_law_prime (fun _ _ _ _ _ _ us hl => match us, hl with | [_], _ => rfl) (fun vs H Q E h => by obtain ⟨z, rfl, _⟩ := h; rfl) (fun f cdv A outer s H vs Q E hr h => ?_)
  obtain ⟨z, rfl, q⟩ := h
  refine ⟨_, (pss_cons (ps_set (i := 1) sc_law_prime.nd rfl (by first | exact Or.inl rfl | exact Or.inr rfl) (pe_lst (pa_cons pe_int (pa_cons pe_int (pa_cons pe_int (pa_cons pe_int (pa_cons pe_int (pa_cons pe_int (pa_cons pe_int pa_nil)))))))))
  (pss_one (ps_ret (pe_ix ix_list (pe_op op_cat (pv 1) (pe_lst (pa_cons pe_int (pa_cons pe_int (pa_cons pe_int (pa_cons pe_int pa_nil)))))) (pe_op op_mod (pv 0) pe_int) (fun _ _ => rfl))))), ?_⟩
  refine ⟨(by show 7 ≤ sizeLine; decide), fun r1 hr1 => ?_⟩
  refine ⟨_, rfl, (by show 4 ≤ sizeLine; decide), fun r2 hr2 => ?_⟩
  have n12 : r1 ≠ r2 := ne_of_none upd_same hr2
  refine ⟨r1, r2, _, _, rfl, rfl, by rw [upd_ne n12]; exact upd_same, upd_same, (by show 11 ≤ sizeLine; decide), fun r3 hr3 => ?_⟩
  refine ⟨_, rfl, _, _, rfl, rfl, (by decide : (0 : Int) < 11), ?_⟩
  obtain ⟨v, hv, v0, v1⟩ := menu (us := [2147483647, 2147483629, 2147483587, 2147483579, 2147483563, 2147483549, 2147483543, 2147483497, 2147483489, 2147483477, 2147483423]) (n := z % 11) (lo := 1) (hi := 2147483647) (Int.emod_nonneg _ (by decide)) (Int.emod_lt_of_pos _ (by decide)) (by decide)
  refine ⟨r3, _, _, _, rfl, rfl, SqL.of upd_same, hv, q v _ (by omega) (by omega) ?_⟩
  exact (((Same.refl H).new hr1).new hr2).new hr3
def sp_pool : Sp := fun vs H Q _ => ∃ cell : Int, vs = [.int cell] ∧ ∀ (p : Addr) (x y : Int), H p = none → Q (.ref p) (upd H p (.lst [.int x, .int y, .int 0]))
theorem has_pool (D : Df K mg "_law_pool" s_law_pool) (B : Blt mg) : Has P w K mg base "_law_pool" (k + 1) ["cell"] sp_pool := by
  refine D.has sc_law_pool (fun _ _ _ _ _ _ us hl => match us, hl with | [_], _ => rfl) (fun vs H Q E h => by obtain ⟨z, rfl, _⟩ := h; rfl) (fun f cdv A outer s H vs Q E hr h => ?_)
  obtain ⟨cell, rfl, q⟩ := h
  refine ⟨_, (pss_one (ps_ret (pe_lst (pa_cons (pe_callB (call_max2 rfl) rfl B.max bt_max (pa_cons pe_int (pa_cons (pe_op op_sub (pv 0) (pe_op op_pow pe_int pe_int)) pa_nil))) (pa_cons (pv 0) (pa_cons pe_int pa_nil)))))), ?_⟩
  refine ⟨_, rfl, _, _, rfl, rfl, ⟨by decide, by decide, by decide⟩, _, _, rfl, rfl, _, _, rfl, ?_⟩
  exact ⟨_, rfl, (by show 3 ≤ sizeLine; decide), fun p hp => q p _ _ hp⟩
theorem pow_ok (u n z y : Int) (hn : 0 < n) (hn2 : n < 2147483648) (z0 : 0 ≤ z) (z1 : z < 1000000) : (u % n * (u % n) + 69621 * z + y % 65537 + 1).natAbs < 2 ^ 64 := by
  have o1 := Int.emod_nonneg u (show n ≠ 0 by omega)
  have o2 := Int.emod_lt_of_pos u hn
  generalize u % n = one at o1 o2
  have oo : one * one ≤ 2147483648 * 2147483648 := Int.mul_le_mul (by omega) (by omega) o1 (by decide)
  have oo0 : 0 ≤ one * one := Int.mul_nonneg o1 o1
  have w1 := Int.emod_nonneg y (by decide : (65537 : Int) ≠ 0)
  have w2 := Int.emod_lt_of_pos y (by decide : (0 : Int) < 65537)
  generalize one * one = q1 at oo oo0
  omega
theorem mod_in (u n : Int) (hn : 0 < n) (hn2 : n < 2147483648) : -(2 ^ 64) < u % n ∧ u % n < 2 ^ 64 := by
  have o1 := Int.emod_nonneg u (show n ≠ 0 by omega)
  have o2 := Int.emod_lt_of_pos u hn
  omega
def sp_take : Sp := fun vs H Q _ => ∃ (p : Addr) (m c : Int), vs = [.ref p, .int m] ∧ Deck H p c ∧ c < 1000000 ∧ 0 < m ∧ m < 1073741824 ∧ ∀ (n : Int) (H' : Hp), 0 ≤ n → n < m → Kd p (c + 1) H H' → Q (.int n) H'
theorem has_take (D : Df K mg "_law_take" s_law_take) (B : Blt mg) (G_law_prime : Has P w K mg base "_law_prime" k ["at"] sp_prime) : Has P w K mg base "_law_take" (k + 1) ["pool", "many"] sp_take := by
  refine D.has sc_law_take (fun _ _ _ _ _ _ us hl => match us, hl with | [_, _], _ => rfl) (fun vs H Q E h => by obtain ⟨p, m, c, rfl, _⟩ := h; rfl) (fun f cdv A outer s H vs Q E hr h => ?_)
  obtain ⟨p, m, c, rfl, ⟨x, y, z, hp, z0, z1⟩, c6, m0, m1, q⟩ := h
  refine ⟨_, (pss_cons (ps_if (pt_cmpR op_gt (pe_ix ix_list (pv 0) pe_int (fun _ _ => rfl)) pe_int (nomark _))
  (pss_cons (ps_set (i := 2) sc_law_take.nd rfl (by first | exact Or.inl rfl | exact Or.inr rfl) (pe_op op_mod (pe_ix ix_list (pv 0) pe_int (fun _ _ => rfl)) (pv 1)))
  (pss_cons (ps_asg (pe_op op_fdiv (pe_ix ix_list (pv 0) pe_int (fun _ _ => rfl)) (pv 1)) (pg_sub (pv 0) pe_int set_list))
  (pss_one (ps_ret (pv 2)))))
  pss_nil)
  (pss_cons (ps_set (i := 3) sc_law_take.nd rfl (by first | exact Or.inl rfl | exact Or.inr rfl) (pe_ix ix_list (pv 0) pe_int (fun _ _ => rfl)))
  (pss_cons (ps_asg (pe_op op_add (pv 3) pe_int) (pg_sub (pv 0) pe_int set_list))
  (pss_cons (ps_set (i := 4) sc_law_take.nd rfl (by first | exact Or.inl rfl | exact Or.inr rfl) (pe_op op_mod (pe_op op_pow (pe_op op_add (pe_op op_add (pe_op op_mod (pe_ix ix_list (pv 0) pe_int (fun _ _ => rfl)) pe_int) (pe_op op_mul pe_int (pv 3))) pe_int) pe_int) (pe_callH G_law_prime hr rfl (pa_cons (pv 3) pa_nil))))
  (pss_cons (ps_set (i := 5) sc_law_take.nd rfl (by first | exact Or.inl rfl | exact Or.inr rfl) (pe_op op_mod (pe_op op_pow (pe_op op_add (pe_op op_add (pe_op op_add (pe_op op_mul (pv 4) (pv 4)) (pe_op op_mul pe_int (pv 3))) (pe_op op_mod (pe_ix ix_list (pv 0) pe_int (fun _ _ => rfl)) pe_int)) pe_int) pe_int) (pe_callH G_law_prime hr rfl (pa_cons (pe_op op_add (pv 3) pe_int) pa_nil))))
  (pss_one (ps_ret (pe_op op_mod (pe_op op_fdiv (pe_op op_mod (pe_op op_add (pe_op op_mul (pv 5) pe_int) (pv 4)) (pe_callH G_law_prime hr rfl (pa_cons (pe_op op_add (pv 3) pe_int) pa_nil))) pe_int) (pv 1))))))))), ?_⟩
  refine ⟨_, rfl, p, _, _, _, rfl, rfl, SqL.of hp, rfl, _, _, rfl, rfl, _, rfl, ite2 (fun cnd => ?_) (fun cnd => ?_)⟩
  · refine ⟨_, rfl, p, _, _, _, rfl, rfl, SqL.of hp, rfl, _, rfl, _, _, rfl, rfl, m0, ?_⟩
    refine ⟨_, rfl, p, _, _, _, rfl, rfl, SqL.of hp, rfl, _, rfl, _, _, rfl, rfl, ⟨m0, m1⟩, ?_⟩
    refine ⟨_, rfl, p, _, _, 0, rfl, rfl, hp, rfl, _, rfl, ?_⟩
    exact q _ _ (Int.emod_nonneg _ (by omega)) (Int.emod_lt_of_pos _ m0) ⟨⟨_, y, z, upd_same, z0, by omega⟩, fun b o hb e => by rw [upd_ne hb]; exact e⟩
  · refine ⟨_, rfl, p, _, _, _, rfl, rfl, SqL.of hp, rfl, _, rfl, _, _, rfl, rfl, ?_⟩
    refine ⟨_, rfl, p, _, _, 2, rfl, rfl, hp, rfl, ?_⟩
    have hp' : upd H p (.lst [.int x, .int y, .int (z + 1)]) p = some (.lst [.int x, .int y, .int (z + 1)]) := upd_same
    have kd : Kd p (c + 1) H (upd H p (.lst [.int x, .int y, .int (z + 1)])) := ⟨⟨x, y, z + 1, upd_same, by omega, by omega⟩, fun b o hb e => by rw [upd_ne hb]; exact e⟩
    have y1 := Int.emod_nonneg y (by decide : (2147483399 : Int) ≠ 0)
    have y2 := Int.emod_lt_of_pos y (by decide : (0 : Int) < 2147483399)
    refine ⟨_, rfl, p, _, _, _, rfl, rfl, SqL.of hp', rfl, _, _, rfl, rfl, (by decide : (0 : Int) < 2147483399), _, rfl, _, _, rfl, rfl, .inl ⟨by decide, by decide⟩, _, _, rfl, rfl, _, _, rfl, rfl, _, _, rfl, rfl, ⟨by decide, by decide, by omega⟩, ?_⟩
    refine ⟨_, rfl, z, rfl, fun n1 H1 a0 a1 s1 => ⟨_, _, rfl, rfl, a0, ?_⟩⟩
    have hp1 := s1 _ _ hp'
    refine ⟨_, rfl, _, rfl, _, _, rfl, rfl, .inl (mod_in _ _ a0 a1), _, rfl, _, _, rfl, rfl, .inl ⟨by decide, by decide⟩, _, _, rfl, rfl, _, rfl, p, _, _, _, rfl, rfl, SqL.of hp1, rfl, _, _, rfl, rfl, (by decide : (0 : Int) < 65537), _, _, rfl, rfl, _, _, rfl, rfl, _, _, rfl, rfl, ⟨by decide, by decide, pow_ok _ _ _ _ a0 a1 z0 (by omega)⟩, ?_⟩
    refine ⟨_, rfl, _, _, rfl, rfl, z + 4, rfl, fun n2 H2 b0 b1 s2 => ⟨_, _, rfl, rfl, b0, ?_⟩⟩
    refine ⟨_, rfl, _, _, rfl, rfl, .inr ⟨by decide, by decide⟩, _, rfl, _, _, rfl, rfl, _, rfl, _, _, rfl, rfl, z + 7, rfl, fun n3 H3 d0 d1 s3 => ⟨_, _, rfl, rfl, d0, ?_⟩⟩
    refine ⟨_, _, rfl, rfl, ⟨by decide, by decide⟩, _, rfl, _, _, rfl, rfl, m0, ?_⟩
    exact q _ _ (Int.emod_nonneg _ (by omega)) (Int.emod_lt_of_pos _ m0) (((kd.same s1).same s2).same s3)
def sp_letter : Sp := fun vs H Q _ => ∃ (p b : Addr) (c b0 b1 : Int), vs = [.ref p, .ref b] ∧ Deck H p c ∧ c < 1000000 ∧ H b = some (.tup [.int b0, .int b1]) ∧ 0 < b1 ∧ b1 ≤ 26 ∧ ∀ (ch : Nat) (H' : Hp), Lw ch → Kd p (c + 1) H H' → Q (.str ⟨#[ch]⟩) H'
theorem has_letter (D : Df K mg "_law_letter" s_law_letter) (B : Blt mg) (G_law_take : Has P w K mg base "_law_take" k ["pool", "many"] sp_take) : Has P w K mg base "_law_letter" (k + 1) ["pool", "base"] sp_letter := by
  refine D.has sc_law_letter (fun _ _ _ _ _ _ us hl => match us, hl with | [_, _], _ => rfl) (fun vs H Q E h => by obtain ⟨p, b, c, b0, b1, rfl, _⟩ := h; rfl) (fun f cdv A outer s H vs Q E hr h => ?_)
  obtain ⟨p, b, c, b0, b1, rfl, hd, c6, hb, p0, p1, q⟩ := h
  refine ⟨_, (pss_one (ps_ret (pe_ix ix_str pe_str (pe_op op_mod (pe_op op_add (pe_ix ix_tup (pv 1) pe_int (fun _ _ => rfl)) (pe_op op_mul pe_int (pe_callH G_law_take hr rfl (pa_cons (pv 0) (pa_cons (pe_ix ix_tup (pv 1) pe_int (fun _ _ => rfl)) pa_nil))))) pe_int) (fun _ _ => rfl)))), ?_⟩
  have hl : (Str.ofString "abcdefghijklmnopqrstuvwxyz").length = 26 := by decide +kernel
  refine ⟨_, rfl, b, _, _, _, rfl, rfl, SqT.of hb, rfl, _, rfl, _, rfl, b, _, _, _, rfl, rfl, SqT.of hb, rfl, p, b1, c, rfl, hd, c6, p0, by omega, fun n H1 n0 n1 kd => ?_⟩
  obtain ⟨ch, hch, chl⟩ := alph_at (i := (b0 + 5 * n) % 26) (Int.emod_nonneg _ (by decide)) (Int.emod_lt_of_pos _ (by decide))
  refine ⟨_, _, rfl, rfl, .inl ⟨by decide, by decide⟩, _, _, rfl, rfl, _, _, rfl, rfl, (by decide : (0 : Int) < 26), _, _, _, rfl, rfl, by rw [hl]; exact Nat.le_of_lt (small1000 (by decide)), hch, q ch H1 chl kd⟩
def wordsV (ups : List Int) (lab : Str) (n : Nat) : List V := (List.range n).map fun j => .str (mk (W ups lab.cps.toList j))
def sp_words : Sp := fun vs H Q _ => ∃ (t : Addr) (ups : List Int) (lab : Str), vs = [.ref t] ∧ TreeAt H t ups lab ∧ ∀ (q : Addr) (H' : Hp), Same H H' → H' q = some (.lst (wordsV ups lab ups.length)) → Q (.ref q) H'
theorem has_words (D : Df K mg "words_of" s_words_of) (B : Blt mg) : Has P w K mg base "words_of" (k + 1) ["tree"] sp_words := by
  refine D.has sc_words_of (fun _ _ _ _ _ _ us hl => match us, hl with | [_], _ => rfl) (fun vs H Q E h => by obtain ⟨t, ups, lab, rfl, _⟩ := h; rfl) (fun f cdv A outer s H vs Q E hr h => ?_)
  obtain ⟨t, ups, lab, rfl, ⟨u, ht, hu, ok⟩, q⟩ := h
  refine ⟨_, (pss_cons (ps_set (i := 1) sc_words_of.nd rfl (by first | exact Or.inl rfl | exact Or.inr rfl) (pe_lst pa_nil))
  (pss_cons (ps_for PassesOwn.never rfl (pi_zip rfl B.zip (pa_cons (pe_ix ix_tup (pv 0) pe_int (fun _ _ => rfl)) (pa_cons (pe_ix ix_tup (pv 0) pe_int (fun _ _ => rfl)) pa_nil))) (pg_tup rfl (pgs_cons (pg_name (i := 2) sc_words_of.nd rfl (by first | exact Or.inl rfl | exact Or.inr rfl)) (pgs_cons (pg_name (i := 3) sc_words_of.nd rfl (by first | exact Or.inl rfl | exact Or.inr rfl)) pgs_nil)))
  (pss_one (ps_expr (pe_bm PySem.F.plainAttrs_list PySem.F.slot_list_append PySem.F.type_list_append mt_append (pv 1) (pa_cons (pe_ifExp (pt_cmpR op_eq (pv 3) (pe_un un_neg pe_int) (nomark _)) (pv 2) (pe_op op_add_str (pv 2) (pe_ix ix_list (pv 1) (pv 3) (fun _ _ => rfl)))) pa_nil)))))
  (pss_one (ps_ret (pv 1))))), ?_⟩
  have hlen : (signs lab).length = (ups.map V.int).length := by rw [List.length_map, ok.len]; simp [signs]
  refine ⟨(by show 0 ≤ sizeLine; decide), fun r hr0 => ?_⟩
  have s0 : Same H (upd H r (.lst [])) := (Same.refl H).new hr0
  refine ⟨_, rfl, t, _, _, _, rfl, rfl, SqT.of (s0 _ _ ht), rfl, _, rfl, t, _, _, _, rfl, rfl, SqT.of (s0 _ _ ht), rfl, .str lab, .tup u, rfl, ⟨_, rfl⟩, ⟨_, .inl (s0 _ _ hu)⟩, ?_⟩
  refine for_zip (xs := signs lab) (ys := ups.map V.int) (fun i σ H' => ∃ o1 o2 : Option V, σ = [some (.ref t), some (.ref r), o1, o2] ∧ Same H H' ∧ H' r = some (.lst (wordsV ups lab i))) ⟨none, none, rfl, s0, upd_same⟩ hlen
    (fun i σ H' hi h => by obtain ⟨o1, o2, _, s1, _⟩ := h; exact ⟨rfl, .inl (s1 _ _ hu)⟩) ?_ ?_
  · rintro i x y σ H' p hx hy ⟨o1, o2, rfl, s1, hr1⟩ hp
    obtain ⟨c, hc, rfl⟩ : ∃ c, lab.cps.toList[i]? = some c ∧ x = .str ⟨#[c]⟩ := by
      simp only [signs, List.getElem?_map] at hx
      cases e : lab.cps.toList[i]? with
      | none => rw [e] at hx; cases hx
      | some c => rw [e] at hx; exact ⟨c, rfl, (Option.some.inj hx).symm⟩
    obtain ⟨v, hv, rfl⟩ : ∃ v, ups[i]? = some v ∧ y = .int v := by
      simp only [List.getElem?_map] at hy
      cases e : ups[i]? with
      | none => rw [e] at hy; cases hy
      | some v => rw [e] at hy; exact ⟨v, rfl, (Option.some.inj hy).symm⟩
    have hi : i < ups.length := (List.getElem?_eq_some_iff.mp hv).1
    have ev : ups.getD i 0 = v := by rw [List.getD_eq_getElem?_getD, hv]; rfl
    have ec : lab.cps.toList.getD i 0 = c := by rw [List.getD_eq_getElem?_getD, hc]; rfl
    have hm := ok.most
    have s2 : Same H (upd H' p (.tup [.str ⟨#[c]⟩, .int v])) := s1.new hp
    have hr2 : upd H' p (.tup [.str ⟨#[c]⟩, .int v]) r = some (.lst (wordsV ups lab i)) := by rw [upd_ne (ne_of_none hr1 hp)]; exact hr1
    have wl : (wordsV ups lab i).length = i := by simp [wordsV]
    have step : wordsV ups lab (i + 1) = wordsV ups lab i ++ [.str (mk (W ups lab.cps.toList i))] := by
      unfold wordsV
      rw [List.range_succ, List.map_append]; rfl
    refine ⟨p, _, rfl, SqT.of upd_same, rfl, _, _, rfl, _, _, rfl, rfl, ?_⟩
    refine ⟨_, rfl, .inl ⟨rfl, _, SqL.of hr2⟩, _, rfl, _, rfl, rfl, _, rfl, ite2 (fun cnd => ?_) (fun cnd => ?_)⟩
    · have e1 : V.int v = V.int (-1) := of_decide_eq_true cnd
      have e2 : v = -1 := by injection e1
      have ew : W ups lab.cps.toList i = [c] := by rw [W_eq ok hi, ev, ec, if_pos (by omega)]
      refine ⟨_, rfl, r, _, _, rfl, rfl, hr2, by rw [wl]; exact small1000 (by omega), ⟨_, _, rfl, s2.write hr0, ?_⟩⟩
      rw [upd_same, step, ew]
      rfl
    · have e1 : ¬ V.int v = V.int (-1) := of_decide_eq_false (Bool.eq_false_iff.mpr cnd)
      have e2 : v ≠ -1 := fun z => e1 (by rw [z])
      have e3 : ¬ v < 0 := by
        have := ok.neg hi
        rw [ev] at this
        omega
      have lt := ok.lt hi (by rw [ev]; exact e3)
      rw [ev] at lt
      have hat : atI (wordsV ups lab i) v = some (.str (mk (W ups lab.cps.toList v.toNat))) := by
        have e : atI (wordsV ups lab i) ((v.toNat : Nat) : Int) = some (.str (mk (W ups lab.cps.toList v.toNat))) := atI_nat (by
          unfold wordsV
          rw [List.getElem?_map, List.getElem?_range lt]; rfl)
        rw [show ((v.toNat : Nat) : Int) = v by omega] at e
        exact e
      have wle := W_len ok (v.toNat + 1) v.toNat (by omega) (by omega)
      have ew : W ups lab.cps.toList i = c :: W ups lab.cps.toList v.toNat := by rw [W_eq ok hi, ev, ec, if_neg e3]
      refine ⟨_, rfl, _, rfl, _, rfl, r, _, _, _, rfl, rfl, SqL.of hr2, hat, _, _, rfl, rfl, ?_, r, _, _, rfl, rfl, hr2, by rw [wl]; exact small1000 (by omega), ⟨_, _, rfl, s2.write hr0, ?_⟩⟩
      · rw [mk_len]
        have : (⟨#[c]⟩ : Str).length = 1 := rfl
        rw [this]
        exact Nat.le_of_lt (small1000 (by omega))
      · rw [upd_same, step, ew, mk_app]
  · rintro σ H' ⟨o1, o2, rfl, s1, hr1⟩
    refine ⟨_, rfl, q r H' s1 ?_⟩
    rw [hr1]
    congr 2
    simp [signs, ok.len]
def sp_lword : Sp := fun vs H Q _ => ∃ (t : Addr) (ups : List Int) (lab : Str) (i : Int), vs = [.ref t, .int i] ∧ TreeAt H t ups lab ∧ i < (ups.length : Int) ∧ Q (.str (mk (R ups lab.cps.toList i))) H
theorem has_lword (D : Df K mg "_law_word" s_law_word) (B : Blt mg) : Has P w K mg base "_law_word" (k + 1) ["tree", "place"] sp_lword := by
  refine D.has sc_law_word (fun _ _ _ _ _ _ us hl => match us, hl with | [_, _], _ => rfl) (fun vs H Q E h => by obtain ⟨t, ups, lab, i, rfl, _⟩ := h; rfl) (fun f cdv A outer s H vs Q E hr h => ?_)
  obtain ⟨t, ups, lab, i, rfl, ⟨u, ht, hu, ok⟩, hi, q⟩ := h
  refine ⟨_, (pss_cons (ps_set (i := 2) sc_law_word.nd rfl (by first | exact Or.inl rfl | exact Or.inr rfl) pe_str)
  (pss_cons (ps_while PassesOwn.never (pt_cmpR op_ge (pv 1) pe_int (nomark _))
  (pss_cons (ps_set (i := 2) sc_law_word.nd rfl (by first | exact Or.inl rfl | exact Or.inr rfl) (pe_op op_add_str (pv 2) (pe_ix ix_str (pe_ix ix_tup (pv 0) pe_int (fun _ _ => rfl)) (pv 1) (fun _ _ => rfl))))
  (pss_one (ps_set (i := 1) sc_law_word.nd rfl (by first | exact Or.inl rfl | exact Or.inr rfl) (pe_ix ix_tup (pe_ix ix_tup (pv 0) pe_int (fun _ _ => rfl)) (pv 1) (fun _ _ => rfl))))))
  (pss_one (ps_ret (pv 2))))), ?_⟩
  have hm := ok.most
  refine while_by (fun σ H' => H' = H ∧ ∃ (j : Int) (l : List Nat), σ = [some (.ref t), some (.int j), some (.str (mk l))] ∧ j < (ups.length : Int) ∧ l ++ R ups lab.cps.toList j = R ups lab.cps.toList i ∧ l.length + (j + 1).toNat ≤ 60)
    (fun σ _ => match σ with | [_, some (.int j), _] => (j + 1).toNat | _ => 0) ⟨rfl, i, [], rfl, hi, rfl, by simp; omega⟩ ?_ (fun σ H Q Q' h ⟨v, e, i, j, e1, e2, k, e3, q⟩ => ⟨v, e, i, j, e1, e2, k, e3, h _ _ q⟩)
  rintro σ H' ⟨rfl, j, l, rfl, hj, hl, hlen⟩
  refine ⟨_, rfl, _, _, rfl, rfl, _, rfl, ite2 (fun c => ?_) (fun c => ?_)⟩
  · have c' : 0 ≤ j := of_decide_eq_true c
    have hk : j.toNat < ups.length := by omega
    have hk2 : j.toNat < lab.cps.toList.length := by rw [← ok.len]; exact hk
    have e1 : atI lab.cps.toList j = some lab.cps.toList[j.toNat] := by
      have e := atI_nat (xs := lab.cps.toList) (j := j.toNat) (List.getElem?_eq_getElem hk2)
      rw [show ((j.toNat : Nat) : Int) = j by omega] at e
      exact e
    have e2 : atI (ups.map V.int) j = some (.int ups[j.toNat]) := by
      have e := atI_nat (xs := ups.map V.int) (j := j.toNat) (v := .int ups[j.toNat]) (by rw [List.getElem?_map, List.getElem?_eq_getElem hk]; rfl)
      rw [show ((j.toNat : Nat) : Int) = j by omega] at e
      exact e
    have g1 : lab.cps.toList.getD j.toNat 0 = lab.cps.toList[j.toNat] := by rw [List.getD_eq_getElem?_getD, List.getElem?_eq_getElem hk2]; rfl
    have g2 : ups.getD j.toNat 0 = ups[j.toNat] := by rw [List.getD_eq_getElem?_getD, List.getElem?_eq_getElem hk]; rfl
    have st := R_step ok c' hj
    rw [g1, g2] at st
    have lt : ups[j.toNat] < j := by
      rcases Nat.eq_zero_or_pos j.toNat with z | z
      · have := ok.root
        rw [← z, g2] at this
        omega
      · have := ok.up j.toNat z hk
        rw [g2] at this
        omega
    have hlab : lab.length = ups.length := by rw [ok.len]; simp [Str.length]
    refine ⟨_, rfl, _, rfl, t, _, _, _, rfl, rfl, SqT.of ht, rfl, _, rfl, _, _, _, rfl, rfl, by rw [hlab]; exact Nat.le_of_lt (small1000 (by omega)), e1, _, _, rfl, rfl, ?_, ?_⟩
    · rw [mk_len]
      have : (⟨#[lab.cps.toList[j.toNat]]⟩ : Str).length = 1 := rfl
      rw [this]
      exact Nat.le_of_lt (small1000 (by omega))
    · refine ⟨_, rfl, t, _, _, _, rfl, rfl, SqT.of ht, rfl, _, rfl, u, _, _, _, rfl, rfl, SqT.of hu, e2, ?_⟩
      refine ⟨⟨rfl, ups[j.toNat], l ++ [lab.cps.toList[j.toNat]], ?_, by omega, ?_, ?_⟩, ?_⟩
      · have : mk l ++ (⟨#[lab.cps.toList[j.toNat]]⟩ : Str) = mk (l ++ [lab.cps.toList[j.toNat]]) := by
          apply str_ext; rw [app_list]; rfl
        rw [this]; rfl
      · rw [List.append_assoc, ← hl, st]; rfl
      · simp only [List.length_append, List.length_singleton]; omega
      · show (ups[j.toNat] + 1).toNat < (j + 1).toNat
        omega
  · have c' : ¬ 0 ≤ j := of_decide_eq_false (Bool.eq_false_iff.mpr c)
    have e : l = R ups lab.cps.toList i := by
      rw [← hl]; unfold R; rw [if_pos (show j < 0 by omega), List.append_nil]
    refine ⟨_, rfl, ?_⟩
    rw [e]
    exact q
end
end S20
namespace S20
open PySem L2 W7
section
variable {P : Program} {w : World} {K : PySem.W.Frag} {mg : Str → Option Value} {base : Heap} {k : Nat}
def stepUp (us : List Int) (p : Int) : Int := if us.getD p.toNat 0 > 0 then us.getD p.toNat 0 else 0
def climb (us : List Int) : Nat → Int → Int
  | 0, p => p
  | n + 1, p => stepUp us (climb us n p)
structure GrOk (us : List Int) : Prop where
  road : ∀ k, 0 < k → k < us.length → ∃ n, climb us n ((k : Int) - 1) = us.getD k 0
  pos : 0 < us.length
  root : us.getD 0 0 = -1
  up : ∀ k, 0 < k → k < us.length → 0 ≤ us.getD k 0 ∧ us.getD k 0 < (k : Int)
theorem getD_app {us vs : List Int} {j : Nat} : (us ++ vs).getD j 0 = if j < us.length then us.getD j 0 else vs.getD (j - us.length) 0 := by
  simp only [List.getD_eq_getElem?_getD]
  split
  · rename_i h; rw [List.getElem?_append_left h]
  · rename_i h; rw [List.getElem?_append_right (by omega)]
theorem GrOk.climb {us : List Int} (g : GrOk us) (v : Int) {p : Int} (h0 : 0 ≤ p) (h1 : p < (us.length : Int)) : ∀ n, climb (us ++ [v]) n p = climb us n p ∧ 0 ≤ climb us n p ∧ climb us n p < (us.length : Int)
  | 0 => ⟨rfl, h0, h1⟩
  | n + 1 => by
    obtain ⟨a, b, c⟩ := g.climb v h0 h1 n
    have lt : (S20.climb us n p).toNat < us.length := by omega
    have e : (us ++ [v]).getD (S20.climb us n p).toNat 0 = us.getD (S20.climb us n p).toNat 0 := by rw [getD_app, if_pos lt]
    refine ⟨?_, ?_⟩
    · show stepUp (us ++ [v]) (S20.climb (us ++ [v]) n p) = stepUp us (S20.climb us n p)
      rw [a]; unfold stepUp; rw [e]
    · show 0 ≤ stepUp us (S20.climb us n p) ∧ stepUp us (S20.climb us n p) < (us.length : Int)
      have pos := g.pos
      unfold stepUp
      rcases Nat.eq_zero_or_pos (S20.climb us n p).toNat with z | z
      · rw [z, g.root]; exact ⟨by decide, by show (0 : Int) < _; omega⟩
      · have := g.up _ z lt
        split <;> omega
theorem GrOk.snoc {us : List Int} (g : GrOk us) {v : Int} (h0 : 0 ≤ v) (h1 : v < (us.length : Int)) (hr : ∃ n, S20.climb us n ((us.length : Int) - 1) = v) : GrOk (us ++ [v]) where
  road := fun j hj hl => by
    rw [List.length_append, List.length_singleton] at hl
    rw [getD_app]
    have pos := g.pos
    split
    · rename_i h
      obtain ⟨n, e⟩ := g.road j hj h
      exact ⟨n, ((g.climb v (by omega) (by omega) n).1).trans e⟩
    · rename_i h
      have e : j = us.length := by omega
      subst e
      obtain ⟨n, e⟩ := hr
      rw [Nat.sub_self]
      exact ⟨n, ((g.climb v (by omega) (by omega) n).1).trans e⟩
  pos := by rw [List.length_append]; have := g.pos; omega
  root := by rw [getD_app, if_pos g.pos]; exact g.root
  up := fun j hj hl => by
    rw [List.length_append, List.length_singleton] at hl
    rw [getD_app]
    split
    · rename_i h; exact g.up j hj h
    · rename_i h
      have e : j = us.length := by omega
      subst e
      rw [Nat.sub_self]
      exact ⟨h0, h1⟩
theorem GrOk.one : GrOk [-1] := ⟨fun j h0 h1 => by
  have : j < 1 := h1
  omega, by decide, rfl, fun j h0 h1 => by
  have : j < 1 := h1
  omega⟩
theorem gr_tree {us : List Int} {ls : List Nat} (g : GrOk us) (hl : us.length = ls.length) (h60 : us.length ≤ 60) : TreeOk us (mk ls).cps.toList := ⟨by rw [mk_cps]; exact hl, g.pos, h60, g.root, g.up⟩
structure Fine (ups : List Int) (lab : Str) : Prop where
  low : ∀ c ∈ lab.cps.toList, Lw c
  road : ∀ k, 0 < k → k < ups.length → ∃ n, climb ups n ((k : Int) - 1) = ups.getD k 0
theorem low_app {cs : List Nat} {c : Nat} (h : ∀ x ∈ cs, Lw x) (hc : Lw c) : ∀ x ∈ cs ++ [c], Lw x := fun x hx => by
  rcases List.mem_append.mp hx with z | z
  · exact h x z
  · obtain rfl := List.mem_singleton.mp z; exact hc
def sp_tree : Sp := fun vs H Q _ => ∃ (p : Addr) (most c : Int), vs = [.ref p, .int most] ∧ Deck H p c ∧ 0 ≤ c ∧ c < 900000 ∧ 1 ≤ most ∧ most ≤ 60 ∧ ∀ (t : Addr) (ups : List Int) (lab : Str) (H' : Hp), Kd p (c + 400) H H' → TreeAt H' t ups lab → Fine ups lab → Q (.ref t) H'
theorem has_tree (D : Df K mg "_law_tree" s_law_tree) (B : Blt mg) (G_law_take : Has P w K mg base "_law_take" k ["pool", "many"] sp_take) (G_law_letter : Has P w K mg base "_law_letter" k ["pool", "base"] sp_letter) : Has P w K mg base "_law_tree" (k + 1) ["pool", "most"] sp_tree := by
  refine D.has sc_law_tree (fun _ _ _ _ _ _ us hl => match us, hl with | [_, _], _ => rfl) (fun vs H Q E h => by obtain ⟨p, m, c, rfl, _⟩ := h; rfl) (fun f cdv A outer s H vs Q E hr h => ?_)
  obtain ⟨p, most, c, rfl, hd, cc0, cc1, ms1, ms60, q⟩ := h
  refine ⟨_, (pss_cons (ps_set (i := 2) sc_law_tree.nd rfl (by first | exact Or.inl rfl | exact Or.inr rfl) (pe_ix ix_list (pe_lst (pa_cons (pe_op op_add pe_int (pe_callH G_law_take hr rfl (pa_cons (pv 0) (pa_cons (pv 1) pa_nil)))) (pa_cons (pv 1) (pa_cons (pe_op op_add pe_int (pe_callH G_law_take hr rfl (pa_cons (pv 0) (pa_cons (pe_callB (call_min2 rfl) rfl B.min bt_min (pa_cons (pv 1) (pa_cons pe_int pa_nil))) pa_nil)))) pa_nil)))) (pe_callH G_law_take hr rfl (pa_cons (pv 0) (pa_cons pe_int pa_nil))) (fun _ _ => rfl)))
  (pss_cons (ps_set (i := 3) sc_law_tree.nd rfl (by first | exact Or.inl rfl | exact Or.inr rfl) (pe_tup (pa_cons (pe_callH G_law_take hr rfl (pa_cons (pv 0) (pa_cons pe_int pa_nil))) (pa_cons (pe_ix ix_list (pe_lst (pa_cons pe_int (pa_cons pe_int (pa_cons pe_int (pa_cons pe_int pa_nil))))) (pe_callH G_law_take hr rfl (pa_cons (pv 0) (pa_cons pe_int pa_nil))) (fun _ _ => rfl)) pa_nil))))
  (pss_cons (ps_set (i := 4) sc_law_tree.nd rfl (by first | exact Or.inl rfl | exact Or.inr rfl) (pe_callH G_law_take hr rfl (pa_cons (pv 0) (pa_cons pe_int pa_nil))))
  (pss_cons (ps_set (i := 5) sc_law_tree.nd rfl (by first | exact Or.inl rfl | exact Or.inr rfl) (pe_op op_add pe_int (pe_callH G_law_take hr rfl (pa_cons (pv 0) (pa_cons pe_int pa_nil)))))
  (pss_cons (ps_comp (i := 6) sc_law_tree.nd rfl (by first | exact Or.inl rfl | exact Or.inr rfl) rfl (pi_range1 rfl B.range (pa_cons (pv 5) pa_nil)) (NL := ["k"]) (ix := [0]) (csc (defScope s_law_tree) N_law_tree) (fun cl C s₃ H₃ fp pins => ⟨(pg_name (i := 0) (show List.Nodup (["k", "pool"] : List Str) from by decide +kernel) rfl (by first | exact Or.inl rfl | exact Or.inr rfl)), pifs_nil, (pe_callH G_law_take hr rfl (pa_cons (pv 1) (pa_cons pe_int pa_nil)))⟩))
  (pss_cons (ps_comp (i := 7) sc_law_tree.nd rfl (by first | exact Or.inl rfl | exact Or.inr rfl) rfl (pi_range1 rfl B.range (pa_cons (pv 5) pa_nil)) (NL := ["k"]) (ix := [0, 3]) (csc (defScope s_law_tree) N_law_tree) (fun cl C s₃ H₃ fp pins => ⟨(pg_name (i := 0) (show List.Nodup (["k", "pool", "base"] : List Str) from by decide +kernel) rfl (by first | exact Or.inl rfl | exact Or.inr rfl)), pifs_nil, (pe_callH G_law_letter hr rfl (pa_cons (pv 1) (pa_cons (pv 2) pa_nil)))⟩))
  (pss_cons (ps_set (i := 8) sc_law_tree.nd rfl (by first | exact Or.inl rfl | exact Or.inr rfl) (pe_lst (pa_cons (pe_op op_sub pe_int pe_int) pa_nil)))
  (pss_cons (ps_set (i := 9) sc_law_tree.nd rfl (by first | exact Or.inl rfl | exact Or.inr rfl) (pe_callH G_law_letter hr rfl (pa_cons (pv 0) (pa_cons (pv 3) pa_nil))))
  (pss_cons (ps_for PassesOwn.never rfl (pi_range2 rfl B.range (pa_cons pe_int (pa_cons (pv 2) pa_nil))) (pg_name (i := 10) sc_law_tree.nd rfl (by first | exact Or.inl rfl | exact Or.inr rfl))
  (pss_cons (ps_set (i := 11) sc_law_tree.nd rfl (by first | exact Or.inl rfl | exact Or.inr rfl) (pe_lst (pa_cons pe_int (pa_cons pe_int (pa_cons (pe_op op_mod (pv 10) pe_int) (pa_cons (pe_callH G_law_take hr rfl (pa_cons (pv 0) (pa_cons pe_int pa_nil))) (pa_cons (pe_callH G_law_take hr rfl (pa_cons (pv 0) (pa_cons pe_int pa_nil))) pa_nil)))))))
  (pss_cons (ps_set (i := 11) sc_law_tree.nd rfl (by first | exact Or.inl rfl | exact Or.inr rfl) (pe_op op_cat (pv 11) (pe_lst (pa_cons (pe_ix ix_list (pv 6) (pe_op op_mod (pv 10) (pv 5)) (fun _ _ => rfl)) (pa_cons (pe_callH G_law_take hr rfl (pa_cons (pv 0) (pa_cons pe_int pa_nil))) (pa_cons (pe_op op_mul pe_int (pe_callH G_law_take hr rfl (pa_cons (pv 0) (pa_cons pe_int pa_nil)))) pa_nil))))))
  (pss_cons (ps_set (i := 12) sc_law_tree.nd rfl (by first | exact Or.inl rfl | exact Or.inr rfl) (pe_op op_sub (pv 10) pe_int))
  (pss_cons (ps_for PassesOwn.never rfl (pi_range1 rfl B.range (pa_cons (pe_ix ix_list (pv 11) (pv 4) (fun _ _ => rfl)) pa_nil)) (pg_name (i := 13) sc_law_tree.nd rfl (by first | exact Or.inl rfl | exact Or.inr rfl))
  (pss_one (ps_set (i := 12) sc_law_tree.nd rfl (by first | exact Or.inl rfl | exact Or.inr rfl) (pe_callB (call_max2 rfl) rfl B.max bt_max (pa_cons pe_int (pa_cons (pe_ix ix_list (pv 8) (pv 12) (fun _ _ => rfl)) pa_nil))))))
  (pss_cons (ps_expr (pe_bm PySem.F.plainAttrs_list PySem.F.slot_list_append PySem.F.type_list_append mt_append (pv 8) (pa_cons (pv 12) pa_nil)))
  (pss_one (ps_set (i := 9) sc_law_tree.nd rfl (by first | exact Or.inl rfl | exact Or.inr rfl) (pe_op op_add_str (pv 9) (pe_ix ix_list (pe_lst (pa_cons (pe_callH G_law_letter hr rfl (pa_cons (pv 0) (pa_cons (pv 3) pa_nil))) (pa_cons (pe_ix ix_list (pv 7) (pe_op op_mod (pv 10) (pv 5)) (fun _ _ => rfl)) pa_nil))) (pe_callTy call_int1 rfl B.int_ bt_int (pa_cons (pe_cmpR op_eq (pv 4) pe_int (nomark _)) pa_nil)) (fun _ _ => rfl)))))))))))
  (pss_one (ps_ret (pe_tup (pa_cons (pe_callTy call_tuple_of rfl B.tuple_ bt_tuple (pa_cons (pv 8) pa_nil)) (pa_cons (pv 9) pa_nil)))))))))))))), ?_⟩
  refine ⟨_, rfl, _, rfl, p, most, c, rfl, hd, by omega, by omega, by omega, fun n1 H1 a0 a1 kd1 => ?_⟩
  refine ⟨_, _, rfl, rfl, _, rfl, _, rfl, _, rfl, _, _, rfl, p, _, c + 1, rfl, kd1.deck, by omega, ?_, ?_, fun n2 H2 b0 b1 kd2 => ?_⟩
  · split <;> omega
  · split <;> omega
  have b2 : n2 < 7 ∧ n2 < most := by
    revert b1; split <;> omega
  refine ⟨_, _, rfl, rfl, (by show 3 ≤ sizeLine; decide), fun r1 hr1 => ?_⟩
  have kq2 := ((kd1.trans kd2).new (o := .lst [.int (1 + n1), .int most, .int (1 + n2)]) hr1)
  refine ⟨_, rfl, p, 3, _, rfl, kq2.deck, by omega, by decide, by decide, fun n3 H3 d0 d1 kd3 => ?_⟩
  have ku3 := kq2.trans kd3
  obtain ⟨many, hmany, mn1, mn60⟩ : ∃ v : Int, atI [V.int (1 + n1), .int most, .int (1 + n2)] n3 = some (.int v) ∧ 1 ≤ v ∧ v ≤ 60 := by
    have : n3 = 0 ∨ n3 = 1 ∨ n3 = 2 := by omega
    rcases this with rfl | rfl | rfl
    · exact ⟨_, rfl, by omega, by omega⟩
    · exact ⟨_, rfl, by omega, by omega⟩
    · exact ⟨_, rfl, by omega, by omega⟩
  refine ⟨r1, _, _, _, rfl, rfl, SqL.of (kd3.keep _ _ (kd2.deck.ne hr1) upd_same), hmany, ?_⟩
  refine ⟨_, rfl, p, 26, _, rfl, ku3.deck, by omega, by decide, by decide, fun b0' H4 e0 e1 kd4 => ?_⟩
  have ku4 := ku3.trans kd4
  refine ⟨(by show 4 ≤ sizeLine; decide), fun r2 hr2 => ?_⟩
  have kq4 := ku4.new (o := .lst [.int 1, .int 2, .int 3, .int 26]) hr2
  refine ⟨_, rfl, p, 4, _, rfl, kq4.deck, by omega, by decide, by decide, fun n5 H5 f0 f1 kd5 => ?_⟩
  have ku5 := kq4.trans kd5
  obtain ⟨bb, hbb, bb1, bb26⟩ := menu (us := [1, 2, 3, 26]) (n := n5) (lo := 1) (hi := 26) f0 f1 (by decide)
  refine ⟨r2, _, _, _, rfl, rfl, SqL.of (kd5.keep _ _ (ku4.deck.ne hr2) upd_same), hbb, (by show 2 ≤ sizeLine; decide), fun bs hbs => ?_⟩
  have hHbs : H bs = none := ku5.fresh hbs
  have bsp : bs ≠ p := ku5.deck.ne hbs
  have kq5 := (ku5.new (o := .tup [.int b0', .int bb]) hbs).mono (show _ ≤ c + 5 by omega)
  have hb5 : upd H5 bs (.tup [.int b0', .int bb]) bs = some (.tup [.int b0', .int bb]) := upd_same
  generalize upd H5 bs (.tup [.int b0', .int bb]) = Hb at kq5 hb5
  refine ⟨_, rfl, p, 8, _, rfl, kq5.deck, by omega, by decide, by decide, fun way H6 g0 g1 kd6 => ?_⟩
  have ku6 := kq5.trans kd6
  have hb6 := kd6.keep _ _ bsp hb5
  refine ⟨_, rfl, p, 7, _, rfl, ku6.deck, by omega, by decide, by decide, fun n9 H9 k0 k1 kd9 => ?_⟩
  have ku9 := (ku6.trans kd9).mono (show _ ≤ c + 9 by omega)
  have hb9 := kd9.keep _ _ bsp hb6
  refine ⟨_, _, rfl, rfl, ?_⟩
  have per1 : 1 ≤ (1 + n9) := by omega
  have per7 : (1 + n9) ≤ 7 := by omega
  refine ⟨_, rfl, _, rfl, by omega, by omega, fun cl0 hcl => ?_⟩
  have hHcl : H cl0 = none := ku9.fresh hcl
  have clp : cl0 ≠ p := ku9.deck.ne hcl
  have bcl : bs ≠ cl0 := ne_of_none hb9 hcl
  refine comp_by (1 + n9).toNat (by omega) (fun j ys H' => H' cl0 = some (.lst ys) ∧ ys.length = j ∧ Kd p (c + 9 + j) H H' ∧ H' bs = some (.tup [.int b0', .int bb]) ∧ ∃ us : List Int, ys = us.map V.int ∧ ∀ v ∈ us, 0 ≤ v ∧ v ≤ 3)
    (fun j ys H' h => ⟨h.1, by omega⟩) ⟨upd_same, rfl, (ku9.new hcl).mono (by omega), by rw [upd_ne bcl]; exact hb9, [], rfl, by simp⟩ ?_ ?_
  rotate_left
  · rintro j ys Ha hj ⟨x1, x2, x3, x4, us, rfl, x5⟩
    refine ⟨hj, ?_⟩
    rintro x H4' ⟨rfl, rfl⟩
    refine ⟨rfl, ?_⟩
    refine ⟨_, rfl, p, 4, _, rfl, x3.deck, by omega, by decide, by decide, fun n Hc y0 y1 kd => ?_⟩
    refine ⟨kd.keep _ _ clp x1, upd_same, by rw [List.length_append, x2]; rfl, ((x3.trans kd).write hHcl clp).mono (by omega), by rw [upd_ne bcl]; exact kd.keep _ _ bsp x4, us ++ [n], by rw [List.map_append]; rfl, fun v hv => ?_⟩
    rcases List.mem_append.mp hv with hv | hv
    · exact x5 v hv
    · have : v = n := by simpa using hv
      omega
  rintro ys Ha ⟨hc1, hc2, ku10, hb10, cls, rfl, hcls⟩
  refine ⟨Nat.le_refl _, ?_⟩
  rw [List.length_map] at hc2
  refine ⟨_, rfl, _, rfl, by omega, by omega, fun sg0 hsg => ?_⟩
  have hHsg : H sg0 = none := ku10.fresh hsg
  have sgp : sg0 ≠ p := ku10.deck.ne hsg
  have bsg : bs ≠ sg0 := ne_of_none hb10 hsg
  have csg : cl0 ≠ sg0 := ne_of_none hc1 hsg
  refine comp_by (1 + n9).toNat (by omega) (fun j ys H' => H' sg0 = some (.lst ys) ∧ ys.length = j ∧ Kd p (c + 9 + (1 + n9).toNat + j) H H' ∧ H' bs = some (.tup [.int b0', .int bb]) ∧ H' cl0 = some (.lst (cls.map V.int)) ∧ ∃ cs : List Nat, ys = oneV cs ∧ ∀ c ∈ cs, Lw c)
    (fun j ys H' h => ⟨h.1, by omega⟩) ⟨upd_same, rfl, (ku10.new hsg).mono (by omega), by rw [upd_ne bsg]; exact hb10, by rw [upd_ne csg]; exact hc1, [], rfl, by simp⟩ ?_ ?_
  rotate_left
  · rintro j ys Hb' hj ⟨x1, x2, x3, x4, x5, cs, rfl, x6⟩
    refine ⟨hj, ?_⟩
    rintro x H4' ⟨rfl, rfl⟩
    refine ⟨rfl, ?_⟩
    refine ⟨_, rfl, _, rfl, p, bs, _, b0', bb, rfl, x3.deck, by omega, x4, by omega, by omega, fun ch Hc chl kd => ?_⟩
    refine ⟨kd.keep _ _ sgp x1, upd_same, by rw [List.length_append, x2]; rfl, ((x3.trans kd).write hHsg sgp).mono (by omega), by rw [upd_ne bsg]; exact kd.keep _ _ bsp x4, by rw [upd_ne csg]; exact kd.keep _ _ clp x5, cs ++ [ch], by unfold oneV; rw [List.map_append]; rfl, low_app x6 chl⟩
  rintro ys Hb' ⟨hs1, hs2, ku11, hb11, hc11, cs, rfl, lowc⟩
  refine ⟨Nat.le_refl _, ?_⟩
  rw [oneV_len] at hs2
  have ku11' := ku11.mono (show _ ≤ c + 23 by omega)
  refine ⟨_, _, rfl, rfl, (by show 1 ≤ sizeLine; decide), fun u hu0 => ?_⟩
  have hup : u ≠ p := ku11'.deck.ne hu0
  have hHu : H u = none := ku11'.fresh hu0
  have ubs : bs ≠ u := ne_of_none hb11 hu0
  have ucl : cl0 ≠ u := ne_of_none hc11 hu0
  have usg : sg0 ≠ u := ne_of_none hs1 hu0
  have ku12 : Kd p (c + 23) H (upd Hb' u (.lst [.int (0 - 1)])) := ku11'.new hu0
  have hb12 : upd Hb' u (.lst [.int (0 - 1)]) bs = some (.tup [.int b0', .int bb]) := by rw [upd_ne ubs]; exact hb11
  have hc12 : upd Hb' u (.lst [.int (0 - 1)]) cl0 = some (.lst (cls.map V.int)) := by rw [upd_ne ucl]; exact hc11
  have hs12 : upd Hb' u (.lst [.int (0 - 1)]) sg0 = some (.lst (oneV cs)) := by rw [upd_ne usg]; exact hs1
  have hu12 : upd Hb' u (.lst [.int (0 - 1)]) u = some (.lst (([-1] : List Int).map V.int)) := upd_same
  generalize upd Hb' u (.lst [.int (0 - 1)]) = H12 at ku12 hb12 hc12 hs12 hu12
  refine ⟨_, rfl, _, rfl, p, bs, _, b0', bb, rfl, ku12.deck, by omega, hb12, by omega, by omega, fun lc0 H13 lcl0 kd13 => ?_⟩
  have ku13 := (ku12.trans kd13).mono (show _ ≤ c + 24 by omega)
  have hb13 := kd13.keep _ _ bsp hb12
  have hc13 := kd13.keep _ _ clp hc12
  have hs13 := kd13.keep _ _ sgp hs12
  have hu13 := kd13.keep _ _ hup hu12
  refine ⟨_, rfl, _, _, rfl, ⟨by omega, by omega, by omega, by omega⟩, ?_⟩
  refine for_range (lo := 1) (n := (many - 1).toNat) (fun i σ H' => ∃ (us : List Int) (ls : List Nat) (tx : Str) (o10 o11 o12 o13 : Option V),
      σ = [some (.ref p), some (.int most), some (.int many), some (.ref bs), some (.int way), some (.int (1 + n9)), some (.ref cl0), some (.ref sg0), some (.ref u), some (.str tx), o10, o11, o12, o13] ∧ tx = mk ls ∧
      Kd p (c + 24 + 6 * i) H H' ∧ H' bs = some (.tup [.int b0', .int bb]) ∧ H' cl0 = some (.lst (cls.map V.int)) ∧ H' sg0 = some (.lst (oneV cs)) ∧ H' u = some (.lst (us.map V.int)) ∧ us.length = i + 1 ∧ ls.length = i + 1 ∧ GrOk us ∧ ∀ c ∈ ls, Lw c)
    ⟨[-1], [lc0], _, none, none, none, none, rfl, rfl, ku13.mono (by omega), hb13, hc13, hs13, hu13, rfl, rfl, GrOk.one, fun x hx => by obtain rfl := List.mem_singleton.mp hx; exact lcl0⟩ ?_ ?_
  · rintro i σ H' hi ⟨us, ls, tx, o10, o11, o12, o13, rfl, rfl, kd, hb, hc, hs, hu, hlen, hls, gr, low⟩
    have hul : (us.map V.int).length = us.length := List.length_map _
    have im := Int.emod_nonneg (1 + (i : Int)) (show (1 + n9) ≠ 0 by omega)
    have im2 := Int.emod_lt_of_pos (1 + (i : Int)) (show 0 < (1 + n9) by omega)
    have i2 := Int.emod_nonneg (1 + (i : Int)) (by decide : (2 : Int) ≠ 0)
    have i22 := Int.emod_lt_of_pos (1 + (i : Int)) (by decide : (0 : Int) < 2)
    obtain ⟨cv, hcv, cv0, cv3⟩ := menu (us := cls) (n := (1 + (i : Int)) % (1 + n9)) (lo := 0) (hi := 3) im (by omega) hcls
    refine ⟨_, rfl, _, _, rfl, rfl, (by decide : (0 : Int) < 2), _, rfl, p, 2, _, rfl, kd.deck, by omega, by decide, by decide, fun m1 G1 p0 p1 e1 => ?_⟩
    refine ⟨_, rfl, p, 3, _, rfl, e1.deck, by omega, by decide, by decide, fun m2 G2 p2 p3 e2 => ?_⟩
    refine ⟨(by show 5 ≤ sizeLine; decide), fun s1 hs1' => ?_⟩
    have kd3 := (((Kd.refl kd.deck).trans e1).trans e2).new (o := .lst [.int 0, .int 60, .int ((1 + (i : Int)) % 2), .int m1, .int m2]) hs1'
    have hsp1 : s1 ≠ p := e2.deck.ne hs1'
    have hss1 : upd G2 s1 (.lst [.int 0, .int 60, .int ((1 + (i : Int)) % 2), .int m1, .int m2]) s1 = some (.lst [.int 0, .int 60, .int ((1 + (i : Int)) % 2), .int m1, .int m2]) := upd_same
    generalize upd G2 s1 (.lst [.int 0, .int 60, .int ((1 + (i : Int)) % 2), .int m1, .int m2]) = G3' at kd3 hss1
    have hc2 := kd3.keep _ _ clp hc
    refine ⟨_, rfl, _, rfl, _, rfl, _, rfl, _, _, rfl, rfl, by omega, cl0, _, _, _, rfl, rfl, SqL.of hc2, hcv, ?_⟩
    refine ⟨_, rfl, p, 5, _, rfl, kd3.deck, by omega, by decide, by decide, fun m3 G4 p4 p5 e3 => ?_⟩
    refine ⟨_, rfl, p, 2, _, rfl, e3.deck, by omega, by decide, by decide, fun m4 G5 p6 p7 e4 => ?_⟩
    refine ⟨_, _, rfl, rfl, .inl ⟨by decide, by decide⟩, (by show 3 ≤ sizeLine; decide), fun s2 hs2' => ?_⟩
    have kd5 := ((kd3.trans e3).trans e4).new (o := .lst [.int cv, .int m3, .int (3 * m4)]) hs2'
    have hss2 : upd G5 s2 (.lst [.int cv, .int m3, .int (3 * m4)]) s1 = some (.lst [.int 0, .int 60, .int ((1 + (i : Int)) % 2), .int m1, .int m2]) := by
      have z := e4.keep _ _ hsp1 (e3.keep _ _ hsp1 hss1)
      rw [upd_ne (ne_of_none z hs2')]; exact z
    refine ⟨s1, s2, _, _, rfl, rfl, hss2, upd_same, (by show 8 ≤ sizeLine; decide), fun s3 hs3' => ?_⟩
    have kd6 := kd5.new (o := .lst ([.int 0, .int 60, .int ((1 + (i : Int)) % 2), .int m1, .int m2] ++ [.int cv, .int m3, .int (3 * m4)])) hs3'
    have hs3 : upd (upd G5 s2 (.lst [.int cv, .int m3, .int (3 * m4)])) s3 (.lst ([.int 0, .int 60, .int ((1 + (i : Int)) % 2), .int m1, .int m2] ++ [.int cv, .int m3, .int (3 * m4)])) s3 = some (.lst (([0, 60, (1 + (i : Int)) % 2, m1, m2, cv, m3, 3 * m4] : List Int).map V.int)) := upd_same
    generalize upd (upd G5 s2 (.lst [.int cv, .int m3, .int (3 * m4)])) s3 (.lst ([.int 0, .int 60, .int ((1 + (i : Int)) % 2), .int m1, .int m2] ++ [.int cv, .int m3, .int (3 * m4)])) = G6 at kd6 hs3
    have kk : Kd p (c + 24 + 6 * i + 5) H G6 := (kd.trans kd6).mono (by omega)
    have keep : ∀ b o, b ≠ p → H' b = some o → G6 b = some o := kd6.keep
    have hu6 := keep _ _ hup hu
    have hb6' := keep _ _ bsp hb
    have hs6 := keep _ _ sgp hs
    refine ⟨_, rfl, _, _, rfl, rfl, ?_⟩
    obtain ⟨stp, hstp, st0, st60⟩ := menu (us := [0, 60, (1 + (i : Int)) % 2, m1, m2, cv, m3, 3 * m4]) (n := way) (lo := 0) (hi := 60) g0 (by show way < 8; exact g1) (by
      intro v hv
      simp only [List.mem_cons, List.not_mem_nil, or_false] at hv
      rcases hv with rfl | rfl | rfl | rfl | rfl | rfl | rfl | rfl <;> omega)
    refine ⟨_, rfl, _, rfl, s3, _, _, _, rfl, rfl, SqL.of hs3, hstp, _, rfl, by omega, by omega, ?_⟩
    have hn : stp.toNat ≤ 60 := by omega
    generalize stp.toNat = nst at hn
    refine for_range (lo := 0) (n := nst) (fun j σ H'' => ∃ (pl : Int) (o13' : Option V),
        σ = [some (.ref p), some (.int most), some (.int many), some (.ref bs), some (.int way), some (.int (1 + n9)), some (.ref cl0), some (.ref sg0), some (.ref u), some (.str (mk ls)), some (.int (1 + (i : Int))), some (.ref s3), some (.int pl), o13'] ∧ H'' = G6 ∧ 0 ≤ pl ∧ pl < (i : Int) + 1 ∧ ∃ n, climb us n (1 + (i : Int) - 1) = pl)
      ⟨1 + (i : Int) - 1, o13, rfl, rfl, by omega, by omega, 0, rfl⟩ ?_ ?_
    · rintro j σ H'' hj ⟨pl, o13', rfl, rfl, pl0, pl1, n0, hn0⟩
      have hat := ints_at (us := us) (i := pl) pl0 (by omega)
      have hv : us.getD pl.toNat 0 < pl ∨ (us.getD pl.toNat 0 = -1 ∧ pl = 0) := by
        rcases Nat.eq_zero_or_pos pl.toNat with e | e
        · right; rw [e]; exact ⟨gr.root, by omega⟩
        · left; have := gr.up pl.toNat e (by omega); omega
      refine ⟨_, rfl, _, rfl, u, _, _, _, rfl, rfl, SqL.of hu6, hat, _, _, rfl, ?_⟩
      refine ⟨_, _, rfl, rfl, ?_, ?_, n0 + 1, ?_⟩
      · split <;> omega
      · split <;> omega
      · show stepUp us (climb us n0 _) = _
        rw [hn0]; rfl
    rintro σ Gx ⟨pl, o13', rfl, rfl, pl0, pl1, n0, hn0⟩
    refine ⟨_, rfl, .inl ⟨rfl, _, SqL.of hu6⟩, _, rfl, u, _, _, rfl, rfl, hu6, by rw [hul]; exact small1000 (by omega), ?_⟩
    have kk7 : Kd p (c + 24 + 6 * i + 5) H (upd Gx u (.lst (us.map V.int ++ [.int pl]))) := kk.write hHu hup
    have hu7 : upd Gx u (.lst (us.map V.int ++ [.int pl])) u = some (.lst ((us ++ [pl]).map V.int)) := by rw [upd_same, List.map_append]; rfl
    have hb7' : upd Gx u (.lst (us.map V.int ++ [.int pl])) bs = some (.tup [.int b0', .int bb]) := by rw [upd_ne ubs]; exact hb6'
    have hs7 : upd Gx u (.lst (us.map V.int ++ [.int pl])) sg0 = some (.lst (oneV cs)) := by rw [upd_ne usg]; exact hs6
    have hc7 : upd Gx u (.lst (us.map V.int ++ [.int pl])) cl0 = some (.lst (cls.map V.int)) := by rw [upd_ne ucl]; exact keep _ _ clp hc
    generalize upd Gx u (.lst (us.map V.int ++ [.int pl])) = G7 at kk7 hu7 hb7' hs7 hc7
    refine ⟨_, rfl, _, rfl, _, rfl, p, bs, _, b0', bb, rfl, kk7.deck, by omega, hb7', by omega, by omega, fun ch G8 chl e8 => ?_⟩
    have hs8 := e8.keep _ _ sgp hs7
    have hb8' := e8.keep _ _ bsp hb7'
    have hc8 := e8.keep _ _ clp hc7
    have hu8 := e8.keep _ _ hup hu7
    have kk8 := (kk7.trans e8).mono (show _ ≤ c + 24 + 6 * (i : Int) + 6 by omega)
    obtain ⟨sv, hsv, svm⟩ := oneV_at (cs := cs) (i := (1 + (i : Int)) % (1 + n9)) im (by omega)
    refine ⟨_, rfl, _, rfl, _, rfl, _, _, rfl, rfl, by omega, sg0, _, _, _, rfl, rfl, SqL.of hs8, hsv, (by show 2 ≤ sizeLine; decide), fun l1' hl1' => ?_⟩
    have kk9 := kk8.new (o := .lst [V.str ⟨#[ch]⟩, .str ⟨#[sv]⟩]) hl1'
    have kp : ∀ b o, G8 b = some o → upd G8 l1' (.lst [V.str ⟨#[ch]⟩, .str ⟨#[sv]⟩]) b = some o := fun b o e => (Same.refl G8).new hl1' b o e
    have hl9 : upd G8 l1' (.lst [V.str ⟨#[ch]⟩, .str ⟨#[sv]⟩]) l1' = some (.lst [V.str ⟨#[ch]⟩, .str ⟨#[sv]⟩]) := upd_same
    generalize upd G8 l1' (.lst [V.str ⟨#[ch]⟩, .str ⟨#[sv]⟩]) = G9 at kk9 kp hl9
    obtain ⟨lc, hlc, lcl⟩ : ∃ ov : Nat, atI [V.str ⟨#[ch]⟩, .str ⟨#[sv]⟩] (if decide (V.int way = V.int 5) = true then 1 else 0) = some (.str ⟨#[ov]⟩) ∧ Lw ov := by
      by_cases z : V.int way = V.int 5
      · rw [decide_eq_true z]; exact ⟨sv, rfl, lowc _ svm⟩
      · rw [decide_eq_false z]; exact ⟨ch, rfl, chl⟩
    have happ : mk ls ++ (⟨#[lc]⟩ : Str) = mk (ls ++ [lc]) := by
      apply str_ext; rw [app_list]; rfl
    refine ⟨_, rfl, rfl, .inr ⟨_, rfl, l1', _, _, _, rfl, rfl, SqL.of hl9, hlc, _, _, rfl, rfl, ?_, us ++ [pl], ls ++ [lc], _, _, _, _, _, rfl, happ, kk9.mono (by omega), kp _ _ hb8', kp _ _ hc8, kp _ _ hs8, kp _ _ hu8, by rw [List.length_append, hlen]; rfl, by rw [List.length_append, hls]; rfl, ?_, low_app low lcl⟩⟩
    · rw [mk_len]
      have : (⟨#[lc]⟩ : Str).length = 1 := rfl
      rw [this]
      exact Nat.le_of_lt (small1000 (by omega))
    · exact gr.snoc pl0 (by omega) ⟨n0, by rw [← hn0]; congr 1; omega⟩
  · rintro σ H' ⟨us, ls, tx, o10, o11, o12, o13, rfl, rfl, kd, hb, hc, hs, hu, hlen, hls, gr, low⟩
    refine ⟨_, rfl, u, _, rfl, .inl ⟨SqL.of hu, fun r7 hr7 => ?_⟩⟩
    refine ⟨_, rfl, (by show 2 ≤ sizeLine; decide), fun t ht => ?_⟩
    refine q t us (mk ls) _ (((kd.new hr7).new ht).mono (by omega)) ⟨r7, upd_same, ?_, gr_tree gr (by omega) (by omega)⟩ ⟨low, gr.road⟩
    rw [upd_ne (ne_of_none upd_same ht)]; exact upd_same
end
end S20
namespace S20
open PySem L2 W7
structure Blt7 (mg : Str → Option Value) : Prop extends Blt mg where
  sorted : mg "sorted" = none
  all : mg "all" = none
  repr : mg "repr" = none
  set_ : mg "set" = none
section
variable {P : Program} {w : World} {K : PySem.W.Frag} {mg : Str → Option Value} {base : Heap} {k : Nat}
theorem cut_to {xs : List V} {h : Int} (h0 : 0 ≤ h) : cutV xs none (some h) = xs.take h.toNat := by
  unfold cutV
  have e1 := HT.sIx_nat xs.length xs.length h.toNat
  rw [show ((h.toNat : Nat) : Int) = h by omega] at e1
  rw [e1, HT.sIx_none, List.drop_zero, Nat.sub_zero]
  rcases Nat.le_total h.toNat xs.length with z | z
  · rw [Nat.min_eq_left z]
  · rw [Nat.min_eq_right z, List.take_of_length_le (Nat.le_refl _), List.take_of_length_le z]
def sp_cells : PySem.W.Frag → Sp := fun K vs H Q _ => ∃ (a : Addr) (ns : List Int) (most : Int), vs = [.ref a, .int most] ∧ SqL K H a (ns.map V.int) ∧ ns.length ≤ 63 ∧ 0 < most ∧ most ≤ 63 ∧
  ∀ (r : Addr) (ms : List Int) (H' : Hp), Same H H' → H r = none → H' r = some (.lst (ms.map V.int)) → ms.length ≤ 63 → Q (.ref r) H'
theorem has_cells (D : Df K mg "_law_cells" s_law_cells) (B : Blt mg) : Has P w K mg base "_law_cells" (k + 1) ["script", "most"] (sp_cells K) := by
  refine D.has sc_law_cells (fun _ _ _ _ _ _ us hl => match us, hl with | [_, _], _ => rfl) (fun vs H Q E h => by obtain ⟨a, ns, most, rfl, _⟩ := h; rfl) (fun f cdv A outer s H vs Q E hr h => ?_)
  obtain ⟨a, ns, most, rfl, hS, h63, m0, m63, q⟩ := h
  refine ⟨_, (pss_cons (ps_set (i := 2) sc_law_cells.nd rfl (by first | exact Or.inl rfl | exact Or.inr rfl) (pe_slice sl_list (pe_op op_cat (pe_callTy call_list_of rfl B.list_ bt_list (pa_cons (pe_slice sl_list (pv 0) po_none (po_some (pv 1))) pa_nil)) (pe_lst (pa_cons pe_int pa_nil))) po_none (po_some (pe_callB (call_max2 rfl) rfl B.max bt_max (pa_cons pe_int (pa_cons (pe_callB (call_min2 rfl) rfl B.min bt_min (pa_cons (pv 1) (pa_cons (pe_callB call_len_seq rfl B.len bt_len (pa_cons (pv 0) pa_nil)) pa_nil))) pa_nil))))))
  (pss_cons (ps_for PassesOwn.never rfl (pi_range2 rfl B.range (pa_cons (pv 1) (pa_cons (pe_callB call_len_seq rfl B.len bt_len (pa_cons (pv 0) pa_nil)) pa_nil))) (pg_name (i := 3) sc_law_cells.nd rfl (by first | exact Or.inl rfl | exact Or.inr rfl))
  (pss_one (ps_asg (pe_op op_add (pe_op op_mul (pe_ix ix_list (pv 2) (pe_op op_mod (pv 3) (pv 1)) (fun _ _ => rfl)) pe_int) (pe_ix ix_list (pv 0) (pv 3) (fun _ _ => rfl))) (pg_sub (pv 2) (pe_op op_mod (pv 3) (pv 1)) set_list))))
  (pss_one (ps_ret (pv 2))))), ?_⟩
  have hl : (ns.map V.int).length = ns.length := List.length_map _
  refine ⟨_, rfl, _, rfl, _, rfl, a, _, rfl, hS, fun p1 hp1 => ?_⟩
  rw [cut_to (by omega), ← List.map_take]
  have s1 : Same H (upd H p1 (.lst ((ns.take most.toNat).map V.int))) := (Same.refl H).new hp1
  have h1 : upd H p1 (.lst ((ns.take most.toNat).map V.int)) p1 = some (.lst ((ns.take most.toNat).map V.int)) := upd_same
  generalize upd H p1 (.lst ((ns.take most.toNat).map V.int)) = H1 at s1 h1
  refine ⟨p1, _, rfl, .inl (SqL.of h1), fun p2 hp2 => ?_⟩
  have s2 : Same H1 (upd H1 p2 (.lst ((ns.take most.toNat).map V.int))) := (Same.refl H1).new hp2
  have h2 : upd H1 p2 (.lst ((ns.take most.toNat).map V.int)) p2 = some (.lst ((ns.take most.toNat).map V.int)) := upd_same
  generalize upd H1 p2 (.lst ((ns.take most.toNat).map V.int)) = H2 at s2 h2
  refine ⟨(by show 1 ≤ sizeLine; decide), fun p3 hp3 => ?_⟩
  have s3 : Same H2 (upd H2 p3 (.lst [.int 23])) := (Same.refl H2).new hp3
  have h3 : upd H2 p3 (.lst [.int 23]) p3 = some (.lst [.int 23]) := upd_same
  generalize upd H2 p3 (.lst [.int 23]) = H3 at s3 h3
  have tl : (ns.take most.toNat).length ≤ 63 := by rw [List.length_take]; omega
  refine ⟨p2, p3, _, _, rfl, rfl, s3 _ _ h2, h3, by rw [List.length_map]; exact Nat.le_of_lt (small1000 (by show _ + 1 ≤ 1000; omega)), fun p4 hp4 => ?_⟩
  rw [show ((ns.take most.toNat).map V.int ++ [V.int 23]) = (ns.take most.toNat ++ [23]).map V.int by rw [List.map_append]; rfl]
  have s4 : Same H3 (upd H3 p4 (.lst ((ns.take most.toNat ++ [23]).map V.int))) := (Same.refl H3).new hp4
  have h4 : upd H3 p4 (.lst ((ns.take most.toNat ++ [23]).map V.int)) p4 = some (.lst ((ns.take most.toNat ++ [23]).map V.int)) := upd_same
  generalize upd H3 p4 (.lst ((ns.take most.toNat ++ [23]).map V.int)) = H4 at s4 h4
  have s04 : Same H H4 := ((s1.trans s2).trans s3).trans s4
  refine ⟨_, rfl, _, rfl, a, _, rfl, .inl (s04.seq hS), _, _, rfl, _, _, rfl, _, rfl, p4, _, rfl, SqL.of h4, fun p5 hp5 => ?_⟩
  obtain ⟨M, hM, hMm⟩ : ∃ M : Int, M = (if (if (((ns.map V.int).length : Nat) : Int) < most then (((ns.map V.int).length : Nat) : Int) else most) > 1 then (if (((ns.map V.int).length : Nat) : Int) < most then (((ns.map V.int).length : Nat) : Int) else most) else 1) ∧ 0 < M ∧ M ≤ 63 ∧ (most < (ns.length : Int) → M = most) := by
    refine ⟨_, rfl, ?_⟩
    rw [hl]
    split <;> (try split) <;> omega
  rw [← hM, cut_to (by omega), ← List.map_take]
  generalize hms : (ns.take most.toNat ++ [23]).take M.toNat = ms0
  have L63 : ms0.length ≤ 63 := by rw [← hms, List.length_take]; omega
  have Lm : most < (ns.length : Int) → (ms0.length : Int) = most := fun z => by
    have e := hMm.2.2 z
    rw [← hms, List.length_take, List.length_append, List.length_take]
    simp only [List.length_singleton]
    omega
  have s5 : Same H (upd H4 p5 (.lst (ms0.map V.int))) := s04.new hp5
  have h5 : upd H4 p5 (.lst (ms0.map V.int)) p5 = some (.lst (ms0.map V.int)) := upd_same
  have f5 : H p5 = none := s04.free hp5
  generalize upd H4 p5 (.lst (ms0.map V.int)) = H5 at s5 h5
  refine ⟨_, rfl, _, rfl, a, _, rfl, .inl (s5.seq hS), _, _, rfl, ⟨by omega, by omega, by omega, by rw [hl]; omega⟩, ?_⟩
  refine for_range (lo := most) (n := ((((ns.map V.int).length : Nat) : Int) - most).toNat) (fun i σ H' => ∃ (ms : List Int) (o3 : Option V), σ = [some (.ref a), some (.int most), some (.ref p5), o3] ∧ Same H H' ∧ H' p5 = some (.lst (ms.map V.int)) ∧ ms.length = ms0.length) ⟨ms0, none, rfl, s5, h5, rfl⟩ ?_ ?_
  · rintro i σ H' hi ⟨ms, o3, rfl, sX, hX, hlX⟩
    rw [hl] at hi
    have Lm' := Lm (by omega)
    have e0 := Int.emod_nonneg (most + (i : Int)) (show most ≠ 0 by omega)
    have e1 := Int.emod_lt_of_pos (most + (i : Int)) m0
    have at1 := ints_at (us := ms) (i := (most + (i : Int)) % most) e0 (by omega)
    have at2 := ints_at (us := ns) (i := most + (i : Int)) (by omega) (by omega)
    have hj : ixN (ms.map V.int).length ((most + (i : Int)) % most) = some ((most + (i : Int)) % most).toNat := by
      unfold ixN; rw [if_pos e0, List.length_map, if_pos (by omega)]
    refine ⟨_, rfl, _, rfl, _, rfl, _, _, rfl, rfl, m0, p5, _, _, _, rfl, rfl, SqL.of hX, at1, _, _, rfl, rfl, .inr ⟨by decide, by decide⟩, _, rfl, _, rfl, a, _, _, _, rfl, rfl, sX.seq hS, at2, _, _, rfl, rfl, ?_⟩
    refine ⟨_, rfl, _, rfl, _, rfl, _, _, rfl, rfl, m0, p5, _, _, _, rfl, rfl, hX, hj, ?_⟩
    refine ⟨ms.set ((most + (i : Int)) % most).toNat (ms.getD ((most + (i : Int)) % most).toNat 0 * 31 + ns.getD (most + (i : Int)).toNat 0), _, rfl, sX.write f5, ?_, by rw [List.length_set]; exact hlX⟩
    rw [upd_same, List.map_set]
  · rintro σ H' ⟨ms, o3, rfl, sX, hX, hlX⟩
    exact ⟨_, rfl, q p5 ms H' sX f5 hX (by omega)⟩
end
end S20
namespace W18
open W16
theorem btw : ∀ p a b c : List Nat, p <+: a → p <+: c → ¬ b < a → ¬ c < b → p <+: b
  | [], _, b, _, _, _, _, _ => List.nil_prefix
  | x :: p, a, b, c, ha, hc, h1, h2 => by
    obtain ⟨a', rfl⟩ := ha
    obtain ⟨c', rfl⟩ := hc
    cases b with
    | nil => exact absurd (List.nil_lt_cons _ _) h1
    | cons y b =>
      rw [List.cons_append, List.cons_lt_cons_iff] at h1 h2
      have e : y = x := by
        have n1 : ¬ y < x := fun h => h1 (.inl h)
        have n2 : ¬ x < y := fun h => h2 (.inl h)
        omega
      subst e
      obtain ⟨r, hr⟩ := btw p (p ++ a') b (p ++ c') (List.prefix_append _ _) (List.prefix_append _ _) (fun h => h1 (.inr ⟨rfl, h⟩)) (fun h => h2 (.inr ⟨rfl, h⟩))
      exact ⟨r, by rw [List.cons_append, hr]⟩
def lc (ss : List (List Nat)) (i : Nat) : Nat := if i = 0 then 0 else lcp (ss.getD (i - 1) []) (ss.getD i [])
def blk (z : List Nat) (a : Nat) : List (List Nat) := (List.range (z.length - a)).map fun j => z.take (a + 1 + j)
def unl (ss : List (List Nat)) (n : Nat) : List (List Nat) := (List.range n).flatMap fun i => blk (ss.getD i []) (lc ss i)
theorem unl_succ (ss : List (List Nat)) (n : Nat) : unl ss (n + 1) = unl ss n ++ blk (ss.getD n []) (lc ss n) := by
  unfold unl; rw [List.range_succ, List.flatMap_append]; simp
theorem mem_blk {p z : List Nat} {a : Nat} : p ∈ blk z a ↔ p <+: z ∧ a < p.length := by
  unfold blk
  rw [List.mem_map]
  constructor
  · rintro ⟨j, hj, rfl⟩
    have hj := List.mem_range.mp hj
    refine ⟨List.take_prefix _ _, ?_⟩
    rw [List.length_take]; omega
  · rintro ⟨hp, hl⟩
    have e := List.prefix_iff_eq_take.mp hp
    have le := hp.length_le
    refine ⟨p.length - a - 1, List.mem_range.mpr (by omega), ?_⟩
    rw [show a + 1 + (p.length - a - 1) = p.length by omega, ← e]
theorem blk_nodup (z : List Nat) (a : Nat) : (blk z a).Nodup := by
  unfold List.Nodup
  rw [List.pairwise_iff_getElem]
  intro i j hi hj hij e
  unfold blk at hi hj e
  rw [List.length_map, List.length_range] at hi hj
  simp only [List.getElem_map, List.getElem_range] at e
  have := congrArg List.length e
  rw [List.length_take, List.length_take] at this
  omega
theorem mem_unl {ss : List (List Nat)} {p : List Nat} {n : Nat} : p ∈ unl ss n ↔ ∃ i, i < n ∧ p <+: ss.getD i [] ∧ lc ss i < p.length := by
  unfold unl
  rw [List.mem_flatMap]
  constructor
  · rintro ⟨i, hi, hp⟩
    obtain ⟨a, b⟩ := mem_blk.mp hp
    exact ⟨i, List.mem_range.mp hi, a, b⟩
  · rintro ⟨i, hi, a, b⟩
    exact ⟨i, List.mem_range.mpr hi, mem_blk.mpr ⟨a, b⟩⟩
theorem all_in {ss : List (List Nat)} {n : Nat} {p : List Nat} (hp : p ≠ []) : ∀ i, i < n → p <+: ss.getD i [] → p ∈ unl ss n
  | 0, hi, h => mem_unl.mpr ⟨0, hi, h, by unfold lc; rw [if_pos rfl]; exact List.length_pos_iff.mpr hp⟩
  | i + 1, hi, h => by
    by_cases c : lc ss (i + 1) < p.length
    · exact mem_unl.mpr ⟨i + 1, hi, h, c⟩
    · unfold lc at c
      rw [if_neg (by omega), Nat.add_sub_cancel] at c
      have le := lcp_le (ss.getD i []) (ss.getD (i + 1) [])
      have t := (take_pre (ss.getD i []) (ss.getD (i + 1) []) p.length (by omega)).mpr (by omega)
      have e : p = (ss.getD i []).take p.length := by
        have l1 : ((ss.getD i []).take p.length).length = p.length := by rw [List.length_take]; omega
        exact (List.prefix_of_prefix_length_le h t (by omega)).eq_of_length l1.symm
      exact all_in hp i (by omega) (by rw [e]; exact List.take_prefix _ _)
theorem unl_nodup {ss : List (List Nat)} (hs : ∀ i j, i ≤ j → j < ss.length → ¬ ss.getD j [] < ss.getD i []) : ∀ n, n ≤ ss.length → (unl ss n).Nodup
  | 0, _ => by unfold unl; simp
  | n + 1, h => by
    rw [unl_succ, List.nodup_append]
    refine ⟨unl_nodup hs n (by omega), blk_nodup _ _, fun p hp q hq e => ?_⟩
    subst e
    obtain ⟨i, hi, a, _⟩ := mem_unl.mp hp
    obtain ⟨b, c⟩ := mem_blk.mp hq
    have m := btw p _ (ss.getD (n - 1) []) _ a b (hs i (n - 1) (by omega) (by omega)) (hs (n - 1) n (by omega) (by omega))
    unfold lc at c
    rw [if_neg (by omega)] at c
    have e := List.prefix_iff_eq_take.mp m
    have := (take_pre (ss.getD (n - 1) []) (ss.getD n []) p.length m.length_le).mp (by rw [← e]; exact b)
    omega
end W18
namespace S20
open PySem L2 W7
section
variable {P : Program} {w : World} {K : PySem.W.Frag} {mg : Str → Option Value} {base : Heap} {k : Nat}
theorem lt_asymm' : ∀ x y : List Nat, ¬ y < x → ¬ x < y → x = y := fun x y h1 h2 => List.le_antisymm (List.not_lt.mp h1) (List.not_lt.mp h2)
theorem rising_pair : ∀ (l : List Str) (p : Str), PyProof.Rows.risingS p l = true → (p :: l).Pairwise (fun a b => ¬ b.cps.toList < a.cps.toList)
  | [], p, _ => List.pairwise_singleton _ _
  | x :: r, p, h => by
    have h' : (!PySem.Spec.ltCps x.cps.toList p.cps.toList && PyProof.Rows.risingS x r) = true := h
    obtain ⟨h1, h2⟩ := (Bool.and_eq_true _ _).mp h'
    have ih := rising_pair r x h2
    have px : ¬ x.cps.toList < p.cps.toList := by
      rw [PyProof.Rows.ltCps_eq] at h1
      simpa using h1
    refine List.pairwise_cons.mpr ⟨fun y hy => ?_, ih⟩
    rcases List.mem_cons.mp hy with rfl | hy
    · exact px
    · have xy := List.rel_of_pairwise_cons ih hy
      exact List.not_lt.mpr (List.le_trans (List.not_lt.mp px) (List.not_lt.mp xy))
theorem sorted_pair : ∀ ss : List Str, PyProof.Rows.sortedS ss = true → ss.Pairwise (fun a b => ¬ b.cps.toList < a.cps.toList)
  | [], _ => List.Pairwise.nil
  | x :: r, h => rising_pair r x h
theorem sorted_one {a b : List Str} (h1 : PyProof.Rows.sortedS a = true) (h2 : PyProof.Rows.sortedS b = true) (p : a.Perm b) : a = b :=
  p.eq_of_pairwise (fun x y _ _ l1 l2 => by
    have := lt_asymm' x.cps.toList y.cps.toList l1 l2
    exact str_ext this) (sorted_pair a h1) (sorted_pair b h2)
def wordsS (ups : List Int) (lab : Str) : List Str := (List.range ups.length).map fun j => mk (W ups lab.cps.toList j)
theorem wordsV_eq (ups : List Int) (lab : Str) : wordsV ups lab ups.length = (wordsS ups lab).map V.str := by
  unfold wordsV wordsS
  rw [List.map_map]; rfl
theorem wordsS_len (ups : List Int) (lab : Str) : (wordsS ups lab).length = ups.length := by simp [wordsS]
theorem wordsS_le {ups : List Int} {lab : Str} (ok : TreeOk ups lab.cps.toList) : ∀ z ∈ wordsS ups lab, z.length ≤ 60 := by
  intro z hz
  obtain ⟨j, hj, rfl⟩ := List.mem_map.mp hz
  have hj' := List.mem_range.mp hj
  have := W_len ok (j + 1) j (by omega) hj'
  have := ok.most
  rw [mk_len]; omega
theorem cps_len (z : Str) : z.cps.toList.length = z.length := by simp [Str.length]
def sp_alike : Sp := fun vs H Q _ => ∃ one other : Str, vs = [.str one, .str other] ∧ one.length ≤ 60 ∧ other.length ≤ 60 ∧ Q (.int ((W16.lcp one.cps.toList other.cps.toList : Nat) : Int)) H
theorem has_alike (D : Df K mg "many_alike" s_many_alike) (B : Blt7 mg) : Has P w K mg base "many_alike" (k + 1) ["one", "other"] sp_alike := by
  refine D.has sc_many_alike (fun _ _ _ _ _ _ us hl => match us, hl with | [_, _], _ => rfl) (fun vs H Q E h => by obtain ⟨one, other, rfl, _⟩ := h; rfl) (fun f cdv A outer s H vs Q E hr h => ?_)
  obtain ⟨one, other, rfl, l1, l2, q⟩ := h
  refine ⟨_, (pss_cons (ps_set (i := 2) sc_many_alike.nd rfl (by first | exact Or.inl rfl | exact Or.inr rfl) pe_int)
  (pss_cons (ps_while PassesOwn.never (PW.pt (pw_and (pt_cmpR op_lt (pv 2) (pe_callB (call_min2 rfl) rfl B.min bt_min (pa_cons (pe_callB call_len_str rfl B.len bt_len (pa_cons (pv 0) pa_nil)) (pa_cons (pe_callB call_len_str rfl B.len bt_len (pa_cons (pv 1) pa_nil)) pa_nil))) (nomark _)) (pw_and1 (pt_cmpR op_eq (pe_ix ix_str (pv 0) (pv 2) (fun _ _ => rfl)) (pe_ix ix_str (pv 1) (pv 2) (fun _ _ => rfl)) (nomark _)))))
  (pss_one (ps_aug (i := 2) sc_many_alike.nd rfl (by first | exact Or.inl rfl | exact Or.inr rfl) pe_int ip_add)))
  (pss_one (ps_ret (pv 2))))), ?_⟩
  have z1 : one.length ≤ sizeLine := Nat.le_of_lt (small1000 (by omega))
  have z2 : other.length ≤ sizeLine := Nat.le_of_lt (small1000 (by omega))
  have c1 := cps_len one
  have c2 := cps_len other
  refine ⟨fun m σ H' => H' = H ∧ ∃ n : Nat, σ = [some (.str one), some (.str other), some (.int n)] ∧ m = 60 - n ∧ n ≤ one.length ∧ n ≤ other.length ∧ ∀ j, j < n → one.cps.toList[j]? = other.cps.toList[j]?, ⟨_, rfl, 0, rfl, rfl, Nat.zero_le _, Nat.zero_le _, fun j hj => absurd hj (Nat.not_lt_zero _)⟩, ?_⟩
  rintro m σ H' ⟨rfl, n, rfl, rfl, n1, n2, ne⟩
  refine ⟨_, rfl, _, rfl, _, rfl, z1, _, rfl, _, rfl, z2, _, _, rfl, _, _, rfl, rfl, _, rfl, ite2 (fun c => ?_) (fun c => ?_)⟩
  · have c' := of_decide_eq_true c
    have lt1 : n < one.length := by split at c' <;> omega
    have lt2 : n < other.length := by split at c' <;> omega
    have g1 : one.cps.toList[n]? = some (one.cps.toList[n]'(by omega)) := List.getElem?_eq_getElem _
    have g2 : other.cps.toList[n]? = some (other.cps.toList[n]'(by omega)) := List.getElem?_eq_getElem _
    refine ⟨_, rfl, _, rfl, _, _, _, rfl, rfl, z1, atI_nat g1, _, rfl, _, rfl, _, _, _, rfl, rfl, z2, atI_nat g2, rfl, _, rfl, ?_⟩
    by_cases hc : V.str ⟨#[one.cps.toList[n]'(by omega)]⟩ = V.str ⟨#[other.cps.toList[n]'(by omega)]⟩
    · rw [decide_eq_true hc]
      refine iteT ?_
      refine ⟨_, fun σ' H3 h => h, ?_⟩
      refine ⟨_, rfl, _, _, rfl, rfl, ?_⟩
      have e : one.cps.toList[n]'(by omega) = other.cps.toList[n]'(by omega) := by
        injection hc with hc; injection hc with hc; injection hc with hc; injection hc
      refine ⟨60 - (n + 1), by omega, rfl, n + 1, rfl, rfl, by omega, by omega, fun j hj => ?_⟩
      rcases Nat.lt_or_ge j n with h | h
      · exact ne j h
      · have : j = n := by omega
        subst this
        rw [g1, g2, e]
    · rw [decide_eq_false hc]
      refine iteF ?_
      have e : W16.lcp one.cps.toList other.cps.toList = n := W16.lcp_stop _ _ n (by omega) (by omega) ne (fun _ _ he => hc (by rw [g1, g2] at he; rw [Option.some.inj he]))
      rw [e] at q
      exact ⟨_, rfl, q⟩
  · have c' := of_decide_eq_false (Bool.eq_false_iff.mpr c)
    have e : W16.lcp one.cps.toList other.cps.toList = n := W16.lcp_stop _ _ n (by omega) (by omega) ne (fun h1 h2 => by split at c' <;> omega)
    rw [e] at q
    exact ⟨_, rfl, q⟩
def alk (ss : List Str) (i : Nat) : Int := if i = 0 then 0 else ((W16.lcp (ss.getD (i - 1) Str.empty).cps.toList (ss.getD i Str.empty).cps.toList : Nat) : Int)
def als (ss : List Str) (n : Nat) : List Int := (List.range n).map (alk ss)
theorem als_len (ss : List Str) (n : Nat) : ((als ss n).map V.int).length = n := by simp [als]
theorem strs_at {ss : List Str} {i : Nat} (h : i < ss.length) : atI (ss.map V.str) (i : Int) = some (.str (ss.getD i Str.empty)) := atI_nat (by rw [List.getElem?_map, List.getElem?_eq_getElem h, List.getD_eq_getElem?_getD, List.getElem?_eq_getElem h]; rfl)
def sp_alikes : Sp := fun vs H Q _ => ∃ (t : Addr) (ups : List Int) (lab : Str), vs = [.ref t] ∧ TreeAt H t ups lab ∧
  ∀ (ss : List Str) (r : Addr) (H' : Hp), ss.Perm (wordsS ups lab) → PyProof.Rows.sortedS ss = true → Same H H' → H r = none → H' r = some (.lst ((als ss ss.length).map V.int)) → Q (.ref r) H'
theorem has_alikes (D : Df K mg "alike_of" s_alike_of) (B : Blt7 mg) (G_words_of : Has P w K mg base "words_of" k ["tree"] sp_words) (G_many_alike : Has P w K mg base "many_alike" k ["one", "other"] sp_alike) : Has P w K mg base "alike_of" (k + 1) ["tree"] sp_alikes := by
  refine D.has sc_alike_of (fun _ _ _ _ _ _ us hl => match us, hl with | [_], _ => rfl) (fun vs H Q E h => by obtain ⟨t, ups, lab, rfl, _⟩ := h; rfl) (fun f cdv A outer s H vs Q E hr h => ?_)
  obtain ⟨t, ups, lab, rfl, tr, q⟩ := h
  refine ⟨_, (pss_cons (ps_set (i := 1) sc_alike_of.nd rfl (by first | exact Or.inl rfl | exact Or.inr rfl) (pe_callB call_sorted_strs rfl B.sorted bt_sorted (pa_cons (pe_callH G_words_of hr rfl (pa_cons (pv 0) pa_nil)) pa_nil)))
  (pss_one (ps_ret (pe_op op_cat (pe_lst (pa_cons pe_int pa_nil)) (pe_comp rfl (pi_range2 rfl B.range (pa_cons pe_int (pa_cons (pe_callB call_len_seq rfl B.len bt_len (pa_cons (pv 1) pa_nil)) pa_nil))) (NL := ["rank"]) (ix := [1]) (csc (defScope s_alike_of) N_alike_of) (fun cl C s₃ H₃ fp pins => ⟨(pg_name (i := 0) (show List.Nodup (["rank", "words"] : List Str) from by decide +kernel) rfl (by first | exact Or.inl rfl | exact Or.inr rfl)), pifs_nil, (pe_callH G_many_alike hr rfl (pa_cons (pe_ix (ix_listK K) (pv 1) (pe_op op_sub (pv 0) pe_int) (fun _ _ => rfl)) (pa_cons (pe_ix (ix_listK K) (pv 1) (pv 0) (fun _ _ => rfl)) pa_nil)))⟩)))))), ?_⟩
  obtain ⟨_, _, _, ok⟩ := id tr
  have m60 := ok.most
  have lpos := ok.pos
  have wl := wordsS_len ups lab
  have wle := wordsS_le ok
  refine ⟨_, rfl, t, ups, lab, rfl, tr, fun r H1 s1 hr1 => ?_⟩
  rw [wordsV_eq] at hr1
  refine ⟨r, _, rfl, SqL.of hr1, by omega, fun ss r2 hp hs hr2 => ?_⟩
  have sl := hp.length_eq
  have s2 : Same H (upd H1 r2 (.lst (ss.map V.str))) := s1.new hr2
  have h22 : upd H1 r2 (.lst (ss.map V.str)) r2 = some (.lst (ss.map V.str)) := upd_same
  generalize upd H1 r2 (.lst (ss.map V.str)) = H2 at s2 h22
  have sle : ∀ i, (ss.getD i Str.empty).length ≤ 60 := fun i => by
    rw [List.getD_eq_getElem?_getD]
    cases e : ss[i]? with
    | none => show Str.empty.length ≤ 60; decide
    | some z => exact wle z (hp.mem_iff.mp (List.mem_of_getElem? e))
  refine ⟨(by show 1 ≤ sizeLine; decide), fun r3 hr3 => ?_⟩
  have s3 : Same H2 (upd H2 r3 (.lst [.int 0])) := (Same.refl H2).new hr3
  have h33 : upd H2 r3 (.lst [.int 0]) r3 = some (.lst [.int 0]) := upd_same
  generalize upd H2 r3 (.lst [.int 0]) = H3 at s3 h33
  refine ⟨_, rfl, r2, _, rfl, .inl (SqL.of (s3 _ _ h22)), _, _, rfl, ?_, fun acc hacc => ?_⟩
  · rw [List.length_map]; omega
  have eN : ((((ss.map V.str).length : Nat) : Int) - 1).toNat = ss.length - 1 := by rw [List.length_map]; omega
  refine comp_by ((((ss.map V.str).length : Nat) : Int) - 1).toNat (by omega) (fun i ys H' => H' acc = some (.lst ys) ∧ ys = ((List.range i).map fun j => alk ss (j + 1)).map V.int ∧ Same H3 H')
    (fun i ys H' h => ⟨h.1, by rw [h.2.1, List.length_map, List.length_map, List.length_range]; exact Nat.le_refl _⟩) ⟨upd_same, rfl, (Same.refl H3).new hacc⟩ ?_ ?_
  · rintro ys H4 ⟨g1, rfl, g3⟩
    refine ⟨Nat.le_refl _, ?_⟩
    rw [eN] at g1
    refine ⟨r3, acc, _, _, rfl, rfl, g3 _ _ h33, g1, ?_, fun r4 hr4 => ?_⟩
    · rw [List.length_map, List.length_map, List.length_range]
      show 1 + _ ≤ sizeLine
      exact Nat.le_of_lt (small1000 (by omega))
    refine q ss r4 _ hp hs (((s2.trans s3).trans g3).new hr4) (((s2.trans s3).trans g3).free hr4) ?_
    rw [upd_same]
    have e : als ss ss.length = 0 :: ((List.range (ss.length - 1)).map fun j => alk ss (j + 1)) := by
      obtain ⟨m, em⟩ : ∃ m, ss.length = m + 1 := ⟨ss.length - 1, by omega⟩
      unfold als
      rw [em, List.range_succ_eq_map, List.map_cons, List.map_map]
      rfl
    rw [e]; rfl
  · rintro i ys H4 hi ⟨g1, rfl, g3⟩
    rw [eN] at hi
    refine ⟨by rw [eN]; exact hi, ?_⟩
    rintro x H5 ⟨rfl, rfl⟩
    refine ⟨rfl, ?_⟩
    have a1 : atI (ss.map V.str) (1 + (i : Int) - 1) = some (.str (ss.getD i Str.empty)) := by rw [show 1 + (i : Int) - 1 = (i : Int) by omega]; exact strs_at (by omega)
    have a2 : atI (ss.map V.str) (1 + (i : Int)) = some (.str (ss.getD (i + 1) Str.empty)) := by rw [show 1 + (i : Int) = ((i + 1 : Nat) : Int) by omega]; exact strs_at (by omega)
    have hl2 := g3 _ _ (s3 _ _ h22)
    refine ⟨_, rfl, _, rfl, _, _, rfl, rfl, r2, _, _, _, rfl, rfl, SqL.of hl2, a1, _, rfl, _, rfl, r2, _, _, _, rfl, rfl, SqL.of hl2, a2, _, _, rfl, sle i, sle (i + 1), g1, upd_same, ?_, g3.write hacc⟩
    rw [List.range_succ, List.map_append, List.map_append]; rfl
def cs (ss : List Str) : List (List Nat) := ss.map fun z => z.cps.toList
theorem cs_getD (ss : List Str) (i : Nat) : (cs ss).getD i [] = (ss.getD i Str.empty).cps.toList := by
  unfold cs
  rw [List.getD_eq_getElem?_getD, List.getD_eq_getElem?_getD, List.getElem?_map]
  cases ss[i]? <;> rfl
theorem alk_lc (ss : List Str) (i : Nat) : alk ss i = ((W18.lc (cs ss) i : Nat) : Int) := by
  unfold alk W18.lc
  by_cases h : i = 0
  · rw [if_pos h, if_pos h]; rfl
  · rw [if_neg h, if_neg h, cs_getD, cs_getD]
def unlS (ss : List Str) (n : Nat) : List Str := (W18.unl (cs ss) n).map mk
theorem unl_len {ss : List Str} (h : ∀ i, (ss.getD i Str.empty).length ≤ 60) : ∀ n, (unlS ss n).length ≤ 60 * n
  | 0 => Nat.le_refl _
  | n + 1 => by
    have ih := unl_len h n
    unfold unlS at ih ⊢
    rw [W18.unl_succ, List.map_append, List.length_append]
    have : ((W18.blk ((cs ss).getD n []) (W18.lc (cs ss) n)).map mk).length ≤ 60 := by
      rw [List.length_map]; unfold W18.blk; rw [List.length_map, List.length_range, cs_getD, cps_len]
      have := h n
      omega
    omega
def sp_unlike : Sp := fun vs H Q _ => ∃ (t : Addr) (ups : List Int) (lab : Str), vs = [.ref t] ∧ TreeAt H t ups lab ∧
  ∀ (ss : List Str) (r : Addr) (H' : Hp), ss.Perm (wordsS ups lab) → PyProof.Rows.sortedS ss = true → Same H H' → H r = none → H' r = some (.lst ((unlS ss ss.length).map V.str)) → Q (.ref r) H'
theorem has_unlike (D : Df K mg "unlike_words" s_unlike_words) (B : Blt7 mg) (G_words_of : Has P w K mg base "words_of" k ["tree"] sp_words) (G_alike_of : Has P w K mg base "alike_of" k ["tree"] sp_alikes) : Has P w K mg base "unlike_words" (k + 1) ["tree"] sp_unlike := by
  refine D.has sc_unlike_words (fun _ _ _ _ _ _ us hl => match us, hl with | [_], _ => rfl) (fun vs H Q E h => by obtain ⟨t, ups, lab, rfl, _⟩ := h; rfl) (fun f cdv A outer s H vs Q E hr h => ?_)
  obtain ⟨t, ups, lab, rfl, tr, q⟩ := h
  refine ⟨_, (pss_cons (ps_set (i := 1) sc_unlike_words.nd rfl (by first | exact Or.inl rfl | exact Or.inr rfl) (pe_lst pa_nil))
  (pss_cons (ps_for PassesOwn.never rfl (pi_zip rfl B.zip (pa_cons (pe_callB call_sorted_strs rfl B.sorted bt_sorted (pa_cons (pe_callH G_words_of hr rfl (pa_cons (pv 0) pa_nil)) pa_nil)) (pa_cons (pe_callH G_alike_of hr rfl (pa_cons (pv 0) pa_nil)) pa_nil))) (pg_tup rfl (pgs_cons (pg_name (i := 2) sc_unlike_words.nd rfl (by first | exact Or.inl rfl | exact Or.inr rfl)) (pgs_cons (pg_name (i := 3) sc_unlike_words.nd rfl (by first | exact Or.inl rfl | exact Or.inr rfl)) pgs_nil)))
  (pss_one (ps_expr (pe_bm PySem.F.plainAttrs_list PySem.F.slot_list_extend PySem.F.type_list_extend mt_extend (pv 1) (pa_cons (pe_comp rfl (pi_range2 rfl B.range (pa_cons (pe_op op_add (pv 3) pe_int) (pa_cons (pe_op op_add (pe_callB call_len_str rfl B.len bt_len (pa_cons (pv 2) pa_nil)) pe_int) pa_nil))) (NL := ["length"]) (ix := [2]) (csc (defScope s_unlike_words) N_unlike_words) (fun cl C s₃ H₃ fp pins => ⟨(pg_name (i := 0) (show List.Nodup (["length", "word"] : List Str) from by decide +kernel) rfl (by first | exact Or.inl rfl | exact Or.inr rfl)), pifs_nil, (pe_slice sl_str (pv 1) po_none (po_some (pv 0)))⟩)) pa_nil)))))
  (pss_one (ps_ret (pv 1))))), ?_⟩
  obtain ⟨_, _, _, ok⟩ := id tr
  have m60 := ok.most
  have lpos := ok.pos
  have wl := wordsS_len ups lab
  have wle := wordsS_le ok
  refine ⟨(by show 0 ≤ sizeLine; decide), fun r hr0 => ?_⟩
  have s0 : Same H (upd H r (.lst [])) := (Same.refl H).new hr0
  have h0 : upd H r (.lst []) r = some (.lst []) := upd_same
  generalize upd H r (.lst []) = H0 at s0 h0
  refine ⟨_, rfl, t, ups, lab, rfl, tr.same s0, fun r1 H1 s1 hr1 => ?_⟩
  rw [wordsV_eq] at hr1
  refine ⟨r1, _, rfl, SqL.of hr1, by omega, fun ss r2 hp hs hr2 => ?_⟩
  have sl := hp.length_eq
  have s2 : Same H1 (upd H1 r2 (.lst (ss.map V.str))) := (Same.refl H1).new hr2
  have h2 : upd H1 r2 (.lst (ss.map V.str)) r2 = some (.lst (ss.map V.str)) := upd_same
  generalize upd H1 r2 (.lst (ss.map V.str)) = H2 at s2 h2
  refine ⟨_, rfl, t, ups, lab, rfl, tr.same ((s0.trans s1).trans s2), fun ss' r3 H3 hp' hs' s3 hf3 hr3 => ?_⟩
  have es : ss' = ss := sorted_one hs' hs (hp'.trans hp.symm)
  subst es
  have sle : ∀ i, (ss'.getD i Str.empty).length ≤ 60 := fun i => by
    rw [List.getD_eq_getElem?_getD]
    cases e : ss'[i]? with
    | none => show Str.empty.length ≤ 60; decide
    | some z => exact wle z (hp.mem_iff.mp (List.mem_of_getElem? e))
  have h23 := s3 _ _ h2
  have s03 : Same H0 H3 := (s1.trans s2).trans s3
  refine ⟨.lst r2, .lst r3, rfl, ⟨_, .inl h23⟩, ⟨_, .inl hr3⟩, ?_⟩
  have hlen : (ss'.map V.str).length = ((als ss' ss'.length).map V.int).length := by rw [als_len, List.length_map]
  have n2 : r2 ≠ r := (ne_of_none (s1 _ _ h0) hr2).symm
  have n3 : r3 ≠ r := (ne_of_none (s2 _ _ (s1 _ _ h0)) hf3).symm
  refine for_zip (xs := ss'.map V.str) (ys := (als ss' ss'.length).map V.int) (fun i σ H' => ∃ o2 o3 : Option V, σ = [some (.ref t), some (.ref r), o2, o3] ∧ Same H H' ∧ H' r = some (.lst ((unlS ss' i).map V.str)) ∧ H' r2 = some (.lst (ss'.map V.str)) ∧ H' r3 = some (.lst ((als ss' ss'.length).map V.int)))
    ⟨none, none, rfl, s0.trans s03, s03 _ _ h0, h23, hr3⟩ hlen (fun i σ H' hi h => by obtain ⟨o2, o3, _, _, _, a, b⟩ := h; exact ⟨.inl a, .inl b⟩) ?_ ?_
  · rintro i x y σ H' p hx hy ⟨o2, o3, rfl, sX, g1, g2, g3⟩ hp0
    have hi : i < ss'.length := by
      have := (List.getElem?_eq_some_iff.mp hx).1
      rw [List.length_map] at this; exact this
    obtain rfl : x = .str (ss'.getD i Str.empty) := by
      rw [List.getElem?_map, List.getElem?_eq_getElem hi] at hx
      rw [List.getD_eq_getElem?_getD, List.getElem?_eq_getElem hi]
      exact (Option.some.inj hx).symm
    obtain rfl : y = .int (alk ss' i) := by
      unfold als at hy
      rw [List.getElem?_map, List.getElem?_map, List.getElem?_range hi] at hy
      exact (Option.some.inj hy).symm
    have za := sle i
    have hstep : unlS ss' (i + 1) = unlS ss' i ++ (W18.blk (ss'.getD i Str.empty).cps.toList (W18.lc (cs ss') i)).map mk := by
      unfold unlS; rw [W18.unl_succ, List.map_append, cs_getD]
    have ul := unl_len sle i
    rw [alk_lc]
    have ab : W18.lc (cs ss') i ≤ 60 := by
      unfold W18.lc
      split
      · exact Nat.zero_le _
      · have := (W16.lcp_le ((cs ss').getD (i - 1) []) ((cs ss').getD i [])).2
        have e2 := congrArg List.length (cs_getD ss' i)
        rw [cps_len] at e2
        omega
    generalize W18.lc (cs ss') i = a at hstep ab
    generalize ss'.getD i Str.empty = z at za hstep
    have cz := cps_len z
    have z1 : z.length ≤ sizeLine := Nat.le_of_lt (small1000 (by omega))
    refine ⟨p, _, rfl, SqT.of upd_same, rfl, _, _, rfl, _, _, rfl, rfl, ?_⟩
    have sP : Same H' (upd H' p (.tup [.str z, .int (a : Int)])) := (Same.refl H').new hp0
    generalize upd H' p (.tup [.str z, .int (a : Int)]) = HP at sP
    have g1P := sP _ _ g1
    refine ⟨_, rfl, .inl ⟨rfl, _, SqL.of g1P⟩, _, rfl, _, _, rfl, rfl, _, rfl, z, rfl, z1, _, _, rfl, rfl, _, _, rfl, ⟨by omega, by omega, by omega, by omega⟩, fun acc hacc => ?_⟩
    have eN : ((z.length : Int) + 1 - ((a : Int) + 1)).toNat = z.cps.toList.length - a := by rw [cz]; omega
    refine comp_by ((z.length : Int) + 1 - ((a : Int) + 1)).toNat (by rw [eN]; omega) (fun j ys HX => HX acc = some (.lst ys) ∧ ys = ((List.range j).map fun n => mk (z.cps.toList.take (a + 1 + n))).map V.str ∧ Same HP HX)
      (fun j ys HX h => ⟨h.1, by rw [h.2.1, List.length_map, List.length_map, List.length_range]; exact Nat.le_refl _⟩) ⟨upd_same, rfl, (Same.refl HP).new hacc⟩ ?_ ?_
    · rintro ys HX ⟨e1, rfl, e3⟩
      refine ⟨Nat.le_refl _, ?_⟩
      rw [eN] at e1
      have eb : (List.range (z.cps.toList.length - a)).map (fun n => mk (z.cps.toList.take (a + 1 + n))) = (W18.blk z.cps.toList a).map mk := by
        unfold W18.blk; rw [List.map_map]; rfl
      rw [eb] at e1
      refine ⟨r, acc, _, _, rfl, rfl, e3 _ _ g1P, e1, ?_, ?_⟩
      · rw [List.length_map, List.length_map, List.length_map]
        have : (W18.blk z.cps.toList a).length ≤ 60 := by unfold W18.blk; rw [List.length_map, List.length_range]; omega
        exact Nat.le_of_lt (small10000 (by omega))
      · have sA := sX.trans (sP.trans e3)
        refine ⟨_, _, rfl, sA.write hr0, ?_, ?_, ?_⟩
        · rw [upd_same, hstep, List.map_append]
        · rw [upd_ne n2]; exact e3 _ _ (sP _ _ g2)
        · rw [upd_ne n3]; exact e3 _ _ (sP _ _ g3)
    · rintro j ys HX hj ⟨e1, rfl, e3⟩
      refine ⟨hj, ?_⟩
      rintro x HY ⟨rfl, rfl⟩
      refine ⟨rfl, ?_⟩
      have ce : cutS z none (some ((a : Int) + 1 + (j : Int))) = mk (z.cps.toList.take (a + 1 + j)) := by
        apply str_ext
        rw [show (a : Int) + 1 + (j : Int) = ((a + 1 + j : Nat) : Int) by omega, cutS_to]; rfl
      refine ⟨_, rfl, _, rfl, _, rfl, z, rfl, z1, e1, upd_same, ?_, e3.write hacc⟩
      rw [List.range_succ, List.map_append, List.map_append, ce]; rfl
  · rintro σ H' ⟨o2, o3, rfl, sX, g1, g2, g3⟩
    rw [List.length_map] at g1
    exact ⟨_, rfl, q ss' r H' hp hs sX hr0 g1⟩
end
end S20
namespace S20
open PySem L2 W7
section
variable {P : Program} {w : World} {K : PySem.W.Frag} {mg : Str → Option Value} {base : Heap} {k : Nat}
structure Kp (kvs : List (Key × V)) (S : Str → Prop) : Prop where
  nd : (kvs.map (·.1)).Nodup
  is : ∀ k ∈ kvs.map (·.1), ∃ z, k = Sum.inr z ∧ S z
  all : ∀ z, S z → Sum.inr z ∈ kvs.map (·.1)
theorem putK_in {kvs : List (Key × V)} {k : Key} (v : V) (h : k ∈ kvs.map (·.1)) : (putK kvs k v).map (·.1) = kvs.map (·.1) := by
  have a : (kvs.any fun kv => decide (kv.1 = k)) = true := by
    obtain ⟨p, hp, e⟩ := List.mem_map.mp h
    exact List.any_eq_true.mpr ⟨p, hp, decide_eq_true e⟩
  unfold putK
  rw [if_pos a, List.map_map]
  refine List.map_congr_left fun p _ => ?_
  show (if p.1 = k then (p.1, v) else p).1 = p.1
  split <;> rfl
theorem putK_out {kvs : List (Key × V)} {k : Key} (v : V) (h : ¬ k ∈ kvs.map (·.1)) : (putK kvs k v).map (·.1) = kvs.map (·.1) ++ [k] := by
  have a : ¬ (kvs.any fun kv => decide (kv.1 = k)) = true := fun a => by
    obtain ⟨p, hp, e⟩ := List.any_eq_true.mp a
    exact h (List.mem_map.mpr ⟨p, hp, of_decide_eq_true e⟩)
  unfold putK
  rw [if_neg a, List.map_append]; rfl
theorem Kp.put {kvs : List (Key × V)} {S S' : Str → Prop} (h : Kp kvs S) (z : Str) (v : V) (e : ∀ y, S' y ↔ S y ∨ y = z) : Kp (putK kvs (.inr z) v) S' := by
  by_cases c : (Sum.inr z : Key) ∈ kvs.map (·.1)
  · refine ⟨?_, ?_, ?_⟩
    · rw [putK_in v c]; exact h.nd
    · rw [putK_in v c]
      intro k hk
      obtain ⟨y, e1, e2⟩ := h.is k hk
      exact ⟨y, e1, (e y).mpr (.inl e2)⟩
    · rw [putK_in v c]
      intro y hy
      rcases (e y).mp hy with hy | hy
      · exact h.all y hy
      · subst hy; exact c
  · refine ⟨?_, ?_, ?_⟩
    · rw [putK_out v c, List.nodup_append]
      exact ⟨h.nd, by simp, fun a ha b hb e => c (by rw [← List.mem_singleton.mp hb, ← e]; exact ha)⟩
    · rw [putK_out v c]
      intro k hk
      rcases List.mem_append.mp hk with hk | hk
      · obtain ⟨y, e1, e2⟩ := h.is k hk
        exact ⟨y, e1, (e y).mpr (.inl e2)⟩
      · exact ⟨z, List.mem_singleton.mp hk, (e z).mpr (.inr rfl)⟩
    · rw [putK_out v c]
      intro y hy
      rcases (e y).mp hy with hy | hy
      · exact List.mem_append_left _ (h.all y hy)
      · subst hy; exact List.mem_append_right _ (List.mem_singleton.mpr rfl)
theorem Kp.congr {kvs : List (Key × V)} {S S' : Str → Prop} (h : Kp kvs S) (e : ∀ y, S' y ↔ S y) : Kp kvs S' :=
  ⟨h.nd, fun k hk => let ⟨z, a, b⟩ := h.is k hk; ⟨z, a, (e z).mpr b⟩, fun z hz => h.all z ((e z).mp hz)⟩
def Lx (H : Hp) (kvs : List (Key × V)) (f : Str → List Int) : Prop := ∀ z v, valV kvs (.inr z) = some v → ∃ l, v = .ref l ∧ H l = some (.lst ((f z).map V.int))
theorem Lx.same {H H' : Hp} {kvs : List (Key × V)} {f : Str → List Int} (h : Lx H kvs f) (s : Same H H') : Lx H' kvs f := fun z v e => by
  obtain ⟨l, a, b⟩ := h z v e
  exact ⟨l, a, s _ _ b⟩
def Ly (H0 H : Hp) (kvs : List (Key × V)) (f : Str → List Int) : Prop := ∀ z v, valV kvs (.inr z) = some v → ∃ l, v = .ref l ∧ H0 l = none ∧ H l = some (.lst ((f z).map V.int))
def plc (ups : List Int) (lab : Str) (n : Nat) (z : Str) : List Int := ((List.range n).filter fun j => z.cps.toList.isPrefixOf (W ups lab.cps.toList j)).map fun j : Nat => (j : Int)
theorem plc_len (ups : List Int) (lab : Str) (n : Nat) (z : Str) : (plc ups lab n z).length ≤ n := by
  unfold plc
  rw [List.length_map]
  have := List.length_filter_le (fun j => z.cps.toList.isPrefixOf (W ups lab.cps.toList j)) (List.range n)
  rw [List.length_range] at this
  exact this
theorem plc_succ (ups : List Int) (lab : Str) (n : Nat) (z : Str) : plc ups lab (n + 1) z = plc ups lab n z ++ (if z.cps.toList <+: W ups lab.cps.toList n then [(n : Int)] else []) := by
  unfold plc
  rw [List.range_succ, List.filter_append, List.map_append]
  congr 1
  rw [List.filter_cons, List.filter_nil]
  by_cases c : z.cps.toList <+: W ups lab.cps.toList n
  · rw [if_pos c, if_pos (List.isPrefixOf_iff_prefix.mpr c)]; rfl
  · rw [if_neg c, if_neg fun k => c (List.isPrefixOf_iff_prefix.mp k)]; rfl
def prefN (ups : List Int) (lab : Str) (i : Nat) (z : Str) : Prop := z.cps.toList ≠ [] ∧ ∃ j, j < i ∧ z.cps.toList <+: W ups lab.cps.toList j
theorem valV_some {kvs : List (Key × V)} {k : Key} (h : k ∈ kvs.map (·.1)) : ∃ v, valV kvs k = some v := by
  have a : (kvs.any fun kv => decide (kv.1 = k)) = true := by
    obtain ⟨p, hp, e⟩ := List.mem_map.mp h
    exact List.any_eq_true.mpr ⟨p, hp, decide_eq_true e⟩
  rw [valV_any] at a
  exact Option.isSome_iff_exists.mp a
theorem valV_mem {kvs : List (Key × V)} {k : Key} {v : V} (h : valV kvs k = some v) : k ∈ kvs.map (·.1) := by
  have a : (kvs.any fun kv => decide (kv.1 = k)) = true := by rw [valV_any, h]; rfl
  obtain ⟨p, hp, e⟩ := List.any_eq_true.mp a
  exact List.mem_map.mpr ⟨p, hp, of_decide_eq_true e⟩
theorem plc_none {ups : List Int} {lab : Str} {n : Nat} {z : Str} (h0 : z.cps.toList ≠ []) (h : ¬ prefN ups lab n z) : plc ups lab n z = [] := by
  unfold plc
  rw [List.map_eq_nil_iff, List.filter_eq_nil_iff]
  intro j hj c
  exact h ⟨h0, j, List.mem_range.mp hj, List.isPrefixOf_iff_prefix.mp c⟩
def sp_reads : Sp := fun vs H Q _ => ∃ (t : Addr) (ups : List Int) (lab : Str), vs = [.ref t] ∧ TreeAt H t ups lab ∧
  ∀ (d : Addr) (kvs : List (Key × V)) (H' : Hp), Same H H' → H d = none → H' d = some (.dK kvs) → Kp kvs (prefN ups lab ups.length) → kvs.length ≤ 3600 → Ly H H' kvs (plc ups lab ups.length) → Q (.ref d) H'
theorem has_reads (D : Df K mg "_law_reads" s_law_reads) (B : Blt7 mg) (G_law_word : Has P w K mg base "_law_word" k ["tree", "place"] sp_lword) : Has P w K mg base "_law_reads" (k + 1) ["tree"] sp_reads := by
  refine D.has sc_law_reads (fun _ _ _ _ _ _ us hl => match us, hl with | [_], _ => rfl) (fun vs H Q E h => by obtain ⟨t, ups, lab, rfl, _⟩ := h; rfl) (fun f cdv A outer s H vs Q E hr h => ?_)
  obtain ⟨t, ups, lab, rfl, tr, q⟩ := h
  refine ⟨_, (pss_cons (ps_set (i := 1) sc_law_reads.nd rfl (by first | exact Or.inl rfl | exact Or.inr rfl) pe_dnewK)
  (pss_cons (ps_for PassesOwn.never rfl (pi_range1 rfl B.range (pa_cons (pe_callB call_len_str rfl B.len bt_len (pa_cons (pe_ix ix_tup (pv 0) pe_int (fun _ _ => rfl)) pa_nil)) pa_nil)) (pg_name (i := 2) sc_law_reads.nd rfl (by first | exact Or.inl rfl | exact Or.inr rfl))
  (pss_cons (ps_set (i := 3) sc_law_reads.nd rfl (by first | exact Or.inl rfl | exact Or.inr rfl) (pe_callH G_law_word hr rfl (pa_cons (pv 0) (pa_cons (pv 2) pa_nil))))
  (pss_one (ps_for PassesOwn.never rfl (pi_range2 rfl B.range (pa_cons pe_int (pa_cons (pe_op op_add (pe_callB call_len_str rfl B.len bt_len (pa_cons (pv 3) pa_nil)) pe_int) pa_nil))) (pg_name (i := 4) sc_law_reads.nd rfl (by first | exact Or.inl rfl | exact Or.inr rfl))
  (pss_one (ps_dput (hu_of hr) (pv 1) (pe_slice sl_str (pv 3) po_none (po_some (pv 4))) (pe_op op_cat (pe_dget2 (hu_of hr) (pv 1) (pe_slice sl_str (pv 3) po_none (po_some (pv 4))) (pe_lst pa_nil) ⟨rfl, rfl, rfl, rfl⟩) (pe_lst (pa_cons (pv 2) pa_nil))) rfl))))))
  (pss_one (ps_ret (pv 1))))), ?_⟩
  obtain ⟨u, ht, hu, ok⟩ := id tr
  have m60 := ok.most
  have lpos := ok.pos
  have hlab : lab.length = ups.length := by rw [ok.len]; simp [Str.length]
  refine fun d hd => ?_
  have s0 : Same H (upd H d (.dK [])) := (Same.refl H).new hd
  have h0 : upd H d (.dK []) d = some (.dK []) := upd_same
  generalize upd H d (.dK []) = H0 at s0 h0
  refine ⟨_, rfl, t, _, _, _, rfl, rfl, SqT.of (s0 _ _ ht), rfl, lab, rfl, by rw [hlab]; exact Nat.le_of_lt (small1000 (by omega)), _, rfl, by omega, by omega, ?_⟩
  refine for_range (lo := 0) (n := ((lab.length : Nat) : Int).toNat) (fun i σ H' => ∃ (o2 o3 o4 : Option V) (kvs : List (Key × V)), σ = [some (.ref t), some (.ref d), o2, o3, o4] ∧ Same H H' ∧ H' d = some (.dK kvs) ∧ Kp kvs (prefN ups lab i) ∧ kvs.length ≤ 60 * i ∧ Ly H H' kvs (plc ups lab i))
    ⟨none, none, none, [], rfl, s0, h0, ⟨by simp, by simp, fun z hz => by obtain ⟨_, j, hj, _⟩ := hz; omega⟩, Nat.le_refl _, fun z v e => by cases e⟩ ?_ ?_
  · rintro i σ H' hi ⟨o2, o3, o4, kvs, rfl, s1, hd1, kp, kl, lv⟩
    have hi' : i < ups.length := by omega
    refine ⟨_, rfl, _, rfl, t, ups, lab, 0 + (i : Int), rfl, tr.same s1, by omega, ?_⟩
    have eR : R ups lab.cps.toList (0 + (i : Int)) = W ups lab.cps.toList i := by
      unfold R
      rw [if_neg (by omega), Int.zero_add, Int.toNat_natCast]
    rw [eR]
    have wlen := W_len ok (i + 1) i (by omega) hi'
    have eP : ∀ z, prefN ups lab (i + 1) z ↔ prefN ups lab i z ∨ (z.cps.toList ≠ [] ∧ z.cps.toList <+: W ups lab.cps.toList i) := fun z => by
      unfold prefN
      constructor
      · rintro ⟨a, j, hj, b⟩
        rcases Nat.lt_or_ge j i with h | h
        · exact .inl ⟨a, j, h, b⟩
        · have : j = i := by omega
          subst this; exact .inr ⟨a, b⟩
      · rintro (⟨a, j, hj, b⟩ | ⟨a, b⟩)
        · exact ⟨a, j, by omega, b⟩
        · exact ⟨a, i, by omega, b⟩
    generalize eW : W ups lab.cps.toList i = wd at wlen eP
    have z1 : (mk wd).length ≤ sizeLine := by rw [mk_len]; exact Nat.le_of_lt (small1000 (by omega))
    refine ⟨_, rfl, mk wd, rfl, z1, _, _, rfl, rfl, _, _, rfl, ⟨by omega, by omega, by rw [mk_len]; omega, by rw [mk_len]; omega⟩, ?_⟩
    have eN : (((mk wd).length : Int) + 1 - 1).toNat = wd.length := by rw [mk_len]; omega
    refine for_range (lo := 1) (n := (((mk wd).length : Int) + 1 - 1).toNat) (fun j σ H' => ∃ (o4 : Option V) (kvs : List (Key × V)), σ = [some (.ref t), some (.ref d), some (.int (0 + (i : Int))), some (.str (mk wd)), o4] ∧ Same H H' ∧ H' d = some (.dK kvs) ∧
        Kp kvs (fun z => prefN ups lab i z ∨ (z.cps.toList ≠ [] ∧ z.cps.toList <+: wd ∧ z.cps.toList.length ≤ j)) ∧ kvs.length ≤ 60 * i + j ∧ Ly H H' kvs (fun z => plc ups lab i z ++ (if z.cps.toList ≠ [] ∧ z.cps.toList <+: wd ∧ z.cps.toList.length ≤ j then [(i : Int)] else [])))
      ⟨_, kvs, rfl, s1, hd1, kp.congr (fun z => ⟨fun h => h.elim id fun ⟨a, _, b⟩ => absurd (List.length_pos_iff.mpr a) (by omega), .inl⟩), kl, fun z v e => by
        dsimp only
        rw [if_neg (fun ⟨a, _, b⟩ => absurd (List.length_pos_iff.mpr a) (by omega)), List.append_nil]
        exact lv z v e⟩ ?_ ?_
    · rintro j σ H2 hj ⟨o4', kvs2, rfl, s2, hd2, kp2, kl2, lv2⟩
      rw [eN] at hj
      have ce : cutS (mk wd) none (some (1 + (j : Int))) = mk (wd.take (j + 1)) := by
        apply str_ext
        rw [show 1 + (j : Int) = ((j + 1 : Nat) : Int) by omega, cutS_to]; rfl
      refine ⟨_, rfl, d, rfl, .inl ⟨kvs2, .inl hd2⟩, _, rfl, _, rfl, _, rfl, mk wd, rfl, z1, (by show 0 ≤ sizeLine; decide), fun e he => ?_⟩
      rw [ce]
      have s3 : Same H2 (upd H2 e (.lst [])) := (Same.refl H2).new he
      have h3 : upd H2 e (.lst []) e = some (.lst []) := upd_same
      generalize upd H2 e (.lst []) = H3 at s3 h3
      refine ⟨_, DGet.k (k := Sum.inr (mk (wd.take (j + 1)))) (s3 _ _ hd2), ?_⟩
      have zne : (mk (wd.take (j + 1))).cps.toList ≠ [] := fun z => by
        rw [mk_cps] at z
        have := congrArg List.length z
        rw [List.length_take, List.length_nil] at this
        omega
      have zlen : (mk (wd.take (j + 1))).cps.toList.length = j + 1 := by rw [mk_cps, List.length_take]; omega
      have pl60 := plc_len ups lab i (mk (wd.take (j + 1)))
      obtain ⟨l, el, hl⟩ : ∃ l, (valV kvs2 (Sum.inr (mk (wd.take (j + 1))))).getD (.ref e) = .ref l ∧ H3 l = some (.lst ((plc ups lab i (mk (wd.take (j + 1)))).map V.int)) := by
        cases c : valV kvs2 (Sum.inr (mk (wd.take (j + 1)))) with
        | none =>
          have np : ¬ prefN ups lab i (mk (wd.take (j + 1))) := fun hpn => by
            have := kp2.all _ (.inl hpn)
            obtain ⟨v, hv⟩ := valV_some this
            rw [c] at hv; cases hv
          exact ⟨e, rfl, by rw [plc_none zne np]; exact h3⟩
        | some v =>
          obtain ⟨l, rfl, _, a⟩ := lv2 _ _ c
          dsimp only at a
          rw [if_neg (fun ⟨_, _, b⟩ => by omega), List.append_nil] at a
          exact ⟨l, rfl, s3 _ _ a⟩
      rw [el]
      refine ⟨_, rfl, (by show 1 ≤ sizeLine; decide), fun e2 he2 => ?_⟩
      have s4 : Same H3 (upd H3 e2 (.lst [.int (0 + (i : Int))])) := (Same.refl H3).new he2
      have h4 : upd H3 e2 (.lst [.int (0 + (i : Int))]) e2 = some (.lst [.int (0 + (i : Int))]) := upd_same
      generalize upd H3 e2 (.lst [.int (0 + (i : Int))]) = H4 at s4 h4
      refine ⟨l, e2, _, _, rfl, rfl, s4 _ _ hl, h4, Nat.le_of_lt (small10000 (by rw [List.length_map]; show _ + 1 < 10000; omega)), fun r hr5 => ?_⟩
      have el2 : (plc ups lab i (mk (wd.take (j + 1)))).map V.int ++ [V.int (0 + (i : Int))] = (plc ups lab i (mk (wd.take (j + 1))) ++ [(i : Int)]).map V.int := by rw [List.map_append, Int.zero_add]; rfl
      rw [el2]
      have s5 : Same H4 (upd H4 r (.lst ((plc ups lab i (mk (wd.take (j + 1))) ++ [(i : Int)]).map V.int))) := (Same.refl H4).new hr5
      have h5 : upd H4 r (.lst ((plc ups lab i (mk (wd.take (j + 1))) ++ [(i : Int)]).map V.int)) r = some (.lst ((plc ups lab i (mk (wd.take (j + 1))) ++ [(i : Int)]).map V.int)) := upd_same
      generalize upd H4 r (.lst ((plc ups lab i (mk (wd.take (j + 1))) ++ [(i : Int)]).map V.int)) = H5 at s5 h5
      have s25 : Same H2 H5 := (s3.trans s4).trans s5
      have hd5 := s25 _ _ hd2
      have rd : r ≠ d := ne_of h5 hd5 (by intro z; cases z)
      refine ⟨_, rfl, _, rfl, _, rfl, _, rfl, mk wd, rfl, z1, ?_⟩
      rw [ce]
      refine ⟨d, _, rfl, DPut.k (k := Sum.inr (mk (wd.take (j + 1)))) hd5 (small10000 (by omega)), ?_⟩
      refine ⟨_, _, rfl, (s2.trans s25).write hd, upd_same, kp2.put _ _ (fun y => ?_), ?_, ?_⟩
      · constructor
        · rintro (h | ⟨a, b, c⟩)
          · exact .inl (.inl h)
          · rcases Nat.lt_or_ge j y.cps.toList.length with g | g
            · right
              apply str_ext
              rw [mk_cps]
              exact (List.prefix_iff_eq_take.mp b).trans (by rw [show y.cps.toList.length = j + 1 by omega])
            · exact .inl (.inr ⟨a, b, g⟩)
        · rintro ((h | ⟨a, b, c⟩) | h)
          · exact .inl h
          · exact .inr ⟨a, b, by omega⟩
          · subst h
            refine .inr ⟨?_, List.take_prefix _ _, ?_⟩
            · rw [mk_cps]
              intro z
              have := congrArg List.length z
              rw [List.length_take, List.length_nil] at this
              omega
            · rw [mk_cps, List.length_take]; omega
      · have := length_putK kvs2 (Sum.inr (mk (wd.take (j + 1)))) (.ref r); omega
      · intro k' v' e'
        rw [valV_put] at e'
        split at e'
        · rename_i ek
          cases e'
          cases ek
          refine ⟨r, rfl, s2.free (((s3.trans s4)).free hr5), ?_⟩
          dsimp only
          rw [upd_ne rd, if_pos ⟨zne, by rw [mk_cps]; exact List.take_prefix _ _, by omega⟩]
          exact h5
        · rename_i ek
          obtain ⟨l', rfl, fr, a⟩ := lv2 _ _ e'
          refine ⟨l', rfl, fr, ?_⟩
          rw [upd_ne (ne_of a hd2 (by intro z; cases z))]
          have same : (k'.cps.toList ≠ [] ∧ k'.cps.toList <+: wd ∧ k'.cps.toList.length ≤ j + 1) ↔ (k'.cps.toList ≠ [] ∧ k'.cps.toList <+: wd ∧ k'.cps.toList.length ≤ j) := by
            constructor
            · rintro ⟨a, b, c⟩
              refine ⟨a, b, ?_⟩
              rcases Nat.lt_or_ge j k'.cps.toList.length with g | g
              · exfalso
                apply ek
                congr 1
                apply str_ext
                rw [mk_cps]
                exact (List.prefix_iff_eq_take.mp b).trans (by rw [show k'.cps.toList.length = j + 1 by omega])
              · exact g
            · rintro ⟨a, b, c⟩
              exact ⟨a, b, by omega⟩
          dsimp only at a ⊢
          simp only [same]
          exact s25 _ _ a
    · rintro σ H2 ⟨o4', kvs2, rfl, s2, hd2, kp2, kl2, lv2⟩
      rw [eN] at kp2 kl2 lv2
      refine ⟨_, _, _, kvs2, rfl, s2, hd2, kp2.congr (fun z => ?_), by omega, fun z v e => ?_⟩
      · rw [eP]
        constructor
        · rintro (h | ⟨a, b⟩)
          · exact .inl h
          · exact .inr ⟨a, b, b.length_le⟩
        · rintro (h | ⟨a, b, _⟩)
          · exact .inl h
          · exact .inr ⟨a, b⟩
      · obtain ⟨l, a, fr, b⟩ := lv2 z v e
        refine ⟨l, a, fr, ?_⟩
        rw [plc_succ, eW]
        have zk : z.cps.toList ≠ [] := by
          obtain ⟨y, ey, hy⟩ := kp2.is _ (valV_mem e)
          cases ey
          rcases hy with hy | hy
          · exact hy.1
          · exact hy.1
        have same : (z.cps.toList ≠ [] ∧ z.cps.toList <+: wd ∧ z.cps.toList.length ≤ wd.length) ↔ z.cps.toList <+: wd := ⟨fun h => h.2.1, fun h => ⟨zk, h, h.length_le⟩⟩
        dsimp only at b
        simp only [same] at b
        exact b
  · rintro σ H' ⟨o2, o3, o4, kvs, rfl, s1, hd1, kp, kl, lv⟩
    rw [Int.toNat_natCast, hlab] at kp kl
    rw [Int.toNat_natCast, hlab] at lv
    exact ⟨_, rfl, q d kvs H' s1 hd hd1 kp (by omega) lv⟩
end
end S20
namespace W18
open W16
end W18
namespace S20
open PySem L2 W7
section
variable {P : Program} {w : World} {K : PySem.W.Frag} {mg : Str → Option Value} {base : Heap} {k : Nat}
theorem mk_inj {a b : List Nat} (h : mk a = mk b) : a = b := by
  have := congrArg (fun z : Str => z.cps.toList) h
  exact this
theorem mk_of (z : Str) : mk z.cps.toList = z := str_ext rfl
theorem map_nodup {α β : Type} {f : α → β} (hf : ∀ a b, f a = f b → a = b) : ∀ {l : List α}, l.Nodup → (l.map f).Nodup
  | [], _ => List.nodup_nil
  | x :: l, h => by
    obtain ⟨h1, h2⟩ := List.nodup_cons.mp h
    refine List.nodup_cons.mpr ⟨fun m => ?_, map_nodup hf h2⟩
    obtain ⟨y, hy, e⟩ := List.mem_map.mp m
    exact h1 (by rw [← hf _ _ e]; exact hy)
theorem sorted_at {ss : List Str} (hs : PyProof.Rows.sortedS ss = true) : ∀ i j, i ≤ j → j < (cs ss).length → ¬ (cs ss).getD j [] < (cs ss).getD i [] := fun i j ij jl => by
  have l : (cs ss).length = ss.length := by unfold cs; rw [List.length_map]
  rw [l] at jl
  rw [cs_getD, cs_getD]
  rcases Nat.lt_or_ge i j with h | h
  · have := List.pairwise_iff_getElem.mp (sorted_pair ss hs) i j (by omega) jl h
    rw [List.getD_eq_getElem?_getD, List.getElem?_eq_getElem jl, List.getD_eq_getElem?_getD, List.getElem?_eq_getElem (by omega)]
    exact this
  · have : i = j := by omega
    subst this; exact List.lt_irrefl _
theorem unlS_nodup {ss : List Str} (hs : PyProof.Rows.sortedS ss = true) : (unlS ss ss.length).Nodup := by
  unfold unlS
  exact map_nodup (fun a b h => mk_inj h) (W18.unl_nodup (sorted_at hs) ss.length (by unfold cs; rw [List.length_map]; exact Nat.le_refl _))
theorem mem_unlS {ups : List Int} {lab : Str} {ss : List Str} (hp : ss.Perm (wordsS ups lab)) (z : Str) : z ∈ unlS ss ss.length ↔ prefN ups lab ups.length z := by
  have key : ∀ i, i < ss.length → ∃ j, j < ups.length ∧ (ss.getD i Str.empty).cps.toList = W ups lab.cps.toList j := fun i hi => by
    have m : ss.getD i Str.empty ∈ wordsS ups lab := hp.mem_iff.mp (by rw [List.getD_eq_getElem?_getD, List.getElem?_eq_getElem hi]; exact List.getElem_mem hi)
    obtain ⟨j, hj, e⟩ := List.mem_map.mp m
    exact ⟨j, List.mem_range.mp hj, by rw [← e]; rfl⟩
  unfold unlS prefN
  rw [List.mem_map]
  constructor
  · rintro ⟨p, hp', rfl⟩
    obtain ⟨i, hi, a, b⟩ := W18.mem_unl.mp hp'
    obtain ⟨j, hj, e⟩ := key i hi
    rw [cs_getD, e] at a
    refine ⟨?_, j, hj, a⟩
    rw [mk_cps]; intro z; subst z; simp at b
  · rintro ⟨a, j, hj, b⟩
    refine ⟨z.cps.toList, ?_, mk_of z⟩
    have m : mk (W ups lab.cps.toList j) ∈ ss := hp.mem_iff.mpr (List.mem_map.mpr ⟨j, List.mem_range.mpr hj, rfl⟩)
    obtain ⟨i, hi, e⟩ := List.getElem_of_mem m
    refine W18.all_in a i hi ?_
    rw [cs_getD, List.getD_eq_getElem?_getD, List.getElem?_eq_getElem hi]
    show z.cps.toList <+: (ss[i]).cps.toList
    rw [e]; exact b
theorem prefN_one {ups : List Int} {lab : Str} (ok : TreeOk ups lab.cps.toList) : ∃ z, prefN ups lab ups.length z := by
  have pos := ok.pos
  refine ⟨mk (W ups lab.cps.toList 0), ?_, 0, pos, List.prefix_refl _⟩
  rw [mk_cps, W_eq ok pos]
  simp
def kst : Key → Str
  | .inr z => z
  | .inl _ => Str.empty
def kzs (kvs : List (Key × V)) : List Str := kvs.map fun kv => kst kv.1
theorem kzs_keys {kvs : List (Key × V)} {S : Str → Prop} (h : Kp kvs S) : kvs.map (·.1) = (kzs kvs).map Sum.inr := by
  unfold kzs
  rw [List.map_map]
  refine List.map_congr_left fun p hp => ?_
  obtain ⟨z, e, _⟩ := h.is p.1 (List.mem_map.mpr ⟨p, hp, rfl⟩)
  show p.1 = Sum.inr (kst p.1)
  rw [e]; rfl
theorem kzs_mem {kvs : List (Key × V)} {S : Str → Prop} (h : Kp kvs S) (z : Str) : z ∈ kzs kvs ↔ S z := by
  constructor
  · intro m
    obtain ⟨p, hp, e⟩ := List.mem_map.mp m
    obtain ⟨y, e1, e2⟩ := h.is p.1 (List.mem_map.mpr ⟨p, hp, rfl⟩)
    rw [e1] at e
    rw [← e]; exact e2
  · intro s
    have := h.all z s
    rw [kzs_keys h] at this
    obtain ⟨y, hy, e⟩ := List.mem_map.mp this
    cases e; exact hy
theorem kzs_nodup {kvs : List (Key × V)} {S : Str → Prop} (h : Kp kvs S) : (kzs kvs).Nodup := by
  have := h.nd
  rw [kzs_keys h] at this
  unfold List.Nodup at this ⊢
  rw [List.pairwise_map] at this
  exact this.imp fun a b => a (by rw [b])
theorem kzs_perm {kvs : List (Key × V)} {ups : List Int} {lab : Str} {ss : List Str} (h : Kp kvs (prefN ups lab ups.length)) (hp : ss.Perm (wordsS ups lab)) (hs : PyProof.Rows.sortedS ss = true) : (kzs kvs).Perm (unlS ss ss.length) :=
  (List.perm_ext_iff_of_nodup (kzs_nodup h) (unlS_nodup hs)).mpr fun z => (kzs_mem h z).trans (mem_unlS hp z).symm
theorem sortedS_of : ∀ l : List Str, l.Pairwise (fun a b => ¬ b.cps.toList < a.cps.toList) → PyProof.Rows.sortedS l = true := fun l h =>
  PyProof.Rows.sortedS_of_pairwise l (h.imp fun {a b} n => by rw [PyProof.Rows.ltCps_eq]; simpa using n)
end
end S20
namespace S20
open PySem L2 W7
structure Blt8 (mg : Str → Option Value) : Prop extends Blt7 mg where
  ValueError_ : mg "ValueError" = none
theorem bt_ValueError : bootBuiltins "ValueError" = some (.type "ValueError") := by decide +kernel
structure Exs (K : PySem.W.Frag) (mg : Str → Option Value) where
  c_UpError : Addr
  m_UpError : mg "UpError" = some (.ref c_UpError)
  c_NoPlace : Addr
  m_NoPlace : mg "NoPlace" = some (.ref c_NoPlace)
  c_NoNumber : Addr
  m_NoNumber : mg "NoNumber" = some (.ref c_NoNumber)
  c_NoWord : Addr
  m_NoWord : mg "NoWord" = some (.ref c_NoWord)
  c_NoRows : Addr
  m_NoRows : mg "NoRows" = some (.ref c_NoRows)
  c_NoRuns : Addr
  m_NoRuns : mg "NoRuns" = some (.ref c_NoRuns)
  c_NoCover : Addr
  m_NoCover : mg "NoCover" = some (.ref c_NoCover)
  c_NoText : Addr
  m_NoText : mg "NoText" = some (.ref c_NoText)
  c_TooMany : Addr
  m_TooMany : mg "TooMany" = some (.ref c_TooMany)
  c_NoTries : Addr
  m_NoTries : mg "NoTries" = some (.ref c_NoTries)
  c_NoPattern : Addr
  m_NoPattern : mg "NoPattern" = some (.ref c_NoPattern)
  c_NoLetter : Addr
  m_NoLetter : mg "NoLetter" = some (.ref c_NoLetter)
  c_NoLeaf : Addr
  m_NoLeaf : mg "NoLeaf" = some (.ref c_NoLeaf)
  c_NoChange : Addr
  m_NoChange : mg "NoChange" = some (.ref c_NoChange)
  c_NoLine : Addr
  m_NoLine : mg "NoLine" = some (.ref c_NoLine)
  c_NoTree : Addr
  m_NoTree : mg "NoTree" = some (.ref c_NoTree)
  q_NoNumber : PySem.W.excIn K c_NoNumber bmV "ValueError.__new__" = true
  q_NoWord : PySem.W.excIn K c_NoWord bmV "ValueError.__new__" = true
  z_NoNumber : ExK K c_NoNumber
  z_NoWord : ExK K c_NoWord
  u_NoNumber : PySem.W.exmOne K (.ref c_NoNumber) (.ref c_UpError) = some true
  u_NoWord : PySem.W.exmOne K (.ref c_NoWord) (.ref c_UpError) = some true
  nn : PySem.W.kitOne K (.ref c_NoNumber) (.ref c_NoNumber) = some true
  nw : PySem.W.kitOne K (.ref c_NoNumber) (.ref c_NoWord) = some false
  wn : PySem.W.kitOne K (.ref c_NoWord) (.ref c_NoNumber) = some false
  ww : PySem.W.kitOne K (.ref c_NoWord) (.ref c_NoWord) = some true
  nv : PySem.W.kitOne K (.ref c_NoNumber) (.type "ValueError") = some true
  wv : PySem.W.kitOne K (.ref c_NoWord) (.type "ValueError") = some true
  n1 : PySem.W.kitAny K (.ref c_NoNumber) ([c_NoChange, c_NoCover, c_NoLeaf, c_NoLetter, c_NoLine, c_NoPattern, c_NoPlace].map Value.ref) = some false
  w1 : PySem.W.kitAny K (.ref c_NoWord) ([c_NoChange, c_NoCover, c_NoLeaf, c_NoLetter, c_NoLine, c_NoPattern, c_NoPlace].map Value.ref) = some false
  n2 : PySem.W.kitAny K (.ref c_NoNumber) ([c_NoRows, c_NoRuns, c_NoText, c_NoTree, c_NoTries, c_TooMany].map Value.ref) = some false
  w2 : PySem.W.kitAny K (.ref c_NoWord) ([c_NoRows, c_NoRuns, c_NoText, c_NoTree, c_NoTries, c_TooMany].map Value.ref) = some false
inductive Thg (H : Hp) : V → Prop
  | non : Thg H .non
  | bl (b : Bool) : Thg H (.bl b)
  | int (i : Int) : Thg H (.int i)
  | str (z : Str) : Thg H (.str z)
  | lst {a : Addr} {xs : List V} (e : H a = some (.lst xs)) : Thg H (.ref a)
  | tup {a : Addr} {xs : List V} (e : H a = some (.tup xs)) : Thg H (.ref a)
  | dct {a : Addr} {kvs : List (Key × V)} (e : H a = some (.dK kvs)) : Thg H (.ref a)
theorem Thg.same {H H' : Hp} {x : V} (h : Thg H x) (s : Same H H') : Thg H' x := by
  cases h with
  | non => exact .non
  | bl b => exact .bl b
  | int i => exact .int i
  | str z => exact .str z
  | lst e => exact .lst (s _ _ e)
  | tup e => exact .tup (s _ _ e)
  | dct e => exact .dct (s _ _ e)
def wh : V → Bool
  | .int _ => true
  | _ => false
def below : V → Int → Bool
  | .int i, n => decide (0 ≤ i) && decide (i < n)
  | _, _ => false
section
variable {P : Program} {w : World} {K : PySem.W.Frag} {mg : Str → Option Value} {base : Heap} {k : Nat}
theorem two16 : (16 : Int) < bigL := by unfold bigL; decide +kernel
theorem kit_none_int (K : PySem.W.Frag) : PySem.W.kitOne K (.type "NoneType") (.type "int") = some false := by rfl
theorem kit_str_int (K : PySem.W.Frag) : PySem.W.kitOne K (.type "str") (.type "int") = some false := by rfl
theorem kit_list_int (K : PySem.W.Frag) : PySem.W.kitOne K (.type "list") (.type "int") = some false := by rfl
theorem kit_tuple_int (K : PySem.W.Frag) : PySem.W.kitOne K (.type "tuple") (.type "int") = some false := by rfl
theorem kit_dict_int (K : PySem.W.Frag) : PySem.W.kitOne K (.type "dict") (.type "int") = some false := by rfl
theorem kit_bool_int (K : PySem.W.Frag) : PySem.W.kitOne K (.type "bool") (.type "int") = some true := by rfl
def sp_whole : Sp := fun vs H Q _ => ∃ x : V, vs = [x] ∧ Thg H x ∧ Q (.bl (wh x)) H
theorem has_whole (D : Df K mg "is_whole" s_is_whole) (B : Blt7 mg) : Has P w K mg base "is_whole" (k + 1) ["thing"] sp_whole := by
  refine D.has sc_is_whole (fun _ _ _ _ _ _ us hl => match us, hl with | [_], _ => rfl) (fun vs H Q E h => by obtain ⟨x, rfl, _⟩ := h; rfl) (fun f cdv A outer s H vs Q E hr h => ?_)
  obtain ⟨x, rfl, th, q⟩ := h
  refine ⟨_, (pss_one (ps_ret (pe_and (pe_callB call_isinst rfl B.isinstance bt_isinstance (pa_cons (pv 0) (pa_cons (pe_bltn (v := .ty "int") rfl B.int_ bt_int rfl) pa_nil))) (pe_one (pe_not (pe_callB call_isinst rfl B.isinstance bt_isinstance (pa_cons (pv 0) (pa_cons (pe_bltn (v := .ty "bool") rfl B.bool_ bt_bool rfl) pa_nil)))))))), ?_⟩
  cases th with
  | non => exact ⟨_, rfl, _, _, "int", false, rfl, .non, kit_none_int _, _, rfl, iteF q⟩
  | str z => exact ⟨_, rfl, _, _, "int", false, rfl, .str _, kit_str_int _, _, rfl, iteF q⟩
  | lst e => exact ⟨_, rfl, _, _, "int", false, rfl, .lst e, kit_list_int _, _, rfl, iteF q⟩
  | tup e => exact ⟨_, rfl, _, _, "int", false, rfl, .tup e, kit_tuple_int _, _, rfl, iteF q⟩
  | dct e => exact ⟨_, rfl, _, _, "int", false, rfl, .dK e, kit_dict_int _, _, rfl, iteF q⟩
  | bl b =>
    refine ⟨_, rfl, _, _, "int", true, rfl, .bl _, kit_bool_int _, _, rfl, iteT ?_⟩
    exact ⟨_, rfl, _, _, "bool", true, rfl, .bl _, kit_same _ _, _, rfl, q⟩
  | int i =>
    refine ⟨_, rfl, _, .type "int", "int", true, rfl, .int _, kit_same _ _, _, rfl, iteT ?_⟩
    exact ⟨_, rfl, _, .type "int", "bool", false, rfl, .int _, kit_int_bool _, _, rfl, q⟩
def sp_below : Sp := fun vs H Q _ => ∃ (x : V) (n : Int), vs = [x, .int n] ∧ Thg H x ∧ Q (.bl (below x n)) H
theorem has_below (D : Df K mg "is_number_below" s_is_number_below) (B : Blt7 mg) (G_is_whole : Has P w K mg base "is_whole" k ["thing"] sp_whole) : Has P w K mg base "is_number_below" (k + 1) ["thing", "behind"] sp_below := by
  refine D.has sc_is_number_below (fun _ _ _ _ _ _ us hl => match us, hl with | [_, _], _ => rfl) (fun vs H Q E h => by obtain ⟨x, y, rfl, _⟩ := h; rfl) (fun f cdv A outer s H vs Q E hr h => ?_)
  obtain ⟨x, n, rfl, th, q⟩ := h
  refine ⟨_, (pss_one (ps_ret (pe_and (pe_callH G_is_whole hr rfl (pa_cons (pv 0) pa_nil)) (pe_one (pe_chain op_le op_lt pe_int (pv 0) (pv 1)))))), ?_⟩
  refine ⟨_, rfl, x, rfl, th, _, rfl, ?_⟩
  cases x with
  | int i =>
    refine iteT ⟨_, rfl, _, _, rfl, rfl, _, rfl, ite2 (fun c => ?_) (fun c => ?_)⟩
    · refine ⟨_, rfl, _, _, rfl, rfl, ?_⟩
      have q' : Q (.bl (decide (0 ≤ i) && decide (i < n))) H := q
      rw [c, Bool.true_and] at q'
      exact q'
    · have q' : Q (.bl (decide (0 ≤ i) && decide (i < n))) H := q
      rw [Bool.eq_false_iff.mpr c, Bool.false_and] at q'
      exact q'
  | _ => exact iteF q
def sp_takeL : Sp := fun vs H Q _ => ∃ (p : Addr) (m c : Int), vs = [.ref p, .int m] ∧ Deck H p c ∧ c < 1000000 ∧ 0 < m ∧ m < bigL ∧ ∀ (n : Int) (H' : Hp), 0 ≤ n → n < m → Kd p (c + 1) H H' → Q (.int n) H'
theorem has_takeL (D : Df K mg "_law_take" s_law_take) (B : Blt mg) (G_law_prime : Has P w K mg base "_law_prime" k ["at"] sp_prime) : Has P w K mg base "_law_take" (k + 1) ["pool", "many"] sp_takeL := by
  refine D.has sc_law_take (fun _ _ _ _ _ _ us hl => match us, hl with | [_, _], _ => rfl) (fun vs H Q E h => by obtain ⟨p, m, c, rfl, _⟩ := h; rfl) (fun f cdv A outer s H vs Q E hr h => ?_)
  obtain ⟨p, m, c, rfl, ⟨x, y, z, hp, z0, z1⟩, c6, m0, m1, q⟩ := h
  refine ⟨_, (pss_cons (ps_if (pt_cmpR op_gt (pe_ix ix_list (pv 0) pe_int (fun _ _ => rfl)) pe_int (nomark _))
  (pss_cons (ps_set (i := 2) sc_law_take.nd rfl (by first | exact Or.inl rfl | exact Or.inr rfl) (pe_op op_mod (pe_ix ix_list (pv 0) pe_int (fun _ _ => rfl)) (pv 1)))
  (pss_cons (ps_asg (pe_op op_fdivL (pe_ix ix_list (pv 0) pe_int (fun _ _ => rfl)) (pv 1)) (pg_sub (pv 0) pe_int set_list))
  (pss_one (ps_ret (pv 2)))))
  pss_nil)
  (pss_cons (ps_set (i := 3) sc_law_take.nd rfl (by first | exact Or.inl rfl | exact Or.inr rfl) (pe_ix ix_list (pv 0) pe_int (fun _ _ => rfl)))
  (pss_cons (ps_asg (pe_op op_add (pv 3) pe_int) (pg_sub (pv 0) pe_int set_list))
  (pss_cons (ps_set (i := 4) sc_law_take.nd rfl (by first | exact Or.inl rfl | exact Or.inr rfl) (pe_op op_mod (pe_op op_pow (pe_op op_add (pe_op op_add (pe_op op_mod (pe_ix ix_list (pv 0) pe_int (fun _ _ => rfl)) pe_int) (pe_op op_mul pe_int (pv 3))) pe_int) pe_int) (pe_callH G_law_prime hr rfl (pa_cons (pv 3) pa_nil))))
  (pss_cons (ps_set (i := 5) sc_law_take.nd rfl (by first | exact Or.inl rfl | exact Or.inr rfl) (pe_op op_mod (pe_op op_pow (pe_op op_add (pe_op op_add (pe_op op_add (pe_op op_mul (pv 4) (pv 4)) (pe_op op_mul pe_int (pv 3))) (pe_op op_mod (pe_ix ix_list (pv 0) pe_int (fun _ _ => rfl)) pe_int)) pe_int) pe_int) (pe_callH G_law_prime hr rfl (pa_cons (pe_op op_add (pv 3) pe_int) pa_nil))))
  (pss_one (ps_ret (pe_op op_mod (pe_op op_fdivL (pe_op op_mod (pe_op op_add (pe_op op_mul (pv 5) pe_int) (pv 4)) (pe_callH G_law_prime hr rfl (pa_cons (pe_op op_add (pv 3) pe_int) pa_nil))) pe_int) (pv 1))))))))), ?_⟩
  have mne : m ≠ 0 := fun e => by rw [e] at m0; exact absurd m0 (by decide)
  refine ⟨_, rfl, p, _, _, _, rfl, rfl, SqL.of hp, rfl, _, _, rfl, rfl, _, rfl, ite2 (fun cnd => ?_) (fun cnd => ?_)⟩
  · refine ⟨_, rfl, p, _, _, _, rfl, rfl, SqL.of hp, rfl, _, rfl, _, _, rfl, rfl, m0, ?_⟩
    refine ⟨_, rfl, p, _, _, _, rfl, rfl, SqL.of hp, rfl, _, rfl, _, _, rfl, rfl, ⟨m0, m1⟩, ?_⟩
    refine ⟨_, rfl, p, _, _, 0, rfl, rfl, hp, rfl, _, rfl, ?_⟩
    exact q _ _ (Int.emod_nonneg _ mne) (Int.emod_lt_of_pos _ m0) ⟨⟨_, y, z, upd_same, z0, by clear m1; omega⟩, fun b o hb e => by rw [upd_ne hb]; exact e⟩
  · clear m1
    refine ⟨_, rfl, p, _, _, _, rfl, rfl, SqL.of hp, rfl, _, rfl, _, _, rfl, rfl, ?_⟩
    refine ⟨_, rfl, p, _, _, 2, rfl, rfl, hp, rfl, ?_⟩
    have hp' : upd H p (.lst [.int x, .int y, .int (z + 1)]) p = some (.lst [.int x, .int y, .int (z + 1)]) := upd_same
    have kd : Kd p (c + 1) H (upd H p (.lst [.int x, .int y, .int (z + 1)])) := ⟨⟨x, y, z + 1, upd_same, by omega, by omega⟩, fun b o hb e => by rw [upd_ne hb]; exact e⟩
    have y1 := Int.emod_nonneg y (by decide : (2147483399 : Int) ≠ 0)
    have y2 := Int.emod_lt_of_pos y (by decide : (0 : Int) < 2147483399)
    refine ⟨_, rfl, p, _, _, _, rfl, rfl, SqL.of hp', rfl, _, _, rfl, rfl, (by decide : (0 : Int) < 2147483399), _, rfl, _, _, rfl, rfl, .inl ⟨by decide, by decide⟩, _, _, rfl, rfl, _, _, rfl, rfl, _, _, rfl, rfl, ⟨by decide, by decide, by omega⟩, ?_⟩
    refine ⟨_, rfl, z, rfl, fun n1 H1 a0 a1 s1 => ⟨_, _, rfl, rfl, a0, ?_⟩⟩
    have hp1 := s1 _ _ hp'
    refine ⟨_, rfl, _, rfl, _, _, rfl, rfl, .inl (mod_in _ _ a0 a1), _, rfl, _, _, rfl, rfl, .inl ⟨by decide, by decide⟩, _, _, rfl, rfl, _, rfl, p, _, _, _, rfl, rfl, SqL.of hp1, rfl, _, _, rfl, rfl, (by decide : (0 : Int) < 65537), _, _, rfl, rfl, _, _, rfl, rfl, _, _, rfl, rfl, ⟨by decide, by decide, pow_ok _ _ _ _ a0 a1 z0 (by omega)⟩, ?_⟩
    refine ⟨_, rfl, _, _, rfl, rfl, z + 4, rfl, fun n2 H2 b0 b1 s2 => ⟨_, _, rfl, rfl, b0, ?_⟩⟩
    refine ⟨_, rfl, _, _, rfl, rfl, .inr ⟨by decide, by decide⟩, _, rfl, _, _, rfl, rfl, _, rfl, _, _, rfl, rfl, z + 7, rfl, fun n3 H3 d0 d1 s3 => ⟨_, _, rfl, rfl, d0, ?_⟩⟩
    refine ⟨_, _, rfl, rfl, ⟨by decide, two16⟩, _, rfl, _, _, rfl, rfl, m0, ?_⟩
    exact q _ _ (Int.emod_nonneg _ mne) (Int.emod_lt_of_pos _ m0) (((kd.same s1).same s2).same s3)
def UL (ups : List Int) (lab : Str) (zs : List Str) : Prop := ∀ ss : List Str, ss.Perm (wordsS ups lab) → PyProof.Rows.sortedS ss = true → unlS ss ss.length = zs
theorem inV_str {z : Str} : ∀ zs : List Str, inV (.str z) (zs.map V.str) = decide (z ∈ zs)
  | [] => rfl
  | y :: zs => by
    have ih := inV_str (z := z) zs
    unfold inV at ih ⊢
    rw [List.map_cons, List.any_cons, ih]
    by_cases e : y = z
    · subst e; simp [eqV]
    · have : eqV (.str y) (.str z) = false := by simp [eqV, e]
      rw [this, Bool.false_or]
      simp [Ne.symm e]
theorem below_int {x : V} {n : Int} (h : below x n = true) : ∃ i, x = .int i ∧ 0 ≤ i ∧ i < n := by
  cases x with
  | int i =>
    have h' : (decide (0 ≤ i) && decide (i < n)) = true := h
    rw [Bool.and_eq_true] at h'
    exact ⟨i, rfl, of_decide_eq_true h'.1, of_decide_eq_true h'.2⟩
  | _ => cases h
def sp_nth (cN : Addr) : Sp := fun vs H Q E => ∃ (t : Addr) (ups : List Int) (lab : Str) (x : V) (zs : List Str), vs = [.ref t, x] ∧ TreeAt H t ups lab ∧ UL ups lab zs ∧ Thg H x ∧
  (below x zs.length = true → ∀ z H', Same H H' → Q (.str z) H') ∧ (below x zs.length = false → ∀ a H', Same H H' → H' a = none → E (.ref a) (some cN) H')
theorem has_nth (EX : Exs K mg) (D : Df K mg "nth_word" s_nth_word) (B : Blt7 mg) (G_unlike_words : Has P w K mg base "unlike_words" k ["tree"] sp_unlike) (G_is_number_below : Has P w K mg base "is_number_below" k ["thing", "behind"] sp_below) : HasX P w K mg base "nth_word" (k + 1) ["tree", "k"] (sp_nth EX.c_NoNumber) := by
  refine D.hasX sc_nth_word (fun _ _ _ _ _ _ us hl => match us, hl with | [_, _], _ => rfl) (fun vs H Q E h => by obtain ⟨t, ups, lab, i, zs, rfl, _⟩ := h; rfl) (fun f cdv A outer s H vs Q E hr h => ?_)
  obtain ⟨t, ups, lab, x, zs, rfl, tr, ul, th, q, qe⟩ := h
  refine ⟨_, (pss_cons (ps_set (i := 2) sc_nth_word.nd rfl (by first | exact Or.inl rfl | exact Or.inr rfl) (pe_callH G_unlike_words hr rfl (pa_cons (pv 0) pa_nil)))
  (pss_cons (ps_if (pt_not (pt_val (pe_callH G_is_number_below hr rfl (pa_cons (pv 1) (pa_cons (pe_callB call_len_seq rfl B.len bt_len (pa_cons (pv 2) pa_nil)) pa_nil)))))
  (pss_one (ps_raise raises_cx EX.m_NoNumber EX.q_NoNumber rfl (pa_cons pe_str pa_nil)))
  pss_nil)
  (pss_one (ps_ret (pe_ix ix_list (pv 2) (pv 1) (fun _ _ => rfl)))))), ?_⟩
  refine ⟨_, rfl, t, ups, lab, rfl, tr, fun ss r H1 hp hs s1 hf1 hr1 => ?_⟩
  rw [ul ss hp hs] at hr1
  refine ⟨_, rfl, _, rfl, r, _, rfl, .inl (SqL.of hr1), x, _, rfl, th.same s1, _, rfl, ?_⟩
  rw [List.length_map]
  cases eb : below x (zs.length : Int) with
  | true =>
    refine iteF ?_
    obtain ⟨i, rfl, i0, i1⟩ := below_int eb
    have at1 : atI (zs.map V.str) i = some (.str (zs.getD i.toNat Str.empty)) := by
      have := strs_at (ss := zs) (i := i.toNat) (by omega)
      rw [show ((i.toNat : Nat) : Int) = i by omega] at this
      exact this
    exact ⟨_, rfl, _, rfl, r, _, _, _, rfl, rfl, SqL.of hr1, at1, q eb _ H1 s1⟩
  | false => exact iteT ⟨(by show 1 ≤ sizeLine; decide), fun a ha => qe eb a H1 s1 ha⟩
def sp_num (cW : Addr) : Sp := fun vs H Q E => ∃ (t : Addr) (ups : List Int) (lab : Str) (z : Str) (zs : List Str), vs = [.ref t, .str z] ∧ TreeAt H t ups lab ∧ UL ups lab zs ∧ zs.length ≤ 3600 ∧
  (z ∈ zs → ∀ v H', Same H H' → Q (.int v) H') ∧ (z ∉ zs → ∀ a H', Same H H' → H' a = none → E (.ref a) (some cW) H')
theorem has_num (EX : Exs K mg) (D : Df K mg "number_of" s_number_of) (B : Blt7 mg) (G_unlike_words : Has P w K mg base "unlike_words" k ["tree"] sp_unlike) : HasX P w K mg base "number_of" (k + 1) ["tree", "word"] (sp_num EX.c_NoWord) := by
  refine D.hasX sc_number_of (fun _ _ _ _ _ _ us hl => match us, hl with | [_, _], _ => rfl) (fun vs H Q E h => by obtain ⟨t, ups, lab, z, zs, rfl, _⟩ := h; rfl) (fun f cdv A outer s H vs Q E hr h => ?_)
  obtain ⟨t, ups, lab, z, zs, rfl, tr, ul, zl, q, qe⟩ := h
  refine ⟨_, (pss_cons (ps_set (i := 2) sc_number_of.nd rfl (by first | exact Or.inl rfl | exact Or.inr rfl) (pe_callH G_unlike_words hr rfl (pa_cons (pv 0) pa_nil)))
  (pss_cons (ps_if (pt_cmpR op_notIn_seq (pv 1) (pv 2) (by with_unfolding_all rfl))
  (pss_one (ps_raise raises_cx EX.m_NoWord EX.q_NoWord rfl (pa_cons pe_str pa_nil)))
  pss_nil)
  (pss_one (ps_ret (pe_indexB K (pv 2) (pv 1)))))), ?_⟩
  refine ⟨_, rfl, t, ups, lab, rfl, tr, fun ss r H1 hp hs s1 hf1 hr1 => ?_⟩
  rw [ul ss hp hs] at hr1
  refine ⟨_, rfl, _, rfl, r, _, rfl, .inl (SqL.of hr1), rfl, flat_strs zs, _, rfl, ?_⟩
  rw [inV_str]
  by_cases mem : z ∈ zs
  · rw [decide_eq_true mem]
    refine iteF ?_
    exact ⟨_, rfl, .inl ⟨rfl, _, SqL.of hr1⟩, _, rfl, r, _, _, rfl, rfl, hr1, mem, by omega, q mem _ H1 s1⟩
  · rw [decide_eq_false mem]
    exact iteT ⟨(by show 1 ≤ sizeLine; decide), fun a ha => qe mem a H1 s1 ha⟩
end
end S20
namespace S20
open PySem L2 W7
section
variable {P : Program} {w : World} {K : PySem.W.Frag} {mg : Str → Option Value} {base : Heap} {k : Nat}
theorem strs_get {ss : List Str} {i : Nat} {x : V} (h : (ss.map V.str)[i]? = some x) : ∃ z, ss[i]? = some z ∧ x = .str z := by
  rw [List.getElem?_map] at h
  cases e : ss[i]? with
  | none => rw [e] at h; cases h
  | some z => rw [e] at h; exact ⟨z, rfl, (Option.some.inj h).symm⟩
theorem filt_step {ss : List Str} {i : Nat} {z : Str} {f : Str → Bool} (h : ss[i]? = some z) (b : Bool) (hb : f z = b) : (((ss.take (i + 1)).filter f).map V.str) = ((ss.take i).filter f).map V.str ++ (if b = true then [V.str z] else []) := by
  rw [PySem.take_succ_filter f ss i z h, hb, List.map_append]
  cases b <;> rfl
theorem filt_len {ss : List Str} {i : Nat} {f : Str → Bool} : (((ss.take i).filter f).map V.str).length ≤ i := by
  rw [List.length_map]
  exact Nat.le_trans (List.length_filter_le _ _) (by rw [List.length_take]; omega)
def fF (z x : Str) : Bool := Txt.startswith (cutS x (some 1) none) z
theorem W_ne {ups : List Int} {lab : Str} (ok : TreeOk ups lab.cps.toList) : ∀ x ∈ wordsS ups lab, x.cps.toList ≠ [] := fun x hx => by
  obtain ⟨j, hj, rfl⟩ := List.mem_map.mp hx
  rw [mk_cps, W_eq ok (List.mem_range.mp hj)]
  simp
def cnt (ss : List Str) (word : Str) : List Str := ss.filter fun z => Txt.startswith z word
def sp_count : Sp := fun vs H Q _ => ∃ (r : Addr) (ss : List Str) (word : Str), vs = [.ref r, .str word] ∧ H r = some (.lst (ss.map V.str)) ∧ ss.length ≤ 60 ∧ ∀ H' : Hp, Same H H' → Q (.int ((cnt ss word).length : Int)) H'
theorem has_count (D : Df K mg "count_read" s_count_read) (B : Blt mg) : Has P w K mg base "count_read" (k + 1) ["words", "word"] sp_count := by
  refine D.has sc_count_read (fun _ _ _ _ _ _ us hl => match us, hl with | [_, _], _ => rfl) (fun vs H Q E h => by obtain ⟨r, ss, word, rfl, _⟩ := h; rfl) (fun f cdv A outer s H vs Q E hr h => ?_)
  obtain ⟨r, ss, word, rfl, hr0, s60, q⟩ := h
  refine ⟨_, (pss_one (ps_ret (pe_callB call_len_seq rfl B.len bt_len (pa_cons (pe_comp rfl (pi_list (pv 0)) (NL := ["other"]) (ix := [1]) (csc (defScope s_count_read) N_count_read) (fun cl C s₃ H₃ fp pins => ⟨(pg_name (i := 0) (show List.Nodup (["other", "word"] : List Str) from by decide +kernel) rfl (by first | exact Or.inl rfl | exact Or.inr rfl)), (pifs_startsK K (pv 0) (pv 1)), (pv 0)⟩)) pa_nil)))), ?_⟩
  refine ⟨_, rfl, r, rfl, ⟨_, SqL.of hr0⟩, fun acc hacc => ?_⟩
  refine comp_lst (xs := ss.map V.str) (by rw [List.length_map]; omega) (fun i ys H2 => H2 acc = some (.lst ys) ∧ ys = ((ss.take i).filter fun z => Txt.startswith z word).map V.str ∧ Same H H2)
    (fun i ys H2 h => SqL.of (h.2.2 _ _ hr0)) (fun i ys H2 h => ⟨h.1, by rw [h.2.1]; exact filt_len⟩) ⟨upd_same, by simp, (Same.refl H).new hacc⟩ ?_ ?_
  · rintro ys H2 ⟨g1, rfl, g3⟩
    refine ⟨acc, _, rfl, .inl (SqL.of g1), ?_⟩
    have e : ((List.map V.str (List.filter (fun z => Txt.startswith z word) (List.take (List.map V.str ss).length ss))).length : Int) = ((cnt ss word).length : Int) := by
      rw [List.length_map, List.length_map, List.take_length]; rfl
    rw [e]; exact q H2 g3
  · rintro i x ys H2 hx ⟨g1, rfl, g3⟩
    obtain ⟨z, hz, rfl⟩ := strs_get hx
    refine ⟨rfl, _, rfl, rfl, _, rfl, _, _, rfl, rfl, _, rfl, ite2 (fun cnd => ?_) (fun cnd => ?_)⟩
    · exact ⟨_, rfl, g1, upd_same, by rw [filt_step hz true cnd]; rfl, g3.write hacc⟩
    · exact ⟨g1, by rw [filt_step hz false (Bool.eq_false_iff.mpr cnd)]; simp, g3⟩
def Red (ups : List Int) (lab z : Str) : Prop := ∃ j, j < ups.length ∧ z.cps.toList <+: W ups lab.cps.toList j
theorem cnt_pos {ups : List Int} {lab z : Str} : (cnt (wordsS ups lab) z).length = 0 ↔ ¬ Red ups lab z := by
  constructor
  · rintro e ⟨j, hj, p⟩
    have : mk (W ups lab.cps.toList j) ∈ cnt (wordsS ups lab) z := List.mem_filter.mpr ⟨List.mem_map.mpr ⟨j, List.mem_range.mpr hj, rfl⟩, (W16.starts_iff _ _).mpr (by rw [mk_cps]; exact p)⟩
    rw [List.eq_nil_of_length_eq_zero e] at this
    cases this
  · intro n
    refine List.length_eq_zero_iff.mpr (List.filter_eq_nil_iff.mpr fun x hx c => n ?_)
    obtain ⟨j, hj, rfl⟩ := List.mem_map.mp hx
    have := (W16.starts_iff _ _).mp c
    rw [mk_cps] at this
    exact ⟨j, List.mem_range.mp hj, this⟩
def sp_wif (cW : Addr) : Sp := fun vs H Q E => ∃ (t : Addr) (ups : List Int) (lab z : Str), vs = [.ref t, .str z] ∧ TreeAt H t ups lab ∧
  (Red ups lab z → ∀ (r : Addr) (H' : Hp), Same H H' → H' r = some (.lst ((wordsS ups lab).map V.str)) → Q (.ref r) H') ∧ (¬ Red ups lab z → ∀ a H', Same H H' → H' a = none → E (.ref a) (some cW) H')
theorem has_wif (EX : Exs K mg) (D : Df K mg "words_if_read" s_words_if_read) (B : Blt7 mg) (G_words_of : Has P w K mg base "words_of" k ["tree"] sp_words) (G_count_read : Has P w K mg base "count_read" k ["words", "word"] sp_count) : HasX P w K mg base "words_if_read" (k + 1) ["tree", "word"] (sp_wif EX.c_NoWord) := by
  refine D.hasX sc_words_if_read (fun _ _ _ _ _ _ us hl => match us, hl with | [_, _], _ => rfl) (fun vs H Q E h => by obtain ⟨t, ups, lab, z, rfl, _⟩ := h; rfl) (fun f cdv A outer s H vs Q E hr h => ?_)
  obtain ⟨t, ups, lab, z, rfl, tr, q, qe⟩ := h
  refine ⟨_, (pss_cons (ps_set (i := 2) sc_words_if_read.nd rfl (by first | exact Or.inl rfl | exact Or.inr rfl) (pe_callH G_words_of hr rfl (pa_cons (pv 0) pa_nil)))
  (pss_cons (ps_if (PW.pt (pw_or (pt_not (pt_val (pe_callB call_isinst rfl B.isinstance bt_isinstance (pa_cons (pv 1) (pa_cons (pe_bltn (v := .ty "str") rfl B.str_ bt_str rfl) pa_nil))))) (pw_or1 (pt_cmpR op_eq (pe_callH G_count_read hr rfl (pa_cons (pv 2) (pa_cons (pv 1) pa_nil))) pe_int (nomark _)))))
  (pss_one (ps_raise raises_cx EX.m_NoWord EX.q_NoWord rfl (pa_cons pe_str pa_nil)))
  pss_nil)
  (pss_one (ps_ret (pv 2))))), ?_⟩
  obtain ⟨_, _, _, ok⟩ := id tr
  have m60 := ok.most
  refine ⟨_, rfl, t, ups, lab, rfl, tr, fun r H1 s1 hr1 => ?_⟩
  rw [wordsV_eq] at hr1
  refine ⟨_, rfl, _, .type "str", "str", true, rfl, .str _, kit_same _ _, _, rfl, iteF ?_⟩
  refine ⟨_, rfl, _, rfl, r, _, z, rfl, hr1, by rw [wordsS_len]; exact m60, fun H2 s2 => ⟨rfl, _, rfl, ?_⟩⟩
  by_cases rd : Red ups lab z
  · rw [decide_eq_false (by intro e; injection e with e; exact cnt_pos.mp (by omega) rd)]
    refine iteF ?_
    exact ⟨_, rfl, q rd r H2 (s1.trans s2) (s2 _ _ hr1)⟩
  · rw [decide_eq_true (by rw [cnt_pos.mpr rd]; rfl)]
    exact iteT ⟨(by show 1 ≤ sizeLine; decide), fun a ha => qe rd a H2 (s1.trans s2) ha⟩
def sp_tal : Sp := fun vs H Q _ => ∃ (r : Addr) (L : List Str), vs = [.ref r] ∧ H r = some (.lst (L.map V.str)) ∧ L.length < 64 ∧ ∀ (r' : Addr) (H' : Hp), Same H H' → Q (.ref r') H'
theorem has_tal (D : Df K mg "tallied" s_tallied) (B : Blt7 mg) : Has P w K mg base "tallied" (k + 1) ["letters"] sp_tal := by
  refine D.has sc_tallied (fun _ _ _ _ _ _ us hl => match us, hl with | [_], _ => rfl) (fun vs H Q E h => by obtain ⟨r, L, rfl, _⟩ := h; rfl) (fun f cdv A outer s H vs Q E hr h => ?_)
  obtain ⟨r, L, rfl, hr0, l64, q⟩ := h
  refine ⟨_, (pss_one (ps_ret (pe_comp rfl (pi_list (pe_sortset K rfl rfl B.sorted rfl B.set_ (pa_cons (pv 0) pa_nil))) (NL := ["letter"]) (ix := [0]) (csc (defScope s_tallied) N_tallied) (fun cl C s₃ H₃ fp pins => ⟨(pg_name (i := 0) (show List.Nodup (["letter", "letters"] : List Str) from by decide +kernel) rfl (by first | exact Or.inl rfl | exact Or.inr rfl)), pifs_nil, (pe_tup (pa_cons (pv 0) (pa_cons (pe_countS K (pv 1) (pv 0)) pa_nil)))⟩)))), ?_⟩
  refine ⟨_, rfl, r, L, rfl, SqL.of hr0, l64, fun ss r2 nd mem so sl hr2 => ?_⟩
  have s2 : Same H (upd H r2 (.lst (ss.map V.str))) := (Same.refl H).new hr2
  have h22 : upd H r2 (.lst (ss.map V.str)) r2 = some (.lst (ss.map V.str)) := upd_same
  generalize upd H r2 (.lst (ss.map V.str)) = H2 at s2 h22
  refine ⟨r2, rfl, ⟨_, SqL.of h22⟩, fun acc hacc => ?_⟩
  refine comp_lst (xs := ss.map V.str) (by rw [List.length_map]; omega) (fun i ys HX => HX acc = some (.lst ys) ∧ Same H2 HX ∧ ys.length = i)
    (fun i ys HX h => SqL.of (h.2.1 _ _ h22)) (fun i ys HX h => ⟨h.1, by omega⟩) ⟨upd_same, (Same.refl H2).new hacc, rfl⟩ ?_ ?_
  · rintro ys HX ⟨g1, g2, g3⟩
    exact q acc HX (s2.trans g2)
  · rintro i x ys HX hx ⟨g1, g2, g3⟩
    obtain ⟨z, ez, rfl⟩ := strs_get hx
    have hrX := g2 _ _ (s2 _ _ hr0)
    refine ⟨rfl, ?_⟩
    refine ⟨_, rfl, _, rfl, .inl ⟨rfl, _, SqL.of hrX⟩, _, rfl, r, _, _, rfl, rfl, hrX, (by show 2 ≤ sizeLine; decide), fun tp htp => ?_⟩
    have hacc' : upd HX tp (.tup [.str z, .int ((L.count z : Nat) : Int)]) acc = some (.lst ys) := by rw [upd_ne (ne_of_none g1 htp)]; exact g1
    exact ⟨hacc', upd_same, ((g2.new htp).write hacc), by rw [List.length_append, g3]; rfl⟩
theorem fm_step {ss : List Str} {i : Nat} {z : Str} {f : Str → Bool} {g : Str → Str} (h : ss[i]? = some z) (b : Bool) (hb : f z = b) : (((ss.take (i + 1)).filter f).map g) = ((ss.take i).filter f).map g ++ (if b = true then [g z] else []) := by
  rw [PySem.take_succ_filter f ss i z h, hb, List.map_append]
  cases b <;> rfl
theorem fm_len {ss : List Str} {i : Nat} {f : Str → Bool} {g : Str → Str} : ((((ss.take i).filter f).map g).map V.str).length ≤ i := by
  rw [List.length_map, List.length_map]
  exact Nat.le_trans (List.length_filter_le _ _) (by rw [List.length_take]; omega)
end
end S20
namespace S20
open PySem L2 W7
section
variable {P : Program} {w : World} {K : PySem.W.Frag} {mg : Str → Option Value} {base : Heap} {k : Nat}
def gF (x : Str) : Str := mk [x.cps.toList.headD 0]
def fB (z x : Str) : Bool := Txt.startswith x z && decide ((x.length : Int) > (z.length : Int))
def gB (z x : Str) : Str := mk [x.cps.toList.getD z.length 0]
def sp_fr (cW : Addr) : Sp := fun vs H Q E => ∃ (t : Addr) (ups : List Int) (lab z : Str), vs = [.ref t, .str z] ∧ TreeAt H t ups lab ∧
  (Red ups lab z → ∀ (r : Addr) (H' : Hp), Same H H' → Q (.ref r) H') ∧ (¬ Red ups lab z → ∀ a H', Same H H' → H' a = none → E (.ref a) (some cW) H')
theorem has_fronts (EX : Exs K mg) (D : Df K mg "fronts_of" s_fronts_of) (B : Blt7 mg) (G_words_if_read : HasX P w K mg base "words_if_read" k ["tree", "word"] (sp_wif EX.c_NoWord)) (G_tallied : Has P w K mg base "tallied" k ["letters"] sp_tal) : HasX P w K mg base "fronts_of" (k + 1) ["tree", "word"] (sp_fr EX.c_NoWord) := by
  refine D.hasX sc_fronts_of (fun _ _ _ _ _ _ us hl => match us, hl with | [_, _], _ => rfl) (fun vs H Q E h => by obtain ⟨t, ups, lab, z, rfl, _⟩ := h; rfl) (fun f cdv A outer s H vs Q E hr h => ?_)
  obtain ⟨t, ups, lab, z, rfl, tr, q, qe⟩ := h
  refine ⟨_, (pss_cons (ps_set (i := 2) sc_fronts_of.nd rfl (by first | exact Or.inl rfl | exact Or.inr rfl) (pe_callE G_words_if_read passes_cx hr rfl (pa_cons (pv 0) (pa_cons (pv 1) pa_nil))))
  (pss_one (ps_ret (pe_callH G_tallied hr rfl (pa_cons (pe_comp rfl (pi_list (pv 2)) (NL := ["other"]) (ix := [1]) (csc (defScope s_fronts_of) N_fronts_of) (fun cl C s₃ H₃ fp pins => ⟨(pg_name (i := 0) (show List.Nodup (["other", "word"] : List Str) from by decide +kernel) rfl (by first | exact Or.inl rfl | exact Or.inr rfl)), (pifs_startsK K (pe_slice sl_str (pv 0) (po_some pe_int) po_none) (pv 1)), (pe_ix ix_str (pv 0) pe_int (fun _ _ => rfl))⟩)) pa_nil))))), ?_⟩
  obtain ⟨_, _, _, ok⟩ := id tr
  have m60 := ok.most
  have wl := wordsS_len ups lab
  have wle := wordsS_le ok
  have wne := W_ne ok
  refine ⟨_, rfl, _, rfl, t, ups, lab, z, rfl, tr, fun rd r H1 s1 hr1 => ?_, qe⟩
  refine ⟨_, rfl, r, rfl, ⟨_, SqL.of hr1⟩, fun acc hacc => ?_⟩
  refine comp_lst (xs := (wordsS ups lab).map V.str) (by rw [List.length_map]; omega) (fun i ys HX => HX acc = some (.lst ys) ∧ ys = ((((wordsS ups lab).take i).filter (fF z)).map gF).map V.str ∧ Same H1 HX)
    (fun i ys HX h => SqL.of (h.2.2 _ _ hr1)) (fun i ys HX h => ⟨h.1, by rw [h.2.1]; exact fm_len⟩) ⟨upd_same, by simp, (Same.refl H1).new hacc⟩ ?_ ?_
  · rintro ys H2 ⟨g1, rfl, g3⟩
    rw [List.length_map, List.take_length] at g1
    have ll : (((wordsS ups lab).filter (fF z)).map gF).length < 64 := by
      rw [List.length_map]
      have := List.length_filter_le (fF z) (wordsS ups lab)
      omega
    exact ⟨acc, _, rfl, g1, ll, fun r' H3 s3 => q rd r' H3 (s1.trans (g3.trans s3))⟩
  · rintro i x ys H2 hx ⟨g1, rfl, g3⟩
    obtain ⟨x, ex, rfl⟩ := strs_get hx
    have mx := List.mem_of_getElem? ex
    have xl := wle x mx
    have xn := wne x mx
    have xz : x.length ≤ sizeLine := Nat.le_of_lt (small1000 (by omega))
    refine ⟨rfl, _, rfl, _, rfl, x, rfl, xz, rfl, _, rfl, _, _, rfl, rfl, _, rfl, ite2 (fun cnd => ?_) (fun cnd => ?_)⟩
    · have at0 : atI x.cps.toList 0 = some (x.cps.toList.headD 0) := by
        cases e : x.cps.toList with
        | nil => exact absurd e xn
        | cons a r => exact atI_nat (xs := a :: r) (j := 0) rfl
      refine ⟨_, rfl, _, _, _, rfl, rfl, xz, at0, g1, upd_same, ?_, g3.write hacc⟩
      rw [fm_step ex true cnd, List.map_append]; rfl
    · exact ⟨g1, by rw [fm_step ex false (Bool.eq_false_iff.mpr cnd)]; simp, g3⟩
theorem has_behinds (EX : Exs K mg) (D : Df K mg "behinds_of" s_behinds_of) (B : Blt7 mg) (G_words_if_read : HasX P w K mg base "words_if_read" k ["tree", "word"] (sp_wif EX.c_NoWord)) (G_tallied : Has P w K mg base "tallied" k ["letters"] sp_tal) : HasX P w K mg base "behinds_of" (k + 1) ["tree", "word"] (sp_fr EX.c_NoWord) := by
  refine D.hasX sc_behinds_of (fun _ _ _ _ _ _ us hl => match us, hl with | [_, _], _ => rfl) (fun vs H Q E h => by obtain ⟨t, ups, lab, z, rfl, _⟩ := h; rfl) (fun f cdv A outer s H vs Q E hr h => ?_)
  obtain ⟨t, ups, lab, z, rfl, tr, q, qe⟩ := h
  refine ⟨_, (pss_cons (ps_set (i := 2) sc_behinds_of.nd rfl (by first | exact Or.inl rfl | exact Or.inr rfl) (pe_callE G_words_if_read passes_cx hr rfl (pa_cons (pv 0) (pa_cons (pv 1) pa_nil))))
  (pss_cons (ps_comp (i := 3) sc_behinds_of.nd rfl (by first | exact Or.inl rfl | exact Or.inr rfl) rfl (pi_list (pv 2)) (NL := ["other"]) (ix := [1]) (csc (defScope s_behinds_of) N_behinds_of) (fun cl C s₃ H₃ fp pins => ⟨(pg_name (i := 0) (show List.Nodup (["other", "word"] : List Str) from by decide +kernel) rfl (by first | exact Or.inl rfl | exact Or.inr rfl)), (pifs_one (PW.pt (pw_and (pt_val (pe_startsK K (pv 0) (pv 1))) (pw_and1 (pt_cmpR op_gt (pe_callB call_len_str rfl B.len bt_len (pa_cons (pv 0) pa_nil)) (pe_callB call_len_str rfl B.len bt_len (pa_cons (pv 1) pa_nil)) (nomark _)))))), (pv 0)⟩))
  (pss_one (ps_ret (pe_callH G_tallied hr rfl (pa_cons (pe_comp rfl (pi_list (pv 3)) (NL := ["other"]) (ix := [1]) (csc (defScope s_behinds_of) N_behinds_of) (fun cl C s₃ H₃ fp pins => ⟨(pg_name (i := 0) (show List.Nodup (["other", "word"] : List Str) from by decide +kernel) rfl (by first | exact Or.inl rfl | exact Or.inr rfl)), pifs_nil, (pe_ix ix_str (pv 0) (pe_callB call_len_str rfl B.len bt_len (pa_cons (pv 1) pa_nil)) (fun _ _ => rfl))⟩)) pa_nil)))))), ?_⟩
  obtain ⟨_, _, _, ok⟩ := id tr
  have m60 := ok.most
  have wl := wordsS_len ups lab
  have wle := wordsS_le ok
  refine ⟨_, rfl, _, rfl, t, ups, lab, z, rfl, tr, fun rd r H1 s1 hr1 => ?_, qe⟩
  have zl : z.length ≤ 60 := by
    obtain ⟨j, hj, p⟩ := rd
    have l1 := p.length_le
    have l2 := W_len ok (j + 1) j (by omega) hj
    rw [cps_len] at l1
    omega
  have zz : z.length ≤ sizeLine := Nat.le_of_lt (small1000 (by omega))
  refine ⟨_, rfl, r, rfl, ⟨_, SqL.of hr1⟩, fun acc hacc => ?_⟩
  refine comp_lst (xs := (wordsS ups lab).map V.str) (by rw [List.length_map]; omega) (fun i ys HX => HX acc = some (.lst ys) ∧ ys = (((wordsS ups lab).take i).filter (fB z)).map V.str ∧ Same H1 HX)
    (fun i ys HX h => SqL.of (h.2.2 _ _ hr1)) (fun i ys HX h => ⟨h.1, by rw [h.2.1]; exact filt_len⟩) ⟨upd_same, by simp, (Same.refl H1).new hacc⟩ ?_ ?_
  rotate_left
  · rintro i x ys H2 hx ⟨g1, rfl, g3⟩
    obtain ⟨x, ex, rfl⟩ := strs_get hx
    have xl := wle x (List.mem_of_getElem? ex)
    have xz : x.length ≤ sizeLine := Nat.le_of_lt (small1000 (by omega))
    refine ⟨rfl, _, rfl, rfl, _, rfl, _, _, rfl, rfl, _, rfl, ?_⟩
    refine ite2 (fun c1 => ?_) (fun c1 => ?_)
    · refine ⟨_, rfl, x, rfl, xz, _, rfl, z, rfl, zz, _, _, rfl, rfl, _, rfl, ite2 (fun c2 => ?_) (fun c2 => ?_)⟩
      · refine ⟨_, rfl, g1, upd_same, ?_, g3.write hacc⟩
        rw [filt_step ex true (by unfold fB; rw [c1, Bool.true_and]; exact c2)]; rfl
      · exact ⟨g1, by rw [filt_step ex false (by unfold fB; rw [c1, Bool.true_and]; exact Bool.eq_false_iff.mpr c2)]; simp, g3⟩
    · exact iteF ⟨g1, by rw [filt_step ex false (by unfold fB; rw [Bool.eq_false_iff.mpr c1, Bool.false_and])]; simp, g3⟩
  rintro ys H2 ⟨g1, rfl, g3⟩
  rw [List.length_map, List.take_length] at g1
  have gl : (((wordsS ups lab).filter (fB z)).map V.str).length ≤ 60 := by
    rw [List.length_map]
    have := List.length_filter_le (fB z) (wordsS ups lab)
    omega
  refine ⟨_, rfl, acc, rfl, ⟨_, SqL.of g1⟩, fun ac2 hac2 => ?_⟩
  refine comp_lst (xs := ((wordsS ups lab).filter (fB z)).map V.str) (by omega) (fun i ys HX => HX ac2 = some (.lst ys) ∧ ys = ((((wordsS ups lab).filter (fB z)).take i).map (gB z)).map V.str ∧ Same H2 HX)
    (fun i ys HX h => SqL.of (h.2.2 _ _ g1)) (fun i ys HX h => ⟨h.1, by rw [h.2.1, List.length_map, List.length_map, List.length_take]; omega⟩) ⟨upd_same, by simp, (Same.refl H2).new hac2⟩ ?_ ?_
  rotate_left
  · rintro i x ys H3 hx ⟨e1, rfl, e3⟩
    obtain ⟨x, ex, rfl⟩ := strs_get hx
    obtain ⟨mx, fx⟩ := List.mem_filter.mp (List.mem_of_getElem? ex)
    have xl := wle x mx
    have xz : x.length ≤ sizeLine := Nat.le_of_lt (small1000 (by omega))
    have lt : z.length < x.length := by
      unfold fB at fx
      have := of_decide_eq_true ((Bool.and_eq_true _ _).mp fx).2
      omega
    have at1 : atI x.cps.toList (z.length : Int) = some (x.cps.toList.getD z.length 0) := by
      have := cps_len x
      exact atI_nat (by rw [List.getD_eq_getElem?_getD, List.getElem?_eq_getElem (by omega)]; rfl)
    refine ⟨rfl, _, rfl, _, rfl, z, rfl, zz, _, _, _, rfl, rfl, xz, at1, e1, upd_same, ?_, e3.write hac2⟩
    rw [List.take_succ, ex, List.map_append, List.map_append]; rfl
  rintro ys H3 ⟨e1, rfl, e3⟩
  rw [List.length_map, List.take_length] at e1
  have ll : (((wordsS ups lab).filter (fB z)).map (gB z)).length < 64 := by rw [List.length_map]; rw [List.length_map] at gl; omega
  exact ⟨ac2, _, rfl, e1, ll, fun r' H4 s4 => q rd r' H4 ((s1.trans (g3.trans e3)).trans s4)⟩
end
end S20
namespace S20
open PySem L2 W7
section
variable {P : Program} {w : World} {K : PySem.W.Frag} {mg : Str → Option Value} {base : Heap} {k : Nat}
theorem cutS_le (z : Str) (lo hi : Option Int) : (cutS z lo hi).length ≤ z.length := by
  rw [← cps_len, ← cps_len]
  unfold cutS
  show (List.toArray _).toList.length ≤ _
  rw [List.toList_toArray, List.length_take, List.length_drop]
  omega
theorem app_len (x y : Str) : (x ++ y).length = x.length + y.length := by
  have := congrArg List.length (app_list x y)
  rw [List.length_append] at this
  simpa [Str.length] using this
def sp_seek : Sp := fun vs H Q _ => ∃ (p t : Addr) (ups : List Int) (lab : Str) (c : Int), vs = [.ref p, .ref t] ∧ Deck H p c ∧ 0 ≤ c ∧ c < 900000 ∧ TreeAt H t ups lab ∧ ∀ (z : Str) (H' : Hp), z.length ≤ 200 → Kd p (c + 5) H H' → Q (.str z) H'
theorem has_seek (D : Df K mg "_law_seek" s_law_seek) (B : Blt7 mg) (G_law_take : Has P w K mg base "_law_take" k ["pool", "many"] sp_take) (G_law_word : Has P w K mg base "_law_word" k ["tree", "place"] sp_lword) : Has P w K mg base "_law_seek" (k + 1) ["pool", "tree"] sp_seek := by
  refine D.has sc_law_seek (fun _ _ _ _ _ _ us hl => match us, hl with | [_, _], _ => rfl) (fun vs H Q E h => by obtain ⟨p, t, ups, lab, c, rfl, _⟩ := h; rfl) (fun f cdv A outer s H vs Q E hr h => ?_)
  obtain ⟨p, t, ups, lab, c, rfl, dk, c0, c9, tr, q⟩ := h
  refine ⟨_, (pss_cons (ps_set (i := 2) sc_law_seek.nd rfl (by first | exact Or.inl rfl | exact Or.inr rfl) (pe_callH G_law_take hr rfl (pa_cons (pv 0) (pa_cons pe_int pa_nil))))
  (pss_cons (ps_set (i := 3) sc_law_seek.nd rfl (by first | exact Or.inl rfl | exact Or.inr rfl) (pe_callH G_law_word hr rfl (pa_cons (pv 1) (pa_cons (pe_callH G_law_take hr rfl (pa_cons (pv 0) (pa_cons (pe_callB call_len_str rfl B.len bt_len (pa_cons (pe_ix ix_tup (pv 1) pe_int (fun _ _ => rfl)) pa_nil)) pa_nil))) pa_nil))))
  (pss_cons (ps_set (i := 4) sc_law_seek.nd rfl (by first | exact Or.inl rfl | exact Or.inr rfl) (pe_callH G_law_take hr rfl (pa_cons (pv 0) (pa_cons (pe_callB call_len_str rfl B.len bt_len (pa_cons (pv 3) pa_nil)) pa_nil))))
  (pss_cons (ps_set (i := 5) sc_law_seek.nd rfl (by first | exact Or.inl rfl | exact Or.inr rfl) (pe_op op_add (pv 4) (pe_callH G_law_take hr rfl (pa_cons (pv 0) (pa_cons (pe_op op_add (pe_op op_sub (pe_callB call_len_str rfl B.len bt_len (pa_cons (pv 3) pa_nil)) (pv 4)) pe_int) pa_nil)))))
  (pss_cons (ps_set (i := 6) sc_law_seek.nd rfl (by first | exact Or.inl rfl | exact Or.inr rfl) (pe_ix ix_str pe_str (pe_callH G_law_take hr rfl (pa_cons (pv 0) (pa_cons pe_int pa_nil))) (fun _ _ => rfl)))
  (pss_cons (ps_set (i := 7) sc_law_seek.nd rfl (by first | exact Or.inl rfl | exact Or.inr rfl) (pe_lst (pa_cons (pe_slice sl_str (pv 3) po_none (po_some (pv 5))) (pa_cons (pv 3) (pa_cons (pe_slice sl_str (pv 3) (po_some (pv 4)) po_none) (pa_cons (pe_slice sl_str (pv 3) (po_some (pv 4)) (po_some (pv 5))) (pa_cons (pe_op op_add_str (pe_op op_add_str (pe_slice sl_str (pv 3) po_none (po_some (pv 4))) (pv 6)) (pe_slice sl_str (pv 3) (po_some (pe_op op_add (pv 4) pe_int)) po_none)) pa_nil)))))))
  (pss_one (ps_ret (pe_ix ix_list (pe_op op_cat (pv 7) (pe_lst (pa_cons (pe_slice sl_str (pe_op op_add_str (pe_op op_add_str (pe_slice sl_str (pv 3) po_none (po_some (pv 4))) (pv 6)) (pe_slice sl_str (pv 3) (po_some (pv 4)) po_none)) po_none (po_some pe_int)) (pa_cons (pe_op op_mul_str (pv 6) (pe_op op_sub (pv 5) (pv 4))) pa_nil)))) (pv 2) (fun _ _ => rfl)))))))))), ?_⟩
  obtain ⟨u, ht, hu, ok⟩ := id tr
  have m60 := ok.most
  have lpos := ok.pos
  have hlab : lab.length = ups.length := by rw [ok.len]; simp [Str.length]
  have trK : ∀ {c' H'}, Kd p c' H H' → TreeAt H' t ups lab := fun {c' H'} kd => ⟨u, kd.keep _ _ (ne_deck dk ht (by intro _ _ _ e; cases e)) ht, kd.keep _ _ (ne_deck dk hu (by intro _ _ _ e; cases e)) hu, ok⟩
  refine ⟨_, rfl, p, 7, c, rfl, dk, by omega, by decide, by decide, fun way H1 a0 a1 kd1 => ?_⟩
  obtain ⟨_, ht1, _, _⟩ := id (trK kd1)
  refine ⟨_, rfl, _, rfl, _, rfl, t, _, _, _, rfl, rfl, SqT.of ht1, rfl, lab, rfl, by rw [hlab]; exact Nat.le_of_lt (small1000 (by omega)), p, _, c + 1, rfl, kd1.deck, by omega, by rw [hlab]; omega, by rw [hlab]; omega, fun pl H2 b0 b1 kd2 => ?_⟩
  rw [hlab] at b1
  have ku2 := kd1.trans kd2
  refine ⟨t, ups, lab, pl, rfl, trK ku2, by omega, ?_⟩
  have eR : R ups lab.cps.toList pl = W ups lab.cps.toList pl.toNat := by
    unfold R
    rw [if_neg (by omega)]
  rw [eR]
  have wl := W_len ok (pl.toNat + 1) pl.toNat (by omega) (by omega)
  have wp : 0 < (W ups lab.cps.toList pl.toNat).length := by rw [W_eq ok (by omega)]; simp
  have e1 : (mk (W ups lab.cps.toList pl.toNat)).length = (W ups lab.cps.toList pl.toNat).length := mk_len _
  have e2 : (mk (W ups lab.cps.toList pl.toNat)).length ≤ 60 ∧ 0 < (mk (W ups lab.cps.toList pl.toNat)).length := by omega
  clear e1
  generalize mk (W ups lab.cps.toList pl.toNat) = z at e2
  obtain ⟨z60, z0⟩ := e2
  have zz : z.length ≤ sizeLine := Nat.le_of_lt (small1000 (by omega))
  refine ⟨_, rfl, _, rfl, z, rfl, zz, p, _, c + 1 + 1, rfl, ku2.deck, by omega, by omega, by omega, fun first H3 f0 f1 kd3 => ?_⟩
  have ku3 := ku2.trans kd3
  refine ⟨_, rfl, _, rfl, _, rfl, z, rfl, zz, _, rfl, _, _, rfl, rfl, _, _, rfl, rfl, p, _, c + 1 + 1 + 1, rfl, ku3.deck, by omega, by omega, by omega, fun more H4 g0 g1 kd4 => ?_⟩
  have ku4 := ku3.trans kd4
  refine ⟨_, _, rfl, rfl, ?_⟩
  refine ⟨_, rfl, p, 26, _, rfl, ku4.deck, by omega, by decide, by decide, fun ci H5 h0 h1 kd5 => ?_⟩
  have ku5 := (ku4.trans kd5).mono (show c + 1 + 1 + 1 + 1 + 1 ≤ c + 5 by omega)
  obtain ⟨ch, hch, lch⟩ := alph_at h0 h1
  refine ⟨_, _, _, rfl, rfl, by decide +kernel, hch, ?_⟩
  have c1 : (⟨#[ch]⟩ : Str).length = 1 := rfl
  have cl : ∀ lo hi, (cutS z lo hi).length ≤ 60 := fun lo hi => Nat.le_trans (cutS_le z lo hi) z60
  have q1 := cl none (some first)
  have q2 := cl (some (first + 1)) none
  have q3 := cl (some first) none
  have q4 := cl none (some (first + more))
  have q5 := cl (some first) (some (first + more))
  refine ⟨_, rfl, _, rfl, _, rfl, z, rfl, zz, _, rfl, _, rfl, _, rfl, _, rfl, z, rfl, zz, _, rfl, _, rfl, _, rfl, _, rfl, _, rfl, z, rfl, zz, _, rfl, _, rfl, _, rfl, z, rfl, zz, _, rfl, _, _, rfl, rfl, Nat.le_of_lt (small1000 (by omega)), ?_⟩
  refine ⟨_, rfl, _, rfl, _, _, rfl, rfl, _, rfl, z, rfl, zz, _, _, rfl, rfl, by rw [app_len]; exact Nat.le_of_lt (small1000 (by omega)), (by show 5 ≤ sizeLine; decide), fun r1 hr1 => ?_⟩
  refine ⟨_, rfl, _, rfl, _, rfl, _, rfl, z, rfl, zz, _, rfl, _, _, rfl, rfl, Nat.le_of_lt (small1000 (by omega)), ?_⟩
  refine ⟨_, rfl, _, rfl, _, rfl, z, rfl, zz, _, _, rfl, rfl, by rw [app_len]; exact Nat.le_of_lt (small1000 (by omega)), ?_⟩
  have q6 : (cutS z none (some first) ++ (⟨#[ch]⟩ : Str) ++ cutS z (some first) none).length ≤ 121 := by rw [app_len, app_len]; omega
  have q7 := cutS_le (cutS z none (some first) ++ (⟨#[ch]⟩ : Str) ++ cutS z (some first) none) none (some 60)
  have q8 : (cutS z none (some first) ++ (⟨#[ch]⟩ : Str) ++ cutS z (some (first + 1)) none).length ≤ 121 := by rw [app_len, app_len]; omega
  have mo : MulOk (⟨#[ch]⟩ : Str) (first + more - first) := PyProof.Rows.mulOk_of 1 60 (by rw [c1]; decide) (by omega) (by omega) (by decide) (by decide)
  have q9 : (Txt.mul ⟨#[ch]⟩ (first + more - first)).length ≤ 60 := by
    have := mul_len (c := ch) (n := first + more - first) (by omega)
    rw [cps_len] at this
    omega
  refine ⟨_, rfl, _, rfl, Nat.le_of_lt (small1000 (by omega)), _, rfl, _, rfl, _, rfl, _, _, rfl, rfl, _, _, rfl, rfl, mo, (by show 2 ≤ sizeLine; decide), fun r2 hr2 => ?_⟩
  generalize cutS (cutS z none (some first) ++ (⟨#[ch]⟩ : Str) ++ cutS z (some first) none) none (some 60) = x5 at q7
  generalize Txt.mul ⟨#[ch]⟩ (first + more - first) = x6 at q9
  generalize cutS z none (some first) ++ (⟨#[ch]⟩ : Str) ++ cutS z (some (first + 1)) none = x4 at q8 hr2
  generalize cutS z none (some (first + more)) = x0 at q4 hr2
  generalize cutS z (some first) none = x2 at q3 hr2
  generalize cutS z (some first) (some (first + more)) = x3 at q5 hr2
  have k5 := (ku5.new (o := .lst [.str x0, .str z, .str x2, .str x3, .str x4]) hr1)
  have h11 : upd H5 r1 (.lst [.str x0, .str z, .str x2, .str x3, .str x4]) r1 = some (.lst [.str x0, .str z, .str x2, .str x3, .str x4]) := upd_same
  have k6 := k5.new (o := .lst [.str x5, .str x6]) hr2
  have h12 : upd (upd H5 r1 (.lst [.str x0, .str z, .str x2, .str x3, .str x4])) r2 (.lst [.str x5, .str x6]) r2 = some (.lst [.str x5, .str x6]) := upd_same
  have h13 : upd (upd H5 r1 (.lst [.str x0, .str z, .str x2, .str x3, .str x4])) r2 (.lst [.str x5, .str x6]) r1 = some (.lst [.str x0, .str z, .str x2, .str x3, .str x4]) := by rw [upd_ne (ne_of_none h11 hr2)]; exact h11
  generalize upd (upd H5 r1 (.lst [.str x0, .str z, .str x2, .str x3, .str x4])) r2 (.lst [.str x5, .str x6]) = H6 at k6 h12 h13
  refine ⟨r1, r2, _, _, rfl, rfl, h13, h12, (by show 5 + 2 ≤ sizeLine; decide), fun r3 hr3 => ?_⟩
  have el : [V.str x0, .str z, .str x2, .str x3, .str x4] ++ [V.str x5, .str x6] = [x0, z, x2, x3, x4, x5, x6].map V.str := rfl
  rw [el]
  have all : ∀ y ∈ [x0, z, x2, x3, x4, x5, x6], y.length ≤ 200 := fun y hy => by
    simp only [List.mem_cons, List.not_mem_nil, or_false] at hy
    rcases hy with rfl | rfl | rfl | rfl | rfl | rfl | rfl <;> omega
  have ln : [x0, z, x2, x3, x4, x5, x6].length = 7 := rfl
  generalize [x0, z, x2, x3, x4, x5, x6] = zs at all ln
  have k7 := k6.new (o := .lst (zs.map V.str)) hr3
  have at1 : atI (zs.map V.str) way = some (.str (zs.getD way.toNat Str.empty)) := by
    have := strs_at (ss := zs) (i := way.toNat) (by omega)
    rw [show ((way.toNat : Nat) : Int) = way by omega] at this
    exact this
  refine ⟨_, rfl, r3, _, _, _, rfl, rfl, SqL.of upd_same, at1, q _ _ (all _ ?_) k7⟩
  rw [List.getD_eq_getElem?_getD, List.getElem?_eq_getElem (by omega)]
  exact List.getElem_mem _
end
end S20
namespace S20
open PySem L2 W7
section
variable {P : Program} {w : World} {K : PySem.W.Frag} {mg : Str → Option Value} {base : Heap} {k : Nat}
theorem ten59 : (10 : Int) ^ (59 : Int).toNat < bigL := by unfold bigL; decide +kernel
theorem ten590 : (0 : Int) < (10 : Int) ^ (59 : Int).toNat := by decide +kernel
theorem small_big {m : Int} (h : m ≤ 3600) : m < bigL := Int.lt_of_le_of_lt h (by unfold bigL; decide +kernel)
theorem Thg.kd {H H' : Hp} {p : Addr} {c : Int} {x : V} (h : Thg H x) (n : x ≠ .ref p) (d : Kd p c H H') : Thg H' x := by
  cases h with
  | non => exact .non
  | bl b => exact .bl b
  | int i => exact .int i
  | str z => exact .str z
  | lst e => exact .lst (d.keep _ _ (fun z => n (by rw [z])) e)
  | tup e => exact .tup (d.keep _ _ (fun z => n (by rw [z])) e)
  | dct e => exact .dct (d.keep _ _ (fun z => n (by rw [z])) e)
def sp_things : Sp := fun vs H Q _ => ∃ (p : Addr) (m c : Int), vs = [.ref p, .int m] ∧ Deck H p c ∧ c < 900000 ∧ 0 < m ∧ m ≤ 3600 ∧ ∀ (r : Addr) (xs : List V) (H' : Hp), Kd p (c + 3) H H' → r ≠ p → H' r = some (.lst xs) → (∀ x ∈ xs, Thg H' x) → Q (.ref r) H'
theorem has_things (D : Df K mg "_law_things" s_law_things) (B : Blt7 mg) (G_law_take : Has P w K mg base "_law_take" k ["pool", "many"] sp_takeL) : Has P w K mg base "_law_things" (k + 1) ["pool", "many"] sp_things := by
  refine D.has sc_law_things (fun _ _ _ _ _ _ us hl => match us, hl with | [_, _], _ => rfl) (fun vs H Q E h => by obtain ⟨p, m, c, rfl, _⟩ := h; rfl) (fun f cdv A outer s H vs Q E hr h => ?_)
  obtain ⟨p, m, c, rfl, dk, c9, m0, m1, q⟩ := h
  refine ⟨_, (pss_cons (ps_set (i := 2) sc_law_things.nd rfl (by first | exact Or.inl rfl | exact Or.inr rfl) (pe_lst (pa_cons pe_int (pa_cons (pe_op op_sub (pv 1) pe_int) (pa_cons (pv 1) (pa_cons (pe_op op_add (pv 1) pe_int) (pa_cons (pe_op op_sub pe_int pe_int) (pa_cons (pe_op op_sub pe_int (pv 1)) (pa_cons (pe_op op_add (pv 1) (pe_callH G_law_take hr rfl (pa_cons (pv 0) (pa_cons (pe_op op_pow pe_int pe_int) pa_nil)))) pa_nil)))))))))
  (pss_cons (ps_set (i := 2) sc_law_things.nd rfl (by first | exact Or.inl rfl | exact Or.inr rfl) (pe_op op_cat (pv 2) (pe_lst (pa_cons (pe_op op_sub (pe_op op_sub pe_int pe_int) (pe_callH G_law_take hr rfl (pa_cons (pv 0) (pa_cons (pe_op op_pow pe_int pe_int) pa_nil)))) (pa_cons pe_bl (pa_cons pe_bl (pa_cons pe_non (pa_cons pe_str (pa_cons pe_str (pa_cons (pe_lst pa_nil) (pa_cons (pe_lst (pa_cons pe_int pa_nil)) (pa_cons (pe_tup pa_nil) (pa_cons (pe_tup (pa_cons pe_int pa_nil)) pa_nil)))))))))))))
  (pss_one (ps_ret (pe_op op_cat (pv 2) (pe_lst (pa_cons pe_dnewK (pa_cons (pe_disp (pps_cons pe_int pe_int pps_nil) rfl rfl (by simp) (by decide)) (pa_cons (pe_callH G_law_take hr rfl (pa_cons (pv 0) (pa_cons (pv 1) pa_nil))) pa_nil))))))))), ?_⟩
  refine ⟨_, rfl, _, _, rfl, rfl, _, rfl, _, rfl, _, _, rfl, rfl, _, _, rfl, rfl, _, rfl, _, _, rfl, rfl, _, rfl, _, rfl, _, _, rfl, rfl, ⟨by decide, by decide, by decide⟩, p, _, c, rfl, dk, by omega, ten590, ten59, fun n1 H1 a0 a1 kd1 => ?_⟩
  clear a0 a1
  refine ⟨_, _, rfl, rfl, (by show 7 ≤ sizeLine; decide), fun l1 hl1 => ?_⟩
  have l1p : l1 ≠ p := kd1.deck.ne hl1
  have ku1 := kd1.new (o := .lst [V.int 0, V.int (m - 1), V.int m, V.int (m + 1), V.int (0 - 1), V.int (0 - m), V.int (m + n1)]) hl1
  have h1 : upd H1 l1 (.lst [V.int 0, V.int (m - 1), V.int m, V.int (m + 1), V.int (0 - 1), V.int (0 - m), V.int (m + n1)]) l1 = some (.lst ([0, m - 1, m, m + 1, 0 - 1, 0 - m, m + n1].map V.int)) := upd_same
  show gName 2 (V.ref l1) _ (upd H1 l1 _) _
  generalize upd H1 l1 (.lst [V.int 0, V.int (m - 1), V.int m, V.int (m + 1), V.int (0 - 1), V.int (0 - m), V.int (m + n1)]) = H2 at ku1 h1
  refine ⟨_, rfl, _, _, rfl, rfl, _, rfl, _, _, rfl, rfl, ⟨by decide, by decide, by decide⟩, p, _, _, rfl, ku1.deck, by omega, ten590, ten59, fun n2 H3 b0 b1 kd3 => ?_⟩
  clear b0 b1
  have ku3 := ku1.trans kd3
  have h13 := kd3.keep _ _ l1p h1
  refine ⟨_, _, rfl, rfl, (by show 0 ≤ sizeLine; decide), fun e1 he1 => ⟨(by show 1 ≤ sizeLine; decide), fun e2 he2 => ⟨(by show 0 ≤ sizeLine; decide), fun e3 he3 => ⟨(by show 1 ≤ sizeLine; decide), fun e4 he4 => ?_⟩⟩⟩⟩
  have k4 := ((((Kd.refl ku3.deck).new (o := .lst []) he1).new (o := .lst [.int 0]) he2).new (o := .tup []) he3).new (o := .tup [.int 0]) he4
  have e1p : e1 ≠ p := ku3.deck.ne he1
  have e2p : e2 ≠ p := ((Kd.refl ku3.deck).new (o := .lst []) he1).deck.ne he2
  have e3p : e3 ≠ p := (((Kd.refl ku3.deck).new (o := .lst []) he1).new (o := .lst [.int 0]) he2).deck.ne he3
  have e4p : e4 ≠ p := ((((Kd.refl ku3.deck).new (o := .lst []) he1).new (o := .lst [.int 0]) he2).new (o := .tup []) he3).deck.ne he4
  have g4 : upd (upd (upd (upd H3 e1 (.lst [])) e2 (.lst [.int 0])) e3 (.tup [])) e4 (.tup [.int 0]) e4 = some (.tup [.int 0]) := upd_same
  have g3 : upd (upd (upd (upd H3 e1 (.lst [])) e2 (.lst [.int 0])) e3 (.tup [])) e4 (.tup [.int 0]) e3 = some (.tup []) := by rw [upd_ne (ne_of_none upd_same he4)]; exact upd_same
  have g2 : upd (upd (upd (upd H3 e1 (.lst [])) e2 (.lst [.int 0])) e3 (.tup [])) e4 (.tup [.int 0]) e2 = some (.lst [.int 0]) := by
    have z := (Same.refl (upd (upd H3 e1 (.lst [])) e2 (.lst [.int 0]))).new (o := .tup []) he3 |>.new (o := .tup [.int 0]) he4
    exact z _ _ upd_same
  have g1 : upd (upd (upd (upd H3 e1 (.lst [])) e2 (.lst [.int 0])) e3 (.tup [])) e4 (.tup [.int 0]) e1 = some (.lst []) := by
    have z := ((Same.refl (upd H3 e1 (.lst []))).new (o := .lst [.int 0]) he2).new (o := .tup []) he3 |>.new (o := .tup [.int 0]) he4
    exact z _ _ upd_same
  have s4 : Same H3 (upd (upd (upd (upd H3 e1 (.lst [])) e2 (.lst [.int 0])) e3 (.tup [])) e4 (.tup [.int 0])) := ((((Same.refl H3).new he1).new he2).new he3).new he4
  show (fun HH => _) (upd (upd (upd (upd H3 e1 (.lst [])) e2 (.lst [.int 0])) e3 (.tup [])) e4 (.tup [.int 0]))
  generalize upd (upd (upd (upd H3 e1 (.lst [])) e2 (.lst [.int 0])) e3 (.tup [])) e4 (.tup [.int 0]) = H4 at k4 g1 g2 g3 g4 s4
  refine ⟨(by show 10 ≤ sizeLine; decide), fun l2 hl2 => ?_⟩
  have ku4 := ku3.trans k4
  have ku5 := ku4.new (o := .lst [.int (0 - 1 - n2), .bl true, .bl false, .non, .str "0", .str "a", .ref e1, .ref e2, .ref e3, .ref e4]) hl2
  have s5 : Same H4 (upd H4 l2 (.lst [.int (0 - 1 - n2), .bl true, .bl false, .non, .str "0", .str "a", .ref e1, .ref e2, .ref e3, .ref e4])) := (Same.refl H4).new hl2
  have h25 : upd H4 l2 (.lst [.int (0 - 1 - n2), .bl true, .bl false, .non, .str "0", .str "a", .ref e1, .ref e2, .ref e3, .ref e4]) l2 = some (.lst [.int (0 - 1 - n2), .bl true, .bl false, .non, .str "0", .str "a", .ref e1, .ref e2, .ref e3, .ref e4]) := upd_same
  show (fun HH => _) (upd H4 l2 (.lst [.int (0 - 1 - n2), .bl true, .bl false, .non, .str "0", .str "a", .ref e1, .ref e2, .ref e3, .ref e4]))
  generalize upd H4 l2 (.lst [.int (0 - 1 - n2), .bl true, .bl false, .non, .str "0", .str "a", .ref e1, .ref e2, .ref e3, .ref e4]) = H5 at ku5 s5 h25
  refine ⟨l1, l2, _, _, rfl, rfl, s5 _ _ (s4 _ _ h13), h25, (by show 17 ≤ sizeLine; decide), fun l3 hl3 => ?_⟩
  have th5 : ∀ x ∈ [0, m - 1, m, m + 1, 0 - 1, 0 - m, m + n1].map V.int ++ [.int (0 - 1 - n2), .bl true, .bl false, .non, .str "0", .str "a", .ref e1, .ref e2, .ref e3, .ref e4], Thg H5 x ∧ x ≠ .ref p := by
    intro x hx
    rcases List.mem_append.mp hx with hx | hx
    · obtain ⟨i, _, rfl⟩ := List.mem_map.mp hx
      exact ⟨.int i, nofun⟩
    · simp only [List.mem_cons, List.not_mem_nil, or_false] at hx
      rcases hx with rfl | rfl | rfl | rfl | rfl | rfl | rfl | rfl | rfl | rfl
      · exact ⟨.int _, nofun⟩
      · exact ⟨.bl _, nofun⟩
      · exact ⟨.bl _, nofun⟩
      · exact ⟨.non, nofun⟩
      · exact ⟨.str _, nofun⟩
      · exact ⟨.str _, nofun⟩
      · exact ⟨.lst (s5 _ _ g1), fun z => by injection z with z; exact e1p z⟩
      · exact ⟨.lst (s5 _ _ g2), fun z => by injection z with z; exact e2p z⟩
      · exact ⟨.tup (s5 _ _ g3), fun z => by injection z with z; exact e3p z⟩
      · exact ⟨.tup (s5 _ _ g4), fun z => by injection z with z; exact e4p z⟩
  have l3n : (([0, m - 1, m, m + 1, 0 - 1, 0 - m, m + n1].map V.int ++ [.int (0 - 1 - n2), .bl true, .bl false, .non, .str "0", .str "a", .ref e1, .ref e2,   .ref e3, .ref e4] : List V)).length = 17 := rfl
  generalize ([0, m - 1, m, m + 1, 0 - 1, 0 - m, m + n1].map V.int ++ [.int (0 - 1 - n2), .bl true, .bl false, .non, .str "0", .str "a", .ref e1, .ref e2, .ref e3, .ref e4] : List V) = xs3 at th5 l3n ⊢
  have l3p : l3 ≠ p := ku5.deck.ne hl3
  have ku6 := ku5.new (o := .lst xs3) hl3
  have s6 : Same H5 (upd H5 l3 (.lst xs3)) := (Same.refl H5).new hl3
  have h36 : upd H5 l3 (.lst xs3) l3 = some (.lst xs3) := upd_same
  show (fun HH => _) (upd H5 l3 (.lst xs3))
  generalize upd H5 l3 (.lst xs3) = H6 at ku6 s6 h36
  refine ⟨_, rfl, fun d1 hd1 => ?_⟩
  intro d2 hd2
  have k7 := ((Kd.refl ku6.deck).new (o := .dK []) hd1).new (o := .dK []) hd2
  have j1 : upd (upd H6 d1 (.dK [])) d2 (.dK []) d1 = some (.dK []) := by rw [upd_ne (ne_of_none upd_same hd2)]; exact upd_same
  have d2p : d2 ≠ p := ((Kd.refl ku6.deck).new (o := .dK []) hd1).deck.ne hd2
  refine ⟨upd_same, [(.inl 0, .int 0)], rfl, by decide, ?_⟩
  have s7 : Same H6 (upd (upd (upd H6 d1 (.dK [])) d2 (.dK [])) d2 (.dK (mergeK [] [(.inl 0, .int 0)]))) := by rw [upd_upd]; exact ((Same.refl H6).new hd1).new hd2
  have k7' : Kd p (c + 1 + 1) H6 (upd (upd (upd H6 d1 (.dK [])) d2 (.dK [])) d2 (.dK (mergeK [] [(.inl 0, .int 0)]))) := by rw [upd_upd]; exact ((Kd.refl ku6.deck).new hd1).new hd2
  have j2 : upd (upd (upd H6 d1 (.dK [])) d2 (.dK [])) d2 (.dK (mergeK [] [(.inl 0, .int 0)])) d2 = some (.dK (mergeK [] [(.inl 0, .int 0)])) := upd_same
  have j1' : upd (upd (upd H6 d1 (.dK [])) d2 (.dK [])) d2 (.dK (mergeK [] [(.inl 0, .int 0)])) d1 = some (.dK []) := by rw [upd_ne (ne_of_none upd_same hd2)]; exact j1
  show (fun HH => _) (upd (upd (upd H6 d1 (.dK [])) d2 (.dK [])) d2 (.dK (mergeK [] [(.inl 0, .int 0)])))
  generalize upd (upd (upd H6 d1 (.dK [])) d2 (.dK [])) d2 (.dK (mergeK [] [(.inl 0, .int 0)])) = H7 at s7 k7' j2 j1'
  have d1p : d1 ≠ p := ku6.deck.ne hd1
  refine ⟨_, rfl, _, rfl, p, m, _, rfl, k7'.deck, by omega, m0, small_big m1, fun n3 H8 c0 c1 kd8 => ?_⟩
  refine ⟨(by show 3 ≤ sizeLine; decide), fun l4 hl4 => ?_⟩
  have ku8 := (ku6.trans k7').trans kd8
  have h38 := kd8.keep _ _ l3p (s7 _ _ h36)
  have j18 := kd8.keep _ _ d1p j1'
  have j28 := kd8.keep _ _ d2p j2
  have th8 : ∀ x ∈ xs3, Thg H8 x := fun x hx => (((th5 x hx).1.same s6).same s7).kd (th5 x hx).2 kd8
  have l4p : l4 ≠ p := ku8.deck.ne hl4
  have s9 : Same H8 (upd H8 l4 (.lst [.ref d1, .ref d2, .int n3])) := (Same.refl H8).new hl4
  have ku9 := ku8.new (o := .lst [.ref d1, .ref d2, .int n3]) hl4
  have h49 : upd H8 l4 (.lst [.ref d1, .ref d2, .int n3]) l4 = some (.lst [.ref d1, .ref d2, .int n3]) := upd_same
  show (fun HH => _) (upd H8 l4 (.lst [.ref d1, .ref d2, .int n3]))
  generalize upd H8 l4 (.lst [.ref d1, .ref d2, .int n3]) = H9 at s9 ku9 h49
  refine ⟨l3, l4, _, _, rfl, rfl, s9 _ _ h38, h49, by rw [l3n]; show 20 ≤ sizeLine; decide, fun r hr => ?_⟩
  refine q r _ _ ((ku9.new hr).mono (by omega)) (ku9.deck.ne hr) upd_same fun x hx => ?_
  have sR := (Same.refl H9).new (o := .lst (xs3 ++ [.ref d1, .ref d2, .int n3])) hr
  rcases List.mem_append.mp hx with hx | hx
  · exact ((th8 x hx).same s9).same sR
  · simp only [List.mem_cons, List.not_mem_nil, or_false] at hx
    rcases hx with rfl | rfl | rfl
    · exact .dct (sR _ _ (s9 _ _ j18))
    · exact .dct (sR _ _ (s9 _ _ j28))
    · exact .int _
end
end S20
namespace S20
open PySem L2 W7
section
variable {P : Program} {w : World} {K : PySem.W.Frag} {mg : Str → Option Value} {base : Heap} {k : Nat}
def Ans (H : Hp) (ups : List Int) (lab : Str) (zs : List Str) (way : Int) (x : V) (b : Bool) : Prop :=
  (way = 0 ∧ Thg H x ∧ b = below x (zs.length : Int)) ∨ ∃ z, x = .str z ∧ ((way = 1 ∧ (b = true ↔ z ∈ zs)) ∨ ((way = 2 ∨ way = 3) ∧ (b = true ↔ Red ups lab z)))
def word (way : Int) (b : Bool) : Str := if b = true then "told" else if way = 0 then "number" else "word"
def sp_kind : Sp := fun vs H Q _ => ∃ (way : Int) (t : Addr) (x : V) (ups : List Int) (lab : Str) (zs : List Str) (b : Bool), vs = [.int way, .ref t, x] ∧ TreeAt H t ups lab ∧ UL ups lab zs ∧ zs.length ≤ 3600 ∧ Ans H ups lab zs way x b ∧ ∀ H', Same H H' → Q (.str (word way b)) H'
theorem has_kind (EX : Exs K mg) (D : Df K mg "_law_kind" s_law_kind) (B : Blt8 mg) (Gn : HasX P w K mg base "nth_word" k ["tree", "k"] (sp_nth EX.c_NoNumber)) (Gm : HasX P w K mg base "number_of" k ["tree", "word"] (sp_num EX.c_NoWord))
    (Gf : HasX P w K mg base "fronts_of" k ["tree", "word"] (sp_fr EX.c_NoWord)) (Gb : HasX P w K mg base "behinds_of" k ["tree", "word"] (sp_fr EX.c_NoWord)) : Has P w K mg base "_law_kind" (k + 1) ["way", "tree", "thing"] sp_kind := by
  obtain ⟨f_nth_word, dn, Fn, bn, kn, m_nth_word⟩ := Gn
  obtain ⟨f_number_of, dm, Fm, bm, km, m_number_of⟩ := Gm
  obtain ⟨f_fronts_of, df, Ff, bf, kf, m_fronts_of⟩ := Gf
  obtain ⟨f_behinds_of, db, Fb, bb, kb, m_behinds_of⟩ := Gb
  refine D.has sc_law_kind (fun _ _ _ _ _ _ us hl => match us, hl with | [_, _, _], _ => rfl) (fun vs H Q E h => by obtain ⟨way, t, x, ups, lab, zs, b, rfl, _⟩ := h; rfl) (fun f cdv A outer s H vs Q E hr h => ?_)
  obtain ⟨way, t, x, ups, lab, zs, b, rfl, tr, ul, zl, ans, q⟩ := h
  have pick : ∃ (fa : Addr) (fd : FuncData) (ps : List Str) (sp : Sp) (C : Addr) (b1 b2 : Bool), atI [V.ref f_nth_word, .ref f_number_of, .ref f_fronts_of, .ref f_behinds_of] way = some (.ref fa) ∧ FnOk P w K mg base (CXE P w) k fa fd ps sp ∧ Binds K fd ps [] ∧ PySem.W.keepIn K (.ref fa) = true ∧
      ExK K C ∧ PySem.W.exmOne K (.ref C) (.ref EX.c_UpError) = some true ∧ PySem.W.kitOne K (.ref C) (.ref EX.c_NoNumber) = some b1 ∧ PySem.W.kitOne K (.ref C) (.ref EX.c_NoWord) = some b2 ∧ PySem.W.kitOne K (.ref C) (.type "ValueError") = some true ∧
      PySem.W.kitAny K (.ref C) ([EX.c_NoChange, EX.c_NoCover, EX.c_NoLeaf, EX.c_NoLetter, EX.c_NoLine, EX.c_NoPattern, EX.c_NoPlace].map Value.ref) = some false ∧
      PySem.W.kitAny K (.ref C) ([EX.c_NoRows, EX.c_NoRuns, EX.c_NoText, EX.c_NoTree, EX.c_NoTries, EX.c_TooMany].map Value.ref) = some false ∧ b2 = !b1 ∧ (b = false → (if b1 = true then ("number" : Str) else "word") = word way b) ∧
      ∀ (H0 : Hp) (Q : VK) (E : XK), Same H H0 → (b = true → ∀ v H', Same H0 H' → Q v H') → (b = false → ∀ a H', Same H0 H' → H' a = none → E (.ref a) (some C) H') → sp ([.ref t, x] ++ []) H0 Q E := by
    rcases ans with ⟨rfl, th, rfl⟩ | ⟨z, rfl, ⟨rfl, hb⟩ | ⟨hw, hb⟩⟩
    · exact ⟨f_nth_word, dn, _, _, EX.c_NoNumber, true, false, rfl, Fn, bn, kn, EX.z_NoNumber, EX.u_NoNumber, EX.nn, EX.nw, EX.nv, EX.n1, EX.n2, rfl, (fun e => by unfold word; rw [e]; rfl), fun H0 Q E s0 q1 q2 => ⟨t, ups, lab, x, zs, rfl, tr.same s0, ul, th.same s0, fun e z H' s => q1 e _ H' s, fun e a H' s ha => q2 e a H' s ha⟩⟩
    · exact ⟨f_number_of, dm, _, _, EX.c_NoWord, false, true, rfl, Fm, bm, km, EX.z_NoWord, EX.u_NoWord, EX.wn, EX.ww, EX.wv, EX.w1, EX.w2, rfl, (fun e => by unfold word; rw [e]; rfl), fun H0 Q E s0 q1 q2 => ⟨t, ups, lab, z, zs, rfl, tr.same s0, ul, zl, fun e v H' s => q1 (hb.mpr e) _ H' s, fun e a H' s ha => q2 (Bool.eq_false_iff.mpr fun c => e (hb.mp c)) a H' s ha⟩⟩
    · rcases hw with rfl | rfl
      · exact ⟨f_fronts_of, df, _, _, EX.c_NoWord, false, true, rfl, Ff, bf, kf, EX.z_NoWord, EX.u_NoWord, EX.wn, EX.ww, EX.wv, EX.w1, EX.w2, rfl, (fun e => by unfold word; rw [e]; rfl), fun H0 Q E s0 q1 q2 => ⟨t, ups, lab, z, rfl, tr.same s0, fun e v H' s => q1 (hb.mpr e) _ H' s, fun e a H' s ha => q2 (Bool.eq_false_iff.mpr fun c => e (hb.mp c)) a H' s ha⟩⟩
      · exact ⟨f_behinds_of, db, _, _, EX.c_NoWord, false, true, rfl, Fb, bb, kb, EX.z_NoWord, EX.u_NoWord, EX.wn, EX.ww, EX.wv, EX.w1, EX.w2, rfl, (fun e => by unfold word; rw [e]; rfl), fun H0 Q E s0 q1 q2 => ⟨t, ups, lab, z, rfl, tr.same s0, fun e v H' s => q1 (hb.mpr e) _ H' s, fun e a H' s ha => q2 (Bool.eq_false_iff.mpr fun c => e (hb.mp c)) a H' s ha⟩⟩
  obtain ⟨fa, fd, ps, sp, C, b1, b2, hat, F, bd, kp, Z, eu, e1, e2, ev, e3, e4, e5, ew, call⟩ := pick
  refine ⟨_, (pss_cons (ps_set (i := 3) sc_law_kind.nd rfl (by first | exact Or.inl rfl | exact Or.inr rfl) pe_non)
  (pss_cons (ps_try (fun pn xe E σ0 hx => (pss_one (ps_expr (pe_callXV P w K mg base hx hr (pe_ix (ix_listK K) (pe_lst (pa_cons (pe_glob (x := "nth_word") (v := .ref f_nth_word) rfl m_nth_word rfl) (pa_cons (pe_glob (x := "number_of") (v := .ref f_number_of) rfl m_number_of rfl) (pa_cons (pe_glob (x := "fronts_of") (v := .ref f_fronts_of) rfl m_fronts_of rfl) (pa_cons (pe_glob (x := "behinds_of") (v := .ref f_behinds_of) rfl m_behinds_of rfl) pa_nil))))) (pv 0) (fun _ _ => rfl)) (pa_cons (pv 1) (pa_cons (pv 2) pa_nil))))))
  (ph_as rfl EX.m_UpError sc_law_kind.nd (i := 4) rfl rfl (fun a => (pss_one (ps_set (i := 3) sc_law_kind.nd rfl (by first | exact Or.inl rfl | exact Or.inr rfl) (pv 4))))))
  (pss_cons (ps_if (pt_cmpR op_isN (pv 3) pe_non (nomark _))
  (pss_one (ps_ret pe_str))
  pss_nil)
  (pss_cons (ps_set (i := 5) sc_law_kind.nd rfl (by first | exact Or.inl rfl | exact Or.inr rfl) (pe_lst (pa_cons (pe_callB (call_isinstE K) rfl B.isinstance bt_isinstance (pa_cons (pv 3) (pa_cons (pe_glob (x := "NoNumber") (v := .ref EX.c_NoNumber) rfl EX.m_NoNumber rfl) pa_nil))) (pa_cons (pe_callB (call_isinstE K) rfl B.isinstance bt_isinstance (pa_cons (pv 3) (pa_cons (pe_glob (x := "NoWord") (v := .ref EX.c_NoWord) rfl EX.m_NoWord rfl) pa_nil))) pa_nil))))
  (pss_cons (ps_set (i := 6) sc_law_kind.nd rfl (by first | exact Or.inl rfl | exact Or.inr rfl) (pe_callB (call_isinstET K) rfl B.isinstance bt_isinstance (pa_cons (pv 3) (pa_cons (pe_tup (pa_cons (pe_glob (x := "NoChange") (v := .ref EX.c_NoChange) rfl EX.m_NoChange rfl) (pa_cons (pe_glob (x := "NoCover") (v := .ref EX.c_NoCover) rfl EX.m_NoCover rfl) (pa_cons (pe_glob (x := "NoLeaf") (v := .ref EX.c_NoLeaf) rfl EX.m_NoLeaf rfl) (pa_cons (pe_glob (x := "NoLetter") (v := .ref EX.c_NoLetter) rfl EX.m_NoLetter rfl) (pa_cons (pe_glob (x := "NoLine") (v := .ref EX.c_NoLine) rfl EX.m_NoLine rfl) (pa_cons (pe_glob (x := "NoPattern") (v := .ref EX.c_NoPattern) rfl EX.m_NoPattern rfl) (pa_cons (pe_glob (x := "NoPlace") (v := .ref EX.c_NoPlace) rfl EX.m_NoPlace rfl) pa_nil)))))))) pa_nil))))
  (pss_cons (ps_if (PW.pt (pw_or (pt_val (pv 6)) (pw_or1 (pt_val (pe_callB (call_isinstET K) rfl B.isinstance bt_isinstance (pa_cons (pv 3) (pa_cons (pe_tup (pa_cons (pe_glob (x := "NoRows") (v := .ref EX.c_NoRows) rfl EX.m_NoRows rfl) (pa_cons (pe_glob (x := "NoRuns") (v := .ref EX.c_NoRuns) rfl EX.m_NoRuns rfl) (pa_cons (pe_glob (x := "NoText") (v := .ref EX.c_NoText) rfl EX.m_NoText rfl) (pa_cons (pe_glob (x := "NoTree") (v := .ref EX.c_NoTree) rfl EX.m_NoTree rfl) (pa_cons (pe_glob (x := "NoTries") (v := .ref EX.c_NoTries) rfl EX.m_NoTries rfl) (pa_cons (pe_glob (x := "TooMany") (v := .ref EX.c_TooMany) rfl EX.m_TooMany rfl) pa_nil))))))) pa_nil)))))))
  (pss_one (ps_ret pe_str))
  pss_nil)
  (pss_cons (ps_if (PW.pt (pw_or (pt_cmpR op_ne (pe_countB K (pv 5) pe_bl) pe_int (nomark _)) (pw_or1 (pt_not (pt_val (pe_callB (call_isinstEB K) rfl B.isinstance bt_isinstance (pa_cons (pv 3) (pa_cons (pe_bltn (v := .ty "ValueError") rfl B.ValueError_ bt_ValueError rfl) pa_nil))))))))
  (pss_one (ps_ret pe_str))
  pss_nil)
  (pss_one (ps_ret (pe_ix ix_list (pe_lst (pa_cons pe_str (pa_cons pe_str pa_nil))) (pe_indexT K (pv 5) pe_bl) (fun _ _ => rfl))))))))))), ?_⟩
  refine ⟨rfl, (by show 4 ≤ sizeLine; decide), fun lf hlf => ?_⟩
  have s0 : Same H (upd H lf (.lst [.ref f_nth_word, .ref f_number_of, .ref f_fronts_of, .ref f_behinds_of])) := (Same.refl H).new hlf
  refine ⟨_, rfl, lf, _, way, _, rfl, rfl, SqL.of upd_same, hat, fa, fd, ps, sp, rfl, F, bd, kp, _, rfl, _, rfl, call _ _ _ s0 (fun eb v H1 s1 => ?_) (fun eb a H1 s1 ha => ?_)⟩
  · refine ⟨_, rfl, rfl, _, rfl, iteT ?_⟩
    have := q H1 (s0.trans s1)
    unfold word at this
    rw [if_pos eb] at this
    exact this
  · refine ⟨a, C, rfl, rfl, eu, ?_⟩
    have sA : Same H (upd H1 a (excO a C)) := (s0.trans s1).new ha
    have hA : upd H1 a (excO a C) a = some (excO a C) := upd_same
    generalize upd H1 a (excO a C) = HA at sA hA
    refine ⟨_, rfl, ?_⟩
    refine ⟨_, rfl, rfl, _, rfl, iteF ?_⟩
    refine ⟨_, rfl, a, C, _, b1, rfl, hA, Z, e1, _, rfl, a, C, _, b2, rfl, hA, Z, e2, (by show 2 ≤ sizeLine; decide), fun ls hls => ?_⟩
    have sB : Same HA (upd HA ls (.lst [.bl b1, .bl b2])) := (Same.refl HA).new hls
    have hB : upd HA ls (.lst [.bl b1, .bl b2]) ls = some (.lst ([b1, b2].map V.bl)) := upd_same
    show gName 5 (V.ref ls) _ (upd HA ls (.lst [.bl b1, .bl b2])) _
    generalize upd HA ls (.lst [.bl b1, .bl b2]) = HB at sB hB
    refine ⟨_, rfl, (by show 7 ≤ sizeLine; decide), fun t7 ht7 => ?_⟩
    have sC : Same HB (upd HB t7 (.tup ([EX.c_NoChange, EX.c_NoCover, EX.c_NoLeaf, EX.c_NoLetter, EX.c_NoLine, EX.c_NoPattern, EX.c_NoPlace].map V.ref))) := (Same.refl HB).new ht7
    refine ⟨a, C, t7, [EX.c_NoChange, EX.c_NoCover, EX.c_NoLeaf, EX.c_NoLetter, EX.c_NoLine, EX.c_NoPattern, EX.c_NoPlace], false, rfl, sC _ _ (sB _ _ hA), upd_same, Z, e3, ?_⟩
    have hC := sC _ _ hB
    have hCA := sC _ _ (sB _ _ hA)
    show gName 6 (V.bl false) _ (upd HB t7 (.tup ([EX.c_NoChange, EX.c_NoCover, EX.c_NoLeaf, EX.c_NoLetter, EX.c_NoLine, EX.c_NoPattern, EX.c_NoPlace].map V.ref))) _
    generalize upd HB t7 (.tup ([EX.c_NoChange, EX.c_NoCover, EX.c_NoLeaf, EX.c_NoLetter, EX.c_NoLine, EX.c_NoPattern, EX.c_NoPlace].map V.ref)) = HC at sC hC hCA
    refine ⟨_, rfl, _, rfl, iteF ?_⟩
    refine ⟨_, rfl, (by show 6 ≤ sizeLine; decide), fun t6 ht6 => ?_⟩
    have sD : Same HC (upd HC t6 (.tup ([EX.c_NoRows, EX.c_NoRuns, EX.c_NoText, EX.c_NoTree, EX.c_NoTries, EX.c_TooMany].map V.ref))) := (Same.refl HC).new ht6
    refine ⟨a, C, t6, [EX.c_NoRows, EX.c_NoRuns, EX.c_NoText, EX.c_NoTree, EX.c_NoTries, EX.c_TooMany], false, rfl, sD _ _ hCA, upd_same, Z, e4, _, rfl, iteF ?_⟩
    have hD := sD _ _ hC
    have hDA := sD _ _ hCA
    show (fun HH => _) (upd HC t6 (.tup ([EX.c_NoRows, EX.c_NoRuns, EX.c_NoText, EX.c_NoTree, EX.c_NoTries, EX.c_TooMany].map V.ref)))
    generalize upd HC t6 (.tup ([EX.c_NoRows, EX.c_NoRuns, EX.c_NoText, EX.c_NoTree, EX.c_NoTries, EX.c_TooMany].map V.ref)) = HD at sD hD hDA
    have sHD : Same H HD := ((sA.trans sB).trans sC).trans sD
    have c1 : [b1, b2].count true = 1 := by rw [e5]; cases b1 <;> rfl
    refine ⟨_, rfl, .inl ⟨rfl, _, SqL.of hD⟩, ls, [b1, b2], true, rfl, rfl, hD, rfl, _, rfl, ?_⟩
    rw [c1]
    refine iteNS (by rfl) ?_
    refine ⟨_, rfl, a, C, "ValueError", true, rfl, hDA, Z, ev, _, rfl, iteF ?_⟩
    refine ⟨(by show 2 ≤ sizeLine; decide), fun lr hlr => ?_⟩
    have sE : Same HD (upd HD lr (.lst [.str "number", .str "word"])) := (Same.refl HD).new hlr
    refine ⟨_, rfl, .inl ⟨rfl, _, SqL.of (sE _ _ hD)⟩, ls, [b1, b2], true, rfl, rfl, sE _ _ hD, by rw [e5]; cases b1 <;> simp, (by show 2 ≤ 10000; decide), ?_⟩
    refine ⟨lr, _, _, .str (if b1 = true then "number" else "word"), rfl, rfl, SqL.of upd_same, by rw [e5]; cases b1 <;> rfl, ?_⟩
    rw [ew eb]
    exact q _ (sHD.trans sE)
end
end S20
namespace S20
open PySem L2 W7
section
variable {P : Program} {w : World} {K : PySem.W.Frag} {mg : Str → Option Value} {base : Heap} {k : Nat}
theorem has_sorted (l : List Str) : ∃ ss : List Str, ss.Perm l ∧ PyProof.Rows.sortedS ss = true := by
  refine ⟨l.mergeSort fun a b => decide (¬ b.cps.toList < a.cps.toList), List.mergeSort_perm _ _, sortedS_of _ ?_⟩
  have := List.pairwise_mergeSort (le := fun a b : Str => decide (¬ b.cps.toList < a.cps.toList)) (fun a b c h1 h2 => by
    have h1 := of_decide_eq_true h1
    have h2 := of_decide_eq_true h2
    exact decide_eq_true (List.not_lt.mpr (List.le_trans (List.not_lt.mp h1) (List.not_lt.mp h2)))) (fun a b => by
    rw [Bool.or_eq_true, decide_eq_true_eq, decide_eq_true_eq]
    exact (List.le_total a.cps.toList b.cps.toList).imp (fun h => List.not_lt.mpr h) (fun h => List.not_lt.mpr h)) l
  exact this.imp fun h => of_decide_eq_true h
theorem in_reads {kvs : List (Key × V)} {S : Str → Prop} (h : Kp kvs S) (z : Str) : (valV kvs (.inr z)).isSome = true ↔ S z := by
  rw [← kzs_mem h z]
  constructor
  · intro e
    obtain ⟨v, hv⟩ := Option.isSome_iff_exists.mp e
    have m := valV_mem hv
    rw [kzs_keys h] at m
    obtain ⟨y, hy, e2⟩ := List.mem_map.mp m
    injection e2 with e2
    rw [← e2]; exact hy
  · intro m
    obtain ⟨v, hv⟩ := valV_some (kvs := kvs) (k := .inr z) (by rw [kzs_keys h]; exact List.mem_map.mpr ⟨z, m, rfl⟩)
    rw [hv]; rfl
theorem red_iff {ups : List Int} {lab z : Str} (pos : 0 < ups.length) : Red ups lab z ↔ z = Str.ofString "" ∨ prefN ups lab ups.length z := by
  constructor
  · rintro ⟨j, hj, p⟩
    by_cases e : z.cps.toList = []
    · exact .inl (str_ext (by rw [e]; rfl))
    · exact .inr ⟨e, j, hj, p⟩
  · rintro (rfl | ⟨_, j, hj, p⟩)
    · exact ⟨0, pos, List.nil_prefix⟩
    · exact ⟨j, hj, p⟩
theorem num_at (g : Bool) : atI [V.str "number", .str "told"] (if g = true then 1 else 0) = some (.str (word 0 g)) := by cases g <;> rfl
theorem wrd_at (way : Int) (g : Bool) (h : way ≠ 0) : atI [V.str "word", .str "told"] (if g = true then 1 else 0) = some (.str (word way g)) := by
  unfold word
  rw [if_neg h]
  cases g <;> rfl
def sp_law : PySem.W.Frag → Sp := fun K vs H Q _ => ∃ (a : Addr) (ns : List Int), vs = [.ref a] ∧ SqL K H a (ns.map V.int) ∧ ns.length ≤ 63 ∧ ∀ H', Q (.bl true) H'
theorem ok_law {f : Addr} {fd : FuncData} (F : Fun K "law" "law" s_law f fd) (B : Blt7 mg) (G_law_cells : Has P w K mg base "_law_cells" k ["script", "most"] (sp_cells K)) (G_law_pool : Has P w K mg base "_law_pool" k ["cell"] sp_pool) (G_law_tree : Has P w K mg base "_law_tree" k ["pool", "most"] sp_tree)
    (G_law_reads : Has P w K mg base "_law_reads" k ["tree"] sp_reads) (G_law_things : Has P w K mg base "_law_things" k ["pool", "many"] sp_things) (G_law_kind : Has P w K mg base "_law_kind" k ["way", "tree", "thing"] sp_kind) (G_law_seek : Has P w K mg base "_law_seek" k ["pool", "tree"] sp_seek) :
    FnOk P w K mg base CX0 (k + 1) f fd ["script"] (sp_law K) := by
  refine F.ok sc_law (fun vs H Q E h => by obtain ⟨a, ns, rfl, _⟩ := h; rfl) (fun cdv A outer s H vs Q E hr h => ?_)
  obtain ⟨a, ns, rfl, hS, h63, q⟩ := h
  refine ⟨_, (pss_cons (ps_for PassesOwn.never rfl (pi_list (pe_callH G_law_cells hr rfl (pa_cons (pv 0) (pa_cons pe_int pa_nil)))) (pg_name (i := 1) sc_law.nd rfl (by first | exact Or.inl rfl | exact Or.inr rfl))
  (pss_cons (ps_set (i := 2) sc_law.nd rfl (by first | exact Or.inl rfl | exact Or.inr rfl) (pe_callH G_law_pool hr rfl (pa_cons (pv 1) pa_nil)))
  (pss_cons (ps_set (i := 3) sc_law.nd rfl (by first | exact Or.inl rfl | exact Or.inr rfl) (pe_callH G_law_tree hr rfl (pa_cons (pv 2) (pa_cons pe_int pa_nil))))
  (pss_cons (ps_set (i := 4) sc_law.nd rfl (by first | exact Or.inl rfl | exact Or.inr rfl) (pe_callH G_law_reads hr rfl (pa_cons (pv 3) pa_nil)))
  (pss_cons (ps_for PassesOwn.never rfl (pi_list (pe_callH G_law_things hr rfl (pa_cons (pv 2) (pa_cons (pe_callB call_lenD rfl B.len bt_len (pa_cons (pv 4) pa_nil)) pa_nil)))) (pg_name (i := 5) sc_law.nd rfl (by first | exact Or.inl rfl | exact Or.inr rfl))
  (pss_cons (ps_set (i := 6) sc_law.nd rfl (by first | exact Or.inl rfl | exact Or.inr rfl) (pe_and (pe_callB call_isinst rfl B.isinstance bt_isinstance (pa_cons (pv 5) (pa_cons (pe_bltn (v := .ty "int") rfl B.int_ bt_int rfl) pa_nil))) (pe_and (pe_not (pe_callB call_isinst rfl B.isinstance bt_isinstance (pa_cons (pv 5) (pa_cons (pe_bltn (v := .ty "bool") rfl B.bool_ bt_bool rfl) pa_nil)))) (pe_one (pe_chain op_le op_lt pe_int (pv 5) (pe_callB call_lenD rfl B.len bt_len (pa_cons (pv 4) pa_nil)))))))
  (pss_one (ps_if (pt_cmpR op_ne (pe_callH G_law_kind hr rfl (pa_cons pe_int (pa_cons (pv 3) (pa_cons (pv 5) pa_nil)))) (pe_ix ix_list (pe_lst (pa_cons pe_str (pa_cons pe_str pa_nil))) (pe_callTy call_int1 rfl B.int_ bt_int (pa_cons (pv 6) pa_nil)) (fun _ _ => rfl)) (nomark _))
  (pss_one (ps_ret pe_bl))
  pss_nil))))
  (pss_one (ps_for PassesOwn.never rfl (pi_list (pe_op op_cat (pe_lst (pa_cons pe_str pa_nil)) (pe_comp rfl (pi_range1 rfl B.range (pa_cons pe_int pa_nil)) (NL := ["turn"]) (ix := [2, 3]) (csc (defScope s_law) N_law) (fun cl C s₃ H₃ fp pins => ⟨(pg_name (i := 0) (show List.Nodup (["turn", "pool", "tree"] : List Str) from by decide +kernel) rfl (by first | exact Or.inl rfl | exact Or.inr rfl)), pifs_nil, (pe_callH G_law_seek hr rfl (pa_cons (pv 1) (pa_cons (pv 2) pa_nil)))⟩)))) (pg_name (i := 7) sc_law.nd rfl (by first | exact Or.inl rfl | exact Or.inr rfl))
  (pss_cons (ps_if (pt_cmpR op_ne (pe_callH G_law_kind hr rfl (pa_cons pe_int (pa_cons (pv 3) (pa_cons (pv 7) pa_nil)))) (pe_ix ix_list (pe_lst (pa_cons pe_str (pa_cons pe_str pa_nil))) (pe_callTy call_int1 rfl B.int_ bt_int (pa_cons (pe_cmp (pc_din (hu_of hr) (pv 7) (pv 4)) (by with_unfolding_all rfl)) pa_nil)) (fun _ _ => rfl)) (nomark _))
  (pss_one (ps_ret pe_bl))
  pss_nil)
  (pss_cons (ps_set (i := 8) sc_law.nd rfl (by first | exact Or.inl rfl | exact Or.inr rfl) (pe_ix ix_list (pe_lst (pa_cons pe_str (pa_cons pe_str pa_nil))) (pe_callTy call_int1 rfl B.int_ bt_int (pa_cons (pe_or (pe_cmpR op_eq (pv 7) pe_str (nomark _)) (pe_one (pe_cmp (pc_din (hu_of hr) (pv 7) (pv 4)) (by with_unfolding_all rfl)))) pa_nil)) (fun _ _ => rfl)))
  (pss_one (ps_if (PW.pt (pw_or (pt_cmpR op_ne (pe_callH G_law_kind hr rfl (pa_cons pe_int (pa_cons (pv 3) (pa_cons (pv 7) pa_nil)))) (pv 8) (nomark _)) (pw_or1 (pt_cmpR op_ne (pe_callH G_law_kind hr rfl (pa_cons pe_int (pa_cons (pv 3) (pa_cons (pv 7) pa_nil)))) (pv 8) (nomark _)))))
  (pss_one (ps_ret pe_bl))
  pss_nil)))))))))))
  (pss_one (ps_ret pe_bl))), ?_⟩
  refine ⟨_, rfl, a, ns, 3, rfl, hS, h63, by decide, by decide, fun r ms H1 s1 hf1 hr1 ml => ?_⟩
  refine ⟨r, rfl, ⟨_, SqL.of hr1⟩, ?_⟩
  refine for_list (xs := ms.map V.int) (fun i σ H' => ∃ o1 o2 o3 o4 o5 o6 o7 o8 : Option V, σ = [some (.ref a), o1, o2, o3, o4, o5, o6, o7, o8] ∧ Same H1 H') ⟨none, none, none, none, none, none, none, none, rfl, Same.refl H1⟩ (fun i σ H' _ h => by obtain ⟨_, _, _, _, _, _, _, _, _, sX⟩ := h; exact SqL.of (sX _ _ hr1)) ?_ ?_
  · rintro i x σ H' hx ⟨o1, o2, o3, o4, o5, o6, o7, o8, rfl, sX⟩
    obtain ⟨cell, _, rfl⟩ := List.mem_map.mp (List.mem_of_getElem? hx)
    refine ⟨_, rfl, cell, rfl, fun p x y hp => ?_⟩
    have dk0 : Deck (upd H' p (.lst [.int x, .int y, .int 0])) p 0 := ⟨x, y, 0, upd_same, by decide, by decide⟩
    refine ⟨_, rfl, p, 60, 0, rfl, dk0, by decide, by decide, by decide, by decide, fun t ups lab H2 kd tr fine => ?_⟩
    obtain ⟨u, ht, hu, ok⟩ := id tr
    have m60 := ok.most
    have lpos := ok.pos
    refine ⟨_, rfl, t, ups, lab, rfl, tr, fun d kvs H3 s3 hf3 hd3 kp kl ly => ?_⟩
    have kd3 := kd.same s3
    have trK : ∀ {c' HX}, Kd p c' H3 HX → TreeAt HX t ups lab := fun {c' HX} kq => ⟨u, kq.keep _ _ (ne_deck kd3.deck (s3 _ _ ht) (by intro _ _ _ e; cases e)) (s3 _ _ ht), kq.keep _ _ (ne_deck kd3.deck (s3 _ _ hu) (by intro _ _ _ e; cases e)) (s3 _ _ hu), ok⟩
    have dp : d ≠ p := ne_deck kd3.deck hd3 (by intro _ _ _ e; cases e)
    have sA : ∀ {c' HX}, Kd p c' H3 HX → Same H' HX := fun {c' HX} kq b o e => by
      have ne : b ≠ p := ne_of_none e hp
      exact kq.keep b o ne (kd3.keep b o ne (by rw [upd_ne ne]; exact e))
    obtain ⟨ss, hps, hss⟩ := has_sorted (wordsS ups lab)
    obtain ⟨zs, ezs⟩ : ∃ zs, zs = unlS ss ss.length := ⟨_, rfl⟩
    have ul : UL ups lab zs := fun s2 hp2 hs2 => by rw [ezs, sorted_one hs2 hss (hp2.trans hps.symm)]
    have zmem : ∀ z, z ∈ zs ↔ prefN ups lab ups.length z := fun z => by rw [ezs]; exact mem_unlS hps z
    have zlen : kvs.length = zs.length := by
      have := (kzs_perm kp hps hss).length_eq
      rw [← ezs] at this
      rw [← this]; unfold kzs; rw [List.length_map]
    have zl : zs.length ≤ 3600 := by omega
    have zp : 0 < zs.length := by
      obtain ⟨z0, hz0⟩ := prefN_one ok
      exact List.length_pos_of_mem ((zmem z0).mpr hz0)
    clear ezs hps hss
    refine ⟨_, rfl, _, rfl, d, kvs, rfl, .inl hd3, ?_⟩
    rw [zlen]
    refine ⟨p, _, _, rfl, kd3.deck, by omega, by omega, by omega, fun rt xs H4 kd4 rtp hrt th => ?_⟩
    have h4d := kd4.keep _ _ dp hd3
    have tr4 := trK kd4
    refine ⟨rt, rfl, ⟨_, SqL.of hrt⟩, ?_⟩
    refine for_list (K := K) (a := rt) (xs := xs) (fun j σ HX => ∃ o5' o6' : Option V, σ = [some (.ref a), some (.int cell), some (.ref p), some (.ref t), some (.ref d), o5', o6', o7, o8] ∧ Same H4 HX)
      ⟨_, _, rfl, Same.refl H4⟩ (fun j σ HX _ h => by obtain ⟨_, _, _, sY⟩ := h; exact SqL.of (sY _ _ hrt)) ?_ ?_
    · rintro j x σ HX hx ⟨o5', o6', rfl, sY⟩
      have thx := (th x (List.mem_of_getElem? hx)).same sY
      have hdX := sY _ _ h4d
      have trX := tr4.same sY
      cases thx with
      | non =>
        refine ⟨_, rfl, _, _, "int", false, rfl, .non, kit_none_int _, _, rfl, iteF ?_⟩
        refine ⟨_, rfl, _, rfl, 0, t, _, ups, lab, zs, false, rfl, trX, ul, zl, .inl ⟨rfl, (th _ (List.mem_of_getElem? hx)).same sY, rfl⟩, fun HZ sZ => ⟨(by show 2 ≤ sizeLine; decide), fun lr hlr => ⟨_, rfl, .inr ⟨_, rfl, lr, _, _, .str (word 0 false), rfl, rfl, SqL.of upd_same, num_at _, rfl, _, rfl, iteNS rfl ⟨_, _, rfl, sY.trans (sZ.new hlr)⟩⟩⟩⟩⟩
      | str z =>
        refine ⟨_, rfl, _, _, "int", false, rfl, .str _, kit_str_int _, _, rfl, iteF ?_⟩
        refine ⟨_, rfl, _, rfl, 0, t, _, ups, lab, zs, false, rfl, trX, ul, zl, .inl ⟨rfl, (th _ (List.mem_of_getElem? hx)).same sY, rfl⟩, fun HZ sZ => ⟨(by show 2 ≤ sizeLine; decide), fun lr hlr => ⟨_, rfl, .inr ⟨_, rfl, lr, _, _, .str (word 0 false), rfl, rfl, SqL.of upd_same, num_at _, rfl, _, rfl, iteNS rfl ⟨_, _, rfl, sY.trans (sZ.new hlr)⟩⟩⟩⟩⟩
      | lst e =>
        refine ⟨_, rfl, _, _, "int", false, rfl, .lst e, kit_list_int _, _, rfl, iteF ?_⟩
        refine ⟨_, rfl, _, rfl, 0, t, _, ups, lab, zs, false, rfl, trX, ul, zl, .inl ⟨rfl, (th _ (List.mem_of_getElem? hx)).same sY, rfl⟩, fun HZ sZ => ⟨(by show 2 ≤ sizeLine; decide), fun lr hlr => ⟨_, rfl, .inr ⟨_, rfl, lr, _, _, .str (word 0 false), rfl, rfl, SqL.of upd_same, num_at _, rfl, _, rfl, iteNS rfl ⟨_, _, rfl, sY.trans (sZ.new hlr)⟩⟩⟩⟩⟩
      | tup e =>
        refine ⟨_, rfl, _, _, "int", false, rfl, .tup e, kit_tuple_int _, _, rfl, iteF ?_⟩
        refine ⟨_, rfl, _, rfl, 0, t, _, ups, lab, zs, false, rfl, trX, ul, zl, .inl ⟨rfl, (th _ (List.mem_of_getElem? hx)).same sY, rfl⟩, fun HZ sZ => ⟨(by show 2 ≤ sizeLine; decide), fun lr hlr => ⟨_, rfl, .inr ⟨_, rfl, lr, _, _, .str (word 0 false), rfl, rfl, SqL.of upd_same, num_at _, rfl, _, rfl, iteNS rfl ⟨_, _, rfl, sY.trans (sZ.new hlr)⟩⟩⟩⟩⟩
      | dct e =>
        refine ⟨_, rfl, _, _, "int", false, rfl, .dK e, kit_dict_int _, _, rfl, iteF ?_⟩
        refine ⟨_, rfl, _, rfl, 0, t, _, ups, lab, zs, false, rfl, trX, ul, zl, .inl ⟨rfl, (th _ (List.mem_of_getElem? hx)).same sY, rfl⟩, fun HZ sZ => ⟨(by show 2 ≤ sizeLine; decide), fun lr hlr => ⟨_, rfl, .inr ⟨_, rfl, lr, _, _, .str (word 0 false), rfl, rfl, SqL.of upd_same, num_at _, rfl, _, rfl, iteNS rfl ⟨_, _, rfl, sY.trans (sZ.new hlr)⟩⟩⟩⟩⟩
      | bl b =>
        refine ⟨_, rfl, _, _, "int", true, rfl, .bl _, kit_bool_int _, _, rfl, iteT ?_⟩
        refine ⟨_, rfl, _, _, "bool", true, rfl, .bl _, kit_same _ _, _, rfl, _, rfl, iteF ?_⟩
        refine ⟨_, rfl, _, rfl, 0, t, _, ups, lab, zs, false, rfl, trX, ul, zl, .inl ⟨rfl, (th _ (List.mem_of_getElem? hx)).same sY, rfl⟩, fun HZ sZ => ⟨(by show 2 ≤ sizeLine; decide), fun lr hlr => ⟨_, rfl, .inr ⟨_, rfl, lr, _, _, .str (word 0 false), rfl, rfl, SqL.of upd_same, num_at _, rfl, _, rfl, iteNS rfl ⟨_, _, rfl, sY.trans (sZ.new hlr)⟩⟩⟩⟩⟩
      | int v =>
        refine ⟨_, rfl, _, .type "int", "int", true, rfl, .int _, kit_same _ _, _, rfl, iteT ?_⟩
        refine ⟨_, rfl, _, .type "int", "bool", false, rfl, .int _, kit_int_bool _, _, rfl, _, rfl, iteT ?_⟩
        refine ⟨_, rfl, _, _, rfl, rfl, _, rfl, ite2 (fun c => ?_) (fun c => ?_)⟩
        · refine ⟨_, rfl, d, kvs, rfl, .inl hdX, _, _, rfl, rfl, ?_⟩
          rw [zlen]
          refine ⟨_, rfl, _, rfl, 0, t, _, ups, lab, zs, (decide (v < (zs.length : Int))), rfl, trX, ul, zl, .inl ⟨rfl, (th _ (List.mem_of_getElem? hx)).same sY, (by show _ = (decide (0 ≤ v) && decide (v < (zs.length : Int))); rw [c, Bool.true_and])⟩, fun HZ sZ => ⟨(by show 2 ≤ sizeLine; decide), fun lr hlr => ⟨_, rfl, .inr ⟨_, rfl, lr, _, _, .str (word 0 (decide (v < (zs.length : Int)))), rfl, rfl, SqL.of upd_same, num_at _, rfl, _, rfl, iteNS rfl ⟨_, _, rfl, sY.trans (sZ.new hlr)⟩⟩⟩⟩⟩
        · refine ⟨_, rfl, _, rfl, 0, t, _, ups, lab, zs, false, rfl, trX, ul, zl, .inl ⟨rfl, (th _ (List.mem_of_getElem? hx)).same sY, (by show _ = (decide (0 ≤ v) && decide (v < (zs.length : Int))); rw [Bool.eq_false_iff.mpr c, Bool.false_and])⟩, fun HZ sZ => ⟨(by show 2 ≤ sizeLine; decide), fun lr hlr => ⟨_, rfl, .inr ⟨_, rfl, lr, _, _, .str (word 0 false), rfl, rfl, SqL.of upd_same, num_at _, rfl, _, rfl, iteNS rfl ⟨_, _, rfl, sY.trans (sZ.new hlr)⟩⟩⟩⟩⟩
    · rintro σ H5 ⟨o5', o6', rfl, sY⟩
      have kd5 := kd4.same sY
      have k35 : Kd p _ H3 H5 := kd5
      refine ⟨(by show 1 ≤ sizeLine; decide), fun l0 hl0 => ?_⟩
      have l0p : l0 ≠ p := kd5.deck.ne hl0
      have k36 := kd5.new (o := .lst [.str ""]) hl0
      have h60 : upd H5 l0 (.lst [.str ""]) l0 = some (.lst [.str ""]) := upd_same
      show (fun HH => _) (upd H5 l0 (.lst [.str ""]))
      generalize upd H5 l0 (.lst [.str ""]) = H6 at k36 h60
      refine ⟨_, rfl, by decide, by decide, fun acc hacc => ?_⟩
      have accp : acc ≠ p := k36.deck.ne hacc
      have f3 : H3 acc = none := k36.fresh hacc
      refine comp_by (Int.toNat 6) (by decide) (fun j ys HX => HX acc = some (.lst ys) ∧ ys.length = j ∧ Kd p (403 + 5 * j) H6 HX ∧ ∃ ws : List Str, ys = ws.map V.str)
        (fun j ys HX h => ⟨h.1, by omega⟩) ⟨upd_same, rfl, ((Kd.refl k36.deck).new hacc).mono (by omega), [], rfl⟩ ?_ ?_
      rotate_left
      · rintro j ys Ha hj ⟨x1, x2, x3, ws, rfl⟩
        refine ⟨hj, ?_⟩
        rintro x H4' ⟨rfl, rfl⟩
        refine ⟨rfl, ?_⟩
        refine ⟨_, rfl, _, rfl, p, t, ups, lab, _, rfl, x3.deck, by omega, by omega, trK (k36.trans x3), fun z Hc zl' kq => ?_⟩
        exact ⟨kq.keep _ _ accp x1, upd_same, by rw [List.length_append, x2]; rfl, ((x3.trans kq).write hacc accp).mono (by omega), ws ++ [z], by rw [List.map_append]; rfl⟩
      rintro ys H7 ⟨y1, y2, y3, ws, rfl⟩
      refine ⟨Nat.le_refl _, ?_⟩
      rw [List.length_map] at y2
      have h70 := y3.keep _ _ l0p h60
      refine ⟨l0, acc, _, _, rfl, rfl, h70, y1, by rw [List.length_map]; exact Nat.le_of_lt (small1000 (by show 1 + ws.length ≤ 1000; omega)), fun rw8 hrw8 => ?_⟩
      have ew : [V.str ""] ++ ws.map V.str = (Str.ofString "" :: ws).map V.str := rfl
      rw [ew]
      generalize (Str.ofString "" :: ws) = ws8
      have k37 := k36.trans y3
      have rwp : rw8 ≠ p := k37.deck.ne hrw8
      have k38 := k37.new (o := .lst (ws8.map V.str)) hrw8
      have h88 : upd H7 rw8 (.lst (ws8.map V.str)) rw8 = some (.lst (ws8.map V.str)) := upd_same
      show (fun HH => _) (upd H7 rw8 (.lst (ws8.map V.str)))
      generalize upd H7 rw8 (.lst (ws8.map V.str)) = H8 at k38 h88
      have hd8 := k38.keep _ _ dp hd3
      have tr8 := trK k38
      refine ⟨rw8, rfl, ⟨_, SqL.of h88⟩, ?_⟩
      refine for_list (K := K) (a := rw8) (xs := ws8.map V.str) (fun j σ HX => ∃ o7' o8' : Option V, σ = [some (.ref a), some (.int cell), some (.ref p), some (.ref t), some (.ref d), o5', o6', o7', o8'] ∧ Same H8 HX)
        ⟨_, _, rfl, Same.refl H8⟩ (fun j σ HX _ h => by obtain ⟨_, _, _, sZ⟩ := h; exact SqL.of (sZ _ _ h88)) ?_ ?_
      · rintro j x σ HX hx ⟨o7', o8', rfl, sW⟩
        obtain ⟨z, _, rfl⟩ := List.mem_map.mp (List.mem_of_getElem? hx)
        have hdX := sW _ _ hd8
        have trX := tr8.same sW
        have iff1 : ((valV kvs (.inr z)).isSome = true ↔ z ∈ zs) := (in_reads kp z).trans (zmem z).symm
        refine ⟨_, rfl, _, rfl, 1, t, _, ups, lab, zs, (valV kvs (.inr z)).isSome, rfl, trX, ul, zl, .inr ⟨z, rfl, .inl ⟨rfl, iff1⟩⟩, fun HZ sZ => ⟨(by show 2 ≤ sizeLine; decide), fun lr hlr => ?_⟩⟩
        have s9 : Same HX (upd HZ lr (.lst [.str "word", .str "told"])) := sZ.new hlr
        refine ⟨_, rfl, _, rfl, d, _, rfl, DGet.k (k := .inr z) (s9 _ _ hdX), .inr ⟨_, rfl, lr, _, _, .str (word 1 (valV kvs (.inr z)).isSome), rfl, rfl, SqL.of upd_same, wrd_at _ _ (by decide), rfl, _, rfl, iteNS rfl ?_⟩⟩
        generalize upd HZ lr (.lst [.str "word", .str "told"]) = H9 at s9
        refine ⟨(by show 2 ≤ sizeLine; decide), fun lr2 hlr2 => ?_⟩
        have s10 : Same HX (upd H9 lr2 (.lst [.str "word", .str "told"])) := s9.new hlr2
        have red : Red ups lab z ↔ z = Str.ofString "" ∨ (valV kvs (.inr z)).isSome = true := by rw [red_iff lpos, in_reads kp z]
        refine ⟨_, rfl, rfl, _, rfl, ite2 (fun c => ?_) (fun c => ?_)⟩
        · have ez : z = Str.ofString "" := by have := of_decide_eq_true c; injection this
          refine .inr ⟨true, rfl, lr2, _, _, .str (word 2 true), rfl, rfl, SqL.of upd_same, wrd_at _ _ (by decide), ?_⟩
          generalize upd H9 lr2 (.lst [.str "word", .str "told"]) = HA at s10
          refine ⟨_, rfl, _, rfl, 2, t, _, ups, lab, zs, true, rfl, tr8.same (sW.trans s10), ul, zl, .inr ⟨z, rfl, .inr ⟨.inl rfl, (iff_of_true rfl (red.mpr (.inl ez)))⟩⟩, fun HB sB => ⟨_, rfl, rfl, _, rfl, iteNS rfl ?_⟩⟩
          refine ⟨_, rfl, _, rfl, 3, t, _, ups, lab, zs, true, rfl, tr8.same ((sW.trans s10).trans sB), ul, zl, .inr ⟨z, rfl, .inr ⟨.inr rfl, (iff_of_true rfl (red.mpr (.inl ez)))⟩⟩, fun HC sC => ⟨_, rfl, rfl, _, rfl, iteNS rfl ?_⟩⟩
          exact ⟨_, _, rfl, (sW.trans s10).trans (sB.trans sC)⟩
        · have nz : ¬ z = Str.ofString "" := fun e => c (decide_eq_true (by rw [e]))
          refine ⟨_, rfl, _, rfl, d, _, rfl, DGet.k (k := .inr z) (s10 _ _ hdX), ?_⟩
          refine .inr ⟨_, rfl, lr2, _, _, .str (word 2 (valV kvs (.inr z)).isSome), rfl, rfl, SqL.of upd_same, wrd_at _ _ (by decide), ?_⟩
          generalize upd H9 lr2 (.lst [.str "word", .str "told"]) = HA at s10
          refine ⟨_, rfl, _, rfl, 2, t, _, ups, lab, zs, (valV kvs (.inr z)).isSome, rfl, tr8.same (sW.trans s10), ul, zl, .inr ⟨z, rfl, .inr ⟨.inl rfl, (by rw [red]; exact ⟨fun h => .inr h, fun h => h.resolve_left nz⟩)⟩⟩, fun HB sB => ⟨_, rfl, rfl, _, rfl, iteNS rfl ?_⟩⟩
          refine ⟨_, rfl, _, rfl, 3, t, _, ups, lab, zs, (valV kvs (.inr z)).isSome, rfl, tr8.same ((sW.trans s10).trans sB), ul, zl, .inr ⟨z, rfl, .inr ⟨.inr rfl, (by rw [red]; exact ⟨fun h => .inr h, fun h => h.resolve_left nz⟩)⟩⟩, fun HC sC => ⟨_, rfl, rfl, _, rfl, iteNS rfl ?_⟩⟩
          exact ⟨_, _, rfl, (sW.trans s10).trans (sB.trans sC)⟩
      · rintro σ HX ⟨o7', o8', rfl, sW⟩
        exact ⟨_, _, _, _, _, _, _, _, rfl, sX.trans ((sA k38).trans sW)⟩
  · rintro σ H' ⟨o1, o2, o3, o4, o5, o6, o7, o8, rfl, sX⟩
    exact q H'
end
end S20
namespace S20
open PySem L2 W7
theorem df_mk {K : PySem.W.Frag} {h : Heap} {mg : Str → Option Value} {x : Str} {st : Stmt} {f : Addr} {oc : Value} {od an : Option Addr} {osl : Array (Option Value)} {kV doc pm cdv ct : Value} (X : K.In h) (G : h.Ns mainGlobals mg)
    (a : PySem.W.nsIn K mainGlobals x = some (some (.ref f))) (l : K.lookup f = some ⟨oc, od, .func (PySem.W.fnOf x x (defArgs st) (defBody st) (defScope st) .none kV doc pm an cdv ct), osl⟩) (c : PySem.W.codeIn K cdv x = true) (kk : PySem.W.keepIn K (.ref f) = true) : Df K mg x st :=
  ⟨f, _, fun_mk l c kk, PySem.W.mg_of X G a⟩
def exs_mk {K : PySem.W.Frag} {h : Heap} {mg : Str → Option Value} (X : K.In h) (G : h.Ns mainGlobals mg) {UpError NoPlace NoNumber NoWord NoRows NoRuns NoCover NoText TooMany NoTries NoPattern NoLetter NoLeaf NoChange NoLine NoTree : Addr}
    (a_UpError : PySem.W.nsIn K mainGlobals "UpError" = some (some (.ref UpError)))
    (a_NoPlace : PySem.W.nsIn K mainGlobals "NoPlace" = some (some (.ref NoPlace)))
    (a_NoNumber : PySem.W.nsIn K mainGlobals "NoNumber" = some (some (.ref NoNumber)))
    (a_NoWord : PySem.W.nsIn K mainGlobals "NoWord" = some (some (.ref NoWord)))
    (a_NoRows : PySem.W.nsIn K mainGlobals "NoRows" = some (some (.ref NoRows)))
    (a_NoRuns : PySem.W.nsIn K mainGlobals "NoRuns" = some (some (.ref NoRuns)))
    (a_NoCover : PySem.W.nsIn K mainGlobals "NoCover" = some (some (.ref NoCover)))
    (a_NoText : PySem.W.nsIn K mainGlobals "NoText" = some (some (.ref NoText)))
    (a_TooMany : PySem.W.nsIn K mainGlobals "TooMany" = some (some (.ref TooMany)))
    (a_NoTries : PySem.W.nsIn K mainGlobals "NoTries" = some (some (.ref NoTries)))
    (a_NoPattern : PySem.W.nsIn K mainGlobals "NoPattern" = some (some (.ref NoPattern)))
    (a_NoLetter : PySem.W.nsIn K mainGlobals "NoLetter" = some (some (.ref NoLetter)))
    (a_NoLeaf : PySem.W.nsIn K mainGlobals "NoLeaf" = some (some (.ref NoLeaf)))
    (a_NoChange : PySem.W.nsIn K mainGlobals "NoChange" = some (some (.ref NoChange)))
    (a_NoLine : PySem.W.nsIn K mainGlobals "NoLine" = some (some (.ref NoLine)))
    (a_NoTree : PySem.W.nsIn K mainGlobals "NoTree" = some (some (.ref NoTree)))
    (q_NoNumber : PySem.W.excIn K NoNumber bmV "ValueError.__new__" = true)
    (ga_NoNumber : PySem.W.findIn K (.ref NoNumber) "__getattribute__" = some (some (.builtin "BaseException.__getattribute__")))
    (gn_NoNumber : PySem.W.findIn K (.ref NoNumber) "__getattr__" = some none)
    (cl_NoNumber : PySem.W.findIn K (.ref NoNumber) "__class__" = some (some (.builtin "object.__class__")))
    (ob_NoNumber : PySem.W.mroIn K NoNumber (.type "object") = some true)
    (be_NoNumber : PySem.W.mroIn K NoNumber (.type "BaseException") = some true)
    (cd_NoNumber : (PySem.W.clsIn K NoNumber).isSome = true)
    (u_NoNumber : PySem.W.exmOne K (.ref NoNumber) (.ref UpError) = some true)
    (q_NoWord : PySem.W.excIn K NoWord bmV "ValueError.__new__" = true)
    (ga_NoWord : PySem.W.findIn K (.ref NoWord) "__getattribute__" = some (some (.builtin "BaseException.__getattribute__")))
    (gn_NoWord : PySem.W.findIn K (.ref NoWord) "__getattr__" = some none)
    (cl_NoWord : PySem.W.findIn K (.ref NoWord) "__class__" = some (some (.builtin "object.__class__")))
    (ob_NoWord : PySem.W.mroIn K NoWord (.type "object") = some true)
    (be_NoWord : PySem.W.mroIn K NoWord (.type "BaseException") = some true)
    (cd_NoWord : (PySem.W.clsIn K NoWord).isSome = true)
    (u_NoWord : PySem.W.exmOne K (.ref NoWord) (.ref UpError) = some true)
    (gt : PySem.W.specialIn K (.builtin "object.__class__") "__get__" = some (some (.builtin "getset_descriptor.__get__")))
    (tk : PySem.W.takesIn K (.builtin "object.__class__") = some true)
    (nn : PySem.W.kitOne K (.ref NoNumber) (.ref NoNumber) = some true)
    (nw : PySem.W.kitOne K (.ref NoNumber) (.ref NoWord) = some false)
    (wn : PySem.W.kitOne K (.ref NoWord) (.ref NoNumber) = some false)
    (ww : PySem.W.kitOne K (.ref NoWord) (.ref NoWord) = some true)
    (nv : PySem.W.kitOne K (.ref NoNumber) (.type "ValueError") = some true)
    (wv : PySem.W.kitOne K (.ref NoWord) (.type "ValueError") = some true)
    (n1 : PySem.W.kitAny K (.ref NoNumber) ([NoChange, NoCover, NoLeaf, NoLetter, NoLine, NoPattern, NoPlace].map Value.ref) = some false)
    (w1 : PySem.W.kitAny K (.ref NoWord) ([NoChange, NoCover, NoLeaf, NoLetter, NoLine, NoPattern, NoPlace].map Value.ref) = some false)
    (n2 : PySem.W.kitAny K (.ref NoNumber) ([NoRows, NoRuns, NoText, NoTree, NoTries, TooMany].map Value.ref) = some false)
    (w2 : PySem.W.kitAny K (.ref NoWord) ([NoRows, NoRuns, NoText, NoTree, NoTries, TooMany].map Value.ref) = some false) : Exs K mg where
  c_UpError := UpError
  m_UpError := PySem.W.mg_of X G a_UpError
  c_NoPlace := NoPlace
  m_NoPlace := PySem.W.mg_of X G a_NoPlace
  c_NoNumber := NoNumber
  m_NoNumber := PySem.W.mg_of X G a_NoNumber
  c_NoWord := NoWord
  m_NoWord := PySem.W.mg_of X G a_NoWord
  c_NoRows := NoRows
  m_NoRows := PySem.W.mg_of X G a_NoRows
  c_NoRuns := NoRuns
  m_NoRuns := PySem.W.mg_of X G a_NoRuns
  c_NoCover := NoCover
  m_NoCover := PySem.W.mg_of X G a_NoCover
  c_NoText := NoText
  m_NoText := PySem.W.mg_of X G a_NoText
  c_TooMany := TooMany
  m_TooMany := PySem.W.mg_of X G a_TooMany
  c_NoTries := NoTries
  m_NoTries := PySem.W.mg_of X G a_NoTries
  c_NoPattern := NoPattern
  m_NoPattern := PySem.W.mg_of X G a_NoPattern
  c_NoLetter := NoLetter
  m_NoLetter := PySem.W.mg_of X G a_NoLetter
  c_NoLeaf := NoLeaf
  m_NoLeaf := PySem.W.mg_of X G a_NoLeaf
  c_NoChange := NoChange
  m_NoChange := PySem.W.mg_of X G a_NoChange
  c_NoLine := NoLine
  m_NoLine := PySem.W.mg_of X G a_NoLine
  c_NoTree := NoTree
  m_NoTree := PySem.W.mg_of X G a_NoTree
  q_NoNumber := q_NoNumber
  z_NoNumber := ⟨ga_NoNumber, gn_NoNumber, cl_NoNumber, gt, tk, ob_NoNumber, be_NoNumber, cd_NoNumber⟩
  u_NoNumber := u_NoNumber
  q_NoWord := q_NoWord
  z_NoWord := ⟨ga_NoWord, gn_NoWord, cl_NoWord, gt, tk, ob_NoWord, be_NoWord, cd_NoWord⟩
  u_NoWord := u_NoWord
  nn := nn
  nw := nw
  wn := wn
  ww := ww
  nv := nv
  wv := wv
  n1 := n1
  w1 := w1
  n2 := n2
  w2 := w2
theorem blt_mk {K : PySem.W.Frag} {h : Heap} {mg : Str → Option Value} (X : K.In h) (G : h.Ns mainGlobals mg)
    (z1 : PySem.W.nsIn K mainGlobals "len" = some none) (z2 : PySem.W.nsIn K mainGlobals "range" = some none) (z3 : PySem.W.nsIn K mainGlobals "zip" = some none) (z4 : PySem.W.nsIn K mainGlobals "enumerate" = some none)
    (z5 : PySem.W.nsIn K mainGlobals "max" = some none) (z6 : PySem.W.nsIn K mainGlobals "min" = some none) (z7 : PySem.W.nsIn K mainGlobals "int" = some none) (z8 : PySem.W.nsIn K mainGlobals "str" = some none)
    (z9 : PySem.W.nsIn K mainGlobals "bool" = some none) (z10 : PySem.W.nsIn K mainGlobals "list" = some none) (z11 : PySem.W.nsIn K mainGlobals "tuple" = some none) (z12 : PySem.W.nsIn K mainGlobals "isinstance" = some none) : Blt mg :=
  ⟨PySem.W.mg_none_of X G z1, PySem.W.mg_none_of X G z2, PySem.W.mg_none_of X G z3, PySem.W.mg_none_of X G z4, PySem.W.mg_none_of X G z5, PySem.W.mg_none_of X G z6, PySem.W.mg_none_of X G z7, PySem.W.mg_none_of X G z8,
    PySem.W.mg_none_of X G z9, PySem.W.mg_none_of X G z10, PySem.W.mg_none_of X G z11, PySem.W.mg_none_of X G z12⟩
theorem all_ok {P : Program} {w : World} {K : PySem.W.Frag} {mg : Str → Option Value} {fa : Addr} (hfa : mg "law" = some (.ref fa)) (B : Blt8 mg)
    (d1 : Df K mg "is_whole" s_is_whole) (d2 : Df K mg "is_number_below" s_is_number_below) (d3 : Df K mg "words_of" s_words_of) (d4 : Df K mg "alike_of" s_alike_of) (d5 : Df K mg "many_alike" s_many_alike) (d6 : Df K mg "count_read" s_count_read) (d7 : Df K mg "unlike_words" s_unlike_words) (d8 : Df K mg "nth_word" s_nth_word) (d9 : Df K mg "number_of" s_number_of) (d10 : Df K mg "fronts_of" s_fronts_of) (d11 : Df K mg "behinds_of" s_behinds_of) (d12 : Df K mg "words_if_read" s_words_if_read) (d13 : Df K mg "tallied" s_tallied) (d14 : Df K mg "_law_prime" s_law_prime) (d15 : Df K mg "_law_pool" s_law_pool) (d16 : Df K mg "_law_take" s_law_take) (d17 : Df K mg "_law_cells" s_law_cells) (d18 : Df K mg "_law_letter" s_law_letter) (d19 : Df K mg "_law_tree" s_law_tree) (d20 : Df K mg "_law_word" s_law_word) (d21 : Df K mg "_law_reads" s_law_reads) (d22 : Df K mg "_law_seek" s_law_seek) (d23 : Df K mg "_law_kind" s_law_kind) (d24 : Df K mg "_law_things" s_law_things) (d25 : Df K mg "law" s_law) (EX : Exs K mg) :
    ∃ fd : FuncData, (∀ (s : Shared) (v : Value), BindsTo s fd ⟨[v], []⟩ [("script", v)]) ∧ ∀ base : Heap, FnOk P w K mg base CX0 12 fa fd ["script"] (sp_law K) := by
  obtain ⟨f, fd, F, m⟩ := d25
  have e := hfa.symm.trans m
  cases e
  refine ⟨fd, ?_, fun base => ?_⟩
  · obtain ⟨oc, od, kV, doc, pm, an, cdv, ct, osl, rfl, _, _⟩ := F.ex
    exact fun s v => .of_eq rfl
  have g_words := has_words (P := P) (w := w) (base := base) (k := 0) d3 B.toBlt
  have g_alike := has_alike (P := P) (w := w) (base := base) (k := 0) d5 B.toBlt7
  have g_alikes := has_alikes (k := 1) d4 B.toBlt7 g_words g_alike
  have g_unlike := has_unlike (k := 2) d7 B.toBlt7 (g_words.mono (by decide)) g_alikes
  have g_whole := has_whole (P := P) (w := w) (base := base) (k := 0) d1 B.toBlt7
  have g_below := has_below (k := 1) d2 B.toBlt7 g_whole
  have g_nth := has_nth (k := 3) EX d8 B.toBlt7 g_unlike (g_below.mono (by decide))
  have g_num := has_num (k := 3) EX d9 B.toBlt7 g_unlike
  have g_count := has_count (P := P) (w := w) (base := base) (k := 0) d6 B.toBlt
  have g_wif := has_wif (k := 1) EX d12 B.toBlt7 g_words g_count
  have g_tal := has_tal (P := P) (w := w) (base := base) (k := 0) d13 B.toBlt7
  have g_fr := has_fronts (k := 2) EX d10 B.toBlt7 g_wif (g_tal.mono (by decide))
  have g_be := has_behinds (k := 2) EX d11 B.toBlt7 g_wif (g_tal.mono (by decide))
  have g_kind := has_kind (k := 4) EX d23 B g_nth g_num (g_fr.mono (by decide)) (g_be.mono (by decide))
  have g_prime := has_prime (P := P) (w := w) (base := base) (k := 0) d14 B.toBlt
  have g_pool := has_pool (P := P) (w := w) (base := base) (k := 0) d15 B.toBlt
  have g_take := has_take (k := 1) d16 B.toBlt g_prime
  have g_takeL := has_takeL (k := 1) d16 B.toBlt g_prime
  have g_letter := has_letter (k := 2) d18 B.toBlt g_take
  have g_tree := has_tree (k := 3) d19 B.toBlt (g_take.mono (by decide)) g_letter
  have g_cells := has_cells (P := P) (w := w) (base := base) (k := 0) d17 B.toBlt
  have g_lword := has_lword (P := P) (w := w) (base := base) (k := 0) d20 B.toBlt
  have g_reads := has_reads (k := 1) d21 B.toBlt7 g_lword
  have g_seek := has_seek (k := 2) d22 B.toBlt7 (g_take.mono (by decide)) (g_lword.mono (by decide))
  have g_things := has_things (k := 2) d24 B.toBlt7 g_takeL
  exact (ok_law (k := 5) F B.toBlt7 (g_cells.mono (by decide)) (g_pool.mono (by decide)) (g_tree.mono (by decide)) (g_reads.mono (by decide)) (g_things.mono (by decide)) g_kind (g_seek.mono (by decide))).mono (by decide)
end S20
def PySem.W.Fast.tw13931558796240365880 : Nat := 0
def PySem.W.Fast.tw720878456200380011 : Nat := 0
def PySem.W.Fast.tw15234367294203821751 : Nat := 0
def PySem.W.Fast.tw5269474536699546443 : Nat := 0
def PySem.W.Fast.tw15654598331848673754 : Nat := 0
def PySem.W.Fast.tw5177797617709807986 : Nat := 0
def PySem.W.Fast.tw8472383793671002531 : Nat := 0
def PySem.W.Fast.tw17302441813567250255 : Nat := 0
def PySem.W.Fast.tw15179060514605294938 : Nat := 0
def PySem.W.Fast.tw10758082891961408600 : Nat := 0
def PySem.W.Fast.tw12641326225791866789 : Nat := 0
def PySem.W.Fast.tw2683875738157463908 : Nat := 0
def PySem.W.Fast.tw16848274867445523495 : Nat := 0
def PySem.W.Fast.tw986082153336159549 : Nat := 0
def PySem.W.Fast.tw2805177928091295172 : Nat := 0
def PySem.W.Fast.tw3468995575795457293 : Nat := 0
def PySem.W.Fast.tw12187547276754631178 : Nat := 0
def PySem.W.Fast.tw11268171891548616641 : Nat := 0
def PySem.W.Fast.tw15183549281701182321 : Nat := 0
def PySem.W.Fast.tw1372355633297864142 : Nat := 0
def PySem.W.Fast.tw13991768288401703731 : Nat := 0
def PySem.W.Fast.tw13834490177904015387 : Nat := 0
def PySem.W.Fast.tw3133132440112929289 : Nat := 0
def PySem.W.Fast.tw12364271364953892412 : Nat := 0
def PySem.W.Fast.tw10108064522457214615 : Nat := 0
def PySem.W.Fast.tw13471992257602558098 : Nat := 0
def PySem.W.Fast.tw6078104955955682 : Nat := 0
def PySem.W.Fast.tw6877928834590118743 : Nat := 0
def PySem.W.Fast.tw13144474780067700031 : Nat := 0
def PySem.W.Fast.tw12433645029260433730 : Nat := 0
def PySem.W.Fast.tw1356031721269411520 : Nat := 0
def PySem.W.Fast.tw6131895261539348508 : Nat := 0
def PySem.W.Fast.tw12785865152881504837 : Nat := 0
def PySem.W.Fast.tw17347842372158577195 : Nat := 0
def PySem.W.Fast.tw17455071859400910754 : Nat := 0
def PySem.W.Fast.tw14040433588453349543 : Nat := 0
def PySem.W.Fast.tw6859349912965509670 : Nat := 0
def PySem.W.Fast.tw9816581416507811372 : Nat := 0
def PySem.W.Fast.tw568358273350072018 : Nat := 0
open PySem PySem.W PyProof.Rows
set_option maxRecDepth 100000 in
set_option maxHeartbeats 0 in
theorem PySem.Challenge.cw_upwords_k20_no_such_word_or_number_holds : PySem.Challenge.rw_upwords_k20_no_such_word_or_number.Holds := by
  w_on; o_law; k_head; (case hw => w_witness2)
  k_fill
  refine L2.walk_ofK (l := PySem.Challenge.rw_upwords_k20_no_such_word_or_number) (n := 63) (k := 12) (x := "script") (CX := L2.CX0) (sp := S20.sp_law) rfl (by decide) rfl ⟨rfl, by decide, by decide, rfl⟩ (fun w h Y => PySem.W.kIn_of Y) ?F
    (fun K H a ns hl _ hS => ⟨a, ns, rfl, hS, hl, fun _ => rfl⟩) (fun _ _ _ _ z => z)
  case F =>
    intro w mg fa h KX G hmg
    have B : L2.Blt mg := by
      refine' S20.blt_mk KX G ?z1 ?z2 ?z3 ?z4 ?z5 ?z6 ?z7 ?z8 ?z9 ?z10 ?z11 ?z12
      (case z1 => k_is); (case z2 => k_is); (case z3 => k_is); (case z4 => k_is); (case z5 => k_is); (case z6 => k_is); (case z7 => k_is); (case z8 => k_is); (case z9 => k_is); (case z10 => k_is); (case z11 => k_is); (case z12 => k_is)
    have Bx0 : mg "sorted" = none := by
      refine' PySem.W.mg_none_of KX G ?z
      (case z => k_is)
    have Bx1 : mg "all" = none := by
      refine' PySem.W.mg_none_of KX G ?z
      (case z => k_is)
    have Bx2 : mg "repr" = none := by
      refine' PySem.W.mg_none_of KX G ?z
      (case z => k_is)
    have Bx3 : mg "set" = none := by
      refine' PySem.W.mg_none_of KX G ?z
      (case z => k_is)
    have Bx4 : mg "ValueError" = none := by
      refine' PySem.W.mg_none_of KX G ?z
      (case z => k_is)
    have d1 : L2.Df (L2.KOf KX) mg "is_whole" S20.s_is_whole := by
      dsimp only [L2.KOf]; refine' S20.df_mk KX G ?a ?l ?c ?k
      (case a => k_is); (case l => k_is); (case c => k_is); (case k => k_is)
    have d2 : L2.Df (L2.KOf KX) mg "is_number_below" S20.s_is_number_below := by
      dsimp only [L2.KOf]; refine' S20.df_mk KX G ?a ?l ?c ?k
      (case a => k_is); (case l => k_is); (case c => k_is); (case k => k_is)
    have d3 : L2.Df (L2.KOf KX) mg "words_of" S20.s_words_of := by
      dsimp only [L2.KOf]; refine' S20.df_mk KX G ?a ?l ?c ?k
      (case a => k_is); (case l => k_is); (case c => k_is); (case k => k_is)
    have d4 : L2.Df (L2.KOf KX) mg "alike_of" S20.s_alike_of := by
      dsimp only [L2.KOf]; refine' S20.df_mk KX G ?a ?l ?c ?k
      (case a => k_is); (case l => k_is); (case c => k_is); (case k => k_is)
    have d5 : L2.Df (L2.KOf KX) mg "many_alike" S20.s_many_alike := by
      dsimp only [L2.KOf]; refine' S20.df_mk KX G ?a ?l ?c ?k
      (case a => k_is); (case l => k_is); (case c => k_is); (case k => k_is)
    have d6 : L2.Df (L2.KOf KX) mg "count_read" S20.s_count_read := by
      dsimp only [L2.KOf]; refine' S20.df_mk KX G ?a ?l ?c ?k
      (case a => k_is); (case l => k_is); (case c => k_is); (case k => k_is)
    have d7 : L2.Df (L2.KOf KX) mg "unlike_words" S20.s_unlike_words := by
      dsimp only [L2.KOf]; refine' S20.df_mk KX G ?a ?l ?c ?k
      (case a => k_is); (case l => k_is); (case c => k_is); (case k => k_is)
    have d8 : L2.Df (L2.KOf KX) mg "nth_word" S20.s_nth_word := by
      dsimp only [L2.KOf]; refine' S20.df_mk KX G ?a ?l ?c ?k
      (case a => k_is); (case l => k_is); (case c => k_is); (case k => k_is)
    have d9 : L2.Df (L2.KOf KX) mg "number_of" S20.s_number_of := by
      dsimp only [L2.KOf]; refine' S20.df_mk KX G ?a ?l ?c ?k
      (case a => k_is); (case l => k_is); (case c => k_is); (case k => k_is)
    have d10 : L2.Df (L2.KOf KX) mg "fronts_of" S20.s_fronts_of := by
      dsimp only [L2.KOf]; refine' S20.df_mk KX G ?a ?l ?c ?k
      (case a => k_is); (case l => k_is); (case c => k_is); (case k => k_is)
    have d11 : L2.Df (L2.KOf KX) mg "behinds_of" S20.s_behinds_of := by
      dsimp only [L2.KOf]; refine' S20.df_mk KX G ?a ?l ?c ?k
      (case a => k_is); (case l => k_is); (case c => k_is); (case k => k_is)
    have d12 : L2.Df (L2.KOf KX) mg "words_if_read" S20.s_words_if_read := by
      dsimp only [L2.KOf]; refine' S20.df_mk KX G ?a ?l ?c ?k
      (case a => k_is); (case l => k_is); (case c => k_is); (case k => k_is)
    have d13 : L2.Df (L2.KOf KX) mg "tallied" S20.s_tallied := by
      dsimp only [L2.KOf]; refine' S20.df_mk KX G ?a ?l ?c ?k
      (case a => k_is); (case l => k_is); (case c => k_is); (case k => k_is)
    have d14 : L2.Df (L2.KOf KX) mg "_law_prime" S20.s_law_prime := by
      dsimp only [L2.KOf]; refine' S20.df_mk KX G ?a ?l ?c ?k
      (case a => k_is); (case l => k_is); (case c => k_is); (case k => k_is)
    have d15 : L2.Df (L2.KOf KX) mg "_law_pool" S20.s_law_pool := by
      dsimp only [L2.KOf]; refine' S20.df_mk KX G ?a ?l ?c ?k
      (case a => k_is); (case l => k_is); (case c => k_is); (case k => k_is)
    have d16 : L2.Df (L2.KOf KX) mg "_law_take" S20.s_law_take := by
      dsimp only [L2.KOf]; refine' S20.df_mk KX G ?a ?l ?c ?k
      (case a => k_is); (case l => k_is); (case c => k_is); (case k => k_is)
    have d17 : L2.Df (L2.KOf KX) mg "_law_cells" S20.s_law_cells := by
      dsimp only [L2.KOf]; refine' S20.df_mk KX G ?a ?l ?c ?k
      (case a => k_is); (case l => k_is); (case c => k_is); (case k => k_is)
    have d18 : L2.Df (L2.KOf KX) mg "_law_letter" S20.s_law_letter := by
      dsimp only [L2.KOf]; refine' S20.df_mk KX G ?a ?l ?c ?k
      (case a => k_is); (case l => k_is); (case c => k_is); (case k => k_is)
    have d19 : L2.Df (L2.KOf KX) mg "_law_tree" S20.s_law_tree := by
      dsimp only [L2.KOf]; refine' S20.df_mk KX G ?a ?l ?c ?k
      (case a => k_is); (case l => k_is); (case c => k_is); (case k => k_is)
    have d20 : L2.Df (L2.KOf KX) mg "_law_word" S20.s_law_word := by
      dsimp only [L2.KOf]; refine' S20.df_mk KX G ?a ?l ?c ?k
      (case a => k_is); (case l => k_is); (case c => k_is); (case k => k_is)
    have d21 : L2.Df (L2.KOf KX) mg "_law_reads" S20.s_law_reads := by
      dsimp only [L2.KOf]; refine' S20.df_mk KX G ?a ?l ?c ?k
      (case a => k_is); (case l => k_is); (case c => k_is); (case k => k_is)
    have d22 : L2.Df (L2.KOf KX) mg "_law_seek" S20.s_law_seek := by
      dsimp only [L2.KOf]; refine' S20.df_mk KX G ?a ?l ?c ?k
      (case a => k_is); (case l => k_is); (case c => k_is); (case k => k_is)
    have d23 : L2.Df (L2.KOf KX) mg "_law_kind" S20.s_law_kind := by
      dsimp only [L2.KOf]; refine' S20.df_mk KX G ?a ?l ?c ?k
      (case a => k_is); (case l => k_is); (case c => k_is); (case k => k_is)
    have d24 : L2.Df (L2.KOf KX) mg "_law_things" S20.s_law_things := by
      dsimp only [L2.KOf]; refine' S20.df_mk KX G ?a ?l ?c ?k
      (case a => k_is); (case l => k_is); (case c => k_is); (case k => k_is)
    have d25 : L2.Df (L2.KOf KX) mg "law" S20.s_law := by
      dsimp only [L2.KOf]; refine' S20.df_mk KX G ?a ?l ?c ?k
      (case a => k_is); (case l => k_is); (case c => k_is); (case k => k_is)
    have EX : S20.Exs (L2.KOf KX) mg := by
      dsimp only [L2.KOf]; refine' S20.exs_mk KX G ?a_UpError ?a_NoPlace ?a_NoNumber ?a_NoWord ?a_NoRows ?a_NoRuns ?a_NoCover ?a_NoText ?a_TooMany ?a_NoTries ?a_NoPattern ?a_NoLetter ?a_NoLeaf ?a_NoChange ?a_NoLine ?a_NoTree ?q_NoNumber ?ga_NoNumber ?gn_NoNumber ?cl_NoNumber ?ob_NoNumber ?be_NoNumber ?cd_NoNumber ?u_NoNumber ?q_NoWord ?ga_NoWord ?gn_NoWord ?cl_NoWord ?ob_NoWord ?be_NoWord ?cd_NoWord ?u_NoWord ?gt ?tk ?nn ?nw ?wn ?ww ?nv ?wv ?n1 ?w1 ?n2 ?w2
      (case a_UpError => k_is); (case a_NoPlace => k_is); (case a_NoNumber => k_is); (case a_NoWord => k_is); (case a_NoRows => k_is); (case a_NoRuns => k_is); (case a_NoCover => k_is); (case a_NoText => k_is); (case a_TooMany => k_is); (case a_NoTries => k_is); (case a_NoPattern => k_is); (case a_NoLetter => k_is); (case a_NoLeaf => k_is); (case a_NoChange => k_is); (case a_NoLine => k_is); (case a_NoTree => k_is); (case q_NoNumber => first | k_exc | k_is); (case ga_NoNumber => k_is); (case gn_NoNumber => k_is); (case cl_NoNumber => k_is); (case ob_NoNumber => k_is); (case be_NoNumber => k_is); (case cd_NoNumber => first | k_is | kernel_rfl); (case u_NoNumber => first | k_is | kernel_rfl); (case q_NoWord => first | k_exc | k_is); (case ga_NoWord => k_is); (case gn_NoWord => k_is); (case cl_NoWord => k_is); (case ob_NoWord => k_is); (case be_NoWord => k_is); (case cd_NoWord => first | k_is | kernel_rfl); (case u_NoWord => first | k_is | kernel_rfl); (case gt => k_is); (case tk => k_is); (case nn => first | k_is | kernel_rfl); (case nw => first | k_is | kernel_rfl); (case wn => first | k_is | kernel_rfl); (case ww => first | k_is | kernel_rfl); (case nv => first | k_is | kernel_rfl); (case wv => first | k_is | kernel_rfl); (case n1 => first | k_is | kernel_rfl); (case w1 => first | k_is | kernel_rfl); (case n2 => first | k_is | kernel_rfl); (case w2 => first | k_is | kernel_rfl)
    obtain ⟨fd, h1, h2⟩ := S20.all_ok (P := PySem.Challenge.rw_upwords_k20_no_such_word_or_number.prog) (w := w) hmg ⟨⟨B, Bx0, Bx1, Bx2, Bx3⟩, Bx4⟩ d1 d2 d3 d4 d5 d6 d7 d8 d9 d10 d11 d12 d13 d14 d15 d16 d17 d18 d19 d20 d21 d22 d23 d24 d25 EX
    exact ⟨fd, h1, fun base _ _ => h2 base⟩
