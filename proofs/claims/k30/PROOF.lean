import PyProof.Rows.All
import Wide.All
import OpenK.AllK
import Wide.FinOn
import Lean
import PyProof.EqAt
import PyProof.EqKinds
import PyProof.TupleCall
import KE.KSortTup
import KE.KLam
import PyProof.ListRange
import KE.KDictOf
import PyProof.DictWalks
import PyProof.AttrMissSeq
import KE.KDictSum
import PyProof.Rows.TupAdd
import KE.KTryOn
import PyProof.NsDelKeeps
import PyProof.ExcAttrAll.ValueError
import KE.KMinKey
import PySem.Challenge.RW_upwords_k30_rows_of_few_letters
set_option Elab.async false
set_option linter.all false
set_option maxRecDepth 100000
/-! THE HAND LAYER, for ints, bools, texts, own classes, LISTS and tuples (index, slices, in, append, pop ..), calls, loops. Paste it whole ahead of your own text; what your proof does not reach may be deleted. -/
namespace L2
open PySem PySem.Spec PyProof.Rows

/-- a key: an int or a str -/
abbrev Key := Sum Int Str
def keyIs : Key → Value → Bool
  | .inl k, v => Value.isInt k v
  | .inr x, v => Value.isStrOf x v
def keyH (w : World) : Key → Int
  | .inl k => hashInt k
  | .inr x => hashStr w x
theorem keyIs_shape : ∀ {k : Key} {v : Value}, keyIs k v = true → (∃ i t, k = Sum.inl i ∧ v = Value.int i t) ∨ (∃ x t, k = Sum.inr x ∧ v = Value.str x t)
  | .inl i, v, h => by
    obtain ⟨t, e⟩ := Value.isInt_shape (k := i) (v := v) h
    exact .inl ⟨i, t, rfl, e⟩
  | .inr x, v, h => by
    obtain ⟨t, e⟩ := Value.isStrOf_shape (x := x) (v := v) h
    exact .inr ⟨x, t, rfl, e⟩
theorem key_ll (a b : Int) : decide ((Sum.inl a : Key) = Sum.inl b) = (a == b) := by
  by_cases e : a = b
  · subst e; simp
  · have h : ¬ (Sum.inl a : Key) = Sum.inl b := fun q => e (Sum.inl.inj q)
    rw [decide_eq_false h]
    exact (beq_eq_false_iff_ne.mpr e).symm
theorem key_rr (a b : Str) : decide ((Sum.inr a : Key) = Sum.inr b) = decide (a = b) := by
  by_cases e : a = b
  · subst e; simp
  · have h : ¬ (Sum.inr a : Key) = Sum.inr b := fun q => e (Sum.inr.inj q)
    rw [decide_eq_false h, decide_eq_false e]
theorem key_lr (a : Int) (b : Str) : decide ((Sum.inl a : Key) = Sum.inr b) = false := decide_eq_false (fun q => nomatch q)
theorem key_rl (a : Str) (b : Int) : decide ((Sum.inr a : Key) = Sum.inl b) = false := decide_eq_false (fun q => nomatch q)

def mixKind (prog : Program) (w : World) : PySem.KeyKind prog w Key where
  is := keyIs
  hash := keyH w
  inj := fun v a b ha hb => by
    rcases keyIs_shape ha with ⟨i, t, rfl, rfl⟩ | ⟨x, t, rfl, rfl⟩
    · rcases keyIs_shape hb with ⟨j, u, rfl, e⟩ | ⟨y, u, rfl, e⟩
      · injection e with e1 _; rw [e1]
      · exact nomatch e
    · rcases keyIs_shape hb with ⟨j, u, rfl, e⟩ | ⟨y, u, rfl, e⟩
      · exact nomatch e
      · injection e with e1 _; rw [e1]
  byValue := fun k v h => by
    rcases keyIs_shape h with ⟨i, t, rfl, rfl⟩ | ⟨x, t, rfl, rfl⟩ <;> rfl
  pyHash := fun hv h => by
    rcases keyIs_shape hv with ⟨i, t, rfl, rfl⟩ | ⟨x, t, rfl, rfl⟩
    · exact wpAny_pyHash_int h
    · exact wpAny_pyHash_str h
  eqBool := fun hu hv h => by
    rcases keyIs_shape hu with ⟨i, t, rfl, rfl⟩ | ⟨x, t, rfl, rfl⟩
    · rcases keyIs_shape hv with ⟨j, u, rfl, rfl⟩ | ⟨y, u, rfl, rfl⟩
      · rw [key_ll] at h; exact wpAny_eqBool_int h
      · rw [key_lr] at h; exact SeqAt.EqAt.int_str i t y u _ _ _ _ h
    · rcases keyIs_shape hv with ⟨j, u, rfl, rfl⟩ | ⟨y, u, rfl, rfl⟩
      · rw [key_rl] at h; exact SeqAt.EqAt.str_int x t j u _ _ _ _ h
      · rw [key_rr] at h; exact wpAny_eqBool_str h
  «strs» := fun k x t v h => by
    rcases keyIs_shape h with ⟨i, u, rfl, e⟩ | ⟨y, u, rfl, e⟩
    · exact nomatch e
    · injection e with e1 _
      subst e1
      cases v <;> rfl

end L2

namespace L2
open PySem PySem.Spec PyProof.Rows

/-- a value, without the heap -/
inductive V where
  | non | bl (b : Bool) | int (i : Int) | str (x : Str) | byt (b : Array UInt8) | flt (b : UInt64) | ref (a : Addr) | ty (n : String)
  deriving DecidableEq

def RelV : V → Value → Prop
  | .non, u => u = Value.none
  | .bl b, u => u = Value.bool b
  | .int i, u => ∃ t, u = Value.int i t
  | .str x, u => ∃ t, u = Value.str x t
  | .byt b, u => ∃ t, u = Value.bytes b t
  | .flt b, u => ∃ t, u = Value.float b t
  | .ref a, u => u = Value.ref a
  | .ty n, u => u = Value.type n

abbrev Vals : List V → List Value → Prop := Paired RelV
theorem Vals.length {xs : List V} {us : List Value} (r : Vals xs us) : xs.length = us.length := Paired.length r
theorem Vals.get : ∀ {xs : List V} {us : List Value} {i : Nat} {x : V}, Vals xs us → xs[i]? = some x → ∃ u, us[i]? = some u ∧ RelV x u
  | _, _, _, _, .nil, e => by simp at e
  | _, _, 0, _, .cons r _, e => by simp at e; subst e; exact ⟨_, rfl, r⟩
  | _, _, i + 1, x, .cons _ t, e => by
    obtain ⟨u, h1, h2⟩ := Vals.get (i := i) (x := x) t (by simpa using e)
    exact ⟨u, by simpa using h1, h2⟩
theorem Vals.set {x : V} {u : Value} (r : RelV x u) : ∀ {xs : List V} {us : List Value} (i : Nat), Vals xs us → Vals (xs.set i x) (us.set i u)
  | _, _, _, .nil => .nil
  | _, _, 0, .cons _ t => .cons r t
  | _, _, i + 1, .cons q t => .cons q (Vals.set r i t)
theorem Vals.append : ∀ {xs ys : List V} {us ws : List Value}, Vals xs us → Vals ys ws → Vals (xs ++ ys) (us ++ ws)
  | _, _, _, _, .nil, s => s
  | _, _, _, _, .cons r t, s => .cons r (Vals.append t s)
theorem Vals.take : ∀ {xs : List V} {us : List Value} (n : Nat), Vals xs us → Vals (xs.take n) (us.take n)
  | _, _, 0, _ => .nil
  | _, _, _ + 1, .nil => .nil
  | _, _, n + 1, .cons r t => .cons r (Vals.take n t)
theorem Vals.drop : ∀ {xs : List V} {us : List Value} (n : Nat), Vals xs us → Vals (xs.drop n) (us.drop n)
  | _, _, 0, r => r
  | _, _, _ + 1, .nil => .nil
  | _, _, n + 1, .cons _ t => Vals.drop n t
def RelO : Option V → Option Value → Prop
  | some v, some u => RelV v u
  | none, none => True
  | _, _ => False
def KV {κ : Type} : List (κ × V) → List (κ × Value) → Prop := Paired fun (p : κ × V) (q : κ × Value) => p.1 = q.1 ∧ RelV p.2 q.2

/-- a key of a dict (00_mix): an int or a text -/
def kV : Key → V
  | .inl i => .int i
  | .inr x => .str x

/-- what stands at a tracked address -/
inductive HO where
  /-- a list -/
  | lst (xs : List V)
  /-- a tuple (never changes) -/
  | tup (xs : List V)
  /-- a dict whose keys are ints and texts; one whose keys are tuples of ints and texts (the empty one is both) -/
  | dK (kvs : List (Key × V)) | dT (kvs : List (List Key × V))
  /-- a set of ints: its members, its size -/
  | set (S : Int → Bool) (n : Nat)
  /-- an instance of the class at C, its dict at dx, its attributes -/
  | ins (C dx : Addr) (fs : List (Str × V))
  /-- the dict of the instance at x -/
  | own (x : Addr)
  /-- the dict of an exception -/
  | xd (fs : List (Str × V))
  /-- a bound method, f of x -/
  | met (f x : Addr)
  /-- a range object lo, lo + 1, .. below hi -/
  | rng (lo hi : Int)
  /-- a thing that is known to the object (the script; a dict while a loop walks it): read, never written while it is so -/
  | frz (o : Obj) (u : HO)
  /-- a code object's table -/
  | tbl (ps : Array Value)
  /-- any other thing, by what is true of its one object (a def of one's own: SetO a S n := HO.ext fun h => ..) -/
  | ext (φ : Heap → Prop)

abbrev Hp := Addr → Option HO
def upd (H : Hp) (a : Addr) (o : HO) : Hp := fun b => if b = a then some o else H b
theorem upd_same {H : Hp} {a : Addr} {o : HO} : upd H a o a = some o := by unfold upd; rw [if_pos rfl]
theorem upd_ne {H : Hp} {a b : Addr} {o : HO} (h : b ≠ a) : upd H a o b = H b := by unfold upd; rw [if_neg h]
/-- two objects of different content stand apart -/
theorem ne_of {H : Hp} {a b : Addr} {o u : HO} (h : H a = some o) (h' : H b = some u) (d : o ≠ u) : a ≠ b := by
  intro e; subst e; rw [h] at h'; exact d (Option.some.inj h')
theorem ne_of_none {H : Hp} {a b : Addr} {o : HO} (h : H a = some o) (h' : H b = none) : a ≠ b := by
  intro e; subst e; rw [h] at h'; cases h'

section
variable (P : Program) (w : World)
def ObjOk (H : Hp) (h : Heap) (a : Addr) : HO → Prop
  | .lst xs => xs.length ≤ sizeLine ∧ ∃ (its : List Value) (n : Nat), Vals xs its ∧ h.get? a = some { cls := .type "list", data := .seq its.toArray n }
  | .tup xs => (xs.length ≤ sizeLine ∧ ∃ o, h.get? a = some o ∧ o.dict = none) ∧ ∃ its : List Value, Vals xs its ∧ IsTup h a its.toArray
  | .dK kvs => kvs.length ≤ sizeLine ∧ (a == sysModules) = false ∧ ∃ vs, KV kvs vs ∧ h.DictOf (mixKind P w) a vs
  | .dT kvs => kvs.length ≤ sizeLine ∧ (a == sysModules) = false ∧ ∃ xs : List (List Key × Addr × Value),
      Paired (fun (p : List Key × V) (q : List Key × Addr × Value) => p.1 = q.1 ∧ H q.2.1 = some (.tup (p.1.map kV)) ∧ RelV p.2 q.2.2) kvs xs ∧
      ∃ o es ep, h.get? a = some o ∧ o.ExactDict ∧ o.data = .dict es ep ∧ es.toList = xs.map (entryOfKey (tupleKind (mixKind P w))) ∧ (xs.map (·.1)).Nodup
  | .set S n => h.SetOf (intKind P w) a S n
  | .ins C dx fs => H dx = some (.own a) ∧ fs.length ≤ 1000 ∧ dx ≠ a ∧ h.get? a = some (PySem.W.instObj C dx) ∧
      ∃ mA, h.Ns1 dx mA ∧ (∀ f, RelO (fs.lookup f) (mA f)) ∧ PySem.Within mA (fs.map (·.1))
  | .own _ => ∃ o, h.get? a = some o
  | .xd fs => ∃ mA, h.Ns1 a mA ∧ ∀ f, RelO (fs.lookup f) (mA f)
  | .rng lo hi => ∃ t u v, h.get? a = some { cls := .type "range", data := .fields #[.int lo t, .int hi u, .int 1 v] }
  | .frz o u => h.get? a = some o ∧ ObjOk H h a u
  | .tbl ps => h.get? a = some { cls := .none, data := .fields ps }
  | .met f x => h.get? a = some (PySem.W.methodObj (.ref f) (.ref x))
  | .ext φ => φ h ∧ (∃ o, h.get? a = some o) ∧ ∀ h1 h2 : Heap, φ h1 → (∀ o, h1.get? a = some o → h2.get? a = some o) → φ h2
/-- the abstract heap is held -/
def HOk (H : Hp) (h : Heap) : Prop := ∀ a o, H a = some o → ObjOk P w H h a o
end

section
variable {P : Program} {w : World} {H H' : Hp} {h h' : Heap} {a : Addr} {o : HO}
theorem ObjOk.lt (x : ObjOk P w H h a o) : a < h.objs.size := by
  cases o with
  | lst xs => obtain ⟨_, _, _, _, e⟩ := x; exact Heap.lt_size e
  | tup xs => obtain ⟨_, _, _, p⟩ := x; exact p.lt
  | dK kvs => obtain ⟨_, _, _, _, o, _, _, e, _⟩ := x; exact Heap.lt_size e
  | dT kvs => obtain ⟨_, _, _, _, o, _, _, e, _⟩ := x; exact Heap.lt_size e
  | set S n => obtain ⟨o, _, _, _, e, _⟩ := x; exact Heap.lt_size e
  | ins C dx fs => obtain ⟨_, _, _, e, _⟩ := x; exact Heap.lt_size e
  | own y => obtain ⟨_, e⟩ := x; exact Heap.lt_size e
  | xd fs => obtain ⟨_, ⟨_, _, _, e, _⟩, _⟩ := x; exact Heap.lt_size e
  | rng lo hi => obtain ⟨_, _, _, e⟩ := x; exact Heap.lt_size e
  | frz ob u => obtain ⟨e, _⟩ := x; exact Heap.lt_size e
  | tbl ps => exact Heap.lt_size (show h.get? a = some _ from x)
  | met f y => exact Heap.lt_size (show h.get? a = some _ from x)
  | ext φ => obtain ⟨_, ⟨_, e⟩, _⟩ := x; exact Heap.lt_size e
theorem Paired.mapP {α β : Type} {F G : α → β → Prop} : ∀ {l₁ : List α} {l₂ : List β}, Paired F l₁ l₂ → (∀ a b, F a b → G a b) → Paired G l₁ l₂
  | _, _, .nil, _ => .nil
  | _, _, .cons r t, f => .cons (f _ _ r) (Paired.mapP t f)
/-- what an object's description leans on: its own object, its own dict, the tuples -/
theorem ObjOk.stay (x : ObjOk P w H h a o) (k : ∀ b u, (b = a ∨ H b = some (.own a)) → h.get? b = some u → h'.get? b = some u)
    (ho : ∀ b, H b = some (.own a) → H' b = some (.own a)) (ht : ∀ b xs, H b = some (.tup xs) → H' b = some (.tup xs)) : ObjOk P w H' h' a o := by
  induction o with
  | lst xs => obtain ⟨z, its, n, r, e⟩ := x; exact ⟨z, its, n, r, k _ _ (.inl rfl) e⟩
  | tup xs => obtain ⟨⟨z, o1, e1, c1⟩, its, r, ob, e, c⟩ := x; exact ⟨⟨z, o1, k _ _ (.inl rfl) e1, c1⟩, its, r, ob, k _ _ (.inl rfl) e, c⟩
  | dK kvs => obtain ⟨z, y, vs, r, ob, es, ep, e, c⟩ := x; exact ⟨z, y, vs, r, ob, es, ep, k _ _ (.inl rfl) e, c⟩
  | dT kvs =>
    obtain ⟨z, y, xs, r, ob, es, ep, e, c⟩ := x
    exact ⟨z, y, xs, Paired.mapP r fun p q z => ⟨z.1, ht _ _ z.2.1, z.2.2⟩, ob, es, ep, k _ _ (.inl rfl) e, c⟩
  | set S n => obtain ⟨ob, es, ep, t, e, c⟩ := x; exact ⟨ob, es, ep, t, k _ _ (.inl rfl) e, c⟩
  | ins C dx fs =>
    obtain ⟨d, z, ne, e, mA, ⟨od, es, ep, e2, c⟩, r⟩ := x
    exact ⟨ho _ d, z, ne, k _ _ (.inl rfl) e, mA, ⟨od, es, ep, k _ _ (.inr d) e2, c⟩, r⟩
  | own y => obtain ⟨ob, e⟩ := x; exact ⟨ob, k _ _ (.inl rfl) e⟩
  | xd fs => obtain ⟨mA, ⟨od, es, ep, e, c⟩, r⟩ := x; exact ⟨mA, ⟨od, es, ep, k _ _ (.inl rfl) e, c⟩, r⟩
  | rng lo hi => obtain ⟨t, u, v, e⟩ := x; exact ⟨t, u, v, k _ _ (.inl rfl) e⟩
  | frz ob u ih => obtain ⟨e, q⟩ := x; exact ⟨k _ _ (.inl rfl) e, ih q⟩
  | tbl ps =>
    have e : h.get? a = some { cls := .none, data := .fields ps } := x
    show h'.get? a = some { cls := .none, data := .fields ps }
    exact k a _ (.inl rfl) e
  | met f y =>
    have e : h.get? a = some (PySem.W.methodObj (.ref f) (.ref y)) := x
    show h'.get? a = some (PySem.W.methodObj (.ref f) (.ref y))
    exact k a _ (.inl rfl) e
  | ext φ => obtain ⟨p, ⟨o, e⟩, st⟩ := x; exact ⟨st _ _ p fun o q => k _ _ (.inl rfl) q, ⟨o, k _ _ (.inl rfl) e⟩, st⟩
theorem HOk.lt (x : HOk P w H h) (e : H a = some o) : a < h.objs.size := (x a o e).lt
theorem HOk.fresh (x : HOk P w H h) (e : h.objs.size ≤ a) : H a = none := by
  cases q : H a with
  | none => rfl
  | some u => exact absurd (Nat.lt_of_lt_of_le (x.lt q) e) (Nat.lt_irrefl _)
/-- every object of the heap is kept -/
theorem HOk.kept (x : HOk P w H h) (k : ∀ b u, h.get? b = some u → h'.get? b = some u) : HOk P w H h' := fun a o e =>
  (x a o e).stay (fun b u _ q => k b u q) (fun _ q => q) fun _ _ q => q
/-- a new object is laid and tracked -/
theorem HOk.laid (x : HOk P w H h) (k : ∀ b u, h.get? b = some u → h'.get? b = some u) (hp : h.objs.size ≤ a) (new : ObjOk P w (upd H a o) h' a o) : HOk P w (upd H a o) h' := fun b u e => by
  have hn := x.fresh hp
  by_cases hb : b = a
  · subst hb; rw [upd_same] at e; cases e; exact new
  · rw [upd_ne hb] at e
    exact (x b u e).stay (fun c v _ q => k c v q) (fun c q => by rw [upd_ne (ne_of_none q hn)]; exact q) fun c xs q => by rw [upd_ne (ne_of_none q hn)]; exact q
end

/-- what may be read as u: it is u, or a known u -/
def Rd (H : Hp) (a : Addr) (u : HO) : Prop := H a = some u ∨ ∃ o, H a = some (.frz o u)
theorem Rd.of {H : Hp} {a : Addr} {u : HO} (h : H a = some u) : Rd H a u := .inl h
theorem Rd.ok {P : Program} {w : World} {H : Hp} {h : Heap} {a : Addr} {u : HO} (r : Rd H a u) (x : HOk P w H h) : ObjOk P w H h a u := by
  rcases r with r | ⟨o, r⟩
  · exact x a u r
  · obtain ⟨_, q⟩ := x a _ r
    exact q
/-- what may be written -/
def Mut : Option HO → Prop
  | some (.lst _) => True
  | some (.dK _) => True
  | some (.dT _) => True
  | some (.set _ _) => True
  | some (.ins _ _ _) => True
  | some (.ext _) => True
  | _ => False
section
variable {P : Program} {w : World} {H : Hp} {h h' : Heap} {x e : Addr} {o' : HO}
/-- the object at e is changed: x itself, or the dict of the instance x -/
theorem HOk.write (ok : HOk P w H h) (mu : Mut (H x)) (he : e = x ∨ H e = some (.own x)) (k : ∀ b u, b ≠ e → h.get? b = some u → h'.get? b = some u) (heo : ∃ u, h'.get? e = some u)
    (new : ObjOk P w (upd H x o') h' x o') : HOk P w (upd H x o') h' := fun b u q => by
  have nown : ∀ c y, H c = some (.own y) → c ≠ x := fun c y r z => by subst z; rw [r] at mu; exact mu
  have ntup : ∀ c xs, H c = some (.tup xs) → c ≠ x := fun c xs r z => by subst z; rw [r] at mu; exact mu
  by_cases hb : b = x
  · subst hb; rw [upd_same] at q; cases q; exact new
  · rw [upd_ne hb] at q
    by_cases hbe : b = e
    · have q' : H b = some (.own x) := by
        rcases he with z | z
        · exact absurd (hbe.trans z) hb
        · rw [hbe]; exact z
      rw [q] at q'; cases q'
      obtain ⟨v, hv⟩ := heo
      exact ⟨v, by rw [hbe]; exact hv⟩
    · refine (ok b u q).stay (fun c v hc r => k c v ?_ r) (fun c r => by rw [upd_ne (nown c b r)]; exact r) fun c xs r => by rw [upd_ne (ntup c xs r)]; exact r
      rcases hc with rfl | hc
      · exact hbe
      · rintro rfl
        rcases he with z | z
        · exact nown c b hc z
        · rw [hc] at z; cases z; exact hb rfl
end

/-! ### kept unless tracked; of the frames at fs (the callers') the slots may change (an exception that passes writes there); of the records at ex (iterators) nothing is said -/
structure Un (fs ex : List Addr) (H H' : Hp) (h h' : Heap) : Prop where
  keep : ∀ b o, h.get? b = some o → H b = none → b ∉ fs → b ∉ ex → h'.get? b = some o
  slot : ∀ b o, h.get? b = some o → H b = none → b ∈ fs → b ∉ ex → ∃ sl, h'.get? b = some { o with slots := sl }
  free : ∀ b o, h.get? b = some o → H b = none → b ∉ ex → H' b = none
  there : ∀ b o, h.get? b = some o → b ∉ ex → ∃ o', h'.get? b = some o'
  tups : ∀ b xs, H b = some (.tup xs) → H' b = some (.tup xs)
  frzs : ∀ b o u, H b = some (.frz o u) → H' b = some (.frz o u)
  tbls : ∀ b ps, H b = some (.tbl ps) → ∃ more, H' b = some (.tbl (ps ++ more))
section
variable {fs fs' ex ex' : List Addr} {H H1 H2 : Hp} {h h1 h2 h' : Heap} {a x e : Addr} {o : HO}
theorem Un.any (u : Un fs ex H H1 h h1) {b : Addr} {ob : Obj} (q : h.get? b = some ob) (n : H b = none) (hx : b ∉ ex) : ∃ sl, h1.get? b = some { ob with slots := sl } := by
  by_cases hb : b ∈ fs
  · exact u.slot b ob q n hb hx
  · exact ⟨ob.slots, u.keep b ob q n hb hx⟩
theorem Un.trans (a : Un fs ex H H1 h h1) (b : Un fs ex H1 H2 h1 h2) : Un fs ex H H2 h h2 where
  keep := fun c ob q n hc hx => b.keep c ob (a.keep c ob q n hc hx) (a.free c ob q n hx) hc hx
  slot := fun c ob q n hc hx => by
    obtain ⟨sl, e1⟩ := a.slot c ob q n hc hx
    obtain ⟨sl', e2⟩ := b.slot c _ e1 (a.free c ob q n hx) hc hx
    exact ⟨sl', e2⟩
  free := fun c ob q n hx => by
    obtain ⟨o', e1⟩ := a.there c ob q hx
    exact b.free c o' e1 (a.free c ob q n hx) hx
  there := fun c ob q hx => by
    obtain ⟨o', e1⟩ := a.there c ob q hx
    exact b.there c o' e1 hx
  tups := fun c xs q => b.tups c xs (a.tups c xs q)
  frzs := fun c ob xs q => b.frzs c ob xs (a.frzs c ob xs q)
  tbls := fun c ps q => by
    obtain ⟨m1, e1⟩ := a.tbls c ps q
    obtain ⟨m2, e2⟩ := b.tbls c _ e1
    exact ⟨m1 ++ m2, by rw [e2, Array.append_assoc]⟩
theorem Un.kept (k : ∀ b u, h.get? b = some u → h'.get? b = some u) : Un fs ex H H h h' :=
  ⟨fun b ob q _ _ _ => k b ob q, fun b ob q _ _ _ => ⟨ob.slots, k b ob q⟩, fun _ _ _ n _ => n, fun b ob q _ => ⟨ob, k b ob q⟩, fun _ _ q => q, fun _ _ _ q => q, fun _ ps q => ⟨#[], by rw [q]; simp⟩⟩
theorem Un.refl : Un fs ex H H h h := Un.kept fun _ _ q => q
theorem Un.laid (k : ∀ b u, h.get? b = some u → h'.get? b = some u) (hp : h.objs.size ≤ a) (hn : H a = none) : Un fs ex H (upd H a o) h h' where
  keep := fun b u q _ _ _ => k b u q
  slot := fun b u q _ _ _ => ⟨u.slots, k b u q⟩
  free := fun b u q n _ => by rw [upd_ne (Nat.ne_of_lt (Nat.lt_of_lt_of_le (Heap.lt_size q) hp))]; exact n
  there := fun b u q _ => ⟨u, k b u q⟩
  tups := fun b xs q => by rw [upd_ne (ne_of_none q hn)]; exact q
  frzs := fun b u xs q => by rw [upd_ne (ne_of_none q hn)]; exact q
  tbls := fun b ps q => ⟨#[], by rw [upd_ne (ne_of_none q hn), q]; simp⟩
theorem Un.write (mu : Mut (H x)) (he : e = x ∨ H e = some (.own x)) (k : ∀ b u, b ≠ e → h.get? b = some u → h'.get? b = some u) (heo : ∃ u, h'.get? e = some u) : Un fs ex H (upd H x o) h h' := by
  have hx : ∀ b, H b = none → b ≠ x := fun b n z => by subst z; rw [n] at mu; exact mu
  have hb : ∀ b, H b = none → b ≠ e := fun b n z => by
    subst z
    rcases he with r | r
    · exact hx b n r
    · rw [n] at r; cases r
  have hm : ∀ b u, H b = some u → ¬ Mut (some u) → b ≠ x := fun b u q nm z => by subst z; rw [q] at mu; exact nm mu
  refine ⟨fun b u q n _ _ => k b u (hb b n) q, fun b u q n _ _ => ⟨u.slots, k b u (hb b n) q⟩, fun b u q n _ => by rw [upd_ne (hx b n)]; exact n, fun b u q _ => ?_,
    fun b xs q => by rw [upd_ne (hm b _ q fun z => z)]; exact q, fun b u xs q => by rw [upd_ne (hm b _ q fun z => z)]; exact q, fun b ps q => ⟨#[], by rw [upd_ne (hm b _ q fun z => z), q]; simp⟩⟩
  by_cases hbe : b = e
  · subst hbe; exact heo
  · exact ⟨u, k b u hbe q⟩
theorem Un.mono (u : Un fs ex H H1 h h1) (hs : ∀ b ∈ fs, b ∈ fs') (hx : ∀ b ∈ ex, b ∈ ex') : Un fs' ex' H H1 h h1 :=
  ⟨fun b ob q n hb he => u.keep b ob q n (fun z => hb (hs b z)) fun z => he (hx b z), fun _ _ q n _ he => u.any q n fun z => he (hx _ z), fun b ob q n he => u.free b ob q n fun z => he (hx b z), fun b ob q he => u.there b ob q fun z => he (hx b z), u.tups, u.frzs, u.tbls⟩
end

/-! ### the heap without what is tracked -/
def trk (h : Heap) (H : Hp) : List Addr := (List.range h.objs.size).filter fun a => (H a).isSome
def hidT (h : Heap) (H : Hp) : Heap := PySem.W.hideAll h (trk h H)
theorem hidT_size (h : Heap) (H : Hp) : (hidT h H).objs.size = h.objs.size := PySem.W.hideAll_size _ _
theorem hidT_get {h : Heap} {H : Hp} {b : Addr} {o : Obj} (e : h.get? b = some o) (n : H b = none) : (hidT h H).get? b = some o :=
  PySem.W.hideAll_get _ e fun hm => by
    have q : (H b).isSome = true := (List.mem_filter.mp hm).2
    rw [n] at q; simp at q
theorem of_hidT {h : Heap} {H : Hp} {b : Addr} {o : Obj} (e : (hidT h H).get? b = some o) : h.get? b = some o ∧ H b = none := by
  have e' : h.get? b = some o := PySem.W.of_hideAll (trk h H) e
  refine ⟨e', ?_⟩
  cases q : H b with
  | none => rfl
  | some x =>
    have hm : b ∈ trk h H := List.mem_filter.mpr ⟨List.mem_range.mpr (Heap.lt_size e'), by simp [q]⟩
    have z : (hidT h H).get? b = none := PySem.W.hideAll_none (trk h H) hm
    rw [z] at e; cases e

/-! ### OpenK's ledger, filled with every new object but one -/
def allNews (g h : Heap) (L : Addr) : List (Addr × Obj) := (List.range h.objs.size).filterMap fun a => if a = L ∨ (g.get? a).isSome = true then none else (h.get? a).map fun o => (a, o)
def rest (g h : Heap) (L d : Addr) : List (Addr × Obj) := (allNews g h L).filter fun p => decide (p.1 ≠ d)
end L2

namespace L2
open PySem PySem.Spec PyProof.Rows

/-- the module's facts, over the base: the heap at the law's entry without what is tracked there -/
structure Mod (K : PySem.W.Frag) (mg : Str → Option Value) (base : Heap) : Prop where
  kin : K.In base
  glob : base.Ns mainGlobals mg
  blt : ∃ mb, base.Ns builtinsNs mb ∧ ∀ x : Str, x ≠ "__name__" → mb x = bootBuiltins x
  nolimit : base.NoLimit

/-- the context: a def's body (or a comprehension's block) running. base: fixed through the whole law; s₀, H₀: the entry; outer: the frames whose slots others may change (a def's callers); stack: all frames that run;
   ex: iterators that were made ahead of the entry and are walked here (a comprehension's); fn: the names whose cells were made at the entry (a def: all; a comprehension's block: its own); calm: not within an except suite; pn: pins that every state bears; xe: what is wanted of an exception that leaves the code -/
structure Cx where
  prog : Program
  w : World
  K : PySem.W.Frag
  mg : Str → Option Value
  base : Heap
  A : Around
  N : List Str
  s₀ : Shared
  H₀ : Hp
  env : Env
  outer : List Env
  stack : List Env
  ex : List Addr
  fn : Str → Bool
  calm : Bool
  pn : List (Addr × Obj)
  xe : Value → Shared → Prop
/-- the callers' frames -/
def frs (l : List Env) : List Addr := l.filterMap (·.frame)
abbrev Cx.fs (X : Cx) : List Addr := frs X.outer

def Vis (sc : Scope) (x : Str) : Prop := sc.names.lookup x = some .local ∨ sc.names.lookup x = some .cell ∨ sc.names.lookup x = some .free
def Loc (sc : Scope) (x : Str) : Prop := sc.names.lookup x = some .local ∨ sc.names.lookup x = some .cell
def Look (env : Env) (h : Heap) (m : Str → Option Value) (x : Str) (u : Value) : Prop :=
  (env.kindOf x = some .local ∧ m x = some u) ∨ ((env.kindOf x = some .cell ∨ env.kindOf x = some .free) ∧ ∃ c, env.cells.lookup x = some c ∧ h.IsCell c (some u))

structure Cx.Ok (X : Cx) : Prop where
  mod : Mod X.K X.mg X.base
  kind : X.env.scope.kind = .function
  glob : X.env.globals = mainGlobals
  blt : X.env.builtins = builtinsNs
  above : X.s₀.heap.objs.size ≤ X.env.locals
  inj : ∀ x y c, X.env.cells.lookup x = some c → X.env.cells.lookup y = some c → x = y
  has : ∀ x, (X.env.kindOf x = some .cell ∨ X.env.kindOf x = some .free) → ∃ c, X.env.cells.lookup x = some c
  cab : ∀ x c, X.fn x = true → X.env.cells.lookup x = some c → X.s₀.heap.objs.size ≤ c
  hd : X.calm = true → X.A.handled = none
  frames : X.A.frames = some X.stack
  stk : X.stack = X.outer ∨ (X.stack = X.env :: X.outer ∧ X.env.frame = some X.env.locals)
  exf : ∀ b ∈ X.ex, b ≠ X.env.locals ∧ ∀ x c, X.env.cells.lookup x = some c → c ≠ b
  bs : ∀ b o, X.base.get? b = some o → X.s₀.heap.get? b = some o ∧ X.H₀ b = none
  bsz : X.base.objs.size ≤ X.s₀.heap.objs.size
  noex : ∀ b o, X.base.get? b = some o → b ∉ X.ex
  exfs : ∀ b ∈ X.ex, b ∉ X.fs
  funs : X.s₀.heap.FunFrames X.base X.outer
  frf : ∀ b ∈ X.fs, X.H₀ b = none

structure Inv (X : Cx) (pins : List (Addr × Obj)) (σ : List (Option V)) (H : Hp) (s : Shared) : Prop where
  ok : X.Ok
  os : s.os = X.s₀.os
  bare : AllBare s.gens
  base : Un X.fs X.ex X.H₀ H X.s₀.heap s.heap
  loc : ∃ m, s.heap.Ns X.env.locals m ∧ ∀ (i : Nat) (x : Str) (v : V), X.N[i]? = some x → σ[i]? = some (some v) → Vis X.env.scope x → ∃ u, RelV v u ∧ Look X.env s.heap m x u
  cell : ∀ x c, X.env.cells.lookup x = some c → ∃ v, s.heap.IsCell c v
  free : H X.env.locals = none
  freeC : ∀ x c, X.env.cells.lookup x = some c → H c = none
  pin : ∀ p ∈ X.pn ++ pins, s.heap.get? p.1 = some p.2 ∧ H p.1 = none ∧ p.1 ≠ X.env.locals ∧ p.1 ∉ X.fs ∧ ∀ v, p.2.data ≠ .cell v
  hok : HOk X.prog X.w H s.heap
  len : σ.length = X.N.length

section
variable {X : Cx} {pins : List (Addr × Obj)} {σ : List (Option V)} {H H' : Hp} {s : Shared} {h' : Heap}

theorem Cx.Ok.nofr (ok : X.Ok) {b : Addr} {o : Obj} (e : X.base.get? b = some o) : b ∉ X.fs := fun hb => by
  have := (ok.funs.mem hb).1
  rw [e] at this; cases this
theorem Inv.bs (I : Inv X pins σ H s) : ∀ b o, X.base.get? b = some o → s.heap.get? b = some o ∧ H b = none := fun b o e =>
  ⟨I.base.keep b o (I.ok.bs b o e).1 (I.ok.bs b o e).2 (I.ok.nofr e) (I.ok.noex b o e), I.base.free b o (I.ok.bs b o e).1 (I.ok.bs b o e).2 (I.ok.noex b o e)⟩
theorem Inv.bk (I : Inv X pins σ H s) : ∀ b o, X.base.get? b = some o → s.heap.get? b = some o := fun b o e => (I.bs b o e).1
theorem Inv.mod (I : Inv X pins σ H s) : Mod X.K X.mg X.base := I.ok.mod
theorem Inv.kIn (I : Inv X pins σ H s) : X.K.In s.heap := I.ok.mod.kin.keeps I.bk
theorem Inv.nolimit (I : Inv X pins σ H s) : s.heap.NoLimit := I.ok.mod.nolimit.keeps I.bk
/-- the frame over the base: for OpenK's rules (K.In X.base is I.mod.kin) -/
theorem Inv.fr (I : Inv X pins σ H s) : ∃ m, Fr X.base X.env.locals s.heap m :=
  let ⟨m, hn, _⟩ := I.loc
  ⟨m, hn, I.bk, Nat.le_trans I.ok.bsz I.ok.above⟩
theorem Inv.lt (I : Inv X pins σ H s) : X.env.locals < s.heap.objs.size := let ⟨_, hn, _⟩ := I.loc; hn.lt
theorem Inv.sz (I : Inv X pins σ H s) : X.s₀.heap.objs.size ≤ s.heap.objs.size := Nat.le_trans I.ok.above (Nat.le_of_lt I.lt)
theorem Inv.nofs (I : Inv X pins σ H s) {a : Addr} (h : s.heap.objs.size ≤ a) : a ∉ X.fs := fun hb => by
  obtain ⟨_, o, ho, _⟩ := I.ok.funs.mem hb
  exact absurd (Nat.lt_of_lt_of_le (Heap.lt_size ho) (Nat.le_trans I.sz h)) (Nat.lt_irrefl _)
theorem Inv.cne (I : Inv X pins σ H s) : ∀ x c, X.env.cells.lookup x = some c → c ≠ X.env.locals := fun x c e z => by
  obtain ⟨v, o, ho, hd⟩ := I.cell x c e
  obtain ⟨m, ⟨o', es, ep, ho', hd', _⟩, _⟩ := I.loc
  rw [z, ho'] at ho; cases ho; rw [hd'] at hd; cases hd
theorem Inv.funs (I : Inv X pins σ H s) : s.heap.FunFrames X.base X.outer := by
  have all : ∀ (l : List Env), (∀ b ∈ frs l, b ∈ X.fs) → X.s₀.heap.FunFrames X.base l → s.heap.FunFrames X.base l := by
    intro l
    induction l with
    | nil => intro _ _; trivial
    | cons env r ih =>
      intro hs hl
      obtain ⟨hk, ⟨L, o, hf, hn, ho, hd⟩, hr⟩ := hl
      have hL : L ∈ X.fs := hs L (by unfold frs; rw [List.filterMap_cons, hf]; exact List.mem_cons_self)
      obtain ⟨sl, e⟩ := I.base.slot L o ho (I.ok.frf L hL) hL fun z => I.ok.exfs L z hL
      exact ⟨hk, ⟨L, _, hf, hn, e, hd⟩, ih (fun b hb => hs b (by unfold frs; rw [List.filterMap_cons, hf]; exact List.mem_cons_of_mem _ hb)) hr⟩
  exact all X.outer (fun _ hb => hb) I.ok.funs

/-- the frames that run, for a call -/
theorem Inv.stack (I : Inv X pins σ H s) : s.heap.FunFrames X.base X.stack := by
  rcases I.ok.stk with e | ⟨e, hf⟩
  · rw [e]; exact I.funs
  · rw [e]
    obtain ⟨m, hn, _⟩ := I.loc
    refine .cons (by rw [I.ok.kind]; decide) hf hn ?_ I.funs
    exact Heap.get?_none_of_le (Nat.le_trans I.ok.bsz I.ok.above)
theorem Inv.stkSub (I : Inv X pins σ H s) : ∀ b ∈ frs X.stack, b ∈ X.env.locals :: X.fs := fun b hb => by
  rcases I.ok.stk with e | ⟨e, hf⟩
  · rw [e] at hb; exact List.mem_cons_of_mem _ hb
  · rw [e] at hb
    unfold frs at hb
    rw [List.filterMap_cons, hf] at hb
    exact hb
theorem Inv.stkFree (I : Inv X pins σ H s) : ∀ b ∈ frs X.stack, H b = none := fun b hb => by
  rcases List.mem_cons.mp (I.stkSub b hb) with e | hb
  · rw [e]; exact I.free
  · obtain ⟨_, o, ho, _⟩ := I.ok.funs.mem hb
    exact I.base.free b o ho (I.ok.frf b hb) fun z => I.ok.exfs b z hb

/-- THE STEP: the untracked objects but the frame and the records at ch are kept (the callers' frames up to slots), the frame's map is kept, the new abstract heap is held -/
theorem Inv.step {g' : Array GenState} {t' : Nat} {d' : Drawn} {ch : List Addr} (I : Inv X pins σ H s)
    (hch : ∀ b ∈ ch, (b ∈ X.ex ∨ X.s₀.heap.objs.size ≤ b) ∧ b ≠ X.env.locals ∧ (∀ x c, X.env.cells.lookup x = some c → c ≠ b) ∧ ∀ p ∈ X.pn ++ pins, p.1 ≠ b)
    (keep : ∀ b o, b ≠ X.env.locals → b ∉ X.fs → b ∉ ch → s.heap.get? b = some o → H b = none → h'.get? b = some o)
    (slot : ∀ b o, b ≠ X.env.locals → b ∈ X.fs → b ∉ ch → s.heap.get? b = some o → H b = none → ∃ sl, h'.get? b = some { o with slots := sl }) (free : ∀ b o, b ∉ ch → s.heap.get? b = some o → H b = none → H' b = none)
    (there : ∀ b o, b ∉ ch → s.heap.get? b = some o → ∃ o', h'.get? b = some o')
    (tups : ∀ b xs, H b = some (.tup xs) → H' b = some (.tup xs)) (frzs : ∀ b o u, H b = some (.frz o u) → H' b = some (.frz o u)) (tbls : ∀ b ps, H b = some (.tbl ps) → ∃ more, H' b = some (.tbl (ps ++ more)))
    (ns : ∀ m, s.heap.Ns X.env.locals m → h'.Ns X.env.locals m) (hok : HOk X.prog X.w H' h') (hg : AllBare g') :
    Inv X pins σ H' { s with heap := h', gens := g', drawn := d', toks := t' } := by
  have neL : ∀ b o, X.s₀.heap.get? b = some o → b ≠ X.env.locals := fun b o e => Nat.ne_of_lt (Nat.lt_of_lt_of_le (Heap.lt_size e) I.ok.above)
  have neC : ∀ b o, X.s₀.heap.get? b = some o → b ∉ X.ex → b ∉ ch := fun b o e hx hb => by
    rcases (hch b hb).1 with z | z
    · exact hx z
    · exact absurd (Nat.lt_of_lt_of_le (Heap.lt_size e) z) (Nat.lt_irrefl _)
  have cellK : ∀ x c, X.env.cells.lookup x = some c → ∀ v, s.heap.IsCell c v → h'.IsCell c v := fun x c e v ⟨o, ho, hd⟩ => by
    have nch : c ∉ ch := fun z => (hch c z).2.2.1 x c e rfl
    by_cases hc : c ∈ X.fs
    · obtain ⟨sl, q⟩ := slot c o (I.cne x c e) hc nch ho (I.freeC x c e)
      exact ⟨_, q, hd⟩
    · exact ⟨o, keep c o (I.cne x c e) hc nch ho (I.freeC x c e), hd⟩
  refine ⟨I.ok, I.os, hg, ⟨fun b o e n hb hx => ?_, fun b o e n hb hx => ?_, fun b o e n hx => ?_, fun b o e hx => ?_, fun b xs e => tups b xs (I.base.tups b xs e), fun b o xs e => frzs b o xs (I.base.frzs b o xs e), fun b ps e => ?_⟩, ?_, fun x c e => ?_, ?_, fun x c e => ?_, fun p hp => ?_, hok, I.len⟩
  · exact keep b o (neL b o e) hb (neC b o e hx) (I.base.keep b o e n hb hx) (I.base.free b o e n hx)
  · obtain ⟨sl, e1⟩ := I.base.slot b o e n hb hx
    obtain ⟨sl', e2⟩ := slot b _ (neL b o e) hb (neC b o e hx) e1 (I.base.free b o e n hx)
    exact ⟨sl', e2⟩
  · obtain ⟨o', e1⟩ := I.base.there b o e hx
    exact free b o' (neC b o e hx) e1 (I.base.free b o e n hx)
  · obtain ⟨o', e1⟩ := I.base.there b o e hx
    exact there b o' (neC b o e hx) e1
  · obtain ⟨m1, e1⟩ := I.base.tbls b ps e
    obtain ⟨m2, e2⟩ := tbls b _ e1
    exact ⟨m1 ++ m2, by rw [e2, Array.append_assoc]⟩
  · obtain ⟨m, hn, hl⟩ := I.loc
    refine ⟨m, ns m hn, fun i x v e1 e2 e3 => ?_⟩
    obtain ⟨u, r, l⟩ := hl i x v e1 e2 e3
    refine ⟨u, r, ?_⟩
    rcases l with l | ⟨k, c, e, z⟩
    · exact .inl l
    · exact .inr ⟨k, c, e, cellK x c e _ z⟩
  · obtain ⟨v, z⟩ := I.cell x c e
    exact ⟨v, cellK x c e v z⟩
  · obtain ⟨m, ⟨o, _, _, ho, _⟩, _⟩ := I.loc
    exact free _ o (fun z => (hch _ z).2.1 rfl) ho I.free
  · obtain ⟨v, o, ho, hd⟩ := I.cell x c e
    exact free c o (fun z => (hch c z).2.2.1 x c e rfl) ho (I.freeC x c e)
  · obtain ⟨e, n, ne, nf, d⟩ := I.pin p hp
    have nch : p.1 ∉ ch := fun z => (hch p.1 z).2.2.2 p hp rfl
    exact ⟨keep p.1 p.2 ne nf nch e n, free p.1 p.2 nch e n, ne, nf, d⟩
/-- .. where the frame's own object is kept too -/
theorem Inv.un {t' : Nat} (I : Inv X pins σ H s) (u : Un X.fs [] H H' s.heap h') (hok : HOk X.prog X.w H' h') : Inv X pins σ H' { s with heap := h', toks := t' } := by
  obtain ⟨m, ⟨o, es, ep, ho, r⟩, _⟩ := id I.loc
  obtain ⟨sl, hL⟩ := u.any ho I.free (by simp)
  exact I.step (g' := s.gens) (d' := s.drawn) (ch := []) (fun _ z => nomatch z) (fun b o _ hb _ e n => u.keep b o e n hb (by simp)) (fun b o _ hb _ e n => u.slot b o e n hb (by simp)) (fun b o _ e n => u.free b o e n (by simp)) (fun b o _ e => u.there b o e (by simp)) u.tups u.frzs u.tbls (fun m' hm => by
    obtain ⟨o', es', ep', ho', r'⟩ := hm
    rw [ho] at ho'; cases ho'
    exact ⟨_, es', ep', hL, r'⟩) hok I.bare
/-- behind a call (or a comprehension's block): the slots of this frame may have changed too, the records at ch may have turned -/
theorem Inv.call {g' : Array GenState} {t' : Nat} {d' : Drawn} {ch : List Addr} (I : Inv X pins σ H s) (u : Un (frs X.stack) ch H H' s.heap h') (hok : HOk X.prog X.w H' h') (hg : AllBare g')
    (hch : ∀ b ∈ ch, (b ∈ X.ex ∨ X.s₀.heap.objs.size ≤ b) ∧ b ≠ X.env.locals ∧ (∀ x c, X.env.cells.lookup x = some c → c ≠ b) ∧ ∀ p ∈ X.pn ++ pins, p.1 ≠ b) :
    Inv X pins σ H' { s with heap := h', gens := g', drawn := d', toks := t' } := by
  obtain ⟨m, ⟨o, es, ep, ho, r⟩, _⟩ := id I.loc
  obtain ⟨sl, hL⟩ := u.any ho I.free fun z => (hch _ z).2.1 rfl
  exact I.step (ch := ch) hch (fun b o hL hb hc e n => u.keep b o e n (fun z => (List.mem_cons.mp (I.stkSub b z)).elim hL hb) hc) (fun b o _ _ hc e n => u.any e n hc) (fun b o hc e n => u.free b o e n hc) (fun b o hc e => u.there b o e hc) u.tups u.frzs u.tbls (fun m' hm => by
    obtain ⟨o', es', ep', ho', r'⟩ := hm
    rw [ho] at ho'; cases ho'
    exact ⟨_, es', ep', hL, r'⟩) hok hg
/-- an untracked record of ours (an iterator) has turned -/
theorem Inv.turned {t' : Nat} {it : Addr} (I : Inv X pins σ H s) (k : ∀ b o, b ≠ it → s.heap.get? b = some o → h'.get? b = some o) (hn : H it = none) (hL : it ≠ X.env.locals)
    (h1 : it ∈ X.ex ∨ X.s₀.heap.objs.size ≤ it) (h2 : ∀ x c, X.env.cells.lookup x = some c → c ≠ it) (h3 : ∀ p ∈ X.pn ++ pins, p.1 ≠ it) : Inv X pins σ H { s with heap := h', toks := t' } := by
  have nit : ∀ b u, H b = some u → b ≠ it := fun b u e z => by rw [z, hn] at e; cases e
  refine I.step (g' := s.gens) (d' := s.drawn) (ch := [it]) (fun b hb => ?_) (fun b o _ _ hc e _ => k b o (fun z => hc (by simp [z])) e) (fun b o _ _ hc e _ => ⟨o.slots, k b o (fun z => hc (by simp [z])) e⟩) (fun _ _ _ _ n => n)
    (fun b o hc e => ⟨o, k b o (fun z => hc (by simp [z])) e⟩) (fun _ _ e => e) (fun _ _ _ e => e) (fun b ps e => ⟨#[], by rw [e]; simp⟩) (fun m hm => ?_) (fun b u e => ?_) I.bare
  · have e : b = it := by simpa using hb
    subst e
    exact ⟨h1, hL, h2, h3⟩
  · obtain ⟨o, es, ep, ho, r⟩ := hm
    exact ⟨o, es, ep, k _ o (Ne.symm hL) ho, r⟩
  · refine (I.hok b u e).stay (fun c v hc q => k c v ?_ q) (fun _ q => q) fun _ _ q => q
    rcases hc with z | z
    · rw [z]; exact nit b u e
    · exact nit c _ z
theorem Inv.tok (I : Inv X pins σ H s) (t : Nat) : Inv X pins σ H { s with toks := t } := I.un (h' := s.heap) (t' := t) Un.refl I.hok
/-- all objects kept -/
theorem Inv.kept {t' : Nat} (I : Inv X pins σ H s) (k : ∀ b u, s.heap.get? b = some u → h'.get? b = some u) : Inv X pins σ H { s with heap := h', toks := t' } := I.un (Un.kept k) (I.hok.kept k)
/-- a new object laid and tracked -/
theorem Inv.laid {a : Addr} {o : HO} {t' : Nat} (I : Inv X pins σ H s) (k : ∀ b u, s.heap.get? b = some u → h'.get? b = some u) (hp : s.heap.objs.size ≤ a) (new : ObjOk X.prog X.w (upd H a o) h' a o) :
    Inv X pins σ (upd H a o) { s with heap := h', toks := t' } := I.un (Un.laid k hp (I.hok.fresh hp)) (I.hok.laid k hp new)
/-- an object written -/
theorem Inv.write {x e : Addr} {o : HO} {t' : Nat} (I : Inv X pins σ H s) (mu : Mut (H x)) (he : e = x ∨ H e = some (.own x)) (k : ∀ b u, b ≠ e → s.heap.get? b = some u → h'.get? b = some u) (heo : ∃ u, h'.get? e = some u)
    (new : ObjOk X.prog X.w (upd H x o) h' x o) : Inv X pins σ (upd H x o) { s with heap := h', toks := t' } := I.un (Un.write mu he k heo) (I.hok.write mu he k heo new)
/-- forgetting slots, pins -/
theorem Inv.weak {σ' : List (Option V)} (I : Inv X pins σ H s) (hl : σ'.length = σ.length) (w : ∀ (i : Nat) v, σ'[i]? = some (some v) → σ[i]? = some (some v)) : Inv X pins σ' H s :=
  ⟨I.ok, I.os, I.bare, I.base, let ⟨m, hn, hl'⟩ := I.loc; ⟨m, hn, fun i x v e1 e2 e3 => hl' i x v e1 (w i v e2) e3⟩, I.cell, I.free, I.freeC, I.pin, I.hok, hl.trans I.len⟩
theorem Inv.pins_of {pins' : List (Addr × Obj)} (I : Inv X pins σ H s) (h : ∀ p ∈ pins', s.heap.get? p.1 = some p.2 ∧ H p.1 = none ∧ p.1 ≠ X.env.locals ∧ p.1 ∉ X.fs ∧ ∀ v, p.2.data ≠ .cell v) : Inv X pins' σ H s :=
  ⟨I.ok, I.os, I.bare, I.base, I.loc, I.cell, I.free, I.freeC, fun p hp => (List.mem_append.mp hp).elim (fun z => I.pin p (List.mem_append_left _ z)) (h p), I.hok, I.len⟩

theorem nodup_ix {N : List Str} (hN : N.Nodup) {i j : Nat} {x : Str} (a : N[i]? = some x) (b : N[j]? = some x) : i = j := by
  obtain ⟨h1, e1⟩ := List.getElem?_eq_some_iff.mp a
  obtain ⟨h2, e2⟩ := List.getElem?_eq_some_iff.mp b
  exact (List.getElem_inj hN).mp (e1.trans e2.symm)

/-- a name is stored; what changed -/
theorem store_ok2 {M : Model} {A : Around} {E : Value → Shared → Prop} {i : Nat} {x : Str} {v : V} {u : Value} {Q : Unit → Shared → Prop} (I : Inv X pins σ H s) (hN : X.N.Nodup) (hi : X.N[i]? = some x) (hx : Loc X.env.scope x) (r : RelV v u)
    (h : ∀ s', Inv X pins (σ.set i (some v)) H s' → (∃ a, Heap.SameBut a s.heap s'.heap ∧ (a = X.env.locals ∨ X.env.cells.lookup x = some a)) → Q () s') (hf : X.fn x = true ∨ X.env.scope.names.lookup x = some .local := by first | exact .inl rfl | exact .inr rfl | assumption) : wpAny M A (storeName X.env x u) Q E s := by
  obtain ⟨m, hn, hl⟩ := id I.loc
  have hcls : (X.env.scope.kind == .class || (X.env.scope.kind == .module && X.env.locals != X.env.globals)) = false := by rw [I.ok.kind]; rfl
  have hiσ : i < σ.length := by rw [I.len]; exact (List.getElem?_eq_some_iff.mp hi).1
  have cne := I.cne
  have tracked : ∀ {a : Addr} {h' : Heap}, (∃ o, s.heap.get? a = some o ∧ H a = none) → Heap.SameBut a s.heap h' → HOk X.prog X.w H h' := fun {a h'} ha hs b ob e => by
    obtain ⟨_, _, hfree⟩ := ha
    refine (I.hok b ob e).stay (fun c w' hc q => (hs.2 c ?_).trans q) (fun _ q => q) fun _ _ q => q
    rintro rfl
    rcases hc with rfl | hc
    · rw [hfree] at e; cases e
    · rw [hfree] at hc; cases hc
  rcases hx with hk | hk
  · refine wpAny_storeName_local hk hn (fun h' hn' hs => ?_) hcls
    obtain ⟨oL, _, _, hoL, _⟩ := id hn
    refine h _ ⟨I.ok, I.os, I.bare, ⟨fun b o e n hb hx => ?_, fun b o e n hb hx => ?_, I.base.free, fun b o e hx => ?_, I.base.tups, I.base.frzs, I.base.tbls⟩, ⟨_, hn', fun j y v' e1 e2 e3 => ?_⟩, fun y c e => ?_, I.free, I.freeC, fun p hp => ?_, tracked ⟨oL, hoL, I.free⟩ hs, by simpa using I.len⟩ ⟨_, hs, .inl rfl⟩
    · exact (hs.2 b (Nat.ne_of_lt (Nat.lt_of_lt_of_le (Heap.lt_size e) I.ok.above))).trans (I.base.keep b o e n hb hx)
    · obtain ⟨sl, e1⟩ := I.base.slot b o e n hb hx
      exact ⟨sl, (hs.2 b (Nat.ne_of_lt (Nat.lt_of_lt_of_le (Heap.lt_size e) I.ok.above))).trans e1⟩
    · obtain ⟨o', e1⟩ := I.base.there b o e hx
      exact ⟨o', (hs.2 b (Nat.ne_of_lt (Nat.lt_of_lt_of_le (Heap.lt_size e) I.ok.above))).trans e1⟩
    · by_cases hj : j = i
      · subst hj
        rw [hi] at e1; cases e1
        rw [List.getElem?_set_self hiσ] at e2
        cases e2
        exact ⟨u, r, .inl ⟨hk, by simp⟩⟩
      · rw [List.getElem?_set_ne (Ne.symm hj)] at e2
        obtain ⟨u', r', q⟩ := hl j y v' e1 e2 e3
        refine ⟨u', r', ?_⟩
        rcases q with ⟨k, e⟩ | ⟨k, c, e, z⟩
        · refine .inl ⟨k, ?_⟩
          have : y ≠ x := fun e => hj (nodup_ix hN e1 (e ▸ hi))
          simp [this, e]
        · exact .inr ⟨k, c, e, z.sameBut hs (cne y c e)⟩
    · obtain ⟨w', z⟩ := I.cell y c e
      exact ⟨w', z.sameBut hs (cne y c e)⟩
    · obtain ⟨e, n, ne, nf, d⟩ := I.pin p hp
      exact ⟨(hs.2 p.1 ne).trans e, n, ne, nf, d⟩
  · have hfn : X.fn x = true := by
      rcases hf with z | z
      · exact z
      · rw [z] at hk; cases hk
    obtain ⟨c, hc⟩ := I.ok.has x (.inl hk)
    obtain ⟨w', z⟩ := I.cell x c hc
    refine wpAny_storeName_cell I.ok.kind hk hc z (fun h' hc' hs => ?_)
    obtain ⟨oc, hoc, hocd⟩ := id z
    refine h { s with heap := h' } ⟨I.ok, I.os, I.bare, ⟨fun b o e n hb hx => ?_, fun b o e n hb hx => ?_, I.base.free, fun b o e hx => ?_, I.base.tups, I.base.frzs, I.base.tbls⟩, ⟨m, hn.sameBut hs (Ne.symm (cne x c hc)), fun j y v' e1 e2 e3 => ?_⟩, fun y c' e => ?_, I.free, I.freeC, fun p hp => ?_, tracked ⟨oc, hoc, I.freeC x c hc⟩ hs, by simpa using I.len⟩ ⟨c, hs, .inr hc⟩
    · exact (hs.2 b (Nat.ne_of_lt (Nat.lt_of_lt_of_le (Heap.lt_size e) (I.ok.cab x c hfn hc)))).trans (I.base.keep b o e n hb hx)
    · obtain ⟨sl, e1⟩ := I.base.slot b o e n hb hx
      exact ⟨sl, (hs.2 b (Nat.ne_of_lt (Nat.lt_of_lt_of_le (Heap.lt_size e) (I.ok.cab x c hfn hc)))).trans e1⟩
    · obtain ⟨o', e1⟩ := I.base.there b o e hx
      exact ⟨o', (hs.2 b (Nat.ne_of_lt (Nat.lt_of_lt_of_le (Heap.lt_size e) (I.ok.cab x c hfn hc)))).trans e1⟩
    · by_cases hj : j = i
      · subst hj
        rw [hi] at e1; cases e1
        rw [List.getElem?_set_self hiσ] at e2
        cases e2
        exact ⟨u, r, .inr ⟨.inl hk, c, hc, hc'⟩⟩
      · rw [List.getElem?_set_ne (Ne.symm hj)] at e2
        obtain ⟨u', r', q⟩ := hl j y v' e1 e2 e3
        refine ⟨u', r', ?_⟩
        rcases q with q | ⟨k, c', e, z'⟩
        · exact .inl q
        · refine .inr ⟨k, c', e, z'.sameBut hs ?_⟩
          rintro rfl
          exact hj (nodup_ix hN e1 (I.ok.inj _ _ _ e hc ▸ hi))
    · by_cases hcc : c' = c
      · subst hcc; exact ⟨_, hc'⟩
      · obtain ⟨w2, z2⟩ := I.cell y c' e
        exact ⟨w2, z2.sameBut hs hcc⟩
    · obtain ⟨e, n, ne, nf, d⟩ := I.pin p hp
      refine ⟨(hs.2 p.1 ?_).trans e, n, ne, nf, d⟩
      intro q
      rw [q, hoc] at e
      have q' : oc = p.2 := Option.some.inj e
      exact d w' (by rw [← q']; exact hocd)
theorem store_ok {M : Model} {A : Around} {E : Value → Shared → Prop} {i : Nat} {x : Str} {v : V} {u : Value} {Q : Unit → Shared → Prop} (I : Inv X pins σ H s) (hN : X.N.Nodup) (hi : X.N[i]? = some x) (hx : Loc X.env.scope x) (r : RelV v u)
    (h : ∀ s', Inv X pins (σ.set i (some v)) H s' → Q () s') (hf : X.fn x = true ∨ X.env.scope.names.lookup x = some .local := by first | exact .inl rfl | exact .inr rfl | assumption) : wpAny M A (storeName X.env x u) Q E s :=
  store_ok2 I hN hi hx r (fun s' I' _ => h s' I') hf
/-- behind a call or a block, the state as it is -/
theorem Inv.call' {s' : Shared} {ch : List Addr} (I : Inv X pins σ H s) (ho : s'.os = s.os) (u : Un (frs X.stack) ch H H' s.heap s'.heap) (hok : HOk X.prog X.w H' s'.heap) (hg : AllBare s'.gens)
    (hch : ∀ b ∈ ch, (b ∈ X.ex ∨ X.s₀.heap.objs.size ≤ b) ∧ b ≠ X.env.locals ∧ (∀ x c, X.env.cells.lookup x = some c → c ≠ b) ∧ ∀ p ∈ X.pn ++ pins, p.1 ≠ b) : Inv X pins σ H' s' := by
  obtain ⟨h', g', d', t', o'⟩ := s'
  have e : o' = s.os := ho
  subst e
  exact I.call (g' := g') (t' := t') (d' := d') u hok hg hch
end

/-! ### the judgements -/
/-- an exception: its class, its own dict's address (where it has one), the abstract heap behind it -/
abbrev XK := Value → Option Addr → Hp → Prop
abbrev St := List (Option V)
abbrev VK := V → Hp → Prop
/-- an expression's reading; a test's; an argument list's -/
abbrev TE := St → Hp → VK → Prop
abbrev TT := St → Hp → (Bool → Hp → Prop) → Prop
abbrev TA := St → Hp → (List V → Hp → Prop) → Prop
/-- what is wanted behind a statement -/
structure Ends where
  nx : St → Hp → Prop
  rt : VK
  bk : St → Hp → Prop := fun _ _ => False
  ct : St → Hp → Prop := fun _ _ => False
abbrev TS := Ends → St → Hp → Prop

def EP (X : Cx) (pins : List (Addr × Obj)) (σ : St) (Q : VK) (u : Value) (s' : Shared) : Prop := ∃ v H', Inv X pins σ H' s' ∧ RelV v u ∧ Q v H'
def TP (X : Cx) (pins : List (Addr × Obj)) (σ : St) (Q : Bool → Hp → Prop) (b : Bool) (s' : Shared) : Prop := ∃ H', Inv X pins σ H' s' ∧ Q b H'
def AP (X : Cx) (pins : List (Addr × Obj)) (σ : St) (Q : List V → Hp → Prop) (us : List Value) (s' : Shared) : Prop := ∃ vs H', Inv X pins σ H' s' ∧ Vals vs us ∧ Q vs H'
def SP (X : Cx) (pins : List (Addr × Obj)) (D : Ends) (f : Flow) (s' : Shared) : Prop :=
  match f with
  | .next => ∃ σ' H', Inv X pins σ' H' s' ∧ D.nx σ' H'
  | .brk => ∃ σ' H', Inv X pins σ' H' s' ∧ D.bk σ' H'
  | .cont => ∃ σ' H', Inv X pins σ' H' s' ∧ D.ct σ' H'
  | .ret u => ∃ v σ' H', Inv X pins σ' H' s' ∧ RelV v u ∧ D.rt v H'

def PE (X : Cx) (e : Expr) (t : TE) : Prop :=
  ∀ (pins : List (Addr × Obj)) (s : Shared) (σ : St) (H : Hp) (Q : VK), Inv X pins σ H s → t σ H Q → wpAny (model X.prog X.w) X.A (eval e X.env) (EP X pins σ Q) X.xe s
def PT (X : Cx) (e : Expr) (t : TT) : Prop :=
  ∀ (pins : List (Addr × Obj)) (s : Shared) (σ : St) (H : Hp) (Q : Bool → Hp → Prop), Inv X pins σ H s → t σ H Q → wpAny (model X.prog X.w) X.A (isTrue e X.env (eval e X.env)) (TP X pins σ Q) X.xe s
/-- a test whatever its 'whole' is (and, or) -/
def PW (X : Cx) (e : Expr) (t : TT) : Prop :=
  ∀ (whole : Sem Value) (pins : List (Addr × Obj)) (s : Shared) (σ : St) (H : Hp) (Q : Bool → Hp → Prop), Inv X pins σ H s → t σ H Q → wpAny (model X.prog X.w) X.A (isTrue e X.env whole) (TP X pins σ Q) X.xe s
theorem PW.pt {X : Cx} {e : Expr} {t : TT} (h : PW X e t) : PT X e t := h _
/-- an argument list (no star), from the left -/
def PA (X : Cx) (es : List Expr) (t : TA) : Prop :=
  ∀ (pos : Pos) (pins : List (Addr × Obj)) (s : Shared) (σ : St) (H : Hp) (Q : List V → Hp → Prop), Inv X pins σ H s → t σ H Q → wpAny (model X.prog X.w) X.A (spliced (backTo pos (starEach es X.env))) (AP X pins σ Q) X.xe s
def PS (X : Cx) (st : Stmt) (t : TS) : Prop :=
  ∀ (pins : List (Addr × Obj)) (s : Shared) (σ : St) (H : Hp) (D : Ends), Inv X pins σ H s → t D σ H → wpAny (model X.prog X.w) X.A (exec st X.env) (SP X pins D) X.xe s
def PSs (X : Cx) (st : List Stmt) (t : TS) : Prop :=
  ∀ (pins : List (Addr × Obj)) (s : Shared) (σ : St) (H : Hp) (D : Ends), Inv X pins σ H s → t D σ H → wpAny (model X.prog X.w) X.A (execs st X.env) (SP X pins D) X.xe s
/-- weaken the end -/
theorem thn {α : Type} {t : Sem α} {Q Q' : α → Shared → Prop} {M : Model} {A : Around} {E : Value → Shared → Prop} {s : Shared} (h : wpAny M A t Q E s) (hQ : ∀ a s, Q a s → Q' a s) : wpAny M A t Q' E s := wpAny_mono h hQ fun _ _ x => x
end L2

namespace L2
open PySem PySem.Spec PyProof.Rows
section
variable {X : Cx}

/-! ### names and constants -/
def tVar (i : Nat) : TE := fun σ H Q => ∃ v, σ[i]? = some (some v) ∧ Q v H
def tC (v : V) : TE := fun _ H Q => Q v H
theorem pe_var {i : Nat} {x : Str} {pos : Pos} (hN : X.N[i]? = some x) (hv : Vis X.env.scope x) (hd : (x == ("__debug__" : Str)) = false := by decide) (hcd : (x == ("__classdict__" : Str)) = false := by decide) : PE X (.Name x pos) (tVar i) := by
  intro pins s σ H Q I h
  obtain ⟨v, e, h⟩ := h
  obtain ⟨m, hn, hl⟩ := I.loc
  obtain ⟨u, r, l⟩ := hl i x v hN e hv
  have fin : EP X pins σ Q u s := ⟨v, H, I, r, h⟩
  rcases l with ⟨hk, hm⟩ | ⟨hk, c, hc, hcell⟩
  · exact wpAny_Name (wpAny_loadName_local I.ok.kind hk hn hm fin) hd
  · rcases hk with hk | hk
    · exact wpAny_Name (wpAny_loadName_cell I.ok.kind hk hc hcell fin) hd
    · exact wpAny_Name (wpAny_loadName_free I.ok.kind hk hc hcell fin hcd) hd
theorem pe_int {i j pos} : PE X (.Constant (.int i) j pos) (tC (.int i)) := fun _ _ _ H _ I h => wpAny_Constant_int ⟨.int i, H, I.tok _, ⟨_, rfl⟩, h⟩
theorem pe_bl {b j pos} : PE X (.Constant (.bool b) j pos) (tC (.bl b)) := fun _ _ _ H _ I h => Constant_bool ⟨.bl b, H, I, rfl, h⟩
theorem pe_non {j pos} : PE X (.Constant .none j pos) (tC .non) := fun _ _ _ H _ I h => Constant_none ⟨.non, H, I, rfl, h⟩
theorem pe_str {x j pos} : PE X (.Constant (.str x) j pos) (tC (.str x)) := fun _ _ _ H _ I h => Calls.Constant_str ⟨.str x, H, I.tok _, ⟨_, rfl⟩, h⟩

/-- a global name of the def -/
def Gl (X : Cx) (x : Str) : Prop := X.env.kindOf x = some .globalImplicit
theorem ld_glob {E : Value → Shared → Prop} {pins : List (Addr × Obj)} {s : Shared} {σ : St} {H : Hp} {x : Str} {u : Value} {pos : Pos} {Q : Value → Shared → Prop} (I : Inv X pins σ H s) (hg : Gl X x) (hm : X.mg x = some u) (h : Q u s)
    (hd : (x == ("__debug__" : Str)) = false := by decide) : wpAny (model X.prog X.w) X.A (eval (.Name x pos) X.env) Q E s :=
  Calls.Name_function_global I.ok.kind hg (Calls.loadGlobal_global (by rw [I.ok.glob]; exact I.mod.glob.keeps I.bk) hm h) hd
theorem ld_blt {E : Value → Shared → Prop} {pins : List (Addr × Obj)} {s : Shared} {σ : St} {H : Hp} {x : Str} {u : Value} {pos : Pos} {Q : Value → Shared → Prop} (I : Inv X pins σ H s) (hg : Gl X x) (hm : X.mg x = none) (hv : bootBuiltins x = some u) (h : Q u s)
    (hn : x ≠ "__name__" := by decide) (hd : (x == ("__debug__" : Str)) = false := by decide) : wpAny (model X.prog X.w) X.A (eval (.Name x pos) X.env) Q E s := by
  obtain ⟨mb, h1, h2⟩ := I.mod.blt
  exact Calls.Name_function_global I.ok.kind hg (Calls.loadGlobal_builtin (by rw [I.ok.glob]; exact I.mod.glob.keeps I.bk) hm (by rw [I.ok.blt]; exact h1.keeps I.bk) ((h2 x hn).trans hv) h) hd
/-- a module's constant, a class, a function, as a value -/
theorem pe_glob {x : Str} {v : V} {u : Value} {pos : Pos} (hg : Gl X x) (hm : X.mg x = some u) (r : RelV v u) (hd : (x == ("__debug__" : Str)) = false := by decide) : PE X (.Name x pos) (tC v) :=
  fun _ _ _ H _ I h => ld_glob I hg hm ⟨v, H, I, r, h⟩ hd
theorem pe_bltn {x : Str} {v : V} {u : Value} {pos : Pos} (hg : Gl X x) (hm : X.mg x = none) (hv : bootBuiltins x = some u) (r : RelV v u) (hn : x ≠ "__name__" := by decide) (hd : (x == ("__debug__" : Str)) = false := by decide) : PE X (.Name x pos) (tC v) :=
  fun _ _ _ H _ I h => ld_blt I hg hm hv ⟨v, H, I, r, h⟩ hn hd

/-! ### arithmetic -/
variable {a b : Expr} {ta tb : TE} {pos : Pos}
/-! ### comparisons -/
/-- a comparison as a value, as a test -/
def tB (t : TE) : TT := fun σ H Q => t σ H fun x H1 => ∃ c, x = .bl c ∧ Q c H1
/-- an expression whose value is a bool, as a test -/
theorem pt_val {e : Expr} {t : TE} (h : PE X e t) (he : ∀ whole, isTrue e X.env whole = (do let v ← whole; standAt e.pos; holding [v] (truthy v)) := by intro _; rfl) : PT X e (tB t) := by
  intro pins s σ H Q I hw
  refine isTrue_plain (thn (h pins s σ H _ I hw) fun v s1 ⟨x, H1, I1, r1, q1⟩ => ?_) (he _)
  obtain ⟨d, rfl, q⟩ := q1
  cases r1
  exact wpAny_truthy_bool ⟨H1, I1, q⟩

/-! ### and, or, not -/
variable {tA tB' : TT} {rest : List Expr}
def tAnd (t u : TT) : TT := fun σ H Q => t σ H fun c H1 => if c = true then u σ H1 Q else Q false H1
def tOr (t u : TT) : TT := fun σ H Q => t σ H fun c H1 => if c = true then Q true H1 else u σ H1 Q
def tNot (t : TT) : TT := fun σ H Q => t σ H fun c H1 => Q (!c) H1
theorem pw_and1 (ha : PT X a tA) : PW X (.BoolOp .And [a] pos) tA := by
  intro wh pins s σ H Q I h
  refine isTrue_and (thn (ha pins s σ H Q I h) fun c s1 e => ?_)
  cases c with
  | true => exact isTrue_and_nil e
  | false => exact e
theorem pw_or1 (ha : PT X a tA) : PW X (.BoolOp .Or [a] pos) tA := by
  intro wh pins s σ H Q I h
  refine isTrue_or (thn (ha pins s σ H Q I h) fun c s1 e => ?_)
  cases c with
  | false => exact isTrue_or_nil e
  | true => exact e
theorem pw_and (ha : PT X a tA) (hb : PW X (.BoolOp .And (b :: rest) pos) tB') : PW X (.BoolOp .And (a :: b :: rest) pos) (tAnd tA tB') := by
  intro wh pins s σ H Q I h
  refine isTrue_and (thn (ha pins s σ H _ I h) fun c s1 ⟨H1, I1, q1⟩ => ?_)
  cases c with
  | true => exact hb wh pins s1 σ H1 Q I1 q1
  | false => exact ⟨H1, I1, q1⟩
theorem pw_or (ha : PT X a tA) (hb : PW X (.BoolOp .Or (b :: rest) pos) tB') : PW X (.BoolOp .Or (a :: b :: rest) pos) (tOr tA tB') := by
  intro wh pins s σ H Q I h
  refine isTrue_or (thn (ha pins s σ H _ I h) fun c s1 ⟨H1, I1, q1⟩ => ?_)
  cases c with
  | true => exact ⟨H1, I1, q1⟩
  | false => exact hb wh pins s1 σ H1 Q I1 q1
theorem pt_not (ha : PT X a tA) : PT X (.UnaryOp .Not a pos) (tNot tA) := by
  intro pins s σ H Q I h
  exact isTrue_not (ha pins s σ H (fun c H1 => Q (!c) H1) I h)
/-- .. as values (bools) -/
def tAndV (ta tb : TE) : TE := fun σ H Q => ta σ H fun x H1 => ∃ c, x = .bl c ∧ if c = true then tb σ H1 Q else Q (.bl false) H1
def tOrV (ta tb : TE) : TE := fun σ H Q => ta σ H fun x H1 => ∃ c, x = .bl c ∧ if c = true then Q (.bl true) H1 else tb σ H1 Q
theorem pe_one {op} {t : TE} (h : PE X a t) : PE X (.BoolOp op [a] pos) t := fun pins s σ H Q I hw => BoolOp_one (h pins s σ H Q I hw)
theorem pe_and (ha : PE X a ta) (hb : PE X (.BoolOp .And (b :: rest) pos) tb) : PE X (.BoolOp .And (a :: b :: rest) pos) (tAndV ta tb) := by
  intro pins s σ H Q I h
  refine BoolOp_and (thn (ha pins s σ H _ I h) fun v s1 ⟨x, H1, I1, r1, q1⟩ => ?_)
  obtain ⟨c, rfl, q1⟩ := q1
  cases r1
  refine wpAny_truthy_bool ?_
  cases c with
  | true => exact hb pins s1 σ H1 Q I1 q1
  | false => exact ⟨.bl false, H1, I1, rfl, q1⟩
theorem pe_or (ha : PE X a ta) (hb : PE X (.BoolOp .Or (b :: rest) pos) tb) : PE X (.BoolOp .Or (a :: b :: rest) pos) (tOrV ta tb) := by
  intro pins s σ H Q I h
  refine BoolOp_or (thn (ha pins s σ H _ I h) fun v s1 ⟨x, H1, I1, r1, q1⟩ => ?_)
  obtain ⟨c, rfl, q1⟩ := q1
  cases r1
  refine wpAny_truthy_bool ?_
  cases c with
  | false => exact hb pins s1 σ H1 Q I1 q1
  | true => exact ⟨.bl true, H1, I1, rfl, q1⟩
/-- a if t else b -/
def tIf (t : TT) (ta tb : TE) : TE := fun σ H Q => t σ H fun c H1 => if c = true then ta σ H1 Q else tb σ H1 Q
theorem pe_ifExp {c : Expr} (hc : PT X c tA) (ha : PE X a ta) (hb : PE X b tb) : PE X (.IfExp c a b pos) (tIf tA ta tb) := by
  intro pins s σ H Q I h
  refine wpAny_IfExp (thn (hc pins s σ H _ I h) fun d s1 ⟨H1, I1, q1⟩ => ?_)
  cases d with
  | true => exact ha pins s1 σ H1 Q I1 q1
  | false => exact hb pins s1 σ H1 Q I1 q1
end
end L2

namespace L2
open PySem PySem.Spec PyProof.Rows

/-! ### a list, a tuple that is read: tracked, frozen, or an object of the module -/
def SqL (K : PySem.W.Frag) (H : Hp) (a : Addr) (xs : List V) : Prop :=
  Rd H a (.lst xs) ∨
    ∃ (o : Obj) (its : Array Value) (n : Nat), K.lookup a = some o ∧ o.cls = .type "list" ∧ o.dict = none ∧ o.data = .seq its n ∧ its.size ≤ sizeLine ∧ Vals xs its.toList
def SqT (K : PySem.W.Frag) (H : Hp) (a : Addr) (xs : List V) : Prop :=
  Rd H a (.tup xs) ∨
    ∃ (o : Obj) (its : Array Value) (n : Nat), K.lookup a = some o ∧ o.cls = .type "tuple" ∧ o.data = .seq its n ∧ its.size ≤ sizeLine ∧ Vals xs its.toList
def absV : Value → Option V
  | .none => some .non
  | .bool b => some (.bl b)
  | .int i _ => some (.int i)
  | .str x _ => some (.str x)
  | .bytes b _ => some (.byt b)
  | .float b _ => some (.flt b)
  | .ref a => some (.ref a)
  | .type n => some (.ty n)
  | _ => none
theorem RelV.abs {x : V} {u : Value} (r : RelV x u) : absV u = some x := by
  cases x with
  | non => cases r; rfl
  | bl _ => cases r; rfl
  | int _ => obtain ⟨t, rfl⟩ := r; rfl
  | str _ => obtain ⟨t, rfl⟩ := r; rfl
  | byt _ => obtain ⟨t, rfl⟩ := r; rfl
  | flt _ => obtain ⟨t, rfl⟩ := r; rfl
  | ref _ => cases r; rfl
  | ty _ => cases r; rfl
theorem RelV.inj {x y : V} {u : Value} (r : RelV x u) (q : RelV y u) : x = y := Option.some.inj (r.abs.symm.trans q.abs)
theorem Vals.inj : ∀ {xs ys : List V} {us : List Value}, Vals xs us → Vals ys us → xs = ys
  | _, _, _, .nil, .nil => rfl
  | _, _, _, .cons r t, .cons r' t' => by rw [r.inj r', Vals.inj t t']
section
variable {X : Cx} {pins : List (Addr × Obj)} {σ : St} {H : Hp} {s : Shared} {a : Addr} {xs ys : List V}
theorem SqL.of {K : PySem.W.Frag} (h : H a = some (.lst xs)) : SqL K H a xs := .inl (.inl h)
theorem SqT.of {K : PySem.W.Frag} (h : H a = some (.tup xs)) : SqT K H a xs := .inl (.inl h)
theorem Inv.list (I : Inv X pins σ H s) (h : SqL X.K H a xs) : ∃ its : List Value, Vals xs its ∧ PlainL s.heap a its.toArray ∧ xs.length ≤ sizeLine := by
  rcases h with h | ⟨o, its, n, hk, hc, hd, hs, hz, r⟩
  · obtain ⟨z, its, n, r, e⟩ := h.ok I.hok
    exact ⟨its, r, ⟨_, n, e, rfl, rfl, rfl⟩, z⟩
  · refine ⟨its.toList, r, ⟨o, n, I.kIn a o hk, hc, hd, by simpa using hs⟩, ?_⟩
    have e := r.length
    simp only [Array.length_toList] at e
    omega
theorem Inv.tuple (I : Inv X pins σ H s) (h : SqT X.K H a xs) : ∃ its : List Value, Vals xs its ∧ IsTup s.heap a its.toArray ∧ xs.length ≤ sizeLine := by
  rcases h with h | ⟨o, its, n, hk, hc, hs, hz, r⟩
  · obtain ⟨z, its, r, p⟩ := h.ok I.hok
    exact ⟨its, r, p, z.1⟩
  · refine ⟨its.toList, r, ⟨o, I.kIn a o hk, hc, n, by simpa using hs⟩, ?_⟩
    have e := r.length
    simp only [Array.length_toList] at e
    omega
theorem Inv.list_inj (I : Inv X pins σ H s) (h : SqL X.K H a xs) (h' : SqL X.K H a ys) : xs = ys := by
  obtain ⟨its, r, ⟨o, n, e, _, _, d⟩, _⟩ := I.list h
  obtain ⟨its', r', ⟨o', n', e', _, _, d'⟩, _⟩ := I.list h'
  rw [e] at e'; cases e'
  rw [d] at d'
  injection d' with d1 _
  have : its = its' := by simpa using congrArg Array.toList d1
  subst this
  exact r.inj r'
theorem Inv.tuple_inj (I : Inv X pins σ H s) (h : SqT X.K H a xs) (h' : SqT X.K H a ys) : xs = ys := by
  obtain ⟨its, r, ⟨o, e, _, n, d⟩, _⟩ := I.tuple h
  obtain ⟨its', r', ⟨o', e', _, n', d'⟩, _⟩ := I.tuple h'
  rw [e] at e'; cases e'
  rw [d] at d'
  injection d' with d1 _
  have : its = its' := by simpa using congrArg Array.toList d1
  subst this
  exact r.inj r'
end

/-! ### another wish about exceptions -/
abbrev Cx.wish (X : Cx) (E : Value → Shared → Prop) : Cx := { X with xe := E }
/-- no exception leaves -/
abbrev Cx.nox (X : Cx) : Cx := X.wish fun _ _ => False
theorem Cx.Ok.wish {X : Cx} (ok : X.Ok) (E : Value → Shared → Prop) : (X.wish E).Ok :=
  ⟨ok.mod, ok.kind, ok.glob, ok.blt, ok.above, ok.inj, ok.has, ok.cab, ok.hd, ok.frames, ok.stk, ok.exf, ok.bs, ok.bsz, ok.noex, ok.exfs, ok.funs, ok.frf⟩
theorem Cx.Ok.unwish {X : Cx} {E : Value → Shared → Prop} (ok : (X.wish E).Ok) : X.Ok :=
  ⟨ok.mod, ok.kind, ok.glob, ok.blt, ok.above, ok.inj, ok.has, ok.cab, ok.hd, ok.frames, ok.stk, ok.exf, ok.bs, ok.bsz, ok.noex, ok.exfs, ok.funs, ok.frf⟩
section
variable {X : Cx} {pins : List (Addr × Obj)} {σ : St} {H : Hp} {s : Shared} {E : Value → Shared → Prop}
theorem Inv.wish (I : Inv X pins σ H s) (E : Value → Shared → Prop) : Inv (X.wish E) pins σ H s := ⟨I.ok.wish E, I.os, I.bare, I.base, I.loc, I.cell, I.free, I.freeC, I.pin, I.hok, I.len⟩
theorem Inv.unwish (I : Inv (X.wish E) pins σ H s) : Inv X pins σ H s := ⟨I.ok.unwish, I.os, I.bare, I.base, I.loc, I.cell, I.free, I.freeC, I.pin, I.hok, I.len⟩
theorem SP.unwish {D : Ends} {f : Flow} {s' : Shared} (h : SP (X.wish E) pins D f s') : SP X pins D f s' := by
  cases f with
  | next => obtain ⟨σ', H', I, q⟩ := h; exact ⟨σ', H', I.unwish, q⟩
  | brk => obtain ⟨σ', H', I, q⟩ := h; exact ⟨σ', H', I.unwish, q⟩
  | cont => obtain ⟨σ', H', I, q⟩ := h; exact ⟨σ', H', I.unwish, q⟩
  | ret u => obtain ⟨v, σ', H', I, r, q⟩ := h; exact ⟨v, σ', H', I.unwish, r, q⟩
theorem PE.nox {e : Expr} {t : TE} (h : PE X.nox e t) : PE X e t := fun pins s σ H Q I hw =>
  wpAny_mono (h pins s σ H Q (I.wish _) hw) (fun _ _ ⟨v, H', I', r, q⟩ => ⟨v, H', I'.unwish, r, q⟩) fun _ _ z => False.elim z
theorem PT.nox {e : Expr} {t : TT} (h : PT X.nox e t) : PT X e t := fun pins s σ H Q I hw =>
  wpAny_mono (h pins s σ H Q (I.wish _) hw) (fun _ _ ⟨H', I', q⟩ => ⟨H', I'.unwish, q⟩) fun _ _ z => False.elim z
theorem PSs.nox {st : List Stmt} {t : TS} (h : PSs X.nox st t) : PSs X st t := fun pins s σ H D I hw =>
  wpAny_mono (h pins s σ H D (I.wish _) hw) (fun _ _ q => q.unwish) fun _ _ z => False.elim z
end

/-! ### blocks and small statements -/
section
variable {X : Cx} {st : Stmt} {rest : List Stmt} {t u : TS} {e : Expr} {te : TE} {pos : Pos}
def tNext : TS := fun D σ H => D.nx σ H
def tSeq (t u : TS) : TS := fun D σ H => t { D with nx := u D } σ H
theorem pss_nil : PSs X [] tNext := fun _ _ σ H _ I h => wpAny_execs_nil ⟨σ, H, I, h⟩
theorem pss_cons (h1 : PS X st t) (h2 : PSs X rest u) : PSs X (st :: rest) (tSeq t u) := by
  intro pins s σ H D I h
  refine wpAny_execs_cons (thn (h1 pins s σ H { D with nx := u D } I h) fun f s1 q => ?_)
  cases f with
  | next =>
    obtain ⟨σ', H', I', q⟩ := q
    exact h2 pins s1 σ' H' D I' q
  | ret v => exact q
  | brk => exact q
  | cont => exact q
theorem pss_one (h1 : PS X st t) : PSs X [st] t := by
  intro pins s σ H D I h
  refine wpAny_execs_cons (thn (h1 pins s σ H D I h) fun f s1 q => ?_)
  cases f with
  | next => exact wpAny_execs_nil q
  | ret v => exact q
  | brk => exact q
  | cont => exact q
/-- in a def's body nothing is shown -/
theorem Inv.quiet {pins : List (Addr × Obj)} {σ : St} {H : Hp} {s : Shared} (I : Inv X pins σ H s) : interactive X.env = false := by simp [interactive, I.ok.kind]
/-- an expression whose value is dropped -/
def tDrop (te : TE) : TS := fun D σ H => te σ H fun _ H1 => D.nx σ H1
theorem ps_expr (he : PE X e te) (hs : swapsWith e none pos.line X.env = pure false := by rfl) : PS X (.Expr e pos) (tDrop te) := by
  intro pins s σ H D I h
  exact wpAny_Expr_any (thn (he pins s σ H _ I h) fun v s1 ⟨x, H1, I1, r1, q1⟩ => ⟨σ, H1, I1, q1⟩) I.quiet hs
def tRet (te : TE) : TS := fun D σ H => te σ H D.rt
theorem ps_ret (he : PE X e te) : PS X (.Return (some e) pos) (tRet te) := by
  intro pins s σ H D I h
  exact wpAny_Return_some (thn (he pins s σ H _ I h) fun v s1 ⟨x, H1, I1, r1, q1⟩ => ⟨x, σ, H1, I1, r1, q1⟩)
def tIfS (c : TT) (t u : TS) : TS := fun D σ H => c σ H fun b H1 => if b = true then t D σ H1 else u D σ H1
theorem ps_if {c : Expr} {a b : List Stmt} {tc : TT} (hc : PT X c tc) (ha : PSs X a t) (hb : PSs X b u) : PS X (.If c a b pos) (tIfS tc t u) := by
  intro pins s σ H D I h
  refine wpAny_If (thn (hc pins s σ H _ I h) fun d s1 ⟨H1, I1, q1⟩ => ?_)
  cases d with
  | true => exact ha pins s1 σ H1 D I1 q1
  | false => exact hb pins s1 σ H1 D I1 q1
end

/-! ### targets -/
abbrev TG := V → St → Hp → (St → Hp → Prop) → Prop
abbrev TGs := List V → St → Hp → (St → Hp → Prop) → Prop
def PG (X : Cx) (target : Expr) (t : TG) : Prop :=
  ∀ (pins : List (Addr × Obj)) (s : Shared) (σ : St) (H : Hp) (v : V) (u : Value) (Q : St → Hp → Prop), Inv X pins σ H s → RelV v u → t v σ H Q →
    wpAny (model X.prog X.w) X.A (assign target X.env u) (fun _ s' => ∃ σ' H', Inv X pins σ' H' s' ∧ Q σ' H') X.xe s
/-- several targets, one after another -/
def PGs (X : Cx) (ts : List Expr) (t : TGs) : Prop :=
  ∀ (pins : List (Addr × Obj)) (s : Shared) (σ : St) (H : Hp) (vs : List V) (us : List Value) (Q : St → Hp → Prop), Inv X pins σ H s → Vals vs us → t vs σ H Q →
    wpAny (model X.prog X.w) X.A (assignInOrder ((assignEach ts X.env).map (·.2)) us) (fun _ s' => ∃ σ' H', Inv X pins σ' H' s' ∧ Q σ' H') X.xe s
/-- o[i] = v, by values -/
abbrev TSet := V → V → V → Hp → (Hp → Prop) → Prop
def PSet (X : Cx) (t : TSet) : Prop :=
  ∀ (pins : List (Addr × Obj)) (s : Shared) (σ : St) (H : Hp) (o i v : V) (ov iv u : Value) (Q : Hp → Prop), Inv X pins σ H s → RelV o ov → RelV i iv → RelV v u → t o i v H Q →
    wpAny (model X.prog X.w) X.A (setItem ov iv u) (fun _ s' => ∃ H', Inv X pins σ H' s' ∧ Q H') X.xe s
section
variable {X : Cx} {pos : Pos}
def gName (i : Nat) : TG := fun v σ H Q => Q (σ.set i (some v)) H
theorem pg_name {i : Nat} {x : Str} (hN : X.N.Nodup) (hi : X.N[i]? = some x) (hx : Loc X.env.scope x) (hf : X.fn x = true ∨ X.env.scope.names.lookup x = some .local := by first | exact .inl rfl | exact .inr rfl | assumption) : PG X (.Name x pos) (gName i) := by
  intro pins s σ H v u Q I r h
  exact wpAny_assign_Name (store_ok I hN hi hx r (fun s' I' => ⟨_, H, I', h⟩) hf)
def gNil : TGs := fun vs σ H Q => vs = [] ∧ Q σ H
def gCons (t : TG) (u : TGs) : TGs := fun vs σ H Q => ∃ v r, vs = v :: r ∧ t v σ H fun σ' H' => u r σ' H' Q
theorem pgs_nil : PGs X [] gNil := by
  intro pins s σ H vs us Q I r h
  obtain ⟨e, h⟩ := h
  subst e
  cases r
  exact assignInOrder_nil ⟨σ, H, I, h⟩
theorem pgs_cons {e : Expr} {es : List Expr} {t : TG} {u : TGs} (h1 : PG X e t) (h2 : PGs X es u)
    (hs : (assignEach (e :: es) X.env).map (·.2) = assign e X.env :: (assignEach es X.env).map (·.2) := by rfl) : PGs X (e :: es) (gCons t u) := by
  intro pins s σ H vs us Q I r h
  obtain ⟨v, vr, e1, h⟩ := h
  subst e1
  cases r with
  | cons r rr =>
    rw [hs]
    refine assignInOrder_cons (thn (h1 pins s σ H _ _ _ I r h) fun _ s1 ⟨σ1, H1, I1, q1⟩ => ?_)
    exact h2 pins s1 σ1 H1 _ _ Q I1 rr q1
/-- (a, b, ..) = a tuple of that length -/
def gTup (K : PySem.W.Frag) (n : Nat) (t : TGs) : TG := fun v σ H Q => ∃ a xs, v = .ref a ∧ SqT K H a xs ∧ xs.length = n ∧ t xs σ H Q
theorem pg_tup {es : List Expr} {k : Nat} {t : TGs} {n : Nat} (hc : X.calm = true) (h : PGs X es t)
    (hn : (assignEach es X.env).length = n := by rfl) (hst : (assignEach es X.env).findIdx? (·.1) = none := by rfl) : PG X (.Tuple es k pos) (gTup X.K n t) := by
  intro pins s σ H v u Q I r hw
  obtain ⟨a, xs, e1, hq, hl, hw⟩ := hw
  subst e1
  cases r
  obtain ⟨its, rv, ht, hz⟩ := I.tuple hq
  refine assign_Tuple_tuple (I.ok.hd hc) ht (by simp [hn, ← hl, rv.length]) hst fun h' hx => ?_
  have I1 : Inv X pins σ H { s with heap := h' } := I.kept (t' := s.toks) fun b o e => hx b o (Nat.ne_of_lt (Heap.lt_size e)) e
  exact h pins _ σ H xs _ Q I1 (by simpa using rv) hw
/-- o[i] = .. -/
def gSub (to ti : TE) (t : TSet) : TG := fun v σ H Q => to σ H fun o H1 => ti σ H1 fun i H2 => t o i v H2 fun H3 => Q σ H3
theorem pg_sub {o i : Expr} {to ti : TE} {t : TSet} (ho : PE X o to) (hi : PE X i ti) (hs : PSet X t)
    (ha : ∀ v, assign (.Subscript o i pos) X.env v = (do
      let ov ← holding [v] (eval o X.env)
      let iv ← holding [v, ov] (eval i X.env)
      standAt pos
      holding [v, ov, iv] (setItem ov iv v)
      release [v, ov, iv] []) := by intro _; rfl) : PG X (.Subscript o i pos) (gSub to ti t) := by
  intro pins s σ H v u Q I r h
  rw [ha]
  refine wpAny_bind (wpAny_holding (thn (ho pins s σ H _ I h) fun ov s1 ⟨x, H1, I1, r1, q1⟩ => ?_))
  refine wpAny_bind (wpAny_holding (thn (hi pins s1 σ H1 _ I1 q1) fun iv s2 ⟨y, H2, I2, r2, q2⟩ => ?_))
  refine wpAny_bind (wpAny_standAt (wpAny_bind (wpAny_holding (thn (hs pins s2 σ H2 x y v ov iv u _ I2 r1 r2 r q2) fun _ s3 ⟨H3, I3, q3⟩ => ?_))))
  exact wpAny_release ⟨σ, H3, I3, q3⟩
/-- target = value -/
def tAsg (te : TE) (g : TG) : TS := fun D σ H => te σ H fun x H1 => g x σ H1 D.nx
theorem ps_asg {tg e : Expr} {te : TE} {g : TG} (he : PE X e te) (hg : PG X tg g) (hs : swapsWithSole [tg] e pos.line X.env = pure false := by rfl) (hw : swappedStores [tg] e X.env = pure none := by rfl)
    (h1 : (assignEach [tg] X.env).map (·.2) = [assign tg X.env] := by rfl) : PS X (.Assign [tg] e pos) (tAsg te g) := by
  intro pins s σ H D I h
  refine wpAny_Assign_stores (thn (he pins s σ H _ I h) fun v s1 ⟨x, H1, I1, r1, q1⟩ => ?_) hs hw
  rw [h1]
  exact thn (hg pins s1 σ H1 x v _ I1 r1 q1) fun _ s2 q => q
/-- name = value -/
theorem ps_set {i : Nat} {x : Str} {e : Expr} {te : TE} {pos' : Pos} (hN : X.N.Nodup) (hi : X.N[i]? = some x) (hx : Loc X.env.scope x) (he : PE X e te) (hs : swapsWith e (some (.Name x pos')) pos.line X.env = pure false := by rfl) (hf : X.fn x = true ∨ X.env.scope.names.lookup x = some .local := by first | exact .inl rfl | exact .inr rfl | assumption) :
    PS X (.Assign [.Name x pos'] e pos) (tAsg te (gName i)) := by
  intro pins s σ H D I h
  refine wpAny_Assign_Name (thn (he pins s σ H _ I h) fun v s1 ⟨y, H1, I1, r1, q1⟩ => ?_) hs
  exact store_ok I1 hN hi hx r1 (fun s2 I2 => ⟨_, H1, I2, q1⟩) hf
end

/-! ### while -/
section
variable {X : Cx} {pos : Pos}
/-- the invariant W with its measure -/
def tWhile (c : TT) (tb : TS) : TS := fun D σ H => ∃ W : Nat → St → Hp → Prop, (∃ m, W m σ H) ∧ ∀ m σ H, W m σ H →
  c σ H fun b H1 => if b = true then ∃ N : St → Hp → Prop, (∀ σ' H', N σ' H' → ∃ m', m' < m ∧ W m' σ' H') ∧ tb { D with nx := N, ct := N, bk := D.nx } σ H1 else D.nx σ H1
theorem ps_while {c : Expr} {body : List Stmt} {tc : TT} {tb : TS} (hp : PassesOwn (model X.prog X.w) X.A X.env X.xe) (hc : PT X c tc) (hb : PSs X body tb) : PS X (.While c body [] pos) (tWhile tc tb) := by
  intro pins s σ H D I h
  obtain ⟨W, ⟨m0, w0⟩, turn⟩ := h
  refine wpAny_While (codeAny_whileLoop (fun n s' => ∃ σ' H', Inv X pins σ' H' s' ∧ W n σ' H') ?_ m0 ⟨σ, H, I, w0⟩)
  rintro n s1 ⟨σ1, H1, I1, w1⟩
  refine wpAny_passesOwn hp (thn (hc pins s1 σ1 H1 _ I1 (turn n σ1 H1 w1)) fun b s2 ⟨H2, I2, q2⟩ => ?_)
  cases b with
  | true =>
    obtain ⟨N, hN, q2⟩ := q2
    rw [if_pos rfl]
    refine wpAny_passesOwn hp (thn (hb pins s2 σ1 H2 _ I2 q2) fun f s3 q3 => ?_)
    cases f with
    | next =>
      obtain ⟨σ3, H3, I3, n3⟩ := q3
      obtain ⟨m', hm, w3⟩ := hN σ3 H3 n3
      exact ⟨m', hm, σ3, H3, I3, w3⟩
    | cont =>
      obtain ⟨σ3, H3, I3, n3⟩ := q3
      obtain ⟨m', hm, w3⟩ := hN σ3 H3 n3
      exact ⟨m', hm, σ3, H3, I3, w3⟩
    | brk => exact q3
    | ret v => exact q3
  | false =>
    rw [if_neg Bool.false_ne_true]
    exact wpAny_execs_nil ⟨σ1, H2, I2, q2⟩
end

/-! ### what a loop or a comprehension walks -/
/-- at turn i: it yields x (the heap may grow), or it stops -/
structure It where
  go : Nat → Hp → Prop
  yld : Nat → Hp → V → Hp → Prop
  stop : Nat → Hp → Prop
/-- the iterator's own objects may turn: they are not the frame's, not pinned, younger than the entry (or a comprehension's own) -/
def FpOk (X : Cx) (pins : List (Addr × Obj)) (H : Hp) (b : Addr) : Prop :=
  H b = none ∧ b ≠ X.env.locals ∧ b ∉ X.fs ∧ (b ∈ X.ex ∨ X.s₀.heap.objs.size ≤ b) ∧ (∀ x c, X.env.cells.lookup x = some c → c ≠ b) ∧ ∀ p ∈ X.pn ++ pins, p.1 ≠ b
theorem Inv.fpOk {X : Cx} {pins : List (Addr × Obj)} {σ : St} {H H' : Hp} {s : Shared} {b : Addr} (I : Inv X pins σ H s) (hb : s.heap.objs.size ≤ b) (hn : H' b = none) : FpOk X pins H' b := by
  refine ⟨hn, Nat.ne_of_gt (Nat.lt_of_lt_of_le I.lt hb), I.nofs hb, .inr (Nat.le_trans I.sz hb), fun x c e z => ?_, fun p hp z => ?_⟩
  · obtain ⟨v, q⟩ := I.cell x c e
    exact absurd (Nat.lt_of_lt_of_le q.lt (by rw [z]; exact hb)) (Nat.lt_irrefl _)
  · exact absurd (Nat.lt_of_lt_of_le (Heap.lt_size (I.pin p hp).1) (by rw [z]; exact hb)) (Nat.lt_irrefl _)
structure Turn (P : Program) (w : World) (K : PySem.W.Frag) (tg : Expr) (J : It) (fp : List Addr) (it : Addr) (tn : Nat → Heap → Prop) : Prop where
  mem : it ∈ fp
  obj : ∀ i h, tn i h → ∀ b ∈ fp, ∃ o, h.get? b = some o ∧ ∀ v, o.data ≠ .cell v
  keep : ∀ i h h', tn i h → (∀ b ∈ fp, ∀ o, h.get? b = some o → h'.get? b = some o) → tn i h'
  item : ∀ (X : Cx), X.prog = P → X.w = w → X.K = K → X.calm = true → ∀ (i : Nat) (pins : List (Addr × Obj)) (s : Shared) (σ : St) (H : Hp) (E : Value → Shared → Prop), Inv X pins σ H s → (∀ b ∈ fp, FpOk X pins H b) → tn i s.heap → J.go i H →
    wpAny (model P w) X.A (pyNext (.ref it)) (fun r s1 => ∃ u, r = some u ∧
      wpAny (model P w) X.A (letOwnedTupleGo tg (.ref it) u) (fun _ s2 => ∃ x H', Inv X pins σ H' s2 ∧ RelV x u ∧ J.yld i H x H' ∧ tn (i + 1) s2.heap ∧ ∀ b ∈ fp, H' b = none) E s1) E s
  done : ∀ (X : Cx), X.prog = P → X.w = w → X.K = K → X.calm = true → ∀ (i : Nat) (pins : List (Addr × Obj)) (s : Shared) (σ : St) (H : Hp) (E : Value → Shared → Prop), Inv X pins σ H s → (∀ b ∈ fp, FpOk X pins H b) → tn i s.heap → J.stop i H →
    wpAny (model P w) X.A (pyNext (.ref it)) (fun r s1 => r = none ∧ Inv X pins σ H s1) E s
  self : ∀ (A : Around) (i : Nat) (s : Shared) (Q : Value → Shared → Prop) (E : Value → Shared → Prop), tn i s.heap → Q (.ref it) s → wpAny (model P w) A (pyIter (.ref it)) Q E s
abbrev TI := St → Hp → (It → Hp → Prop) → Prop
/-- an iterator has come -/
def PIE (X : Cx) (pins : List (Addr × Obj)) (σ : St) (tg : Expr) (R : It → Hp → Prop) (itv : Value) (s2 : Shared) : Prop :=
  ∃ (it : Addr) (fp : List Addr) (tn : Nat → Heap → Prop) (J : It) (H' : Hp), itv = .ref it ∧ Inv X pins σ H' s2 ∧ Turn X.prog X.w X.K tg J fp it tn ∧ tn 0 s2.heap ∧ (∀ b ∈ fp, FpOk X pins H' b) ∧ R J H'
def PI (X : Cx) (tg iter : Expr) (wi : TI) : Prop :=
  ∀ (pins : List (Addr × Obj)) (s : Shared) (σ : St) (H : Hp) (R : It → Hp → Prop), Inv X pins σ H s → wi σ H R →
    wpAny (model X.prog X.w) X.A (eval iter X.env) (fun v s1 => wpAny (model X.prog X.w) X.A (pyIter v) (PIE X pins σ tg R) X.xe s1) X.xe s

/-- the step ahead of the store is nothing for an iterator that keeps no tuple -/
theorem go_of {M : Model} {A : Around} {E : Value → Shared → Prop} {s : Shared} {tg : Expr} {it : Addr} {u : Value} {o : Obj} {n : String} {vs : Array Value} {Q : Unit → Shared → Prop} (ho : s.heap.get? it = some o) (hc : o.cls = .type n) (hd : o.data = .fields vs)
    (hn : ["enumerate", "zip", "dict_itemiterator", "dict_reverseitemiterator", "odict_iterator", "itertools.zip_longest", "itertools.pairwise"].contains n = false) (hQ : Q () s) : wpAny M A (letOwnedTupleGo tg (.ref it) u) Q E s := by
  unfold letOwnedTupleGo
  cases tg <;> first
    | exact wpAny_pure hQ
    | (cases u <;> first
        | exact wpAny_pure hQ
        | (refine wpAny_bind (wpAny_load ho ?_)
           rw [hc, hd]
           show wpAny M A (if (["enumerate", "zip", "dict_itemiterator", "dict_reverseitemiterator", "odict_iterator", "itertools.zip_longest", "itertools.pairwise"].contains n && vs[0]? == some (rawInt _)) = true then _ else _) Q E s
           rw [if_neg (by intro h; rw [hn, Bool.false_and] at h; cases h)]
           exact wpAny_pure hQ))

/-- the list at a, as it stands at each turn (a loop may append to it) -/
def Itl (K : PySem.W.Frag) (a : Addr) : It :=
  ⟨fun i H => ∃ xs x, SqL K H a xs ∧ xs[i]? = some x, fun i H x H' => H' = H ∧ ∀ xs, SqL K H a xs → xs[i]? = some x, fun i H => ∃ xs, SqL K H a xs ∧ xs.length ≤ i⟩
def Itt (K : PySem.W.Frag) (a : Addr) : It :=
  ⟨fun i H => ∃ xs x, SqT K H a xs ∧ xs[i]? = some x, fun i H x H' => H' = H ∧ ∀ xs, SqT K H a xs → xs[i]? = some x, fun i H => ∃ xs, SqT K H a xs ∧ xs.length ≤ i⟩
/-- lo, lo + 1, .. (n of them) -/
def Itr (lo : Int) (n : Nat) : It := ⟨fun i _ => i < n, fun i H x H' => H' = H ∧ x = .int (lo + i), fun i _ => n ≤ i⟩
theorem turn_list {P : Program} {w : World} {K : PySem.W.Frag} {tg : Expr} (a it : Addr) : Turn P w K tg (Itl K a) [it] it (fun i h => h.IsListIter it a i) where
  mem := by simp
  obj := fun i h st b hb => by
    have e : b = it := by simpa using hb
    subst e
    obtain ⟨o, e, c, d⟩ := st
    exact ⟨o, e, fun v z => by rw [d] at z; cases z⟩
  keep := fun i h h' st k => st.at fun o e => k it (by simp) o e
  item := by
    intro X hP hw hK hc i pins s σ H E I hf st hg
    subst hP hw hK
    obtain ⟨xs, x, hq, hx⟩ := hg
    obtain ⟨its, rv, p, hz⟩ := I.list hq
    obtain ⟨u, hu, ru⟩ := rv.get hx
    obtain ⟨f0, f1, f2, f3, f4, f5⟩ := hf it (by simp)
    refine wpAny_pyNext_list_item st p.isList (x := u) (by simpa using hu) fun h' st' sb => ?_
    have I1 : Inv X pins σ H { s with heap := h' } := I.turned (t' := s.toks) (fun b o hb e => (sb.2 b hb).trans e) f0 f1 f3 f4 f5
    obtain ⟨o, e, c, d⟩ := id st'
    exact ⟨u, rfl, go_of (s := { s with heap := h' }) e c d (by decide) ⟨x, H, I1, ru, ⟨rfl, fun ys hy => by rw [I.list_inj hy hq]; exact hx⟩, st', fun b hb => (hf b hb).1⟩⟩
  done := by
    intro X hP hw hK hc i pins s σ H E I hf st hg
    subst hP hw hK
    obtain ⟨xs, hq, hx⟩ := hg
    obtain ⟨its, rv, p, hz⟩ := I.list hq
    obtain ⟨f0, f1, f2, f3, f4, f5⟩ := hf it (by simp)
    have hl := rv.length
    exact wpAny_pyNext_list_end (I.ok.hd hc) st p.isList (by simp; omega) fun h' eb => ⟨rfl, I.turned (t' := s.toks) (fun b o hb e => eb b o hb e) f0 f1 f3 f4 f5⟩
  self := fun _ _ _ _ _ st h => wpAny_pyIter_listiter st h
theorem turn_tuple {P : Program} {w : World} {K : PySem.W.Frag} {tg : Expr} (a it : Addr) : Turn P w K tg (Itt K a) [it] it (fun i h => h.IsTupleIter it a i) where
  mem := by simp
  obj := fun i h st b hb => by
    have e : b = it := by simpa using hb
    subst e
    obtain ⟨o, e, c, d⟩ := st
    exact ⟨o, e, fun v z => by rw [d] at z; cases z⟩
  keep := fun i h h' st k => st.at fun o e => k it (by simp) o e
  item := by
    intro X hP hw hK hc i pins s σ H E I hf st hg
    subst hP hw hK
    obtain ⟨xs, x, hq, hx⟩ := hg
    obtain ⟨its, rv, p, hz⟩ := I.tuple hq
    obtain ⟨u, hu, ru⟩ := rv.get hx
    obtain ⟨f0, f1, f2, f3, f4, f5⟩ := hf it (by simp)
    refine wpAny_pyNext_tuple_item st (show s.heap.IsTuple a its.toArray from p) (x := u) (by simpa using hu) fun h' st' sb => ?_
    have I1 : Inv X pins σ H { s with heap := h' } := I.turned (t' := s.toks) (fun b o hb e => (sb.2 b hb).trans e) f0 f1 f3 f4 f5
    obtain ⟨o, e, c, d⟩ := id st'
    exact ⟨u, rfl, go_of (s := { s with heap := h' }) e c d (by decide) ⟨x, H, I1, ru, ⟨rfl, fun ys hy => by rw [I.tuple_inj hy hq]; exact hx⟩, st', fun b hb => (hf b hb).1⟩⟩
  done := by
    intro X hP hw hK hc i pins s σ H E I hf st hg
    subst hP hw hK
    obtain ⟨xs, hq, hx⟩ := hg
    obtain ⟨its, rv, p, hz⟩ := I.tuple hq
    obtain ⟨f0, f1, f2, f3, f4, f5⟩ := hf it (by simp)
    have hl := rv.length
    exact wpAny_pyNext_tuple_end (I.ok.hd hc) st (show s.heap.IsTuple a its.toArray from p) (by simp; omega) fun h' eb => ⟨rfl, I.turned (t' := s.toks) (fun b o hb e => eb b o hb e) f0 f1 f3 f4 f5⟩
  self := fun _ _ _ _ _ st h => wpAny_pyIter_tupleiter st h
theorem turn_range {P : Program} {w : World} {K : PySem.W.Frag} {tg : Expr} (it : Addr) (lo : Int) (n : Nat) : Turn P w K tg (Itr lo n) [it] it (fun i h => IsRangeIter h it (lo + (i : Nat) * 1) ((n : Int) - (i : Nat)) 1) where
  mem := by simp
  obj := fun i h st b hb => by
    have e : b = it := by simpa using hb
    subst e
    exact ⟨_, st, fun v z => by
      have z' : Data.fields _ = Data.cell v := z
      cases z'⟩
  keep := fun i h h' st k => k it (by simp) _ st
  item := by
    intro X hP hw hK hc i pins s σ H E I hf st hg
    subst hP hw hK
    obtain ⟨f0, f1, f2, f3, f4, f5⟩ := hf it (by simp)
    have W := Walks.range (prog := X.prog) (w := X.w) (I.ok.hd hc) it lo 1 n
    refine W.item i s _ _ hg st fun v h' tk hv st' kk => ?_
    obtain ⟨t, rfl⟩ := hv
    have I1 : Inv X pins σ H { s with heap := h', toks := tk } := I.turned (fun b o hb e => kk b o (by simpa using hb) e) f0 f1 f3 f4 f5
    refine ⟨_, rfl, go_of (s := { s with heap := h', toks := tk }) (n := "range_iterator") st' rfl rfl (by decide) ⟨.int (lo + i), H, I1, ⟨t, ?_⟩, ⟨rfl, rfl⟩, st', fun b hb => (hf b hb).1⟩⟩
    rw [Int.mul_one]
  done := by
    intro X hP hw hK hc i pins s σ H E I hf st hg
    subst hP hw hK
    obtain ⟨f0, f1, f2, f3, f4, f5⟩ := hf it (by simp)
    exact wpAny_pyNext_range_end (I.ok.hd hc) st (by have : n ≤ i := hg; omega) fun h' eb => ⟨rfl, I.turned (t' := s.toks) (fun b o hb e => eb b o hb e) f0 f1 f3 f4 f5⟩
  self := fun _ _ _ _ _ st h => wpAny_pyIter_rangeiter st h
end L2

namespace L2
open PySem PySem.Spec PyProof.Rows
section
variable {X : Cx} {tg : Expr}
def iList (K : PySem.W.Frag) (tl : TE) : TI := fun σ H R => tl σ H fun x H1 => ∃ a, x = .ref a ∧ (∃ xs, SqL K H1 a xs) ∧ R (Itl K a) H1
def iTup (K : PySem.W.Frag) (tl : TE) : TI := fun σ H R => tl σ H fun x H1 => ∃ a, x = .ref a ∧ (∃ xs, SqT K H1 a xs) ∧ R (Itt K a) H1
theorem pi_list {l : Expr} {tl : TE} (hl : PE X l tl) : PI X tg l (iList X.K tl) := by
  intro pins s σ H R I h
  refine thn (hl pins s σ H _ I h) fun v s1 ⟨x, H1, I1, r1, q1⟩ => ?_
  obtain ⟨a, e, ⟨xs, hq⟩, q⟩ := q1
  subst e
  cases r1
  obtain ⟨its, rv, p, hz⟩ := I1.list hq
  refine wpAny_pyIter_list p.isList ?_
  refine ⟨s1.heap.objs.size, [s1.heap.objs.size], _, _, H1, rfl, I1.kept (t' := s1.toks) fun b o e => Heap.get?_push_of_some _ e, turn_list a _, ⟨_, Heap.get?_push_size _ rfl, rfl, rfl⟩, fun b hb => ?_, q⟩
  have e : b = s1.heap.objs.size := by simpa using hb
  subst e
  exact I1.fpOk (Nat.le_refl _) (I1.hok.fresh (Nat.le_refl _))
theorem pi_tup {l : Expr} {tl : TE} (hl : PE X l tl) : PI X tg l (iTup X.K tl) := by
  intro pins s σ H R I h
  refine thn (hl pins s σ H _ I h) fun v s1 ⟨x, H1, I1, r1, q1⟩ => ?_
  obtain ⟨a, e, ⟨xs, hq⟩, q⟩ := q1
  subst e
  cases r1
  obtain ⟨its, rv, p, hz⟩ := I1.tuple hq
  refine wpAny_pyIter_tuple (show s1.heap.IsTuple a its.toArray from p) ?_
  refine ⟨s1.heap.objs.size, [s1.heap.objs.size], _, _, H1, rfl, I1.kept (t' := s1.toks) fun b o e => Heap.get?_push_of_some _ e, turn_tuple a _, ⟨_, Heap.get?_push_size _ rfl, rfl, rfl⟩, fun b hb => ?_, q⟩
  have e : b = s1.heap.objs.size := by simpa using hb
  subst e
  exact I1.fpOk (Nat.le_refl _) (I1.hok.fresh (Nat.le_refl _))
/-- a range object just made, walked -/
theorem range_it {pins : List (Addr × Obj)} {σ : St} {H : Hp} {s : Shared} {R : It → Hp → Prop} {E : Value → Shared → Prop} {lo hi : Int} {t u v : Tok} {tk : Nat} (I : Inv X pins σ H s) (h1 : -(2 ^ 62) ≤ lo) (h2 : lo < 2 ^ 62) (h3 : -(2 ^ 62) ≤ hi) (h4 : hi < 2 ^ 62)
    (q : R (Itr lo (hi - lo).toNat) H) : wpAny (model X.prog X.w) X.A (pyIter (.ref s.heap.objs.size)) (PIE X pins σ tg R) E { s with heap := s.heap.push { cls := .type "range", data := .fields #[.int lo t, .int hi u, .int 1 v] }, toks := tk } := by
  refine wpAny_pyIter_range (IsRange.new ..) (small_one h1 h2 h3 h4) ?_
  have I1 : Inv X pins σ H { s with heap := s.heap.push { cls := .type "range", data := .fields #[.int lo t, .int hi u, .int 1 v] }, toks := tk } := I.kept fun b o e => Heap.get?_push_of_some _ e
  refine ⟨(s.heap.push { cls := .type "range", data := .fields #[.int lo t, .int hi u, .int 1 v] }).objs.size, [(s.heap.push { cls := .type "range", data := .fields #[.int lo t, .int hi u, .int 1 v] }).objs.size], _, _, H, rfl,
    I1.kept (t' := tk) fun b o e => Heap.get?_push_of_some _ e, turn_range _ lo (hi - lo).toNat, ?_, fun b hb => ?_, q⟩
  · have e1 : lo + ((0 : Nat) : Int) * 1 = lo := by simp
    have e2 : (((hi - lo).toNat : Nat) : Int) - ((0 : Nat) : Int) = Builtin.Range.rangeSize lo hi 1 := by rw [rangeSize_one]; split <;> omega
    show IsRangeIter _ _ (lo + ((0 : Nat) : Int) * 1) ((((hi - lo).toNat : Nat) : Int) - ((0 : Nat) : Int)) 1
    rw [e1, e2]
    exact Heap.get?_push_size _ rfl
  · have e : b = (s.heap.push { cls := .type "range", data := .fields #[.int lo t, .int hi u, .int 1 v] }).objs.size := by simpa using hb
    subst e
    exact I1.fpOk (Nat.le_refl _) (I1.hok.fresh (Nat.le_refl _))
def iRng1 (ta : TA) : TI := fun σ H R => ta σ H fun vs H1 => ∃ j : Int, vs = [.int j] ∧ -(2 ^ 62) ≤ j ∧ j < 2 ^ 62 ∧ R (Itr 0 j.toNat) H1
def iRng2 (ta : TA) : TI := fun σ H R => ta σ H fun vs H1 => ∃ i j : Int, vs = [.int i, .int j] ∧ (-(2 ^ 62) ≤ i ∧ i < 2 ^ 62 ∧ -(2 ^ 62) ≤ j ∧ j < 2 ^ 62) ∧ R (Itr i (j - i).toNat) H1
theorem pi_range1 {a : Expr} {ta : TA} {p pos : Pos} (hg : Gl X "range") (hm : X.mg "range" = none) (ha : PA X [a] ta) (hs : starEach [a] X.env = [(false, eval a X.env)] := by rfl) : PI X tg (.Call (.Name "range" p) [a] [] pos) (iRng1 ta) := by
  intro pins s σ H R I h
  refine Call_ (ld_blt I hg hm boot_range (PyProof.Rows.callWith_type1 (thn (ha pos pins s σ H _ I h) fun us s1 ⟨vs, H1, I1, r1, q1⟩ => ?_) hs rfl))
  obtain ⟨j, e, q1, q2, q⟩ := q1
  subst e
  cases r1 with
  | cons r rr =>
    cases rr
    obtain ⟨t, rfl⟩ := r
    exact call_range_1 (range_it I1 (by omega) (by omega) q1 q2 (by simpa using q))
theorem pi_range2 {a b : Expr} {ta : TA} {p pos : Pos} (hg : Gl X "range") (hm : X.mg "range" = none) (ha : PA X [a, b] ta) (hs : starEach [a, b] X.env = [(false, eval a X.env), (false, eval b X.env)] := by rfl) (hs2 : starEach [b] X.env = [(false, eval b X.env)] := by rfl) :
    PI X tg (.Call (.Name "range" p) [a, b] [] pos) (iRng2 ta) := by
  intro pins s σ H R I h
  refine Call_ (ld_blt I hg hm boot_range (PyProof.Rows.callWith_type1 (thn (ha pos pins s σ H _ I h) fun us s1 ⟨vs, H1, I1, r1, q1⟩ => ?_) (by rw [hs, hs2]) (by rw [hs2]; rfl)))
  obtain ⟨i, j, e, ⟨q1, q2, q3, q4⟩, q⟩ := q1
  subst e
  cases r1 with
  | cons r rr =>
    cases rr with
    | cons r' rr =>
      cases rr
      obtain ⟨t, rfl⟩ := r
      obtain ⟨t', rfl⟩ := r'
      exact call_range_2 (range_it I1 q1 q2 q3 q4 q)

/-! ### for -/
/-- W: the invariant by the turn and a measure; N: what the body is to reach -/
def tFor (wi : TI) (g : TG) (tb : TS) : TS := fun D σ H => wi σ H fun J H1 => ∃ W : Nat → Nat → St → Hp → Prop, (∃ m, W 0 m σ H1) ∧ ∀ i m σ H, W i m σ H →
  (J.stop i H ∧ D.nx σ H) ∨ (J.go i H ∧ ∃ N : St → Hp → Prop, (∀ σ' H', N σ' H' → ∃ m', m' < m ∧ W (i + 1) m' σ' H') ∧ ∀ x H', J.yld i H x H' → g x σ H' fun σ2 H2 => tb { D with nx := N, ct := N, bk := D.nx } σ2 H2)
/-- the records at fp as they stand -/
def pinsAt (fp : List Addr) (h : Heap) : List (Addr × Obj) := fp.filterMap fun b => (h.get? b).map fun o => (b, o)
theorem mem_pinsAt {fp : List Addr} {h : Heap} {b : Addr} {o : Obj} (hb : b ∈ fp) (e : h.get? b = some o) : (b, o) ∈ pinsAt fp h := List.mem_filterMap.mpr ⟨b, hb, by rw [e]; rfl⟩
theorem of_pinsAt {fp : List Addr} {h : Heap} {p : Addr × Obj} (hp : p ∈ pinsAt fp h) : p.1 ∈ fp ∧ h.get? p.1 = some p.2 := by
  obtain ⟨b, hb, e⟩ := List.mem_filterMap.mp hp
  cases q : h.get? b with
  | none => rw [q] at e; cases e
  | some o =>
    rw [q] at e
    have e' : (b, o) = p := Option.some.inj e
    subst e'
    exact ⟨hb, q⟩
theorem Inv.pinned {pins : List (Addr × Obj)} {σ : St} {H : Hp} {s : Shared} {fp : List Addr} (I : Inv X pins σ H s) (hf : ∀ b ∈ fp, FpOk X pins H b) (ho : ∀ b ∈ fp, ∃ o, s.heap.get? b = some o ∧ ∀ v, o.data ≠ .cell v) : Inv X (pins ++ pinsAt fp s.heap) σ H s :=
  I.pins_of fun p hp => (List.mem_append.mp hp).elim (fun z => I.pin p (List.mem_append_right _ z)) fun z => by
    obtain ⟨hb, e⟩ := of_pinsAt z
    obtain ⟨f0, f1, f2, _⟩ := hf p.1 hb
    obtain ⟨o, e', d⟩ := ho p.1 hb
    rw [e] at e'; cases e'
    exact ⟨e, f0, f1, f2, d⟩
theorem Inv.unpinned {pins pl : List (Addr × Obj)} {σ : St} {H : Hp} {s : Shared} (I : Inv X (pins ++ pl) σ H s) : Inv X pins σ H s := I.pins_of fun p hp => I.pin p (List.mem_append_right _ (List.mem_append_left _ hp))
theorem ps_for {iter : Expr} {body : List Stmt} {wi : TI} {g : TG} {tb : TS} {pos : Pos} (hp : PassesOwn (model X.prog X.w) X.A X.env X.xe) (hc : X.calm = true) (hi : PI X tg iter wi) (hg : PG X tg g) (hb : PSs X body tb)
    (hs : ∀ x, foldedSetIterable iter X.env x = pure x := by intro _; rfl) : PS X (.For tg iter body [] pos) (tFor wi g tb) := by
  intro pins s σ H D I h
  refine wpAny_For (thn (hi pins s σ H _ I h) fun v s1 h1 => thn h1 fun itv s2 h2 => ?_) hs
  obtain ⟨it, fp, tn, J, H2, e, I2, T, st2, f2, W, ⟨m0, w0⟩, turn⟩ := h2
  subst e
  -- what stays true of the iterator's objects through the loop
  have stat : ∀ {H' : Hp}, (∀ b ∈ fp, H' b = none) → ∀ b ∈ fp, FpOk X pins H' b := fun hn b hb => ⟨hn b hb, (f2 b hb).2⟩
  refine codeAny_forLoop_any (fun n s' => ∃ i σ' H', Inv X pins σ' H' s' ∧ tn i s'.heap ∧ (∀ b ∈ fp, H' b = none) ∧ W i n σ' H') ?_ m0 ⟨0, σ, H2, I2, st2, fun b hb => (f2 b hb).1, w0⟩
  rintro n s3 ⟨i, σ3, H3, I3, st3, fr3, w3⟩
  rcases turn i n σ3 H3 w3 with ⟨stop, qn⟩ | ⟨go, N, hN, step⟩
  · refine wpAny_passesOwn hp (thn (T.done X rfl rfl rfl hc i pins s3 σ3 H3 X.xe I3 (stat fr3) st3 stop) fun r s4 ⟨hr, I4⟩ => ?_)
    subst hr
    exact wpAny_execs_nil ⟨σ3, H3, I4, qn⟩
  · refine wpAny_passesOwn hp (thn (T.item X rfl rfl rfl hc i pins s3 σ3 H3 X.xe I3 (stat fr3) st3 go) fun r s4 ⟨u, hr, h4⟩ => ?_)
    subst hr
    refine wpAny_passesOwn hp (thn h4 fun _ s5 ⟨x, H5, I5, r5, y5, st5, fr5⟩ => ?_)
    have I5' := I5.pinned (stat fr5) (T.obj _ _ st5)
    refine wpAny_passesOwn hp (thn (hg _ s5 σ3 H5 x u _ I5' r5 (step x H5 y5)) fun _ s6 ⟨σ6, H6, I6, q6⟩ => ?_)
    refine wpAny_passesOwn hp (thn (hb _ s6 σ6 H6 _ I6 q6) fun f s7 q7 => ?_)
    have again : ∀ {σ7 : St} {H7 : Hp}, Inv X (pins ++ pinsAt fp s5.heap) σ7 H7 s7 → N σ7 H7 → ∃ m, m < n ∧ ∃ i σ' H', Inv X pins σ' H' s7 ∧ tn i s7.heap ∧ (∀ b ∈ fp, H' b = none) ∧ W i m σ' H' := fun {σ7 H7} I7 n7 => by
      obtain ⟨m', hm, w7⟩ := hN σ7 H7 n7
      refine ⟨m', hm, i + 1, σ7, H7, I7.unpinned, T.keep _ _ _ st5 fun b hb o e => (I7.pin (b, o) (List.mem_append_right _ (List.mem_append_right _ (mem_pinsAt hb e)))).1, fun b hb => ?_, w7⟩
      obtain ⟨o, e, d⟩ := T.obj _ _ st5 b hb
      exact (I7.pin (b, o) (List.mem_append_right _ (List.mem_append_right _ (mem_pinsAt hb e)))).2.1
    cases f with
    | next => obtain ⟨σ7, H7, I7, n7⟩ := q7; exact again I7 n7
    | cont => obtain ⟨σ7, H7, I7, n7⟩ := q7; exact again I7 n7
    | brk => obtain ⟨σ7, H7, I7, q7⟩ := q7; exact ⟨σ7, H7, I7.unpinned, q7⟩
    | ret v => obtain ⟨x7, σ7, H7, I7, r7, q7⟩ := q7; exact ⟨x7, σ7, H7, I7.unpinned, r7, q7⟩
end

/-! ### the forms one uses -/
/-- over a list that the body leaves as it is -/
theorem for_list {K : PySem.W.Frag} {a : Addr} {xs : List V} {g : TG} {tb : TS} {D : Ends} {σ : St} {H : Hp} (Pv : Nat → St → Hp → Prop) (h0 : Pv 0 σ H) (hl : ∀ i σ H, i ≤ xs.length → Pv i σ H → SqL K H a xs)
    (hs : ∀ i x σ H, xs[i]? = some x → Pv i σ H → g x σ H fun σ2 H2 => tb { D with nx := Pv (i + 1), ct := Pv (i + 1), bk := D.nx } σ2 H2) (hd : ∀ σ H, Pv xs.length σ H → D.nx σ H) :
    ∃ W : Nat → Nat → St → Hp → Prop, (∃ m, W 0 m σ H) ∧ ∀ i m σ H, W i m σ H →
      ((Itl K a).stop i H ∧ D.nx σ H) ∨ ((Itl K a).go i H ∧ ∃ N : St → Hp → Prop, (∀ σ' H', N σ' H' → ∃ m', m' < m ∧ W (i + 1) m' σ' H') ∧ ∀ x H', (Itl K a).yld i H x H' → g x σ H' fun σ2 H2 => tb { D with nx := N, ct := N, bk := D.nx } σ2 H2) := by
  refine ⟨fun i m σ H => m = xs.length - i ∧ i ≤ xs.length ∧ Pv i σ H, ⟨xs.length, by simp, Nat.zero_le _, h0⟩, ?_⟩
  rintro i m σ H ⟨rfl, hi, p⟩
  have q := hl i σ H hi p
  by_cases hlt : i < xs.length
  · refine .inr ⟨⟨xs, xs[i], q, by simp [hlt]⟩, Pv (i + 1), fun σ' H' p' => ⟨xs.length - (i + 1), by omega, rfl, hlt, p'⟩, fun x H' y => ?_⟩
    obtain ⟨e, y⟩ := y
    subst e
    exact hs i x σ _ (y xs q) p
  · have e : i = xs.length := by omega
    subst e
    exact .inl ⟨⟨xs, q, Nat.le_refl _⟩, hd σ H p⟩
theorem for_range {lo : Int} {n : Nat} {g : TG} {tb : TS} {D : Ends} {σ : St} {H : Hp} (Pv : Nat → St → Hp → Prop) (h0 : Pv 0 σ H)
    (hs : ∀ i σ H, i < n → Pv i σ H → g (.int (lo + i)) σ H fun σ2 H2 => tb { D with nx := Pv (i + 1), ct := Pv (i + 1), bk := D.nx } σ2 H2) (hd : ∀ σ H, Pv n σ H → D.nx σ H) :
    ∃ W : Nat → Nat → St → Hp → Prop, (∃ m, W 0 m σ H) ∧ ∀ i m σ H, W i m σ H →
      ((Itr lo n).stop i H ∧ D.nx σ H) ∨ ((Itr lo n).go i H ∧ ∃ N : St → Hp → Prop, (∀ σ' H', N σ' H' → ∃ m', m' < m ∧ W (i + 1) m' σ' H') ∧ ∀ x H', (Itr lo n).yld i H x H' → g x σ H' fun σ2 H2 => tb { D with nx := N, ct := N, bk := D.nx } σ2 H2) := by
  refine ⟨fun i m σ H => m = n - i ∧ i ≤ n ∧ Pv i σ H, ⟨n, by simp, Nat.zero_le _, h0⟩, ?_⟩
  rintro i m σ H ⟨rfl, hi, p⟩
  by_cases hlt : i < n
  · refine .inr ⟨hlt, Pv (i + 1), fun σ' H' p' => ⟨n - (i + 1), by omega, rfl, hlt, p'⟩, fun x H' y => ?_⟩
    obtain ⟨e, y⟩ := y
    subst e y
    exact hs i σ _ hlt p
  · have e : i = n := by omega
    subst e
    exact .inl ⟨Nat.le_refl _, hd σ H p⟩
/-- while, by a word and a measure of the state -/
theorem while_by {c : TT} {tb : TS} {D : Ends} {σ : St} {H : Hp} (Pv : St → Hp → Prop) (μ : St → Hp → Nat) (h0 : Pv σ H)
    (hs : ∀ σ H, Pv σ H → c σ H fun b H1 => if b = true then tb { D with nx := fun σ' H' => Pv σ' H' ∧ μ σ' H' < μ σ H, ct := fun σ' H' => Pv σ' H' ∧ μ σ' H' < μ σ H, bk := D.nx } σ H1 else D.nx σ H1)
    (mono : ∀ σ H Q Q', (∀ b H1, Q b H1 → Q' b H1) → c σ H Q → c σ H Q') : tWhile c tb D σ H := by
  refine ⟨fun m σ H => m = μ σ H ∧ Pv σ H, ⟨_, rfl, h0⟩, ?_⟩
  rintro m σ H ⟨rfl, p⟩
  refine mono σ H _ _ (fun b H1 q => ?_) (hs σ H p)
  cases b with
  | true => exact ⟨_, fun σ' H' ⟨p', l⟩ => ⟨_, l, rfl, p'⟩, q⟩
  | false => exact q
end L2

namespace L2
open PySem PySem.Spec PyProof.Rows

abbrev R2 := V → V → Hp → VK → Prop
/-- a two-place operation on values: f is binaryOp op, inplaceOp op or compareOp op -/
def OpR (X : Cx) (f : Value → Value → Sem Value) (r : R2) : Prop :=
  ∀ (pins : List (Addr × Obj)) (s : Shared) (σ : St) (H : Hp) (x y : V) (v u : Value) (Q : VK), Inv X pins σ H s → RelV x v → RelV y u → r x y H Q →
    wpAny (model X.prog X.w) X.A (f v u) (EP X pins σ Q) X.xe s
/-- a one-place operation -/
def UnR (X : Cx) (f : Value → Sem Value) (r : V → Hp → VK → Prop) : Prop :=
  ∀ (pins : List (Addr × Obj)) (s : Shared) (σ : St) (H : Hp) (x : V) (v : Value) (Q : VK), Inv X pins σ H s → RelV x v → r x H Q →
    wpAny (model X.prog X.w) X.A (f v) (EP X pins σ Q) X.xe s
/-- a call of a value that is known (a builtin, a type) with values -/
def CallR (X : Cx) (f : Value) (r : List V → Hp → VK → Prop) : Prop :=
  ∀ (pins : List (Addr × Obj)) (s : Shared) (σ : St) (H : Hp) (xs : List V) (us : List Value) (Q : VK), Inv X pins σ H s → Vals xs us → r xs H Q →
    wpAny (model X.prog X.w) X.A (call f us) (EP X pins σ Q) X.xe s
/-- a value's truth -/
def TruR (X : Cx) (r : V → Hp → (Bool → Hp → Prop) → Prop) : Prop :=
  ∀ (pins : List (Addr × Obj)) (s : Shared) (σ : St) (H : Hp) (x : V) (v : Value) (Q : Bool → Hp → Prop), Inv X pins σ H s → RelV x v → r x H Q →
    wpAny (model X.prog X.w) X.A (truthy v) (TP X pins σ Q) X.xe s

def tOp (r : R2) (ta tb : TE) : TE := fun σ H Q => ta σ H fun x H1 => tb σ H1 fun y H2 => r x y H2 Q
def tUn (r : V → Hp → VK → Prop) (ta : TE) : TE := fun σ H Q => ta σ H fun x H1 => r x H1 Q
/-- ints in, under C, and a value out -/
def rI (C : Int → Int → Prop) (g : Int → Int → V) : R2 := fun x y H Q => ∃ i j, x = .int i ∧ y = .int j ∧ C i j ∧ Q (g i j) H
def rI0 (g : Int → Int → V) : R2 := fun x y H Q => ∃ i j, x = .int i ∧ y = .int j ∧ Q (g i j) H
def rU (g : Int → V) : V → Hp → VK → Prop := fun x H Q => ∃ i, x = .int i ∧ Q (g i) H

section
variable {X : Cx} {a b c : Expr} {ta tb tc : TE} {pos : Pos}

theorem binT (ha : PE X a ta) (hb : PE X b tb) {pins : List (Addr × Obj)} {s : Shared} {σ : St} {H : Hp} {R : V → V → Hp → Prop} (I : Inv X pins σ H s)
    (h : ta σ H fun x H1 => tb σ H1 fun y H2 => R x y H2) {Q : Value → Shared → Prop} {f : Value → Value → Sem Value}
    (hf : ∀ v u s2 x y H2, Inv X pins σ H2 s2 → RelV x v → RelV y u → R x y H2 → wpAny (model X.prog X.w) X.A (f v u) Q X.xe s2) :
    wpAny (model X.prog X.w) X.A (eval a X.env) (fun v s₁ => wpAny (model X.prog X.w) X.A (eval b X.env) (fun u s₂ => wpAny (model X.prog X.w) X.A (f v u) Q X.xe s₂) X.xe s₁) X.xe s := by
  refine thn (ha pins s σ H _ I h) fun v s1 ⟨x, H1, I1, r1, q1⟩ => ?_
  refine thn (hb pins s1 σ H1 _ I1 q1) fun u s2 ⟨y, H2, I2, r2, q2⟩ => ?_
  exact hf v u s2 x y H2 I2 r1 r2 q2

theorem pe_op {op : Operator} {r : R2} (ho : OpR X (binaryOp op) r) (ha : PE X a ta) (hb : PE X b tb) : PE X (.BinOp a op b pos) (tOp r ta tb) := by
  intro pins s σ H Q I h
  exact wpAny_BinOp (binT ha hb I h fun v u s2 x y H2 I2 rx ry q => ho pins s2 σ H2 x y v u Q I2 rx ry q)
theorem pe_un {op : UnaryOp} {r : V → Hp → VK → Prop} (ho : UnR X (unaryOp op) r) (ha : PE X a ta) : PE X (.UnaryOp op a pos) (tUn r ta) := by
  intro pins s σ H Q I h
  exact UnaryOp_ (thn (ha pins s σ H _ I h) fun v s1 ⟨x, H1, I1, r1, q1⟩ => ho pins s1 σ H1 x v Q I1 r1 q1)
/-! ### ints -/
theorem opI {f : Value → Value → Sem Value} {C : Int → Int → Prop} {g : Int → Int → Int}
    (rule : ∀ (i j : Int) (t u : Tok) (s : Shared) (Q : Value → Shared → Prop) (E : Value → Shared → Prop), C i j → Q (.int (g i j) s.toks) { s with toks := s.toks + 1 } → wpAny (model X.prog X.w) X.A (f (.int i t) (.int j u)) Q E s) :
    OpR X f (rI C fun i j => .int (g i j)) := by
  intro pins s σ H x y v u Q I rx ry h
  obtain ⟨i, j, rfl, rfl, hc, q⟩ := h
  obtain ⟨t, rfl⟩ := rx
  obtain ⟨t', rfl⟩ := ry
  exact rule i j t t' s _ _ hc ⟨.int (g i j), H, I.tok _, ⟨_, rfl⟩, q⟩
theorem opI0 {f : Value → Value → Sem Value} {g : Int → Int → Int}
    (rule : ∀ (i j : Int) (t u : Tok) (s : Shared) (Q : Value → Shared → Prop) (E : Value → Shared → Prop), Q (.int (g i j) s.toks) { s with toks := s.toks + 1 } → wpAny (model X.prog X.w) X.A (f (.int i t) (.int j u)) Q E s) :
    OpR X f (rI0 fun i j => .int (g i j)) := by
  intro pins s σ H x y v u Q I rx ry h
  obtain ⟨i, j, rfl, rfl, q⟩ := h
  obtain ⟨t, rfl⟩ := rx
  obtain ⟨t', rfl⟩ := ry
  exact rule i j t t' s _ _ ⟨.int (g i j), H, I.tok _, ⟨_, rfl⟩, q⟩
theorem opB0 {f : Value → Value → Sem Value} {g : Int → Int → Bool}
    (rule : ∀ (i j : Int) (t u : Tok) (s : Shared) (Q : Value → Shared → Prop) (E : Value → Shared → Prop), Q (.bool (g i j)) s → wpAny (model X.prog X.w) X.A (f (.int i t) (.int j u)) Q E s) :
    OpR X f (rI0 fun i j => .bl (g i j)) := by
  intro pins s σ H x y v u Q I rx ry h
  obtain ⟨i, j, rfl, rfl, q⟩ := h
  obtain ⟨t, rfl⟩ := rx
  obtain ⟨t', rfl⟩ := ry
  exact rule i j t t' s _ _ ⟨.bl (g i j), H, I, rfl, q⟩

def CDiv (i j : Int) : Prop := 0 < j ∧ j < 1073741824
def CPow (i j : Int) : Prop := 0 ≤ j ∧ j ≤ 1000000 ∧ i.natAbs < 2 ^ 64
def CMul (i j : Int) : Prop := (-(2 ^ 64) < i ∧ i < 2 ^ 64) ∨ (-(2 ^ 64) < j ∧ j < 2 ^ 64)
theorem CMul.ok {i j : Int} (h : CMul i j) : IntMulOk i j := by
  rcases h with ⟨h1, h2⟩ | ⟨h1, h2⟩
  · exact .of_left (intBits_le_64 h1 h2)
  · exact .of_right (intBits_le_64 h1 h2)
theorem op_add : OpR X (binaryOp .Add) (rI0 fun i j => .int (i + j)) := opI0 fun _ _ _ _ _ _ _ q => add_int q
theorem op_sub : OpR X (binaryOp .Sub) (rI0 fun i j => .int (i - j)) := opI0 fun _ _ _ _ _ _ _ q => sub_int q
theorem op_mul : OpR X (binaryOp .Mult) (rI CMul fun i j => .int (i * j)) := opI fun _ _ _ _ _ _ _ hc q => mul_int q hc.ok
/-- // by a positive divisor -/
theorem op_fdiv : OpR X (binaryOp .FloorDiv) (rI CDiv fun i j => .int (i / j)) := opI fun i j _ _ _ _ _ hc q => by
  have h1 : (0 : Int) < j := hc.1
  have h2 : j < 1073741824 := hc.2
  exact floordiv_int (by omega) (by rw [Int.fdiv_eq_ediv_of_nonneg i (by omega)]; exact q) (.inl (PyProof.noPylong_small (by omega)))
/-- % by a positive divisor of any size -/
theorem op_mod : OpR X (binaryOp .Mod) (rI (fun _ j => 0 < j) fun i j => .int (i % j)) := opI fun i j _ _ _ _ _ hc q => by
  have h1 : (0 : Int) < j := hc
  exact mod_int' (by omega) (by rw [Int.fmod_eq_emod_of_nonneg i (by omega)]; exact q)
theorem op_pow : OpR X (binaryOp .Pow) (rI CPow fun i j => .int (i ^ j.toNat)) := opI fun _ _ _ _ _ _ _ hc q => pow_int_small hc.1 hc.2.1 hc.2.2 q
theorem unI {f : Value → Sem Value} {g : Int → Int}
    (rule : ∀ (i : Int) (t : Tok) (s : Shared) (Q : Value → Shared → Prop) (E : Value → Shared → Prop), Q (.int (g i) s.toks) { s with toks := s.toks + 1 } → wpAny (model X.prog X.w) X.A (f (.int i t)) Q E s) :
    UnR X f (rU fun i => .int (g i)) := by
  intro pins s σ H x v Q I rx h
  obtain ⟨i, rfl, q⟩ := h
  obtain ⟨t, rfl⟩ := rx
  exact rule i t s _ _ ⟨.int (g i), H, I.tok _, ⟨_, rfl⟩, q⟩
theorem un_neg : UnR X (unaryOp .USub) (rU fun i => .int (-i)) := unI fun _ _ _ _ _ q => neg_int q
/-! ### bools among ints: n += (a < b) -/
end

/-! ### comparisons -/
/-- the scalars that == tells apart as data does -/
def scal : V → V → Bool
  | .non, .non => true | .non, .int _ => true | .int _, .non => true | .non, .bl _ => true | .bl _, .non => true | .non, .str _ => true | .str _, .non => true
  | .int _, .int _ => true | .bl _, .bl _ => true | .str _, .str _ => true | .byt _, .byt _ => true
  | .int _, .str _ => true | .str _, .int _ => true | .bl _, .str _ => true | .str _, .bl _ => true
  | _, _ => false
def rEq : R2 := fun x y H Q => scal x y = true ∧ Q (.bl (decide (x = y))) H
def rNe : R2 := fun x y H Q => scal x y = true ∧ Q (.bl (!decide (x = y))) H

theorem dec_int {i j : Int} : decide (V.int i = V.int j) = (i == j) := by
  rw [Bool.eq_iff_iff]
  simp
theorem dec_bl {i j : Bool} : decide (V.bl i = V.bl j) = (i == j) := by
  rw [Bool.eq_iff_iff]
  simp
theorem dec_str {i j : Str} : decide (V.str i = V.str j) = (i == j) := by
  rw [Bool.eq_iff_iff]
  simp
theorem dec_byt {i j : Array UInt8} : decide (V.byt i = V.byt j) = (i.toList == j.toList) := by
  rw [Bool.eq_iff_iff]
  cases i
  cases j
  simp

section
variable {X : Cx} {a b c : Expr} {ta tb tc : TE} {pos : Pos}
theorem fin_bl {pins : List (Addr × Obj)} {σ : St} {H : Hp} {s : Shared} {Q : VK} {k k' : Bool} (I : Inv X pins σ H s) (q : Q (.bl k) H) (e : k = k') : EP X pins σ Q (.bool k') s := by
  subst e
  exact ⟨.bl k, H, I, rfl, q⟩
theorem op_eq : OpR X (compareOp .Eq) rEq := by
  intro pins s σ H x y v u Q I rx ry h
  obtain ⟨hs, q⟩ := h
  cases x with
  | non =>
    cases rx
    cases y with
    | non => cases ry; exact PySem.EqNone.eq_none_none (fin_bl I q (by simp))
    | bl j => cases ry; exact PySem.EqNone.eq_none_bool (fin_bl I q (by simp))
    | int j => obtain ⟨t', rfl⟩ := ry; exact PySem.EqNone.eq_none_int (fin_bl I q (by simp))
    | str j => obtain ⟨t', rfl⟩ := ry; exact PySem.EqNone.eq_none_str (fin_bl I q (by simp))
    | _ => exact absurd (show false = true from hs) Bool.false_ne_true
  | bl i =>
    cases rx
    cases y with
    | non => cases ry; exact PySem.EqNone.eq_bool_none (fin_bl I q (by simp))
    | bl j => cases ry; exact eq_bool (fin_bl I q dec_bl)
    | str j => obtain ⟨t', rfl⟩ := ry; exact PySem.EqMixed.eq_bool_str (fin_bl I q (by simp))
    | _ => exact absurd (show false = true from hs) Bool.false_ne_true
  | int i =>
    obtain ⟨t, rfl⟩ := rx
    cases y with
    | non => cases ry; exact PySem.EqNone.eq_int_none (fin_bl I q (by simp))
    | int j => obtain ⟨t', rfl⟩ := ry; exact eq_int (fin_bl I q dec_int)
    | str j => obtain ⟨t', rfl⟩ := ry; exact PySem.EqMixed.eq_int_str (fin_bl I q (by simp))
    | _ => exact absurd (show false = true from hs) Bool.false_ne_true
  | str i =>
    obtain ⟨t, rfl⟩ := rx
    cases y with
    | non => cases ry; exact PySem.EqNone.eq_str_none (fin_bl I q (by simp))
    | bl j => cases ry; exact PySem.EqMixed.eq_str_bool (fin_bl I q (by simp))
    | int j => obtain ⟨t', rfl⟩ := ry; exact PySem.EqMixed.eq_str_int (fin_bl I q (by simp))
    | str j => obtain ⟨t', rfl⟩ := ry; exact eq_str (fin_bl I q dec_str)
    | _ => exact absurd (show false = true from hs) Bool.false_ne_true
  | byt i =>
    obtain ⟨t, rfl⟩ := rx
    cases y with
    | byt j => obtain ⟨t', rfl⟩ := ry; exact PySem.W.eq_bytes (fin_bl I q dec_byt)
    | _ => exact absurd (show false = true from hs) Bool.false_ne_true
  | _ => cases y <;> exact absurd (show false = true from hs) Bool.false_ne_true
theorem op_ne : OpR X (compareOp .NotEq) rNe := by
  intro pins s σ H x y v u Q I rx ry h
  obtain ⟨hs, q⟩ := h
  cases x with
  | non =>
    cases rx
    cases y with
    | non => cases ry; exact PySem.EqNone.ne_none_none (fin_bl I q (by simp))
    | bl j => cases ry; exact PySem.EqNone.ne_none_bool (fin_bl I q (by simp))
    | int j => obtain ⟨t', rfl⟩ := ry; exact PySem.EqNone.ne_none_int (fin_bl I q (by simp))
    | str j => obtain ⟨t', rfl⟩ := ry; exact PySem.EqNone.ne_none_str (fin_bl I q (by simp))
    | _ => exact absurd (show false = true from hs) Bool.false_ne_true
  | bl i =>
    cases rx
    cases y with
    | non => cases ry; exact PySem.EqNone.ne_bool_none (fin_bl I q (by simp))
    | bl j => cases ry; exact ne_bool (fin_bl I q (congrArg not dec_bl))
    | str j => obtain ⟨t', rfl⟩ := ry; exact PySem.EqMixed.ne_bool_str (fin_bl I q (by simp))
    | _ => exact absurd (show false = true from hs) Bool.false_ne_true
  | int i =>
    obtain ⟨t, rfl⟩ := rx
    cases y with
    | non => cases ry; exact PySem.EqNone.ne_int_none (fin_bl I q (by simp))
    | int j => obtain ⟨t', rfl⟩ := ry; exact ne_int (fin_bl I q (congrArg not dec_int))
    | str j => obtain ⟨t', rfl⟩ := ry; exact PySem.EqMixed.ne_int_str (fin_bl I q (by simp))
    | _ => exact absurd (show false = true from hs) Bool.false_ne_true
  | str i =>
    obtain ⟨t, rfl⟩ := rx
    cases y with
    | non => cases ry; exact PySem.EqNone.ne_str_none (fin_bl I q (by simp))
    | bl j => cases ry; exact PySem.EqMixed.ne_str_bool (fin_bl I q (by simp))
    | int j => obtain ⟨t', rfl⟩ := ry; exact PySem.EqMixed.ne_str_int (fin_bl I q (by simp))
    | str j => obtain ⟨t', rfl⟩ := ry; exact ne_str (fin_bl I q (congrArg not dec_str))
    | _ => exact absurd (show false = true from hs) Bool.false_ne_true
  | byt i =>
    obtain ⟨t, rfl⟩ := rx
    cases y with
    | byt j => obtain ⟨t', rfl⟩ := ry; exact PySem.W.ne_bytes (fin_bl I q (congrArg not dec_byt))
    | _ => exact absurd (show false = true from hs) Bool.false_ne_true
  | _ => cases y <;> exact absurd (show false = true from hs) Bool.false_ne_true

theorem op_le : OpR X (compareOp .LtE) (rI0 fun i j => .bl (decide (i ≤ j))) := opB0 fun _ _ _ _ _ _ _ q => le_int q
theorem op_gt : OpR X (compareOp .Gt) (rI0 fun i j => .bl (decide (j < i))) := opB0 fun _ _ _ _ _ _ _ q => gt_int q
theorem op_ge : OpR X (compareOp .GtE) (rI0 fun i j => .bl (decide (j ≤ i))) := opB0 fun _ _ _ _ _ _ _ q => ge_int q
/-- the one string within the other -/
theorem op_in_str : OpR X (compareOp .In) (fun x y H Q => ∃ i j, x = .str i ∧ y = .str j ∧ Q (.bl (!(Builtin.Str.occurrences j i 0 j.length 1).isEmpty)) H) := by
  intro pins s σ H x y v u Q I rx ry h
  obtain ⟨i, j, rfl, rfl, q⟩ := h
  obtain ⟨t, rfl⟩ := rx
  obtain ⟨t', rfl⟩ := ry
  exact in_str (fin_bl I q rfl)

/-- is None, is not None: the right side a value none -/
theorem op_isN : OpR X (compareOp .Is) (fun x y H Q => y = .non ∧ Q (.bl (decide (x = .non))) H) := by
  intro pins s σ H x y v u Q I rx ry h
  obtain ⟨rfl, q⟩ := h
  cases ry
  refine is_none_gen (fin_bl I q ?_)
  cases x <;> first
    | (cases rx; rfl)
    | (obtain ⟨t, rfl⟩ := rx; rfl)
/-- two rules for one operation: by cases -/
theorem OpR.or {f : Value → Value → Sem Value} {r r' : R2} (h : OpR X f r) (h' : OpR X f r') : OpR X f (fun x y H Q => r x y H Q ∨ r' x y H Q) := by
  intro pins s σ H x y v u Q I rx ry q
  rcases q with q | q
  · exact h pins s σ H x y v u Q I rx ry q
  · exact h' pins s σ H x y v u Q I rx ry q

theorem nomark (b : Expr) {op : CmpOp} (h : op ≠ .In := by decide) (h2 : op ≠ .NotIn := by decide) : behindInMarks op b = false := by
  have e1 : (op == CmpOp.In) = false := by cases op <;> first | rfl | exact absurd rfl h
  have e2 : (op == CmpOp.NotIn) = false := by cases op <;> first | rfl | exact absurd rfl h2
  cases b <;> simp [behindInMarks, e1, e2]
/-- a comparison as a value; hm: nomark b, or (for in, not in) by with_unfolding_all rfl -/
theorem pe_cmpR {op : CmpOp} {r : R2} (ho : OpR X (compareOp op) r) (ha : PE X a ta) (hb : PE X b tb) (hm : behindInMarks op b = false) : PE X (.Compare a [op] [b] pos) (tOp r ta tb) := by
  intro pins s σ H Q I h
  exact wpAny_Compare1 (binT ha hb I h fun v u s2 x y H2 I2 rx ry q => ho pins s2 σ H2 x y v u Q I2 rx ry q) hm
/-- a reading of a value as a test -/
def tTest (t : TE) : TT := fun σ H Q => t σ H fun x H' => ∃ k, x = .bl k ∧ Q k H'
theorem pt_cmpR {op : CmpOp} {r : R2} (ho : OpR X (compareOp op) r) (ha : PE X a ta) (hb : PE X b tb) (hm : behindInMarks op b = false) : PT X (.Compare a [op] [b] pos) (tTest (tOp r ta tb)) := by
  intro pins s σ H Q I h
  refine wpAny_isTrue_Compare1 (thn (ha pins s σ H _ I h) fun v s1 ⟨x, H1, I1, r1, q1⟩ => thn (hb pins s1 σ H1 _ I1 q1) fun u s2 ⟨y, H2, I2, r2, q2⟩ =>
    thn (ho pins s2 σ H2 x y v u _ I2 r1 r2 q2) fun c s3 ⟨z, H3, I3, r3, k, e, q3⟩ => ?_) hm
  subst e
  cases r3
  exact wpAny_truthy_bool ⟨H3, I3, q3⟩
/-- a op1 b op2 c -/
def tChain (r r' : R2) (ta tb tc : TE) : TE := fun σ H Q => ta σ H fun x H1 => tb σ H1 fun y H2 => r x y H2 fun z H3 => ∃ k, z = .bl k ∧
  (if k = true then tc σ H3 fun w' H4 => r' y w' H4 Q else Q (.bl false) H3)
theorem pe_chain {op op' : CmpOp} {r r' : R2} (ho : OpR X (compareOp op) r) (ho' : OpR X (compareOp op') r') (ha : PE X a ta) (hb : PE X b tb) (hc : PE X c tc)
    (hm : lastMarks [op, op'] [b, c] = false := by with_unfolding_all rfl) : PE X (.Compare a [op, op'] [b, c] pos) (tChain r r' ta tb tc) := by
  intro pins s σ H Q I h
  refine Compare_chain (thn (ha pins s σ H _ I h) fun v s1 ⟨x, H1, I1, r1, q1⟩ => chain_link (thn (hb pins s1 σ H1 _ I1 q1) fun u s2 ⟨y, H2, I2, r2, q2⟩ =>
    thn (ho pins s2 σ H2 x y v u _ I2 r1 r2 q2) fun d s3 ⟨z, H3, I3, r3, k, e, q3⟩ => ?_)) hm
  subst e
  cases r3
  refine wpAny_truthy_bool ?_
  cases k with
  | false => exact ite_ff ⟨.bl false, H3, I3, rfl, q3⟩
  | true => exact ite_tt (chain_last (thn (hc pins s3 σ H3 _ I3 q3) fun w' s4 ⟨z', H4, I4, r4, q4⟩ => ho' pins s4 σ H4 y z' u w' Q I4 r2 r4 q4))
/-! ### truth -/
/-- a value's truth by the abstract heap -/
def TruV (K : PySem.W.Frag) (x : V) (H : Hp) (k : Bool) : Prop :=
  match x with
  | .non => k = false
  | .bl b => k = b
  | .int i => k = (i != 0)
  | .str y => y.length ≤ sizeLine ∧ k = ((y.length : Int) != 0)
  | .byt y => y.size ≤ sizeLine ∧ k = ((y.size : Int) != 0)
  | .ref p => (∃ xs, SqL K H p xs ∧ k = !xs.isEmpty) ∨ (∃ xs, SqT K H p xs ∧ k = !xs.isEmpty) ∨ ∃ kvs, H p = some (.dK kvs) ∧ k = !kvs.isEmpty
  | _ => False
theorem isEmpty_kv {κ : Type} {kvs : List (κ × V)} {vs : List (κ × Value)} (r : KV kvs vs) : (!vs.isEmpty) = !kvs.isEmpty := by
  cases r <;> rfl
theorem isEmpty_of {xs : List V} {its : List Value} (r : Vals xs its) : (!its.toArray.isEmpty) = !xs.isEmpty := by
  cases r <;> simp
theorem line63 : (sizeLine : Nat) < 2 ^ 63 := by rw [sizeLine_eq]; decide
theorem tru_ok : TruR X (fun x H Q => ∃ k, TruV X.K x H k ∧ Q k H) := by
  intro pins s σ H x v Q I rx h
  obtain ⟨k, e, q⟩ := h
  have hl := line63
  have hs : sizeLine = 16777216 := sizeLine_eq
  cases x with
  | non =>
    cases rx
    have e' : k = false := e
    subst e'
    exact truthy_none ⟨H, I, q⟩
  | bl b =>
    cases rx
    have e' : k = b := e
    subst e'
    exact wpAny_truthy_bool ⟨H, I, q⟩
  | int i =>
    obtain ⟨t, rfl⟩ := rx
    have e' : k = (i != 0) := e
    subst e'
    exact PySem.P.truthy_int ⟨H, I, q⟩
  | str y =>
    obtain ⟨t, rfl⟩ := rx
    obtain ⟨hy, e'⟩ : y.length ≤ sizeLine ∧ k = ((y.length : Int) != 0) := e
    subst e'
    exact PySem.P.truthy_str (by omega) ⟨H, I.tok _, q⟩
  | byt y =>
    obtain ⟨t, rfl⟩ := rx
    obtain ⟨hy, e'⟩ : y.size ≤ sizeLine ∧ k = ((y.size : Int) != 0) := e
    subst e'
    exact PySem.W.truthy_bytes (by omega) ⟨H, I.tok _, q⟩
  | ref p =>
    cases rx
    have e' : (∃ xs, SqL X.K H p xs ∧ k = !xs.isEmpty) ∨ (∃ xs, SqT X.K H p xs ∧ k = !xs.isEmpty) ∨ ∃ kvs, H p = some (.dK kvs) ∧ k = !kvs.isEmpty := e
    rcases e' with ⟨xs, hx, e'⟩ | ⟨xs, hx, e'⟩ | ⟨kvs, hx, e'⟩
    · subst e'
      obtain ⟨its, r, pl, hz⟩ := I.list hx
      have hlen := r.length
      exact wpAny_truthy_list pl.isList (by simp only [List.size_toArray]; omega) ⟨H, I.tok _, by rw [isEmpty_of r]; exact q⟩
    · subst e'
      obtain ⟨its, r, pl, hz⟩ := I.tuple hx
      have hlen := r.length
      exact truthy_tuple pl (by simp only [List.size_toArray]; omega) ⟨H, I.tok _, by rw [isEmpty_of r]; exact q⟩
    · subst e'
      obtain ⟨hz, hS, vs, r, m⟩ : kvs.length ≤ sizeLine ∧ (p == sysModules) = false ∧ ∃ vs, KV kvs vs ∧ s.heap.DictOf (mixKind X.prog X.w) p vs := I.hok p _ hx
      have hlen : kvs.length = vs.length := Paired.length r
      exact wpAny_truthy_dict hS m (by omega) ⟨H, I.tok _, by rw [isEmpty_kv r]; exact q⟩
  | _ => exact (show False from e).elim
/-- any expression whose test is its value's truth (a name, a call, a subscript, a field ..: he by fun _ => rfl) -/
theorem pt_truth (ha : PE X a ta) (he : ∀ whole, isTrue a X.env whole = (do let v ← whole; standAt a.pos; holding [v] (truthy v))) :
    PT X a (fun σ H Q => ta σ H fun x H' => ∃ k, TruV X.K x H' k ∧ Q k H') := by
  intro pins s σ H Q I h
  exact isTrue_plain (thn (ha pins s σ H _ I h) fun v s1 ⟨x, H1, I1, r1, q1⟩ => tru_ok pins s1 σ H1 x v Q I1 r1 q1) (he _)

/-! ### strs and bytes -/
theorem op_add_str : OpR X (binaryOp .Add) (fun x y H Q => ∃ i j, x = .str i ∧ y = .str j ∧ i.length + j.length ≤ sizeLine ∧ Q (.str (i ++ j)) H) := by
  intro pins s σ H x y v u Q I rx ry h
  obtain ⟨i, j, rfl, rfl, hz, q⟩ := h
  obtain ⟨t, rfl⟩ := rx
  obtain ⟨t', rfl⟩ := ry
  exact add_str (fun t' tk => ⟨.str (i ++ j), H, I.tok _, ⟨_, rfl⟩, q⟩) hz
/-! ### scalar builtins, by CallR -/
theorem vals1 {x : V} {us : List Value} (r : Vals [x] us) : ∃ u, us = [u] ∧ RelV x u := by
  cases r with
  | cons r1 r2 => cases r2; exact ⟨_, rfl, r1⟩
theorem vals2 {x y : V} {us : List Value} (r : Vals [x, y] us) : ∃ u w', us = [u, w'] ∧ RelV x u ∧ RelV y w' := by
  cases r with
  | cons r1 r2 =>
    cases r2 with
    | cons r3 r4 => cases r4; exact ⟨_, _, rfl, r1, r3⟩
theorem call_max2 (hc : X.calm = true) : CallR X (.builtin "max") (fun xs H Q => ∃ i j, xs = [.int i, .int j] ∧ Q (.int (if j > i then j else i)) H) := by
  intro pins s σ H xs us Q I r h
  obtain ⟨i, j, rfl, q⟩ := h
  obtain ⟨u, w', rfl, ⟨t, rfl⟩, ⟨t', rfl⟩⟩ := vals2 r
  refine max_two_ints (I.ok.hd hc) fun h' tk k => ⟨_, H, I.kept k, ?_, q⟩
  by_cases hj : j > i
  · rw [if_pos hj, if_pos hj]; exact ⟨_, rfl⟩
  · rw [if_neg hj, if_neg hj]; exact ⟨_, rfl⟩
theorem call_int1 : CallR X (.type "int") (fun xs H Q => (∃ i, xs = [.int i] ∧ Q (.int i) H) ∨ ∃ k, xs = [.bl k] ∧ Q (.int (if k then 1 else 0)) H) := by
  intro pins s σ H xs us Q I r h
  rcases h with ⟨i, rfl, q⟩ | ⟨k, rfl, q⟩
  · obtain ⟨u, rfl, t, rfl⟩ := vals1 r
    exact call_int_int ⟨.int i, H, I, ⟨_, rfl⟩, q⟩
  · obtain ⟨u, rfl, r1⟩ := vals1 r
    cases r1
    exact call_int_bool ⟨.int (if k then 1 else 0), H, I.tok _, ⟨_, rfl⟩, q⟩
end
end L2

namespace L2
open PySem PySem.Spec PyProof.Rows

/-! ### an instance, its attributes a map -/
structure ObjM (h : Heap) (x dx C : Addr) (mA : Str → Option Value) : Prop where
  obj : h.get? x = some (PySem.W.instObj C dx)
  ns : h.Ns1 dx mA
  ne : dx ≠ x

theorem lookIn_ns {h : Heap} {dx : Addr} {mA : Str → Option Value} (n : h.Ns1 dx mA) : ∃ od, h.get? dx = some od ∧ ∀ name, PySem.W.lookIn name od = some (mA name) := by
  obtain ⟨o, es, ep, ho, hd, hk, _, hm⟩ := n
  refine ⟨o, ho, fun name => ?_⟩
  have e := hm name
  unfold nsFind findBy at e
  rw [← Array.find?_toList] at e
  unfold PySem.W.lookIn
  rw [hd]
  dsimp only
  split
  · rename_i y q
    rw [q] at e
    exact congrArg some e
  · rename_i q
    rw [q] at e
    have a : es.toList.any (·.refKey) = false := by
      rw [List.any_eq_false]
      intro y hy
      obtain ⟨z, t, hkey⟩ := hk y (Array.mem_toList_iff.mp hy)
      simp [DictEntry.refKey, hkey]
    have a' : ¬ es.toList.any (·.refKey) = true := by rw [a]; exact Bool.false_ne_true
    rw [if_neg a']
    exact congrArg some e

theorem ObjM.look {h : Heap} {x dx C : Addr} {mA : Str → Option Value} (I : ObjM h x dx C mA) : ∃ od, PySem.W.InstAt h x (PySem.W.instObj C dx) C (some od) ∧ ∀ name, PySem.W.lookIn name od = some (mA name) :=
  let ⟨od, ho, hl⟩ := lookIn_ns I.ns
  ⟨od, ⟨I.obj, rfl, rfl, ho⟩, hl⟩

section
variable {prog : Program} {w : World} {A : Around} {E : Value → Shared → Prop} {s : Shared} {K : PySem.W.Frag} {x dx C f : Addr} {mA : Str → Option Value} {name : Str} {v : Value}

end

/-! ### the attributes as a list of pairs -/
section
variable {P : Program} {w : World} {H H' : Hp} {h h' : Heap} {a C dx : Addr} {fs fs' : List (Str × V)}
theorem ins_get (hok : HOk P w H h) (e : H a = some (.ins C dx fs)) : ∃ mA, ObjM h a dx C mA ∧ (∀ f, RelO (fs.lookup f) (mA f)) ∧ PySem.Within mA (fs.map (·.1)) ∧ fs.length ≤ 1000 ∧ H dx = some (.own a) := by
  obtain ⟨d, z, ne, ob, mA, n, r, q⟩ := (show ObjOk P w H h a (.ins C dx fs) from hok a _ e)
  exact ⟨mA, ⟨ob, n, ne⟩, r, q, z, d⟩
end

/-! ### what of the text a class must have -/
structure Cls (K : PySem.W.Frag) (C : Addr) : Prop where
  pg : PySem.W.plainGet K C Str.empty = true
  hd : PySem.W.hasDictIn K C = true
  po : PySem.W.plainOver K C = true
  sa : PySem.W.findIn K (.ref C) "__setattr__" = some (some (.builtin "object.__setattr__"))
theorem Cls.get {K : PySem.W.Frag} {C : Addr} (c : Cls K C) (f : Str) : PySem.W.plainGet K C f = true := c.pg
/-- a constant of the class -/
structure Con (K : PySem.W.Frag) (C : Addr) (f : Str) (v : V) (u : Value) : Prop where
  at_ : PySem.W.findIn K (.ref C) f = some (some u)
  rel : RelV v u
  get : PySem.W.specialIn K u "__get__" = some none
  cp : PySem.W.copiedNames.contains f = false
/-- a method: a plain def of the class or of one above it -/
structure Meth (K : PySem.W.Frag) (C : Addr) (m : Str) (f : Addr) : Prop where
  at_ : PySem.W.findIn K (.ref C) m = some (some (.ref f))
  fn : PySem.W.isFn K (.ref f) = true
  kp : PySem.W.keepIn K (.ref f) = true

section
variable {X : Cx} {pins : List (Addr × Obj)} {σ : St} {H : Hp} {s : Shared} {a C dx : Addr} {fs : List (Str × V)} {f : Str} {v : V} {A : Around} {E : Value → Shared → Prop}

/-- a new instance, tracked, without attributes -/
theorem Inv.made (I : Inv X pins σ H s) : Inv X pins σ (upd (upd H s.heap.objs.size (.own (s.heap.objs.size + 1))) (s.heap.objs.size + 1) (.ins C s.heap.objs.size []))
    { s with heap := (s.heap.push PySem.W.emptyDict).push (PySem.W.instObj C s.heap.objs.size) } := by
  have e1 : (s.heap.push PySem.W.emptyDict).get? s.heap.objs.size = some PySem.W.emptyDict := Heap.get?_push_size s.heap rfl
  have e2 : ((s.heap.push PySem.W.emptyDict).push (PySem.W.instObj C s.heap.objs.size)).get? (s.heap.objs.size + 1) = some (PySem.W.instObj C s.heap.objs.size) := by
    have := Heap.get?_push_size (s.heap.push PySem.W.emptyDict) (o := PySem.W.instObj C s.heap.objs.size) rfl
    rwa [Heap.size_push] at this
  have e3 : (s.heap.push PySem.W.emptyDict).Ns s.heap.objs.size (fun _ => none) := ⟨PySem.W.emptyDict, #[], _, e1, rfl, (fun e he => absurd he (by simp)), fun _ => rfl⟩
  have I1 := I.laid (a := s.heap.objs.size) (o := .own (s.heap.objs.size + 1)) (h' := s.heap.push PySem.W.emptyDict) (t' := s.toks) (fun b u q => Heap.get?_push_of_some _ q) (Nat.le_refl _) ⟨_, e1⟩
  refine I1.laid (a := s.heap.objs.size + 1) (o := .ins C s.heap.objs.size []) (t' := s.toks) (fun b u q => Heap.get?_push_of_some _ q) (Nat.le_of_eq (Heap.size_push _ _)) ?_
  have ne : s.heap.objs.size ≠ s.heap.objs.size + 1 := Nat.ne_of_lt (Nat.lt_succ_self _)
  refine ⟨by rw [upd_ne ne, upd_same], Nat.zero_le _, ne, e2, fun _ => none, (Heap.Ns1.of_empty e3).at fun o q => Heap.get?_push_of_some _ q, fun _ => True.intro, fun y hy => absurd rfl hy⟩

end

/-! ### readings and rules -/
section
variable {X : Cx} {o e value : Expr} {f : Str} {pos pos' tpos : Pos} {ta tv : TE}
end

/-! ### isinstance -/
section
variable {X : Cx} {pins : List (Addr × Obj)} {σ : St} {H : Hp} {s : Shared} {A : Around} {E : Value → Shared → Prop} {Q : Value → Shared → Prop} {c : Value} {b : Bool}
/-- the type of a value, as the fragment's deciders take it; for an instance its class -/
inductive TyOf (K : PySem.W.Frag) (H : Hp) : V → Value → Prop where
  | non : TyOf K H .non (.type "NoneType")
  | bl (x : Bool) : TyOf K H (.bl x) (.type "bool")
  | int (i : Int) : TyOf K H (.int i) (.type "int")
  | str (x : Str) : TyOf K H (.str x) (.type "str")
  | flt (x : UInt64) : TyOf K H (.flt x) (.type "float")
  | lst {a : Addr} {xs : List V} (e : H a = some (.lst xs)) : TyOf K H (.ref a) (.type "list")
  | frz {a : Addr} {o : Obj} {xs : List V} (e : H a = some (.frz o (.lst xs))) : TyOf K H (.ref a) (.type "list")
  | tup {a : Addr} {xs : List V} (e : H a = some (.tup xs)) : TyOf K H (.ref a) (.type "tuple")
  | dK {a : Addr} {kvs : List (Key × V)} (e : H a = some (.dK kvs)) : TyOf K H (.ref a) (.type "dict")
  | dT {a : Addr} {kvs : List (List Key × V)} (e : H a = some (.dT kvs)) : TyOf K H (.ref a) (.type "dict")
  | ins {a C dx : Addr} {fs : List (Str × V)} (e : H a = some (.ins C dx fs)) (cl : Cls K C) (ha : PySem.W.findIn K (.ref C) "__class__" = some (some (.builtin "object.__class__")))
      (hn : PySem.W.specialIn K (.builtin "object.__class__") "__get__" = some (some (.builtin "getset_descriptor.__get__"))) (htk : PySem.W.takesIn K (.builtin "object.__class__") = some true)
      (hm : PySem.W.mroIn K C (.type "object") = some true) : TyOf K H (.ref a) (.ref C)
/-- isinstance(x, c) for one class c, a built-in or an own one: kitOne's answer -/
theorem isinst_ok {x : V} {u t : Value} (I : Inv X pins σ H s) (rx : RelV x u) (ty : TyOf X.K H x t) (e : PySem.W.kitOne X.K t c = some b) (h : ∀ tk, Q (.bool b) { s with toks := tk }) :
    wpAny (model X.prog X.w) A (call (.builtin "isinstance") [u, c]) Q E s := by
  cases ty with
  | non => cases (show u = Value.none from rx); exact PySem.W.kia_one PySem.W.kitx_none I.kIn True.intro e (fun z => nomatch z) h
  | bl y => cases (show u = Value.bool y from rx); exact PySem.W.kia_one PySem.W.kitx_bool I.kIn True.intro e (fun z => nomatch z) h
  | int i => obtain ⟨t, q⟩ := (show ∃ t, u = Value.int i t from rx); cases q; exact PySem.W.kia_one PySem.W.kitx_int I.kIn True.intro e (fun z => nomatch z) h
  | str y => obtain ⟨t, q⟩ := (show ∃ t, u = Value.str y t from rx); cases q; exact PySem.W.kia_one PySem.W.kitx_str I.kIn True.intro e (fun z => nomatch z) h
  | flt y => obtain ⟨t, q⟩ := (show ∃ t, u = Value.float y t from rx); cases q; exact PySem.W.kia_one PySem.W.kitx_float I.kIn True.intro e (fun z => nomatch z) h
  | @lst a xs ea =>
    cases (show u = Value.ref a from rx)
    obtain ⟨_, _, n, _, h1⟩ := (show ObjOk X.prog X.w H s.heap a (.lst xs) from I.hok a _ ea)
    exact PySem.W.kia_one PySem.W.kitx_list I.kIn ⟨_, h1, rfl⟩ e (fun z => nomatch z) h
  | @frz a ob xs ea =>
    cases (show u = Value.ref a from rx)
    obtain ⟨_, _, _, n, _, h1⟩ := (show ObjOk X.prog X.w H s.heap a (.frz ob (.lst xs)) from I.hok a _ ea)
    exact PySem.W.kia_one PySem.W.kitx_list I.kIn ⟨_, h1, rfl⟩ e (fun z => nomatch z) h
  | @tup a xs ea =>
    cases (show u = Value.ref a from rx)
    obtain ⟨_, _, _, p⟩ := (show ObjOk X.prog X.w H s.heap a (.tup xs) from I.hok a _ ea)
    obtain ⟨o, h1, h2, _⟩ := p
    exact PySem.W.kia_one PySem.W.kitx_tuple I.kIn ⟨o, h1, h2⟩ e (fun z => nomatch z) h
  | @dK a kvs ea =>
    cases (show u = Value.ref a from rx)
    obtain ⟨_, _, vs, _, p⟩ := (show ObjOk X.prog X.w H s.heap a (.dK kvs) from I.hok a _ ea)
    obtain ⟨o, es, ep, h1, h2, _⟩ := p
    exact PySem.W.kia_one PySem.W.kitx_dict I.kIn ⟨o, h1, h2.1⟩ e (fun z => nomatch z) h
  | @dT a kvs ea =>
    cases (show u = Value.ref a from rx)
    obtain ⟨_, _, xs, _, o, es, ep, h1, h2, _⟩ := (show ObjOk X.prog X.w H s.heap a (.dT kvs) from I.hok a _ ea)
    exact PySem.W.kia_one PySem.W.kitx_dict I.kIn ⟨o, h1, h2.1⟩ e (fun z => nomatch z) h
  | @ins a C dx fs ea cl ha hn htk hm =>
    cases (show u = Value.ref a from rx)
    obtain ⟨mA, O, _⟩ := ins_get I.hok ea
    obtain ⟨od, J, _⟩ := O.look
    exact PySem.W.kia_one (PySem.W.kitx_own (cl.get _) cl.hd ha hn htk hm) I.kIn J e (fun z => nomatch z) h
end
end L2

namespace L2
open PySem PySem.Spec PyProof.Rows

/-! ### room -/
structure Room (k : Nat) (A : Around) : Prop where
  hd : A.handled = none
  dp : A.depth + 3 * k + 5 < recursionLimit
  un : A.units + 16 * k + 200 < cLine
  gd : A.guards = some []
theorem Room.mono {j k : Nat} {A : Around} (r : Room k A) (h : j ≤ k) : Room j A := ⟨r.hd, by have := r.dp; omega, by have := r.un; omega, by first | exact r.gd | (simpa [Around.under, Code.isGuard, guardIds] using r.gd)⟩
theorem Room.deeper {k : Nat} {A : Around} (r : Room (k + 1) A) (env : Env) : Room k (A.deeper env) :=
  ⟨r.hd, by have := r.dp; show A.depth + 1 + 3 * k + 5 < _; omega, by have := r.un; show A.units + 3 + 16 * k + 200 < _; omega, by first | exact r.gd | (simpa [Around.under, Code.isGuard, guardIds] using r.gd)⟩
theorem Room.in1 {k : Nat} {A : Around} (r : Room (k + 1) A) : Room k A.in1 :=
  ⟨r.hd, by have := r.dp; show A.depth + 3 * k + 5 < _; omega, by have := r.un; show A.units + 1 + 16 * k + 200 < _; omega, by first | exact r.gd | (simpa [Around.under, Code.isGuard, guardIds] using r.gd)⟩
theorem Room.depth {k : Nat} {A : Around} (r : Room k A) : A.depth < recursionLimit := by have := r.dp; omega
theorem Room.units {k : Nat} {A : Around} (r : Room k A) : A.units + 64 < cLine := by have := r.un; omega
theorem Room.units0 {k : Nat} {A : Around} (r : Room k A) : A.units < cLine := by have := r.un; omega

/-! ### argument lists and displays -/
def tNil : TA := fun _ H Q => Q [] H
def tCons (ta : TE) (tr : TA) : TA := fun σ H Q => ta σ H fun x H1 => tr σ H1 fun xs H2 => Q (x :: xs) H2
section
variable {X : Cx} {e : Expr} {es : List Expr} {te : TE} {t : TA} {pos : Pos}
theorem pa_nil : PA X [] tNil := fun _ _ _ _ H Q I h => Calls.spliced_nil ⟨[], H, I, .nil, h⟩
theorem pa_cons (ha : PE X e te) (hr : PA X es t) (hs : starEach (e :: es) X.env = (false, eval e X.env) :: starEach es X.env := by rfl) : PA X (e :: es) (tCons te t) := by
  intro pos pins s σ H Q I h
  rw [hs]
  show wpAny _ _ (spliced ((false, eval e X.env) :: backTo pos (starEach es X.env))) _ _ s
  refine Calls.spliced_cons (thn (ha pins s σ H _ I h) fun u s1 ⟨x, H1, I1, r1, q1⟩ => ?_)
  exact thn (hr pos pins s1 σ H1 _ I1 q1) fun us s2 ⟨xs, H2, I2, r2, q2⟩ => ⟨x :: xs, H2, I2, .cons r1 r2, q2⟩

/-- a tuple, a list of written items -/
def tTup (t : TA) : TE := fun σ H Q => t σ H fun xs H1 => xs.length ≤ sizeLine ∧ ∀ p, H1 p = none → Q (.ref p) (upd H1 p (.tup xs))
def tLst (t : TA) : TE := fun σ H Q => t σ H fun xs H1 => xs.length ≤ sizeLine ∧ ∀ p, H1 p = none → Q (.ref p) (upd H1 p (.lst xs))
theorem pe_tup {x1} (h : PA X es t) : PE X (.Tuple es x1 pos) (tTup t) := by
  intro pins s σ H Q I hq
  refine wpAny_Tuple_spliced (thn (h pos pins s σ H _ I hq) fun us s1 ⟨xs, H1, I1, r, z, q⟩ => ⟨by rw [← r.length]; exact z, ?_⟩)
  have hf : H1 s1.heap.objs.size = none := I1.hok.fresh (Nat.le_refl _)
  refine ⟨.ref s1.heap.objs.size, upd H1 s1.heap.objs.size (.tup xs), I1.laid (t' := s1.toks) (fun b u e => Heap.get?_push_of_some _ e) (Nat.le_refl _) ?_, rfl, q _ hf⟩
  exact ⟨⟨z, _, Heap.get?_push_size _ rfl, rfl⟩, us, r, ⟨_, Heap.get?_push_size _ rfl, rfl, _, rfl⟩⟩
theorem pe_lst (h : PA X es t) : PE X (.List es pos) (tLst t) := by
  intro pins s σ H Q I hq
  refine wpAny_List_spliced (thn (h pos pins s σ H _ I hq) fun us s1 ⟨xs, H1, I1, r, z, q⟩ => ⟨by rw [← r.length]; exact z, ?_⟩)
  have hf : H1 s1.heap.objs.size = none := I1.hok.fresh (Nat.le_refl _)
  refine ⟨.ref s1.heap.objs.size, upd H1 s1.heap.objs.size (.lst xs), I1.laid (t' := s1.toks) (fun b u e => Heap.get?_push_of_some _ e) (Nat.le_refl _) ?_, rfl, q _ hf⟩
  exact ⟨z, us, 0, r, Heap.get?_push_size _ rfl⟩
end

/-! ### what a def promises -/
/-- a def's promise: the bound arguments in the parameters' order, the heap, the wanted end, the wanted exception -/
abbrev Sp := List V → Hp → VK → XK → Prop
/-- how an exception lies behind a call (file 08 gives it): the callers' frames, abstract heap and state ahead of the call, the wish, the exception, the state -/
abbrev CXT := List Env → Hp → Shared → XK → Value → Shared → Prop

/-- the state at a call -/
structure Env0 (P : Program) (w : World) (K : PySem.W.Frag) (mg : Str → Option Value) (base : Heap) (A : Around) (outer : List Env) (s : Shared) (H : Hp) : Prop where
  frames : A.frames = some outer
  mod : Mod K mg base
  bs : ∀ b o, base.get? b = some o → s.heap.get? b = some o ∧ H b = none
  bsz : base.objs.size ≤ s.heap.objs.size
  funs : s.heap.FunFrames base outer
  frf : ∀ b ∈ frs outer, H b = none
  hok : HOk P w H s.heap
  bare : AllBare s.gens
/-- a call's end -/
def CE (outer : List Env) (P : Program) (w : World) (H : Hp) (s : Shared) (Q : VK) (u : Value) (s' : Shared) : Prop :=
  ∃ v H', s'.os = s.os ∧ AllBare s'.gens ∧ Un (frs outer) [] H H' s.heap s'.heap ∧ HOk P w H' s'.heap ∧ RelV v u ∧ Q v H'
def CR (CX : CXT) (outer : List Env) (P : Program) (w : World) (H : Hp) (s : Shared) (Q : VK) (E : XK) (r : Result) (s' : Shared) : Prop :=
  match r with
  | .ok (.ret u) => CE outer P w H s Q u s'
  | .ok _ => False
  | .error e => CX outer H s E e s'
structure FnOk (P : Program) (w : World) (K : PySem.W.Frag) (mg : Str → Option Value) (base : Heap) (CX : CXT) (k : Nat) (f : Addr) (fd : FuncData) (ps : List Str) (sp : Sp) : Prop where
  len : ∀ vs H Q E, sp vs H Q E → vs.length = ps.length
  run : ∀ (A : Around) (outer : List Env) (s : Shared) (H : Hp) (args : Args) (us : List Value) (vs : List V) (Q : VK) (E : XK), Room k A → Env0 P w K mg base A outer s H → BindsTo s fd args (ps.zip us) → Vals vs us → sp vs H Q E →
    codeAny (model P w) A (.call (.ref f) args) (CR CX outer P w H s Q E) s
theorem FnOk.mono {P : Program} {w : World} {K : PySem.W.Frag} {mg : Str → Option Value} {base : Heap} {CX : CXT} {j k : Nat} {f : Addr} {fd : FuncData} {ps : List Str} {sp : Sp} (F : FnOk P w K mg base CX j f fd ps sp) (h : j ≤ k) :
    FnOk P w K mg base CX k f fd ps sp := ⟨F.len, fun A outer s H args us vs Q E hr => F.run A outer s H args us vs Q E (hr.mono h)⟩
/-- a weaker promise -/
theorem FnOk.imp {P : Program} {w : World} {K : PySem.W.Frag} {mg : Str → Option Value} {base : Heap} {CX : CXT} {k : Nat} {f : Addr} {fd : FuncData} {ps : List Str} {sp sp' : Sp} (F : FnOk P w K mg base CX k f fd ps sp)
    (h : ∀ vs H Q E, sp' vs H Q E → sp vs H Q E) : FnOk P w K mg base CX k f fd ps sp' :=
  ⟨fun vs H Q E q => F.len vs H Q E (h _ _ _ _ q), fun A outer s H args us vs Q E hr he hb hv hs => F.run A outer s H args us vs Q E hr he hb hv (h _ _ _ _ hs)⟩

theorem Env0.in1 {P : Program} {w : World} {K : PySem.W.Frag} {mg : Str → Option Value} {base : Heap} {A : Around} {outer : List Env} {s : Shared} {H : Hp} (e : Env0 P w K mg base A outer s H) :
    Env0 P w K mg base A.in1 outer s H := ⟨e.frames, e.mod, e.bs, e.bsz, e.funs, e.frf, e.hok, e.bare⟩

section
variable {X : Cx} {pins : List (Addr × Obj)} {σ : St} {H : Hp} {s s' : Shared}
/-- from a body: what a callee wants -/
theorem Inv.env0 (I : Inv X pins σ H s) : Env0 X.prog X.w X.K X.mg X.base X.A X.stack s H :=
  ⟨I.ok.frames, I.ok.mod, I.bs, Nat.le_trans I.ok.bsz I.sz, I.stack, I.stkFree, I.hok, I.bare⟩
/-- behind a call -/
theorem Inv.after {Q : VK} {u : Value} (I : Inv X pins σ H s) (h : CE X.stack X.prog X.w H s Q u s') : EP X pins σ Q u s' := by
  obtain ⟨v, H', os, bare, un, hok, r, q⟩ := h
  obtain ⟨hh, g, d, t, os'⟩ := s'
  obtain rfl : os' = s.os := os
  exact ⟨v, H', I.call (h' := hh) (g' := g) (d' := d) (t' := t) (ch := []) un hok bare (fun b z => absurd z (by simp)), r, q⟩
end

/-! ### calls -/
/-- f(..): the written arguments, then the defaults dvs; E: what is wanted of an exception -/
def tCall (sp : Sp) (dvs : List V) (E : XK) (t : TA) : TE := fun σ H Q => t σ H fun vs H1 => sp (vs ++ dvs) H1 Q E
/-- how the parameters are bound: us the positional arguments, kw the keywords' values by name, ds the defaults that fill up -/
def Binds (K : PySem.W.Frag) (fd : FuncData) (ps : List Str) (ds : List Value) : Prop :=
  ∀ (s : Shared) (us : List Value), K.In s.heap → (us ++ ds).length = ps.length → BindsTo s fd ⟨us, []⟩ (ps.zip (us ++ ds))
/-- every parameter is given -/
theorem Binds.all {K : PySem.W.Frag} {fd : FuncData} {ps : List Str} (h : ∀ us : List Value, us.length = ps.length → bindArgs fd ⟨us, []⟩ = pure (ps.zip us)) : Binds K fd ps [] := fun s us _ hl => by
  rw [List.append_nil] at hl ⊢
  exact .of_eq (h us hl)

/-- an exception of a callee reaches what this body wants of exceptions -/
def Passes (CX : CXT) (X : Cx) (E : XK) : Prop := ∀ (pins : List (Addr × Obj)) (σ : St) (H : Hp) (s : Shared) (e : Value) (s' : Shared), Inv X pins σ H s → CX X.stack H s E e s' → X.xe e s'

section
variable {X : Cx} {CX : CXT} {k : Nat} {f C : Addr} {fd : FuncData} {ps : List Str} {sp : Sp} {dvs : List V} {ds : List Value} {E : XK} {x m : Str} {p pos apos : Pos} {e o : Expr} {es : List Expr} {ta : TE} {t : TA}

/-- the callee runs -/
theorem run_fn {pins : List (Addr × Obj)} {σ : St} {H : Hp} {s : Shared} {Q : VK} {us : List Value} {vs : List V} (F : FnOk X.prog X.w X.K X.mg X.base CX k f fd ps sp) (hr : Room k X.A) (hb : Binds X.K fd ps ds) (hd : Vals dvs ds) (hx : Passes CX X E)
    (I : Inv X pins σ H s) (r : Vals vs us) (h : sp (vs ++ dvs) H Q E) : wpAny (model X.prog X.w) X.A (call (.ref f) us) (EP X pins σ Q) X.xe s := by
  have r2 : Vals (vs ++ dvs) (us ++ ds) := r.append hd
  have hl : (us ++ ds).length = ps.length := by rw [← r2.length]; exact F.len _ _ _ _ h
  refine wpAny_call (codeAny_mono (F.run X.A X.stack s H ⟨us, []⟩ (us ++ ds) (vs ++ dvs) Q E hr I.env0 (hb s us I.kIn hl) r2 h) fun r s' hq => ?_)
  cases r with
  | error e => exact hx pins σ H s e s' I hq
  | ok fl =>
    cases fl with
    | ret u => exact I.after hq
    | next => exact False.elim hq
    | brk => exact False.elim hq
    | cont => exact False.elim hq

theorem pe_call (F : FnOk X.prog X.w X.K X.mg X.base CX k f fd ps sp) (hr : Room k X.A) (hg : Gl X x) (hm : X.mg x = some (.ref f)) (hk : PySem.W.keepIn X.K (.ref f) = true) (hb : Binds X.K fd ps ds) (hd : Vals dvs ds) (hx : Passes CX X E)
    (ha : PA X (e :: es) t) (hdb : (x == ("__debug__" : Str)) = false := by decide) (he : starEach (e :: es) X.env = (false, eval e X.env) :: starEach es X.env := by rfl) (hpl : (backTo pos (starEach es X.env)).any (·.1) = false := by rfl) :
    PE X (.Call (.Name x p) (e :: es) [] pos) (tCall sp dvs E t) := by
  intro pins s σ H Q I h
  refine wpAny_Call_Name_kw (ld_glob I hg hm ?_ hdb)
  refine PySem.W.callWith_K (h₀ := X.base) I.ok.mod.kin hk (thn (ha pos pins s σ H _ I h) fun us s1 ⟨vs, H1, I1, r, q⟩ => ⟨I1.kIn, ?_⟩) he hpl
  exact run_fn F hr hb hd hx I1 r q
/-- what a class must have to be made -/
structure Mk (K : PySem.W.Frag) (C f : Addr) : Prop where
  makes : PySem.W.makesIn K C = true
  init : PySem.W.findIn K (.ref C) "__init__" = some (some (.ref f))
  fn : PySem.W.isFn K (.ref f) = true
  kp : PySem.W.keepIn K (.ref C) = true

end

/-! ### keywords -/
section
variable {X : Cx} {CX : CXT} {k : Nat} {f C : Addr} {fd : FuncData} {ps ks : List Str} {sp : Sp} {E : XK} {x m : Str} {p pos apos kpos : Pos} {e o : Expr} {es : List Expr} {kws : List Keyword} {te ta : TE} {t tk : TA} {nm : Option Str}
/-- how a call with keywords binds: g puts the positional values us and the keywords' values ws (names ks) in the parameters' order, defaults among them -/
structure KBinds (K : PySem.W.Frag) (fd : FuncData) (ps ks : List Str) (g : List Value → List Value → List Value) (gV : List V → List V → List V) : Prop where
  to : ∀ (s : Shared) (us ws : List Value), K.In s.heap → (g us ws).length = ps.length → BindsTo s fd ⟨us, ks.zip ws⟩ (ps.zip (g us ws))
  rel : ∀ {vs : List V} {us : List Value} {zs : List V} {ws : List Value}, Vals vs us → Vals zs ws → Vals (gV vs zs) (g us ws)
variable {g : List Value → List Value → List Value} {gV : List V → List V → List V}
end

/-! ### a def's body keeps its promise -/
/-- names: the parameters first -/
structure FnScope (N P : List Str) (sc : Scope) : Prop where
  kind : sc.kind = .function
  co : sc.isCoroutine = false
  gen : sc.isGenerator = false
  nd : N.Nodup
  pre : N.take P.length = P
  par : ∀ x ∈ P, sc.names.lookup x = some .local ∨ sc.names.lookup x = some .cell
  nofree : ∀ y ∈ sc.names, y.2 ≠ .free

theorem bindL_out {kindOf : Str → Option NameKind} {x : Str} : ∀ {binds : List (Str × Value)} {m : Str → Option Value}, (∀ v, (x, v) ∉ binds) → bindL kindOf binds m x = m x
  | [], _, _ => rfl
  | (n, v) :: r, m, h => by
    unfold bindL
    rw [bindL_out fun w hw => h w (List.mem_cons_of_mem _ hw)]
    split
    · have : x ≠ n := by rintro rfl; exact h v List.mem_cons_self
      simp [this]
    · rfl
theorem bindC_out {kindOf : Str → Option NameKind} {x : Str} : ∀ {binds : List (Str × Value)} {m : Str → Option Value}, (∀ v, (x, v) ∉ binds) → bindC kindOf binds m x = m x
  | [], _, _ => rfl
  | (n, v) :: r, m, h => by
    unfold bindC
    rw [bindC_out fun w hw => h w (List.mem_cons_of_mem _ hw)]
    split
    · rfl
    · have : x ≠ n := by rintro rfl; exact h v List.mem_cons_self
      simp [this]
theorem bindL_get {kindOf : Str → Option NameKind} {x : Str} {v : Value} : ∀ {P : List Str} {vs : List Value} {i : Nat} {m : Str → Option Value}, P.Nodup → P[i]? = some x → vs[i]? = some v → kindOf x = some .local →
    bindL kindOf (P.zip vs) m x = some v
  | [], _, _, _, _, h, _, _ => by simp at h
  | _ :: _, [], _, _, _, _, h, _ => by simp at h
  | p :: P, w :: vs, 0, m, nd, h1, h2, hk => by
    simp at h1 h2; subst h1; subst h2
    show bindL kindOf ((p, w) :: P.zip vs) m p = _
    unfold bindL
    rw [bindL_out fun v hv => (List.nodup_cons.mp nd).1 (List.of_mem_zip hv).1, if_pos hk]
    simp
  | p :: P, w :: vs, i + 1, m, nd, h1, h2, hk => by
    show bindL kindOf ((p, w) :: P.zip vs) m x = _
    unfold bindL
    exact bindL_get (i := i) (List.nodup_cons.mp nd).2 (by simpa using h1) (by simpa using h2) hk
theorem bindC_get {kindOf : Str → Option NameKind} {x : Str} {v : Value} : ∀ {P : List Str} {vs : List Value} {i : Nat} {m : Str → Option Value}, P.Nodup → P[i]? = some x → vs[i]? = some v → kindOf x ≠ some .local →
    bindC kindOf (P.zip vs) m x = some v
  | [], _, _, _, _, h, _, _ => by simp at h
  | _ :: _, [], _, _, _, _, h, _ => by simp at h
  | p :: P, w :: vs, 0, m, nd, h1, h2, hk => by
    simp at h1 h2; subst h1; subst h2
    show bindC kindOf ((p, w) :: P.zip vs) m p = _
    unfold bindC
    rw [bindC_out fun v hv => (List.nodup_cons.mp nd).1 (List.of_mem_zip hv).1, if_neg hk]
    simp
  | p :: P, w :: vs, i + 1, m, nd, h1, h2, hk => by
    show bindC kindOf ((p, w) :: P.zip vs) m x = _
    unfold bindC
    exact bindC_get (i := i) (List.nodup_cons.mp nd).2 (by simpa using h1) (by simpa using h2) hk

/-- the names' values at the entry -/
def start (N : List Str) (vs : List V) : St := vs.map some ++ List.replicate (N.length - vs.length) none

/-- the context of a def's body, at its entry; an exception leaves the frame, then lies as CX says -/
def cxOf (CX : CXT) (P : Program) (w : World) (K : PySem.W.Frag) (mg : Str → Option Value) (base : Heap) (N : List Str) (qual : Str) (scope : Scope) (f : Addr) (cd : Value) (A : Around) (outer : List Env) (s : Shared) (H : Hp) (E : XK) : Cx where
  prog := P
  w := w
  K := K
  mg := mg
  base := base
  A := A.deeper (envOfC qual scope s.heap.objs.size f cd)
  N := N
  s₀ := s
  H₀ := H
  env := envOfC qual scope s.heap.objs.size f cd
  outer := outer
  stack := envOfC qual scope s.heap.objs.size f cd :: outer
  ex := []
  calm := true
  fn := fun _ => true
  pn := []
  xe := fun e s' => wpAny (model P w) (A.deeper (envOfC qual scope s.heap.objs.size f cd)) (leaving (envOfC qual scope s.heap.objs.size f cd) e) (fun _ s'' => CX outer H s E e s'') (fun e' s'' => CX outer H s E e' s'') s'

theorem cell_has {sc : Scope} {n : Nat} {x : Str} (h : sc.names.lookup x = some .cell) : ∃ c, (cellsFrom n sc.names []).lookup x = some c := by
  have q := PySem.W.cellsFrom_some sc.names n [] (.inl h)
  exact Option.isSome_iff_exists.mp q

theorem inv_start {CX : CXT} {P : Program} {w : World} {K : PySem.W.Frag} {mg : Str → Option Value} {base : Heap} {N ps : List Str} {qual : Str} {scope : Scope} {f : Addr} {cd : Value} {A : Around} {outer : List Env} {s s1 : Shared} {H : Hp} {E : XK} {us : List Value} {vs : List V}
    (S : FnScope N ps scope) (hd : A.handled = none) (e0 : Env0 P w K mg base A outer s H) (hl : vs.length = ps.length) (r : Vals vs us)
    (x : InCallC s s.heap.objs.size (bindL (envOfC qual scope s.heap.objs.size f cd).kindOf (ps.zip us) fun _ => none) (cellsFrom (s.heap.objs.size + 1) scope.names []) (bindC (envOfC qual scope s.heap.objs.size f cd).kindOf (ps.zip us) fun _ => none) s1) :
    Inv (cxOf CX P w K mg base N qual scope f cd A outer s H E) [] (start N vs) H s1 := by
  have hpl : ps.length ≤ N.length := by have := congrArg List.length S.pre; rw [List.length_take] at this; omega
  obtain ⟨h1, tk, rfl, hk⟩ := x.done
  have noA : ∀ b : Addr, b ∉ (cxOf CX P w K mg base N qual scope f cd A outer s H E).ex := fun b z => absurd (show b ∈ ([] : List Addr) from z) (by simp)
  refine ⟨⟨e0.mod, S.kind, rfl, rfl, Nat.le_refl _, fun y z c h1 h2 => ?_, fun y hy => ?_, fun y c _ h => ?_, fun _ => hd, Around.frames_deeper e0.frames, .inr ⟨rfl, rfl⟩, fun b z => absurd z (noA b), e0.bs, e0.bsz, fun b _ _ => noA b, fun b z => absurd z (noA b), e0.funs, e0.frf⟩,
    rfl, e0.bare, Un.kept hk, ⟨_, x.toInCall.ns, fun i y v h1 h2 h3 => ?_⟩, fun y c h => ⟨_, x.cell y c h⟩, e0.hok.fresh (Nat.le_refl _), fun y c h => ?_, fun p hp => absurd (show p ∈ ([] : List (Addr × Obj)) from hp) (by simp), e0.hok.kept hk, ?_⟩
  · exact name_of_addr x.apart (PySem.mem_of_lookup h1) (PySem.mem_of_lookup h2)
  · have hy : scope.names.lookup y = some .cell ∨ scope.names.lookup y = some .free := hy
    rcases hy with hy | hy
    · exact cell_has hy
    · exact absurd rfl (S.nofree _ (PySem.mem_of_lookup hy))
  · exact Nat.le_of_lt (x.above y c (PySem.mem_of_lookup h))
  · have hi : i < vs.length := by
      unfold start at h2
      by_cases hi : i < vs.length
      · exact hi
      · rw [List.getElem?_append_right (by simpa using hi)] at h2
        rw [List.getElem?_replicate] at h2
        split at h2 <;> cases h2
    have ha : vs[i]? = some v := by
      unfold start at h2
      rw [List.getElem?_append_left (by simpa using hi), List.getElem?_map] at h2
      cases e : vs[i]? with
      | none => rw [e] at h2; cases h2
      | some a => rw [e] at h2; cases h2; rfl
    obtain ⟨u, hu, rv⟩ := r.get ha
    have hp : ps[i]? = some y := by
      rw [← S.pre, List.getElem?_take_of_lt (by omega)]; exact h1
    have ndP : ps.Nodup := by rw [← S.pre]; exact S.nd.sublist (List.take_sublist _ _)
    refine ⟨u, rv, ?_⟩
    rcases S.par y (List.mem_of_getElem? hp) with k | k
    · exact .inl ⟨k, bindL_get ndP hp hu k⟩
    · obtain ⟨c, e⟩ := cell_has (n := s.heap.objs.size + 1) k
      refine .inr ⟨.inl k, c, e, ?_⟩
      have q := x.cell y c e
      rw [bindC_get ndP hp hu (by show scope.names.lookup y ≠ _; rw [k]; decide)] at q
      exact q
  · exact e0.hok.fresh (Nat.le_of_lt (x.above y c (PySem.mem_of_lookup h)))
  · unfold start
    show _ = N.length
    rw [List.length_append, List.length_map, List.length_replicate]
    omega

/-- THE RULE: a def (or a method) of the text, by its body. The body's reading t is chosen for each entry; it is run at the parameters' values -/
theorem fn_of {CX : CXT} {P : Program} {w : World} {K : PySem.W.Frag} {mg : Str → Option Value} {base : Heap} {k : Nat} {f : Addr} {name qual : Str} {params : Arguments} {body : List Stmt} {scope : Scope} {dV kV doc pm cdv ct oc : Value} {an od : Option Addr}
    {osl : Array (Option Value)} {N ps : List Str} {sp : Sp} (lk : K.lookup f = some ⟨oc, od, .func (PySem.W.fnOf name qual params body scope dV kV doc pm an cdv ct), osl⟩) (hcd : PySem.W.codeIn K cdv qual = true) (S : FnScope N ps scope)
    (len : ∀ vs H Q E, sp vs H Q E → vs.length = ps.length)
    (hbody : ∀ (A : Around) (outer : List Env) (s : Shared) (H : Hp) (vs : List V) (Q : VK) (E : XK), Room k (A.deeper (envOfC qual scope s.heap.objs.size f cdv)) → sp vs H Q E →
      ∃ t, PSs (cxOf CX P w K mg base N qual scope f cdv A outer s H E) body t ∧ t { nx := fun _ H' => Q .non H', rt := Q } (start N vs) H) :
    FnOk P w K mg base CX (k + 1) f (PySem.W.fnOf name qual params body scope dV kV doc pm an cdv ct) ps sp := by
  refine ⟨len, fun A outer s H args us vs Q E hr e0 hb r hsp => ?_⟩
  have hl := len _ _ _ _ hsp
  have KX : K.In s.heap := e0.mod.kin.keeps fun b o e => (e0.bs b o e).1
  have lim : s.heap.NoLimit := e0.mod.nolimit.keeps fun b o e => (e0.bs b o e).1
  have hkind : ∀ y ∈ ps.zip us, scope.names.lookup y.1 = some .local ∨ (scope.names.lookup y.1 = some .cell ∧ ((cellsFrom (s.heap.objs.size + 1) scope.names []).lookup y.1).isSome = true) := fun ⟨n, v⟩ hy => by
    rcases S.par n (List.of_mem_zip hy).1 with q | q
    · exact .inl q
    · exact .inr ⟨q, PySem.W.cellsFrom_some _ _ _ (.inl q)⟩
  refine codeAny_call_function hr.depth (KX _ _ lk) rfl S.co S.gen rfl (PySem.W.codeRec_of KX hcd) (hb _ _ _ _ ?_)
  refine wpAny_newFunctionEnv_cells S.kind hkind fun env he s1 x => ?_
  subst he
  refine ⟨lim.keeps x.toInCall.keep, codeAny_func ?_⟩
  obtain ⟨t, ht, hq⟩ := hbody A outer s H vs Q E (hr.deeper _) hsp
  have I : Inv (cxOf CX P w K mg base N qual scope f cdv A outer s H E) [] (start N vs) H s1 := inv_start S hr.hd e0 hl r x
  refine wpAny_mono (ht [] s1 (start N vs) H _ I hq) (fun fl s' hs => ?_) fun e s' hs => hs
  have fin : ∀ {σ' : St} {H' : Hp} {v : V} {u : Value}, Inv (cxOf CX P w K mg base N qual scope f cdv A outer s H E) [] σ' H' s' → RelV v u → Q v H' → CE outer P w H s Q u s' :=
    fun {σ' H' v u} J rv q => ⟨v, H', J.os, J.bare, J.base, J.hok, rv, q⟩
  cases fl with
  | ret u =>
    obtain ⟨v, σ', H', J, rv, q⟩ := hs
    exact fin J rv q
  | next =>
    obtain ⟨σ', H', J, q⟩ := hs
    exact fin (v := V.non) (u := Value.none) J rfl q
  | brk =>
    obtain ⟨_, _, _, q⟩ := hs
    exact False.elim q
  | cont =>
    obtain ⟨_, _, _, q⟩ := hs
    exact False.elim q
end L2

namespace L2
open PySem PySem.Spec PyProof.Rows
section
variable {X : Cx} {x : Str} {p pos : Pos} {e : Expr} {es : List Expr} {t : TA} {id T : String} {r : List V → Hp → VK → Prop}

def tCB (r : List V → Hp → VK → Prop) (t : TA) : TE := fun σ H Q => t σ H fun vs H1 => r vs H1 Q
/-- f(e, ..), f a built-in function -/
theorem pe_callB (hc : CallR X (.builtin id) r) (hg : Gl X x) (hm : X.mg x = none) (hv : bootBuiltins x = some (.builtin id)) (ha : PA X (e :: es) t) (hn : x ≠ "__name__" := by decide) (hdb : (x == ("__debug__" : Str)) = false := by decide)
    (he : starEach (e :: es) X.env = (false, eval e X.env) :: starEach es X.env := by rfl) (hpl : (backTo pos (starEach es X.env)).any (·.1) = false := by rfl) : PE X (.Call (.Name x p) (e :: es) [] pos) (tCB r t) := by
  intro pins s σ H Q I h
  refine wpAny_Call_Name_kw (ld_blt I hg hm hv ?_ hn hdb)
  exact PyProof.Rows.callWith_builtin1 (thn (ha pos pins s σ H _ I h) fun us s1 ⟨vs, H1, I1, r1, q1⟩ => hc pins s1 σ H1 vs us Q I1 r1 q1) he hpl
/-- T(e, ..), T a built-in type -/
theorem pe_callTy (hc : CallR X (.type T) r) (hg : Gl X x) (hm : X.mg x = none) (hv : bootBuiltins x = some (.type T)) (ha : PA X (e :: es) t) (hn : x ≠ "__name__" := by decide) (hdb : (x == ("__debug__" : Str)) = false := by decide)
    (he : starEach (e :: es) X.env = (false, eval e X.env) :: starEach es X.env := by rfl) (hpl : (backTo pos (starEach es X.env)).any (·.1) = false := by rfl) : PE X (.Call (.Name x p) (e :: es) [] pos) (tCB r t) := by
  intro pins s σ H Q I h
  refine wpAny_Call_Name_kw (ld_blt I hg hm hv ?_ hn hdb)
  exact PyProof.Rows.callWith_type1 (thn (ha pos pins s σ H _ I h) fun us s1 ⟨vs, H1, I1, r1, q1⟩ => hc pins s1 σ H1 vs us Q I1 r1 q1) he hpl
end
end L2

namespace HT
open PySem PyProof.Rows

section
open PySem.SeqAt
open PySem.AutoSeq1 (wpAny_loadPart')
open PySem.MeetsSeq PySem.MeetsSeq2 PySem.MeetsSeq3

end

section
variable {prog : Program} {w : World} {A : Around} {E : Value → Shared → Prop} {s : Shared}

/-- t + u, t not empty -/
theorem cat_tup {t b : Addr} {vs ws : List Value} {Q : Value → Shared → Prop} (ht : IsTup s.heap t vs.toArray) (hb : IsTup s.heap b ws.toArray) (hv : vs ≠ [])
    (h1 : ws = [] → Q (.ref t) s) (h2 : ws ≠ [] → Q (.ref s.heap.objs.size) { s with heap := s.heap.push { cls := .type "tuple", data := .seq (vs ++ ws).toArray } })
    (hsz : vs.length + ws.length ≤ sizeLine) : wpAny (model prog w) A (binaryOp .Add (.ref t) (.ref b)) Q E s := by
  obtain ⟨⟨cls, dd, data, sl⟩, ho, hc, n, hd⟩ := id ht
  obtain ⟨⟨cls2, dd2, data2, sl2⟩, ho2, hc2, n2, hd2⟩ := id hb
  simp only at hc hd hc2 hd2
  subst hc hd hc2 hd2
  have e : vs.toArray ++ ws.toArray = (vs ++ ws).toArray := by simp
  by_cases hw : ws = []
  · exact concat_meets ⟨_, ho, rfl⟩ ⟨_, ho2, rfl⟩ noFill_tuple_add seq_tuple_add PySem.F.slot_tuple_add PySem.F.entry_tuple_add (PySem.F.args_tuple_add_2 _ _)
      (tuple_addW1 t b vs.toArray ws.toArray n n2 dd dd2 sl sl2 (by simpa using hv) (by simp [hw])) ⟨ho, ho2, h1 hw⟩
  · refine concat_meets ⟨_, ho, rfl⟩ ⟨_, ho2, rfl⟩ noFill_tuple_add seq_tuple_add PySem.F.slot_tuple_add PySem.F.entry_tuple_add (PySem.F.args_tuple_add_2 _ _)
      (tuple_addW2 t b vs.toArray ws.toArray n n2 dd dd2 sl sl2 (by simpa using hv) (by simpa using hw) (by rw [List.size_toArray, List.size_toArray]; exact hsz)) ⟨ho, ho2, ?_⟩
    rw [e]
    exact h2 hw

/-! ### t[a:b], not the whole -/
/-- a slice's bound as a place among n (d where it is left out) -/
def sIx (n d : Nat) : Option Int → Nat
  | none => d
  | some v => if v < 0 then (v + (n : Int)).toNat else min v.toNat n
theorem sIx_none (n d : Nat) : sIx n d none = d := rfl
end
end HT

namespace L2
open PySem PySem.Spec PyProof.Rows

/-! ### the parts of a slice -/
abbrev TO := St → Hp → (Option Int → Hp → Prop) → Prop
/-- a slice's part (left out, or an int) -/
def PO (X : Cx) (e : Option Expr) (t : TO) : Prop :=
  ∀ (pins : List (Addr × Obj)) (s : Shared) (σ : St) (H : Hp) (Q : Option Int → Hp → Prop), Inv X pins σ H s → t σ H Q →
    wpAny (model X.prog X.w) X.A (evalPart e X.env) (fun u s' => ∃ o H', Inv X pins σ H' s' ∧ IsPart u o ∧ Q o H') X.xe s
def tNoPart : TO := fun _ H Q => Q none H
def tPart (t : TE) : TO := fun σ H Q => t σ H fun x H1 => ∃ i, x = .int i ∧ Q (some i) H1

theorem intsAre_of {ns : List Int} : ∀ {us : List Value}, Vals (ns.map V.int) us → IntsAre us ns := by
  induction ns with
  | nil => intro us r; rw [List.map_nil] at r; cases r; exact .nil
  | cons n ns ih =>
    intro us r
    rw [List.map_cons] at r
    cases r with
    | cons r1 r2 =>
      obtain ⟨t, e⟩ := r1
      subst e
      exact .cons n t (ih r2)

section
variable {X : Cx} {e : Expr} {te : TE} {lo hi : Option Expr} {tl th : TO} {pos p2 : Pos}

theorem po_none : PO X none tNoPart := by
  intro pins s σ H Q I h
  rw [evalPart_none]
  exact wpAny_pure ⟨none, H, I, .none, h⟩
theorem po_some (h : PE X e te) : PO X (some e) (tPart te) := by
  intro pins s σ H Q I hw
  rw [evalPart_some]
  refine thn (h pins s σ H _ I hw) fun u s1 ⟨x, H1, I1, r1, q1⟩ => ?_
  obtain ⟨i, rfl, q⟩ := q1
  obtain ⟨t, rfl⟩ := r1
  exact ⟨some i, H1, I1, .int i t, q⟩

/-- what a slice of a value is, by values: the slice object stands at sl -/
def SlR (X : Cx) (r : V → Option Int → Option Int → Hp → VK → Prop) : Prop :=
  ∀ (pins : List (Addr × Obj)) (s : Shared) (σ : St) (H : Hp) (x : V) (v vl vu : Value) (lo hi : Option Int) (sl : Addr) (Q : VK), Inv X pins σ H s → RelV x v → s.heap.IsSliceOf sl vl vu .none → IsPart vl lo → IsPart vu hi → r x lo hi H Q →
    ∃ T id, typeLookup (.type T) "__getitem__" = pure (some (.builtin id)) ∧ s.TypeIs v T ∧ wpAny (model X.prog X.w) X.A (getItem v (.ref sl)) (EP X pins σ Q) X.xe s
theorem SlR.or {r r' : V → Option Int → Option Int → Hp → VK → Prop} (h : SlR X r) (h' : SlR X r') : SlR X (fun x lo hi H Q => r x lo hi H Q ∨ r' x lo hi H Q) := by
  intro pins s σ H x v vl vu lo hi sl Q I rx hs pl pu q
  rcases q with q | q
  · exact h pins s σ H x v vl vu lo hi sl Q I rx hs pl pu q
  · exact h' pins s σ H x v vl vu lo hi sl Q I rx hs pl pu q
def tSl (r : V → Option Int → Option Int → Hp → VK → Prop) (te : TE) (tl th : TO) : TE := fun σ H Q => te σ H fun x H1 => tl σ H1 fun l H2 => th σ H2 fun u H3 => r x l u H3 Q
/-- a[lo:hi], any a -/
theorem pe_slice {r : V → Option Int → Option Int → Hp → VK → Prop} (hr : SlR X r) (he : PE X e te) (hl : PO X lo tl) (hu : PO X hi th) : PE X (.Subscript e (.Slice lo hi none p2) pos) (tSl r te tl th) := by
  intro pins s σ H Q I h
  refine Subscript_ (thn (he pins s σ H _ I h) fun v s1 ⟨x, H1, I1, r1, q1⟩ => ?_)
  refine wpAny_Slice (thn (hl pins s1 σ H1 _ I1 q1) fun vl s2 ⟨l, H2, I2, pl, q2⟩ => thn (hu pins s2 σ H2 _ I2 q2) fun vu s3 ⟨u, H3, I3, pu, q3⟩ => ?_)
  rw [evalPart_none]
  refine wpAny_pure ?_
  have I4 : Inv X pins σ H3 { s3 with heap := s3.heap.push { cls := .type "slice", data := .fields #[vl, vu, .none] } } := I3.kept (t' := s3.toks) fun b ob q => Heap.get?_push_of_some _ q
  obtain ⟨T, id, hT, ht, hg⟩ := hr pins { s3 with heap := s3.heap.push { cls := .type "slice", data := .fields #[vl, vu, .none] } } σ H3 x v vl vu l u s3.heap.objs.size Q I4 r1 (Heap.IsSliceOf.new ..) pl pu q3
  show wpAny (model X.prog X.w) X.A (subscriptTail e (.Slice lo hi none p2) v (.ref s3.heap.objs.size)) (EP X pins σ Q) X.xe { s3 with heap := s3.heap.push { cls := .type "slice", data := .fields #[vl, vu, .none] } }
  exact tail_any (ops := [.ref s3.heap.objs.size, v]) ht hT hg (by with_unfolding_all rfl)

/-- the items of xs[lo:hi] -/
def cutV (xs : List V) (lo hi : Option Int) : List V := (xs.drop (HT.sIx xs.length 0 lo)).take (HT.sIx xs.length xs.length hi - HT.sIx xs.length 0 lo)
theorem cutV_length (xs : List V) (lo hi : Option Int) : (cutV xs lo hi).length ≤ xs.length := by
  unfold cutV
  rw [List.length_take, List.length_drop]
  omega
/-! ### t < u, t + u -/
/-- t + u, t not empty: u empty gives t itself -/
def rCatT (K : PySem.W.Frag) : R2 := fun x y H Q => ∃ a b xs ys, x = .ref a ∧ y = .ref b ∧ SqT K H a xs ∧ SqT K H b ys ∧ xs ≠ [] ∧ xs.length + ys.length ≤ sizeLine ∧
  (ys = [] → Q (.ref a) H) ∧ (ys ≠ [] → ∀ p, H p = none → Q (.ref p) (upd H p (.tup (xs ++ ys))))
theorem Vals.nil_iff {xs : List V} {us : List Value} (r : Vals xs us) : us = [] ↔ xs = [] := by
  cases r with
  | nil => simp
  | cons _ _ => simp
theorem op_catT : OpR X (binaryOp .Add) (rCatT X.K) := by
  intro pins s σ H x y v u Q I rx ry h
  obtain ⟨a, b, xs, ys, rfl, rfl, ha, hb, hx, hz, q1, q2⟩ := h
  cases rx
  cases ry
  obtain ⟨its, r1, p1, _⟩ := I.tuple ha
  obtain ⟨its2, r2, p2, _⟩ := I.tuple hb
  refine HT.cat_tup p1 p2 (fun z => hx (r1.nil_iff.mp z)) (fun z => ⟨.ref a, H, I, rfl, q1 (r2.nil_iff.mp z)⟩) (fun z => ?_) (by rw [← r1.length, ← r2.length]; exact hz)
  refine ⟨.ref s.heap.objs.size, _, I.laid (t' := s.toks) (o := .tup (xs ++ ys)) (fun b ob q => Heap.get?_push_of_some _ q) (Nat.le_refl _) ?_, rfl, q2 (fun w => z (r2.nil_iff.mpr w)) _ (I.hok.fresh (Nat.le_refl _))⟩
  exact ⟨⟨by rw [List.length_append]; exact hz, _, Heap.get?_push_size _ rfl, rfl⟩, _, r1.append r2, IsTup.new _ _⟩
end
end L2

namespace L2
open PySem PySem.Spec PyProof.Rows

/-! ### places -/
/-- the place that an index of any sign means -/
def ixN (n : Nat) (i : Int) : Option Nat := if 0 ≤ i then (if i < n then some i.toNat else none) else if -(n : Int) ≤ i then some (i + n).toNat else none
def atI {α : Type} (xs : List α) (i : Int) : Option α := (ixN xs.length i).bind fun j => xs[j]?
theorem ixN_seq {n : Nat} {i : Int} {j : Nat} (h : ixN n i = some j) : seqIndex? i n = some j ∧ j < n ∧ -(n : Int) ≤ i ∧ i < n := by
  unfold ixN at h
  by_cases h0 : 0 ≤ i
  · rw [if_pos h0] at h
    by_cases h1 : i < n
    · rw [if_pos h1] at h
      have e : i.toNat = j := Option.some.inj h
      exact ⟨by rw [seqIndex_of h0 h1, e], by omega, by omega, h1⟩
    · rw [if_neg h1] at h; cases h
  · rw [if_neg h0] at h
    by_cases h1 : -(n : Int) ≤ i
    · rw [if_pos h1] at h
      have e : (i + n).toNat = j := Option.some.inj h
      exact ⟨by rw [seqIndex_neg (by omega) h1, e], by omega, h1, by omega⟩
    · rw [if_neg h1] at h; cases h
theorem atI_get {α : Type} {xs : List α} {i : Int} {v : α} (h : atI xs i = some v) : ∃ j, seqIndex? i xs.length = some j ∧ xs[j]? = some v ∧ j < xs.length ∧ -(xs.length : Int) ≤ i ∧ i < xs.length := by
  unfold atI at h
  cases e : ixN xs.length i with
  | none => rw [e] at h; cases h
  | some j =>
    rw [e] at h
    obtain ⟨h1, h2, h3, h4⟩ := ixN_seq e
    exact ⟨j, h1, h, h2, h3, h4⟩
theorem atI_nat {α : Type} {xs : List α} {j : Nat} {v : α} (h : xs[j]? = some v) : atI xs (j : Int) = some v := by
  have hj : j < xs.length := (List.getElem?_eq_some_iff.mp h).1
  have e : ixN xs.length (j : Int) = some j := by
    unfold ixN
    rw [if_pos (by omega), if_pos (by omega)]; simp
  unfold atI; rw [e]; exact h
theorem atI_last {α : Type} (xs : List α) (v : α) : atI (xs ++ [v]) (-1) = some v := by
  have hl : (xs ++ [v]).length = xs.length + 1 := by simp
  have e : ixN (xs ++ [v]).length (-1) = some xs.length := by
    unfold ixN
    rw [hl, if_neg (by decide), if_pos (by omega)]
    congr 1
    omega
  unfold atI
  rw [e]
  show (xs ++ [v])[xs.length]? = some v
  simp

/-! ### what may be subscripted -/
/-- what stands as an index of a plain subscript -/
def PlainIx (b : Expr) : Prop := ∀ o i, subscripted b false o i = operate [o, i] (getItem o i)
/-- a subscript by values -/
def IxR (X : Cx) (r : R2) : Prop :=
  ∀ (value slice : Expr) (pins : List (Addr × Obj)) (s : Shared) (σ : St) (H : Hp) (x y : V) (v u : Value) (Q : VK), Inv X pins σ H s → RelV x v → RelV y u → r x y H Q →
    subscripted slice false v u = operate [v, u] (getItem v u) → wpAny (model X.prog X.w) X.A (subscriptTail value slice v u) (EP X pins σ Q) X.xe s
/-- a call of a builtin's method by values: the receiver, the arguments -/
def MtR (X : Cx) (id : String) (r : V → List V → Hp → VK → Prop) : Prop :=
  ∀ (pins : List (Addr × Obj)) (s : Shared) (σ : St) (H : Hp) (x : V) (xs : List V) (v : Value) (us : List Value) (Q : VK), Inv X pins σ H s → RelV x v → Vals xs us → r x xs H Q →
    wpAny (model X.prog X.w) X.A (call (.builtin id) (v :: us)) (EP X pins σ Q) X.xe s
section
variable {X : Cx} {a b : Expr} {ta tb : TE} {pos : Pos}
theorem IxR.or {r r' : R2} (h : IxR X r) (h' : IxR X r') : IxR X (fun x y H Q => r x y H Q ∨ r' x y H Q) := by
  intro value slice pins s σ H x y v u Q I rx ry q hs
  rcases q with q | q
  · exact h value slice pins s σ H x y v u Q I rx ry q hs
  · exact h' value slice pins s σ H x y v u Q I rx ry q hs
theorem MtR.or {id : String} {r r' : V → List V → Hp → VK → Prop} (h : MtR X id r) (h' : MtR X id r') : MtR X id (fun x xs H Q => r x xs H Q ∨ r' x xs H Q) := by
  intro pins s σ H x xs v us Q I rx rs q
  rcases q with q | q
  · exact h pins s σ H x xs v us Q I rx rs q
  · exact h' pins s σ H x xs v us Q I rx rs q
/-- a[b] -/
theorem pe_ix {r : R2} (hr : IxR X r) (ha : PE X a ta) (hb : PE X b tb) (hs : PlainIx b) : PE X (.Subscript a b pos) (tOp r ta tb) := by
  intro pins s σ H Q I h
  exact Subscript_ (binT ha hb I h fun v u s2 x y H2 I2 rx ry q => hr a b pins s2 σ H2 x y v u Q I2 rx ry q (hs _ _))

def rIxL (K : PySem.W.Frag) : R2 := fun x y H Q => ∃ p xs i v, x = .ref p ∧ y = .int i ∧ SqL K H p xs ∧ atI xs i = some v ∧ Q v H
def rIxT (K : PySem.W.Frag) : R2 := fun x y H Q => ∃ p xs i v, x = .ref p ∧ y = .int i ∧ SqT K H p xs ∧ atI xs i = some v ∧ Q v H
def rIxS : R2 := fun x y H Q => ∃ z i c, x = .str z ∧ y = .int i ∧ z.length ≤ sizeLine ∧ atI z.cps.toList i = some c ∧ Q (.str ⟨#[c]⟩) H
theorem ix_list : IxR X (rIxL X.K) := by
  intro value slice pins s σ H x y v u Q I rx ry h hs
  obtain ⟨p, xs, i, z, rfl, rfl, hq, he, q⟩ := h
  cases rx
  obtain ⟨t, rfl⟩ := ry
  obtain ⟨its, r, pl, hz⟩ := I.list hq
  obtain ⟨j, h1, h2, h3, h4, h5⟩ := atI_get he
  obtain ⟨w, ew, rw'⟩ := r.get h2
  have hl := r.length
  have hn := line63
  have fin : EP X pins σ Q w s := ⟨z, H, I, rw', q⟩
  by_cases h0 : 0 ≤ i
  · have hj : i.toNat = j := by
      rw [seqIndex_of h0 h5] at h1
      exact Option.some.inj h1
    exact item_listR pl.isList h0 (by omega) (by rw [hj]; simpa using ew) fin hs
  · have hj : (i + (its.toArray.size : Int)).toNat = j := by
      rw [seqIndex_neg (by omega) h4] at h1
      rw [List.size_toArray, ← hl]
      exact Option.some.inj h1
    exact subscriptTail_builtinR (x := w) pl.isList.typeIs slot_list_getitem.lookup
      (wpAny_getItem_list_neg (Q := fun r s' => r = w ∧ EP X pins σ Q r s') pl.isList (by omega) (by rw [List.size_toArray] <;> omega) (by omega) (by rw [hj]; simpa using ew) ⟨rfl, fin⟩) hs
theorem ix_tup : IxR X (rIxT X.K) := by
  intro value slice pins s σ H x y v u Q I rx ry h hs
  obtain ⟨p, xs, i, z, rfl, rfl, hq, he, q⟩ := h
  cases rx
  obtain ⟨t, rfl⟩ := ry
  obtain ⟨its, r, pl, hz⟩ := I.tuple hq
  obtain ⟨j, h1, h2, h3, h4, h5⟩ := atI_get he
  obtain ⟨w, ew, rw'⟩ := r.get h2
  have hl := r.length
  have hn := line63
  have fin : EP X pins σ Q w s := ⟨z, H, I, rw', q⟩
  exact subscriptTail_builtinR (x := w) pl.typeIs slot_tuple_getitem.lookup
    (getItem_tuple (j := j) (Q := fun r s' => r = w ∧ EP X pins σ Q r s') pl (by omega) (by omega) (by rw [List.size_toArray, ← hl]; exact h1) (by simpa using ew) ⟨rfl, fin⟩) hs
theorem ix_str : IxR X rIxS := by
  intro value slice pins s σ H x y v u Q I rx ry h hs
  obtain ⟨z, i, c, rfl, rfl, hz, he, q⟩ := h
  obtain ⟨t, rfl⟩ := rx
  obtain ⟨t', rfl⟩ := ry
  obtain ⟨j, h1, h2, h3, h4, h5⟩ := atI_get he
  have hl : z.cps.toList.length = z.length := by simp [Str.length]
  rw [hl] at h1 h4 h5
  have hn := line63
  exact tail_any (typeIs_str s z t) slot_str_getitem.lookup (getItem_str (c := c) (by
    have e1 : decide (i < -(2 ^ 63 : Int)) = false := decide_eq_false (by omega)
    have e2 : decide (i ≥ 2 ^ 63) = false := decide_eq_false (by omega)
    rw [e1, e2, Bool.or_false]) (by rw [h1]; simpa using h2) ⟨.str ⟨#[c]⟩, H, I.tok _, ⟨_, rfl⟩, q⟩) hs
/-! ### xs[i] = v, any sign -/
/-- the list's object behind a store -/
theorem mapSeq_set (its : List Value) (n j : Nat) (u : Value) : Obj.mapSeq (·.setIfInBounds j u) { cls := .type "list", data := .seq its.toArray n } = { cls := .type "list", data := .seq (its.set j u).toArray n } := by
  simp [Obj.mapSeq]
theorem Inv.lst {pins : List (Addr × Obj)} {σ : St} {H : Hp} {s : Shared} {p : Addr} {xs : List V} (I : Inv X pins σ H s) (h : H p = some (.lst xs)) :
    ∃ (its : List Value) (n : Nat), Vals xs its ∧ s.heap.get? p = some { cls := .type "list", data := .seq its.toArray n } ∧ xs.length ≤ sizeLine := by
  obtain ⟨z, its, n, r, e⟩ := I.hok p _ h
  exact ⟨its, n, r, e, z⟩
/-- the list at p is written by an update of its object -/
theorem Inv.lstUpd {pins : List (Addr × Obj)} {σ : St} {H : Hp} {s : Shared} {p : Addr} {xs ys : List V} {its its' : List Value} {n n' : Nat} {f : Obj → Obj} (I : Inv X pins σ H s) (h : H p = some (.lst xs))
    (ho : s.heap.get? p = some { cls := .type "list", data := .seq its.toArray n }) (hf : f { cls := .type "list", data := .seq its.toArray n } = { cls := .type "list", data := .seq its'.toArray n' }) (r : Vals ys its') (hz : ys.length ≤ sizeLine) (t : Nat) :
    Inv X pins σ (upd H p (.lst ys)) { s with heap := s.heap.update p f, toks := t } := by
  have e : (s.heap.update p f).get? p = some { cls := .type "list", data := .seq its'.toArray n' } := by
    rw [Heap.get?_update_self f ho (by rw [hf] <;> rfl), hf]
  refine I.write (x := p) (e := p) (by rw [h]; trivial) (.inl rfl) (fun b u hb q => (Heap.get?_update_other _ _ (Ne.symm hb)).trans q) ⟨_, e⟩ ?_
  exact ⟨hz, its', n', r, e⟩
def rSetL : V → V → V → Hp → (Hp → Prop) → Prop := fun o i v H Q => ∃ p xs k j, o = .ref p ∧ i = .int k ∧ H p = some (.lst xs) ∧ ixN xs.length k = some j ∧ Q (upd H p (.lst (xs.set j v)))
theorem set_list : PSet X rSetL := by
  intro pins s σ H o i v ov iv u Q I ro ri rv h
  obtain ⟨p, xs, k, j, rfl, rfl, hp, hj, q⟩ := h
  cases ro
  obtain ⟨t, rfl⟩ := ri
  obtain ⟨its, n, r, ho, hz⟩ := I.lst hp
  obtain ⟨h1, h2, h3, h4⟩ := ixN_seq hj
  have hl := r.length
  have hn := line63
  have I' : Inv X pins σ (upd H p (.lst (xs.set j v))) { s with heap := s.heap.update p (Obj.mapSeq (·.setIfInBounds j u)) } :=
    I.lstUpd hp ho (mapSeq_set its n j u) (r.set rv j) (by rw [List.length_set]; exact hz) s.toks
  by_cases h0 : 0 ≤ k
  · have hk : k.toNat = j := by
      rw [seqIndex_of h0 h4] at h1
      exact Option.some.inj h1
    exact PySem.W.ki_setAt ho h0 (by omega) (by rw [List.size_toArray, ← hl]; exact h4) (by rw [hk]; exact ⟨_, I', q⟩)
  · have hk : (k + (its.toArray.size : Int)).toNat = j := by
      rw [seqIndex_neg (by omega) h3] at h1
      rw [List.size_toArray, ← hl]
      exact Option.some.inj h1
    exact PySem.W.ki_setBack ho (by omega) (by rw [List.size_toArray, ← hl]; exact h3) (by omega) (by rw [hk]; exact ⟨_, I', q⟩)

/-! ### slices -/
theorem slice_bounds (lo hi : Option Int) (n : Nat) : (sliceBounds lo hi none n).1 = ((HT.sIx n 0 lo : Nat) : Int) ∧ (sliceBounds lo hi none n).2.1 = ((HT.sIx n n hi : Nat) : Int) ∧ (sliceBounds lo hi none n).2.2 = 1 := by
  refine ⟨?_, ?_, rfl⟩
  · cases lo with
    | none => simp [sliceBounds, HT.sIx]
    | some i =>
      simp only [sliceBounds, HT.sIx, Option.getD_none, show (1 : Int) > 0 by decide, if_true]
      by_cases h : i < 0
      · simp only [h, if_true] <;> omega
      · simp only [h, if_false] <;> omega
  · cases hi with
    | none => simp [sliceBounds, HT.sIx]
    | some i =>
      simp only [sliceBounds, HT.sIx, Option.getD_none, show (1 : Int) > 0 by decide, if_true]
      by_cases h : i < 0
      · simp only [h, if_true] <;> omega
      · simp only [h, if_false] <;> omega
theorem slicePick_cut (its : List Value) (lo hi : Option Int) : slicePick its.toArray lo hi none = ((its.drop (HT.sIx its.length 0 lo)).take (HT.sIx its.length its.length hi - HT.sIx its.length 0 lo)).toArray := by
  obtain ⟨h1, h2, h3⟩ := slice_bounds lo hi its.toArray.size
  unfold slicePick
  rw [h1, h2, h3]
  simp only [sliceRange_one, pick_run, List.size_toArray] <;> rfl
/-- xs[lo:hi] of a list: a new list -/
def rSlL (K : PySem.W.Frag) : V → Option Int → Option Int → Hp → VK → Prop := fun x lo hi H Q => ∃ a xs, x = .ref a ∧ SqL K H a xs ∧ ∀ p, H p = none → Q (.ref p) (upd H p (.lst (cutV xs lo hi)))
theorem sl_list : SlR X (rSlL X.K) := by
  intro pins s σ H x v vl vu lo hi sl Q I rx hs pl pu h
  obtain ⟨a, xs, rfl, hx, q⟩ := h
  cases rx
  obtain ⟨its, r, ht, hz⟩ := I.list hx
  have hlen := r.length
  refine ⟨"list", _, slot_list_getitem.lookup, ht.isList.typeIs, ?_⟩
  refine wpAny_getItem_list_slice ht.isList hs pl pu .none (by simp) ?_ (by rw [List.size_toArray] <;> omega)
  rw [slicePick_cut, ← hlen]
  refine ⟨.ref s.heap.objs.size, _, I.laid (t' := s.toks) (o := .lst (cutV xs lo hi)) (fun b ob q => Heap.get?_push_of_some _ q) (Nat.le_refl _) ?_, rfl, q _ (I.hok.fresh (Nat.le_refl _))⟩
  exact ⟨Nat.le_trans (cutV_length xs lo hi) hz, _, 0, (r.drop (HT.sIx xs.length 0 lo)).take (HT.sIx xs.length xs.length hi - HT.sIx xs.length 0 lo), Heap.get?_push_size _ rfl⟩

/-! ### in, not in: flat items -/
def flatV : V → Bool
  | .non => true
  | .bl _ => true
  | .int _ => true
  | .str _ => true
  | _ => false
/-- == of flat values -/
def eqV : V → V → Bool
  | .non, .non => true
  | .bl a, .bl b => a == b
  | .bl a, .int b => (if a then 1 else 0) == b
  | .int a, .bl b => a == (if b then 1 else 0)
  | .int a, .int b => a == b
  | .str a, .str b => a == b
  | _, _ => false
theorem eqAt_V {A : Around} {s : Shared} {y x : V} {u v : Value} (ry : RelV y u) (rx : RelV x v) (fy : flatV y = true) (fx : flatV x = true) : SeqAt.EqAt A s u v (eqV y x) := by
  cases y with
  | non =>
    cases ry
    cases x with
    | non => cases rx; exact SeqAt.EqAt.same _
    | bl b => cases rx; exact SeqAt.EqAt.none_bool b
    | int b => obtain ⟨t, rfl⟩ := rx; exact SeqAt.EqAt.none_int b t
    | str b => obtain ⟨t, rfl⟩ := rx; exact SeqAt.EqAt.none_str b t
    | _ => exact absurd (show false = true from fx) Bool.false_ne_true
  | bl a =>
    cases ry
    cases x with
    | non => cases rx; exact SeqAt.EqAt.bool_none a
    | bl b => cases rx; exact SeqAt.EqAt.bool_bool a b
    | int b => obtain ⟨t, rfl⟩ := rx; exact SeqAt.EqAt.bool_int a b t
    | str b => obtain ⟨t, rfl⟩ := rx; exact SeqAt.EqAt.bool_str a b t
    | _ => exact absurd (show false = true from fx) Bool.false_ne_true
  | int a =>
    obtain ⟨t', rfl⟩ := ry
    cases x with
    | non => cases rx; exact SeqAt.EqAt.int_none a t'
    | bl b => cases rx; exact SeqAt.EqAt.int_bool a t' b
    | int b => obtain ⟨t, rfl⟩ := rx; exact SeqAt.EqAt.int_int a t' b t
    | str b => obtain ⟨t, rfl⟩ := rx; exact SeqAt.EqAt.int_str a t' b t
    | _ => exact absurd (show false = true from fx) Bool.false_ne_true
  | str a =>
    obtain ⟨t', rfl⟩ := ry
    cases x with
    | non => cases rx; exact SeqAt.EqAt.str_none a t'
    | bl b => cases rx; exact SeqAt.EqAt.str_bool a t' b
    | int b => obtain ⟨t, rfl⟩ := rx; exact SeqAt.EqAt.str_int a t' b t
    | str b => obtain ⟨t, rfl⟩ := rx; exact SeqAt.EqAt.str_str a t' b t
    | _ => exact absurd (show false = true from fx) Bool.false_ne_true
  | _ => exact absurd (show false = true from fy) Bool.false_ne_true
/-- the items' answers, read off the values (a value's own answer does not lean on its token) -/
def eqU (x : V) (u : Value) : Bool := match u with
  | .none => eqV .non x
  | .bool b => eqV (.bl b) x
  | .int i _ => eqV (.int i) x
  | .str z _ => eqV (.str z) x
  | _ => false
theorem eqU_of {x y : V} {u : Value} (r : RelV y u) (f : flatV y = true) : eqU x u = eqV y x := by
  cases y with
  | non => cases r; rfl
  | bl b => cases r; rfl
  | int i => obtain ⟨t, rfl⟩ := r; rfl
  | str z => obtain ⟨t, rfl⟩ := r; rfl
  | _ => exact absurd (show false = true from f) Bool.false_ne_true
theorem any_eqU {x : V} : ∀ {xs : List V} {us : List Value}, Vals xs us → xs.all flatV = true → us.any (eqU x) = xs.any fun y => eqV y x
  | _, _, .nil, _ => rfl
  | y :: xs, u :: us, .cons r t, f => by
    rw [List.all_cons, Bool.and_eq_true] at f
    rw [List.any_cons, List.any_cons, eqU_of r f.1, any_eqU t f.2]
theorem mem_eqAt {A : Around} {s : Shared} {x : V} {v : Value} (rx : RelV x v) (fx : flatV x = true) : ∀ {xs : List V} {us : List Value}, Vals xs us → xs.all flatV = true → ∀ u ∈ us, SeqAt.EqAt A s u v (eqU x u)
  | _, _, .nil, _ => fun u hu => by cases hu
  | y :: xs, u :: us, .cons r t, f => fun u' hu => by
    rw [List.all_cons, Bool.and_eq_true] at f
    rcases List.mem_cons.mp hu with rfl | hu
    · rw [eqU_of r f.1]; exact eqAt_V r rx f.1 fx
    · exact mem_eqAt rx fx t f.2 u' hu
def inV (x : V) (xs : List V) : Bool := xs.any fun y => eqV y x
/-- x in a list or tuple of flat items -/
def rIn (K : PySem.W.Frag) (neg : Bool) : R2 := fun x y H Q => ∃ p xs, y = .ref p ∧ (SqL K H p xs ∨ SqT K H p xs) ∧ flatV x = true ∧ xs.all flatV = true ∧ Q (.bl (if neg then !inV x xs else inV x xs)) H
theorem op_notIn_seq : OpR X (compareOp .NotIn) (rIn X.K true) := by
  intro pins s σ H x y v u Q I rx ry h
  obtain ⟨p, xs, rfl, hq, fx, fs, q⟩ := h
  cases ry
  rcases hq with hq | hq
  · obtain ⟨its, r, pl, hz⟩ := I.list hq
    refine SeqAt.notIn_listAt (eqU x) pl.isList (fun w hw => mem_eqAt rx fx r fs w (by simpa using hw)) ⟨.bl _, H, I, rfl, ?_⟩
    rw [show its.toArray.any (eqU x) = its.any (eqU x) by simp, any_eqU r fs]
    exact q
  · obtain ⟨its, r, pl, hz⟩ := I.tuple hq
    refine SeqAt.notIn_tupleAt (eqU x) pl (fun w hw => mem_eqAt rx fx r fs w (by simpa using hw)) ⟨.bl _, H, I, rfl, ?_⟩
    rw [show its.toArray.any (eqU x) = its.any (eqU x) by simp, any_eqU r fs]
    exact q
/-! ### len, list(x), tuple(x) of any list or tuple that is read -/
theorem call_len_seq : CallR X (.builtin "len") (fun xs H Q => ∃ p ys, xs = [.ref p] ∧ (SqL X.K H p ys ∨ SqT X.K H p ys) ∧ Q (.int ys.length) H) := by
  intro pins s σ H xs us Q I r h
  obtain ⟨p, ys, rfl, hq, q⟩ := h
  obtain ⟨u, rfl, rx⟩ := vals1 r
  cases rx
  have hn := line63
  rcases hq with hq | hq
  · obtain ⟨its, r', pl, hz⟩ := I.list hq
    have hlen := r'.length
    exact Calls.call_len_list pl.isList (by simp only [List.size_toArray] <;> omega) ⟨.int ys.length, H, I.tok _, ⟨s.toks + 1, by rw [List.size_toArray, hlen]⟩, q⟩
  · obtain ⟨its, r', pl, hz⟩ := I.tuple hq
    have hlen := r'.length
    exact len_tuple pl (by simp only [List.size_toArray] <;> omega) ⟨.int ys.length, H, I.tok _, ⟨s.toks + 1, by rw [List.size_toArray, hlen]⟩, q⟩
theorem call_len_str : CallR X (.builtin "len") (fun xs H Q => ∃ z, xs = [.str z] ∧ z.length ≤ sizeLine ∧ Q (.int z.length) H) := by
  intro pins s σ H xs us Q I r h
  obtain ⟨z, rfl, hz, q⟩ := h
  obtain ⟨u, rfl, t, rfl⟩ := vals1 r
  have hn := line63
  exact len_str (by omega) ⟨.int z.length, H, I.tok _, ⟨_, rfl⟩, q⟩
theorem CallR.or {f : Value} {r r' : List V → Hp → VK → Prop} (h : CallR X f r) (h' : CallR X f r') : CallR X f (fun xs H Q => r xs H Q ∨ r' xs H Q) := by
  intro pins s σ H xs us Q I rs q
  rcases q with q | q
  · exact h pins s σ H xs us Q I rs q
  · exact h' pins s σ H xs us Q I rs q
theorem call_tuple_of : CallR X (.type "tuple") (fun xs H Q => ∃ p ys, xs = [.ref p] ∧ ((SqL X.K H p ys ∧ ∀ l, H l = none → Q (.ref l) (upd H l (.tup ys))) ∨ (SqT X.K H p ys ∧ Q (.ref p) H))) := by
  intro pins s σ H xs us Q I r h
  obtain ⟨p, ys, rfl, h⟩ := h
  obtain ⟨u, rfl, rx⟩ := vals1 r
  cases rx
  rcases h with ⟨hq, q⟩ | ⟨hq, q⟩
  · obtain ⟨its, r', pl, hz⟩ := I.list hq
    have hlen := r'.length
    refine call_tuple_list pl.isList (fun h' kp => ?_) (by simp only [List.size_toArray] <;> omega)
    have I1 : Inv X pins σ H { s with heap := h' } := I.kept (t' := s.toks) kp
    have I2 : Inv X pins σ (upd H h'.objs.size (.tup ys)) { s with heap := h'.push { cls := .type "tuple", data := .seq its.toArray } } :=
      I1.laid (t' := s.toks) (fun b o e => Heap.get?_push_of_some _ e) (Nat.le_refl _) (show ObjOk X.prog X.w _ _ _ (.tup ys) from ⟨⟨hz, _, Heap.get?_push_size _ rfl, rfl⟩, its, r', IsTup.new _ _⟩)
    exact ⟨.ref h'.objs.size, _, I2, rfl, q _ (I1.hok.fresh (Nat.le_refl _))⟩
  · obtain ⟨its, r', pl, hz⟩ := I.tuple hq
    exact call_tuple_same pl ⟨.ref p, H, I, rfl, q⟩

/-! ### the call of a builtin's method: o.m(..) -/
/-- the value is of that builtin type -/
def tyV (K : PySem.W.Frag) (T : String) (x : V) (H : Hp) : Prop := match x with
  | .str _ => T = "str"
  | .int _ => T = "int"
  | .ref p => (T = "list" ∧ ∃ xs, SqL K H p xs) ∨ (T = "tuple" ∧ ∃ o, K.lookup p = some o ∧ o.cls = .type "tuple" ∧ o.dict = none) ∨
      (T = "dict" ∧ ((∃ kvs, H p = some (.dK kvs)) ∨ ∃ kvs, H p = some (.dT kvs))) ∨ (T = "set" ∧ ∃ S n, H p = some (.set S n))
  | _ => False
theorem tyV_is {pins : List (Addr × Obj)} {σ : St} {H : Hp} {s : Shared} {T : String} {x : V} {v : Value} (I : Inv X pins σ H s) (r : RelV x v) (ty : tyV X.K T x H) :
    s.TypeIs v T ∧ ∀ a, v = .ref a → ∃ ob, s.heap.get? a = some ob ∧ ob.dict = none := by
  cases x with
  | str z =>
    obtain ⟨t, rfl⟩ := r
    cases (show T = "str" from ty)
    exact ⟨typeIs_str s z t, fun _ e => nomatch e⟩
  | int i =>
    obtain ⟨t, rfl⟩ := r
    cases (show T = "int" from ty)
    exact ⟨typeIs_int s i t, fun _ e => nomatch e⟩
  | ref p =>
    cases r
    rcases ty with ⟨rfl, xs, hq⟩ | ⟨rfl, o, hk, hc, hd⟩ | ⟨rfl, hk⟩ | ⟨rfl, S, n, hk⟩
    · obtain ⟨its, _, pl, _⟩ := I.list hq
      refine ⟨pl.isList.typeIs, fun a e => ?_⟩
      cases e
      obtain ⟨o, n, e, c, hd, _⟩ := pl
      exact ⟨o, e, hd⟩
    · refine ⟨⟨o, I.kIn p o hk, hc⟩, fun a e => ?_⟩
      cases e
      exact ⟨o, I.kIn _ o hk, hd⟩
    · have z : ∃ o, s.heap.get? p = some o ∧ o.ExactDict := by
        rcases hk with ⟨kvs, hk⟩ | ⟨kvs, hk⟩
        · obtain ⟨_, _, _, _, o, _, _, e, ex, _⟩ := I.hok p _ hk
          exact ⟨o, e, ex⟩
        · obtain ⟨_, _, _, _, o, _, _, e, ex, _⟩ := I.hok p _ hk
          exact ⟨o, e, ex⟩
      obtain ⟨o, e, ex⟩ := z
      refine ⟨⟨o, e, ex.1⟩, fun a e2 => ?_⟩
      cases e2
      exact ⟨o, e, ex.2.1⟩
    · obtain ⟨o, _, _, _, e, ex, _⟩ := I.hok p _ hk
      refine ⟨⟨o, e, ex.1⟩, fun a e2 => ?_⟩
      cases e2
      exact ⟨o, e, ex.2.1⟩
  | _ => exact False.elim ty
def tBM0 (K : PySem.W.Frag) (T : String) (r : V → List V → Hp → VK → Prop) (to : TE) : TE := fun σ H Q => to σ H fun x H1 => tyV K T x H1 ∧ r x [] H1 Q
def tBM (K : PySem.W.Frag) (T : String) (r : V → List V → Hp → VK → Prop) (to : TE) (t : TA) : TE := fun σ H Q => to σ H fun x H1 => tyV K T x H1 ∧ t σ H1 fun xs H2 => r x xs H2 Q
variable {o e : Expr} {es : List Expr} {to : TE} {t : TA} {name : Str} {apos cpos : Pos} {T id : String} {r : V → List V → Hp → VK → Prop}
theorem pe_bm0 (pa : PlainAttrs T) (slot : Slot T name id) (hty : typeOf (.builtin id) = pure (.type "method_descriptor")) (hm : MtR X id r) (ho : PE X o to)
    (hbase : attributeBase o name X.env (eval o X.env) = eval o X.env := by rfl) (hline : (apos.endLine == cpos.line) = true := by rfl) : PE X (.Call (.Attribute o name apos) [] [] cpos) (tBM0 X.K T r to) := by
  intro pins s σ H Q I h
  refine wpAny_Call_method0_late hbase hline (thn (ho pins s σ H _ I h) fun v s1 ⟨x, H1, I1, r1, ty, q1⟩ => ?_)
  obtain ⟨h1, h2⟩ := tyV_is I1 r1 ty
  exact ⟨T, id, pa, slot, hty, h1, h2, Calls.callWith_builtin rfl (PySem.evalArgs_none (hm pins s1 σ H1 x [] v [] Q I1 r1 .nil q1))⟩
theorem pe_bm (pa : PlainAttrs T) (slot : Slot T name id) (hty : typeOf (.builtin id) = pure (.type "method_descriptor")) (hm : MtR X id r) (ho : PE X o to) (ha : PA X (e :: es) t)
    (hbase : attributeBase o name X.env (eval o X.env) = eval o X.env := by rfl)
    (hfew : ((backTo cpos (starEach (e :: es) X.env)).all (fun x => !x.1) && (backToKw cpos (keywordEach [] X.env)).all (fun x => x.1.isSome)
      && decide ((e :: es).length + ([] : List Keyword).length + (if ([] : List Keyword).isEmpty then 0 else 1) < 30)) = true := by rfl)
    (hline : (apos.endLine == cpos.line) = true := by rfl) (hs : starEach (e :: es) X.env = (false, eval e X.env) :: starEach es X.env := by rfl) (hplain : (backTo cpos (starEach es X.env)).any (·.1) = false := by rfl) :
    PE X (.Call (.Attribute o name apos) (e :: es) [] cpos) (tBM X.K T r to t) := by
  intro pins s σ H Q I h
  refine wpAny_Call_method_late hbase hfew hline rfl (thn (ho pins s σ H _ I h) fun v s1 ⟨x, H1, I1, r1, ty, q1⟩ => ?_)
  obtain ⟨h1, h2⟩ := tyV_is I1 r1 ty
  refine ⟨T, id, pa, slot, hty, h1, h2, ?_⟩
  have hA := ha cpos pins s1 σ H1 _ I1 q1
  rw [hs] at hA ⊢
  refine Calls.callWith_builtin (by show (false || (backTo cpos (starEach es X.env)).any (·.1)) = false; rw [hplain] <;> rfl) (Calls.evalArgs_plain ?_)
  exact thn hA fun us s2 ⟨vs, H2, I2, r2, q2⟩ => hm pins s2 σ H2 x vs v us Q I2 r1 r2 q2
/- xs.append(e), list.index on a module's tuple .. are MtR facts of 06m -/
end
end L2

namespace L2
open PySem PySem.Spec PyProof.Rows

def MtM (X : Cx) (id : String) (r : V → List V → Hp → VK → Prop) : Prop :=
  ∀ (pins : List (Addr × Obj)) (s : Shared) (σ : St) (H : Hp) (x : V) (xs : List V) (v : Value) (us : List Value) (Q : VK), Inv X pins σ H s → RelV x v → Vals xs us → r x xs H Q →
    wpAny (model X.prog X.w) X.A (call (.builtin id) (v :: us)) (EP X pins σ Q) X.xe s

/-! ### lists of values -/
theorem Vals.one : ∀ {x : V} {us : List Value}, Vals [x] us → ∃ u, us = [u] ∧ RelV x u
  | _, _, .cons r .nil => ⟨_, rfl, r⟩
theorem Vals.two : ∀ {x y : V} {us : List Value}, Vals [x, y] us → ∃ u v, us = [u, v] ∧ RelV x u ∧ RelV y v
  | _, _, _, .cons r (.cons q .nil) => ⟨_, _, rfl, r, q⟩
theorem Vals.zero : ∀ {us : List Value}, Vals [] us → us = []
  | _, .nil => rfl
theorem Vals.dropLast {xs : List V} {us : List Value} (h : Vals xs us) : Vals xs.dropLast us.dropLast := by
  induction h with
  | nil => exact .nil
  | cons r t ih =>
    cases t with
    | nil => exact .nil
    | cons q t' => exact .cons r ih
theorem Vals.eraseIdx : ∀ {xs : List V} {us : List Value} (i : Nat), Vals xs us → Vals (xs.eraseIdx i) (us.eraseIdx i)
  | _, _, _, .nil => .nil
  | _, _, 0, .cons _ t => t
  | _, _, i + 1, .cons r t => .cons r (Vals.eraseIdx i t)
theorem Vals.reverse {xs : List V} {us : List Value} (h : Vals xs us) : Vals xs.reverse us.reverse := by
  induction h with
  | nil => exact .nil
  | cons r t ih => rw [List.reverse_cons, List.reverse_cons]; exact Vals.append ih (.cons r .nil)
theorem Vals.rep {xs : List V} {us : List Value} (h : Vals xs us) : ∀ k : Nat, Vals (List.replicate k xs).flatten (List.replicate k us).flatten
  | 0 => .nil
  | k + 1 => by
    rw [List.replicate_succ, List.replicate_succ, List.flatten_cons, List.flatten_cons]
    exact Vals.append h (Vals.rep h k)
theorem erase_last {α : Type} (l : List α) : l.eraseIdx (l.length - 1) = l.dropLast := by
  induction l with
  | nil => rfl
  | cons a r ih =>
    cases r with
    | nil => rfl
    | cons b r =>
      have e : (a :: b :: r).length - 1 = ((b :: r).length - 1) + 1 := by
        have h1 : (a :: b :: r).length = r.length + 2 := rfl
        have h2 : (b :: r).length = r.length + 1 := rfl
        omega
      rw [e, List.eraseIdx_cons_succ, ih]
      all_goals rfl
theorem foldl_rep (its : List Value) : ∀ (k : Nat) (acc : List Value),
    List.foldl (fun x1 x2 => x1 ++ x2) acc.toArray (List.replicate k its.toArray) = (acc ++ (List.replicate k its).flatten).toArray
  | 0, acc => by simp
  | k + 1, acc => by
    have e : acc.toArray ++ its.toArray = (acc ++ its).toArray := by simp
    have e2 : (acc ++ its) ++ (List.replicate k its).flatten = acc ++ (List.replicate (k + 1) its).flatten := by
      rw [List.replicate_succ, List.flatten_cons, List.append_assoc]
    rw [← e2, ← foldl_rep its k (acc ++ its), ← e, List.replicate_succ, List.foldl_cons]

section
variable {X : Cx} {pins : List (Addr × Obj)} {σ : St} {H : Hp} {s : Shared} {l b : Addr} {xs ys zs : List V}

/-! ### the two steps: a tracked list is rewritten, a new list is laid -/
theorem Inv.lset {its its' : List Value} {n : Nat} {f : Array Value → Array Value} {t' : Nat} (I : Inv X pins σ H s) (hH : H l = some (.lst xs))
    (e : s.heap.get? l = some { cls := .type "list", data := .seq its.toArray n }) (hf : f its.toArray = its'.toArray) (hv : Vals ys its') (hz : ys.length ≤ sizeLine) :
    Inv X pins σ (upd H l (.lst ys)) { s with heap := s.heap.update l (Obj.mapSeq f), toks := t' } := by
  have q := PySem.IsL.update e f
  rw [hf] at q
  refine I.write (x := l) (e := l) (by rw [hH]; exact trivial) (.inl rfl) (fun b' u hb hu => (Heap.get?_update_other s.heap (Obj.mapSeq f) (Ne.symm hb)).trans hu) ⟨_, q⟩ ?_
  exact ⟨hz, its', _, hv, q⟩
theorem Inv.lnew {its : List Value} {t' : Nat} (I : Inv X pins σ H s) (hv : Vals ys its) (hz : ys.length ≤ sizeLine) :
    Inv X pins σ (upd H s.heap.objs.size (.lst ys)) { s with heap := s.heap.push { cls := .type "list", data := .seq its.toArray }, toks := t' } :=
  I.laid (fun _ _ q => Heap.get?_push_of_some _ q) (Nat.le_refl _) ⟨hz, its, 0, hv, Heap.get?_push_size _ rfl⟩
theorem Inv.fresh (I : Inv X pins σ H s) : H s.heap.objs.size = none := I.hok.fresh (Nat.le_refl _)
theorem Inv.lstM (I : Inv X pins σ H s) (hH : H l = some (.lst xs)) : xs.length ≤ sizeLine ∧ ∃ (its : List Value) (n : Nat), Vals xs its ∧ xs.length = its.length ∧ s.heap.get? l = some { cls := .type "list", data := .seq its.toArray n } := by
  obtain ⟨z, its, n, r, e⟩ := I.hok l _ hH
  exact ⟨z, its, n, r, r.length, e⟩

theorem notLongL {n : Nat} (h : n ≤ sizeLine) : Builtin.List.listTooLong n = false := by
  unfold Builtin.List.listTooLong
  exact decide_eq_false (by omega)
end

section
variable {X : Cx}

/-! ### methods -/
def rAppend : V → List V → Hp → VK → Prop := fun x vs H Q => ∃ l xs y, x = .ref l ∧ vs = [y] ∧ H l = some (.lst xs) ∧ xs.length < sizeLine ∧ Q .non (upd H l (.lst (xs ++ [y])))
theorem mt_append : MtM X "list.append" rAppend := by
  intro pins s σ H x vs v us Q I rx rv h
  obtain ⟨l, xs, y, rfl, rfl, hH, hz, q⟩ := h
  cases rx
  obtain ⟨u, rfl, ru⟩ := rv.one
  obtain ⟨z, its, n, r, hl, e⟩ := I.lstM hH
  refine call_meets F.slot_list_append ⟨_, e, rfl⟩ F.entry_list_append (F.args_list_append_2 _ _) (PySem.list_append l its.toArray n u (by rw [List.size_toArray]; omega)) ⟨e, ?_⟩
  refine ⟨.non, _, I.lset (its' := its ++ [u]) hH e (by simp) (r.append (.cons ru .nil)) ?_, rfl, q⟩
  rw [List.length_append, List.length_singleton]
  omega

def rExtend : V → List V → Hp → VK → Prop := fun x vs H Q => ∃ l b xs zs, x = .ref l ∧ vs = [.ref b] ∧ H l = some (.lst xs) ∧ H b = some (.lst zs) ∧ xs.length + zs.length ≤ sizeLine ∧ Q .non (upd H l (.lst (xs ++ zs)))
theorem mt_extend : MtM X "list.extend" rExtend := by
  intro pins s σ H x vs v us Q I rx rv h
  obtain ⟨l, b, xs, zs, rfl, rfl, hH, hB, hz, q⟩ := h
  cases rx
  obtain ⟨u, rfl, ru⟩ := rv.one
  cases ru
  obtain ⟨z, its, n, r, hl, e⟩ := I.lstM hH
  obtain ⟨z2, its2, n2, r2, hl2, e2⟩ := I.lstM hB
  have hsz : its.toArray.size + its2.toArray.size ≤ sizeLine := by rw [List.size_toArray, List.size_toArray]; omega
  have hlong : ¬ (!its.toArray.isEmpty && Builtin.List.listTooLong (its.toArray.size + its2.toArray.size)) = true := by
    rw [notLongL hsz, Bool.and_false]
    exact Bool.false_ne_true
  refine call_meets F.slot_list_extend ⟨_, e, rfl⟩ F.entry_list_extend (F.args_list_extend_2 _ _)
    (AutoSeq1.list_extend_list_list_0 l its.toArray n b its2.toArray n2 hlong (by rw [List.size_toArray]; omega) (by omega)) ⟨e, e2, ?_⟩
  refine ⟨.non, _, I.lset (its' := its ++ its2) hH e (by simp) (r.append r2) ?_, rfl, q⟩
  rw [List.length_append]
  omega

def rPop : V → List V → Hp → VK → Prop := fun x vs H Q => ∃ l xs y, x = .ref l ∧ vs = [] ∧ H l = some (.lst xs) ∧ xs[xs.length - 1]? = some y ∧ Q y (upd H l (.lst xs.dropLast))
theorem mt_pop : MtM X "list.pop" rPop := by
  intro pins s σ H x vs v us Q I rx rv h
  obtain ⟨l, xs, y, rfl, rfl, hH, hy, q⟩ := h
  cases rx
  have hus := rv.zero
  subst hus
  obtain ⟨z, its, n, r, hl, e⟩ := I.lstM hH
  obtain ⟨u, hu, ru⟩ := r.get hy
  have hy' : its.toArray[its.toArray.size - 1]? = some u := by
    show its.toArray[its.length - 1]? = some u
    rw [← Array.getElem?_toList, ← hl]
    exact hu
  refine call_meets F.slot_list_pop ⟨_, e, rfl⟩ F.entry_list_pop (F.args_list_pop_1 _) (MeetsSeq.list_pop_last l its.toArray n u hy' (by rw [List.size_toArray]; omega)) ⟨e, ?_⟩
  refine ⟨y, _, I.lset (its' := its.dropLast) hH e ?_ r.dropLast ?_, ru, q⟩
  · show its.toArray.eraseIdxIfInBounds (its.toArray.size - 1) = its.dropLast.toArray
    rw [List.size_toArray, List.eraseIdxIfInBounds_toArray, erase_last]
  · rw [List.length_dropLast]
    omega

/-! ### list + list, list += list, list * int -/
def rCat : R2 := fun x y H Q => ∃ l b xs zs, x = .ref l ∧ y = .ref b ∧ H l = some (.lst xs) ∧ H b = some (.lst zs) ∧ xs.length + zs.length ≤ sizeLine ∧ ∀ p, H p = none → Q (.ref p) (upd H p (.lst (xs ++ zs)))
theorem op_cat : OpR X (binaryOp .Add) rCat := by
  intro pins s σ H x y v u Q I rx ry h
  obtain ⟨l, b, xs, zs, rfl, rfl, hH, hB, hz, q⟩ := h
  cases rx
  cases ry
  obtain ⟨z, its, n, r, hl, e⟩ := I.lstM hH
  obtain ⟨z2, its2, n2, r2, hl2, e2⟩ := I.lstM hB
  refine PySem.P.add_list e e2 ?_ (by rw [List.size_toArray, List.size_toArray]; omega)
  have ea : its.toArray ++ its2.toArray = (its ++ its2).toArray := by simp
  rw [ea]
  exact ⟨.ref _, _, I.lnew (t' := s.toks) (r.append r2) (by rw [List.length_append]; omega), rfl, q _ I.fresh⟩
/-- a list times an int (a negative one is nothing) -/
def rRep : R2 := fun x y H Q => ∃ l k xs, x = .ref l ∧ y = .int k ∧ H l = some (.lst xs) ∧ -(2 ^ 63) ≤ k ∧ k < 2 ^ 63 ∧ xs.length * k.toNat ≤ sizeLine ∧
  ∀ p, H p = none → Q (.ref p) (upd H p (.lst (List.replicate k.toNat xs).flatten))
theorem len_rep {α : Type} (xs : List α) (k : Nat) : (List.replicate k xs).flatten.length = k * xs.length := by
  induction k with
  | zero => simp
  | succ k ih => rw [List.replicate_succ, List.flatten_cons, List.length_append, ih, Nat.succ_mul, Nat.add_comm]
theorem op_rep : OpR X (binaryOp .Mult) rRep := by
  intro pins s σ H x y v u Q I rx ry h
  obtain ⟨l, k, xs, rfl, rfl, hH, h1, h2, hz, q⟩ := h
  cases rx
  obtain ⟨t, rfl⟩ := ry
  obtain ⟨z, its, n, r, hl, e⟩ := I.lstM hH
  have hlen : its.toArray.size * k.toNat ≤ sizeLine := by rw [List.size_toArray, ← hl]; exact hz
  have hcap : ¬ its.toArray.size * k.toNat > (2 ^ 63 - 1) / 8 := by
    have : (sizeLine : Nat) ≤ (2 ^ 63 - 1) / 8 := by decide
    omega
  have hfit : ¬ (!Builtin.List.listFitsIndex k) = true := by
    rw [fitsIndex_both h1 h2]
    exact Bool.false_ne_true
  have hlong : ¬ Builtin.List.listTooLong (its.toArray.size * k.toNat) = true := by
    rw [notLongL hlen]
    exact Bool.false_ne_true
  have hnew : List.foldl (fun x1 x2 => x1 ++ x2) #[] (List.replicate (if its.toArray.isEmpty = true then 0 else k.toNat) its.toArray) = (List.replicate k.toNat its).flatten.toArray := by
    have f0 : ∀ m : Nat, List.foldl (fun x1 x2 => x1 ++ x2) #[] (List.replicate m its.toArray) = (List.replicate m its).flatten.toArray := fun m => by
      have := foldl_rep its m []
      rw [List.nil_append] at this
      exact this
    rw [f0]
    cases its with
    | nil => simp
    | cons a r' => rw [if_neg (by simp)]
  refine wpAny_binaryOp_repeat_ref (T := "list") (U := "int") (by decide) ⟨_, e, rfl⟩ (fun s' => typeIs_int s' k t) noFill_list_mul F.fills_int_mul F.slot_int_rmul repeat_list F.slot_int_index.lookup
    (call_meets F.slot_int_rmul (typeIs_int s k t) F.entry_int_rmul (F.args_int_rmul_2 _ _) (int___rmul___int_list k t l its.toArray n)
      ⟨e, rfl, ⟨_, e, rfl⟩, call_meets F.slot_list_mul ⟨_, e, rfl⟩ F.entry_list_mul (F.args_list_mul_2 _ _) (AutoListH.list___mul___list_int_3 l its.toArray n k t hfit hcap hlong) ⟨e, ?_⟩⟩)
  rw [hnew]
  exact ⟨.ref _, _, I.lnew (t' := s.toks) (r.rep k.toNat) (by rw [len_rep, Nat.mul_comm]; exact hz), rfl, q _ I.fresh⟩

/-! ### del xs[i] -/
end

/-! ### xs[a:b] = ys -/
section
variable {prog : Program} {w : World} {A : Around} {E : Value → Shared → Prop} {s : Shared}
end

section
variable {X : Cx}
end
end L2

namespace Att
open PySem PySem.W PySem.Calls PyProof.Rows

/-! ### the script -/
theorem ints_of_wellAll {P : Params} {h : Heap} : ∀ (ns : List Int) (vs : List Value), WellAll P h vs (ns.map WData.int) → IntsAre vs ns := by
  intro ns
  induction ns with
  | nil =>
    intro vs w
    rw [List.map_nil] at w
    cases w
    exact .nil
  | cons n ns ih =>
    intro vs w
    rw [List.map_cons] at w
    cases w with
    | cons a b =>
      cases a
      exact .cons _ _ (ih _ b)

theorem script_of {l : OpenLaw} {n : Nat} (hn : l.most = some n) {P : Params} {h : Heap} {args : List WData} {vals : List Value}
    (hpre : l.row.toRowW.claim.pre args = true) (hwl : WellAll P h vals args) :
    ∃ a vs ns, vals = [Value.ref a] ∧ args = [WData.list (ns.map WData.int)] ∧ h.get? a = some { cls := .type "list", data := .seq vs.toArray } ∧ IntsAre vs ns ∧ ns.length ≤ n := by
  have hsh : WShape.hasAll [] args [.list .int] = true := (pre_splitW hpre).1
  have hc : l.pre.holds [] { args := args } = true := (pre_splitW hpre).2
  obtain ⟨d, r, rfl, h1, h2⟩ := hasAllW_cons hsh
  obtain rfl := hasAllW_nil h2
  obtain ⟨xs, rfl, h3⟩ := hasW_list h1
  obtain ⟨ns, rfl⟩ := items_int h3
  have hlen : ns.length ≤ n := by
    unfold OpenLaw.pre at hc
    have h4 : (WTm.not (.lt (.lit (.int (n : Int))) (.len (.arg 0)))).holds [] { args := [.list (ns.map .int)] } = true := by
      have h4 := (holds_andW hc).1
      rw [hn] at h4
      exact h4
    have h5 := condW_of h4 (w_not (w_lt w_lit (w_len_list (w_arg rfl))))
    rw [List.length_map] at h5
    refine Nat.le_of_not_lt fun q => ?_
    have q' : (n : Int) < ((ns.length : Nat) : Int) := by omega
    first
      | (rw [decide_eq_true q'] at h5; exact absurd h5 (by decide))
      | (simp at h5; omega)
  cases hwl with
  | cons w1 w2 =>
    cases w2
    cases w1 with
    | list ho hall => exact ⟨_, _, ns, rfl, rfl, ho, ints_of_wellAll ns _ hall, hlen⟩

theorem post_true (l : OpenLaw) (args : List WData) : l.row.toRowW.claim.post args (.bool true) args = true :=
  postW_of (r := l.row.toRowW) (X := (true == true))
    (show WShape.has [] (.bool true) .bool = true by first | rfl | decide | simp [WShape.has, WShape.arms, WShape.armsAll])
    (show (WTm.eq .res (.lit (.bool true))).value [] { args := args, res := some (.bool true), after := args } = some (.bool (true == true)) from w_eq_bool (w_res rfl) w_lit) rfl

/-! ### the attachment: holds_open's last premise (the goal 'hc' behind k_head) from a wpAny of the law's body -/
/-- the same from a codeAny of the CALL (for a layer whose function contracts speak of calls) -/
theorem attach_call {l : OpenLaw} {n : Nat} {q : Program} {loose : List Str} {XP : (Str → Option Value) → Heap → Prop} {YP : World → Heap → Prop} {d : DefRec}
    (hn : l.most = some n) (hdf : d.params.defaults = [])
    (call : ∀ (w : World) (s₀ s₁ : Shared) (mg mb : Str → Option Value) (fa : Addr) (o : Obj) (pm cd doc : Value) (a : Addr) (vs : List Value) (ns : List Int),
      Ground q loose [] XP w s₀ mg mb s₁.heap → YP w s₁.heap →
      s₁.heap.get? fa = some o → o.data = .func (docDef d.name d.params d.body d.scope pm cd doc) → s₁.heap.CodeRec cd d.name → mg d.name = some (.ref fa) →
      s₁.heap.get? a = some { cls := .type "list", data := .seq vs.toArray } → IntsAre vs ns → ns.length ≤ n → s₁.gens = #[] →
      codeAny (model l.prog w) callerA (.call (.ref fa) ⟨[.ref a], []⟩) (fun r s' => r = .ok (.ret (.bool true)) ∧ OldK s₁.heap s'.heap ∧ s'.os = s₁.os ∧ AllBare s'.gens) s₁) :
    WalkO q loose XP YP l.row.toRowW d [] (fun f vs => PySem.call f vs) := by
  intro w s₀ s₁ mg mb G Y fa o pm cd doc dV kV ho hd hcd hD hmg hg args vals as hpre hlay hrd hwl hlo
  obtain rfl : dV = .none := Dflts.none hD hdf
  obtain rfl : kV = .none := Dflts.noKw hD
  obtain ⟨a, vs, ns, rfl, rfl, hobj, hints, hlen⟩ := script_of hn hpre hwl
  refine enter_call (codeAny_mono (call w s₀ s₁ mg mb fa o pm cd doc a vs ns G Y ho (fd_plain hd) hcd hmg hobj hints hlen hg) fun r s' hq => ?_)
  obtain ⟨rfl, h2, h3, h4⟩ := hq
  exact ⟨.inl ⟨.bool true, .bool true, [], rfl, fun _ => rfl, .bool true, post_true l _, fun _ => ⟨List.Pairwise.nil, fun _ hm => (nomatch hm)⟩⟩, h2, h3, h4⟩

/-! ### rules over ANY heap (no ledger) from facts about the written part K: the library's own take a ledger (News) for what they write -/
section
variable {prog : Program} {w : World} {A : Around} {E : Value → Shared → Prop} {s : Shared} {K : Frag}

/-! the whole heap as the ledger: makes every rule that writes through a ledger a rule over any heap -/
def ledger (h : Heap) (L d : Addr) : List (Addr × Obj) := (List.range h.objs.size).filterMap fun a => if a = L ∨ a = d then none else (h.get? a).map fun o => (a, o)
end
end Att

namespace L2
open PySem PySem.Spec PyProof.Rows

theorem vals_ints : ∀ {vs : List Value} {ns : List Int}, IntsAre vs ns → Vals (ns.map V.int) vs
  | _, _, .nil => .nil
  | _, _, .cons n t h => .cons ⟨t, rfl⟩ (vals_ints h)

end L2

namespace L2
open PySem PySem.Spec PyProof.Rows

abbrev KOf {K : PySem.W.Frag} {h : Heap} (_ : K.In h) : PySem.W.Frag := K

end L2


/-! SHORT WORDS over the layer: a def of the text, its body, what a loop and a test want. -/
namespace L2
open PySem PySem.Spec PyProof.Rows

/-! ### the text by places -/
def defArgs (s : Stmt) : Arguments := match s with
  | .FunctionDef _ a _ _ _ _ _ _ _ _ => a
  | _ => { posonlyargs := [], args := [], vararg := none, kwonlyargs := [], kw_defaults := [], kwarg := none, defaults := [] }
def defBody (s : Stmt) : List Stmt := match s with
  | .FunctionDef _ _ b _ _ _ _ _ _ _ => b
  | _ => []
def defScope (s : Stmt) : Scope := match s with
  | .FunctionDef _ _ _ _ _ _ sc _ _ _ => sc
  | _ => { kind := .function, names := [], isGenerator := false, isCoroutine := false }

/-! ### no exception leaves a def -/
abbrev CX0 : CXT := fun _ _ _ _ _ _ => False
abbrev E0 : XK := fun _ _ _ => False
theorem pass0 {X : Cx} : Passes CX0 X E0 := fun _ _ _ _ _ _ _ h => h.elim

/-! ### a def (or method) of the text as it stands behind the top -/
structure Fun (K : PySem.W.Frag) (x qual : Str) (st : Stmt) (f : Addr) (fd : FuncData) : Prop where
  ex : ∃ (oc : Value) (od : Option Addr) (kV doc pm : Value) (an : Option Addr) (cdv ct : Value) (osl : Array (Option Value)),
    fd = PySem.W.fnOf x qual (defArgs st) (defBody st) (defScope st) .none kV doc pm an cdv ct ∧ K.lookup f = some ⟨oc, od, .func fd, osl⟩ ∧ PySem.W.codeIn K cdv qual = true
  kp : PySem.W.keepIn K (.ref f) = true
section
variable {P : Program} {w : World} {K : PySem.W.Frag} {mg : Str → Option Value} {base : Heap}
/-- THE RULE for a def: its body as a term of rules, and the reading of that term -/
theorem Fun.ok {x qual : Str} {st : Stmt} {f : Addr} {fd : FuncData} {N ps : List Str} {k : Nat} {sp : Sp} (F : Fun K x qual st f fd) (S : FnScope N ps (defScope st)) (len : ∀ vs H Q E, sp vs H Q E → vs.length = ps.length)
    (hbody : ∀ (cdv : Value) (A : Around) (outer : List Env) (s : Shared) (H : Hp) (vs : List V) (Q : VK) (E : XK), Room k (A.deeper (envOfC qual (defScope st) s.heap.objs.size f cdv)) → sp vs H Q E →
      ∃ t, PSs (cxOf CX0 P w K mg base N qual (defScope st) f cdv A outer s H E).nox (defBody st) t ∧ t { nx := fun _ H' => Q .non H', rt := Q } (start N vs) H) : FnOk P w K mg base CX0 (k + 1) f fd ps sp := by
  obtain ⟨oc, od, kV, doc, pm, an, cdv, ct, osl, rfl, lk, hcd⟩ := F.ex
  refine fn_of lk hcd S len fun A outer s H vs Q E hr hsp => ?_
  obtain ⟨t, h, q⟩ := hbody cdv A outer s H vs Q E hr hsp
  exact ⟨t, h.nox, q⟩
/-- how its arguments bind (no defaults): h is «fun _ _ _ _ _ _ us hl => match us, hl with | [_, _], _ => rfl», one _ a parameter -/
theorem Fun.binds {x qual : Str} {st : Stmt} {f : Addr} {fd : FuncData} {ps : List Str} (F : Fun K x qual st f fd)
    (h : ∀ (kV doc pm : Value) (an : Option Addr) (cdv ct : Value) (us : List Value), us.length = ps.length → bindArgs (PySem.W.fnOf x qual (defArgs st) (defBody st) (defScope st) .none kV doc pm an cdv ct) ⟨us, []⟩ = pure (ps.zip us)) : Binds K fd ps [] := by
  obtain ⟨oc, od, kV, doc, pm, an, cdv, ct, osl, rfl, lk, hcd⟩ := F.ex
  exact .all (h kV doc pm an cdv ct)
theorem fun_mk {x qual : Str} {st : Stmt} {f : Addr} {oc : Value} {od an : Option Addr} {osl : Array (Option Value)} {kV doc pm cdv ct : Value} (l : K.lookup f = some ⟨oc, od, .func (PySem.W.fnOf x qual (defArgs st) (defBody st) (defScope st) .none kV doc pm an cdv ct), osl⟩)
    (c : PySem.W.codeIn K cdv qual = true) (k : PySem.W.keepIn K (.ref f) = true) : Fun K x qual st f (PySem.W.fnOf x qual (defArgs st) (defBody st) (defScope st) .none kV doc pm an cdv ct) := ⟨⟨oc, od, kV, doc, pm, an, cdv, ct, osl, rfl, l, c⟩, k⟩
end
theorem small1000 {n : Nat} (h : n ≤ 1000) : n < sizeLine := Nat.lt_of_le_of_lt h (by decide)

/-! ### expressions in short: the name that stands in the i-th slot -/
section
variable {X : Cx}
theorem pv (i : Nat) {x : Str} {pos : Pos} (hN : X.N[i]? = some x := by rfl) (hv : Vis X.env.scope x := by first | exact Or.inl rfl | exact Or.inr (Or.inl rfl) | exact Or.inr (Or.inr rfl)) (hd : (x == ("__debug__" : Str)) = false := by decide)
    (hcd : (x == ("__classdict__" : Str)) = false := by decide) : PE X (.Name x pos) (tVar i) := pe_var hN hv hd hcd
end

/-! ### tests -/
theorem iteF {A B : Prop} (h : B) : if false = true then A else B := by
  rw [if_neg Bool.false_ne_true]
  exact h
theorem iteT {A B : Prop} (h : A) : if true = true then A else B := by
  rw [if_pos rfl]
  exact h
theorem ite2 {c A B : Prop} [Decidable c] (h1 : c → A) (h2 : ¬ c → B) : if c then A else B := by
  by_cases h : c
  · rw [if_pos h]
    exact h1 h
  · rw [if_neg h]
    exact h2 h
/-! ### heaps -/
/-- all that was tracked is as it was -/
def Same (H H' : Hp) : Prop := ∀ b o, H b = some o → H' b = some o
theorem Same.refl (H : Hp) : Same H H := fun _ _ h => h
theorem Same.trans {H H1 H2 : Hp} (a : Same H H1) (b : Same H1 H2) : Same H H2 := fun c o h => b c o (a c o h)
theorem Same.free {H H' : Hp} (e : Same H H') {l : Addr} (h : H' l = Option.none) : H l = Option.none := by
  cases q : H l with
  | none => rfl
  | some o =>
    rw [e l o q] at h
    cases h
theorem Same.seq {K : PySem.W.Frag} {H H' : Hp} {a : Addr} {xs : List V} (e : Same H H') (h : SqL K H a xs) : SqL K H' a xs := by
  rcases h with (h | ⟨o, h⟩) | h
  · exact .inl (.inl (e _ _ h))
  · exact .inl (.inr ⟨o, e _ _ h⟩)
  · exact .inr h

end L2


set_option Elab.async false
set_option linter.all false
set_option maxRecDepth 100000
set_option maxHeartbeats 4000000
/-! a list comprehension: its block runs in a context of its own -/
namespace L2
open PySem PySem.Spec PyProof.Rows

theorem lookup_mem {α : Type} : ∀ {cl : List (Str × α)} {x : Str} {c : α}, cl.lookup x = some c → (x, c) ∈ cl
  | [], _, _, h => by simp at h
  | (y, d) :: r, x, c, h => by
    rw [List.lookup_cons] at h
    cases e : x == y with
    | true =>
      rw [e] at h
      have e' : x = y := eq_of_beq e
      cases h
      rw [e']; exact List.mem_cons_self
    | false =>
      rw [e] at h
      exact List.mem_cons_of_mem _ (lookup_mem h)
theorem lookup_of_mem {α : Type} : ∀ {cl : List (Str × α)} {x : Str} {c : α}, (x, c) ∈ cl → ∃ c', cl.lookup x = some c'
  | [], _, _, h => nomatch h
  | (y, d) :: r, x, c, h => by
    rw [List.lookup_cons]
    cases e : x == y with
    | true => exact ⟨d, rfl⟩
    | false =>
      rcases List.mem_cons.mp h with h | h
      · cases h
        simp at e
      · exact lookup_of_mem h
theorem closure_go {env : Env} {f : (Str × NameKind) → List (Str × Addr) → Sem (ForInStep (List (Str × Addr)))}
    (h1 : ∀ x k cs, k ≠ NameKind.free → f (x, k) cs = pure (.yield cs)) (h2 : ∀ x cs c, env.cells.lookup x = some c → f (x, NameKind.free) cs = pure (.yield ((x, c) :: cs))) :
    ∀ (names : List (Str × NameKind)) (acc : List (Str × Addr)), (∀ x, (x, NameKind.free) ∈ names → ∃ c, env.cells.lookup x = some c) →
      ∃ cl, forIn names acc f = pure cl ∧ (∀ p ∈ cl, p ∈ acc ∨ env.cells.lookup p.1 = some p.2) ∧ (∀ p ∈ acc, p ∈ cl) ∧ ∀ x, (x, NameKind.free) ∈ names → ∃ c, (x, c) ∈ cl
  | [], acc, _ => ⟨acc, rfl, fun _ h => .inl h, fun _ h => h, fun _ h => nomatch h⟩
  | (x, k) :: r, acc, h => by
    by_cases hk : k = NameKind.free
    · subst hk
      obtain ⟨c, hc⟩ := h x List.mem_cons_self
      obtain ⟨cl, e, a, b, d⟩ := closure_go h1 h2 r ((x, c) :: acc) fun y hy => h y (List.mem_cons_of_mem _ hy)
      refine ⟨cl, ?_, fun p hp => ?_, fun p hp => b p (List.mem_cons_of_mem _ hp), fun y hy => ?_⟩
      · rw [List.forIn_cons, h2 x acc c hc, pure_bind]; exact e
      · rcases a p hp with q | q
        · rcases List.mem_cons.mp q with q | q
          · subst q; exact .inr hc
          · exact .inl q
        · exact .inr q
      · rcases List.mem_cons.mp hy with q | q
        · cases q; exact ⟨c, b _ List.mem_cons_self⟩
        · exact d y q
    · obtain ⟨cl, e, a, b, d⟩ := closure_go h1 h2 r acc fun y hy => h y (List.mem_cons_of_mem _ hy)
      refine ⟨cl, ?_, a, b, fun y hy => ?_⟩
      · rw [List.forIn_cons, h1 x k acc hk, pure_bind]; exact e
      · rcases List.mem_cons.mp hy with q | q
        · cases q; exact absurd rfl hk
        · exact d y q
theorem closure_ok {scope : Scope} {env : Env} (h : ∀ x, (x, NameKind.free) ∈ scope.names → ∃ c, env.cells.lookup x = some c) :
    ∃ cl, closureFor scope env = pure cl ∧ (∀ x c, cl.lookup x = some c → env.cells.lookup x = some c) ∧ ∀ x, (x, NameKind.free) ∈ scope.names → ∃ c, cl.lookup x = some c := by
  have go := closure_go (env := env) (f := fun x cs => match x with | (name, kind) => if (kind == NameKind.free) = true then do let a ← cellOf env name; pure (.yield ((name, a) :: cs)) else pure (.yield cs))
    (fun x k cs hk => by
      have : (k == NameKind.free) = false := by simpa using hk
      simp only [this, Bool.false_eq_true, if_false])
    (fun x cs c hc => by
      simp only [beq_self_eq_true, if_true]
      unfold cellOf
      rw [hc, pure_bind])
    scope.names [] h
  obtain ⟨cl, e, a, _, d⟩ := go
  refine ⟨cl, ?_, fun x c hx => ?_, fun x hx => ?_⟩
  · unfold closureFor
    simp only [bind_pure]
    exact e
  · rcases a _ (lookup_mem hx) with q | q
    · exact nomatch q
    · exact q
  · obtain ⟨c, hc⟩ := d x hx
    exact lookup_of_mem hc

theorem relabel_lookup {env : Env} {x : Str} {k : NameKind} : ∀ {names : List (Str × NameKind)},
    (names.map fun (n, k) => if (k == NameKind.free && env.scope.kind == .function && env.kindOf n == some .cell) then (n, NameKind.cell) else (n, k)).lookup x = some k →
      names.lookup x = some k ∨ (k = .cell ∧ names.lookup x = some .free)
  | [], h => by simp at h
  | (n, j) :: r, h => by
    have ih := @relabel_lookup env x k r
    rw [List.lookup_cons]
    change List.lookup x ((if (j == NameKind.free && env.scope.kind == .function && env.kindOf n == some .cell) = true then (n, NameKind.cell) else (n, j)) :: _) = _ at h
    by_cases hc : (j == NameKind.free && env.scope.kind == .function && env.kindOf n == some .cell) = true
    · rw [if_pos hc, List.lookup_cons] at h
      have hj : j = NameKind.free := by
        simp only [Bool.and_eq_true] at hc
        exact eq_of_beq hc.1.1
      cases hx : x == n with
      | true => rw [hx] at h; cases h; exact .inr ⟨rfl, by rw [hj]⟩
      | false => rw [hx] at h; exact ih h
    · rw [if_neg hc, List.lookup_cons] at h
      cases hx : x == n with
      | true => rw [hx] at h; exact .inl h
      | false => rw [hx] at h; exact ih h

/-- the context of a comprehension's block. NL: its own names; ix: the slots of the names that it reads from the def -/
def cxComp (X : Cx) (scope : Scope) (NL : List Str) (ix : List Nat) (cl : List (Str × Addr)) (C : Addr) (s₃ : Shared) (H₃ : Hp) (fp : List Addr) (pins : List (Addr × Obj)) : Cx where
  prog := X.prog
  w := X.w
  K := X.K
  mg := X.mg
  base := X.base
  A := X.A
  N := NL ++ ix.map fun j => X.N.getD j ""
  s₀ := s₃
  H₀ := H₃
  env := compEnvC scope cl C X.env
  outer := X.stack
  stack := X.stack
  ex := fp
  fn := fun _ => false
  calm := X.calm
  pn := X.pn ++ pins
  xe := fun _ _ => False

/-- the values of the block's names at a turn's start -/
def comp0 (NL : List Str) (ix : List Nat) (σ : St) : St := NL.map (fun _ => none) ++ ix.map fun j => σ.getD j none

/-- the tests of a comprehension -/
def PIfs (X : Cx) (ifs : List Expr) (t : TT) : Prop :=
  ∀ (pins : List (Addr × Obj)) (s : Shared) (σ : St) (H : Hp) (Q : Bool → Hp → Prop), Inv X pins σ H s → t σ H Q →
    wpAny (model X.prog X.w) X.A (forIn ifs true fun c r => if r = true then do let ok ← isTrue c X.env (eval c X.env); pure (ForInStep.yield ok) else pure (ForInStep.yield r)) (TP X pins σ Q) X.xe s
def tYes : TT := fun _ H Q => Q true H
theorem pifs_nil {X : Cx} : PIfs X [] tYes := fun _ _ _ H _ I h => wpAny_tests_nil ⟨H, I, h⟩
theorem pifs_one {X : Cx} {c : Expr} {t : TT} (h : PT X c t) : PIfs X [c] t := fun pins s σ H Q I q => wpAny_tests_one (h pins s σ H Q I q)

/-- what a comprehension is worth: W: the invariant by the turn, a measure, what stands in the new list -/
def tComp (NL : List Str) (ix : List Nat) (wi : TI) (g : TG) (tt : TT) (te : TE) : TE := fun σ H Q =>
  wi σ H fun J H1 => ∀ acc, H1 acc = none → ∃ W : Nat → Nat → List V → Hp → Prop, (∃ m, W 0 m [] (upd H1 acc (.lst []))) ∧
    ∀ i m ys H2, W i m ys H2 → H2 acc = some (.lst ys) ∧ ys.length < sizeLine ∧
      ((J.stop i H2 ∧ Q (.ref acc) H2) ∨ (J.go i H2 ∧ ∃ N : List V → Hp → Prop, (∀ ys' H', N ys' H' → ∃ m', m' < m ∧ W (i + 1) m' ys' H') ∧
        ∀ x H3, J.yld i H2 x H3 → g x (comp0 NL ix σ) H3 fun σ' H4 => σ'.drop NL.length = ix.map (fun j => σ.getD j none) ∧ tt σ' H4 fun b H5 =>
          if b = true then te σ' H5 fun v H6 => H6 acc = some (.lst ys) ∧ N (ys ++ [v]) (upd H6 acc (.lst (ys ++ [v]))) else N ys H5))

section
variable {X : Cx} {pins : List (Addr × Obj)} {σ : St} {H : Hp} {s : Shared}

structure CompScope (X : Cx) (scope : Scope) (NL : List Str) (ix : List Nat) : Prop where
  kind : scope.kind = .function
  cell : ∀ y ∈ scope.names, y.2 ≠ .cell
  names : ∀ y ∈ scope.names, y.2 = .local → scope.names.lookup y.1 = some .local
  free : ∀ y ∈ scope.names, y.2 = .free → X.env.kindOf y.1 = some .cell ∨ X.env.kindOf y.1 = some .free
  cap : ∀ j ∈ ix, ∃ x, X.N[j]? = some x ∧ scope.names.lookup x = some .free

theorem comp_inv {scope : Scope} {NL : List Str} {ix : List Nat} {cl : List (Str × Addr)} {fp : List Addr} {tn : Nat → Heap → Prop} {s₃ : Shared} {h₁ : Heap} {m : Str → Option Value} {tk : Nat}
    (S : CompScope X scope NL ix) (I : Inv X pins σ H s₃) (c1 : ∀ x c, cl.lookup x = some c → X.env.cells.lookup x = some c) (c2 : ∀ x, (x, NameKind.free) ∈ scope.names → ∃ c, cl.lookup x = some c)
    (hf : ∀ b ∈ fp, FpOk X pins H b) (ho : ∀ b ∈ fp, ∃ o, s₃.heap.get? b = some o) (hn : h₁.Ns s₃.heap.objs.size m) (old : ∀ b o, s₃.heap.get? b = some o → h₁.get? b = some o) :
    Inv (cxComp X scope NL ix cl s₃.heap.objs.size s₃ H fp pins) [] (comp0 NL ix σ) H { s₃ with heap := h₁, toks := tk } := by
  have e0 := I.env0
  have lt : ∀ b o, s₃.heap.get? b = some o → b ≠ s₃.heap.objs.size := fun b o e => Nat.ne_of_lt (Heap.lt_size e)
  have nst : ∀ b, b ≠ X.env.locals → b ∉ X.fs → b ∉ frs X.stack := fun b h1 h2 h3 => (List.mem_cons.mp (I.stkSub b h3)).elim h1 h2
  have ok : (cxComp X scope NL ix cl s₃.heap.objs.size s₃ H fp pins).Ok :=
    { mod := I.ok.mod
      kind := S.kind
      glob := I.ok.glob
      blt := I.ok.blt
      above := Nat.le_refl _
      inj := fun x y c h1 h2 => I.ok.inj x y c (c1 x c h1) (c1 y c h2)
      has := fun x hx => by
        have hfree : scope.names.lookup x = some .free := by
          rcases hx with hx | hx
          · rcases relabel_lookup hx with q | ⟨_, q⟩
            · exact absurd rfl (S.cell _ (lookup_mem q))
            · exact q
          · rcases relabel_lookup hx with q | ⟨z, _⟩
            · exact q
            · cases z
        exact c2 x (lookup_mem hfree)
      cab := fun _ _ z => nomatch z
      hd := I.ok.hd
      frames := I.ok.frames
      stk := .inl rfl
      exf := fun b hb => ⟨let ⟨o, e⟩ := ho b hb; lt b o e, fun x c hx => (hf b hb).2.2.2.2.1 x c (c1 x c hx)⟩
      bs := I.bs
      bsz := e0.bsz
      noex := fun b o e hb => by
        rcases (hf b hb).2.2.2.1 with z | z
        · exact I.ok.noex b o e z
        · exact absurd (Nat.lt_of_lt_of_le (Heap.lt_size e) (Nat.le_trans I.ok.bsz z)) (Nat.lt_irrefl _)
      exfs := fun b hb => nst b (hf b hb).2.1 (hf b hb).2.2.1
      funs := e0.funs
      frf := e0.frf }
  refine ⟨ok, rfl, I.bare, Un.kept old, ⟨m, hn, fun i x v e1 e2 e3 => ?_⟩, fun x c e => ?_, I.hok.fresh (Nat.le_refl _), fun x c e => I.freeC x c (c1 x c e), fun p hp => ?_, I.hok.kept old, ?_⟩
  · have hl : NL.length ≤ i := by
      rcases Nat.lt_or_ge i NL.length with z | z
      · exfalso
        unfold comp0 at e2
        rw [List.getElem?_append_left (by simpa using z), List.getElem?_map] at e2
        cases q : NL[i]? with
        | none => rw [q] at e2; cases e2
        | some y => rw [q] at e2; cases e2
      · exact z
    unfold comp0 at e2
    rw [List.getElem?_append_right (by simpa using hl), List.length_map, List.getElem?_map] at e2
    change (NL ++ ix.map fun j => X.N.getD j "")[i]? = some x at e1
    rw [List.getElem?_append_right hl, List.getElem?_map] at e1
    cases q : ix[i - NL.length]? with
    | none => rw [q] at e1; cases e1
    | some j =>
      rw [q] at e1 e2
      have e1' : X.N.getD j "" = x := Option.some.inj e1
      have e2' : σ.getD j none = some v := Option.some.inj e2
      obtain ⟨x', hx', hfr⟩ := S.cap j (List.mem_of_getElem? q)
      have exx : x' = x := by
        rw [← e1', List.getD_eq_getElem?_getD, hx']; rfl
      subst exx
      have hσ : σ[j]? = some (some v) := by
        rw [List.getD_eq_getElem?_getD] at e2'
        cases z : σ[j]? with
        | none => rw [z] at e2'; cases e2'
        | some o => rw [z] at e2'; exact congrArg some e2'
      have kd := S.free _ (lookup_mem hfr) rfl
      have vis : Vis X.env.scope x' := by
        rcases kd with z | z
        · exact .inr (.inl z)
        · exact .inr (.inr z)
      obtain ⟨m', hn', hl'⟩ := I.loc
      obtain ⟨u, r, l⟩ := hl' j x' v hx' hσ vis
      refine ⟨u, r, .inr ?_⟩
      have hk' : (compEnvC scope cl s₃.heap.objs.size X.env).kindOf x' = some .cell ∨ (compEnvC scope cl s₃.heap.objs.size X.env).kindOf x' = some .free := by
        rcases e3 with z | z | z
        · rcases relabel_lookup z with w | ⟨w, _⟩
          · rw [hfr] at w; cases w
          · cases w
        · exact .inl z
        · exact .inr z
      refine ⟨hk', ?_⟩
      obtain ⟨c, hc⟩ := c2 x' (lookup_mem hfr)
      rcases l with ⟨k, _⟩ | ⟨k, c', ec, o, ho', hd⟩
      · rcases kd with z | z
        · rw [k] at z; cases z
        · rw [k] at z; cases z
      · have : c' = c := by
          have := c1 x' c hc
          rw [ec] at this
          exact Option.some.inj this
        subst this
        exact ⟨c', hc, o, old _ _ ho', hd⟩
  · obtain ⟨v, o, ho', hd⟩ := I.cell x c (c1 x c e)
    exact ⟨v, o, old _ _ ho', hd⟩
  · have hp' : p ∈ X.pn ++ pins := by
      rcases List.mem_append.mp hp with z | z
      · exact z
      · exact nomatch z
    obtain ⟨e, n, ne, nf, d⟩ := I.pin p hp'
    exact ⟨old _ _ e, n, lt _ _ e, nst _ ne nf, d⟩
  · show (NL.map (fun _ => (none : Option V)) ++ ix.map fun j => σ.getD j none).length = (NL ++ ix.map fun j => X.N.getD j "").length
    simp
/-- the block of a comprehension, from the iterator on -/
theorem comp_run {scope : Scope} {NL : List Str} {ix : List Nat} {elt tg iter : Expr} {ifs : List Expr} {pos : Pos} {g : TG} {tt : TT} {te : TE} {cl : List (Str × Addr)} {fp : List Addr} {it : Addr} {tn : Nat → Heap → Prop} {J : It} {Q : VK}
    {E : Value → Shared → Prop} {RR : Value → Addr → Result → Shared → Prop}
    (hc : X.calm = true) (S : CompScope X scope NL ix) (c1 : ∀ x c, cl.lookup x = some c → X.env.cells.lookup x = some c) (c2 : ∀ x, (x, NameKind.free) ∈ scope.names → ∃ c, cl.lookup x = some c)
    (hb : ∀ (cl : List (Str × Addr)) (C : Addr) (s₃ : Shared) (H₃ : Hp) (fp : List Addr) (pins : List (Addr × Obj)), PG (cxComp X scope NL ix cl C s₃ H₃ fp pins) tg g ∧ PIfs (cxComp X scope NL ix cl C s₃ H₃ fp pins) ifs tt ∧ PE (cxComp X scope NL ix cl C s₃ H₃ fp pins) elt te)
    (I : Inv X pins σ H s) (T : Turn X.prog X.w X.K tg J fp it tn) (st : tn 0 s.heap) (hf : ∀ b ∈ fp, FpOk X pins H b)
    (q : ∀ acc, H acc = none → ∃ W : Nat → Nat → List V → Hp → Prop, (∃ m, W 0 m [] (upd H acc (.lst []))) ∧
      ∀ i m ys H2, W i m ys H2 → H2 acc = some (.lst ys) ∧ ys.length < sizeLine ∧
      ((J.stop i H2 ∧ Q (.ref acc) H2) ∨ (J.go i H2 ∧ ∃ N : List V → Hp → Prop, (∀ ys' H', N ys' H' → ∃ m', m' < m ∧ W (i + 1) m' ys' H') ∧
        ∀ x H3, J.yld i H2 x H3 → g x (comp0 NL ix σ) H3 fun σ' H4 => σ'.drop NL.length = ix.map (fun j => σ.getD j none) ∧ tt σ' H4 fun b H5 =>
          if b = true then te σ' H5 fun v H6 => H6 acc = some (.lst ys) ∧ N (ys ++ [v]) (upd H6 acc (.lst (ys ++ [v]))) else N ys H5)))
    (hRR : ∀ (acc C : Addr) (H' : Hp) (s' : Shared) (m' : Str → Option Value), Inv X pins σ H' s' → s'.heap.Ns C m' → FpOk X pins H' C → Q (.ref acc) H' → RR (.ref acc) C (.ok .next) s') :
    wpAny (model X.prog X.w) X.A (newList []) (fun acc s₃ => wpAny (model X.prog X.w) X.A (newFunctionEnv scope X.env.globals cl [] X.env.qual none .none (some X.env)) (fun cenv s₄ =>
      codeAny (model X.prog X.w) X.A (.compStart (.ListComp elt [⟨tg, iter, ifs, 0⟩] scope pos) 0 (.ref it) acc { cenv with scope := relabel scope X.env }) (RR acc cenv.locals) s₄) E s₃) E s := by
  refine wpAny_newObj_type (wpAny_newFunctionEnv S.cell (by intro y hy; simp at hy) (fun h₁ hns₁ hsb₁ => ?_) S.kind)
  have I3 : Inv X pins σ (upd H s.heap.objs.size (.lst [])) { s with heap := s.heap.push { cls := .type "list", data := .seq ([] : List Value).toArray }, toks := s.toks } := I.lnew (its := []) .nil (Nat.zero_le _)
  have hfr : H s.heap.objs.size = none := I.hok.fresh (Nat.le_refl _)
  generalize hs3 : ({ s with heap := s.heap.push { cls := .type "list", data := .seq ([] : List Value).toArray }, toks := s.toks } : Shared) = s₃ at I3
  have hsz : s₃.heap.objs.size = s.heap.objs.size + 1 := by rw [← hs3]; exact Heap.size_push ..
  have old1 : ∀ b o, s.heap.get? b = some o → s₃.heap.get? b = some o := fun b o e => by rw [← hs3]; exact Heap.get?_push_of_some _ e
  have key : codeAny (model X.prog X.w) X.A (.compStart (.ListComp elt [⟨tg, iter, ifs, 0⟩] scope pos) 0 (.ref it) (.ref s.heap.objs.size) (compEnvC scope cl s₃.heap.objs.size X.env))
      (RR (.ref s.heap.objs.size) s₃.heap.objs.size) { s₃ with heap := h₁, toks := s₃.toks + 0 } := by
    have hns : h₁.Ns s₃.heap.objs.size (fun _ => none) := by
      have := hns₁
      rw [← hs3]
      exact this
    have hsb : Heap.SameBut s₃.heap.objs.size (s₃.heap.push { cls := .type "dict", data := .dict #[] }) h₁ := by
      have := hsb₁
      rw [← hs3]
      exact this
    have old : ∀ b o, s₃.heap.get? b = some o → h₁.get? b = some o := fun b o e => hsb.extBut b o (Nat.ne_of_lt (Heap.lt_size e)) (Heap.get?_push_of_some _ e)
    have hf3 : ∀ b ∈ fp, FpOk X pins (upd H s.heap.objs.size (.lst [])) b := fun b hb' => by
      obtain ⟨o, e, _⟩ := T.obj 0 _ st b hb'
      have ne : b ≠ s.heap.objs.size := Nat.ne_of_lt (Heap.lt_size e)
      exact ⟨by rw [upd_ne ne]; exact (hf b hb').1, (hf b hb').2⟩
    have ho3 : ∀ b ∈ fp, ∃ o, s₃.heap.get? b = some o := fun b hb' => by
      obtain ⟨o, e, _⟩ := T.obj 0 _ st b hb'
      exact ⟨o, old1 b o e⟩
    have st1 : tn 0 h₁ := T.keep 0 _ _ st fun b hb' o e => old b o (old1 b o e)
    have I4 := comp_inv (tn := tn) (tk := s₃.toks + 0) S I3 c1 c2 hf3 ho3 hns old
    obtain ⟨W, ⟨m0, w0⟩, turn⟩ := q s.heap.objs.size hfr
    obtain ⟨hg, ht, he⟩ := hb cl s₃.heap.objs.size s₃ (upd H s.heap.objs.size (.lst [])) fp pins
    generalize hX' : cxComp X scope NL ix cl s₃.heap.objs.size s₃ (upd H s.heap.objs.size (.lst [])) fp pins = X' at I4 hg ht he
    have p1 : X'.prog = X.prog := by rw [← hX']; rfl
    have p2 : X'.w = X.w := by rw [← hX']; rfl
    have p3 : X'.K = X.K := by rw [← hX']; rfl
    have p4 : X'.A = X.A := by rw [← hX']; rfl
    have p5 : X'.env = compEnvC scope cl s₃.heap.objs.size X.env := by rw [← hX']; rfl
    have p6 : X'.calm = true := by rw [← hX']; exact hc
    have p7 : X'.xe = fun _ _ => False := by rw [← hX']; rfl
    have stat : ∀ {H' : Hp}, (∀ b ∈ fp, H' b = none) → ∀ b ∈ fp, FpOk X' [] H' b := fun {H'} hn b hb' => by
      have z := hf3 b hb'
      obtain ⟨o, eo⟩ := ho3 b hb'
      rw [← hX']
      refine ⟨hn b hb', Nat.ne_of_lt (Heap.lt_size eo), fun q => (List.mem_cons.mp (I3.stkSub b q)).elim z.2.1 z.2.2.1, .inl hb', fun x c hx => z.2.2.2.2.1 x c (c1 x c hx), fun p hp => ?_⟩
      rcases List.mem_append.mp hp with w | w
      · exact z.2.2.2.2.2 p w
      · exact nomatch w
    have fin : ∀ i n ys H' s', Inv X' [] (comp0 NL ix σ) H' s' → W i n ys H' → Q (.ref s.heap.objs.size) H' → RR (.ref s.heap.objs.size) s₃.heap.objs.size (.ok .next) s' := fun i n ys H' s' I' w' q' => by
      obtain ⟨m', hn', _⟩ := I'.loc
      have hos : s'.os = s₃.os := by have := I'.os; rw [← hX'] at this; exact this
      have hu : Un (frs X.stack) fp (upd H s.heap.objs.size (.lst [])) H' s₃.heap s'.heap := by have := I'.base; rw [← hX'] at this; exact this
      have hk : HOk X.prog X.w H' s'.heap := by have := I'.hok; rw [← hX'] at this; exact this
      have hfC : H' s₃.heap.objs.size = none := by have := I'.free; rw [← hX'] at this; exact this
      have hnC : s'.heap.Ns s₃.heap.objs.size m' := by rw [p5] at hn'; exact hn'
      exact hRR _ _ H' s' m' (I3.call' hos hu hk I'.bare fun b hb' => ⟨(hf3 b hb').2.2.2.1, (hf3 b hb').2.1, (hf3 b hb').2.2.2.2.1, (hf3 b hb').2.2.2.2.2⟩) hnC (I3.fpOk (Nat.le_refl _) hfC) q'
    have loop : ∀ s₄ : Shared, Inv X' [] (comp0 NL ix σ) (upd H s.heap.objs.size (.lst [])) s₄ → tn 0 s₄.heap → codeAny (model X.prog X.w) X.A (.compLoop (.ListComp elt [⟨tg, iter, ifs, 0⟩] scope pos) 0 (.ref it) (.ref s.heap.objs.size) (compEnvC scope cl s₃.heap.objs.size X.env))
        (RR (.ref s.heap.objs.size) s₃.heap.objs.size) s₄ := fun s₄ I4 st1 => by
      refine codeAny_loop rfl (fun n s' => ∃ i ys H', Inv X' [] (comp0 NL ix σ) H' s' ∧ tn i s'.heap ∧ (∀ b ∈ fp, H' b = none) ∧ W i n ys H') (fun n s' hI => ?_) m0 ⟨0, [], _, I4, st1, fun b hb' => (hf3 b hb').1, w0⟩
      obtain ⟨i, ys, H', I', st', fr', w'⟩ := hI
      show wpAny _ X.A ((compTurn (.ListComp elt [⟨tg, iter, ifs, 0⟩] scope pos) 0 (.ref it) (.ref s.heap.objs.size) (compEnvC scope cl s₃.heap.objs.size X.env)).onRaise (fun x => do noteFrame x (compEnvC scope cl s₃.heap.objs.size X.env); theTreesLotGoes x)) _ _ s'
      refine wpAny_noted ?_
      rw [compTurn_list]
      obtain ⟨hacc, hz8, alt⟩ := turn i n ys H' w'
      rcases alt with ⟨stop, qn⟩ | ⟨go, N, hN, step⟩
      · have d := T.done X' p1 p2 p3 p6 i [] s' (comp0 NL ix σ) H' (notedBy (model X.prog X.w) X.A (compEnvC scope cl s₃.heap.objs.size X.env) fun e s' => RR (.ref s.heap.objs.size) s₃.heap.objs.size (.error e) s') I' (stat fr') st' stop
        rw [p4] at d
        refine wpAny_bind (wpAny_standAt (wpAny_bind (thn d fun r s1 ⟨hr, I1⟩ => ?_)))
        subst hr
        exact wpAny_pure (fin i n ys H' s1 I1 w' qn)
      · have d := T.item X' p1 p2 p3 p6 i [] s' (comp0 NL ix σ) H' (notedBy (model X.prog X.w) X.A (compEnvC scope cl s₃.heap.objs.size X.env) fun e s' => RR (.ref s.heap.objs.size) s₃.heap.objs.size (.error e) s') I' (stat fr') st' go
        rw [p4] at d
        refine wpAny_bind (wpAny_standAt (wpAny_bind (thn d fun r s1 ⟨u, hr, h4⟩ => ?_)))
        subst hr
        refine wpAny_bind (thn h4 fun _ s5 ⟨x, H5, I5, r5, y5, st5, fr5⟩ => ?_)
        have I5' := I5.pinned (stat fr5) (T.obj _ _ st5)
        have nofail : ∀ {α : Type} {t : Sem α} {R : α → Shared → Prop} {sx : Shared}, wpAny (model X'.prog X'.w) X'.A t R X'.xe sx → wpAny (model X.prog X.w) X.A t R (notedBy (model X.prog X.w) X.A (compEnvC scope cl s₃.heap.objs.size X.env) fun e s' => RR (.ref s.heap.objs.size) s₃.heap.objs.size (.error e) s') sx := fun {α t R sx} hh => by
          rw [p1, p2, p4, p7] at hh
          exact wpAny_mono hh (fun _ _ z => z) fun _ _ z => z.elim
        have again : ∀ {σ7 : St} {H7 : Hp} {s7 : Shared} {ys' : List V}, σ7.drop NL.length = ix.map (fun j => σ.getD j none) → Inv X' ([] ++ pinsAt fp s5.heap) σ7 H7 s7 → (∃ m', m' < n ∧ W (i + 1) m' ys' H7) → ∃ m, m < n ∧ ∃ i ys H', Inv X' [] (comp0 NL ix σ) H' s7 ∧ tn i s7.heap ∧ (∀ b ∈ fp, H' b = none) ∧ W i m ys H' := fun {σ7 H7 s7 ys'} hσ I7 n7 => by
          obtain ⟨m', hm, w7⟩ := n7
          have Iw : Inv X' ([] ++ pinsAt fp s5.heap) (comp0 NL ix σ) H7 s7 := I7.weak (by rw [I7.len, I'.len]) fun j v hj => by
            have hlj : NL.length ≤ j := by
              rcases Nat.lt_or_ge j NL.length with z | z
              · exfalso
                unfold comp0 at hj
                rw [List.getElem?_append_left (by simpa using z), List.getElem?_map] at hj
                cases q : NL[j]? with
                | none => rw [q] at hj; cases hj
                | some y => rw [q] at hj; cases hj
              · exact z
            unfold comp0 at hj
            rw [List.getElem?_append_right (by simpa using hlj), List.length_map, ← hσ, List.getElem?_drop] at hj
            rw [← hj]
            congr 1
            omega
          refine ⟨m', hm, i + 1, ys', H7, Iw.unpinned, T.keep _ _ _ st5 fun b hb' o e => (I7.pin (b, o) (List.mem_append_right _ (List.mem_append_right _ (mem_pinsAt hb' e)))).1, fun b hb' => ?_, w7⟩
          obtain ⟨o, e, d⟩ := T.obj _ _ st5 b hb'
          exact (I7.pin (b, o) (List.mem_append_right _ (List.mem_append_right _ (mem_pinsAt hb' e)))).2.1
        have hg' := nofail (hg _ s5 (comp0 NL ix σ) H5 x u _ I5' r5 (step x H5 y5))
        rw [p5] at hg'
        refine wpAny_bind (thn hg' fun _ s6 ⟨σ6, H6, I6, hσ6, q6⟩ => ?_)
        have ht' := nofail (ht _ s6 σ6 H6 _ I6 q6)
        rw [p5] at ht'
        refine wpAny_bind (thn ht' fun ok s7 ⟨H7, I7, q7⟩ => ?_)
        cases ok with
        | false =>
          have q7' : N ys H7 := by simpa using q7
          exact wpAny_pure ⟨rfl, again hσ6 I7 (hN _ _ q7')⟩
        | true =>
          have q7' := (if_pos rfl).mp q7
          have he' := nofail (he _ s7 σ6 H7 _ I7 q7')
          rw [p5] at he'
          refine wpAny_bind (wpAny_bind (thn he' fun v s8 ⟨y, H8, I8, r8, ha8, q8⟩ => ?_))
          have ap := nofail (mt_append _ s8 σ6 H8 (.ref s.heap.objs.size) [y] (.ref s.heap.objs.size) [v] (fun _ H9 => H9 = upd H8 s.heap.objs.size (.lst (ys ++ [y]))) I8 rfl (.cons r8 .nil) ⟨_, ys, y, rfl, rfl, ha8, hz8, rfl⟩)
          refine wpAny_bind (thn ap fun _ s9 ⟨z, H9, I9, r9, e9⟩ => wpAny_pure (wpAny_pure ⟨rfl, ?_⟩))
          subst e9
          exact again hσ6 I9 (hN _ _ q8)
    exact codeAny_compStart_list (loop _ I4 st1) (T.self X.A 0 _ _ _ st1 (loop _ I4 st1))
  exact key

/-- [elt for target in iter if ..] -/
theorem pe_comp {scope : Scope} {NL : List Str} {ix : List Nat} {elt tg iter : Expr} {ifs : List Expr} {pos : Pos} {wi : TI} {g : TG} {tt : TT} {te : TE}
    (hc : X.calm = true) (hi : PI X tg iter wi) (S : CompScope X scope NL ix)
    (hb : ∀ (cl : List (Str × Addr)) (C : Addr) (s₃ : Shared) (H₃ : Hp) (fp : List Addr) (pins : List (Addr × Obj)), PG (cxComp X scope NL ix cl C s₃ H₃ fp pins) tg g ∧ PIfs (cxComp X scope NL ix cl C s₃ H₃ fp pins) ifs tt ∧ PE (cxComp X scope NL ix cl C s₃ H₃ fp pins) elt te)
    (hs : ∀ x, foldedSetIterable iter X.env x = pure x := by intro _; rfl) : PE X (.ListComp elt [⟨tg, iter, ifs, 0⟩] scope pos) (tComp NL ix wi g tt te) := by
  intro pins s σ H Q I h
  obtain ⟨cl, hcl, c1, c2⟩ := closure_ok (scope := scope) (env := X.env) fun x hx => by
    rcases S.free _ hx rfl with z | z
    · exact I.ok.has x (.inl z)
    · exact I.ok.has x (.inr z)
  rw [eval_ListComp]
  refine wpAny_comprehension_free (use := none) rfl hs hcl S.kind S.names (thn (hi pins s σ H _ I h) fun xv s1 h1 => thn h1 fun itv s2 h2 => ?_)
  obtain ⟨it, fp, tn, J, H2, rfl, I2, T, st2, f2, q⟩ := h2
  refine comp_run (RR := fun acc C => compPost (model X.prog X.w) X.A X.xe none (EP X pins σ Q) acc C) hc S c1 c2 hb I2 T st2 f2 q ?_
  intro acc C H' s' m' I' hn fC q'
  refine ⟨m', hn, fun h' sb => ⟨.ref acc, H', ?_, rfl, q'⟩⟩
  exact I'.turned (t' := s'.toks) (fun b o hb e => sb.extBut b o hb e) fC.1 fC.2.1 fC.2.2.2.1 fC.2.2.2.2.1 fC.2.2.2.2.2

/-- name = [elt for target in iter if ..]: the store is done within -/
theorem ps_comp {i : Nat} {y : Str} {py spos : Pos} {scope : Scope} {NL : List Str} {ix : List Nat} {elt tg iter : Expr} {ifs : List Expr} {pos : Pos} {wi : TI} {g : TG} {tt : TT} {te : TE}
    (hN : X.N.Nodup) (hiy : X.N[i]? = some y) (hy : Loc X.env.scope y)
    (hc : X.calm = true) (hi : PI X tg iter wi) (S : CompScope X scope NL ix)
    (hb : ∀ (cl : List (Str × Addr)) (C : Addr) (s₃ : Shared) (H₃ : Hp) (fp : List Addr) (pins : List (Addr × Obj)), PG (cxComp X scope NL ix cl C s₃ H₃ fp pins) tg g ∧ PIfs (cxComp X scope NL ix cl C s₃ H₃ fp pins) ifs tt ∧ PE (cxComp X scope NL ix cl C s₃ H₃ fp pins) elt te)
    (hsw : swapsWith (.ListComp elt [⟨tg, iter, ifs, 0⟩] scope pos) (some (.Name y py)) spos.line X.env = pure true := by rfl)
    (hs : ∀ x, foldedSetIterable iter X.env x = pure x := by intro _; rfl)
    (hf : X.fn y = true ∨ X.env.scope.names.lookup y = some .local := by first | exact .inl rfl | exact .inr rfl | assumption) :
    PS X (.Assign [.Name y py] (.ListComp elt [⟨tg, iter, ifs, 0⟩] scope pos) spos) (tAsg (tComp NL ix wi g tt te) (gName i)) := by
  intro pins s σ H D I h
  obtain ⟨cl, hcl, c1, c2⟩ := closure_ok (scope := scope) (env := X.env) fun x hx => by
    rcases S.free _ hx rfl with z | z
    · exact I.ok.has x (.inl z)
    · exact I.ok.has x (.inr z)
  rw [exec_Assign_Name_used _ _ _ _ hsw]
  refine wpAny_bind (wpAny_standAt (wpAny_bind ?_))
  show wpAny _ X.A (do let _ ← comprehension (.ListComp elt [⟨tg, iter, ifs, 0⟩] scope pos) scope X.env _ (newList []) false (eval iter X.env) (some (assign (.Name y py) X.env))) _ _ s
  refine wpAny_bind (thn (wpAny_comprehension_free (use := some (assign (.Name y py) X.env)) (Q := fun _ s' => SP X pins D .next s') rfl hs hcl S.kind S.names
    (thn (hi pins s σ H _ I h) fun xv s1 h1 => thn h1 fun itv s2 h2 => ?_)) fun _ s' hq => wpAny_pure (wpAny_pure hq))
  obtain ⟨it, fp, tn, J, H2, rfl, I2, T, st2, f2, q⟩ := h2
  refine comp_run (RR := fun acc C => compPost (model X.prog X.w) X.A X.xe (some (assign (.Name y py) X.env)) (fun _ s' => SP X pins D .next s') acc C) (Q := fun x H1 => gName i x σ H1 D.nx) hc S c1 c2 hb I2 T st2 f2 q ?_
  intro acc C H' s' m' I' hn fC q'
  show wpAny _ X.A (assign (.Name y py) X.env (.ref acc)) _ _ _
  refine wpAny_assign_Name (store_ok2 I' hN hiy hy (v := .ref acc) rfl (fun s'' I'' hsb => ?_) hf)
  obtain ⟨a, sb, ha⟩ := hsb
  have hne : C ≠ a := by
    rcases ha with z | z
    · rw [z]; exact fC.2.1
    · exact fun w => fC.2.2.2.2.1 y a z w.symm
  refine ⟨m', hn.sameBut sb hne, fun h' sb' => ⟨_, H', ?_, q'⟩⟩
  exact I''.turned (t' := s''.toks) (fun b o hb e => sb'.extBut b o hb e) fC.1 fC.2.1 fC.2.2.2.1 fC.2.2.2.2.1 fC.2.2.2.2.2
/-- a comprehension of n turns, by what holds between two of them -/
theorem comp_by {J : It} {NL : List Str} {ix : List Nat} {g : TG} {tt : TT} {te : TE} {σ : St} {H1 : Hp} {Qs : Hp → Prop} {acc : Addr} (n : Nat) (hn : n < 1000) (Pv : Nat → List V → Hp → Prop)
    (hacc : ∀ i ys H2, Pv i ys H2 → H2 acc = some (.lst ys) ∧ ys.length ≤ i) (h0 : Pv 0 [] (upd H1 acc (.lst []))) (hstop : ∀ ys H2, Pv n ys H2 → J.stop n H2 ∧ Qs H2)
    (hturn : ∀ i ys H2, i < n → Pv i ys H2 → J.go i H2 ∧ ∀ x H3, J.yld i H2 x H3 → g x (comp0 NL ix σ) H3 fun σ' H4 => σ'.drop NL.length = ix.map (fun j => σ.getD j none) ∧ tt σ' H4 fun b H5 =>
      if b = true then te σ' H5 fun v H6 => H6 acc = some (.lst ys) ∧ Pv (i + 1) (ys ++ [v]) (upd H6 acc (.lst (ys ++ [v]))) else Pv (i + 1) ys H5) :
    ∃ W : Nat → Nat → List V → Hp → Prop, (∃ m, W 0 m [] (upd H1 acc (.lst []))) ∧
    ∀ i m ys H2, W i m ys H2 → H2 acc = some (.lst ys) ∧ ys.length < sizeLine ∧
      ((J.stop i H2 ∧ Qs H2) ∨ (J.go i H2 ∧ ∃ N : List V → Hp → Prop, (∀ ys' H', N ys' H' → ∃ m', m' < m ∧ W (i + 1) m' ys' H') ∧
        ∀ x H3, J.yld i H2 x H3 → g x (comp0 NL ix σ) H3 fun σ' H4 => σ'.drop NL.length = ix.map (fun j => σ.getD j none) ∧ tt σ' H4 fun b H5 =>
          if b = true then te σ' H5 fun v H6 => H6 acc = some (.lst ys) ∧ N (ys ++ [v]) (upd H6 acc (.lst (ys ++ [v]))) else N ys H5)) := by
  refine ⟨fun i m ys H2 => i ≤ n ∧ m = n - i ∧ Pv i ys H2, ⟨n, Nat.zero_le _, rfl, h0⟩, fun i m ys H2 ⟨hi, hm, hp⟩ => ?_⟩
  obtain ⟨a1, a2⟩ := hacc i ys H2 hp
  refine ⟨a1, small1000 (by omega), ?_⟩
  rcases Nat.lt_or_ge i n with lt | ge
  · obtain ⟨go, tn⟩ := hturn i ys H2 lt hp
    exact .inr ⟨go, Pv (i + 1), fun ys' H' hN => ⟨n - (i + 1), by omega, by omega, rfl, hN⟩, tn⟩
  · have e : i = n := by omega
    subst e
    exact .inl (hstop ys H2 hp)
end
end L2


set_option Elab.async false
set_option linter.all false
set_option maxRecDepth 100000
set_option maxHeartbeats 4000000
/-! what is walked: a text's signs, zip, enumerate; slices of texts; isinstance -/
namespace L2
open PySem PySem.Spec PyProof.Rows

section
variable {prog : Program} {w : World} {A : Around} {E : Value → Shared → Prop} {s : Shared}
theorem nextOf_tuple_item {it t : Addr} {i : Nat} {items : Array Value} {x : Value} {Q : Value → Shared → Prop} (hit : s.heap.IsTupleIter it t i)
    (ht : s.heap.IsTuple t items) (hx : items[i]? = some x)
    (hQ : ∀ h', h'.IsTupleIter it t (i + 1) → Heap.SameBut it s.heap h' → Q x { s with heap := h' }) :
    wpAny (model prog w) A (Builtin.SmallTypes.nextOf (.ref it)) Q E s := by
  obtain ⟨o, ho, hc, hd⟩ := id hit
  obtain ⟨ol, hol, _, nl, hdl⟩ := ht
  unfold Builtin.SmallTypes.nextOf
  refine wpAny_bind (wpAny_callSpecial?_slot (name := Str.ofString "__next__") hit.typeIs F.slot_tuple_iterator_next
    (wpAny_call_entry F.slot_tuple_iterator_next hit.typeIs F.entry_tuple_iterator_next ?_ (F.args_tuple_iterator_next_1 _)))
  show wpAny _ _ (field (.ref it) 0 >>= _) _ _ s
  refine wpAny_bind (wpAny_field ho hd (x := .ref t) rfl ?_)
  show wpAny _ _ (if (Value.ref t == Value.none) = true then _ else _) _ _ s
  rw [if_neg (show ¬ ((Value.ref t == Value.none) = true) from Bool.false_ne_true)]
  show wpAny _ _ (field (.ref it) 1 >>= _) _ _ s
  refine wpAny_bind (wpAny_field ho hd (x := .int i 0) rfl ?_)
  show wpAny _ _ (seqItems? (.ref t) >>= _) _ _ s
  refine wpAny_bind (wpAny_seqItems hol hdl ?_)
  simp only [Int.toNat_natCast, hx]
  refine wpAny_bind (wpAny_setField ho hd (by simp) (wpAny_pure ⟨x, rfl, wpAny_pure (hQ _ ?_ (Heap.SameBut.update ..))⟩))
  exact ⟨_, Heap.get?_update_self _ ho (Obj.isFreed_of_fields (Obj.data_mapFields hd _)), (Obj.cls_mapFields ..).trans hc, by
    rw [Obj.data_mapFields hd]; simp [rawInt]⟩
theorem nextOf_tuple_end {it t : Addr} {i : Nat} {items : Array Value} {Q : Value → Shared → Prop} (hh : A.handled = none)
    (hit : s.heap.IsTupleIter it t i) (ht : s.heap.IsTuple t items) (hx : items[i]? = none)
    (hE : ∀ h' e, Heap.ExtBut it s.heap h' → (∃ o, h'.get? e = some o ∧ o.cls = .type "StopIteration") → E (.ref e) { s with heap := h' }) :
    wpAny (model prog w) A (Builtin.SmallTypes.nextOf (.ref it)) Q E s := by
  obtain ⟨o, ho, hc, hd⟩ := id hit
  obtain ⟨ol, hol, _, nl, hdl⟩ := ht
  unfold Builtin.SmallTypes.nextOf
  refine wpAny_bind (wpAny_callSpecial?_slot (name := Str.ofString "__next__") hit.typeIs F.slot_tuple_iterator_next
    (wpAny_call_entry F.slot_tuple_iterator_next hit.typeIs F.entry_tuple_iterator_next ?_ (F.args_tuple_iterator_next_1 _)))
  show wpAny _ _ (field (.ref it) 0 >>= _) _ _ s
  refine wpAny_bind (wpAny_field ho hd (x := .ref t) rfl ?_)
  show wpAny _ _ (if (Value.ref t == Value.none) = true then _ else _) _ _ s
  rw [if_neg (show ¬ ((Value.ref t == Value.none) = true) from Bool.false_ne_true)]
  show wpAny _ _ (field (.ref it) 1 >>= _) _ _ s
  refine wpAny_bind (wpAny_field ho hd (x := .int i 0) rfl ?_)
  show wpAny _ _ (seqItems? (.ref t) >>= _) _ _ s
  refine wpAny_bind (wpAny_seqItems hol hdl ?_)
  simp only [Int.toNat_natCast, hx]
  refine wpAny_bind (wpAny_rule (wpAny_bind (wpAny_setField ho hd (by simp) ?_)))
  show wpAny _ _ (newExc (.type "StopIteration") [] >>= _) _ _ _
  refine wpAny_bind ?_
  simp only [newExc, newTuple]
  refine wpAny_bind (wpAny_newObj_type ?_ (by size_fits))
  refine wpAny_bind (m := firstArgMember _ _) (wpAny_of_eq (a := Value.none) (by first | rfl | (simp only [firstArgMember]; rfl)) ?_)
  refine wpAny_newObj_type ?_ (by size_fits)
  simp only [raiseNew]
  refine wpAny_bind (wpAny_handled ?_)
  first | rw [show A.in1.handled = none from hh] | rw [hh]
  refine wpAny_bind (wpAny_pure (wpAny_throw ?_))
  exact hE _ _ (((Heap.SameBut.update ..).extBut.push _).push _) ⟨_, Heap.get?_push_size _ rfl, rfl⟩
end
theorem draws_tuple {prog : Program} {w : World} {A : Around} (hh : A.handled = none) (it l : Addr) (hne : l ≠ it) (items : Array Value) :
    Draws prog w A it [it, l] items.size (fun i v => items[i]? = some v) (fun i h => h.IsTupleIter it l i ∧ h.IsTuple l items) where
  live := fun _ _ st => let ⟨o, ho, _⟩ := st.1; ⟨o, ho⟩
  frame := fun _ _ _ st hk => ⟨st.1.at fun o e => hk it (by simp) o e, let ⟨o, ho, r⟩ := st.2; ⟨o, hk l (by simp) o ho, r⟩⟩
  item := fun i s Q E hi st hQ => by
    refine nextOf_tuple_item st.1 st.2 (x := items[i]) (by simp [hi]) fun h' hit' hs' => ?_
    exact hQ _ h' s.toks (by simp [hi]) ⟨hit', st.2.extBut hs'.extBut hne⟩ hs'
  done := fun s Q E st hE => nextOf_tuple_end hh st.1 st.2 (by simp) hE
theorem draws_str {prog : Program} {w : World} {A : Around} (hh : A.handled = none) (it : Addr) (x : Str) (t : Tok) :
    Draws prog w A it [it] x.cps.size (fun i v => ∃ c u, x.cps[i]? = some c ∧ v = .str ⟨#[c]⟩ u) (fun i h => h.IsStrIter it (strIterType x) x t i) := by
  unfold strIterType
  cases x.cps.all (· < 128) with
  | true => exact Draws.strAscii hh it x t
  | false => exact Draws.strWide hh it x t

/-- what may be walked within zip and enumerate: a list, a tuple, a text -/
inductive SK where
  | lst (a : Addr) | tup (a : Addr) | str (x : Str)
def SK.val : SK → V
  | .lst a => .ref a
  | .tup a => .ref a
  | .str x => .str x
def signs (x : Str) : List V := x.cps.toList.map fun c => .str ⟨#[c]⟩
def SK.has (H : Hp) : SK → List V → Prop
  | .lst a, xs => Rd H a (.lst xs)
  | .tup a, xs => Rd H a (.tup xs)
  | .str x, xs => xs = signs x
/-- its iterator's record -/
def SK.own (it : Addr) (k : Nat) (h : Heap) : SK → Prop
  | .lst a => h.IsListIter it a k
  | .tup a => h.IsTupleIter it a k
  | .str x => ∃ t, h.IsStrIter it (strIterType x) x t k
theorem SK.own_at {it : Addr} {k : Nat} {h h' : Heap} {κ : SK} (x : κ.own it k h) (e : ∀ o, h.get? it = some o → h'.get? it = some o) : κ.own it k h' := by
  cases κ with
  | lst a => exact Heap.IsListIter.at x e
  | tup a => exact Heap.IsTupleIter.at x e
  | str y => obtain ⟨t, o, ho, r⟩ := x; exact ⟨t, o, e o ho, r⟩
theorem SK.own_obj {it : Addr} {k : Nat} {h : Heap} {κ : SK} (x : κ.own it k h) : ∃ o, h.get? it = some o ∧ (∀ v, o.data ≠ .cell v) ∧ o.cls ≠ .type "tuple" ∧ o.cls ≠ .type "zip" ∧ o.cls ≠ .type "enumerate" := by
  cases κ with
  | lst a => obtain ⟨o, ho, c, d⟩ := x; exact ⟨o, ho, (fun v z => by rw [d] at z; cases z), (fun z => by rw [c] at z; simp at z), (fun z => by rw [c] at z; simp at z), (fun z => by rw [c] at z; simp at z)⟩
  | tup a => obtain ⟨o, ho, c, d⟩ := x; exact ⟨o, ho, (fun v z => by rw [d] at z; cases z), (fun z => by rw [c] at z; simp at z), (fun z => by rw [c] at z; simp at z), (fun z => by rw [c] at z; simp at z)⟩
  | str y =>
    obtain ⟨t, o, ho, c, d⟩ := x
    refine ⟨o, ho, (fun v z => by rw [d] at z; cases z), ?_, ?_, ?_⟩ <;>
    · intro z
      rw [c] at z
      unfold strIterType at z
      split at z <;> simp at z
theorem Rd.inj {H : Hp} {a : Addr} {u v : HO} (hu : ∀ o w, u ≠ .frz o w) (hv : ∀ o w, v ≠ .frz o w) (x : Rd H a u) (y : Rd H a v) : u = v := by
  rcases x with x | ⟨o, x⟩ <;> rcases y with y | ⟨p, y⟩ <;> rw [x] at y
  · exact Option.some.inj y
  · exact absurd (Option.some.inj y) (hu p v)
  · exact absurd (Option.some.inj y).symm (hv o u)
  · have := Option.some.inj y
    injection this
theorem SK.inj {H : Hp} {κ : SK} {xs ys : List V} (x : κ.has H xs) (y : κ.has H ys) : xs = ys := by
  cases κ with
  | lst a => have := Rd.inj (u := .lst xs) (v := .lst ys) (fun _ _ z => nomatch z) (fun _ _ z => nomatch z) x y; injection this
  | tup a => have := Rd.inj (u := .tup xs) (v := .tup ys) (fun _ _ z => nomatch z) (fun _ _ z => nomatch z) x y; injection this
  | str z => exact Eq.trans x (Eq.symm y)

/-- what stays apart from all records: the container -/
def SK.box : SK → List Addr
  | .lst a => [a]
  | .tup a => [a]
  | .str _ => []
theorem SK.box_some {H : Hp} {κ : SK} {xs : List V} (x : κ.has H xs) {b : Addr} (hb : b ∈ κ.box) : H b ≠ none := by
  cases κ with
  | lst a => have e : b = a := by simpa [SK.box] using hb
             subst e; intro z; rcases x with q | ⟨o, q⟩ <;> (rw [z] at q; cases q)
  | tup a => have e : b = a := by simpa [SK.box] using hb
             subst e; intro z; rcases x with q | ⟨o, q⟩ <;> (rw [z] at q; cases q)
  | str z => simp [SK.box] at hb

section
variable {X : Cx} {pins : List (Addr × Obj)} {σ : St} {H : Hp} {s : Shared}
theorem sk_draws {κ : SK} {it : Addr} {k : Nat} {xs : List V} {A : Around} (I : Inv X pins σ H s) (hv : κ.has H xs) (hit : κ.own it k s.heap) (hn : H it = none) (hh : A.handled = none) :
    ∃ (P : Nat → Value → Prop) (St : Nat → Heap → Prop), Draws X.prog X.w A it (it :: κ.box) xs.length P St ∧ St k s.heap ∧ (∀ i u, P i u → ∃ x, xs[i]? = some x ∧ RelV x u) ∧ (∀ i h, St i h → κ.own it i h) := by
  have ne : ∀ b ∈ κ.box, b ≠ it := fun b hb z => SK.box_some hv hb (by rw [z]; exact hn)
  cases κ with
  | lst a =>
    obtain ⟨_, its, n, r, e⟩ := Rd.ok hv I.hok
    have hl : s.heap.IsList a its.toArray := ⟨_, e, rfl, n, rfl⟩
    have D := Draws.list (prog := X.prog) (w := X.w) hh it a (ne a (by simp [SK.box])) its.toArray
    rw [List.size_toArray, ← r.length] at D
    refine ⟨_, _, D, ⟨hit, hl⟩, fun i u hu => ?_, fun i h st => st.1⟩
    · have hu' : its[i]? = some u := by simpa using hu
      have hlt : i < xs.length := by rw [r.length]; exact (List.getElem?_eq_some_iff.mp hu').1
      obtain ⟨u', e1, e2⟩ := r.get (List.getElem?_eq_getElem hlt)
      rw [hu'] at e1; cases e1
      exact ⟨_, List.getElem?_eq_getElem hlt, e2⟩
  | tup a =>
    obtain ⟨_, its, r, ht⟩ := Rd.ok hv I.hok
    have hl : s.heap.IsTuple a its.toArray := ht
    have D := draws_tuple (prog := X.prog) (w := X.w) hh it a (ne a (by simp [SK.box])) its.toArray
    rw [List.size_toArray, ← r.length] at D
    refine ⟨_, _, D, ⟨hit, hl⟩, fun i u hu => ?_, fun i h st => st.1⟩
    · have hu' : its[i]? = some u := by simpa using hu
      have hlt : i < xs.length := by rw [r.length]; exact (List.getElem?_eq_some_iff.mp hu').1
      obtain ⟨u', e1, e2⟩ := r.get (List.getElem?_eq_getElem hlt)
      rw [hu'] at e1; cases e1
      exact ⟨_, List.getElem?_eq_getElem hlt, e2⟩
  | str z =>
    obtain ⟨t, hit⟩ := hit
    have hv' : xs = signs z := hv
    subst hv'
    have D := draws_str (prog := X.prog) (w := X.w) hh it z t
    have e : (signs z).length = z.cps.size := by simp [signs]
    rw [← e] at D
    refine ⟨_, _, D, hit, fun i u hu => ?_, fun i h st => ⟨t, st⟩⟩
    · obtain ⟨c, u', hc, rfl⟩ := hu
      refine ⟨.str ⟨#[c]⟩, ?_, ⟨u', rfl⟩⟩
      simp only [signs, List.getElem?_map, Array.getElem?_toList, hc, Option.map_some]

/-- the records at ch have turned, a new object is laid and tracked -/
theorem Inv.turnedNew {ch : List Addr} {p : Addr} {o : HO} {h' : Heap} {tk : Nat} (I : Inv X pins σ H s)
    (hch : ∀ b ∈ ch, FpOk X pins H b) (k : ∀ b ob, b ∉ ch → s.heap.get? b = some ob → h'.get? b = some ob) (hp : s.heap.objs.size ≤ p) (new : ObjOk X.prog X.w (upd H p o) h' p o) :
    Inv X pins σ (upd H p o) { s with heap := h', toks := tk } := by
  have hn : H p = none := I.hok.fresh hp
  refine I.call (g' := s.gens) (d' := s.drawn) (ch := ch) ⟨fun b u q _ _ hx => k b u hx q, fun b u q _ _ hx => ⟨u.slots, k b u hx q⟩, fun b u q n _ => ?_, fun b u q hx => ⟨u, k b u hx q⟩, fun b xs q => ?_, fun b u xs q => ?_, fun b ps q => ⟨#[], ?_⟩⟩ (fun b u e => ?_) I.bare
    fun b hb => ⟨(hch b hb).2.2.2.1, (hch b hb).2.1, (hch b hb).2.2.2.2.1, (hch b hb).2.2.2.2.2⟩
  · rw [upd_ne (Nat.ne_of_lt (Nat.lt_of_lt_of_le (Heap.lt_size q) hp))]; exact n
  · rw [upd_ne (ne_of_none q hn)]; exact q
  · rw [upd_ne (ne_of_none q hn)]; exact q
  · rw [upd_ne (ne_of_none q hn), q]; simp
  · by_cases hb : b = p
    · subst hb; rw [upd_same] at e; cases e; exact new
    · rw [upd_ne hb] at e
      refine (I.hok b u e).stay (fun c v hc q => k c v (fun hm => ?_) q) (fun c q => by rw [upd_ne (ne_of_none q hn)]; exact q) fun c xs q => by rw [upd_ne (ne_of_none q hn)]; exact q
      have z := (hch c hm).1
      rcases hc with hc | hc
      · rw [hc, e] at z; cases z
      · rw [hc] at z; cases z
theorem Inv.turnedMany {ch : List Addr} {h' : Heap} {tk : Nat} (I : Inv X pins σ H s)
    (hch : ∀ b ∈ ch, FpOk X pins H b) (k : ∀ b ob, b ∉ ch → s.heap.get? b = some ob → h'.get? b = some ob) : Inv X pins σ H { s with heap := h', toks := tk } := by
  refine I.call (g' := s.gens) (d' := s.drawn) (ch := ch) ⟨fun b u q _ _ hx => k b u hx q, fun b u q _ _ hx => ⟨u.slots, k b u hx q⟩, fun b u q n _ => n, fun b u q hx => ⟨u, k b u hx q⟩, fun b xs q => q, fun b u xs q => q, fun b ps q => ⟨#[], by rw [q]; simp⟩⟩ (fun b u e => ?_) I.bare
    fun b hb => ⟨(hch b hb).2.2.2.1, (hch b hb).2.1, (hch b hb).2.2.2.2.1, (hch b hb).2.2.2.2.2⟩
  refine (I.hok b u e).stay (fun c v hc q => k c v (fun hm => ?_) q) (fun _ q => q) fun _ _ q => q
  have z := (hch c hm).1
  rcases hc with hc | hc
  · rw [hc, e] at z; cases z
  · rw [hc] at z; cases z
end

/-! ### enumerate -/
def Ite (κ : SK) : It :=
  ⟨fun i H => ∃ xs x, κ.has H xs ∧ xs[i]? = some x, fun i H v H' => ∃ p x, v = .ref p ∧ H p = none ∧ H' = upd H p (.tup [.int i, x]) ∧ ∀ xs, κ.has H xs → xs[i]? = some x, fun i H => ∃ xs, κ.has H xs ∧ xs.length = i⟩
theorem turn_enum {P : Program} {w : World} {K : PySem.W.Frag} {elts : List Expr} {x1 : Nat} {tpos : Pos} (κ : SK) (e it : Addr) (hei : e ≠ it) :
    Turn P w K (.Tuple elts x1 tpos) (Ite κ) [e, it] e (fun i h => (∃ old, IsEnum h e it i old) ∧ κ.own it i h) where
  mem := by simp
  obj := fun i h st b hb => by
    obtain ⟨⟨old, he⟩, ho⟩ := st
    simp only [List.mem_cons, List.not_mem_nil, or_false] at hb
    rcases hb with rfl | rfl
    · exact ⟨_, he, fun v z => by
        have z' : Data.fields _ = Data.cell v := z
        cases z'⟩
    · obtain ⟨o, h1, h2, _⟩ := SK.own_obj ho
      exact ⟨o, h1, h2⟩
  keep := fun i h h' st k => by
    obtain ⟨⟨old, he⟩, ho⟩ := st
    exact ⟨⟨old, k e (by simp) _ he⟩, SK.own_at ho fun o q => k it (by simp) o q⟩
  item := by
    intro X hP hw hK hc i pins s σ H E I hf st hg
    subst hP hw hK
    obtain ⟨⟨old, he⟩, ho⟩ := st
    obtain ⟨xs, x, hx, hxi⟩ := hg
    have hlt : i < xs.length := (List.getElem?_eq_some_iff.mp hxi).1
    have hh : X.A.in1.handled = none := I.ok.hd hc
    obtain ⟨Pp, St, D, hst, hrel, hown⟩ := sk_draws (A := X.A.in1) I hx ho (hf it (by simp)).1 hh
    have hef : e ∉ it :: κ.box := fun z => by
      rcases List.mem_cons.mp z with z | z
      · exact hei z
      · exact SK.box_some hx z (hf e (by simp)).1
    refine wpAny_pyNext_enum_itemD D he hst hlt hei hef fun y h' tk hy ho' hst' hT hsz hk => ⟨_, rfl, ?_⟩
    refine wpAny_letOwnedTupleGo_enum ho' fun h'' he'' hs'' => ?_
    obtain ⟨x', hx', rx⟩ := hrel i y hy
    have exx : x' = x := Option.some.inj (hx'.symm.trans hxi)
    subst exx
    have kk : ∀ b ob, b ∉ [e, it] → s.heap.get? b = some ob → h''.get? b = some ob := fun b ob hb q =>
      (hs''.2 b (fun z => hb (by simp [z]))).trans (hk b ob (fun z => hb (by simp [z])) (fun z => hb (by simp [z])) q)
    have ne : s.heap.objs.size ≠ e := Nat.ne_of_gt (Heap.lt_size he)
    have hT' : h''.get? s.heap.objs.size = some { cls := .type "tuple", data := .seq #[.int i tk, y] } := (hs''.2 _ ne).trans hT
    refine ⟨.ref s.heap.objs.size, upd H s.heap.objs.size (.tup [.int i, x']), I.turnedNew (tk := tk + 1) hf kk (Nat.le_refl _) ⟨⟨(by show 2 ≤ sizeLine; decide), _, hT', rfl⟩, [.int i tk, y], .cons ⟨tk, rfl⟩ (.cons rx .nil), _, hT', rfl, 0, rfl⟩, rfl,
      ⟨_, x', rfl, I.hok.fresh (Nat.le_refl _), rfl, fun ys hy' => by rw [SK.inj hy' hx]; exact hxi⟩, ⟨⟨y, by simpa using he''⟩, SK.own_at (hown _ _ hst') fun o q => (hs''.2 it (Ne.symm hei)).trans q⟩, fun b hb => ?_⟩
    obtain ⟨o, hob, _⟩ : ∃ o, s.heap.get? b = some o ∧ True := by
      simp only [List.mem_cons, List.not_mem_nil, or_false] at hb
      rcases hb with rfl | rfl
      · exact ⟨_, he, trivial⟩
      · obtain ⟨o, h1, _⟩ := SK.own_obj ho; exact ⟨o, h1, trivial⟩
    rw [upd_ne (Nat.ne_of_lt (Heap.lt_size hob))]
    exact (hf b hb).1
  done := by
    intro X hP hw hK hc i pins s σ H E I hf st hg
    subst hP hw hK
    obtain ⟨⟨old, he⟩, ho⟩ := st
    obtain ⟨xs, hx, hlen⟩ := hg
    have hh : X.A.in1.handled = none := I.ok.hd hc
    obtain ⟨Pp, St, D, hst, hrel, hown⟩ := sk_draws (A := X.A.in1) I hx ho (hf it (by simp)).1 hh
    have hst' : St xs.length s.heap := by rw [hlen]; exact hst
    refine wpAny_pyNext_enum_endD D he hst' fun h' hx' => ⟨rfl, ?_⟩
    have f := hf it (by simp)
    exact I.turned (t' := s.toks) (fun b o hb q => hx' b o hb q) f.1 f.2.1 f.2.2.2.1 f.2.2.2.2.1 f.2.2.2.2.2
  self := fun _ _ _ _ _ st h => let ⟨⟨_, he⟩, _⟩ := st; wpAny_pyIter_enum he h
open AutoSeq1 (wpAny_loadPart') in
set_option maxHeartbeats 4000000 in
theorem meets_enumerate_newT (l : Addr) (items : Array Value) (n : Nat) (dct : Option Addr) (sl : Array (Option Value)) :
    Meets (Builtin.«enumerate.__new__» ⟨[.type "enumerate", .ref l], []⟩) (fun _ R s => s.heap.get? l = some { cls := .type "tuple", dict := dct, data := .seq items n, slots := sl } ∧
      R (.ok (.ret (.ref (s.heap.push { cls := .type "tuple_iterator", data := .fields #[.ref l, .int 0 0] }).objs.size)))
        { s with heap := (s.heap.push { cls := .type "tuple_iterator", data := .fields #[.ref l, .int 0 0] }).push { cls := .type "enumerate", data := .fields #[.none, .bool false, .ref s.heap.objs.size, rawInt 0, .none, .none] } }) :=
  .of_wp fun prog w A R s h => by
    obtain ⟨hp, g, d, tk, os⟩ := s; obtain ⟨hl, h⟩ := h
    have hsub := sub_enumerate
    have hL : Heap.IsTuple (Shared.heap ⟨hp, g, d, tk, os⟩) l items := ⟨_, hl, rfl, n, rfl⟩
    wp_walk using wpAny_loadPart' hl
    refine wpAny_stack_any fun st => wpAny_pure ?_
    split
    · rename_i c _ _ _ _ _
      cases (c == Value.type "enumerate")
      · wp_walk using wpAny_loadPart' hl, wpAny_pyIter_tuple hL
        exact ⟨_, rfl, h⟩
      · wp_walk using wpAny_loadPart' hl, wpAny_pyIter_tuple hL
        exact ⟨_, rfl, h⟩
    · wp_walk using wpAny_loadPart' hl, wpAny_pyIter_tuple hL
      exact ⟨_, rfl, h⟩
theorem call_enumerate_tuple {prog : Program} {w : World} {A : Around} {E : Value → Shared → Prop} {s : Shared} {l : Addr} {items : Array Value} {Q : Value → Shared → Prop} (hL : s.heap.IsTuple l items)
    (h : ∀ h', IsEnum h' (s.heap.objs.size + 1) s.heap.objs.size 0 .none → h'.IsTupleIter s.heap.objs.size l 0 → h'.objs.size = s.heap.objs.size + 2 →
      (∀ b o, s.heap.get? b = some o → h'.get? b = some o) → Q (.ref (s.heap.objs.size + 1)) { s with heap := h' }) :
    wpAny (model prog w) A (call (.type "enumerate") [.ref l]) Q E s := by
  obtain ⟨⟨c, dct, dt, sl⟩, hl, hc, n, hd⟩ := hL
  replace hc : c = .type "tuple" := hc
  replace hd : dt = .seq items n := hd
  subst hc hd
  refine callType_new F.called_enumerate (by decide) (F.typeCall_enumerate_1 _) (F.newCall_enumerate_1 _) (fun obj => F.args_object_init_2 obj _) F.entry_enumerate_new
    (meets_enumerate_newT l items n dct sl) ⟨hl, ?_⟩
  have hz : (s.heap.push { cls := .type "tuple_iterator", data := .fields #[.ref l, .int 0 0] }).objs.size = s.heap.objs.size + 1 := Heap.size_push ..
  show _ ∧ _
  rw [hz]
  have he : IsEnum ((s.heap.push { cls := .type "tuple_iterator", data := .fields #[.ref l, .int 0 0] }).push
      { cls := .type "enumerate", data := .fields #[.none, .bool false, .ref s.heap.objs.size, rawInt 0, .none, .none] }) (s.heap.objs.size + 1) s.heap.objs.size 0 .none := by
    have := Heap.get?_push_size (s.heap.push { cls := .type "tuple_iterator", data := .fields #[.ref l, .int 0 0] })
      (o := { cls := .type "enumerate", data := .fields #[.none, .bool false, .ref s.heap.objs.size, rawInt 0, .none, .none] }) rfl
    rw [hz] at this; exact this
  refine ⟨⟨_, he, rfl⟩, h _ he ⟨_, Heap.get?_push_of_some _ (Heap.get?_push_size _ rfl), rfl, rfl⟩ (by rw [Heap.size_push, hz]) fun b o x => Heap.get?_push_of_some _ (Heap.get?_push_of_some _ x)⟩

section
variable {X : Cx} {pins : List (Addr × Obj)} {σ : St} {H : Hp} {s : Shared}
/-- enumerate(..) of a list, a tuple, a text -/
theorem call_enum {κ : SK} {xs : List V} {u : Value} {E : Value → Shared → Prop} {Q : Value → Shared → Prop} (I : Inv X pins σ H s) (hv : κ.has H xs) (r : RelV κ.val u)
    (h : ∀ h', IsEnum h' (s.heap.objs.size + 1) s.heap.objs.size 0 .none → κ.own s.heap.objs.size 0 h' → (∀ b o, s.heap.get? b = some o → h'.get? b = some o) → Q (.ref (s.heap.objs.size + 1)) { s with heap := h' }) :
    wpAny (model X.prog X.w) X.A (call (.type "enumerate") [u]) Q E s := by
  cases κ with
  | lst a =>
    cases (show u = Value.ref a from r)
    obtain ⟨_, its, n, rr, e⟩ := Rd.ok hv I.hok
    exact call_enumerate_list ⟨_, e, rfl, n, rfl⟩ fun h' a1 a2 _ a4 => h h' a1 a2 a4
  | tup a =>
    cases (show u = Value.ref a from r)
    obtain ⟨_, its, rr, e⟩ := Rd.ok hv I.hok
    exact call_enumerate_tuple e fun h' a1 a2 _ a4 => h h' a1 a2 a4
  | str x =>
    obtain ⟨t, q⟩ := (show ∃ t, u = Value.str x t from r)
    subst q
    exact call_enumerate_str fun h' a1 a2 _ a4 => h h' a1 ⟨t, a2⟩ a4
def iEnum (ta : TA) : TI := fun σ H R => ta σ H fun vs H1 => ∃ κ : SK, vs = [κ.val] ∧ (∃ xs, κ.has H1 xs) ∧ R (Ite κ) H1
theorem pi_enum {a : Expr} {ta : TA} {p pos : Pos} {elts : List Expr} {x1 : Nat} {tpos : Pos} (hg : Gl X "enumerate") (hm : X.mg "enumerate" = none) (ha : PA X [a] ta)
    (hs : starEach [a] X.env = [(false, eval a X.env)] := by rfl) : PI X (.Tuple elts x1 tpos) (.Call (.Name "enumerate" p) [a] [] pos) (iEnum ta) := by
  intro pins s σ H R I h
  refine Call_ (ld_blt I hg hm boot_enumerate (PyProof.Rows.callWith_type1 (thn (ha pos pins s σ H _ I h) fun us s1 ⟨vs, H1, I1, r1, q1⟩ => ?_) hs rfl))
  obtain ⟨κ, e, ⟨xs, hx⟩, q⟩ := q1
  subst e
  obtain ⟨u, rfl, ru⟩ := vals1 r1
  refine call_enum I1 hx ru fun h' he hi hk => ?_
  refine wpAny_pyIter_enum he ⟨s1.heap.objs.size + 1, [s1.heap.objs.size + 1, s1.heap.objs.size], _, _, H1, rfl, I1.kept (t' := s1.toks) hk, turn_enum κ _ _ (Nat.ne_of_gt (Nat.lt_succ_self _)), ⟨⟨_, he⟩, hi⟩, fun b hb => ?_, q⟩
  have hge : s1.heap.objs.size ≤ b := by
    simp only [List.mem_cons, List.not_mem_nil, or_false] at hb
    rcases hb with rfl | rfl
    · exact Nat.le_succ _
    · exact Nat.le_refl _
  exact I1.fpOk hge (I1.hok.fresh hge)
end

/-! ### zip of two -/
structure ZA (z TI TO i1 i2 : Addr) (fp1 fp2 : List Addr) : Prop where
  TIz : TI ≠ z
  TOz : TO ≠ z
  i1z : i1 ≠ z
  i2z : i2 ≠ z
  TITO : TI ≠ TO
  TIi1 : TI ≠ i1
  TIi2 : TI ≠ i2
  TOi1 : TO ≠ i1
  TOi2 : TO ≠ i2
  i12 : i1 ≠ i2
  z1 : z ∉ fp1
  z2 : z ∉ fp2
  o1 : TO ∉ fp1
  o2 : TO ∉ fp2
  a1 : i2 ∉ fp1
  a2 : i1 ∉ fp2
section
variable {prog : Program} {w : World} {A : Around} {E : Value → Shared → Prop} {s : Shared}
theorem zip_next_itemD {z TI TO i1 i2 : Addr} {fp1 fp2 : List Addr} {n1 n2 k : Nat} {P1 P2 : Nat → Value → Prop} {S1 S2 : Nat → Heap → Prop} {a b : Value} {Q : Value → Shared → Prop} (Z : ZA z TI TO i1 i2 fp1 fp2)
    (D1 : Draws prog w A i1 fp1 n1 P1 S1) (D2 : Draws prog w A i2 fp2 n2 P2 S2)
    (hz : IsZip s.heap z TI TO .none) (hTI : IsPair s.heap TI (.ref i1) (.ref i2)) (hTO : IsPair s.heap TO a b) (h1 : S1 k s.heap) (h2 : S2 k s.heap) (l1 : k < n1) (l2 : k < n2)
    (hQ : ∀ x y h' tk, P1 k x → P2 k y → IsZip h' z TI TO (rawInt s.heap.objs.size) → IsPair h' TO x y → S1 (k + 1) h' → S2 (k + 1) h' → IsPair h' s.heap.objs.size x y → h'.objs.size = s.heap.objs.size + 1 →
      (∀ c o, c ≠ z → c ≠ TO → c ≠ i1 → c ≠ i2 → s.heap.get? c = some o → h'.get? c = some o) → Q (.ref s.heap.objs.size) { s with heap := h', toks := tk }) :
    wpAny (model prog w) A (Builtin.«zip.__next__» ⟨[.ref z], []⟩) (fun fin s' => ∃ v, fin = .done (.ret v) ∧ Q v s') E s := by
  obtain ⟨hp, g, d, tk₀, os⟩ := s
  show wpAny _ _ (field (.ref z) 2 >>= _) _ _ _
  refine wpAny_bind (wpAny_field hz rfl (x := .bool false) rfl ?_)
  show wpAny _ _ (field (.ref z) 3 >>= _) _ _ _
  refine wpAny_bind (wpAny_field hz rfl (x := .ref TI) rfl ?_)
  refine wpAny_bind (wpAny_seqItems hTI rfl ?_)
  show wpAny _ _ (Builtin.SmallTypes.ownedTupleIsFree (.ref z) >>= _) _ _ _
  refine wpAny_bind ?_
  unfold Builtin.SmallTypes.ownedTupleIsFree
  refine wpAny_bind (wpAny_field hz rfl (x := .none) rfl (wpAny_pure ?_))
  simp only [if_true]
  refine wpAny_bind (wpAny_rule ?_)
  refine wpAny_bind (wpAny_field hz rfl (x := .ref TO) rfl ?_)
  refine wpAny_bind (wpAny_setField_rec hz (by simp) fun h₁ hz₁ hs₁ => ?_)
  replace hz₁ : IsZip h₁ z TI TO .ellipsis := hz₁
  replace hs₁ : Heap.SameBut z hp h₁ := hs₁
  refine wpAny_bind ?_
  simp only [List.zipIdx_cons, List.zipIdx_nil, List.forIn_cons, List.forIn_nil]
  refine wpAny_bind (wpAny_bind (wpAny_onRaise ?_))
  show wpAny _ _ (Builtin.SmallTypes.nextOf (.ref i1) >>= _) _ _ _
  have h1₁ : S1 k h₁ := D1.frame _ _ _ h1 fun c hc o e => hs₁.extBut _ _ (fun q => Z.z1 (q ▸ hc)) e
  refine wpAny_bind (D1.item k _ _ _ l1 h1₁ fun x h₂ tk₂ hx h1₂ hs₂ => wpAny_pure ?_)
  replace hs₂ : Heap.SameBut i1 h₁ h₂ := hs₂
  have hTO₂ : IsPair h₂ TO a b := hs₂.extBut _ _ Z.TOi1 (hs₁.extBut _ _ Z.TOz hTO)
  refine wpAny_bind (wpAny_seqItems (s := ⟨h₂, g, d, tk₂, os⟩) hTO₂ rfl ?_)
  refine wpAny_bind (wpAny_updateSeq_pair (s := ⟨h₂, g, d, tk₂, os⟩) hTO₂ fun h₃ hTO₃ hs₃ => ?_)
  replace hTO₃ : IsPair h₃ TO x b := hTO₃
  replace hs₃ : Heap.SameBut TO h₂ h₃ := hs₃
  refine wpAny_bind (wpAny_letGo (wpAny_pure ?_))
  refine wpAny_bind (wpAny_bind (wpAny_onRaise ?_))
  show wpAny _ _ (Builtin.SmallTypes.nextOf (.ref i2) >>= _) _ _ _
  have h2₃ : S2 k h₃ := D2.frame _ _ _ h2 fun c hc o e => hs₃.extBut _ _ (fun q => Z.o2 (q ▸ hc)) (hs₂.extBut _ _ (fun q => Z.a2 (q ▸ hc)) (hs₁.extBut _ _ (fun q => Z.z2 (q ▸ hc)) e))
  refine wpAny_bind (D2.item k _ _ _ l2 h2₃ fun y h₄ tk₄ hy h2₄ hs₄ => wpAny_pure ?_)
  replace hs₄ : Heap.SameBut i2 h₃ h₄ := hs₄
  have hTO₄ : IsPair h₄ TO x b := hs₄.extBut _ _ Z.TOi2 hTO₃
  refine wpAny_bind (wpAny_seqItems (s := ⟨h₄, g, d, tk₄, os⟩) hTO₄ rfl ?_)
  refine wpAny_bind (wpAny_updateSeq_pair (s := ⟨h₄, g, d, tk₄, os⟩) hTO₄ fun h₅ hTO₅ hs₅ => ?_)
  replace hTO₅ : IsPair h₅ TO x y := hTO₅
  replace hs₅ : Heap.SameBut TO h₄ h₅ := hs₅
  refine wpAny_bind (wpAny_letGo (wpAny_pure (wpAny_pure ?_)))
  refine wpAny_bind (wpAny_seqItems (s := ⟨h₅, g, d, tk₄, os⟩) hTO₅ rfl ?_)
  refine wpAny_bind (wpAny_newTuple ?_)
  have hsz : h₅.objs.size = hp.objs.size := by rw [hs₅.1, hs₄.1, hs₃.1, hs₂.1, hs₁.1]
  have hz₅ : IsZip h₅ z TI TO .ellipsis := hs₅.extBut _ _ Z.TOz.symm (hs₄.extBut _ _ Z.i2z.symm (hs₃.extBut _ _ Z.TOz.symm (hs₂.extBut _ _ Z.i1z.symm hz₁)))
  have hk₅ : ∀ c o, c ≠ z → c ≠ TO → c ≠ i1 → c ≠ i2 → hp.get? c = some o → h₅.get? c = some o := fun c o c1 c2 c3 c4 e =>
    hs₅.extBut _ _ c2 (hs₄.extBut _ _ c4 (hs₃.extBut _ _ c2 (hs₂.extBut _ _ c3 (hs₁.extBut _ _ c1 e))))
  have h1₅ : S1 (k + 1) h₅ := D1.frame _ _ _ h1₂ fun c hc o e => hs₅.extBut _ _ (fun q => Z.o1 (q ▸ hc)) (hs₄.extBut _ _ (fun q => Z.a1 (q ▸ hc)) (hs₃.extBut _ _ (fun q => Z.o1 (q ▸ hc)) e))
  have h2₅ : S2 (k + 1) h₅ := D2.frame _ _ _ h2₄ fun c hc o e => hs₅.extBut _ _ (fun q => Z.o2 (q ▸ hc)) e
  have hzlt : z < h₅.objs.size := Heap.lt_size hz₅
  show wpAny _ _ (Builtin.SmallTypes.ownedTupleHandOut (.ref z) (.ref h₅.objs.size) >>= _) _ _ _
  refine wpAny_bind ?_
  unfold Builtin.SmallTypes.ownedTupleHandOut
  have hz₆ : IsZip (h₅.push { cls := .type "tuple", data := .seq #[x, y] }) z TI TO .ellipsis := Heap.get?_push_of_some _ hz₅
  refine wpAny_bind (wpAny_setField_rec hz₆ (by simp) fun h₇ hz₇ hs₇ => ?_)
  replace hz₇ : IsZip h₇ z TI TO (rawInt h₅.objs.size) := hz₇
  replace hs₇ : Heap.SameBut z (h₅.push { cls := .type "tuple", data := .seq #[x, y] }) h₇ := hs₇
  refine wpAny_setField_rec hz₇ (by simp) fun h₈ hz₈ hs₈ => ?_
  replace hz₈ : IsZip h₈ z TI TO (rawInt h₅.objs.size) := hz₈
  replace hs₈ : Heap.SameBut z h₇ h₈ := hs₈
  have up : ∀ c o, c ≠ z → h₅.get? c = some o → h₈.get? c = some o := fun c o c1 e => hs₈.extBut _ _ c1 (hs₇.extBut _ _ c1 (Heap.get?_push_of_some _ e))
  have hT₈ : IsPair h₈ h₅.objs.size x y := hs₈.extBut _ _ (Nat.ne_of_gt hzlt) (hs₇.extBut _ _ (Nat.ne_of_gt hzlt) (Heap.get?_push_size _ rfl))
  have hz8 : h₈.objs.size = h₅.objs.size + 1 := by rw [hs₈.1, hs₇.1, Heap.size_push]
  rw [hsz] at hz₈ hT₈ hz8
  refine wpAny_pure ⟨_, rfl, ?_⟩
  show Q (.ref h₅.objs.size) _
  rw [hsz]
  exact hQ x y h₈ tk₄ hx hy hz₈ (up _ _ Z.TOz hTO₅) (D1.frame _ _ _ h1₅ fun c hc o e => up c o (fun q => Z.z1 (q ▸ hc)) e) (D2.frame _ _ _ h2₅ fun c hc o e => up c o (fun q => Z.z2 (q ▸ hc)) e) hT₈ hz8 fun c o c1 c2 c3 c4 e => up c o c1 (hk₅ c o c1 c2 c3 c4 e)
theorem zip_next_endD {z TI TO i1 i2 : Addr} {fp1 fp2 : List Addr} {n1 n2 k : Nat} {P1 P2 : Nat → Value → Prop} {S1 S2 : Nat → Heap → Prop} {a b : Value} {Q : Fin → Shared → Prop} (Z : ZA z TI TO i1 i2 fp1 fp2)
    (D1 : Draws prog w A i1 fp1 n1 P1 S1) (D2 : Draws prog w A i2 fp2 n2 P2 S2)
    (hz : IsZip s.heap z TI TO .none) (hTI : IsPair s.heap TI (.ref i1) (.ref i2)) (hTO : IsPair s.heap TO a b) (h1 : S1 k s.heap) (h2 : S2 k s.heap) (hend : n1 = k ∨ (k < n1 ∧ n2 = k))
    (hE : ∀ h' e tk, (∀ c o, c ≠ z → c ≠ TO → c ≠ i1 → c ≠ i2 → s.heap.get? c = some o → h'.get? c = some o) → (∃ o, h'.get? e = some o ∧ o.cls = .type "StopIteration") → E (.ref e) { s with heap := h', toks := tk }) :
    wpAny (model prog w) A (Builtin.«zip.__next__» ⟨[.ref z], []⟩) Q E s := by
  obtain ⟨hp, g, d, tk₀, os⟩ := s
  show wpAny _ _ (field (.ref z) 2 >>= _) _ _ _
  refine wpAny_bind (wpAny_field hz rfl (x := .bool false) rfl ?_)
  show wpAny _ _ (field (.ref z) 3 >>= _) _ _ _
  refine wpAny_bind (wpAny_field hz rfl (x := .ref TI) rfl ?_)
  refine wpAny_bind (wpAny_seqItems hTI rfl ?_)
  show wpAny _ _ (Builtin.SmallTypes.ownedTupleIsFree (.ref z) >>= _) _ _ _
  refine wpAny_bind ?_
  unfold Builtin.SmallTypes.ownedTupleIsFree
  refine wpAny_bind (wpAny_field hz rfl (x := .none) rfl (wpAny_pure ?_))
  simp only [if_true]
  refine wpAny_bind (wpAny_rule ?_)
  refine wpAny_bind (wpAny_field hz rfl (x := .ref TO) rfl ?_)
  refine wpAny_bind (wpAny_setField_rec hz (by simp) fun h₁ hz₁ hs₁ => ?_)
  replace hz₁ : IsZip h₁ z TI TO .ellipsis := hz₁
  replace hs₁ : Heap.SameBut z hp h₁ := hs₁
  refine wpAny_bind ?_
  simp only [List.zipIdx_cons, List.zipIdx_nil, List.forIn_cons, List.forIn_nil]
  refine wpAny_bind (wpAny_bind (wpAny_onRaise ?_))
  show wpAny _ _ (Builtin.SmallTypes.nextOf (.ref i1) >>= _) _ _ _
  have h1₁ : S1 k h₁ := D1.frame _ _ _ h1 fun c hc o e => hs₁.extBut _ _ (fun q => Z.z1 (q ▸ hc)) e
  rcases hend with hn | ⟨l1, hn⟩
  · subst hn
    refine wpAny_bind (D1.done _ _ _ h1₁ fun h₂ e hs₂ he => ?_)
    obtain ⟨oe, hoe, hce⟩ := he
    replace hs₂ : Heap.ExtBut i1 h₁ h₂ := hs₂
    have hz₂ : IsZip h₂ z TI TO .ellipsis := hs₂ _ _ Z.i1z.symm hz₁
    have hez : e ≠ z := fun x => by subst x; rw [hz₂] at hoe; cases hoe; simp at hce
    exact wpAny_setField_rec hz₂ (by simp) fun h₃ _ hs₃ => hE h₃ e _ (fun c o c1 _ c3 _ x => hs₃.extBut _ _ c1 (hs₂ _ _ c3 (hs₁.extBut _ _ c1 x))) ⟨oe, hs₃.extBut _ _ hez hoe, hce⟩
  · subst hn
    refine wpAny_bind (D1.item _ _ _ _ l1 h1₁ fun x h₂ tk₂ hx h1₂ hs₂ => wpAny_pure ?_)
    replace hs₂ : Heap.SameBut i1 h₁ h₂ := hs₂
    have hTO₂ : IsPair h₂ TO a b := hs₂.extBut _ _ Z.TOi1 (hs₁.extBut _ _ Z.TOz hTO)
    refine wpAny_bind (wpAny_seqItems (s := ⟨h₂, g, d, tk₂, os⟩) hTO₂ rfl ?_)
    refine wpAny_bind (wpAny_updateSeq_pair (s := ⟨h₂, g, d, tk₂, os⟩) hTO₂ fun h₃ hTO₃ hs₃ => ?_)
    replace hs₃ : Heap.SameBut TO h₂ h₃ := hs₃
    refine wpAny_bind (wpAny_letGo (wpAny_pure ?_))
    refine wpAny_bind (wpAny_bind (wpAny_onRaise ?_))
    show wpAny _ _ (Builtin.SmallTypes.nextOf (.ref i2) >>= _) _ _ _
    have h2₃ := D2.frame _ _ h₃ h2 fun c hc o e => hs₃.extBut _ _ (fun q => Z.o2 (q ▸ hc)) (hs₂.extBut _ _ (fun q => Z.a2 (q ▸ hc)) (hs₁.extBut _ _ (fun q => Z.z2 (q ▸ hc)) e))
    refine wpAny_bind (D2.done _ _ _ h2₃ fun h₄ e hs₄ he => ?_)
    obtain ⟨oe, hoe, hce⟩ := he
    replace hs₄ : Heap.ExtBut i2 h₃ h₄ := hs₄
    have hz₄ : IsZip h₄ z TI TO .ellipsis := hs₄ _ _ Z.i2z.symm (hs₃.extBut _ _ Z.TOz.symm (hs₂.extBut _ _ Z.i1z.symm hz₁))
    have hez : e ≠ z := fun x => by subst x; rw [hz₄] at hoe; cases hoe; simp at hce
    exact wpAny_setField_rec hz₄ (by simp) fun h₅ _ hs₅ => hE h₅ e _ (fun c o c1 c2 c3 c4 x => hs₅.extBut _ _ c1 (hs₄ _ _ c4 (hs₃.extBut _ _ c2 (hs₂.extBut _ _ c3 (hs₁.extBut _ _ c1 x))))) ⟨oe, hs₅.extBut _ _ hez hoe, hce⟩
end
def Itz (κ1 κ2 : SK) : It :=
  ⟨fun i H => ∃ xs ys x y, κ1.has H xs ∧ κ2.has H ys ∧ xs[i]? = some x ∧ ys[i]? = some y,
   fun i H v H' => ∃ p x y, v = .ref p ∧ H p = none ∧ H' = upd H p (.tup [x, y]) ∧ (∀ xs, κ1.has H xs → xs[i]? = some x) ∧ ∀ ys, κ2.has H ys → ys[i]? = some y,
   fun i H => ∃ xs ys, κ1.has H xs ∧ κ2.has H ys ∧ (xs.length = i ∨ (i < xs.length ∧ ys.length = i))⟩
theorem turn_zip {P : Program} {w : World} {K : PySem.W.Frag} {elts : List Expr} {x1 : Nat} {tpos : Pos} (κ1 κ2 : SK) (z TI TO i1 i2 : Addr) (hnd : [z, TI, TO, i1, i2].Nodup) :
    Turn P w K (.Tuple elts x1 tpos) (Itz κ1 κ2) [z, TI, TO, i1, i2] z (fun i h => IsZip h z TI TO .none ∧ IsPair h TI (.ref i1) (.ref i2) ∧ (∃ a b, IsPair h TO a b) ∧ κ1.own i1 i h ∧ κ2.own i2 i h) where
  mem := by simp
  obj := fun i h st b hb => by
    obtain ⟨hz, hTI, ⟨a, c, hTO⟩, h1, h2⟩ := st
    simp only [List.mem_cons, List.not_mem_nil, or_false] at hb
    rcases hb with rfl | rfl | rfl | rfl | rfl
    · exact ⟨_, hz, fun v y => by have y' : Data.fields _ = Data.cell v := y; cases y'⟩
    · exact ⟨_, hTI, fun v y => by have y' : Data.seq _ _ = Data.cell v := y; cases y'⟩
    · exact ⟨_, hTO, fun v y => by have y' : Data.seq _ _ = Data.cell v := y; cases y'⟩
    · obtain ⟨o, e1, e2, _⟩ := SK.own_obj h1; exact ⟨o, e1, e2⟩
    · obtain ⟨o, e1, e2, _⟩ := SK.own_obj h2; exact ⟨o, e1, e2⟩
  keep := fun i h h' st k => by
    obtain ⟨hz, hTI, ⟨a, c, hTO⟩, h1, h2⟩ := st
    exact ⟨k z (by simp) _ hz, k TI (by simp) _ hTI, ⟨a, c, k TO (by simp) _ hTO⟩, SK.own_at h1 fun o q => k i1 (by simp) o q, SK.own_at h2 fun o q => k i2 (by simp) o q⟩
  item := by
    intro X hP hw hK hc i pins s σ H E I hf st hg
    subst hP hw hK
    obtain ⟨hz, hTI, ⟨a, c, hTO⟩, h1, h2⟩ := st
    obtain ⟨xs, ys, x, y, hx, hy, hxi, hyi⟩ := hg
    have l1 : i < xs.length := (List.getElem?_eq_some_iff.mp hxi).1
    have l2 : i < ys.length := (List.getElem?_eq_some_iff.mp hyi).1
    have hh : X.A.in1.handled = none := I.ok.hd hc
    obtain ⟨P1, S1, D1, s1, r1, w1⟩ := sk_draws (A := X.A.in1) I hx h1 (hf i1 (by simp)).1 hh
    obtain ⟨P2, S2, D2, s2, r2, w2⟩ := sk_draws (A := X.A.in1) I hy h2 (hf i2 (by simp)).1 hh
    simp only [List.nodup_cons, List.mem_cons, List.not_mem_nil, or_false, not_or] at hnd
    obtain ⟨⟨n1, n2, n3, n4⟩, ⟨n5, n6, n7⟩, ⟨n8, n9⟩, n10, _⟩ := hnd
    have nb : ∀ {κ : SK} {zs : List V} {b it : Addr}, κ.has H zs → H b = none → b ≠ it → b ∉ it :: κ.box := fun {κ zs b it} hκ hb hne q => by
      rcases List.mem_cons.mp q with q | q
      · exact hne q
      · exact SK.box_some hκ q hb
    have Z : ZA z TI TO i1 i2 (i1 :: κ1.box) (i2 :: κ2.box) :=
      { TIz := Ne.symm n1, TOz := Ne.symm n2, i1z := Ne.symm n3, i2z := Ne.symm n4, TITO := n5, TIi1 := n6, TIi2 := n7, TOi1 := n8, TOi2 := n9, i12 := n10
        z1 := nb hx (hf z (by simp)).1 n3, z2 := nb hy (hf z (by simp)).1 n4, o1 := nb hx (hf TO (by simp)).1 n8, o2 := nb hy (hf TO (by simp)).1 n9, a1 := nb hx (hf i2 (by simp)).1 (Ne.symm n10), a2 := nb hy (hf i1 (by simp)).1 n10 }
    have hT : s.TypeIs (.ref z) "zip" := ⟨_, hz, rfl⟩
    unfold pyNext
    refine wpAny_bind (wpAny_attempt (wpAny_callSpecial?_slot (name := Str.ofString "__next__") hT F.slot_zip_next
      (wpAny_call_entry F.slot_zip_next hT F.entry_zip_next
        (zip_next_itemD Z D1 D2 hz hTI hTO s1 s2 l1 l2 fun u v h' tk hu hv hz' hTO' s1' s2' hT' hsz hk => wpAny_pure ⟨_, rfl, ?_⟩) (F.args_zip_next_1 _))))
    refine wpAny_letOwnedTupleGo_zip hz' fun h'' hz'' hs'' => ?_
    obtain ⟨x', hx', rx⟩ := r1 i u hu
    obtain ⟨y', hy', ry⟩ := r2 i v hv
    have ex : x' = x := Option.some.inj (hx'.symm.trans hxi)
    have ey : y' = y := Option.some.inj (hy'.symm.trans hyi)
    subst ex ey
    have kk : ∀ b ob, b ∉ [z, TI, TO, i1, i2] → s.heap.get? b = some ob → h''.get? b = some ob := fun b ob hb q =>
      (hs''.2 b (fun e => hb (by simp [e]))).trans (hk b ob (fun e => hb (by simp [e])) (fun e => hb (by simp [e])) (fun e => hb (by simp [e])) (fun e => hb (by simp [e])) q)
    have ne : s.heap.objs.size ≠ z := Nat.ne_of_gt (Heap.lt_size hz)
    have hT'' : h''.get? s.heap.objs.size = some { cls := .type "tuple", data := .seq #[u, v] } := (hs''.2 _ ne).trans hT'
    refine ⟨.ref s.heap.objs.size, upd H s.heap.objs.size (.tup [x', y']), I.turnedNew (tk := tk) hf kk (Nat.le_refl _) ⟨⟨(by show 2 ≤ sizeLine; decide), _, hT'', rfl⟩, [u, v], .cons rx (.cons ry .nil), _, hT'', rfl, 0, rfl⟩, rfl,
      ⟨_, x', y', rfl, I.hok.fresh (Nat.le_refl _), rfl, fun zs hzs => by rw [SK.inj hzs hx]; exact hxi, fun zs hzs => by rw [SK.inj hzs hy]; exact hyi⟩,
      ⟨hz'', hs''.extBut _ _ (Ne.symm n1) (hk _ _ (Ne.symm n1) n5 n6 n7 hTI), ⟨_, _, hs''.extBut _ _ (Ne.symm n2) hTO'⟩, SK.own_at (w1 _ _ s1') fun o q => (hs''.2 i1 (Ne.symm n3)).trans q, SK.own_at (w2 _ _ s2') fun o q => (hs''.2 i2 (Ne.symm n4)).trans q⟩, fun b hb => ?_⟩
    have hob : ∃ o, s.heap.get? b = some o := by
      simp only [List.mem_cons, List.not_mem_nil, or_false] at hb
      rcases hb with rfl | rfl | rfl | rfl | rfl
      · exact ⟨_, hz⟩
      · exact ⟨_, hTI⟩
      · exact ⟨_, hTO⟩
      · obtain ⟨o, e1, _⟩ := SK.own_obj h1; exact ⟨o, e1⟩
      · obtain ⟨o, e1, _⟩ := SK.own_obj h2; exact ⟨o, e1⟩
    obtain ⟨o, hob⟩ := hob
    rw [upd_ne (Nat.ne_of_lt (Heap.lt_size hob))]
    exact (hf b hb).1
  done := by
    intro X hP hw hK hc i pins s σ H E I hf st hg
    subst hP hw hK
    obtain ⟨hz, hTI, ⟨a, c, hTO⟩, h1, h2⟩ := st
    obtain ⟨xs, ys, hx, hy, hend⟩ := hg
    have hh : X.A.in1.handled = none := I.ok.hd hc
    obtain ⟨P1, S1, D1, s1, r1, w1⟩ := sk_draws (A := X.A.in1) I hx h1 (hf i1 (by simp)).1 hh
    obtain ⟨P2, S2, D2, s2, r2, w2⟩ := sk_draws (A := X.A.in1) I hy h2 (hf i2 (by simp)).1 hh
    simp only [List.nodup_cons, List.mem_cons, List.not_mem_nil, or_false, not_or] at hnd
    obtain ⟨⟨n1, n2, n3, n4⟩, ⟨n5, n6, n7⟩, ⟨n8, n9⟩, n10, _⟩ := hnd
    have nb : ∀ {κ : SK} {zs : List V} {b it : Addr}, κ.has H zs → H b = none → b ≠ it → b ∉ it :: κ.box := fun {κ zs b it} hκ hb hne q => by
      rcases List.mem_cons.mp q with q | q
      · exact hne q
      · exact SK.box_some hκ q hb
    have Z : ZA z TI TO i1 i2 (i1 :: κ1.box) (i2 :: κ2.box) :=
      { TIz := Ne.symm n1, TOz := Ne.symm n2, i1z := Ne.symm n3, i2z := Ne.symm n4, TITO := n5, TIi1 := n6, TIi2 := n7, TOi1 := n8, TOi2 := n9, i12 := n10
        z1 := nb hx (hf z (by simp)).1 n3, z2 := nb hy (hf z (by simp)).1 n4, o1 := nb hx (hf TO (by simp)).1 n8, o2 := nb hy (hf TO (by simp)).1 n9, a1 := nb hx (hf i2 (by simp)).1 (Ne.symm n10), a2 := nb hy (hf i1 (by simp)).1 n10 }
    have hT : s.TypeIs (.ref z) "zip" := ⟨_, hz, rfl⟩
    unfold pyNext
    refine wpAny_bind (wpAny_attempt (wpAny_callSpecial?_slot (name := Str.ofString "__next__") hT F.slot_zip_next
      (wpAny_call_entry F.slot_zip_next hT F.entry_zip_next (zip_next_endD Z D1 D2 hz hTI hTO s1 s2 hend fun h' e tk hk he => ?_) (F.args_zip_next_1 _))))
    obtain ⟨o, ho, hcl⟩ := he
    refine wpAny_bind (wpAny_isInstance (T := "StopIteration") (b := true) ⟨o, ho, hcl⟩ isSubtype_stop ?_)
    exact wpAny_pure ⟨rfl, I.turnedMany hf fun b ob hb q => hk b ob (fun e => hb (by simp [e])) (fun e => hb (by simp [e])) (fun e => hb (by simp [e])) (fun e => hb (by simp [e])) q⟩
  self := fun _ _ _ _ _ st h => wpAny_pyIter_zip st.1 h

/-- the iterator's record that pyIter makes -/
def itObj (v : Value) : SK → Obj
  | .lst _ => { cls := .type "list_iterator", data := .fields #[v, .int 0 0] }
  | .tup _ => { cls := .type "tuple_iterator", data := .fields #[v, .int 0 0] }
  | .str x => { cls := .type (strIterType x), data := .fields #[v, .int 0 0] }
theorem itObj_live (v : Value) (κ : SK) : (itObj v κ).isFreed = false := by cases κ <;> rfl
/-- pyIter of it, at every heap that keeps what the first had -/
def Iters (h : Heap) (v : Value) (o : Obj) : Prop := ∀ (prog : Program) (w : World) (A : Around) (E : Value → Shared → Prop) (s : Shared) (Q : Value → Shared → Prop), (∀ b ob, h.get? b = some ob → s.heap.get? b = some ob) → Q (.ref s.heap.objs.size) { s with heap := s.heap.push o } → wpAny (model prog w) A (pyIter v) Q E s
theorem sk_iters {X : Cx} {pins : List (Addr × Obj)} {σ : St} {H : Hp} {s : Shared} {κ : SK} {xs : List V} {u : Value} (I : Inv X pins σ H s) (hv : κ.has H xs) (r : RelV κ.val u) : Iters s.heap u (itObj u κ) := by
  intro prog w A E s' Q k h
  cases κ with
  | lst a =>
    cases (show u = Value.ref a from r)
    obtain ⟨_, its, n, rr, e⟩ := Rd.ok hv I.hok
    exact wpAny_pyIter_list (items := its.toArray) ⟨_, k _ _ e, rfl, n, rfl⟩ h
  | tup a =>
    cases (show u = Value.ref a from r)
    obtain ⟨_, its, rr, o, e, c⟩ := Rd.ok hv I.hok
    exact wpAny_pyIter_tuple (items := its.toArray) ⟨o, k _ _ e, c⟩ h
  | str x =>
    obtain ⟨t, q⟩ := (show ∃ t, u = Value.str x t from r)
    subst q
    exact wpAny_pyIter_strU h
theorem sk_own0 {κ : SK} {u : Value} {h h' : Heap} {it : Addr} (r : RelV κ.val u) (e : h.get? it = some (itObj u κ)) : κ.own it 0 h := by
  cases κ with
  | lst a => cases (show u = Value.ref a from r); exact ⟨_, e, rfl, rfl⟩
  | tup a => cases (show u = Value.ref a from r); exact ⟨_, e, rfl, rfl⟩
  | str x => obtain ⟨t, q⟩ := (show ∃ t, u = Value.str x t from r); subst q; exact ⟨t, _, e, rfl, rfl⟩
abbrev zH1 (h : Heap) (o1 : Obj) : Heap := h.push o1
abbrev zH2 (h : Heap) (o1 o2 : Obj) : Heap := (zH1 h o1).push o2
abbrev zH3 (h : Heap) (o1 o2 : Obj) : Heap := (zH2 h o1 o2).push { cls := .type "tuple", data := .seq #[.ref h.objs.size, .ref (zH1 h o1).objs.size] }
abbrev zH4 (h : Heap) (o1 o2 : Obj) : Heap := (zH3 h o1 o2).push { cls := .type "tuple", data := .seq #[.none, .none] }
abbrev zH5 (h : Heap) (o1 o2 : Obj) : Heap := (zH4 h o1 o2).push { cls := .type "zip", data := .fields #[.none, .bool false, .bool false, .ref (zH2 h o1 o2).objs.size, .ref (zH3 h o1 o2).objs.size] }
set_option maxHeartbeats 4000000 in
theorem meets_zipG (v1 v2 : Value) (o1 o2 : Obj) :
    Meets (Builtin.«zip.__new__» ⟨[.type "zip", v1, v2], []⟩) (fun _ R s => Iters s.heap v1 o1 ∧ Iters s.heap v2 o2 ∧
      R (.ok (.ret (.ref (zH4 s.heap o1 o2).objs.size))) { s with heap := zH5 s.heap o1 o2 }) :=
  .of_wp fun prog w A R s h => by
    obtain ⟨hp, g, d, tk, os⟩ := s; obtain ⟨hl1, hl2, h⟩ := h
    have hsub := sub_zip
    have g1 : ∀ (A : Around) (E : Value → Shared → Prop) (Q : Value → Shared → Prop), Q (.ref hp.objs.size) ⟨hp.push o1, g, d, tk, os⟩ → wpAny (model prog w) A (pyIter v1) Q E ⟨hp, g, d, tk, os⟩ := fun A E Q q => hl1 prog w A E ⟨hp, g, d, tk, os⟩ Q (fun _ _ e => e) q
    have g2 : ∀ (A : Around) (E : Value → Shared → Prop) (Q : Value → Shared → Prop), Q (.ref (hp.push o1).objs.size) ⟨(hp.push o1).push o2, g, d, tk, os⟩ → wpAny (model prog w) A (pyIter v2) Q E ⟨hp.push o1, g, d, tk, os⟩ := fun A E Q q => hl2 prog w A E ⟨hp.push o1, g, d, tk, os⟩ Q (fun _ _ e => Heap.get?_push_of_some _ e) q
    wp_walk using g1 _ _ _, g2 _ _ _
    exact ⟨_, rfl, h⟩
theorem call_zipG {prog : Program} {w : World} {A : Around} {E : Value → Shared → Prop} {s : Shared} {v1 v2 : Value} {o1 o2 : Obj} {Q : Value → Shared → Prop} (f1 : o1.isFreed = false) (f2 : o2.isFreed = false) (hl1 : Iters s.heap v1 o1) (hl2 : Iters s.heap v2 o2)
    (h : ∀ h', IsZip h' (s.heap.objs.size + 4) (s.heap.objs.size + 2) (s.heap.objs.size + 3) .none → IsPair h' (s.heap.objs.size + 2) (.ref s.heap.objs.size) (.ref (s.heap.objs.size + 1)) →
      IsPair h' (s.heap.objs.size + 3) .none .none → h'.get? s.heap.objs.size = some o1 → h'.get? (s.heap.objs.size + 1) = some o2 →
      (∀ c o, s.heap.get? c = some o → h'.get? c = some o) → Q (.ref (s.heap.objs.size + 4)) { s with heap := h' }) :
    wpAny (model prog w) A (call (.type "zip") [v1, v2]) Q E s := by
  refine callType_new F.called_zip (by decide) (F.typeCall_zip_2 _ _) (F.newCall_zip_2 _ _) (fun obj => F.args_object_init_3 obj _ _) F.entry_zip_new
    (meets_zipG v1 v2 o1 o2) ⟨hl1, hl2, ?_⟩
  have z1 : (zH1 s.heap o1).objs.size = s.heap.objs.size + 1 := Heap.size_push ..
  have z2 : (zH2 s.heap o1 o2).objs.size = s.heap.objs.size + 2 := by rw [Heap.size_push, z1]
  have z3 : (zH3 s.heap o1 o2).objs.size = s.heap.objs.size + 3 := by rw [Heap.size_push, z2]
  have z4 : (zH4 s.heap o1 o2).objs.size = s.heap.objs.size + 4 := by rw [Heap.size_push, z3]
  have g5 : (zH5 s.heap o1 o2).get? (zH4 s.heap o1 o2).objs.size = some _ := Heap.get?_push_size _ rfl
  have g4 : (zH5 s.heap o1 o2).get? (zH3 s.heap o1 o2).objs.size = some _ := Heap.get?_push_of_some _ (Heap.get?_push_size _ rfl)
  have g3 : (zH5 s.heap o1 o2).get? (zH2 s.heap o1 o2).objs.size = some _ := Heap.get?_push_of_some _ (Heap.get?_push_of_some _ (Heap.get?_push_size _ rfl))
  have g2 : (zH5 s.heap o1 o2).get? (zH1 s.heap o1).objs.size = some _ := Heap.get?_push_of_some _ (Heap.get?_push_of_some _ (Heap.get?_push_of_some _ (Heap.get?_push_size _ f2)))
  have g1 : (zH5 s.heap o1 o2).get? s.heap.objs.size = some _ := Heap.get?_push_of_some _ (Heap.get?_push_of_some _ (Heap.get?_push_of_some _ (Heap.get?_push_of_some _ (Heap.get?_push_size _ f1))))
  show _ ∧ _
  rw [z2, z3, z4] at g5
  rw [z1, z2] at g3
  rw [z3] at g4
  rw [z1] at g2
  rw [z4]
  exact ⟨⟨_, g5, rfl⟩, h _ g5 g3 g4 g1 g2 fun c o x =>
    Heap.get?_push_of_some _ (Heap.get?_push_of_some _ (Heap.get?_push_of_some _ (Heap.get?_push_of_some _ (Heap.get?_push_of_some _ x))))⟩
section
variable {X : Cx}
def iZip (ta : TA) : TI := fun σ H R => ta σ H fun vs H1 => ∃ κ1 κ2 : SK, vs = [κ1.val, κ2.val] ∧ (∃ xs, κ1.has H1 xs) ∧ (∃ ys, κ2.has H1 ys) ∧ R (Itz κ1 κ2) H1
theorem pi_zip {a b : Expr} {ta : TA} {p pos : Pos} {elts : List Expr} {x1 : Nat} {tpos : Pos} (hg : Gl X "zip") (hm : X.mg "zip" = none) (ha : PA X [a, b] ta)
    (hs : starEach [a, b] X.env = [(false, eval a X.env), (false, eval b X.env)] := by rfl) (hs2 : starEach [b] X.env = [(false, eval b X.env)] := by rfl) : PI X (.Tuple elts x1 tpos) (.Call (.Name "zip" p) [a, b] [] pos) (iZip ta) := by
  intro pins s σ H R I h
  refine Call_ (ld_blt I hg hm boot_zip (PyProof.Rows.callWith_type1 (thn (ha pos pins s σ H _ I h) fun us s1 ⟨vs, H1, I1, r1, q1⟩ => ?_) (by rw [hs, hs2]) (by rw [hs2]; rfl)))
  obtain ⟨κ1, κ2, e, ⟨xs, hx⟩, ⟨ys, hy⟩, q⟩ := q1
  subst e
  obtain ⟨u, v, rfl, ru, rv⟩ := vals2 r1
  refine call_zipG (itObj_live u κ1) (itObj_live v κ2) (sk_iters I1 hx ru) (sk_iters I1 hy rv) fun h' hz hTI hTO h1 h2 hk => ?_
  refine wpAny_pyIter_zip hz ⟨s1.heap.objs.size + 4, [s1.heap.objs.size + 4, s1.heap.objs.size + 2, s1.heap.objs.size + 3, s1.heap.objs.size, s1.heap.objs.size + 1], _, _, H1, rfl, I1.kept (t' := s1.toks) hk,
    turn_zip κ1 κ2 _ _ _ _ _ (by simp), ⟨hz, hTI, ⟨_, _, hTO⟩, sk_own0 (h' := h') ru h1, sk_own0 (h' := h') rv h2⟩, fun b hb => ?_, q⟩
  have hge : s1.heap.objs.size ≤ b := by
    simp only [List.mem_cons, List.not_mem_nil, or_false] at hb
    rcases hb with rfl | rfl | rfl | rfl | rfl <;> first | exact Nat.le_add_right _ _ | exact Nat.le_refl _
  exact I1.fpOk hge (I1.hok.fresh hge)
end

/-! ### the forms one uses -/
theorem for_zip {κ1 κ2 : SK} {xs ys : List V} {g : TG} {tb : TS} {D : Ends} {σ : St} {H : Hp} (Pv : Nat → St → Hp → Prop) (h0 : Pv 0 σ H) (hlen : xs.length = ys.length) (hl : ∀ i σ H, i ≤ xs.length → Pv i σ H → κ1.has H xs ∧ κ2.has H ys)
    (hs : ∀ i x y σ H p, xs[i]? = some x → ys[i]? = some y → Pv i σ H → H p = none → g (.ref p) σ (upd H p (.tup [x, y])) fun σ2 H2 => tb { D with nx := Pv (i + 1), ct := Pv (i + 1), bk := D.nx } σ2 H2) (hd : ∀ σ H, Pv xs.length σ H → D.nx σ H) :
    ∃ W : Nat → Nat → St → Hp → Prop, (∃ m, W 0 m σ H) ∧ ∀ i m σ H, W i m σ H →
      ((Itz κ1 κ2).stop i H ∧ D.nx σ H) ∨ ((Itz κ1 κ2).go i H ∧ ∃ N : St → Hp → Prop, (∀ σ' H', N σ' H' → ∃ m', m' < m ∧ W (i + 1) m' σ' H') ∧ ∀ x H', (Itz κ1 κ2).yld i H x H' → g x σ H' fun σ2 H2 => tb { D with nx := N, ct := N, bk := D.nx } σ2 H2) := by
  refine ⟨fun i m σ H => i ≤ xs.length ∧ m = xs.length - i ∧ Pv i σ H, ⟨xs.length, Nat.zero_le _, rfl, h0⟩, fun i m σ H ⟨hi, hm, hp⟩ => ?_⟩
  obtain ⟨a1, a2⟩ := hl i σ H hi hp
  rcases Nat.lt_or_ge i xs.length with lt | ge
  · have lt2 : i < ys.length := by omega
    refine .inr ⟨⟨xs, ys, xs[i], ys[i], a1, a2, List.getElem?_eq_getElem lt, List.getElem?_eq_getElem lt2⟩, Pv (i + 1), fun σ' H' hn => ⟨xs.length - (i + 1), by omega, by omega, rfl, hn⟩, fun x H' hy => ?_⟩
    obtain ⟨p, x', y', rfl, hpn, rfl, e1, e2⟩ := hy
    exact hs i x' y' σ H p (e1 xs a1) (e2 ys a2) hp hpn
  · have e : i = xs.length := by omega
    subst e
    exact .inl ⟨⟨xs, ys, a1, a2, .inl rfl⟩, hd σ H hp⟩
theorem for_enum {κ : SK} {xs : List V} {g : TG} {tb : TS} {D : Ends} {σ : St} {H : Hp} (Pv : Nat → St → Hp → Prop) (h0 : Pv 0 σ H) (hl : ∀ i σ H, i ≤ xs.length → Pv i σ H → κ.has H xs)
    (hs : ∀ (i : Nat) x σ H p, xs[i]? = some x → Pv i σ H → H p = none → g (.ref p) σ (upd H p (.tup [.int i, x])) fun σ2 H2 => tb { D with nx := Pv (i + 1), ct := Pv (i + 1), bk := D.nx } σ2 H2) (hd : ∀ σ H, Pv xs.length σ H → D.nx σ H) :
    ∃ W : Nat → Nat → St → Hp → Prop, (∃ m, W 0 m σ H) ∧ ∀ i m σ H, W i m σ H →
      ((Ite κ).stop i H ∧ D.nx σ H) ∨ ((Ite κ).go i H ∧ ∃ N : St → Hp → Prop, (∀ σ' H', N σ' H' → ∃ m', m' < m ∧ W (i + 1) m' σ' H') ∧ ∀ x H', (Ite κ).yld i H x H' → g x σ H' fun σ2 H2 => tb { D with nx := N, ct := N, bk := D.nx } σ2 H2) := by
  refine ⟨fun i m σ H => i ≤ xs.length ∧ m = xs.length - i ∧ Pv i σ H, ⟨xs.length, Nat.zero_le _, rfl, h0⟩, fun i m σ H ⟨hi, hm, hp⟩ => ?_⟩
  have a1 := hl i σ H hi hp
  rcases Nat.lt_or_ge i xs.length with lt | ge
  · refine .inr ⟨⟨xs, xs[i], a1, List.getElem?_eq_getElem lt⟩, Pv (i + 1), fun σ' H' hn => ⟨xs.length - (i + 1), by omega, by omega, rfl, hn⟩, fun x H' hy => ?_⟩
    obtain ⟨p, x', rfl, hpn, rfl, e1⟩ := hy
    exact hs i x' σ H p (e1 xs a1) hp hpn
  · have e : i = xs.length := by omega
    subst e
    exact .inl ⟨⟨xs, a1, rfl⟩, hd σ H hp⟩

/-! ### a slice of a text -/
/-! ### isinstance of one class -/
theorem call_isinst {X : Cx} : CallR X (.builtin "isinstance") (fun vs H Q => ∃ x t T b, vs = [x, .ty T] ∧ TyOf X.K H x t ∧ PySem.W.kitOne X.K t (.type T) = some b ∧ Q (.bl b) H) := by
  intro pins s σ H xs us Q I r h
  obtain ⟨x, t, T, b, rfl, ty, e, q⟩ := h
  obtain ⟨u, v, rfl, ru, rv⟩ := vals2 r
  cases (show v = Value.type T from rv)
  exact isinst_ok I ru ty e fun tk => ⟨.bl b, H, I.tok tk, rfl, q⟩
end L2


set_option Elab.async false
set_option linter.all false
set_option maxRecDepth 100000
set_option maxHeartbeats 4000000
/-! defs of the text by name; a pool of two ints that is drawn from -/
namespace L2
open PySem PySem.Spec PyProof.Rows

theorem csc {X : Cx} {scope : Scope} {NL : List Str} {ix : List Nat} (esc : Scope) (N : List Str) (h1 : X.env.scope = esc := by rfl) (h2 : X.N = N := by rfl) (c1 : scope.kind = .function := by rfl)
    (c2 : ∀ y ∈ scope.names, y.2 ≠ .cell := by decide +kernel) (c3 : ∀ y ∈ scope.names, y.2 = .local → scope.names.lookup y.1 = some .local := by decide +kernel)
    (c4 : ∀ y ∈ scope.names, y.2 = .free → esc.names.lookup y.1 = some .cell ∨ esc.names.lookup y.1 = some .free := by decide +kernel)
    (c5 : ∀ j ∈ ix, (N[j]?).bind (fun x => scope.names.lookup x) = some .free := by decide +kernel) : CompScope X scope NL ix where
  kind := c1
  cell := c2
  names := c3
  free := fun y hy hf => by
    have := c4 y hy hf
    rw [← h1] at this
    exact this
  cap := fun j hj => by
    have := c5 j hj
    rw [h2]
    cases e : N[j]? with
    | none => rw [e] at this; cases this
    | some x => rw [e] at this; exact ⟨x, rfl, this⟩

/-- a def of the text keeps its promise -/
def Has (P : Program) (w : World) (K : PySem.W.Frag) (mg : Str → Option Value) (base : Heap) (x : Str) (k : Nat) (ps : List Str) (sp : Sp) : Prop :=
  ∃ f fd, FnOk P w K mg base CX0 k f fd ps sp ∧ Binds K fd ps [] ∧ PySem.W.keepIn K (.ref f) = true ∧ mg x = some (.ref f)
section
variable {P : Program} {w : World} {K : PySem.W.Frag} {mg : Str → Option Value} {base : Heap}
theorem Has.mono {x : Str} {j k : Nat} {ps : List Str} {sp : Sp} (G : Has P w K mg base x j ps sp) (h : j ≤ k) : Has P w K mg base x k ps sp :=
  let ⟨f, fd, F, r⟩ := G; ⟨f, fd, F.mono h, r⟩
/-- a def as it stands behind the top -/
def Df (K : PySem.W.Frag) (mg : Str → Option Value) (x : Str) (st : Stmt) : Prop := ∃ f fd, Fun K x x st f fd ∧ mg x = some (.ref f)
theorem Df.has {x : Str} {st : Stmt} {N ps : List Str} {k : Nat} {sp : Sp} (D : Df K mg x st) (S : FnScope N ps (defScope st))
    (hb : ∀ (kV doc pm : Value) (an : Option Addr) (cdv ct : Value) (us : List Value), us.length = ps.length → bindArgs (PySem.W.fnOf x x (defArgs st) (defBody st) (defScope st) .none kV doc pm an cdv ct) ⟨us, []⟩ = pure (ps.zip us))
    (len : ∀ vs H Q E, sp vs H Q E → vs.length = ps.length)
    (hbody : ∀ (f : Addr) (cdv : Value) (A : Around) (outer : List Env) (s : Shared) (H : Hp) (vs : List V) (Q : VK) (E : XK), Room k (A.deeper (envOfC x (defScope st) s.heap.objs.size f cdv)) → sp vs H Q E →
      ∃ t, PSs (cxOf CX0 P w K mg base N x (defScope st) f cdv A outer s H E).nox (defBody st) t ∧ t { nx := fun _ H' => Q .non H', rt := Q } (start N vs) H) : Has P w K mg base x (k + 1) ps sp := by
  obtain ⟨f, fd, F, m⟩ := D
  exact ⟨f, fd, F.ok S len fun cdv A outer s H vs Q E hr h => hbody f cdv A outer s H vs Q E hr h, F.binds hb, F.kp, m⟩
end
theorem pe_callH {X : Cx} {x : Str} {k : Nat} {ps : List Str} {sp : Sp} {p pos : Pos} {e : Expr} {es : List Expr} {t : TA} (G : Has X.prog X.w X.K X.mg X.base x k ps sp) (hr : Room k X.A) (hg : Gl X x) (ha : PA X (e :: es) t)
    (hdb : (x == ("__debug__" : Str)) = false := by decide) (he : starEach (e :: es) X.env = (false, eval e X.env) :: starEach es X.env := by rfl) (hpl : (backTo pos (starEach es X.env)).any (·.1) = false := by rfl) :
    PE X (.Call (.Name x p) (e :: es) [] pos) (tCall sp [] E0 t) := by
  obtain ⟨f, fd, F, b, kp, m⟩ := G
  exact pe_call F hr hg m kp b .nil pass0 ha hdb he hpl

/-- Python's own names mean what they mean -/
structure Blt (mg : Str → Option Value) : Prop where
  len : mg "len" = none
  range : mg "range" = none
  zip : mg "zip" = none
  enumerate : mg "enumerate" = none
  max : mg "max" = none
  min : mg "min" = none
  int_ : mg "int" = none
  str_ : mg "str" = none
  bool_ : mg "bool" = none
  list_ : mg "list" = none
  tuple_ : mg "tuple" = none
  isinstance : mg "isinstance" = none

abbrev Pool (H : Hp) (p : Addr) : Prop := ∃ x y : Int, H p = some (.lst [.int x, .int y])
structure Kp (p : Addr) (H H' : Hp) : Prop where
  pool : Pool H' p
  keep : ∀ b o, b ≠ p → H b = some o → H' b = some o
section
variable {p q : Addr} {H H1 H2 : Hp} {o : HO}
theorem Kp.refl (h : Pool H p) : Kp p H H := ⟨h, fun _ _ _ e => e⟩
theorem Kp.trans (a : Kp p H H1) (b : Kp p H1 H2) : Kp p H H2 := ⟨b.pool, fun c u hc e => b.keep c u hc (a.keep c u hc e)⟩
theorem Kp.new (a : Kp p H H1) (hq : H1 q = none) : Kp p H (upd H1 q o) := by
  obtain ⟨⟨x, y, e⟩, k⟩ := a
  refine ⟨⟨x, y, by rw [upd_ne (ne_of_none e hq)]; exact e⟩, fun c u hc h => ?_⟩
  have := k c u hc h
  rw [upd_ne (ne_of_none this hq)]; exact this
/-- what was made since may be changed -/
theorem Kp.write (a : Kp p H H1) (hq : H q = none) (hp : q ≠ p) : Kp p H (upd H1 q o) := by
  obtain ⟨⟨x, y, e⟩, k⟩ := a
  refine ⟨⟨x, y, by rw [upd_ne (Ne.symm hp)]; exact e⟩, fun c u hc h => ?_⟩
  rw [upd_ne (ne_of_none h hq)]; exact k c u hc h
theorem Pool.ne (h : Pool H p) (hq : H q = none) : q ≠ p := by
  obtain ⟨x, y, e⟩ := h
  exact Ne.symm (ne_of_none e hq)
end
theorem bt_len : bootBuiltins "len" = some (.builtin "len") := by decide +kernel
theorem bt_max : bootBuiltins "max" = some (.builtin "max") := by decide +kernel
theorem bt_all : bootBuiltins "all" = some (.builtin "all") := by decide +kernel
theorem bt_sorted : bootBuiltins "sorted" = some (.builtin "sorted") := by decide +kernel
theorem bt_isinstance : bootBuiltins "isinstance" = some (.builtin "isinstance") := by decide +kernel
theorem bt_int : bootBuiltins "int" = some (.type "int") := by decide +kernel
theorem bt_str : bootBuiltins "str" = some (.type "str") := by decide +kernel
theorem bt_bool : bootBuiltins "bool" = some (.type "bool") := by decide +kernel
theorem bt_list : bootBuiltins "list" = some (.type "list") := by decide +kernel
theorem bt_tuple : bootBuiltins "tuple" = some (.type "tuple") := by decide +kernel
theorem Same.new {H0 H : Hp} {q : Addr} {o : HO} (h : Same H0 H) (hq : H q = none) : Same H0 (upd H q o) := fun b u e => by
  have := h b u e
  rw [upd_ne (ne_of_none this hq)]; exact this
theorem Same.write {H0 H : Hp} {q : Addr} {o : HO} (h : Same H0 H) (hq : H0 q = none) : Same H0 (upd H q o) := fun b u e => by
  rw [upd_ne (ne_of_none e hq)]; exact h b u e
theorem app_list (a y : Str) : (a ++ y).cps.toList = a.cps.toList ++ y.cps.toList := by
  show (a.cps ++ y.cps).toList = _
  simp
end L2


set_option Elab.async false
set_option linter.all false
set_option maxRecDepth 100000
set_option maxHeartbeats 4000000
/-! texts: startswith, join, a text times an int -/
namespace L2
open PySem PySem.Spec PyProof.Rows
section
variable {X : Cx}
theorem pg_tupK (K : PySem.W.Frag) {es : List Expr} {k : Nat} {t : TGs} {n : Nat} {pos : Pos} (hc : X.calm = true) (h : PGs X es t) (hK : X.K = K := by rfl) (hn : (assignEach es X.env).length = n := by rfl)
    (hst : (assignEach es X.env).findIdx? (·.1) = none := by rfl) : PG X (.Tuple es k pos) (gTup K n t) := by
  subst hK
  exact pg_tup hc h hn hst
theorem strsAre_of : ∀ {ys : List Str} {us : List Value}, Vals (ys.map V.str) us → StrsAre us ys
  | [], [], _ => .nil
  | [], _ :: _, h => nomatch h
  | _ :: _, [], h => nomatch h
  | y :: r, u :: us, h => by
    cases h with
    | cons a b =>
      obtain ⟨t, rfl⟩ := a
      exact .cons y t (strsAre_of b)
theorem mt_join : MtR X "str.join" (fun x vs H Q => ∃ z a ys, x = .str z ∧ vs = [.ref a] ∧ SqL X.K H a (ys.map V.str) ∧ (ys.map (·.length)).sum + ys.length * z.length ≤ 16777216 ∧ Q (.str (Txt.join z ys)) H) := by
  intro pins s σ H x xs v us Q I rx rv h
  obtain ⟨z, a, ys, rfl, rfl, hl, hok, q⟩ := h
  obtain ⟨t, rfl⟩ := rx
  obtain ⟨u, rfl, ru⟩ := rv.one
  cases (show u = Value.ref a from ru)
  obtain ⟨its, r, ht, hz⟩ := I.list hl
  exact join_list ht.isList (strsAre_of (by simpa using r)) hok fun t' k => ⟨.str _, H, I.tok k, ⟨t', rfl⟩, q⟩
/-! ### == of lists, of tuples: flat items -/
def eqAtJ (xs ys : List V) (j : Nat) : Bool := match xs[j]?, ys[j]? with
  | some x, some y => eqV x y
  | _, _ => false
def eqVs (xs ys : List V) : Bool := xs.length == ys.length && (List.range xs.length).all (eqAtJ xs ys)
theorem flat_ints (ns : List Int) : (ns.map V.int).all flatV = true := by
  rw [List.all_eq_true]; intro x hx; obtain ⟨n, _, rfl⟩ := List.mem_map.mp hx; rfl
theorem eqAt_items {A : Around} {s : Shared} {xs ys : List V} {us ws : List Value} (r1 : Vals xs us) (r2 : Vals ys ws) (f1 : xs.all flatV = true) (f2 : ys.all flatV = true) (j : Nat) (h1 : j < us.toArray.size) (h2 : j < ws.toArray.size) :
    SeqAt.EqAt A s us.toArray[j] ws.toArray[j] (eqAtJ xs ys j) := by
  have g1 : j < xs.length := by rw [r1.length]; simpa using h1
  have g2 : j < ys.length := by rw [r2.length]; simpa using h2
  obtain ⟨u, e1, q1⟩ := r1.get (List.getElem?_eq_getElem g1)
  obtain ⟨v, e2, q2⟩ := r2.get (List.getElem?_eq_getElem g2)
  have d1 : us.toArray[j] = u := by
    rw [List.getElem?_eq_getElem (by simpa using h1)] at e1
    simpa using Option.some.inj e1
  have d2 : ws.toArray[j] = v := by
    rw [List.getElem?_eq_getElem (by simpa using h2)] at e2
    simpa using Option.some.inj e2
  rw [d1, d2]
  unfold eqAtJ
  rw [List.getElem?_eq_getElem g1, List.getElem?_eq_getElem g2]
  exact eqAt_V q1 q2 (List.all_eq_true.mp f1 _ (List.getElem_mem g1)) (List.all_eq_true.mp f2 _ (List.getElem_mem g2))
theorem op_eq_lst (hu : X.A.units < cLine) : OpR X (compareOp .Eq) (fun x y H Q => ∃ a b xs ys, x = .ref a ∧ y = .ref b ∧ SqL X.K H a xs ∧ SqL X.K H b ys ∧ xs.all flatV = true ∧ ys.all flatV = true ∧ Q (.bl (eqVs xs ys)) H) := by
  intro pins s σ H x y v u Q I rx ry h
  obtain ⟨a, b, xs, ys, rfl, rfl, h1, h2, f1, f2, q⟩ := h
  cases (show v = Value.ref a from rx)
  cases (show u = Value.ref b from ry)
  obtain ⟨us, r1, l1, _⟩ := I.list h1
  obtain ⟨ws, r2, l2, _⟩ := I.list h2
  have e1 := r1.length
  have e2 := r2.length
  by_cases hl : xs.length = ys.length
  · refine SeqAt.eq_listAt (e := eqAtJ xs ys) l1.isList l2.isList (by simp; omega) hu (fun j g1 g2 => eqAt_items r1 r2 f1 f2 j g1 g2) ⟨.bl _, H, I, rfl, ?_⟩
    have : eqVs xs ys = (List.range us.toArray.size).all (eqAtJ xs ys) := by
      unfold eqVs
      rw [List.size_toArray, ← e1, beq_iff_eq.mpr hl, Bool.true_and]
    rw [← this]; exact q
  · refine SeqAt.eq_list_lengthsAt l1.isList l2.isList (by simp; omega) hu ⟨.bl _, H, I, rfl, ?_⟩
    have : eqVs xs ys = false := by
      unfold eqVs
      have : (xs.length == ys.length) = false := by simpa using hl
      rw [this]; rfl
    rw [this] at q; exact q
end
/-! ### comprehensions over a list, enumerate, zip -/
section
variable {NL : List Str} {ix : List Nat} {g : TG} {tt : TT} {te : TE} {σ : St} {H1 : Hp} {Qs : Hp → Prop} {acc : Addr}
theorem comp_lst {K : PySem.W.Frag} {a : Addr} {xs : List V} (hn : xs.length < 1000) (Pv : Nat → List V → Hp → Prop)
    (hl : ∀ i ys H2, Pv i ys H2 → SqL K H2 a xs) (hacc : ∀ i ys H2, Pv i ys H2 → H2 acc = some (.lst ys) ∧ ys.length ≤ i) (h0 : Pv 0 [] (upd H1 acc (.lst []))) (hstop : ∀ ys H2, Pv xs.length ys H2 → Qs H2)
    (hturn : ∀ i x ys H2, xs[i]? = some x → Pv i ys H2 → g x (comp0 NL ix σ) H2 fun σ' H4 => σ'.drop NL.length = ix.map (fun j => σ.getD j none) ∧ tt σ' H4 fun b H5 =>
      if b = true then te σ' H5 fun v H6 => H6 acc = some (.lst ys) ∧ Pv (i + 1) (ys ++ [v]) (upd H6 acc (.lst (ys ++ [v]))) else Pv (i + 1) ys H5) :
    ∃ W : Nat → Nat → List V → Hp → Prop, (∃ m, W 0 m [] (upd H1 acc (.lst []))) ∧
    ∀ i m ys H2, W i m ys H2 → H2 acc = some (.lst ys) ∧ ys.length < sizeLine ∧
      (((Itl K a).stop i H2 ∧ Qs H2) ∨ ((Itl K a).go i H2 ∧ ∃ N : List V → Hp → Prop, (∀ ys' H', N ys' H' → ∃ m', m' < m ∧ W (i + 1) m' ys' H') ∧
        ∀ x H3, (Itl K a).yld i H2 x H3 → g x (comp0 NL ix σ) H3 fun σ' H4 => σ'.drop NL.length = ix.map (fun j => σ.getD j none) ∧ tt σ' H4 fun b H5 =>
          if b = true then te σ' H5 fun v H6 => H6 acc = some (.lst ys) ∧ N (ys ++ [v]) (upd H6 acc (.lst (ys ++ [v]))) else N ys H5)) := by
  refine comp_by xs.length hn Pv hacc h0 (fun ys H2 hp => ⟨⟨xs, hl _ _ _ hp, Nat.le_refl _⟩, hstop ys H2 hp⟩) fun i ys H2 hi hp => ?_
  have hs := hl _ _ _ hp
  refine ⟨⟨xs, xs[i], hs, List.getElem?_eq_getElem hi⟩, ?_⟩
  rintro x H3 ⟨rfl, hx⟩
  exact hturn i x ys H3 (hx xs hs) hp
theorem comp_enum {κ : SK} {xs : List V} (hn : xs.length < 1000) (Pv : Nat → List V → Hp → Prop)
    (hl : ∀ i ys H2, Pv i ys H2 → κ.has H2 xs) (hacc : ∀ i ys H2, Pv i ys H2 → H2 acc = some (.lst ys) ∧ ys.length ≤ i) (h0 : Pv 0 [] (upd H1 acc (.lst []))) (hstop : ∀ ys H2, Pv xs.length ys H2 → Qs H2)
    (hturn : ∀ (i : Nat) x ys H2 p, xs[i]? = some x → Pv i ys H2 → H2 p = none → g (.ref p) (comp0 NL ix σ) (upd H2 p (.tup [.int i, x])) fun σ' H4 => σ'.drop NL.length = ix.map (fun j => σ.getD j none) ∧ tt σ' H4 fun b H5 =>
      if b = true then te σ' H5 fun v H6 => H6 acc = some (.lst ys) ∧ Pv (i + 1) (ys ++ [v]) (upd H6 acc (.lst (ys ++ [v]))) else Pv (i + 1) ys H5) :
    ∃ W : Nat → Nat → List V → Hp → Prop, (∃ m, W 0 m [] (upd H1 acc (.lst []))) ∧
    ∀ i m ys H2, W i m ys H2 → H2 acc = some (.lst ys) ∧ ys.length < sizeLine ∧
      (((Ite κ).stop i H2 ∧ Qs H2) ∨ ((Ite κ).go i H2 ∧ ∃ N : List V → Hp → Prop, (∀ ys' H', N ys' H' → ∃ m', m' < m ∧ W (i + 1) m' ys' H') ∧
        ∀ x H3, (Ite κ).yld i H2 x H3 → g x (comp0 NL ix σ) H3 fun σ' H4 => σ'.drop NL.length = ix.map (fun j => σ.getD j none) ∧ tt σ' H4 fun b H5 =>
          if b = true then te σ' H5 fun v H6 => H6 acc = some (.lst ys) ∧ N (ys ++ [v]) (upd H6 acc (.lst (ys ++ [v]))) else N ys H5)) := by
  refine comp_by xs.length hn Pv hacc h0 (fun ys H2 hp => ⟨⟨xs, hl _ _ _ hp, rfl⟩, hstop ys H2 hp⟩) fun i ys H2 hi hp => ?_
  have hs := hl _ _ _ hp
  refine ⟨⟨xs, xs[i], hs, List.getElem?_eq_getElem hi⟩, ?_⟩
  rintro x H3 ⟨p, x', rfl, hpn, rfl, hx⟩
  exact hturn i x' ys H2 p (hx xs hs) hp hpn
end
theorem kit_same (K : PySem.W.Frag) (T : String) : PySem.W.kitOne K (.type T) (.type T) = some true := by
  unfold PySem.W.kitOne
  rw [if_pos (beq_self_eq_true _)]
/-! ### a deck of three ints that is drawn from; the third counts -/
abbrev Deck (H : Hp) (p : Addr) (c : Int) : Prop := ∃ x y z : Int, H p = some (.lst [.int x, .int y, .int z]) ∧ 0 ≤ z ∧ z ≤ c
structure Kd (p : Addr) (c : Int) (H H' : Hp) : Prop where
  deck : Deck H' p c
  keep : ∀ b o, b ≠ p → H b = some o → H' b = some o
section
variable {p q : Addr} {H H1 H2 : Hp} {o : HO} {c d : Int}
theorem Deck.mono (h : Deck H p c) (e : c ≤ d) : Deck H p d := let ⟨x, y, z, a, b, f⟩ := h; ⟨x, y, z, a, b, Int.le_trans f e⟩
theorem Kd.mono (h : Kd p c H H1) (e : c ≤ d) : Kd p d H H1 := ⟨h.deck.mono e, h.keep⟩
theorem Kd.refl (h : Deck H p c) : Kd p c H H := ⟨h, fun _ _ _ e => e⟩
theorem Kd.trans (a : Kd p c H H1) (b : Kd p d H1 H2) : Kd p d H H2 := ⟨b.deck, fun k u hc e => b.keep k u hc (a.keep k u hc e)⟩
theorem Kd.new (a : Kd p c H H1) (hq : H1 q = none) : Kd p c H (upd H1 q o) := by
  obtain ⟨⟨x, y, z, e, r⟩, k⟩ := a
  refine ⟨⟨x, y, z, by rw [upd_ne (ne_of_none e hq)]; exact e, r⟩, fun b u hc h => ?_⟩
  have := k b u hc h
  rw [upd_ne (ne_of_none this hq)]; exact this
theorem Kd.write (a : Kd p c H H1) (hq : H q = none) (hp : q ≠ p) : Kd p c H (upd H1 q o) := by
  obtain ⟨⟨x, y, z, e, r⟩, k⟩ := a
  refine ⟨⟨x, y, z, by rw [upd_ne (Ne.symm hp)]; exact e, r⟩, fun b u hc h => ?_⟩
  rw [upd_ne (ne_of_none h hq)]; exact k b u hc h
theorem Deck.ne (h : Deck H p c) (hq : H q = none) : q ≠ p := by
  obtain ⟨x, y, z, e, _⟩ := h
  exact Ne.symm (ne_of_none e hq)
theorem Kd.same (a : Kd p c H H1) (s : Same H1 H2) : Kd p c H H2 := by
  obtain ⟨⟨x, y, z, e, r⟩, k⟩ := a
  exact ⟨⟨x, y, z, s _ _ e, r⟩, fun b u hc h => s _ _ (k b u hc h)⟩
theorem Kd.fresh (a : Kd p c H H1) (hq : H1 q = none) : H q = none := by
  cases e : H q with
  | none => rfl
  | some u =>
    have := a.keep q u (a.deck.ne hq) e
    rw [hq] at this; cases this
end
end L2


set_option Elab.async false
set_option linter.all false
set_option maxRecDepth 100000
set_option maxHeartbeats 4000000
namespace L2
open PySem PySem.Spec PyProof.Rows
section
variable {X : Cx}
theorem range_all (bs : List Bool) : (List.range bs.length).all (fun i => bs.getD i true) = bs.all id := by
  rw [Bool.eq_iff_iff, List.all_eq_true, List.all_eq_true]
  constructor
  · intro h b hb
    obtain ⟨i, hi, rfl⟩ := List.getElem_of_mem hb
    have := h i (List.mem_range.mpr hi)
    rw [List.getD_eq_getElem?_getD, List.getElem?_eq_getElem hi] at this
    exact this
  · intro h i hi
    have hi' := List.mem_range.mp hi
    rw [List.getD_eq_getElem?_getD, List.getElem?_eq_getElem hi']
    exact h _ (List.getElem_mem hi')
theorem call_all (hc : X.calm = true) : CallR X (.builtin "all") (fun vs H Q => ∃ (a : Addr) (bs : List Bool), vs = [.ref a] ∧ SqL X.K H a (bs.map V.bl) ∧ Q (.bl (bs.all id)) H) := by
  intro pins s σ H xs us Q I r h
  obtain ⟨a, bs, rfl, hl, q⟩ := h
  obtain ⟨u, rfl, ru⟩ := vals1 r
  cases (show u = Value.ref a from ru)
  obtain ⟨its, rv, ht, hz⟩ := I.list hl
  have hlen := rv.length
  rw [List.length_map] at hlen
  have hh : X.A.in1.handled = none := I.ok.hd hc
  have hlt : a < s.heap.objs.size := by obtain ⟨o, e, _⟩ := ht.isList; exact Heap.lt_size e
  refine call_all_walk (wpAny_pyIter_list ht.isList ⟨s.heap.objs.size, _, _, _, _, _, fun i => bs.getD i true, rfl, Walks.list hh s.heap.objs.size a (Nat.ne_of_lt hlt) its.toArray, ?_, ?_, ?_⟩)
  · exact ⟨⟨_, Heap.get?_push_size _ rfl, rfl, rfl⟩, Heap.IsList.push ht.isList _⟩
  · intro i v s' Q' E' hv hQ
    have hv' : its[i]? = some v := by simpa using hv
    have hi : i < (bs.map V.bl).length := by rw [List.length_map, hlen]; exact (List.getElem?_eq_some_iff.mp hv').1
    obtain ⟨u', e1, e2⟩ := rv.get (List.getElem?_eq_getElem hi)
    rw [hv'] at e1
    cases e1
    rw [List.getElem_map] at e2
    cases (show v = Value.bool _ from e2)
    refine wpAny_truthy_bool ?_
    have hb : bs.getD i true = bs[i]'(by simpa using hi) := by rw [List.getD_eq_getElem?_getD, List.getElem?_eq_getElem (by simpa using hi)]; rfl
    rw [← hb]
    exact hQ
  · intro h' tk hk
    refine ⟨.bl (bs.all id), H, ?_, ?_, q⟩
    · exact I.kept (t' := tk) fun b o e => hk b o (by simp; exact Nat.ne_of_lt (Heap.lt_size e)) (Heap.get?_push_of_some _ e)
    · show Value.bool _ = Value.bool _
      rw [← range_all, hlen, List.size_toArray]
end
end L2


set_option Elab.async false
set_option linter.all false
set_option maxRecDepth 100000
set_option maxHeartbeats 4000000
/-! sorting, as the questions that it asks: of things told apart by a pure order the answer is the rising one -/
namespace L2
open PySem.W PyProof.Rows
section
variable {α β : Type} {n : Nat} {lt : Nat → Nat → Bool}
def okT (n : Nat) (lt : Nat → Nat → Bool) : KasT α → (α → Prop) → Prop
  | .ret a, Q => Q a
  | .ask i j k, Q => i < n ∧ j < n ∧ okT n lt (k (lt i j)) Q
theorem okT_bind {f : α → KasT β} {Q : β → Prop} : ∀ t : KasT α, okT n lt t (fun a => okT n lt (f a) Q) → okT n lt (t.bind f) Q
  | .ret _, h => h
  | .ask i j k, h => ⟨h.1, h.2.1, okT_bind (k (lt i j)) h.2.2⟩
structure TotB (n : Nat) (lt : Nat → Nat → Bool) : Prop where
  asym : ∀ i j, lt i j = true → lt j i = false
  tr : ∀ i j k, lt j i = false → lt k j = false → lt k i = false
  tot : ∀ i j, i < n → j < n → lt i j = false → lt j i = false → i = j
def PermN (n : Nat) (p : Array Nat) : Prop := p.toList.Perm (List.range n)
abbrev Rise (lt : Nat → Nat → Bool) (p : Array Nat) (m : Nat) : Prop := ∀ i j, i < j → j < m → lt (p.getD j 0) (p.getD i 0) = false
abbrev Fall (lt : Nat → Nat → Bool) (p : Array Nat) (m : Nat) : Prop := ∀ i j, i < j → j < m → lt (p.getD i 0) (p.getD j 0) = false
theorem PermN.sz {p : Array Nat} (h : PermN n p) : p.size = n := by
  have := List.Perm.length_eq h
  simpa using this
theorem PermN.below {p : Array Nat} (h : PermN n p) (h0 : 0 < n) (k : Nat) : p.getD k 0 < n := by
  rw [Array.getD_eq_getD_getElem?]
  cases e : p[k]? with
  | none => exact h0
  | some x =>
    have : x ∈ p.toList := by
      have := Array.mem_of_getElem? e
      exact Array.mem_toList_iff.mpr this
    exact List.mem_range.mp ((List.Perm.mem_iff h).mp this)
theorem PermN.inj {p : Array Nat} (h : PermN n p) {i j : Nat} (hi : i < n) (hj : j < n) (e : p.getD i 0 = p.getD j 0) : i = j := by
  have nd : p.toList.Nodup := (List.Perm.nodup_iff h).mpr List.nodup_range
  have s := h.sz
  have hi' : i < p.toList.length := by rw [Array.length_toList, s]; exact hi
  have hj' : j < p.toList.length := by rw [Array.length_toList, s]; exact hj
  rw [Array.getD_eq_getD_getElem?, Array.getD_eq_getD_getElem?, Array.getElem?_eq_getElem (by omega), Array.getElem?_eq_getElem (by omega)] at e
  have e' : p.toList[i] = p.toList[j] := by simpa using e
  exact (List.getElem_inj nd).mp e'
theorem rev_at {p : Array Nat} {m : Nat} (hm : m ≤ p.size) (k : Nat) : (kas_rev p 0 m).getD k 0 = if k < m then p.getD (m - 1 - k) 0 else p.getD k 0 := by
  unfold kas_rev
  rw [Array.getD_eq_getD_getElem?, getElem?_mirror_all hm]
  by_cases h : k < m
  · rw [if_pos ⟨Nat.zero_le _, h⟩, if_pos h, Array.getD_eq_getD_getElem?, Nat.zero_add]
  · rw [if_neg (by omega), if_neg h, Array.getD_eq_getD_getElem?]
theorem rev_perm {p : Array Nat} {m : Nat} (h : PermN n p) : PermN n (kas_rev p 0 m) := List.Perm.trans (Array.perm_iff_toList_perm.mp (mirror_perm p 0 m _)) h
theorem rev_rise {p : Array Nat} {m : Nat} (hm : m ≤ p.size) (h : Fall lt p m) : Rise lt (kas_rev p 0 m) m := fun i j hij hj => by
  rw [rev_at hm, rev_at hm, if_pos hj, if_pos (by omega)]
  exact h _ _ (by omega) (by omega)

variable (o : TotB n lt)
include o
theorem asc_ok {p : Array Nat} (hp : PermN n p) {Q : Nat → Prop} : ∀ f m, 1 ≤ m → m + f ≤ n → Rise lt p m → (∀ k, m ≤ k → k ≤ m + f → Rise lt p k → (k = m + f ∨ lt (p.getD k 0) (p.getD (k - 1) 0) = true) → Q k) → okT n lt (kas_asc p f m) Q
  | 0, m, h1, h2, hr, hq => hq m (Nat.le_refl _) (Nat.le_refl _) hr (.inl rfl)
  | f + 1, m, h1, h2, hr, hq => by
    refine ⟨hp.below (by omega) _, hp.below (by omega) _, ?_⟩
    cases e : lt (p.getD m 0) (p.getD (m - 1) 0) with
    | true => exact hq m (Nat.le_refl _) (by omega) hr (.inr e)
    | false =>
      refine asc_ok hp f (m + 1) (by omega) (by omega) (fun i j hij hj => ?_) fun k a b c d => hq k (by omega) (by omega) c (by rcases d with d | d; exact .inl (by omega); exact .inr d)
      rcases Nat.lt_or_ge j m with q | q
      · exact hr i j hij q
      · have : j = m := by omega
        subst this
        rcases Nat.lt_or_ge i (j - 1) with z | z
        · exact o.tr _ _ _ (hr i (j - 1) z (by omega)) e
        · have : i = j - 1 := by omega
          rw [this]; exact e
theorem desc_ok {p : Array Nat} (hp : PermN n p) {Q : Array Nat × Nat × Nat → Prop} : ∀ f m, 1 ≤ m → m + f ≤ n → Fall lt p m → (∀ k, m ≤ k → k ≤ m + f → Fall lt p k → Q (p, k, 0)) → okT n lt (kas_desc f p m 0) Q
  | 0, m, h1, h2, hr, hq => hq m (Nat.le_refl _) (Nat.le_refl _) hr
  | f + 1, m, h1, h2, hr, hq => by
    refine ⟨hp.below (by omega) _, hp.below (by omega) _, ?_⟩
    cases e : lt (p.getD m 0) (p.getD (m - 1) 0) with
    | true =>
      simp only [if_true, Nat.lt_irrefl, gt_iff_lt, if_false]
      refine desc_ok hp f (m + 1) (by omega) (by omega) (fun i j hij hj => ?_) fun k a b c => hq k (by omega) (by omega) c
      rcases Nat.lt_or_ge j m with q | q
      · exact hr i j hij q
      · have : j = m := by omega
        subst this
        have e' := o.asym _ _ e
        rcases Nat.lt_or_ge i (j - 1) with z | z
        · exact o.tr _ _ _ e' (hr i (j - 1) z (by omega))
        · have : i = j - 1 := by omega
          rw [this]; exact e'
    | false =>
      simp only [Bool.false_eq_true, if_false]
      refine ⟨hp.below (by omega) _, hp.below (by omega) _, ?_⟩
      cases d : lt (p.getD (m - 1) 0) (p.getD m 0) with
      | true => exact hq m (Nat.le_refl _) (by omega) hr
      | false =>
        have z := hp.inj (by omega) (by omega) (o.tot _ _ (hp.below (by omega) _) (hp.below (by omega) _) d e)
        omega
theorem tail_ok {p : Array Nat} (hp : PermN n p) {Q : Nat × Array Nat → Prop} {m : Nat} (h1 : 1 ≤ m) (h2 : m ≤ n) (hf : Fall lt p m) (hq : ∀ k p', 1 ≤ k → k ≤ n → PermN n p' → Rise lt p' k → Q (k, p')) : okT n lt (kas_tail3 m n p) Q := by
  have s := hp.sz
  exact okT_bind _ (asc_ok o (rev_perm hp) (n - m) m h1 (by omega) (rev_rise (by omega) hf) fun k a b c _ => hq k _ (by omega) (by omega) (rev_perm hp) c)
theorem part_ok {p : Array Nat} (hp : PermN n p) {Q : Nat × Array Nat → Prop} {m : Nat} (h1 : 1 ≤ m) (h2 : m + 1 ≤ n) (hf : Fall lt p (m + 1)) (hq : ∀ k p', 1 ≤ k → k ≤ n → PermN n p' → Rise lt p' k → Q (k, p')) : okT n lt (kas_descPart m n p) Q := by
  refine okT_bind _ (desc_ok o hp (n - (m + 1)) (m + 1) (by omega) (by omega) hf fun k a b c => ?_)
  show okT n lt (if 0 > 0 then _ else kas_tail3 k n p) Q
  rw [if_neg (by omega)]
  exact tail_ok o hp (by omega) (by omega) c hq
theorem count_ok {p : Array Nat} (hp : PermN n p) {Q : Nat × Array Nat → Prop} (h1 : 1 ≤ n) (hq : ∀ k p', 1 ≤ k → k ≤ n → PermN n p' → Rise lt p' k → Q (k, p')) : okT n lt (kas_count n p) Q := by
  refine okT_bind _ (asc_ok o hp (n - 1) 1 (Nat.le_refl _) (by omega) (fun i j a b => by omega) fun k a b c d => ?_)
  by_cases e : k = n
  · rw [if_pos (by rw [e]; exact beq_self_eq_true _)]
    exact hq k p a (by omega) hp c
  · rw [if_neg (by simpa using e)]
    have dk : lt (p.getD k 0) (p.getD (k - 1) 0) = true := by rcases d with d | d; exact absurd (by omega) e; exact d
    by_cases g : k > 1
    · rw [if_pos g]
      refine ⟨hp.below (by omega) _, hp.below (by omega) _, ?_⟩
      cases f : lt (p.getD 0 0) (p.getD (k - 1) 0) with
      | true => exact hq k p a (by omega) hp c
      | false =>
        have z := hp.inj (by omega) (by omega) (o.tot _ _ (hp.below (by omega) _) (hp.below (by omega) _) f (c 0 (k - 1) (by omega) (by omega)))
        omega
    · rw [if_neg g]
      have hk : k = 1 := by omega
      subst hk
      refine part_ok o hp (Nat.le_refl _) (by omega) (fun i j hij hj => ?_) hq
      have : i = 0 ∧ j = 1 := by omega
      rw [this.1, this.2]
      exact o.asym _ _ dk
theorem place_ok {p : Array Nat} (hp : PermN n p) {k : Nat} (hk : k < n) (hr : Rise lt p k) {Q : Nat → Prop} (hq : ∀ x, x ≤ k → (∀ i, i < x → lt (p.getD k 0) (p.getD i 0) = false) → (∀ i, x ≤ i → i < k → lt (p.getD k 0) (p.getD i 0) = true) → Q x) :
    ∀ f l r, l ≤ r → r ≤ k → r - l ≤ f → (∀ i, i < l → lt (p.getD k 0) (p.getD i 0) = false) → (∀ i, r ≤ i → i < k → lt (p.getD k 0) (p.getD i 0) = true) → okT n lt (kas_place p k f l r) Q
  | 0, l, r, h1, h2, h3, a, b => hq l (by omega) a fun i x y => b i (by omega) y
  | f + 1, l, r, h1, h2, h3, a, b => by
    unfold kas_place
    by_cases g : l ≥ r
    · rw [if_pos g]
      exact hq l (by omega) a fun i x y => b i (by omega) y
    · rw [if_neg g]
      refine ⟨hp.below (by omega) _, hp.below (by omega) _, ?_⟩
      cases e : lt (p.getD k 0) (p.getD ((l + r) / 2) 0) with
      | true =>
        show okT n lt (kas_place p k f l ((l + r) / 2)) Q
        refine place_ok hp hk hr hq f l ((l + r) / 2) (by omega) (by omega) (by omega) a fun i x y => ?_
        rcases Nat.lt_or_ge ((l + r) / 2) i with z | z
        · cases w : lt (p.getD k 0) (p.getD i 0) with
          | true => rfl
          | false =>
            have := o.tr _ _ _ (hr _ i z y) w
            rw [e] at this; cases this
        · have : i = (l + r) / 2 := by omega
          rw [this]; exact e
      | false =>
        show okT n lt (kas_place p k f ((l + r) / 2 + 1) r) Q
        refine place_ok hp hk hr hq f ((l + r) / 2 + 1) r (by omega) h2 (by omega) (fun i x => ?_) b
        rcases Nat.lt_or_ge i ((l + r) / 2) with z | z
        · exact o.tr _ _ _ (hr i _ z (by omega)) e
        · have : i = (l + r) / 2 := by omega
          rw [this]; exact e
theorem bin_ok {Q : Array Nat → Prop} (hq : ∀ p, PermN n p → Rise lt p n → Q p) : ∀ f k (p : Array Nat), k + f = n → PermN n p → Rise lt p k → okT n lt (kas_bin f p k) Q
  | 0, k, p, hk, hp, hr => by
    have : k = n := by omega
    subst this
    exact hq p hp hr
  | f + 1, k, p, hk, hp, hr => by
    have s := hp.sz
    refine okT_bind _ (place_ok o hp (by omega) hr (fun x hx lo hi => ?_) k 0 k (Nat.zero_le _) (Nat.le_refl _) (by omega) (fun i hi => absurd hi (Nat.not_lt_zero _)) fun i a b => absurd b (by omega))
    have e : k - (k - x) = x := by omega
    have at' : ∀ y, (bubble p k (k - x)).getD y 0 = if y = x then p.getD k 0 else if x < y ∧ y ≤ k then p.getD (y - 1) 0 else p.getD y 0 := fun y => by
      rw [Array.getD_eq_getD_getElem?, getElem?_bubble (by omega) (k - x) (by omega) y, e]
      split
      · rw [Array.getD_eq_getD_getElem?]
      · split <;> rw [Array.getD_eq_getD_getElem?]
    refine bin_ok hq f (k + 1) _ (by omega) (List.Perm.trans (Array.perm_iff_toList_perm.mp (bubble_perm p k _)) hp) fun i j hij hj => ?_
    rw [at', at']
    by_cases jx : j = x
    · rw [if_pos jx, if_neg (by omega), if_neg (by omega)]
      exact lo i (by omega)
    · rw [if_neg jx]
      by_cases ix : i = x
      · rw [if_pos ix, if_pos ⟨by omega, by omega⟩]
        exact o.asym _ _ (hi (j - 1) (by omega) (by omega))
      · rw [if_neg ix]
        by_cases jg : x < j ∧ j ≤ k
        · rw [if_pos jg]
          by_cases ig : x < i ∧ i ≤ k
          · rw [if_pos ig]; exact hr _ _ (by omega) (by omega)
          · rw [if_neg ig]; exact hr _ _ (by omega) (by omega)
        · rw [if_neg jg, if_neg (by omega)]; exact hr _ _ hij (by omega)
theorem sort_ok (h1 : 1 ≤ n) : okT n lt (kas_sort n) fun p => PermN n p ∧ Rise lt p n := by
  refine okT_bind _ (count_ok o (by unfold PermN; simp) h1 fun k p a b hp hr => ?_)
  show okT n lt (if k < n then kas_bin (n - max k 1) p (max k 1) else .ret p) _
  by_cases g : k < n
  · rw [if_pos g]
    have e : max k 1 = k := by omega
    rw [e]
    exact bin_ok o (fun p hp hr => ⟨hp, hr⟩) (n - k) k p (by omega) hp hr
  · rw [if_neg g]
    have : k = n := by omega
    subst this
    exact ⟨hp, hr⟩
end
open PySem PySem.Spec
theorem okT_wp {α : Type} {n : Nat} {lt : Nat → Nat → Bool} {cmp : Nat → Nat → (Bool → Shared → Prop) → Shared → Prop} {J : Shared → Prop} {Q : α → Prop} {G : α → Shared → Prop}
    (hc : ∀ i j C s, i < n → j < n → J s → (∀ s', J s' → C (lt i j) s') → cmp i j C s) (hG : ∀ a s', Q a → J s' → G a s') : ∀ (t : KasT α) (s : Shared), J s → okT n lt t Q → t.kasWp cmp G s
  | .ret a, s, hi, h => hG a s h hi
  | .ask i j k, s, hi, h => hc i j _ s h.1 h.2.1 hi fun s' hi' => okT_wp hc hG (k (lt i j)) s' hi' h.2.2

/-! ### tuples of ints and texts, held against one another -/
def shV : V → Nat
  | .int _ => 1
  | .str _ => 2
  | _ => 0
def ltV : V → V → Bool
  | .int i, .int j => decide (i < j)
  | .str a, .str b => decide (a.cps.toList < b.cps.toList)
  | _, _ => false
def lexV : List V → List V → Bool
  | x :: xs, y :: ys => if x = y then lexV xs ys else ltV x y
  | [], _ :: _ => true
  | _, _ => false
theorem str_eq {a b : Str} (h : a.cps.toList = b.cps.toList) : a = b := by
  obtain ⟨x⟩ := a; obtain ⟨y⟩ := b
  have : x = y := Array.toList_inj.mp h
  rw [this]
theorem two_kinds {x y : V} (hs : shV x = shV y) (h0 : shV x ≠ 0) : (∃ i j, x = .int i ∧ y = .int j) ∨ ∃ a b, x = .str a ∧ y = .str b := by
  cases x <;> cases y <;> simp [shV] at hs h0 ⊢
theorem ltV_asym {x y : V} (h : ltV x y = true) : ltV y x = false := by
  cases x <;> cases y <;> simp [ltV] at h ⊢
  · omega
  · exact List.not_lt.mp (List.lt_asymm h)
theorem ltV_tot {x y : V} (hs : shV x = shV y) (h0 : shV x ≠ 0) (h1 : ltV x y = false) (h2 : ltV y x = false) : x = y := by
  rcases two_kinds hs h0 with ⟨i, j, rfl, rfl⟩ | ⟨a, b, rfl, rfl⟩
  · have h1' : ¬ i < j := of_decide_eq_false h1
    have h2' : ¬ j < i := of_decide_eq_false h2
    rw [show i = j by omega]
  · have h1' : ¬ a.cps.toList < b.cps.toList := of_decide_eq_false h1
    have h2' : ¬ b.cps.toList < a.cps.toList := of_decide_eq_false h2
    rw [str_eq (List.le_antisymm (List.not_lt.mp h2') (List.not_lt.mp h1'))]
theorem ltV_tr {x y z : V} (hs : shV x = shV y) (ht : shV y = shV z) (h0 : shV x ≠ 0) (h1 : ltV y x = false) (h2 : ltV z y = false) : ltV z x = false := by
  rcases two_kinds hs h0 with ⟨i, j, rfl, rfl⟩ | ⟨a, b, rfl, rfl⟩
  · rcases two_kinds ht (by simp [shV]) with ⟨_, k, e, rfl⟩ | ⟨_, _, e, _⟩
    · have h1' : ¬ j < i := of_decide_eq_false h1
      cases e
      have h2' : ¬ k < j := of_decide_eq_false h2
      exact decide_eq_false (by omega)
    · cases e
  · rcases two_kinds ht (by simp [shV]) with ⟨_, _, e, _⟩ | ⟨_, c, e, rfl⟩
    · cases e
    · cases e
      have h1' : ¬ b.cps.toList < a.cps.toList := of_decide_eq_false h1
      have h2' : ¬ c.cps.toList < b.cps.toList := of_decide_eq_false h2
      exact decide_eq_false (List.not_lt.mpr (List.le_trans (List.not_lt.mp h1') (List.not_lt.mp h2')))
theorem lexV_asym : ∀ (xs ys : List V), lexV xs ys = true → lexV ys xs = false
  | x :: xs, y :: ys, h => by
    unfold lexV at h ⊢
    by_cases e : x = y
    · rw [if_pos e] at h; rw [if_pos e.symm]; exact lexV_asym xs ys h
    · rw [if_neg e] at h; rw [if_neg (Ne.symm e)]; exact ltV_asym h
  | [], _ :: _, _ => rfl
  | [], [], h => by cases h
  | _ :: _, [], h => by cases h
theorem lexV_tot : ∀ (xs ys : List V), xs.map shV = ys.map shV → 0 ∉ xs.map shV → lexV xs ys = false → lexV ys xs = false → xs = ys
  | x :: xs, y :: ys, hs, h0, h1, h2 => by
    simp only [List.map_cons, List.cons.injEq] at hs
    simp only [List.map_cons, List.mem_cons, not_or] at h0
    unfold lexV at h1 h2
    by_cases e : x = y
    · rw [if_pos e] at h1; rw [if_pos e.symm] at h2
      rw [e, lexV_tot xs ys hs.2 h0.2 h1 h2]
    · rw [if_neg e] at h1; rw [if_neg (Ne.symm e)] at h2
      exact absurd (ltV_tot hs.1 (Ne.symm h0.1) h1 h2) e
  | [], [], _, _, _, _ => rfl
  | [], _ :: _, hs, _, _, _ => by cases hs
  | _ :: _, [], hs, _, _, _ => by cases hs
theorem lexV_tr : ∀ (xs ys zs : List V), xs.map shV = ys.map shV → ys.map shV = zs.map shV → 0 ∉ xs.map shV → lexV ys xs = false → lexV zs ys = false → lexV zs xs = false
  | x :: xs, y :: ys, z :: zs, hs, ht, h0, h1, h2 => by
    simp only [List.map_cons, List.cons.injEq] at hs ht
    simp only [List.map_cons, List.mem_cons, not_or] at h0
    unfold lexV at h1 h2 ⊢
    by_cases e : y = x
    · rw [if_pos e] at h1
      by_cases f : z = y
      · rw [if_pos f] at h2; rw [if_pos (f.trans e)]; exact lexV_tr xs ys zs hs.2 ht.2 h0.2 h1 h2
      · rw [if_neg f] at h2; rw [if_neg (fun q => f (q.trans e.symm)), ← e]; exact h2
    · rw [if_neg e] at h1
      by_cases f : z = y
      · rw [if_pos f] at h2; rw [if_neg (fun q => e (f.symm.trans q)), f]; exact h1
      · rw [if_neg f] at h2
        by_cases g : z = x
        · exact absurd (ltV_tot hs.1.symm (by rw [← hs.1]; exact Ne.symm h0.1) h1 (by rw [← g]; exact h2)) e
        · rw [if_neg g]; exact ltV_tr hs.1 ht.1 (Ne.symm h0.1) h1 h2
  | [], [], [], _, _, _, _, _ => rfl
  | [], _ :: _, _, hs, _, _, _, _ => by cases hs
  | _ :: _, [], _, hs, _, _, _, _ => by cases hs
  | [], [], _ :: _, _, ht, _, _, _ => by cases ht
  | _ :: _, _ :: _, [], _, ht, _, _, _ => by cases ht
/-- keys of one shape, told apart -/
structure Keys (n : Nat) (K : Nat → List V) (sh : List Nat) : Prop where
  shp : ∀ i, (K i).map shV = sh
  ne : sh ≠ []
  z : 0 ∉ sh
  inj : ∀ i j, i < n → j < n → K i = K j → i = j
theorem Keys.tot {n : Nat} {K : Nat → List V} {sh : List Nat} (k : Keys n K sh) : TotB n (fun i j => lexV (K i) (K j)) where
  asym := fun i j h => lexV_asym _ _ h
  tr := fun i j l h1 h2 => lexV_tr _ _ _ ((k.shp i).trans (k.shp j).symm) ((k.shp j).trans (k.shp l).symm) (by rw [k.shp]; exact k.z) h1 h2
  tot := fun i j hi hj h1 h2 => k.inj i j hi hj (lexV_tot _ _ ((k.shp i).trans (k.shp j).symm) (by rw [k.shp]; exact k.z) h1 h2)
section
variable {prog : Program} {w : World} {A : Around} {E : Value → Shared → Prop} {s : Shared} {Q : Bool → Shared → Prop}
theorem eq_VB {x y : V} {u v : Value} (hx : RelV x u) (hy : RelV y v) (hs : shV x = shV y) (h0 : shV x ≠ 0) (h : Q (decide (x = y)) s) : wpAny (model prog w) A (eqBool u v) Q E s := by
  rcases two_kinds hs h0 with ⟨i, j, rfl, rfl⟩ | ⟨a, b, rfl, rfl⟩
  · obtain ⟨t, rfl⟩ := hx
    obtain ⟨t', rfl⟩ := hy
    refine wpAny_eqBool_int ?_
    have e : (i == j) = decide (V.int i = V.int j) := by by_cases q : i = j <;> simp [q]
    rw [e]; exact h
  · obtain ⟨t, rfl⟩ := hx
    obtain ⟨t', rfl⟩ := hy
    refine wpAny_eqBool_str ?_
    have e : decide (a = b) = decide (V.str a = V.str b) := by by_cases q : a = b <;> simp [q]
    rw [e]; exact h
theorem lt_VB (flag : Bool) {x y : V} {u v : Value} (hx : RelV x u) (hy : RelV y v) (hs : shV x = shV y) (h0 : shV x ≠ 0) (h : Q (ltV x y) s) : wpAny (model prog w) A (oneLt' flag u v) Q E s := by
  rcases two_kinds hs h0 with ⟨i, j, rfl, rfl⟩ | ⟨a, b, rfl, rfl⟩
  · obtain ⟨t, rfl⟩ := hx
    obtain ⟨t', rfl⟩ := hy
    cases flag
    · exact kat_one _ _ (PyProof.Rows.lt_int h)
    · exact oneLt_int h
  · obtain ⟨t, rfl⟩ := hx
    obtain ⟨t', rfl⟩ := hy
    cases flag
    · exact kat_one _ _ (PyProof.Rows.lt_str h)
    · exact oneLt_str h
theorem lex_kat : ∀ {xs ys : List V} {us ws : List Value} (i : Nat), Vals xs us → Vals ys ws → xs.map shV = ys.map shV → 0 ∉ xs.map shV → Q (lexV xs ys) s → KatLex prog w A true false Q (us.zip ws) i s
  | [], [], _, _, i, .nil, .nil, _, _, h => kat_nil h
  | x :: xs, y :: ys, _, _, i, .cons (b := u) r1 t1, .cons (b := v) r2 t2, hs, h0, h => by
    simp only [List.map_cons, List.cons.injEq] at hs
    simp only [List.map_cons, List.mem_cons, not_or] at h0
    rw [List.zip_cons_cons]
    refine kat_cons (eq_VB r1 r2 hs.1 (Ne.symm h0.1) ?_)
    unfold lexV at h
    by_cases e : x = y
    · rw [if_pos e] at h
      rw [decide_eq_true e]
      exact kat_yes (lex_kat (i + 1) t1 t2 hs.2 h0.2 h)
    · rw [if_neg e] at h
      rw [decide_eq_false e]
      exact kat_no (lt_VB _ r1 r2 hs.1 (Ne.symm h0.1) h)
  | [], _ :: _, _, _, _, _, _, hs, _, _ => by cases hs
  | _ :: _, [], _, _, _, _, _, hs, _, _ => by cases hs
/-- the keys lie on the heap as tuples -/
def KeysOn (h : Heap) (ks : List Value) (K : Nat → List V) : Prop := ∀ (i : Nat) (v : Value), ks[i]? = some v → ∃ a its, v = .ref a ∧ IsTup h a its.toArray ∧ Vals (K i) its
theorem KeysOn.keeps {h h' : Heap} {ks : List Value} {K : Nat → List V} (x : KeysOn h ks K) (k : ∀ b o, o.cls = .type "tuple" → h.get? b = some o → h'.get? b = some o) : KeysOn h' ks K := fun i v hv => by
  obtain ⟨a, its, rfl, ⟨o, ho, hc, r⟩, q⟩ := x i v hv
  exact ⟨a, its, rfl, ⟨o, k _ _ hc ho, hc, r⟩, q⟩
theorem katTups_of {h : Heap} : ∀ (ks : List Value) (K : Nat → List V), KeysOn h ks K → (∀ i, K i ≠ []) → ∃ fs, KatTups h ks fs ∧ fs.length = ks.length ∧ ∀ f ∈ fs, ∃ i x r, K i = x :: r ∧ RelV x f
  | [], K, _, _ => ⟨[], .nil, rfl, fun _ h => nomatch h⟩
  | v :: ks, K, hk, ne => by
    obtain ⟨a, its, rfl, ⟨o, ho, hc, n, hd⟩, r⟩ := hk 0 v rfl
    obtain ⟨fs, t, l, q⟩ := katTups_of ks (fun i => K (i + 1)) (fun i v hv => hk (i + 1) v (by simpa using hv)) fun i => ne (i + 1)
    cases e : K 0 with
    | nil => exact absurd e (ne 0)
    | cons x rr =>
      rw [e] at r
      cases r with
      | cons rx rt =>
        refine ⟨_ :: fs, .cons ho hc hd rfl t, by simp [l], fun f hf => ?_⟩
        rcases List.mem_cons.mp hf with rfl | hf
        · exact ⟨0, x, rr, e, rx⟩
        · obtain ⟨i, x, r, h1, h2⟩ := q f hf
          exact ⟨i + 1, x, r, h1, h2⟩
theorem looks_ty {M : Model} {h : Heap} {x : V} {u : Value} (r : RelV x u) (h0 : shV x ≠ 0) : Looks M h (typeOf u) (.type (if shV x = 1 then "int" else "str")) := by
  rcases two_kinds (rfl : shV x = shV x) h0 with ⟨i, _, rfl, _⟩ | ⟨a, _, rfl, _⟩
  · obtain ⟨t, rfl⟩ := r; exact Looks.now
  · obtain ⟨t, rfl⟩ := r; exact Looks.now
variable {n : Nat} {K : Nat → List V} {sh : List Nat} {ks : List Value}
theorem keys_kind {Q : SortKind → Shared → Prop} (k : Keys n K sh) (hk : KeysOn s.heap ks K) (h1 : 0 < ks.length) (h : Q (tuples' true) s) : wpAny (model prog w) A (keyKind' ks.toArray) Q E s := by
  have ne : ∀ i, K i ≠ [] := fun i e => k.ne (by rw [← k.shp i, e]; rfl)
  obtain ⟨fs, t, l, q⟩ := katTups_of ks K hk ne
  obtain ⟨d, dr, hd⟩ : ∃ d dr, sh = d :: dr := by
    cases e : sh with
    | nil => exact absurd e k.ne
    | cons d dr => exact ⟨d, dr, rfl⟩
  refine kat_kind (T := .type (if d = 1 then "int" else "str")) t (by omega) (fun v hv => ?_) (by split <;> rfl) (by split <;> exact h)
  obtain ⟨i, x, r, e, rx⟩ := q v hv
  have e2 := k.shp i
  rw [e, hd, List.map_cons] at e2
  have e3 : shV x = d := (List.cons.inj e2).1
  rw [← e3]
  exact looks_ty rx (fun z => k.z (by rw [hd, ← e3, z]; exact List.mem_cons_self))
theorem keys_run {G : Array Nat → Shared → Prop} (k : Keys n K sh) (hk : KeysOn s.heap ks K) (hl : ks.length = n) (h1 : 1 ≤ n) (h : ∀ p, PermN n p → Rise (fun i j => lexV (K i) (K j)) p n → G p s) :
    (kas_sort n).kasWp (kas_ask prog w A (tuples' true) ks) G s := by
  refine okT_wp (n := n) (lt := fun i j => lexV (K i) (K j)) (J := fun s' => s' = s) (Q := fun p => PermN n p ∧ Rise (fun i j => lexV (K i) (K j)) p n) (fun i j C s' hi hj es hC => ?_) (fun p s' hp es => ?_) _ s rfl (sort_ok k.tot h1)
  · subst es
    have gi : ks[i]? = some ks[i] := List.getElem?_eq_getElem (by omega)
    have gj : ks[j]? = some ks[j] := List.getElem?_eq_getElem (by omega)
    obtain ⟨a, xs, ea, ⟨o, ho, _, m, hd⟩, r1⟩ := hk i _ gi
    obtain ⟨b, ys, eb, ⟨o', ho', _, m', hd'⟩, r2⟩ := hk j _ gj
    unfold kas_ask
    rw [List.getD_eq_getElem?_getD, List.getD_eq_getElem?_getD, gi, gj, Option.getD_some, Option.getD_some, ea, eb]
    have l1 := r1.length
    have l2 := r2.length
    have l3 : (K i).length = (K j).length := by
      have := congrArg List.length ((k.shp i).trans (k.shp j).symm)
      simpa using this
    have ef : decide (xs.toArray.size < ys.toArray.size) = false := by
      rw [List.size_toArray, List.size_toArray]; exact decide_eq_false (by omega)
    refine kat_lt ho hd ho' hd' ?_
    rw [ef]
    exact lex_kat 0 r1 r2 ((k.shp i).trans (k.shp j).symm) (by rw [k.shp]; exact k.z) (hC _ rfl)
  · subst es
    exact h p hp.1 hp.2
end
end L2


set_option Elab.async false
set_option linter.all false
set_option maxRecDepth 100000
set_option maxHeartbeats 4000000
/-! sorted: of a list of tuples; of a range by a key that is a lambda -/
namespace L2
open PySem PySem.Spec PyProof.Rows PySem.W
theorem vals_refs : ∀ {as : List Addr} {its : List Value}, Vals (as.map V.ref) its → its = as.map Value.ref
  | [], _, .nil => rfl
  | a :: as, _, .cons r t => by
    cases (show _ = Value.ref a from r)
    rw [vals_refs t]; rfl
theorem refs_vals (as : List Addr) : Vals (as.map V.ref) (as.map Value.ref) := by
  induction as with
  | nil => exact .nil
  | cons a r ih => exact .cons rfl ih
section
variable {prog : Program} {w : World} {A : Around} {E : Value → Shared → Prop} {s : Shared} {K : Nat → List V} {sh : List Nat} {vs : List Value}
abbrev outOf (vs : List Value) (p : Array Nat) : List Value := p.toList.map fun i => vs.getD i Value.none
theorem few_out {xs : Array Value} (hl : xs.size = vs.length) (h2 : vs.length < 2) : (xs.zip vs.toArray).map (·.2) = (outOf vs (List.range vs.length).toArray).toArray := by
  apply Array.toList_inj.mp
  match vs, h2 with
  | [], _ =>
    have : xs = #[] := Array.eq_empty_of_size_eq_zero (by simpa using hl)
    subst this; simp [outOf]
  | [v], _ =>
    obtain ⟨x, rfl⟩ : ∃ x, xs = #[x] := Array.size_eq_one_iff.mp (by simpa using hl)
    simp [outOf]
theorem range_perm (n : Nat) : PermN n (List.range n).toArray := by unfold PermN; simp
/-- list.sort of a list of tuples -/
theorem plain_sort {D : Addr} {c0 : Nat} {P : PySem.Fin → Shared → Prop} (hD : s.heap.get? D = some (seqObj "list" vs.toArray c0)) (h64 : vs.length < 64) (k : Keys vs.length K sh) (hk : KeysOn s.heap vs K)
    (h : ∀ (p : Array Nat) (h' : Heap) (c : Nat), PermN vs.length p → Rise (fun i j => lexV (K i) (K j)) p vs.length → (∀ b o, b ≠ D → s.heap.get? b = some o → h'.get? b = some o) →
      h'.get? D = some (seqObj "list" (outOf vs p).toArray c) → P (.done (.ret .none)) { s with heap := h' }) :
    wpAny (model prog w) A (Builtin.«list.sort» ⟨[.ref D], []⟩) P E s := by
  have ltD : D < s.heap.objs.size := Heap.lt_size hD
  rw [list_sort_plain]
  refine wpAny_bind (listItems_at (a := D) hD rfl ?_)
  refine wpAny_bind (listUpdate_at (a := D) hD rfl ?_ (by rw [List.size_toArray, sizeLine_eq]; omega) (Nat.zero_le _))
  obtain ⟨e1, hD1⟩ : ∃ e1, (s.heap.update D (Obj.mapSeq fun _ => #[])).get? D = some (seqObj "list" #[] e1) := ⟨_, get?_update_seq hD (fun _ => #[])⟩
  refine wpAny_bind (seqEpoch_at (a := D) hD1 rfl ?_)
  refine wpAny_bind (wpAny_newTuple ?_ (by show vs.length ≤ _; rw [sizeLine_eq]; omega))
  refine wpAny_bind (wpAny_newList ?_ (Nat.zero_le _))
  refine wpAny_holding ?_
  generalize hg : ((s.heap.update D (Obj.mapSeq fun _ => #[])).push (seqObj "tuple" vs.toArray 0)).push (seqObj "list" #[] 0) = g
  have keep : ∀ b o, b ≠ D → s.heap.get? b = some o → g.get? b = some o := fun b o hb e => by
    rw [← hg]
    exact Heap.get?_push_of_some _ (Heap.get?_push_of_some _ ((Heap.get?_update_ne _ _ _ _ hb).trans e))
  have hDg : g.get? D = some (seqObj "list" #[] e1) := by
    rw [← hg]
    exact Heap.get?_push_of_some _ (Heap.get?_push_of_some _ hD1)
  have hkg : KeysOn g vs K := hk.keeps fun b o hc e => keep b o (fun z => by subst z; rw [hD] at e; cases e; exact absurd (Value.type.inj hc) (by decide)) e
  have sz : vs.toArray.size = vs.length := List.size_toArray ..
  have fin : ∀ (p : Array Nat), PermN vs.length p → Rise (fun i j => lexV (K i) (K j)) p vs.length →
      P (.done (.ret .none)) { s with heap := g.update D (Obj.mapSeq fun _ => (outOf vs p).toArray) } := fun p hp hr =>
    h p _ _ hp hr (fun b o hb e => (Heap.get?_update_ne _ _ _ _ hb).trans (keep b o hb e)) (get?_update_seq hDg _)
  have fit : ∀ (p : Array Nat), PermN vs.length p → (outOf vs p).toArray.size ≤ sizeLine + 1 := fun p hp => by
    rw [List.size_toArray, List.length_map, Array.length_toList, hp.sz, sizeLine_eq]; omega
  show wpAny (model prog w) A _ P E { s with heap := g }
  dsimp only
  by_cases h2 : vs.toArray.size < 2
  · rw [if_pos h2, if_pos h2]
    refine wpAny_bind (wpAny_pure ?_)
    rw [StateT.run_pure]
    refine wpAny_bind (wpAny_pure ?_)
    dsimp only
    have eo : (arrOf (SortSt.mk' general' (vs.toArray.zip vs.toArray) #[] 7 none)).map (·.2) = (outOf vs (List.range vs.length).toArray).toArray := few_out sz (by omega)
    rw [eo]
    refine wpAny_bind (seqEpoch_at (a := D) (s := { s with heap := g }) hDg rfl ?_)
    refine wpAny_bind (listUpdate_at (a := D) (s := { s with heap := g }) hDg rfl ?_ (Nat.zero_le _) (fit _ (range_perm _)))
    simp only [bne_self_eq_false, Bool.false_eq_true, if_false]
    exact wpAny_pure (fin _ (range_perm _) fun i j hij hj => by omega)
  · rw [if_neg h2, if_neg h2]
    refine wpAny_bind (keys_kind (s := { s with heap := g }) (n := vs.length) k hkg (by omega) ?_)
    refine wpAny_bind (wpAny_mono (kat_run (ks := vs) (vs := vs) (s := { s with heap := g }) (Q := fun st' s' => ∃ p : Array Nat, s' = { s with heap := g } ∧ PermN vs.length p ∧ Rise (fun i j => lexV (K i) (K j)) p vs.length ∧ arrOf st' = p.map (kas_item (vs.toArray.zip vs.toArray)) ∧ failedOf st' = none)
      (G := fun p s' => s' = { s with heap := g } ∧ PermN vs.length p ∧ Rise (fun i j => lexV (K i) (K j)) p vs.length) rfl (by omega) h64 (fun p st' s' a1 a2 a3 a4 => ⟨p, a4.1, a4.2.1, a4.2.2, a2, a3⟩)
      (keys_run (s := { s with heap := g }) k hkg rfl (by omega) fun p hp hr => ⟨rfl, hp, hr⟩)) ?_ fun _ _ e => e)
    rintro ⟨⟨⟩, st'⟩ s' ⟨p, rfl, hp, hr, har, hf⟩
    dsimp only
    rw [kat_snds rfl har]
    refine wpAny_bind (seqEpoch_at (a := D) (s := { s with heap := g }) hDg rfl ?_)
    refine wpAny_bind (listUpdate_at (a := D) (s := { s with heap := g }) hDg rfl ?_ (Nat.zero_le _) (fit p hp))
    rw [hf]
    simp only [bne_self_eq_false, Bool.false_eq_true, if_false]
    exact wpAny_pure (fin p hp hr)
end
theorem out_refs (as : List Addr) (p : Array Nat) (hp : PermN as.length p) : outOf (as.map Value.ref) p = (p.toList.map fun i => as.getD i 0).map Value.ref := by
  unfold outOf
  rw [List.map_map]
  refine List.map_congr_left fun i hi => ?_
  have hi' : i < as.length := List.mem_range.mp ((List.Perm.mem_iff hp).mp hi)
  show (as.map Value.ref).getD i Value.none = Value.ref (as.getD i 0)
  rw [List.getD_eq_getElem?_getD, List.getD_eq_getElem?_getD, List.getElem?_map, List.getElem?_eq_getElem hi']; rfl
theorem rise_list {n : Nat} {lt : Nat → Nat → Bool} {p : Array Nat} (h : Rise lt p n) : ∀ i j, i < j → j < n → lt (p.toList.getD j 0) (p.toList.getD i 0) = false := fun i j a b => by
  have := h i j a b
  rw [Array.getD_eq_getD_getElem?, Array.getD_eq_getD_getElem?] at this
  rw [List.getD_eq_getElem?_getD, List.getD_eq_getElem?_getD, Array.getElem?_toList, Array.getElem?_toList]; exact this
section
variable {X : Cx}
/-- sorted of a list of tuples of ints and texts -/
theorem call_sorted_tups : CallR X (.builtin "sorted") (fun vs H Q => ∃ (a : Addr) (as : List Addr) (K : Nat → List V) (sh : List Nat), vs = [.ref a] ∧ SqL X.K H a (as.map V.ref) ∧ as.length < 64 ∧ (∀ i b, as[i]? = some b → SqT X.K H b (K i)) ∧ Keys as.length K sh ∧
    ∀ (p : List Nat) (l : Addr), p.Perm (List.range as.length) → (∀ i j, i < j → j < as.length → lexV (K (p.getD j 0)) (K (p.getD i 0)) = false) → H l = none → Q (.ref l) (upd H l (.lst ((p.map fun i => as.getD i 0).map V.ref)))) := by
  intro pins s σ H xs us Q I r h
  obtain ⟨a, as, K, sh, rfl, hl, h64, hT, k, q⟩ := h
  obtain ⟨u, rfl, ru⟩ := vals1 r
  cases (show u = Value.ref a from ru)
  obtain ⟨its, rv, ht, hz⟩ := I.list hl
  have ei := vals_refs rv
  subst ei
  have lm : (as.map Value.ref).length = as.length := List.length_map _
  have fz : (as.map Value.ref).length ≤ sizeLine := by rw [lm, sizeLine_eq]; omega
  refine Calls.call_function_entry kind_sorted plain_sorted entry_sorted (args_sorted1 _) ?_
  unfold Builtin.«sorted»
  refine wpAny_bind (m := checkCount "sorted" 1 1 _) (wpAny_pure ?_)
  refine wpAny_bind (collect_list (l := a) ht.isList ?_ fz)
  refine wpAny_bind (wpAny_newList ?_ fz)
  generalize hg : (s.heap.push (seqObj "list" #[] 0)).update s.heap.objs.size (Obj.mapSeq (· ++ (as.map Value.ref).toArray)) = g
  have szg : g.objs.size = s.heap.objs.size + 1 := by rw [← hg, Heap.size_update, size_push']
  have kg : ∀ b o, s.heap.get? b = some o → g.get? b = some o := fun b o e => by
    have hlt : b ≠ s.heap.objs.size := Nat.ne_of_lt (Heap.lt_size e)
    rw [← hg, Heap.get?_update_ne _ _ _ _ hlt]
    exact Heap.get?_push_of_some _ e
  have hDL : (g.push (seqObj "list" (as.map Value.ref).toArray 0)).get? g.objs.size = some (seqObj "list" (as.map Value.ref).toArray 0) := Heap.get?_push_size _ rfl
  have kp1 : ∀ b o, s.heap.get? b = some o → (g.push (seqObj "list" (as.map Value.ref).toArray 0)).get? b = some o := fun b o e => Heap.get?_push_of_some _ (kg b o e)
  have hks : KeysOn (g.push (seqObj "list" (as.map Value.ref).toArray 0)) (as.map Value.ref) K := fun i v hv => by
    rw [List.getElem?_map] at hv
    cases e : as[i]? with
    | none => rw [e] at hv; cases hv
    | some b =>
      rw [e] at hv
      cases hv
      obtain ⟨ys, ry, ⟨o, ho, r⟩, _⟩ := I.tuple (hT i b e)
      exact ⟨b, ys, rfl, ⟨o, kp1 _ _ ho, r⟩, ry⟩
  refine wpAny_bind (wpAny_holding (wpAny_call_entry slot_list_sort ⟨_, hDL, rfl⟩ entry_list_sort (plain_sort (s := { s with heap := g.push (seqObj "list" (as.map Value.ref).toArray 0) }) hDL (by rw [lm]; exact h64) (by rw [lm]; exact k) hks fun p h' c hp hr kp at' => ⟨_, rfl, ?_⟩) (args_list_sort _)))
  rw [lm] at hp hr
  rw [out_refs as p hp] at at'
  refine wpAny_pure ⟨_, rfl, ⟨.ref g.objs.size, _, I.laid (t' := s.toks) (fun b o e => kp b o (Nat.ne_of_lt (Nat.lt_of_lt_of_le (Heap.lt_size e) (show s.heap.objs.size ≤ g.objs.size by omega))) (kp1 b o e)) (show s.heap.objs.size ≤ g.objs.size by omega) ?_, rfl, q p.toList g.objs.size hp (rise_list hr) (I.hok.fresh (show s.heap.objs.size ≤ g.objs.size by omega))⟩⟩
  have lp : (p.toList.map fun i => as.getD i 0).length = as.length := by rw [List.length_map, Array.length_toList, hp.sz]
  exact ⟨by rw [List.length_map, lp, sizeLine_eq]; omega, _, _, refs_vals _, at'⟩
end
end L2


set_option Elab.async false
set_option linter.all false
set_option maxRecDepth 100000
set_option maxHeartbeats 4000000
namespace L2
open PySem PySem.Spec PyProof.Rows PySem.W
section
variable {X : Cx} {pins : List (Addr × Obj)} {σ : St} {H : Hp} {s : Shared}
/-- an untracked record of ours is tracked from now on -/
theorem Inv.adopt {D : Addr} {o : HO} {h' : Heap} {t' : Nat} {oD : Obj} (I : Inv X pins σ H s) (f : FpOk X pins H D) (k : ∀ b u, b ≠ D → s.heap.get? b = some u → h'.get? b = some u) (new : ObjOk X.prog X.w (upd H D o) h' D o) (hD : s.heap.get? D = some oD) :
    Inv X pins σ (upd H D o) { s with heap := h', toks := t' } := by
  have nD : ∀ b u, H b = some u → b ≠ D := fun b u e => ne_of_none e f.1
  refine I.step (g' := s.gens) (d' := s.drawn) (ch := [D]) (fun b hb => ?_) (fun b u _ _ hc e _ => k b u (fun z => hc (by simp [z])) e) (fun b u _ _ hc e _ => ⟨u.slots, k b u (fun z => hc (by simp [z])) e⟩)
    (fun b u hc e n => by rw [upd_ne (fun z => hc (by simp [z]))]; exact n) (fun b u hc e => ⟨u, k b u (fun z => hc (by simp [z])) e⟩)
    (fun b xs e => by rw [upd_ne (nD b _ e)]; exact e) (fun b ob u e => by rw [upd_ne (nD b _ e)]; exact e) (fun b ps e => ⟨#[], by rw [upd_ne (nD b _ e), e]; simp⟩) (fun m hm => ?_) (fun b u e => ?_) I.bare
  · have e : b = D := by simpa using hb
    subst e
    exact ⟨f.2.2.2.1, f.2.1, f.2.2.2.2.1, f.2.2.2.2.2⟩
  · obtain ⟨ob, es, ep, ho, r⟩ := hm
    exact ⟨ob, es, ep, k _ ob (Ne.symm f.2.1) ho, r⟩
  · by_cases hb : b = D
    · subst hb; rw [upd_same] at e; cases e; exact new
    · rw [upd_ne hb] at e
      refine (I.hok b u e).stay (fun c v hc q => k c v ?_ q) (fun c q => by rw [upd_ne (nD c _ q)]; exact q) fun c xs q => by rw [upd_ne (nD c _ q)]; exact q
      rcases hc with z | z
      · rw [z]; exact hb
      · exact nD c _ z
/-- what a key function does: of the i-th thing the i-th key, and all that is tracked stays -/
def KeyFn (X : Cx) (A1 : Around) (pins0 : List (Addr × Obj)) (σ : St) (H0 : Hp) (fv : Value) (vs : List Value) (K : Nat → List V) : Prop :=
  ∀ (i : Nat) (v : Value) (pins : List (Addr × Obj)) (H : Hp) (s : Shared), vs[i]? = some v → (∀ p ∈ pins0, p ∈ pins) → Inv X pins σ H s → Same H0 H →
    wpAny (model X.prog X.w) A1 (call fv [v]) (EP X pins σ fun k H' => ∃ a, k = .ref a ∧ H' a = some (.tup (K i)) ∧ Same H H') (fun _ _ => False) s
theorem keysOn_of {as : List Addr} {K : Nat → List V} (I : Inv X pins σ H s) (h : ∀ j a, as[j]? = some a → H a = some (.tup (K j))) : KeysOn s.heap (as.map Value.ref) K := fun i v hv => by
  rw [List.getElem?_map] at hv
  cases e : as[i]? with
  | none => rw [e] at hv; cases hv
  | some b =>
    rw [e] at hv
    cases hv
    obtain ⟨_, ys, ry, t⟩ := I.hok b _ (h i b e)
    exact ⟨b, ys, rfl, t, ry⟩
theorem key_sort {A1 : Around} {E : Value → Shared → Prop} {D fa : Addr} {c0 : Nat} {vs : List Value} {vV : List V} {K : Nat → List V} {sh : List Nat} {P : PySem.Fin → Shared → Prop} (I : Inv X pins σ H s) (hD : s.heap.get? D = some (seqObj "list" vs.toArray c0)) (fD : FpOk X pins H D)
    (rv : Vals vV vs) (h64 : vs.length < 64) (k : Keys vs.length K sh) (F : KeyFn X A1 pins σ H (.ref fa) vs K)
    (h : ∀ (p : Array Nat) (H' : Hp) (s' : Shared) (c : Nat), PermN vs.length p → Rise (fun i j => lexV (K i) (K j)) p vs.length → Same H H' → H' D = none → Inv X pins σ (upd H' D (.lst (p.toList.map fun i => vV.getD i .non))) s' → P (.done (.ret .none)) s') :
    wpAny (model X.prog X.w) A1 (ksk_tree D (.ref fa) false) P E s := by
  have lv := rv.length
  unfold ksk_tree
  refine wpAny_bind (listItems_at (a := D) hD rfl ?_)
  refine wpAny_bind (listUpdate_at (a := D) hD rfl ?_ (by rw [List.size_toArray, sizeLine_eq]; omega) (Nat.zero_le _))
  obtain ⟨e1, hD1⟩ : ∃ e1, (s.heap.update D (Obj.mapSeq fun _ => #[])).get? D = some (seqObj "list" #[] e1) := ⟨_, get?_update_seq hD (fun _ => #[])⟩
  have I1 : Inv X pins σ H { s with heap := s.heap.update D (Obj.mapSeq fun _ => #[]), toks := s.toks } := I.turned (t' := s.toks) (fun b o hb e => (Heap.get?_update_ne _ _ _ _ hb).trans e) fD.1 fD.2.1 fD.2.2.2.1 fD.2.2.2.2.1 fD.2.2.2.2.2
  refine wpAny_bind (seqEpoch_at (a := D) hD1 rfl ?_)
  refine wpAny_bind (wpAny_newTuple ?_ (by show vs.length ≤ _; rw [sizeLine_eq]; omega))
  have I2 : Inv X pins σ H { s with heap := (s.heap.update D (Obj.mapSeq fun _ => #[])).push (seqObj "tuple" vs.toArray 0), toks := s.toks } := I1.kept (t' := s.toks) fun b o e => Heap.get?_push_of_some _ e
  have hD2 : ((s.heap.update D (Obj.mapSeq fun _ => #[])).push (seqObj "tuple" vs.toArray 0)).get? D = some (seqObj "list" #[] e1) := Heap.get?_push_of_some _ hD1
  generalize hg2 : (s.heap.update D (Obj.mapSeq fun _ => #[])).push (seqObj "tuple" vs.toArray 0) = g2 at I2 hD2
  have e2 : ((s.heap.update D (Obj.mapSeq fun _ => (#[] : Array Value))).push { cls := .type "tuple", data := .seq vs.toArray }) = g2 := hg2
  refine wpAny_bind (wpAny_newList ?_ (Nat.zero_le _))
  refine wpAny_holding ?_
  have fk : H g2.objs.size = none := I2.hok.fresh (Nat.le_refl _)
  have I3 : Inv X pins σ (upd H g2.objs.size (.lst [])) { s with heap := g2.push { cls := .type "list", data := .seq ([] : List Value).toArray }, toks := s.toks } := I2.lnew (its := []) (t' := s.toks) .nil (Nat.zero_le _)
  have hD3 : (g2.push { cls := .type "list", data := .seq ([] : List Value).toArray }).get? D = some (seqObj "list" #[] e1) := Heap.get?_push_of_some _ hD2
  have kD : g2.objs.size ≠ D := Nat.ne_of_gt (Heap.lt_size hD2)
  simp only [e2]
  generalize hkS : g2.objs.size = kS at I3 fk kD ⊢
  have fD3 : FpOk X pins (upd H kS (.lst [])) D := ⟨by rw [upd_ne (Ne.symm kD)]; exact fD.1, fD.2⟩
  have I4 : Inv X (pins ++ [(D, seqObj "list" #[] e1)]) σ (upd H kS (.lst [])) { s with heap := g2.push { cls := .type "list", data := .seq ([] : List Value).toArray }, toks := s.toks } := I3.pins_of fun p hp => by
    rcases List.mem_append.mp hp with q | q
    · exact I3.pin p (List.mem_append_right _ q)
    · obtain rfl : p = (D, seqObj "list" #[] e1) := by simpa using q
      exact ⟨hD3, fD3.1, fD3.2.1, fD3.2.2.1, fun v z => by cases z⟩
  generalize ({ s with heap := g2.push { cls := .type "list", data := .seq ([] : List Value).toArray }, toks := s.toks } : Shared) = s4 at I4 ⊢
  unfold ksk_rest
  refine wpAny_bind (wpAny_rule ?_)
  rw [List.forIn_toArray]
  refine wpAny_bind (ksk_fold (fun i s' => ∃ (H' : Hp) (as : List Addr), Inv X (pins ++ [(D, seqObj "list" #[] e1)]) σ H' s' ∧ Same H H' ∧ H' kS = some (.lst (as.map V.ref)) ∧ as.length = i ∧ ∀ j a, as[j]? = some a → H' a = some (.tup (K j))) vs 0 s4
    ⟨_, [], I4, (Same.refl H).new fk, upd_same, rfl, fun j a e => by simp at e⟩ (fun j x s' hx hJ => ?_) fun s' hJ => ?_)
  · obtain ⟨H', as, I', S', hk', hl', ht'⟩ := hJ
    rw [Nat.zero_add] at hl' ⊢
    refine wpAny_bind (wpAny_attempt (wpAny_mono (F j x _ H' s' hx (fun p hp => List.mem_append_left _ hp) I' S') (fun u s'' hu => ?_) fun _ _ z => z.elim))
    obtain ⟨v, H'', I'', ru, a, rfl, ha, S''⟩ := hu
    cases (show u = Value.ref a from ru)
    have hk'' := S'' _ _ hk'
    obtain ⟨z, its, m, r, hl, e⟩ := I''.lstM hk''
    have jl : j < vs.length := (List.getElem?_eq_some_iff.mp hx).1
    have il : its.length = j := by rw [← hl, List.length_map, hl']
    dsimp only
    refine wpAny_bind (listUpdate_at (a := kS) e rfl ?_ (by rw [List.size_toArray, sizeLine_eq]; omega) (by rw [Array.size_push, List.size_toArray, sizeLine_eq]; omega))
    refine wpAny_pure ⟨rfl, _, as ++ [a], I''.lset (ys := as.map V.ref ++ [V.ref a]) (its' := its ++ [.ref a]) (t' := s''.toks) hk'' e (by simp) (r.append (.cons (show RelV (V.ref a) (Value.ref a) from rfl) .nil)) (by rw [List.length_append, List.length_map, List.length_singleton, sizeLine_eq]; omega), (S'.trans S'').write fk, by rw [upd_same, List.map_append]; rfl, by simp [hl'], fun i b hb => ?_⟩
    rcases Nat.lt_or_ge i as.length with q | q
    · rw [List.getElem?_append_left q] at hb
      have := S'' _ _ (ht' i b hb)
      rw [upd_ne (ne_of this hk'' (by intro z; cases z))]; exact this
    · rw [List.getElem?_append_right q] at hb
      have q0 : i - as.length = 0 := by
        rcases Nat.eq_zero_or_pos (i - as.length) with z | z
        · exact z
        · rw [List.getElem?_eq_none (by simp; omega)] at hb; cases hb
      rw [q0] at hb
      have eb : a = b := by simpa using hb
      subst eb
      have ei : i = j := by omega
      subst ei
      rw [upd_ne (ne_of ha hk'' (by intro z; cases z))]; exact ha
  · obtain ⟨H', as, I', S', hk', hl', ht'⟩ := hJ
    rw [Nat.zero_add] at hl'
    obtain ⟨z, its, m, r, hl, e⟩ := I'.lstM hk'
    have ei := vals_refs r
    subst ei
    have lm : (as.map Value.ref).length = vs.length := by rw [List.length_map, hl']
    refine wpAny_bind (listItems_at (a := kS) e rfl ?_)
    have hks : KeysOn s'.heap (as.map Value.ref) K := keysOn_of I' ht'
    -- the end: both lists are written
    have fin : ∀ (st : SortSt) (p : Array Nat), PermN vs.length p → Rise (fun i j => lexV (K i) (K j)) p vs.length → (arrOf st).map (·.2) = (outOf vs p).toArray → failedOf st = none → wpAny (model X.prog X.w) A1 (ksk_tail D false e1 (.ref kS) st) P E s' := fun st p hp hr ho hf => by
      have pD : s'.heap.get? D = some (seqObj "list" #[] e1) := (I'.pin (D, seqObj "list" #[] e1) (List.mem_append_right _ (List.mem_append_right _ List.mem_cons_self))).1
      have nD : H' D = none := (I'.pin (D, seqObj "list" #[] e1) (List.mem_append_right _ (List.mem_append_right _ List.mem_cons_self))).2.1
      unfold ksk_tail
      dsimp only
      rw [ho]
      refine wpAny_bind (listUpdate_at (a := kS) e rfl ?_ (by rw [List.size_toArray, lm, sizeLine_eq]; omega) (Nat.zero_le _))
      refine wpAny_bind (wpAny_letGo ?_)
      have I5 := I'.lset (its' := []) (ys := []) (t' := s'.toks) (f := fun _ => #[]) hk' e rfl .nil (Nat.zero_le _)
      have pD5 : (s'.heap.update kS (Obj.mapSeq fun _ => #[])).get? D = some (seqObj "list" #[] e1) := (Heap.get?_update_ne _ _ _ _ (Ne.symm kD)).trans pD
      refine wpAny_bind (seqEpoch_at (a := D) (s := { s' with heap := s'.heap.update kS (Obj.mapSeq fun _ => #[]) }) pD5 rfl ?_)
      refine wpAny_bind (listUpdate_at (a := D) (s := { s' with heap := s'.heap.update kS (Obj.mapSeq fun _ => #[]) }) pD5 rfl ?_ (Nat.zero_le _) (by rw [if_neg (by simp), List.size_toArray, List.length_map, Array.length_toList, hp.sz, sizeLine_eq]; omega))
      rw [hf]
      simp only [bne_self_eq_false, Bool.false_eq_true, if_false]
      refine wpAny_pure (h p (upd H' kS (.lst [])) _ 0 hp hr (S'.write fk) (by rw [upd_ne (Ne.symm kD)]; exact nD) ?_)
      refine Inv.adopt (s := { s' with heap := s'.heap.update kS (Obj.mapSeq fun _ => #[]), toks := s'.toks }) (t' := s'.toks) I5.unpinned ⟨by rw [upd_ne (Ne.symm kD)]; exact nD, fD.2⟩ (fun b u hb q => (Heap.get?_update_ne _ _ _ _ hb).trans q) ?_ pD5
      refine ⟨by rw [List.length_map, Array.length_toList, hp.sz, sizeLine_eq]; omega, outOf vs p, _, ?_, get?_update_seq pD5 _⟩
      have all : ∀ l : List Nat, (∀ i ∈ l, i < vs.length) → Vals (l.map fun i => vV.getD i .non) (l.map fun i => vs.getD i Value.none) := fun l => by
        induction l with
        | nil => exact fun _ => .nil
        | cons i r ih =>
          intro hl
          have hi : i < vV.length := by rw [lv]; exact hl i List.mem_cons_self
          obtain ⟨u, hu, ru⟩ := rv.get (List.getElem?_eq_getElem hi)
          refine .cons ?_ (ih fun j hj => hl j (List.mem_cons_of_mem _ hj))
          show RelV (vV.getD i .non) (vs.getD i Value.none)
          rw [List.getD_eq_getElem?_getD, List.getD_eq_getElem?_getD, hu, List.getElem?_eq_getElem hi]
          exact ru
      exact all p.toList fun i hi => List.mem_range.mp ((List.Perm.mem_iff hp).mp hi)
    unfold ksk_end
    dsimp only
    simp only [Bool.false_eq_true, if_false]
    have sz : vs.toArray.size = vs.length := List.size_toArray ..
    by_cases h2 : vs.toArray.size < 2
    · rw [if_pos h2, if_pos h2]
      refine wpAny_bind (wpAny_pure ?_)
      rw [StateT.run_pure]
      refine wpAny_bind (wpAny_pure ?_)
      exact fin _ _ (range_perm _) (fun i j hij hj => by omega) (few_out (by rw [List.size_toArray, lm]) (by omega)) rfl
    · rw [if_neg h2, if_neg h2]
      refine wpAny_bind (keys_kind (n := vs.length) k hks (by omega) ?_)
      refine wpAny_bind (wpAny_mono (kat_run (ks := as.map Value.ref) (vs := vs) (Q := fun st' t' => ∃ p : Array Nat, t' = s' ∧ PermN vs.length p ∧ Rise (fun i j => lexV (K i) (K j)) p vs.length ∧ arrOf st' = p.map (kas_item ((as.map Value.ref).toArray.zip vs.toArray)) ∧ failedOf st' = none)
        (G := fun p t' => t' = s' ∧ PermN vs.length p ∧ Rise (fun i j => lexV (K i) (K j)) p vs.length) lm (by omega) h64 (fun p st' t' a1 a2 a3 a4 => ⟨p, a4.1, a4.2.1, a4.2.2, a2, a3⟩)
        (keys_run k hks lm (by omega) fun p hp hr => ⟨rfl, hp, hr⟩)) ?_ fun _ _ e => e)
      rintro ⟨⟨⟩, st'⟩ t' ⟨p, rfl, hp, hr, har, hf⟩
      exact fin st' p hp hr (kat_snds lm har) hf
end
end L2


set_option Elab.async false
set_option linter.all false
set_option maxRecDepth 100000
set_option maxHeartbeats 4000000
/-! a lambda of one parameter: made, called; a range as a thing; sorted(range(..), key=lambda ..) -/
namespace L2
open PySem PySem.Spec PyProof.Rows PySem.W

/-! ### the table of a def's code object, in which its lambda's code is kept from the first making on -/
def codeO (c : Addr) (qual : Str) : HO := .ext fun h => h.CodeRec (.ref c) qual
def LamAt (P : Addr) (lp : Pos) (qual : Str) (H : Hp) : Prop := ∃ ps, H P = some (.tbl ps) ∧ TriplesOk ps.toList ∧ (codeAmong lp ps.toList = none ∨ ∃ c, codeAmong lp ps.toList = some (.ref c) ∧ H c = some (codeO c qual))
abbrev Lm := Addr × Pos × Str
/-- every lambda of the list has its place -/
def Lams (ls : List Lm) (H : Hp) : Prop := ∀ l ∈ ls, LamAt l.1 l.2.1 l.2.2 H
/-- no two stand at one place of the text -/
def LmOk (ls : List Lm) : Prop := ∀ l ∈ ls, ∀ m ∈ ls, l = m ∨ ¬ (l.2.1.line = m.2.1.line ∧ l.2.1.col = m.2.1.col)
structure Kt (ls : List Lm) (H H' : Hp) : Prop where
  lam : Lams ls H'
  keep : ∀ b o, (∀ ps, o ≠ .tbl ps) → H b = some o → H' b = some o
  here : ∀ b, H' b = none → H b = none
theorem codeAmong_other {pos p2 : Pos} {c : Value} (hne : ¬ (p2.line = pos.line ∧ p2.col = pos.col)) (l : List Value) (h : TriplesOk l) : codeAmong pos (l ++ [rawInt p2.line, rawInt p2.col, c]) = codeAmong pos l := by
  fun_induction TriplesOk l with
  | case1 =>
    have e : ((p2.line : Int) == (pos.line : Int) && (p2.col : Int) == (pos.col : Int)) = false := by
      rw [Bool.eq_false_iff]
      intro z
      rw [Bool.and_eq_true, beq_iff_eq, beq_iff_eq] at z
      exact hne ⟨by have := z.1; omega, by have := z.2; omega⟩
    show (if ((p2.line : Int) == (pos.line : Int) && (p2.col : Int) == (pos.col : Int)) then some c else codeAmong pos []) = codeAmong pos []
    rw [e]; rfl
  | case2 a t b u x rest ih =>
    simp only [List.cons_append, codeAmong]
    rw [ih h]
  | case3 l h1 h2 => exact h.elim
section
variable {P q : Addr} {lp : Pos} {qual : Str} {H H1 H2 : Hp} {o : HO} {ls : List Lm} {xs : List V}
theorem LamAt.same (a : LamAt P lp qual H) (s : Same H H1) : LamAt P lp qual H1 := by
  obtain ⟨ps, a, b, c⟩ := a
  refine ⟨ps, s _ _ a, b, ?_⟩
  rcases c with c | ⟨d, c, e⟩
  · exact .inl c
  · exact .inr ⟨d, c, s _ _ e⟩
theorem LamAt.start (h : H P = some (.tbl #[])) : LamAt P lp qual H := ⟨#[], h, trivial, .inl rfl⟩
theorem Lams.same (a : Lams ls H) (s : Same H H1) : Lams ls H1 := fun l hl => (a l hl).same s
theorem LamAt.write (a : LamAt P lp qual H) (h : H q = some (.lst xs)) : LamAt P lp qual (upd H q o) := by
  obtain ⟨ps, a, b, c⟩ := a
  refine ⟨ps, by rw [upd_ne (ne_of a h (by intro z; cases z))]; exact a, b, ?_⟩
  rcases c with c | ⟨d, c, e⟩
  · exact .inl c
  · exact .inr ⟨d, c, by rw [upd_ne (ne_of e h (by intro z; cases z))]; exact e⟩
theorem Kt.refl (a : Lams ls H) : Kt ls H H := ⟨a, fun _ _ _ e => e, fun _ e => e⟩
theorem Kt.trans (a : Kt ls H H1) (b : Kt ls H1 H2) : Kt ls H H2 := ⟨b.lam, fun c u hc e => b.keep c u hc (a.keep c u hc e), fun c e => a.here c (b.here c e)⟩
theorem Kt.same (a : Kt ls H H1) (s : Same H1 H2) : Kt ls H H2 := ⟨a.lam.same s, fun c u hc e => s _ _ (a.keep c u hc e), fun c e => a.here c (s.free e)⟩
theorem Same.kt (s : Same H H1) (b : Kt ls H1 H2) : Kt ls H H2 := ⟨b.lam, fun c u hc e => b.keep c u hc (s _ _ e), fun c e => s.free (b.here c e)⟩
theorem Kt.of (s : Same H H1) (a : Lams ls H) : Kt ls H H1 := (Kt.refl a).same s
theorem Kt.write (a : Kt ls H H1) (hq : H q = none) (h : H1 q = some (.lst xs)) : Kt ls H (upd H1 q o) :=
  ⟨fun l hl => (a.lam l hl).write h, fun b u hb e => by rw [upd_ne (ne_of_none e hq)]; exact a.keep b u hb e, fun b e => by
    by_cases z : b = q
    · rw [z, upd_same] at e; cases e
    · rw [upd_ne z] at e; exact a.here b e⟩
theorem Kt.lst (a : Kt ls H H1) (h : H q = some (.lst xs)) : H1 q = some (.lst xs) := a.keep _ _ (fun _ z => by cases z) h
theorem Kt.tup (a : Kt ls H H1) (h : H q = some (.tup xs)) : H1 q = some (.tup xs) := a.keep _ _ (fun _ z => by cases z) h
theorem Kt.seq {K : PySem.W.Frag} (a : Kt ls H H1) (h : SqL K H q xs) : SqL K H1 q xs := by
  rcases h with (h | ⟨ob, h⟩) | h
  · exact .inl (.inl (a.lst h))
  · exact .inl (.inr ⟨ob, a.keep _ _ (fun _ z => by cases z) h⟩)
  · exact .inr h
end

/-! ### the context of a lambda's body -/
def cxLam (X : Cx) (scope : Scope) (NL : List Str) (ix : List Nat) (qual : Str) (cl : List (Str × Addr)) (fa : Addr) (cd : Value) (A1 : Around) (s₃ : Shared) (H₃ : Hp) (pins : List (Addr × Obj)) : Cx where
  prog := X.prog
  w := X.w
  K := X.K
  mg := X.mg
  base := X.base
  A := A1.deeper (envX qual scope s₃.heap.objs.size fa cd cl)
  N := NL ++ ix.map fun j => X.N.getD j ""
  s₀ := s₃
  H₀ := H₃
  env := envX qual scope s₃.heap.objs.size fa cd cl
  outer := X.stack
  stack := envX qual scope s₃.heap.objs.size fa cd cl :: X.stack
  ex := []
  fn := fun _ => false
  calm := X.calm
  pn := X.pn ++ pins
  xe := fun _ _ => False
def lam0 (v : V) (ix : List Nat) (σ : St) : St := some v :: ix.map fun j => σ.getD j none
section
variable {X : Cx} {pins : List (Addr × Obj)} {σ : St} {H : Hp} {s : Shared}
theorem lam_inv {scope : Scope} {x : Str} {ix : List Nat} {qual : Str} {cl : List (Str × Addr)} {fa : Addr} {cd : Value} {A1 : Around} {s₃ : Shared} {h₁ : Heap} {m : Str → Option Value} {tk : Nat} {v : V} {u : Value}
    (S : CompScope X scope [x] ix) (I : Inv X pins σ H s₃) (c1 : ∀ x c, cl.lookup x = some c → X.env.cells.lookup x = some c) (c2 : ∀ x, (x, NameKind.free) ∈ scope.names → ∃ c, cl.lookup x = some c)
    (hfr : A1.frames = some X.stack) (hh : A1.handled = none) (hx : scope.names.lookup x = some .local) (hmx : m x = some u) (ru : RelV v u)
    (hn : h₁.Ns s₃.heap.objs.size m) (old : ∀ b o, s₃.heap.get? b = some o → h₁.get? b = some o) :
    Inv (cxLam X scope [x] ix qual cl fa cd A1 s₃ H pins) [] (lam0 v ix σ) H { s₃ with heap := h₁, toks := tk } := by
  have e0 := I.env0
  have lt : ∀ b o, s₃.heap.get? b = some o → b ≠ s₃.heap.objs.size := fun b o e => Nat.ne_of_lt (Heap.lt_size e)
  have noA : ∀ b : Addr, b ∉ (cxLam X scope [x] ix qual cl fa cd A1 s₃ H pins).ex := fun b z => absurd (show b ∈ ([] : List Addr) from z) (by simp)
  have nst : ∀ b, b ≠ X.env.locals → b ∉ X.fs → b ∉ frs X.stack := fun b h1 h2 h3 => (List.mem_cons.mp (I.stkSub b h3)).elim h1 h2
  have ok : (cxLam X scope [x] ix qual cl fa cd A1 s₃ H pins).Ok :=
    { mod := I.ok.mod
      kind := S.kind
      glob := rfl
      blt := rfl
      above := Nat.le_refl _
      inj := fun x y c h1 h2 => I.ok.inj x y c (c1 x c h1) (c1 y c h2)
      has := fun y hy => by
        have hy' : scope.names.lookup y = some .cell ∨ scope.names.lookup y = some .free := hy
        rcases hy' with q | q
        · exact absurd rfl (S.cell _ (lookup_mem q))
        · exact c2 y (lookup_mem q)
      cab := fun _ _ z => nomatch z
      hd := fun _ => hh
      frames := Around.frames_deeper hfr
      stk := .inr ⟨rfl, rfl⟩
      exf := fun b hb => absurd hb (noA b)
      bs := I.bs
      bsz := e0.bsz
      noex := fun b _ _ => noA b
      exfs := fun b hb => absurd hb (noA b)
      funs := e0.funs
      frf := e0.frf }
  refine ⟨ok, rfl, I.bare, Un.kept old, ⟨m, hn, fun i y w e1 e2 e3 => ?_⟩, fun y c e => ?_, I.hok.fresh (Nat.le_refl _), fun y c e => I.freeC y c (c1 y c e), fun p hp => ?_, I.hok.kept old, ?_⟩
  · cases i with
    | zero =>
      have ey : x = y := by simpa [cxLam] using e1
      have ev : v = w := by simpa [lam0] using e2
      subst ey; subst ev
      exact ⟨u, ru, .inl ⟨hx, hmx⟩⟩
    | succ i =>
      have e1' : (ix.map fun j => X.N.getD j "")[i]? = some y := by simpa [cxLam] using e1
      have e2' : (ix.map fun j => σ.getD j none)[i]? = some (some w) := by simpa [lam0] using e2
      rw [List.getElem?_map] at e1' e2'
      cases q : ix[i]? with
      | none => rw [q] at e1'; cases e1'
      | some j =>
        rw [q] at e1' e2'
        have e1'' : X.N.getD j "" = y := Option.some.inj e1'
        have e2'' : σ.getD j none = some w := Option.some.inj e2'
        obtain ⟨x', hx', hfr'⟩ := S.cap j (List.mem_of_getElem? q)
        have exx : x' = y := by
          rw [← e1'', List.getD_eq_getElem?_getD, hx']; rfl
        subst exx
        have hσ : σ[j]? = some (some w) := by
          rw [List.getD_eq_getElem?_getD] at e2''
          cases z : σ[j]? with
          | none => rw [z] at e2''; cases e2''
          | some o => rw [z] at e2''; exact congrArg some e2''
        have kd := S.free _ (lookup_mem hfr') rfl
        have vis : Vis X.env.scope x' := by
          rcases kd with z | z
          · exact .inr (.inl z)
          · exact .inr (.inr z)
        obtain ⟨m', hn', hl'⟩ := I.loc
        obtain ⟨u', r, l⟩ := hl' j x' w hx' hσ vis
        refine ⟨u', r, .inr ⟨.inr hfr', ?_⟩⟩
        obtain ⟨c, hc⟩ := c2 x' (lookup_mem hfr')
        rcases l with ⟨k, _⟩ | ⟨k, c', ec, o, ho', hd⟩
        · rcases kd with z | z
          · rw [k] at z; cases z
          · rw [k] at z; cases z
        · have : c' = c := by
            have := c1 x' c hc
            rw [ec] at this
            exact Option.some.inj this
          subst this
          exact ⟨c', hc, o, old _ _ ho', hd⟩
  · obtain ⟨v', o, ho', hd⟩ := I.cell y c (c1 y c e)
    exact ⟨v', o, old _ _ ho', hd⟩
  · have hp' : p ∈ X.pn ++ pins := by
      rcases List.mem_append.mp hp with z | z
      · exact z
      · exact nomatch z
    obtain ⟨e, n, ne, nf, d⟩ := I.pin p hp'
    exact ⟨old _ _ e, n, lt _ _ e, nst _ ne nf, d⟩
  · show (some v :: ix.map fun j => σ.getD j none).length = ([x] ++ ix.map fun j => X.N.getD j "").length
    simp
/-- a lambda is called -/
theorem lam_call {scope : Scope} {x : Str} {ix : List Nat} {nm qual : Str} {params : Arguments} {body : Expr} {cl : List (Str × Addr)} {fa c : Addr} {pm ctv : Value} {A1 : Around} {te : TE} {v : V} {u : Value} {Q : VK}
    (S : CompScope X scope [x] ix) (I : Inv X pins σ H s) (c1 : ∀ x c, cl.lookup x = some c → X.env.cells.lookup x = some c) (c2 : ∀ x, (x, NameKind.free) ∈ scope.names → ∃ c, cl.lookup x = some c)
    (ho : s.heap.get? fa = some (kla_obj nm qual params body scope cl pm c ctv)) (hcd : s.heap.CodeRec (.ref c) qual) (hfr : A1.frames = some X.stack) (hh : A1.handled = none) (hroom : A1.depth < recursionLimit)
    (hbind : ∀ u : Value, bindArgs (kla_fn nm qual params body scope cl pm (.ref c) ctv) ⟨[u], []⟩ = pure [(x, u)]) (hx : scope.names.lookup x = some .local) (hco : scope.isCoroutine = false) (hgen : scope.isGenerator = false)
    (hb : ∀ (s₃ : Shared) (H₃ : Hp), PE (cxLam X scope [x] ix qual cl fa (.ref c) A1 s₃ H₃ pins) body te) (ru : RelV v u) (q : te (lam0 v ix σ) H Q) :
    wpAny (model X.prog X.w) A1 (call (.ref fa) [u]) (EP X pins σ Q) (fun _ _ => False) s := by
  refine wpAny_call (kla_callFunE hroom ho rfl hco hgen rfl hcd ?_)
  rw [hbind u]
  refine wpAny_pure (wpAny_newFunctionEnv S.cell (fun y hy => ?_) (fun h₁ hns hsb => ⟨(I.nolimit).fresh _ hsb, ?_⟩) S.kind)
  · obtain rfl : y = (x, u) := by simpa using hy
    exact hx
  show codeAny _ _ (.expr body (envX qual scope s.heap.objs.size fa (.ref c) cl)) _ _
  have hk₁ : ∀ b o, s.heap.get? b = some o → h₁.get? b = some o := fun b o e => hsb.extBut b o (Nat.ne_of_lt (Heap.lt_size e)) (Heap.get?_push_of_some _ e)
  have I1 := lam_inv (qual := qual) (fa := fa) (cd := .ref c) (A1 := A1) (tk := s.toks + [(x, u)].length) S I c1 c2 hfr hh hx (show (fun y => [(x, u)].reverse.lookup y) x = some u by simp) ru hns hk₁
  refine kla_codeExpr (wpAny_mono (hb s H [] _ (lam0 v ix σ) H Q I1 q) (fun v' s' hv => ?_) fun _ _ z => z.elim)
  obtain ⟨v2, H', J, rv, q'⟩ := hv
  exact I.after ⟨v2, H', J.os, J.bare, J.base, J.hok, rv, q'⟩

/-- a lambda is made: its code is kept in the table P of the def's code object -/
theorem lam_make {scope : Scope} {params : Arguments} {body : Expr} {lp : Pos} {cl : List (Str × Addr)} {c0 P : Addr} {ls : List Lm} {E : Value → Shared → Prop} {Q : Value → Shared → Prop} (I : Inv X pins σ H s) (hcl : closureFor scope X.env = pure cl) (hcode : X.env.code = .ref c0) (CH : CodeHd X.base c0 P)
    (hb : X.base.BuiltinsAt X.mg P) (lo : LmOk ls) (li : (P, lp, X.env.qual ++ "<lambda>") ∈ ls) (LL : Lams ls H) (hdef : defaultsOf params X.env = ([], []))
    (h : ∀ (fa c : Addr) (pm ctv : Value) (H' : Hp) (s' : Shared), Kt ls H H' → H' c = some (codeO c (X.env.qual ++ "<lambda>")) → Inv X (pins ++ [(fa, kla_obj "<lambda>" (X.env.qual ++ "<lambda>") params body scope cl pm c ctv)]) σ H' s' → Q (.ref fa) s') :
    wpAny (model X.prog X.w) X.A (eval (.Lambda params body scope lp) X.env) Q E s := by
  refine kla_eval hdef ?_
  have hgs : s.heap.Ns mainGlobals X.mg := I.mod.glob.keeps I.bk
  have C := CH.keeps I.bk
  have pinIt : ∀ {fa c : Addr} {pm ctv : Value} {H' : Hp} {h' : Heap} {tk : Nat}, Inv X pins σ H' { s with heap := h', toks := tk } → fa = h'.objs.size →
      Inv X (pins ++ [(fa, kla_obj "<lambda>" (X.env.qual ++ "<lambda>") params body scope cl pm c ctv)]) σ H' { s with heap := h'.push (kla_obj "<lambda>" (X.env.qual ++ "<lambda>") params body scope cl pm c ctv), toks := tk } := fun {fa c pm ctv H' h' tk} J e => by
    subst e
    have J2 := J.kept (t' := tk) (h' := h'.push (kla_obj "<lambda>" (X.env.qual ++ "<lambda>") params body scope cl pm c ctv)) fun b o e => Heap.get?_push_of_some _ e
    have f := J.fpOk (Nat.le_refl _) (J.hok.fresh (Nat.le_refl _))
    refine J2.pins_of fun p hp => ?_
    rcases List.mem_append.mp hp with z | z
    · exact J2.pin p (List.mem_append_right _ z)
    · obtain rfl := List.mem_singleton.mp z
      exact ⟨Heap.get?_push_size _ rfl, f.1, f.2.1, f.2.2.1, fun v z => by cases z⟩
  obtain ⟨bm, ob, b1, b2, b3, b4, b5, b6⟩ := hb
  have hbs : s.heap.BuiltinsAt X.mg P := ⟨bm, ob, b1, b2, b3, b4, I.bk _ _ b5, b6⟩
  obtain ⟨ps, L, tok, Lc⟩ := LL _ li
  dsimp only at L Lc
  rcases Lc with Lno | ⟨c, Lc, Hc⟩
  · have hP : s.heap.get? P = some (tabObj ps) := I.hok P _ L
    have hgP : mainGlobals ≠ P := fun q => by
      obtain ⟨o, es, ep, e, hd, _⟩ := hgs
      rw [q, hP] at e; cases e; cases hd
    refine kla_makeFunction (mg := X.mg) hcl I.ok.glob hgs hcode C hP tok Lno hgP hbs fun c ctv h' tk hx hge hlt hrec htb => ?_
    have hc0 : H c = none := I.hok.fresh hge
    have ncP : c ≠ P := fun e => by rw [e, L] at hc0; cases hc0
    have nP : ∀ b, H b = none → b ≠ P := fun b e z => by rw [z, L] at e; cases e
    have htb' : h'.get? P = some (tabObj (ps ++ #[rawInt lp.line, rawInt lp.col, .ref c])) := htb
    have hc1 : ∃ oc, h'.get? c = some oc := by
      obtain ⟨_, oc, _, _, e, ho, _⟩ := id hrec
      cases e; exact ⟨oc, ho⟩
    have J : Inv X pins σ (upd (upd H P (.tbl (ps ++ #[rawInt lp.line, rawInt lp.col, .ref c]))) c (codeO c (X.env.qual ++ "<lambda>"))) { s with heap := h', toks := tk } := by
      have at1 : ∀ b, b ≠ P → b ≠ c → upd (upd H P (.tbl (ps ++ #[rawInt lp.line, rawInt lp.col, .ref c]))) c (codeO c (X.env.qual ++ "<lambda>")) b = H b := fun b h1 h2 => by rw [upd_ne h2, upd_ne h1]
      have atP : upd (upd H P (.tbl (ps ++ #[rawInt lp.line, rawInt lp.col, .ref c]))) c (codeO c (X.env.qual ++ "<lambda>")) P = some (.tbl (ps ++ #[rawInt lp.line, rawInt lp.col, .ref c])) := by rw [upd_ne (Ne.symm ncP), upd_same]
      have old : ∀ b o, s.heap.get? b = some o → b ≠ c := fun b o e z => absurd (Heap.lt_size e) (by rw [z]; exact Nat.not_lt.mpr hge)
      have trk : ∀ b o, H b = some o → b ≠ c := fun b o e => ne_of_none e hc0
      refine I.step (g' := s.gens) (d' := s.drawn) (ch := []) (fun _ z => nomatch z) (fun b o _ _ _ e n => hx b o (nP b n) e) (fun b o _ _ _ e n => ⟨o.slots, hx b o (nP b n) e⟩) (fun b o _ e n => by rw [at1 b (nP b n) (old b o e)]; exact n) (fun b o _ e => ?_)
        (fun b xs e => by rw [at1 b (fun z => by rw [z, L] at e; cases e) (trk b _ e)]; exact e) (fun b ob u e => by rw [at1 b (fun z => by rw [z, L] at e; cases e) (trk b _ e)]; exact e) (fun b ps e => ?_) (fun m hm => ?_) (fun b u e => ?_) I.bare
      · by_cases z : b = P
        · exact ⟨_, by rw [z]; exact htb'⟩
        · exact ⟨o, hx b o z e⟩
      · by_cases z : b = P
        · subst z
          rw [L] at e; cases e
          exact ⟨_, atP⟩
        · exact ⟨#[], by rw [at1 b z (trk b _ e), e]; simp⟩
      · obtain ⟨o, es, ep, e, r⟩ := hm
        exact ⟨o, es, ep, hx _ o (nP _ I.free) e, r⟩
      · by_cases z1 : b = c
        · subst z1
          rw [upd_same] at e; cases e
          refine ⟨hrec, hc1, fun h1 h2 p k => ?_⟩
          obtain ⟨c2, o2, vs2, t2, e2, g2, r2⟩ := p
          cases e2
          exact ⟨b, o2, vs2, t2, rfl, k _ g2, r2⟩
        · by_cases z2 : b = P
          · subst z2
            rw [atP] at e; cases e
            exact htb'
          · rw [at1 b z2 z1] at e
            refine (I.hok b u e).stay (fun d v hd q => hx d v ?_ q) (fun d q => by rw [at1 d (fun z => by rw [z, L] at q; cases q) (trk d _ q)]; exact q) fun d xs q => by rw [at1 d (fun z => by rw [z, L] at q; cases q) (trk d _ q)]; exact q
            rcases hd with z | z
            · rw [z]; exact z2
            · exact fun y => by rw [y, L] at z; cases z
    refine h h'.objs.size c _ ctv _ _ ⟨fun l hl => ?_, fun b o hb e => ?_, fun b e => ?_⟩ upd_same (pinIt J rfl)
    · obtain ⟨qs, q1, q2, q3⟩ := LL l hl
      by_cases z : l.1 = P
      · rw [z] at q1 ⊢
        rw [L] at q1
        cases q1
        refine ⟨_, by rw [upd_ne (Ne.symm ncP), upd_same], by rw [Array.toList_append]; exact TriplesOk_snoc _ _ _ _ q2, ?_⟩
        rw [Array.toList_append]
        rcases lo _ li l hl with y | y
        · subst y
          exact .inr ⟨c, codeAmong_snoc _ tok Lno, upd_same⟩
        · show codeAmong l.2.1 (ps.toList ++ [rawInt lp.line, rawInt lp.col, .ref c]) = none ∨ _
          have eo := codeAmong_other (c := .ref c) y ps.toList tok
          dsimp only at eo
          rcases q3 with q3 | ⟨d, q3, q4⟩
          · exact .inl (eo.trans q3)
          · exact .inr ⟨d, eo.trans q3, by rw [upd_ne (ne_of_none q4 hc0), upd_ne (fun y => by rw [y, L] at q4; cases q4)]; exact q4⟩
      · refine ⟨qs, by rw [upd_ne (ne_of_none q1 hc0), upd_ne z]; exact q1, q2, ?_⟩
        rcases q3 with q3 | ⟨d, q3, q4⟩
        · exact .inl q3
        · exact .inr ⟨d, q3, by rw [upd_ne (ne_of_none q4 hc0), upd_ne (fun y => by rw [y, L] at q4; cases q4)]; exact q4⟩
    · rw [upd_ne (ne_of_none e hc0), upd_ne (fun z => by rw [z, L] at e; cases e; exact hb _ rfl)]; exact e
    · by_cases z1 : b = c
      · rw [z1]; exact hc0
      · rw [upd_ne z1] at e
        by_cases z2 : b = P
        · rw [z2, upd_same] at e; cases e
        · rw [upd_ne z2] at e; exact e
  · have hP : s.heap.get? P = some (tabObj ps) := I.hok P _ L
    refine kla_makeFunctionHit (mg := X.mg) (cv := .ref c) hcl I.ok.glob hgs hcode C hP tok Lc hbs fun ctv h' tk hk hsz => ?_
    exact h h'.objs.size c _ ctv H _ (Kt.refl LL) Hc (pinIt (I.kept (t' := tk) hk) rfl)
end
end L2


set_option Elab.async false
set_option linter.all false
set_option maxRecDepth 100000
set_option maxHeartbeats 4000000
namespace L2
open PySem PySem.Spec PyProof.Rows PySem.W
section
variable {prog : Program} {w : World} {A : Around} {E : Value → Shared → Prop} {s : Shared}
/-- the things of a range, as a list of Python's own -/
theorem collect_rng {r : Addr} {lo hi : Int} {t u v : Tok} {n : Nat} {Q : List Value → Shared → Prop} (hh : A.handled = none) (hr : IsRange s.heap r lo hi 1 t u v) (hsmall : Builtin.Range.small lo hi 1 = true) (hn : Builtin.Range.rangeSize lo hi 1 = n) (hlen : n ≤ 2 ^ 24)
    (h : ∀ (h' : Heap) (tk : Nat) (acc : Array Value), (∀ b o, s.heap.get? b = some o → h'.get? b = some o) → s.heap.objs.size ≤ h'.objs.size → ItemsOf (fun i v => ∃ t, v = .int (lo + i * 1) t) acc n → Q acc.toList { s with heap := h', toks := tk }) :
    wpAny (model prog w) A (collect (.ref r)) Q E s := by
  unfold collect
  refine wpAny_bind (wpAny_runValue (codeAny_builtin F.entry_proto_collect ?_))
  rw [Around.under_plainId F.plain_proto_collect _]
  show wpAny _ A.in1 (newList [] >>= fun l => again (.builtin "list.__iadd__" ⟨[l, .ref r], []⟩)) _ _ s
  refine wpAny_bind (wpAny_newObj_type ?_)
  refine wpAny_pure ⟨plainId_quiet F.plain_list_iadd _, codeAny_builtin F.entry_list_iadd ?_⟩
  rw [Around.under_plainId F.plain_list_iadd _]
  show wpAny _ A.in1 (Builtin.List.listExtendWith (.ref s.heap.objs.size) (.ref r) (.ref s.heap.objs.size)) _ _ _
  have hS₁ : (s.heap.push { cls := .type "list", data := .seq ([] : List Value).toArray }).get? s.heap.objs.size = some { cls := .type "list", data := .seq #[] 0 } := Heap.get?_push_size _ rfl
  refine wpAny_mono (wpAny_extend_range (s := { s with heap := s.heap.push { cls := .type "list", data := .seq ([] : List Value).toArray } }) (R := fun r' s' => r' = .ok (.ret (.ref s.heap.objs.size)) ∧ ∃ h' tk acc' c', s' = { s with heap := h', toks := tk } ∧ (∀ b o, b ≠ s.heap.objs.size → (s.heap.push { cls := .type "list", data := .seq ([] : List Value).toArray }).get? b = some o → h'.get? b = some o) ∧
      h'.get? s.heap.objs.size = some { cls := .type "list", dict := none, data := .seq acc' c', slots := #[] } ∧ ItemsOf (fun i v => ∃ t, v = .int (lo + i * 1) t) acc' n)
    hh (Heap.get?_push_of_some _ hr) hsmall hn hlen s.heap.objs.size (.ref s.heap.objs.size) 0 hS₁ fun h' tk acc' c' kp hS' hacc => ⟨rfl, h', tk, acc', c', rfl, kp, hS', hacc⟩) (fun fin s' hf => ?_) (fun e s' hf => ?_)
  · have key : ∀ {f : Flow} {s' : Shared}, ((Except.ok f : Result) = .ok (.ret (.ref s.heap.objs.size)) ∧ ∃ h' tk acc' c', s' = { s with heap := h', toks := tk } ∧ (∀ b o, b ≠ s.heap.objs.size → (s.heap.push { cls := .type "list", data := .seq ([] : List Value).toArray }).get? b = some o → h'.get? b = some o) ∧
      h'.get? s.heap.objs.size = some { cls := .type "list", dict := none, data := .seq acc' c', slots := #[] } ∧ ItemsOf (fun i v => ∃ t, v = .int (lo + i * 1) t) acc' n) → f = .ret (.ref s.heap.objs.size) ∧ wpAny (model prog w) A (do
          let __do_lift ← load s.heap.objs.size
          match __do_lift.data with
            | .seq xs _ => pure xs.toList
            | _ => unsupported "internal:collect") Q E s' := fun {f s'} hz => by
      obtain ⟨e1, h', tk, acc', c', rfl, kp, hS', hacc⟩ := hz
      refine ⟨by injection e1, ?_⟩
      refine wpAny_bind (wpAny_load (s := { s with heap := h', toks := tk }) hS' ?_)
      exact wpAny_pure (h h' tk acc' (fun b o e => kp b o (Nat.ne_of_lt (Heap.lt_size e)) (Heap.get?_push_of_some _ e)) (Nat.le_of_lt (Heap.lt_size hS')) hacc)
    cases fin with
    | done f =>
      obtain ⟨rfl, hw⟩ := key hf
      exact hw
    | again c' =>
      refine ⟨hf.1, codeAny_mono hf.2 fun r' s'' hr' => ?_⟩
      cases r' with
      | error e => exact absurd hr'.1 (by intro z; cases z)
      | ok f =>
        obtain ⟨rfl, hw⟩ := key hr'
        exact hw
  · exact absurd hf.1 (by intro z; cases z)
end
theorem vals_at : ∀ {xs : List V} {us : List Value}, xs.length = us.length → (∀ (i : Nat) (x : V) (u : Value), xs[i]? = some x → us[i]? = some u → RelV x u) → Vals xs us
  | [], [], _, _ => .nil
  | [], _ :: _, h, _ => by cases h
  | _ :: _, [], h, _ => by cases h
  | x :: xs, u :: us, h, k => .cons (k 0 x u rfl rfl) (vals_at (by simpa using h) fun i y v a b => k (i + 1) y v (by simpa using a) (by simpa using b))
section
variable {X : Cx}
def tRng1 (ta : TA) : TE := fun σ H Q => ta σ H fun vs H1 => ∃ j : Int, vs = [.int j] ∧ ∀ r, H1 r = none → Q (.ref r) (upd H1 r (.rng 0 j))
def tRng2 (ta : TA) : TE := fun σ H Q => ta σ H fun vs H1 => ∃ i j : Int, vs = [.int i, .int j] ∧ ∀ r, H1 r = none → Q (.ref r) (upd H1 r (.rng i j))
theorem pe_rng1 {a : Expr} {ta : TA} {p pos : Pos} (hg : Gl X "range") (hm : X.mg "range" = none) (ha : PA X [a] ta) (hs : starEach [a] X.env = [(false, eval a X.env)] := by rfl) : PE X (.Call (.Name "range" p) [a] [] pos) (tRng1 ta) := by
  intro pins s σ H Q I h
  refine Call_ (ld_blt I hg hm boot_range (PyProof.Rows.callWith_type1 (thn (ha pos pins s σ H _ I h) fun us s1 ⟨vs, H1, I1, r1, q1⟩ => ?_) hs rfl))
  obtain ⟨j, e, q⟩ := q1
  subst e
  cases r1 with
  | cons r rr =>
    cases rr
    obtain ⟨t, rfl⟩ := r
    exact call_range_1 ⟨.ref s1.heap.objs.size, _, I1.laid (o := .rng 0 j) (t' := s1.toks + 1 + 1) (fun b o e => Heap.get?_push_of_some _ e) (Nat.le_refl _) ⟨_, _, _, Heap.get?_push_size _ rfl⟩, rfl, q _ I1.fresh⟩
theorem pe_rng2 {a b : Expr} {ta : TA} {p pos : Pos} (hg : Gl X "range") (hm : X.mg "range" = none) (ha : PA X [a, b] ta) (hs : starEach [a, b] X.env = [(false, eval a X.env), (false, eval b X.env)] := by rfl) (hs2 : starEach [b] X.env = [(false, eval b X.env)] := by rfl) :
    PE X (.Call (.Name "range" p) [a, b] [] pos) (tRng2 ta) := by
  intro pins s σ H Q I h
  refine Call_ (ld_blt I hg hm boot_range (PyProof.Rows.callWith_type1 (thn (ha pos pins s σ H _ I h) fun us s1 ⟨vs, H1, I1, r1, q1⟩ => ?_) (by rw [hs, hs2]) (by rw [hs2]; rfl)))
  obtain ⟨i, j, e, q⟩ := q1
  subst e
  cases r1 with
  | cons r rr =>
    cases rr with
    | cons r' rr =>
      cases rr
      obtain ⟨t, rfl⟩ := r
      obtain ⟨t', rfl⟩ := r'
      exact call_range_2 ⟨.ref s1.heap.objs.size, _, I1.laid (o := .rng i j) (t' := s1.toks + 1) (fun b o e => Heap.get?_push_of_some _ e) (Nat.le_refl _) ⟨_, _, _, Heap.get?_push_size _ rfl⟩, rfl, q _ I1.fresh⟩

/-- sorted(range(..), key=lambda x: ..) -/
def tSortEnd (ls : List Lm) (ix : List Nat) (tb : TE) (σ : St) (Q : VK) (x : V) (H1 : Hp) : Prop := ∃ (r : Addr) (lo hi : Int) (K : Nat → List V) (sh : List Nat), x = .ref r ∧ H1 r = some (.rng lo hi) ∧ (-(2 ^ 62) ≤ lo ∧ lo < 2 ^ 62 ∧ -(2 ^ 62) ≤ hi ∧ hi < 2 ^ 62) ∧ (hi - lo).toNat < 64 ∧
  Lams ls H1 ∧ Keys (hi - lo).toNat K sh ∧
  (∀ (i : Nat) (H2 : Hp), i < (hi - lo).toNat → Kt ls H1 H2 → tb (lam0 (.int (lo + i)) ix σ) H2 fun k H3 => ∃ a, k = .ref a ∧ H3 a = some (.tup (K i)) ∧ Same H2 H3) ∧
  ∀ (p : List Nat) (l : Addr) (H2 : Hp), p.Perm (List.range (hi - lo).toNat) → (∀ i j, i < j → j < (hi - lo).toNat → lexV (K (p.getD j 0)) (K (p.getD i 0)) = false) → Kt ls H1 H2 → H1 l = none → H2 l = some (.lst (p.map fun i : Nat => V.int (lo + (i : Int)))) → Q (.ref l) H2
def tSortLam (ls : List Lm) (ix : List Nat) (te tb : TE) : TE := fun σ H Q => te σ H (tSortEnd ls ix tb σ Q)
theorem pe_sortLam {k : Nat} {P c0 : Addr} {ls : List Lm} {x : Str} {ix : List Nat} {e : Expr} {params : Arguments} {body : Expr} {scope : Scope} {lp kpos p pos : Pos} {te tb : TE}
    (hr : Room k X.A) (hcalm : X.calm = true) (hg : Gl X "sorted") (hm : X.mg "sorted" = none) (he : PE X e te) (hcode : X.env.code = .ref c0) (CH : CodeHd X.base c0 P) (hb : X.base.BuiltinsAt X.mg P) (lk : LmOk ls) (li : (P, lp, X.env.qual ++ "<lambda>") ∈ ls) (S : CompScope X scope [x] ix)
    (ht : ∀ (qual : Str) (cl : List (Str × Addr)) (fa : Addr) (cd : Value) (A1 : Around) (s₃ : Shared) (H₃ : Hp) (pins : List (Addr × Obj)), PE (cxLam X scope [x] ix qual cl fa cd A1 s₃ H₃ pins) body tb)
    (hx : scope.names.lookup x = some .local := by rfl) (hco : scope.isCoroutine = false := by rfl) (hgen : scope.isGenerator = false := by rfl) (hdef : defaultsOf params X.env = ([], []) := by rfl)
    (hbind : ∀ (qual : Str) (cl : List (Str × Addr)) (pm : Value) (c : Addr) (ctv u : Value), bindArgs (kla_fn "<lambda>" qual params body scope cl pm (.ref c) ctv) ⟨[u], []⟩ = pure [(x, u)] := by intros; rfl)
    (hs : starEach [e] X.env = [(false, eval e X.env)] := by rfl) :
    PE X (.Call (.Name "sorted" p) [e] [⟨some "key", .Lambda params body scope lp, kpos⟩] pos) (tSortLam ls ix te tb) := by
  intro pins s σ H Q I h
  obtain ⟨cl, hcl, c1, c2⟩ := closure_ok (scope := scope) (env := X.env) fun y hy => by
    rcases S.free _ hy rfl with z | z
    · exact I.ok.has y (.inl z)
    · exact I.ok.has y (.inr z)
  refine wpAny_Call_Name_kw (ld_blt I hg hm L2.bt_sorted ?_)
  refine callWith_kw (thn ((pa_cons he pa_nil hs) pos pins s σ H (fun xs H1 => match xs with | [x] => tSortEnd ls ix tb σ Q x H1 | _ => False) I h) fun us s1 ⟨xs, H1, I1, r1, q1⟩ => ?_) (by rw [hs]; rfl) (by rw [hs]; rfl)
  obtain ⟨x0, ex0, q1⟩ : ∃ x0, xs = [x0] ∧ tSortEnd ls ix tb σ Q x0 H1 := by
    cases xs with
    | nil => exact False.elim q1
    | cons x0 rest =>
      cases rest with
      | nil => exact ⟨x0, rfl, q1⟩
      | cons _ _ => exact False.elim q1
  subst ex0
  obtain ⟨r, lo, hi, K, sh, rfl, hrng, ⟨l1, l2, l3, l4⟩, h64, L, kk, hbody, hend⟩ := q1
  obtain ⟨u, rfl, ru⟩ := vals1 r1
  cases (show u = Value.ref r from ru)
  show wpAny _ _ (evalAll [do let v ← eval (.Lambda params body scope lp) X.env; standAt pos; pure v]) _ _ s1
  refine wpAny_evalAll_cons (wpAny_bind (lam_make (P := P) (c0 := c0) I1 hcl hcode CH hb lk li L hdef fun fa c pm ctv H2 s2 kt hc I2 => wpAny_bind (wpAny_standAt (wpAny_pure (wpAny_evalAll_nil ?_)))))
  show wpAny _ _ (call (.builtin "sorted") [.ref r] [(Str.ofString "key", .ref fa)]) _ _ s2
  obtain ⟨t, t', t'', hr2⟩ := I2.hok r _ (kt.keep r _ (fun ps z => by cases z) hrng)
  have hA : X.A.handled = none := I.ok.hd hcalm
  have en : Builtin.Range.rangeSize lo hi 1 = (((hi - lo).toNat : Nat) : Int) := by rw [rangeSize_one]; split <;> omega
  refine call_function_entry_kw kind_sorted plain_sorted entry_sorted (ksk_s1 _ _) ?_
  unfold Builtin.«sorted»
  refine wpAny_bind (m := checkCount "sorted" 1 1 _) (wpAny_pure ?_)
  refine wpAny_bind (collect_rng (A := X.A.in1) hA hr2 (small_one l1 l2 l3 l4) en (by omega) fun h3 tk acc kp3 sz3 hacc => ?_)
  have la : acc.toList.length = (hi - lo).toNat := by rw [Array.length_toList]; exact hacc.1
  refine wpAny_bind (wpAny_newList ?_ (by rw [la, sizeLine_eq]; omega))
  have I3 := I2.kept (t' := tk) kp3
  have vals : Vals ((List.range (hi - lo).toNat).map fun i : Nat => V.int (lo + (i : Int))) acc.toList := by
    refine (vals_at ?_ ?_)
    · rw [List.length_map, List.length_range, la]
    · intro i x u hx' hu
      rw [List.getElem?_map] at hx'
      cases e1 : (List.range (hi - lo).toNat)[i]? with
      | none => rw [e1] at hx'; cases hx'
      | some j =>
        rw [e1] at hx'
        have ej : j = i := by
          have := List.getElem?_eq_some_iff.mp e1
          obtain ⟨a, b⟩ := this
          rw [List.getElem_range] at b; exact b.symm
        subst ej
        cases hx'
        obtain ⟨tt, e2⟩ := hacc.2 j u (by rw [← Array.getElem?_toList]; exact hu)
        rw [Int.mul_one] at e2
        exact ⟨tt, e2⟩
  generalize hg3 : (h3.push { cls := .type "list", data := .seq acc.toList.toArray } : Heap) = g
  have hDg : g.get? h3.objs.size = some (seqObj "list" acc.toList.toArray 0) := by rw [← hg3]; exact Heap.get?_push_size _ rfl
  have I4 : Inv X (pins ++ [(fa, kla_obj "<lambda>" (X.env.qual ++ "<lambda>") params body scope cl pm c ctv)]) σ H2 { s2 with heap := g, toks := tk } := I3.kept (t' := tk) fun b o e => by rw [← hg3]; exact Heap.get?_push_of_some _ e
  have fD : FpOk X (pins ++ [(fa, kla_obj "<lambda>" (X.env.qual ++ "<lambda>") params body scope cl pm c ctv)]) H2 h3.objs.size := I3.fpOk (Nat.le_refl _) (I3.hok.fresh (Nat.le_refl _))
  refine wpAny_bind (wpAny_holding (wpAny_call_entry_kw slot_list_sort ⟨_, hDg, rfl⟩ entry_list_sort ?body (ksk_l1 _ _)))
  case body =>
    show wpAny (model X.prog X.w) X.A.in1.in1 (Builtin.«list.sort» ⟨[.ref h3.objs.size], [(Str.ofString "key", .ref fa)]⟩) _ _ _
    rw [ksk_t1]
    refine key_sort (K := K) (sh := sh) I4 hDg fD vals (by rw [la]; exact h64) (by rw [la]; exact kk) (fun i v pins' H' s' hv hsub I' S' => ?_) fun p H' s' c' hp hr' S' hD' J => ⟨_, rfl, ?_⟩
    · have hi' : i < (hi - lo).toNat := by rw [← la]; exact (List.getElem?_eq_some_iff.mp hv).1
      obtain ⟨u', hu', rv⟩ := vals.get (i := i) (x := V.int (lo + (i : Int))) (by rw [List.getElem?_map, List.getElem?_range hi']; rfl)
      rw [hv] at hu'
      cases hu'
      have pf := (I'.pin (fa, kla_obj "<lambda>" (X.env.qual ++ "<lambda>") params body scope cl pm c ctv) (List.mem_append_right _ (hsub _ (List.mem_append_right _ List.mem_cons_self)))).1
      have hcd := (I'.hok c _ (S' _ _ hc)).1
      exact lam_call (te := tb) S I' c1 c2 pf hcd I.ok.frames hA hr.depth (hbind _ _ _ _ _) hx hco hgen (fun s₃ H₃ => ht _ _ _ _ _ s₃ H₃ pins') rv (hbody i H' hi' (kt.same S'))
    · rw [la] at hp hr'
      have J2 : Inv X pins σ _ s' := J.unpinned
      refine wpAny_pure ⟨_, rfl, ⟨.ref h3.objs.size, _, J2, rfl, hend p.toList h3.objs.size _ hp (rise_list hr') ((kt.same S').same ((Same.refl H').new hD')) (kt.here _ fD.1) ?_⟩⟩
      rw [upd_same]
      congr 2
      refine List.map_congr_left fun i hi' => ?_
      have : i < (hi - lo).toNat := List.mem_range.mp ((List.Perm.mem_iff hp).mp hi')
      rw [List.getD_eq_getElem?_getD, List.getElem?_map, List.getElem?_range this]; rfl
end
end L2


set_option Elab.async false
set_option linter.all false
set_option maxRecDepth 100000
set_option maxHeartbeats 4000000
/-! the head, where one def of the text makes a lambda: its table is tracked -/
namespace L2
open PySem PySem.Spec PyProof.Rows PySem.W
theorem noTabs_none {K : Frag} {h : Heap} {P : Addr} {ps : Array Value} (X : K.In h) (hK : noTabs K = true) (hP : h.get? P = some (tabObj ps)) : K.lookup P = none := by
  cases e : K.lookup P with
  | none => rfl
  | some o =>
    have e1 := X P o e
    rw [hP] at e1
    cases e1
    have h2 := List.all_eq_true.mp hK (P, tabObj ps) (mem_of_lookupK e)
    exact absurd (show false = true from h2) Bool.false_ne_true
/-- what the promise of the law's def may use of the def named nm, whose lambda's code is kept in the table at T -/
structure TabAt (base : Heap) (mg : Str → Option Value) (nm : Str) (T : Addr) : Prop where
  fn : ∃ a o fd c, mg nm = some (.ref a) ∧ base.get? a = some o ∧ o.data = .func fd ∧ fd.code = .ref c ∧ CodeHd base c T
  blt : base.BuiltinsAt mg T
inductive Two {α β : Type} (R : α → β → Prop) : List α → List β → Prop
  | nil : Two R [] []
  | cons {a b xs ys} : R a b → Two R xs ys → Two R (a :: xs) (b :: ys)
theorem forall2_imp {α β : Type} {R S : α → β → Prop} (h : ∀ a b, R a b → S a b) : ∀ {xs : List α} {ys : List β}, Two R xs ys → Two S xs ys
  | [], [], _ => .nil
  | _ :: _, _ :: _, .cons a b => .cons (h _ _ a) (forall2_imp h b)
theorem law_callT {P : Program} {w : World} {K : Frag} {mg mb : Str → Option Value} {CX : CXT} {k : Nat} {fa a : Addr} {Ts : List Addr} {nms : List Str} {fd : FuncData} {x : Str} {sp : Sp} {s₁ : Shared} {vs : List Value} {ns : List Int}
    (KX : K.In s₁.heap) (hns : s₁.heap.Ns mainGlobals mg) (hb : s₁.heap.Ns builtinsNs mb) (hbb : ∀ x : Str, x ≠ "__name__" → mb x = bootBuiltins x) (hlim : s₁.heap.NoLimit) (hg : s₁.gens = #[])
    (ha : s₁.heap.get? a = some { cls := .type "list", data := .seq vs.toArray }) (hi : IntsAre vs ns) (hl : ns.length ≤ sizeLine) (hr : Room k callerA)
    (hT : ∀ T ∈ Ts, s₁.heap.get? T = some (tabObj #[])) (hTc : ∀ T ∈ Ts, isCodeTable s₁.heap T) (hTA : Two (TabAt s₁.heap mg) nms Ts) (hnt : noTabs K = true)
    (F : ∀ base : Heap, K.In base → base.Ns mainGlobals mg → Two (TabAt base mg) nms Ts → FnOk P w K mg base CX k fa fd [x] sp) (hbind : ∀ (s : Shared) (u : Value), BindsTo s fd ⟨[u], []⟩ [(x, u)])
    (hsp : ∀ H : Hp, (∀ T ∈ Ts, H T = some (.tbl #[])) → SqL K H a (ns.map V.int) → sp [.ref a] H (fun v _ => v = .bl true) fun _ _ _ => False)
    (hCX : ∀ H e s', CX [] H s₁ (fun _ _ _ => False) e s' → False) :
    codeAny (model P w) callerA (.call (.ref fa) ⟨[.ref a], []⟩) (fun r s' => r = .ok (.ret (.bool true)) ∧ OldK s₁.heap s'.heap ∧ s'.os = s₁.os ∧ AllBare s'.gens) s₁ := by
  have rv := vals_ints hi
  have lenV := hi.length
  have aT : a ∉ Ts := fun e => by rw [hT a e] at ha; cases ha
  have core : ∀ H : Hp, (∀ T ∈ Ts, H T = some (.tbl #[])) → SqL K H a (ns.map V.int) → HOk P w H s₁.heap → (∀ b, H b ≠ none → b = a ∨ b ∈ Ts) → (H a ≠ none → K.lookup a = none) → (∀ u, H a = some u → ∃ xs, u = .frz { cls := .type "list", data := .seq vs.toArray } (.lst xs)) →
      codeAny (model P w) callerA (.call (.ref fa) ⟨[.ref a], []⟩) (fun r s' => r = .ok (.ret (.bool true)) ∧ OldK s₁.heap s'.heap ∧ s'.os = s₁.os ∧ AllBare s'.gens) s₁ := by
    intro H hHT hS hok hA hK hF
    have base_of : ∀ {b : Addr} {o : Obj}, s₁.heap.get? b = some o → H b = none → (hidT s₁.heap H).get? b = some o := fun e n => hidT_get e n
    have free : ∀ {b : Addr} {o : Obj}, s₁.heap.get? b = some o → o.cls ≠ .type "list" → o.cls ≠ .none → H b = none := fun {b o} e c1 c2 => by
      cases q : H b with
      | none => rfl
      | some u =>
        rcases hA b (by rw [q]; simp) with z | z
        · subst z; rw [ha] at e; cases e; exact absurd rfl c1
        · rw [hT b z] at e; cases e; exact absurd rfl c2
    have noA : ∀ {b : Addr} {o : Obj} {es : Array DictEntry} {ep : Nat}, s₁.heap.get? b = some o → o.data = .dict es ep → H b = none := fun {b o es ep} e d => by
      cases q : H b with
      | none => rfl
      | some u =>
        rcases hA b (by rw [q]; simp) with z | z
        · subst z; rw [ha] at e; cases e; cases d
        · rw [hT b z] at e; cases e; cases d
    have nsK : ∀ {b : Addr} {m : Str → Option Value}, s₁.heap.Ns b m → (hidT s₁.heap H).Ns b m := fun {b m} ⟨o, es, ep, e, d, r⟩ => ⟨o, es, ep, base_of e (noA e d), d, r⟩
    have hKb : K.In (hidT s₁.heap H) := fun b o e => base_of (KX b o e) (by
      cases q : H b with
      | none => rfl
      | some u =>
        rcases hA b (by rw [q]; simp) with z | z
        · subst z; rw [hK (by rw [q]; simp)] at e; cases e
        · rw [noTabs_none KX hnt (hT b z)] at e; cases e)
    have hM : Mod K mg (hidT s₁.heap H) := ⟨hKb, nsK hns, ⟨mb, nsK hb, hbb⟩, let ⟨mc, h1, h2⟩ := hlim; ⟨mc, nsK h1, h2⟩⟩
    have hTb : Two (TabAt (hidT s₁.heap H) mg) nms Ts := forall2_imp (fun nm T hTA => by
      obtain ⟨⟨f, o, fd', c, e1, e2, e3, e4, o5, vs5, file, tf, flags, tg, inF, text, tt, f1, f2, r5⟩, bm, ob, b1, b2, b3, b4, b5, b6, b7⟩ := hTA
      refine ⟨⟨f, o, fd', c, e1, base_of e2 ?_, e3, e4, o5, vs5, file, tf, flags, tg, inF, text, tt, base_of f1 (free f1 (by rw [f2]; intro z; exact absurd (Value.type.inj z) (by decide)) (by rw [f2]; intro z; cases z)), f2, r5⟩, bm, ob, b1, b2, b3, b4, base_of b5 (free b5 (by rw [b6]; intro z; exact absurd (Value.type.inj z) (by decide)) (by rw [b6]; intro z; cases z)), b6, b7⟩
      cases q : H f with
      | none => rfl
      | some u =>
        rcases hA f (by rw [q]; simp) with z | z
        · subst z; rw [ha] at e2; cases e2; cases e3
        · rw [hT f z] at e2; cases e2; cases e3) hTA
    have e0 : Env0 P w K mg (hidT s₁.heap H) callerA [] s₁ H := ⟨rfl, hM, fun b o e => of_hidT e, Nat.le_of_eq (hidT_size _ _), trivial, fun b hb => absurd (show b ∈ ([] : List Addr) from hb) (by simp), hok, .of_eq hg⟩
    refine codeAny_mono ((F _ hKb (nsK hns) hTb).run callerA [] s₁ H ⟨[.ref a], []⟩ [.ref a] [.ref a] _ _ hr e0 (hbind s₁ (.ref a)) (.cons rfl .nil) (hsp H hHT hS)) fun r s' h => ?_
    cases r with
    | error e => exact (hCX H e s' h).elim
    | ok fl =>
      cases fl with
      | next => exact False.elim h
      | brk => exact False.elim h
      | cont => exact False.elim h
      | ret u =>
        obtain ⟨v, H', os, bare, un, hok', r', q⟩ := h
        have q' : v = .bl true := q
        subst q'
        obtain rfl : u = Value.bool true := r'
        have kept : ∀ b o, b ∉ Ts → s₁.heap.get? b = some o → s'.heap.get? b = some o := fun b o hbT e => by
          cases q : H b with
          | none => exact un.keep b o e q (by intro z; exact absurd (show b ∈ ([] : List Addr) from z) (by simp)) (by simp)
          | some u =>
            rcases hA b (by rw [q]; simp) with z | z
            · subst z
              obtain ⟨xs, z⟩ := hF u q
              subst z
              obtain ⟨e2, _⟩ := hok' b _ (un.frzs b _ _ q)
              rw [ha] at e; cases e
              exact e2
            · exact absurd z hbT
        have hT' : ∀ T ∈ Ts, ∃ more, s'.heap.get? T = some (tabObj (#[] ++ more)) := fun T hTm => by
          obtain ⟨more, eT⟩ := un.tbls T _ (hHT T hTm)
          exact ⟨more, hok' T _ eT⟩
        refine ⟨rfl, ⟨fun b o e => ?_, fun b o e => ?_⟩, os, bare⟩
        · by_cases z : b ∈ Ts
          · rw [hT b z] at e; cases e
            obtain ⟨more, hT''⟩ := hT' b z
            exact .inr (.inl ⟨hTc b z, rfl, #[], more, rfl, hT''⟩)
          · exact .inl (kept b o z e)
        · by_cases z : b ∈ Ts
          · obtain ⟨more, hT''⟩ := hT' b z
            exact ⟨_, hT''⟩
          · exact ⟨o, kept b o z e⟩
  cases hk : K.lookup a with
  | some o =>
    have e := KX a o hk
    rw [ha] at e
    cases e
    refine core (fun b => if b ∈ Ts then some (.tbl #[]) else none) (fun T hTm => if_pos hTm) (.inr ⟨_, vs.toArray, _, hk, rfl, rfl, rfl, by rw [List.size_toArray, lenV]; exact hl, by simpa using rv⟩) (fun b u z => ?_) (fun b z => ?_) (fun z => absurd (if_neg aT) z) (fun u z => by rw [if_neg aT] at z; cases z)
    · dsimp only at z
      by_cases hb : b ∈ Ts
      · rw [if_pos hb] at z; cases z; exact hT b hb
      · rw [if_neg hb] at z; cases z
    · by_cases hb : b ∈ Ts
      · exact .inr hb
      · exact absurd (if_neg hb) z
  | none =>
    refine core (fun b => if b ∈ Ts then some (.tbl #[]) else if b = a then some (.frz { cls := .type "list", data := .seq vs.toArray } (.lst (ns.map V.int))) else none) (fun T hTm => if_pos hTm)
      (.inl (.inr ⟨{ cls := .type "list", data := .seq vs.toArray }, by show (if a ∈ Ts then _ else _) = _; rw [if_neg aT, if_pos rfl]⟩)) (fun b u z => ?_) (fun b z => ?_) (fun _ => hk) (fun u z => ?_)
    · dsimp only at z
      by_cases hb : b ∈ Ts
      · rw [if_pos hb] at z; cases z; exact hT b hb
      · rw [if_neg hb] at z
        by_cases hb2 : b = a
        · rw [if_pos hb2] at z; cases z; subst hb2
          exact ⟨ha, by rw [List.length_map]; exact hl, vs, _, rv, ha⟩
        · rw [if_neg hb2] at z; cases z
    · by_cases hb : b ∈ Ts
      · exact .inr hb
      · by_cases hb2 : b = a
        · exact .inl hb2
        · exact absurd (show (if b ∈ Ts then _ else if b = a then _ else none) = none by rw [if_neg hb, if_neg hb2]) z
    · have z' : (if a ∈ Ts then some (HO.tbl #[]) else if a = a then some (.frz { cls := .type "list", data := .seq vs.toArray } (.lst (ns.map V.int))) else none) = some u := z
      rw [if_neg aT, if_pos rfl] at z'
      cases z'
      exact ⟨_, rfl⟩
theorem walk_ofT {l : PySem.W.OpenLaw} {n k : Nat} {q : Program} {loose : List Str} {XP : (Str → Option Value) → Heap → Prop} {YP : World → Heap → Prop} {d : DefRec} {dns : List DefRec} {K : Params → PySem.W.Frag} {CX : CXT} {sp : List Addr → PySem.W.Frag → Sp} {x : Str} {nms : List Str}
    (hn : l.most = some n) (hn2 : n ≤ sizeLine) (hdf : d.params.defaults = []) (hr : Room k callerA)
    (hY : ∀ (w : World) (h : Heap), YP w h → (K w.params).In h) (hfind : Two (fun nm dn => (recsOf q).find? (fun e => e.name == nm) = some dn) nms dns) (hnt : ∀ w : World, noTabs (K w.params) = true)
    (F : ∀ (w : World) (mg : Str → Option Value) (fa : Addr) (h : Heap), (K w.params).In h → h.Ns mainGlobals mg → mg d.name = some (.ref fa) →
      ∃ fd : FuncData, (∀ (s : Shared) (u : Value), BindsTo s fd ⟨[u], []⟩ [(x, u)]) ∧
        ∀ (Ts : List Addr) (base : Heap), (K w.params).In base → base.Ns mainGlobals mg → Two (TabAt base mg) nms Ts → FnOk l.prog w (K w.params) mg base CX k fa fd [x] (sp Ts (K w.params)))
    (hsp : ∀ (K : PySem.W.Frag) (Ts : List Addr) (H : Hp) (a : Addr) (ns : List Int), ns.length ≤ n → Ts.length = nms.length → (∀ T ∈ Ts, H T = some (.tbl #[])) → SqL K H a (ns.map V.int) → sp Ts K [.ref a] H (fun v _ => v = .bl true) fun _ _ _ => False)
    (hCX : ∀ (H : Hp) (s : Shared) (e : Value) (s' : Shared), CX [] H s (fun _ _ _ => False) e s' → False) :
    PySem.W.WalkO q loose XP YP l.row.toRowW d [] (fun f vs => PySem.call f vs) := by
  refine Att.attach_call hn hdf fun w s₀ s₁ mg mb fa o pm cd doc a vs ns G Y ho hd hcd hmg hobj hints hlen hg => ?_
  have KX := hY w _ Y
  obtain ⟨fd, hb, hF⟩ := F w mg fa _ KX G.T.g hmg
  have all : ∀ {nms : List Str} {dns : List DefRec}, Two (fun nm dn => (recsOf q).find? (fun e => e.name == nm) = some dn) nms dns → ∃ Ts : List Addr, Two (TabAt s₁.heap mg) nms Ts ∧ Ts.length = nms.length ∧ (∀ T ∈ Ts, s₁.heap.get? T = some (tabObj #[])) ∧ ∀ T ∈ Ts, isCodeTable s₁.heap T := by
    intro nms dns hf
    induction hf with
    | nil => exact ⟨[], .nil, rfl, fun T h => (by simp at h), fun T h => (by simp at h)⟩
    | @cons nm dn _ _ hfind _ ih =>
      obtain ⟨Ts, i1, i2, i3, i4⟩ := ih
      have en : dn.name = nm := beq_iff_eq.mp (List.find?_some (p := fun e : DefRec => e.name == nm) hfind)
      obtain ⟨f, o', fd', c, T, t1, t2, t3, t4, t5, t6⟩ := G.T.tab dn (List.mem_of_find?_eq_some hfind)
      rw [en] at t1
      obtain ⟨bm, ob, b1, b2, b3, b4, b5, b6⟩ := G.T.bmain
      have hbP : bm ≠ T := fun q => by
        have e := b3
        rw [q, t6.2] at e; cases e; cases b4
      have hbG : bm ≠ mainGlobals := fun q => by
        obtain ⟨o, es, ep, e, hd, _⟩ := G.T.g
        rw [q, e] at b3; cases b3; rw [hd] at b6; cases b6
      refine ⟨T :: Ts, .cons ⟨⟨f, o', fd', c, t1, t2, t3, t4, CodeHd.of t5 t6⟩, bm, ob, b1, b2, hbG, hbP, b3, b4, b5, b6⟩ i1, by simp [i2], fun T' h => ?_, fun T' h => ?_⟩
      · rcases List.mem_cons.mp h with z | z
        · rw [z]; exact t6.2
        · exact i3 T' z
      · rcases List.mem_cons.mp h with z | z
        · rw [z]; exact t6.isCodeTable
        · exact i4 T' z
  obtain ⟨Ts, i1, i2, i3, i4⟩ := all hfind
  exact law_callT (nms := nms) (Ts := Ts) KX G.T.g G.T.b G.T.builtins G.T.nolimit hg hobj hints (Nat.le_trans hlen hn2) hr i3 i4 i1 (hnt w)
    (fun base h1 h2 h3 => hF Ts base h1 h2 h3) hb (fun H hH hS => hsp (K w.params) Ts H a ns hlen i2 hH hS) fun H e s' => hCX H s₁ e s'
end L2
namespace L2
open PySem PySem.Spec PyProof.Rows PySem.W
/-- a def that makes a lambda: its code object and the table -/
theorem Df.hasT {P : Program} {w : World} {K : PySem.W.Frag} {mg : Str → Option Value} {base : Heap} {T : Addr} {x : Str} {st : Stmt} {N ps : List Str} {k : Nat} {sp : Sp} (D : Df K mg x st) (kb : K.In base) (TA : TabAt base mg x T) (S : FnScope N ps (defScope st))
    (hb : ∀ (kV doc pm : Value) (an : Option Addr) (cdv ct : Value) (us : List Value), us.length = ps.length → bindArgs (PySem.W.fnOf x x (defArgs st) (defBody st) (defScope st) .none kV doc pm an cdv ct) ⟨us, []⟩ = pure (ps.zip us))
    (len : ∀ vs H Q E, sp vs H Q E → vs.length = ps.length)
    (hbody : ∀ (f c : Addr) (A : Around) (outer : List Env) (s : Shared) (H : Hp) (vs : List V) (Q : VK) (E : XK), CodeHd base c T → Room k (A.deeper (envOfC x (defScope st) s.heap.objs.size f (.ref c))) → sp vs H Q E →
      ∃ t, PSs (cxOf CX0 P w K mg base N x (defScope st) f (.ref c) A outer s H E).nox (defBody st) t ∧ t { nx := fun _ H' => Q .non H', rt := Q } (start N vs) H) : Has P w K mg base x (k + 1) ps sp := by
  obtain ⟨f, fd, F, m⟩ := D
  have bd := F.binds hb
  have kp := F.kp
  obtain ⟨oc, od, kV, doc, pm, an, cdv, ct, osl, e, lk, hcd⟩ := F.ex
  obtain ⟨a, o, fd', c, t1, t2, t3, t4, t5⟩ := TA.fn
  have ea := m.symm.trans t1
  cases ea
  have eo := kb f _ lk
  rw [t2] at eo
  cases eo
  cases t3
  subst e
  have ec : cdv = .ref c := t4
  subst ec
  refine ⟨f, _, fn_of lk hcd S len fun A outer s H vs Q E hr hsp => ?_, bd, kp, m⟩
  obtain ⟨t, h, q⟩ := hbody f c A outer s H vs Q E t5 hr hsp
  exact ⟨t, h.nox, q⟩
theorem ix_listK {X : Cx} (K : PySem.W.Frag) (hK : X.K = K := by rfl) : IxR X (rIxL K) := by
  subst hK; exact ix_list
theorem call_isinstK {X : Cx} (K : PySem.W.Frag) (hK : X.K = K := by rfl) : CallR X (.builtin "isinstance") (fun vs H Q => ∃ x t T b, vs = [x, V.ty T] ∧ TyOf K H x t ∧ PySem.W.kitOne K t (Value.type T) = some b ∧ Q (V.bl b) H) := by
  subst hK; exact call_isinst
/-- two rising arrangements of one thing are one -/
theorem rise_one {n : Nat} {K : Nat → List V} {sh : List Nat} (k : Keys n K sh) {p q : List Nat} (hp : p.Perm (List.range n)) (hq : q.Perm (List.range n)) (rp : ∀ i j, i < j → j < n → lexV (K (p.getD j 0)) (K (p.getD i 0)) = false)
    (rq : ∀ i j, i < j → j < n → lexV (K (q.getD j 0)) (K (q.getD i 0)) = false) : p = q := by
  have pw : ∀ {r : List Nat}, r.Perm (List.range n) → (∀ i j, i < j → j < n → lexV (K (r.getD j 0)) (K (r.getD i 0)) = false) → r.Pairwise (fun a b => lexV (K b) (K a) = false) := fun {r} hr h => by
    have ln : r.length = n := by have := hr.length_eq; simpa using this
    rw [List.pairwise_iff_getElem]
    intro i j hi hj hij
    have := h i j hij (by omega)
    rw [List.getD_eq_getElem?_getD, List.getD_eq_getElem?_getD, List.getElem?_eq_getElem hi, List.getElem?_eq_getElem hj] at this
    exact this
  refine (hp.trans hq.symm).eq_of_pairwise (fun a b ha hb h1 h2 => ?_) (pw hp rp) (pw hq rq)
  exact k.inj a b (List.mem_range.mp (hp.mem_iff.mp ha)) (List.mem_range.mp (hq.mem_iff.mp hb)) (lexV_tot _ _ ((k.shp a).trans (k.shp b).symm) (by rw [k.shp]; exact k.z) h2 h1)
end L2


set_option Elab.async false
set_option linter.all false
set_option maxRecDepth 100000
set_option maxHeartbeats 4000000
/-! repr of a list of whole numbers -/
namespace L2
open PySem PySem.Spec PyProof.Rows PySem.W
theorem reads_ints (h : Heap) : ∀ {us : List Value} {ns : List Int}, IntsAre us ns → ReadsAll h us (ns.map .int) []
  | _, _, .nil => .nil
  | _, _, .cons n t r => ReadsAll.cons (as := []) (bs := []) (.int n t) (reads_ints h r)
theorem ints_showable {ns : List Int} (h : ∀ n ∈ ns, n.natAbs < 10 ^ 12) : PyData.showable (.list (ns.map .int)) = true := by
  simp only [PyData.showable]
  refine PyData.showableAll_ints ns fun n hn => ?_
  rcases Nat.eq_zero_or_pos n.natAbs with z | z
  · rw [z]; decide
  · exact (Nat.log2_lt (by omega)).mpr (Nat.lt_of_lt_of_le (Nat.lt_trans (h n hn) (show 10 ^ 12 < 2 ^ 40 by decide)) (Nat.pow_le_pow_right (by decide) (by decide)))
theorem dh_ints : ∀ ns : List Int, PyData.hasDictAll (ns.map .int) = false
  | [] => rfl
  | n :: r => by simp only [List.map_cons, PyData.hasDictAll, PyData.hasDict, dh_ints r, Bool.or_false]
section
variable {X : Cx} {k : Nat}
theorem bt_repr : bootBuiltins "repr" = some (.builtin "repr") := by kernel_rfl
theorem ix_tupK (K : PySem.W.Frag) (hK : X.K = K := by rfl) : IxR X (rIxT K) := by
  subst hK; exact ix_tup
end
end L2
namespace L2
open PySem PySem.Spec PyProof.Rows PySem.W
theorem SqL.keepS {K : PySem.W.Frag} {H H1 : Hp} {q : Addr} {xs : List V} (h : SqL K H q xs) (s : Same H H1) : SqL K H1 q xs := by
  rcases h with (h | ⟨ob, h⟩) | h
  · exact .inl (.inl (s _ _ h))
  · exact .inl (.inr ⟨ob, s _ _ h⟩)
  · exact .inr h
end L2


set_option Elab.async false
set_option linter.all false
set_option maxRecDepth 100000
set_option maxHeartbeats 4000000
/-! repr of a tree (a tuple of whole numbers and a text), of rows (a text, two tuples of truths) -/
namespace L2
open PySem PySem.Spec PyProof.Rows PySem.W
def treeText (ns : List Int) (lab : Str) : Str := PyData.shown (.tuple [.tuple (ns.map .int), .str lab])
theorem leaves_ints : ∀ ns : List Int, (∀ n ∈ ns, n.natAbs < 10 ^ 12) → PyData.leavesShortAll 13 (ns.map .int) = true
  | [], _ => rfl
  | n :: r, h => by
    simp only [List.map_cons, PyData.leavesShortAll, PyData.leavesShort, Bool.and_eq_true, decide_eq_true_eq]
    exact ⟨PyData.shown_int_le (h n List.mem_cons_self), leaves_ints r fun m hm => h m (List.mem_cons_of_mem _ hm)⟩
theorem leaves_low {lab : Str} (h : ∀ c ∈ lab.cps.toList, c < 1000) : PyData.leavesShort 13 (.str lab) = true := by
  simp only [PyData.leavesShort, List.all_eq_true, decide_eq_true_eq]
  exact fun c hc => Nat.lt_trans (h c hc) (by decide)
theorem weight_ints : ∀ ns : List Int, (∀ n ∈ ns, n.natAbs < 10 ^ 12) → PyData.weightAll (ns.map .int) ≤ 42 * ns.length
  | [], _ => by simp [PyData.weightAll]
  | n :: r, h => by
    have a := weight_ints r fun m hm => h m (List.mem_cons_of_mem _ hm)
    have b : PyData.weight (.int n) ≤ 41 := by
      simp only [PyData.weight]
      split
      · omega
      · rename_i z
        have nz : n.natAbs ≠ 0 := fun e => z (by rw [Int.natAbs_eq_zero.mp e]; rfl)
        have := (Nat.log2_lt nz (k := 40)).mpr (Nat.lt_trans (h n List.mem_cons_self) (by decide))
        omega
    simp only [List.map_cons, PyData.weightAll, List.length_cons]
    omega
section
variable {X : Cx} {k : Nat}
theorem call_repr_tree (hr : Room k X.A) : CallR X (.builtin "repr") (fun xs H Q => ∃ t u ns lab, xs = [.ref t] ∧ SqT X.K H t [.ref u, .str lab] ∧ SqT X.K H u (ns.map V.int) ∧ (∀ n ∈ ns, n.natAbs < 10 ^ 12) ∧ ns.length ≤ 1000 ∧
    (∀ c ∈ lab.cps.toList, c < 1000) ∧ lab.cps.toList.length ≤ 1000 ∧ Q (.str (treeText ns lab)) H) := by
  intro pins s σ H xs us Q I r h
  obtain ⟨t, u, ns, lab, rfl, ht, hu, hn, hl, lc, ll, q⟩ := h
  obtain ⟨v, rfl, rx⟩ := vals1 r
  cases rx
  obtain ⟨its, r1, p1, _⟩ := I.tuple ht
  obtain ⟨its2, r2, p2, _⟩ := I.tuple hu
  obtain ⟨o, e1, e2, m, e4⟩ := p1
  obtain ⟨o', f1, f2, m', f4⟩ := p2
  obtain ⟨a, b, rfl, ra, rb⟩ := vals2 r1
  cases (show a = Value.ref u from ra)
  obtain ⟨tk0, rfl⟩ := rb
  have rd : Reads s.heap (.ref t) (.tuple [.tuple (ns.map .int), .str lab]) [] :=
    .tuple e1 e2 e4 (ReadsAll.cons (as := []) (bs := []) (.tuple f1 f2 f4 (reads_ints _ (intsAre_of r2))) (ReadsAll.cons (as := []) (bs := []) (.str lab tk0) .nil))
  have un := hr.un
  have sh : PyData.showable (.tuple [.tuple (ns.map .int), .str lab]) = true := by
    have := ints_showable hn
    simp only [PyData.showable] at this
    simp only [PyData.showable, PyData.showableAll, this, Bool.and_self]
  have dh : PyData.hasDict (.tuple [.tuple (ns.map .int), .str lab]) = false := by
    simp only [PyData.hasDict, PyData.hasDictAll, dh_ints, Bool.or_false]
  have sz : (PyData.shown (.tuple [.tuple (ns.map .int), .str lab])).length ≤ sizeLine := by
    refine PyData.shown_fits (B := 13) (by decide) (by decide) ?_ ?_
    · have := leaves_low lc
      simp only [PyData.leavesShort] at this
      simp only [PyData.leavesShort, PyData.leavesShortAll, leaves_ints ns hn, this, Bool.and_self]
    · have a := weight_ints ns hn
      have e : lab.cps.size ≤ 1000 := by rw [← Array.length_toList]; exact ll
      have e20 : (2 : Nat) ^ 20 = 1048576 := by decide
      simp only [PyData.weight, PyData.weightAll]
      omega
  refine repr_of_reads' rd sh (fun z => by rw [dh] at z; cases z) hr.gd ?_ (fun _ _ e => e) (fun h' u tk hk => ?_) sz
  · simp only [PyData.depth, PyData.depthAll, PyProof.Rows.depthAll_ints]; omega
  · exact ⟨.str (treeText ns lab), H, I.kept (t' := tk) hk, ⟨u, rfl⟩, q⟩
end
end L2


set_option Elab.async false
set_option linter.all false
set_option maxRecDepth 100000
set_option maxHeartbeats 4000000
/-! list(range(..)) -/
namespace L2
open PySem PySem.Spec PyProof.Rows PySem.W
section
variable {X : Cx}
abbrev rngV (lo : Int) (n : Nat) : List V := (List.range n).map fun i : Nat => V.int (lo + (i : Int))
theorem rng_vals {lo : Int} {n : Nat} {acc : Array Value} (hacc : ItemsOf (fun i v => ∃ t, v = .int (lo + i * 1) t) acc n) : Vals (rngV lo n) acc.toList := by
  have la : acc.toList.length = n := by rw [Array.length_toList]; exact hacc.1
  refine vals_at (by rw [List.length_map, List.length_range, la]) ?_
  intro i x u hx' hu
  rw [List.getElem?_map] at hx'
  cases e1 : (List.range n)[i]? with
  | none => rw [e1] at hx'; cases hx'
  | some j =>
    rw [e1] at hx'
    have ej : j = i := by
      obtain ⟨a, b⟩ := List.getElem?_eq_some_iff.mp e1
      rw [List.getElem_range] at b; exact b.symm
    subst ej
    cases hx'
    obtain ⟨tt, e2⟩ := hacc.2 j u (by rw [← Array.getElem?_toList]; exact hu)
    rw [Int.mul_one] at e2
    exact ⟨tt, e2⟩
end
end L2


set_option Elab.async false
set_option linter.all false
set_option maxRecDepth 100000
set_option maxHeartbeats 4000000
/-! sets of texts -/
namespace L2
open PySem PySem.Spec PyProof.Rows PySem.W
def keyOf (e : Int × Value) : Str := match e.2 with | .str x _ => x | _ => Str.empty
/-- the entries and the table of a set of the texts S -/
structure SetS (w : World) (led : Bool) (es : Array (Int × Value)) (t : SetTable) (S : List Str) : Prop where
  ent : ∀ e ∈ es.toList, ∃ x tk, e = (hashStr w x, Value.str x tk)
  nd : (es.toList.map keyOf).Nodup
  mem : ∀ x, x ∈ es.toList.map keyOf ↔ x ∈ S
  fit : t.fits es.size = true
  led : t.led = led
  pl : es.size = 0 ∨ t.plain = false
theorem keyOf_perm {a b : List (Int × Value)} (p : a.Perm b) : (a.map keyOf).Perm (b.map keyOf) := p.map _
theorem SetS.grow {w : World} {led : Bool} {es es' : Array (Int × Value)} {t t' : SetTable} {S : List Str} {x : Str} {tk : Tok} (h : SetS w led es t S) (nx : x ∉ S) (p : es'.toList.Perm (es.push (hashStr w x, .str x tk)).toList) (f : t'.fits es'.size = true) (l : t'.led = led) (q : t'.plain = false) : SetS w led es' t' (S ++ [x]) where
  ent := fun e he => by
    have := p.mem_iff.mp he
    rw [Array.toList_push] at this
    rcases List.mem_append.mp this with z | z
    · exact h.ent e z
    · exact ⟨x, tk, List.mem_singleton.mp z⟩
  nd := by
    rw [(keyOf_perm p).nodup_iff, Array.toList_push, List.map_append, List.nodup_append]
    refine ⟨h.nd, by simp, fun a ha b hb => ?_⟩
    have hb' : b = x := by simpa [keyOf] using hb
    subst hb'
    exact fun e => nx (by rw [← e]; exact (h.mem a).mp ha)
  mem := fun y => by
    rw [(keyOf_perm p).mem_iff, Array.toList_push, List.map_append, List.mem_append, List.mem_append, h.mem y]
    simp [keyOf]
  fit := f
  led := l
  pl := .inr q
/-- a set of texts stands at a -/
structure SetA (w : World) (led : Bool) (h : Heap) (a : Addr) (S : List Str) (n : Nat) : Prop where
  ex : ∃ es ep t, h.get? a = some { cls := .type "set", data := .set es ep t } ∧ SetS w led es t S ∧ es.size ≤ n
section
variable {prog : Program} {w : World} {A : Around} {E : Value → Shared → Prop} {s : Shared}
end
end L2


set_option Elab.async false
set_option linter.all false
set_option maxRecDepth 100000
set_option maxHeartbeats 4000000
/-! set(a list of texts) -/
namespace L2
open PySem PySem.Spec PyProof.Rows PySem.W
section
variable {prog : Program} {w : World} {A : Around} {E : Value → Shared → Prop} {s : Shared}
theorem SetA.keeps {led : Bool} {h h' : Heap} {a : Addr} {S : List Str} {n : Nat} (x : SetA w led h a S n) (k : ∀ o, h.get? a = some o → h'.get? a = some o) : SetA w led h' a S n := by
  obtain ⟨es, ep, t, e, r⟩ := x
  exact ⟨es, ep, t, k _ e, r⟩
theorem SetA.start {h : Heap} {a : Addr} {led : Bool} (e : h.get? a = some { cls := .type "set", data := .set #[] 0 (SetTable.fresh 0 0 led) }) : SetA w led h a [] 0 :=
  ⟨#[], 0, _, e, ⟨fun x hx => by simp at hx, by simp, fun x => by simp, by rfl, rfl, .inl rfl⟩, Nat.le_refl _⟩
theorem SetA.typeIs {led : Bool} {a : Addr} {S : List Str} {n : Nat} (x : SetA w led s.heap a S n) : s.TypeIs (.ref a) "set" := by
  obtain ⟨es, ep, t, e, r⟩ := x
  exact ⟨_, e, rfl⟩
end
end L2


set_option Elab.async false
set_option linter.all false
set_option maxRecDepth 100000
set_option maxHeartbeats 4000000
/-! set(a list of texts): the call -/
namespace L2
open PySem PySem.Spec PyProof.Rows PySem.W
section
variable {prog : Program} {w : World} {A : Around} {E : Value → Shared → Prop} {s : Shared}
end
end L2


set_option Elab.async false
set_option linter.all false
set_option maxRecDepth 100000
set_option maxHeartbeats 4000000
/-! a set of texts is walked: in some order -/
namespace L2
open PySem PySem.Spec PyProof.Rows PySem.W
section
variable {prog : Program} {w : World} {A : Around} {E : Value → Shared → Prop}
variable {s : Shared}
end
end L2


set_option Elab.async false
set_option linter.all false
set_option maxRecDepth 100000
set_option maxHeartbeats 4000000
/-! a set of texts as a list, sorted -/
namespace L2
open PySem PySem.Spec PyProof.Rows PySem.W
section
variable {prog : Program} {w : World} {A : Around}
end
end L2


set_option Elab.async false
set_option linter.all false
set_option maxRecDepth 100000
set_option maxHeartbeats 4000000
/-! a set of texts as a list; sorted(set(a list of texts)) -/
namespace L2
open PySem PySem.Spec PyProof.Rows PySem.W
section
variable {prog : Program} {w : World} {A : Around} {E : Value → Shared → Prop} {s : Shared}
end
end L2


set_option Elab.async false
set_option linter.all false
set_option maxRecDepth 100000
set_option maxHeartbeats 4000000
/-! a set of texts as a list -/
namespace L2
open PySem PySem.Spec PyProof.Rows PySem.W
section
variable {prog : Program} {w : World} {A : Around} {E : Value → Shared → Prop} {s : Shared}
end
end L2


set_option Elab.async false
set_option linter.all false
set_option maxRecDepth 100000
set_option maxHeartbeats 4000000
/-! sorted(set(e)), e a list of texts; x.index(y) of a list of texts -/
namespace L2
open PySem PySem.Spec PyProof.Rows PySem.W
theorem Inv.drawn {X : Cx} {pins : List (Addr × Obj)} {σ : St} {H : Hp} {s : Shared} (I : Inv X pins σ H s) (d : Drawn) : Inv X pins σ H { s with drawn := d } :=
  ⟨I.ok, I.os, I.bare, I.base, I.loc, I.cell, I.free, I.freeC, I.pin, I.hok, I.len⟩
section
variable {X : Cx} {a : Expr} {ta : TA} {p p2 pos pos2 : Pos}
end
end L2


set_option Elab.async false
set_option linter.all false
set_option maxRecDepth 100000
set_option maxHeartbeats 4000000
/-! t.index(x) of a tuple of whole numbers; len(set(e)) -/
namespace L2
open PySem PySem.Spec PyProof.Rows PySem.W
open AutoSeq1 (wpAny_loadPart')
open MeetsSeq MeetsSeq2 MeetsSeq3 SeqRoads2 SeqAt
section
variable {X : Cx} {o e : Expr} {es : List Expr} {to : TE} {t : TA} {name : Str} {apos cpos : Pos} {id : String} {r : V → List V → Hp → VK → Prop}
def tTM (r : V → List V → Hp → VK → Prop) (to : TE) (t : TA) : TE := fun σ H Q => to σ H fun x H1 => (∃ p xs, x = .ref p ∧ H1 p = some (.tup xs)) ∧ t σ H1 fun xs H2 => r x xs H2 Q
theorem pe_tm (slot : Slot "tuple" name id) (hty : typeOf (.builtin id) = pure (.type "method_descriptor")) (hm : MtM X id r) (ho : PE X o to) (ha : PA X (e :: es) t)
    (hbase : attributeBase o name X.env (eval o X.env) = eval o X.env := by rfl)
    (hfew : ((backTo cpos (starEach (e :: es) X.env)).all (fun x => !x.1) && (backToKw cpos (keywordEach [] X.env)).all (fun x => x.1.isSome)
      && decide ((e :: es).length + ([] : List Keyword).length + (if ([] : List Keyword).isEmpty then 0 else 1) < 30)) = true := by rfl)
    (hline : (apos.endLine == cpos.line) = true := by rfl) (hs : starEach (e :: es) X.env = (false, eval e X.env) :: starEach es X.env := by rfl) (hplain : (backTo cpos (starEach es X.env)).any (·.1) = false := by rfl) :
    PE X (.Call (.Attribute o name apos) (e :: es) [] cpos) (tTM r to t) := by
  intro pins s σ H Q I h
  refine wpAny_Call_method_late hbase hfew hline rfl (thn (ho pins s σ H _ I h) fun v s1 ⟨x, H1, I1, r1, ty, q1⟩ => ?_)
  obtain ⟨p, xs, rfl, hp⟩ := ty
  cases (show v = Value.ref p from r1)
  obtain ⟨⟨_, od, oe, oz⟩, _, _, ⟨o2, e2, c2, _⟩⟩ := (show ObjOk X.prog X.w H1 s1.heap p (.tup xs) from I1.hok p _ hp)
  refine ⟨"tuple", id, F.plainAttrs_tuple, slot, hty, ⟨o2, e2, c2⟩, (fun a e => by cases e; exact ⟨od, oe, oz⟩), ?_⟩
  have hA := ha cpos pins s1 σ H1 _ I1 q1
  rw [hs] at hA ⊢
  refine Calls.callWith_builtin (by show (false || (backTo cpos (starEach es X.env)).any (·.1)) = false; rw [hplain] <;> rfl) (Calls.evalArgs_plain ?_)
  exact thn hA fun us s2 ⟨vs, H2, I2, r2, q2⟩ => hm pins s2 σ H2 (.ref p) vs (.ref p) us Q I2 rfl r2 q2
end
section
variable {X : Cx} {a : Expr} {ta : TA} {p p2 pos pos2 : Pos}
end
end L2


set_option Elab.async false
set_option linter.all false
set_option maxRecDepth 100000
set_option maxHeartbeats 4000000
namespace L2
open PySem PySem.Spec PyProof.Rows
/-! ### lists of pairs as tables -/
section
variable {κ : Type} [DecidableEq κ]
def valV (kvs : List (κ × V)) (k : κ) : Option V := (kvs.find? fun kv => decide (kv.1 = k)).map (·.2)
/-- in its place, or at the end -/
def putK (kvs : List (κ × V)) (k : κ) (v : V) : List (κ × V) :=
  if (kvs.any fun kv => decide (kv.1 = k)) = true then kvs.map (fun kv => if kv.1 = k then (kv.1, v) else kv) else kvs ++ [(k, v)]
def dropK (kvs : List (κ × V)) (k : κ) : List (κ × V) := kvs.filter fun kv => decide (kv.1 ≠ k)

theorem valV_pos {p : κ × V} {r : List (κ × V)} {k : κ} (e : p.1 = k) : valV (p :: r) k = some p.2 := by simp [valV, List.find?_cons, e]
theorem valV_neg {p : κ × V} {r : List (κ × V)} {k : κ} (e : ¬ p.1 = k) : valV (p :: r) k = valV r k := by simp [valV, List.find?_cons, e]
theorem RelO.getD {o : Option V} {u : Option Value} {d : V} {d' : Value} (r : RelO o u) (rd : RelV d d') : RelV (o.getD d) (u.getD d') := by
  cases o with
  | none => cases u with
    | none => exact rd
    | some _ => exact (show False from r).elim
  | some _ => cases u with
    | none => exact (show False from r).elim
    | some _ => exact r

/-- raw tables of the same keys -/
theorem KV.val {kvs : List (κ × V)} {vs : List (κ × Value)} (r : KV kvs vs) (k : κ) : RelO (valV kvs k) (valueAt vs k) := by
  unfold KV at r
  induction r with
  | nil => exact True.intro
  | @cons p q ps qs h t ih =>
    obtain ⟨h1, h2⟩ := h
    by_cases e : p.1 = k
    · have e' : q.1 = k := h1.symm.trans e
      have b : valueAt (q :: qs) k = some q.2 := by simp [valueAt, List.find?_cons, e']
      rw [valV_pos e, b]; exact h2
    · have e' : ¬ q.1 = k := fun z => e (h1.trans z)
      have b : valueAt (q :: qs) k = valueAt qs k := by simp [valueAt, List.find?_cons, e']
      rw [valV_neg e, b]; exact ih
theorem KV.any {kvs : List (κ × V)} {vs : List (κ × Value)} (r : KV kvs vs) (k : κ) : (kvs.any fun kv => decide (kv.1 = k)) = vs.any fun kv => decide (kv.1 = k) := by
  unfold KV at r
  induction r with
  | nil => rfl
  | cons h t ih => rw [List.any_cons, List.any_cons, ih, h.1]
theorem KV.drop {kvs : List (κ × V)} {vs : List (κ × Value)} (r : KV kvs vs) (k : κ) : KV (dropK kvs k) (without vs k) := by
  unfold KV at r ⊢
  unfold dropK without
  induction r with
  | nil => exact .nil
  | @cons p q ps qs h t ih =>
    obtain ⟨h1, h2⟩ := h
    rw [List.filter_cons, List.filter_cons]
    by_cases e : p.1 = k
    · have a : ¬ decide (p.1 ≠ k) = true := by simp [e]
      have b : ¬ decide (q.1 ≠ k) = true := by simp [h1.symm.trans e]
      rw [if_neg a, if_neg b]; exact ih
    · have e' : ¬ q.1 = k := fun z => e (h1.trans z)
      have a : decide (p.1 ≠ k) = true := by simp [e]
      have b : decide (q.1 ≠ k) = true := by simp [e']
      rw [if_pos a, if_pos b]; exact .cons ⟨h1, h2⟩ ih
theorem KV.keys {kvs : List (κ × V)} {vs : List (κ × Value)} (r : KV kvs vs) : kvs.map (·.1) = vs.map (·.1) := by
  unfold KV at r
  induction r with
  | nil => rfl
  | cons h t ih => rw [List.map_cons, List.map_cons, ih, h.1]
theorem KV.length {kvs : List (κ × V)} {vs : List (κ × Value)} (r : KV kvs vs) : kvs.length = vs.length := Paired.length r
end


/-! ### a tracked dict, its keys ints and texts or tuples of these -/
/-- raw entries of a dict with tuple keys -/
abbrev KT (H : Hp) : List (List Key × V) → List (List Key × Addr × Value) → Prop := Paired fun p q => p.1 = q.1 ∧ H q.2.1 = some (.tup (p.1.map kV)) ∧ RelV p.2 q.2.2
theorem KT.val {H : Hp} {kvs : List (List Key × V)} {xs : List (List Key × Addr × Value)} (r : KT H kvs xs) (k : List Key) : RelO (valV kvs k) ((atKey xs k).map (·.2)) := by
  induction r with
  | nil => exact True.intro
  | @cons p q ps qs h t ih =>
    obtain ⟨h1, _, h2⟩ := h
    by_cases e : p.1 = k
    · have e' : q.1 = k := h1.symm.trans e
      have b : atKey (q :: qs) k = some q.2 := by simp [atKey, List.find?_cons, e']
      rw [valV_pos e, b]; exact h2
    · have e' : ¬ q.1 = k := fun z => e (h1.trans z)
      have b : atKey (q :: qs) k = atKey qs k := by simp [atKey, List.find?_cons, e']
      rw [valV_neg e, b]; exact ih
theorem KT.keeps {H H' : Hp} {kvs : List (List Key × V)} {xs : List (List Key × Addr × Value)} (r : KT H kvs xs) (ht : ∀ b ys, H b = some (.tup ys) → H' b = some (.tup ys)) : KT H' kvs xs :=
  Paired.mapP r fun _ _ z => ⟨z.1, ht _ _ z.2.1, z.2.2⟩

section
variable {P : Program} {w : World} {H : Hp} {h : Heap} {a : Addr}
end

/-- what the dict at a holds at the key y -/
def DGet (H : Hp) (a : Addr) (y : V) (r : Option V) : Prop :=
  (∃ kvs k, Rd H a (.dK kvs) ∧ y = kV k ∧ r = valV kvs k) ∨ ∃ kvs k b, Rd H a (.dT kvs) ∧ y = .ref b ∧ H b = some (.tup (k.map kV)) ∧ r = valV kvs k
/-- the heap behind a[y] = v -/
def DPut (H : Hp) (a : Addr) (y v : V) (H' : Hp) : Prop :=
  (∃ kvs k, H a = some (.dK kvs) ∧ y = kV k ∧ kvs.length < sizeLine ∧ H' = upd H a (.dK (putK kvs k v))) ∨
  ∃ kvs k b, H a = some (.dT kvs) ∧ y = .ref b ∧ H b = some (.tup (k.map kV)) ∧ kvs.length < sizeLine ∧ H' = upd H a (.dT (putK kvs k v))
theorem DGet.k {H : Hp} {a : Addr} {kvs : List (Key × V)} {k : Key} (e : H a = some (.dK kvs)) : DGet H a (kV k) (valV kvs k) := .inl ⟨kvs, k, .inl e, rfl, rfl⟩
theorem DGet.t {H : Hp} {a b : Addr} {kvs : List (List Key × V)} {k : List Key} (e : H a = some (.dT kvs)) (eb : H b = some (.tup (k.map kV))) : DGet H a (.ref b) (valV kvs k) := .inr ⟨kvs, k, b, .inl e, rfl, eb, rfl⟩
theorem DPut.k {H : Hp} {a : Addr} {kvs : List (Key × V)} {k : Key} {v : V} (e : H a = some (.dK kvs)) (hl : kvs.length < sizeLine) : DPut H a (kV k) v (upd H a (.dK (putK kvs k v))) := .inl ⟨kvs, k, e, rfl, hl, rfl⟩
theorem DPut.t {H : Hp} {a b : Addr} {kvs : List (List Key × V)} {k : List Key} {v : V} (e : H a = some (.dT kvs)) (eb : H b = some (.tup (k.map kV))) (hl : kvs.length < sizeLine) :
    DPut H a (.ref b) v (upd H a (.dT (putK kvs k v))) := .inr ⟨kvs, k, b, e, rfl, eb, hl, rfl⟩


section
variable {X : Cx} {pins : List (Addr × Obj)} {σ : St} {H : Hp} {s : Shared} {a : Addr} {y v : V} {u r : Value} {o : Option V} {A : Around} {E : Value → Shared → Prop}

end

section
variable {X : Cx} {pins : List (Addr × Obj)} {σ : St} {H : Hp} {s : Shared} {a : Addr} {kvs : List (Key × V)} {k : Key} {u : Value} {A : Around} {E : Value → Shared → Prop}
end


/-! ### readings and rules -/
section
variable {X : Cx} {o i e value : Expr} {pos pos' tpos : Pos} {td ty tv : TE}
end


/-! ### displays -/
section
variable {X : Cx} {pos : Pos}
end

/-! ### methods -/
/-- a method call o.m(e) of a built-in, with one argument: what must be seen of the text -/
structure M1 (X : Cx) (o : Expr) (m : Str) (apos : Pos) (e : Expr) (cpos : Pos) : Prop where
  base : attributeBase o m X.env (eval o X.env) = eval o X.env
  few : ((backTo cpos (starEach [e] X.env)).all (fun x => !x.1) && (backToKw cpos (keywordEach [] X.env)).all (fun x => x.1.isSome)
    && decide (([e] : List Expr).length + ([] : List Keyword).length + (if ([] : List Keyword).isEmpty then 0 else 1) < 30)) = true
  line : (apos.endLine == cpos.line) = true
  trees : backTo cpos (starEach [e] X.env) = [(false, eval e X.env)]
structure M2 (X : Cx) (o : Expr) (m : Str) (apos : Pos) (e f : Expr) (cpos : Pos) : Prop where
  base : attributeBase o m X.env (eval o X.env) = eval o X.env
  few : ((backTo cpos (starEach [e, f] X.env)).all (fun x => !x.1) && (backToKw cpos (keywordEach [] X.env)).all (fun x => x.1.isSome)
    && decide (([e, f] : List Expr).length + ([] : List Keyword).length + (if ([] : List Keyword).isEmpty then 0 else 1) < 30)) = true
  line : (apos.endLine == cpos.line) = true
  trees : backTo cpos (starEach [e, f] X.env) = [(false, eval e X.env), (false, eval f X.env)]

section
variable {X : Cx} {pins : List (Addr × Obj)} {σ : St} {H : Hp} {s : Shared} {a : Addr} {y d : V} {u r : Value} {o : Option V} {A : Around} {E : Value → Shared → Prop}
end

section
variable {X : Cx} {o e f : Expr} {apos cpos : Pos} {td ty tx : TE}
end

/-! ### dict(d): a copy -/
section
variable {X : Cx} {pins : List (Addr × Obj)} {σ : St} {H : Hp} {s : Shared} {a : Addr} {kvs : List (Key × V)} {A : Around} {E : Value → Shared → Prop}
end


section
variable {X : Cx} {pins : List (Addr × Obj)} {σ : St} {H : Hp} {s : Shared} {a : Addr} {y : V} {u : Value} {A : Around} {E : Value → Shared → Prop}
end
end L2


set_option Elab.async false
set_option linter.all false
set_option maxRecDepth 100000
set_option maxHeartbeats 4000000
/-! a dict walked: it is frozen from then on; len(d); l.count(i) of whole numbers -/
namespace L2
open PySem PySem.Spec PyProof.Rows PySem.W
open MeetsSeq MeetsSeq2 MeetsSeq3 SeqRoads2 SeqAt
section
variable {X : Cx} {tg : Expr}
end
section
theorem small10000 {n : Nat} (h : n < 10000) : n < sizeLine := by
  rw [sizeLine_eq]; omega
theorem comp_big {J : It} {NL : List Str} {ix : List Nat} {g : TG} {tt : TT} {te : TE} {σ : St} {H1 : Hp} {Qs : Hp → Prop} {acc : Addr} (n : Nat) (hn : n < 10000) (Pv : Nat → List V → Hp → Prop)
    (hacc : ∀ i ys H2, Pv i ys H2 → H2 acc = some (.lst ys) ∧ ys.length ≤ i) (h0 : Pv 0 [] (upd H1 acc (.lst []))) (hstop : ∀ ys H2, Pv n ys H2 → J.stop n H2 ∧ Qs H2)
    (hturn : ∀ i ys H2, i < n → Pv i ys H2 → J.go i H2 ∧ ∀ x H3, J.yld i H2 x H3 → g x (comp0 NL ix σ) H3 fun σ' H4 => σ'.drop NL.length = ix.map (fun j => σ.getD j none) ∧ tt σ' H4 fun b H5 =>
      if b = true then te σ' H5 fun v H6 => H6 acc = some (.lst ys) ∧ Pv (i + 1) (ys ++ [v]) (upd H6 acc (.lst (ys ++ [v]))) else Pv (i + 1) ys H5) :
    ∃ W : Nat → Nat → List V → Hp → Prop, (∃ m, W 0 m [] (upd H1 acc (.lst []))) ∧
    ∀ i m ys H2, W i m ys H2 → H2 acc = some (.lst ys) ∧ ys.length < sizeLine ∧
      ((J.stop i H2 ∧ Qs H2) ∨ (J.go i H2 ∧ ∃ N : List V → Hp → Prop, (∀ ys' H', N ys' H' → ∃ m', m' < m ∧ W (i + 1) m' ys' H') ∧
        ∀ x H3, J.yld i H2 x H3 → g x (comp0 NL ix σ) H3 fun σ' H4 => σ'.drop NL.length = ix.map (fun j => σ.getD j none) ∧ tt σ' H4 fun b H5 =>
          if b = true then te σ' H5 fun v H6 => H6 acc = some (.lst ys) ∧ N (ys ++ [v]) (upd H6 acc (.lst (ys ++ [v]))) else N ys H5)) := by
  refine ⟨fun i m ys H2 => i ≤ n ∧ m = n - i ∧ Pv i ys H2, ⟨n, Nat.zero_le _, rfl, h0⟩, fun i m ys H2 ⟨hi, hm, hp⟩ => ?_⟩
  obtain ⟨a1, a2⟩ := hacc i ys H2 hp
  refine ⟨a1, small10000 (by omega), ?_⟩
  rcases Nat.lt_or_ge i n with lt | ge
  · obtain ⟨go, tn⟩ := hturn i ys H2 lt hp
    exact .inr ⟨go, Pv (i + 1), fun ys' H' hN => ⟨n - (i + 1), by omega, by omega, rfl, hN⟩, tn⟩
  · have e : i = n := by omega
    subst e
    exact .inl (hstop ys H2 hp)
end
section
variable {NL : List Str} {ix : List Nat} {g : TG} {tt : TT} {te : TE} {σ : St} {H1 : Hp} {Qs : Hp → Prop} {acc : Addr}
end
section
variable {X : Cx}
end
end L2
namespace L2
open PySem PySem.Spec PyProof.Rows PySem.W
end L2


set_option Elab.async false
set_option linter.all false
set_option maxRecDepth 100000
set_option maxHeartbeats 4000000
/-! dict(a list of pairs) -/
namespace L2
open PySem PySem.Spec PyProof.Rows PySem.W
end L2
namespace L2
open PySem PySem.Spec PyProof.Rows PySem.W
section
variable {prog : Program} {w : World} {A : Around} {E : Value → Shared → Prop}
/-- the pairs that a list of tuples holds -/
def DPrs (h : Heap) (D : Addr) (items : Array Value) (ps : List (Key × Value)) : Prop :=
  ps.length = items.size ∧ ∀ (j : Nat) (k : Key) (v : Value), ps[j]? = some (k, v) → ∃ (a : Addr) (ku : Value), items[j]? = some (Value.ref a) ∧ a ≠ D ∧ RelV (kV k) ku ∧ IsTup h a #[ku, v]
theorem DPrs.keeps {h h' : Heap} {D I : Addr} {items : Array Value} {ps : List (Key × Value)} (p : DPrs h D items ps) (nI : ∀ a : Addr, Value.ref a ∈ items → a ≠ I) (k : ∀ b o, b ≠ I → b ≠ D → h.get? b = some o → h'.get? b = some o) : DPrs h' D items ps := by
  refine ⟨p.1, fun j kk v e => ?_⟩
  obtain ⟨a, ku, ha, hD, hk, o, e1, e2⟩ := p.2 j kk v e
  exact ⟨a, ku, ha, hD, hk, o, k a o (nI a (Array.mem_of_getElem? ha)) hD e1, e2⟩
end
end L2
namespace L2
open PySem PySem.Spec PyProof.Rows PySem.W
section
variable {prog : Program} {w : World} {A : Around} {E : Value → Shared → Prop} {s : Shared}
end
end L2
namespace L2
open PySem PySem.Spec PyProof.Rows PySem.W
section
variable {X : Cx}
end
end L2


set_option Elab.async false
set_option linter.all false
set_option maxRecDepth 100000
set_option maxHeartbeats 4000000
/-! the model's sort of any length: what its parts do -/
namespace Tim
open PySem PyProof.Rows
abbrev setG (st : SortSt) (g : Nat) : SortSt := SortSt.mk' (kindOf st) (arrOf st) (pendingOf st) g (failedOf st)
end Tim


set_option Elab.async false
set_option linter.all false
set_option maxRecDepth 100000
set_option maxHeartbeats 4000000
namespace Tim
open PySem PyProof.Rows
section
variable {prog : Program} {w : World} {A : Around} {E : Value → Shared → Prop} {s : Shared} {a₀ : Array Keyed} {κ : SortKind} {O : KeyOrd} {key : Keyed → O.α}
abbrev isB (key : Keyed → O.α) (left : Bool) (x p : Keyed) : Bool := if left then O.blt (key p) (key x) else !O.blt (key x) (key p)
/-! ### two rising rows laid together -/
def mrg (key : Keyed → O.α) : List Keyed → List Keyed → List Keyed
  | [], ys => ys
  | x :: xs, [] => x :: xs
  | x :: xs, y :: ys => if O.blt (key y) (key x) = true then y :: mrg key (x :: xs) ys else x :: mrg key xs (y :: ys)
termination_by xs ys => xs.length + ys.length
abbrev Srt (key : Keyed → O.α) (l : List Keyed) : Prop := l.Pairwise fun x y => O.blt (key y) (key x) = false
end
end Tim


set_option Elab.async false
set_option linter.all false
set_option maxRecDepth 100000
set_option maxHeartbeats 4000000
namespace Tim
open PySem PyProof.Rows
section
variable {prog : Program} {w : World} {A : Around} {E : Value → Shared → Prop} {s : Shared} {a₀ : Array Keyed} {κ : SortKind} {O : KeyOrd} {key : Keyed → O.α}
/-- two rows that are laid together -/
structure Two (key : Keyed → O.α) (a₀ a b : Array Keyed) : Prop where
  ma : ∀ x ∈ a, x ∈ a₀
  mb : ∀ x ∈ b, x ∈ a₀
  na : 1 ≤ a.size
  nb : 1 ≤ b.size
  sa : Srt key a.toList
  sb : Srt key b.toList
  fst : ∀ x ∈ a, ∀ y, b[0]? = some y → O.blt (key y) (key x) = true
  lst : ∀ y ∈ b, ∀ x, a[a.size - 1]? = some x → O.blt (key y) (key x) = true
def LoI (key : Keyed → O.α) (a b o : Array Keyed) (p q : Nat) : Prop := o.toList ++ mrg key (a.toList.drop p) (b.toList.drop q) = mrg key a.toList b.toList
section
variable {a b o : Array Keyed} {p q k : Nat} {x y : Keyed}
end
abbrev LSt := Option (Array Keyed) × Array Keyed × Nat × Nat × Nat × Nat × Nat
structure GoesOn (key : Keyed → O.α) (a b : Array Keyed) (st : SortSt) (m : Nat) (R : ForInStep LSt → SortSt → Prop) : Prop where
  fin : ∀ (out : Array Keyed) c g, out.toList = mrg key a.toList b.toList → R (.done (some out, c)) (setG st g)
  brk : ∀ o p q g c d g', LoI key a b o p q → p + 1 < a.size → q < b.size → m ≤ p + q → R (.done (none, o, p, q, g, c, d)) (setG st g')
  yld : ∀ o p q g c d g', LoI key a b o p q → p + 1 < a.size → q < b.size → m ≤ p + q → R (.yield (none, o, p, q, g, c, d)) (setG st g')
section
variable {a b o : Array Keyed} {p q k g c d m g' : Nat} {x y : Keyed} {st : SortSt} {R : ForInStep LSt → SortSt → Prop}
end
end
end Tim


set_option Elab.async false
set_option linter.all false
set_option maxRecDepth 100000
set_option maxHeartbeats 4000000
namespace Tim
open PySem PyProof.Rows
section
variable {prog : Program} {w : World} {A : Around} {E : Value → Shared → Prop} {s : Shared} {a₀ : Array Keyed} {κ : SortKind} {O : KeyOrd} {key : Keyed → O.α}
def HiI (key : Keyed → O.α) (a b o : Array Keyed) (p q : Nat) : Prop := mrg key (a.toList.take p) (b.toList.take q) ++ o.toList.reverse = mrg key a.toList b.toList
section
variable {a b o : Array Keyed} {p q f : Nat} {x y : Keyed}
end
abbrev HSt := Option (Array Keyed) × Nat × Nat × Array Keyed × Nat × Nat × Nat
structure GoesHi (key : Keyed → O.α) (a b : Array Keyed) (st : SortSt) (m : Nat) (R : ForInStep HSt → SortSt → Prop) : Prop where
  fin : ∀ (out : Array Keyed) c g, out.toList = mrg key a.toList b.toList → R (.done (some out, c)) (setG st g)
  brk : ∀ o p q g c d g', HiI key a b o p q → 0 < p → p ≤ a.size → 1 < q → q ≤ b.size → p + q ≤ m → R (.done (none, p, q, o, g, c, d)) (setG st g')
  yld : ∀ o p q g c d g', HiI key a b o p q → 0 < p → p ≤ a.size → 1 < q → q ≤ b.size → p + q ≤ m → R (.yield (none, p, q, o, g, c, d)) (setG st g')
section
variable {a b o : Array Keyed} {p q k g c d m g' : Nat} {x y : Keyed} {st : SortSt} {R : ForInStep HSt → SortSt → Prop}
end
end
end Tim


set_option Elab.async false
set_option linter.all false
set_option maxRecDepth 100000
set_option maxHeartbeats 4000000
namespace Tim
open PySem PyProof.Rows
section
variable {prog : Program} {w : World} {A : Around} {E : Value → Shared → Prop} {s : Shared} {a₀ : Array Keyed} {κ : SortKind} {O : KeyOrd} {key : Keyed → O.α}
abbrev Seg (key : Keyed → O.α) (xs : Array Keyed) (i j : Nat) : Prop := ∀ p q x y, i ≤ p → p ≤ q → q < j → xs[p]? = some x → xs[q]? = some y → O.blt (key y) (key x) = false
theorem three (L : List Keyed) {u v : Nat} (h : u ≤ v) : L = L.take u ++ (L.drop u).take (v - u) ++ L.drop v := by
  have e : L.drop v = (L.drop u).drop (v - u) := by rw [List.drop_drop]; congr 1; omega
  rw [e, List.append_assoc, List.take_append_drop, List.take_append_drop]
end
end Tim


set_option Elab.async false
set_option linter.all false
set_option maxRecDepth 100000
set_option maxHeartbeats 4000000
namespace Tim
open PySem PyProof.Rows
section
variable {prog : Program} {w : World} {A : Around} {E : Value → Shared → Prop} {s : Shared} {a₀ : Array Keyed} {κ : SortKind} {O : KeyOrd} {key : Keyed → O.α}
def Dist (key : Keyed → O.α) (a₀ : Array Keyed) : Prop := (a₀.toList.map key).Nodup
theorem Dist.inj (D : Dist key a₀) {xs : Array Keyed} (h : xs.Perm a₀) {i j : Nat} {x y : Keyed} (ex : xs[i]? = some x) (ey : xs[j]? = some y) (h1 : O.blt (key x) (key y) = false) (h2 : O.blt (key y) (key x) = false) : i = j := by
  have nd : (xs.toList.map key).Nodup := (List.Perm.nodup_iff ((Array.perm_iff_toList_perm.mp h).map key)).mpr D
  obtain ⟨g1, rfl⟩ := Array.getElem?_eq_some_iff.mp ex
  obtain ⟨g2, rfl⟩ := Array.getElem?_eq_some_iff.mp ey
  refine (List.getElem_inj (h₀ := by simpa using g1) (h₁ := by simpa using g2) nd).mp ?_
  rw [List.getElem_map, List.getElem_map, Array.getElem_toList, Array.getElem_toList]
  exact O.total _ _ h1 h2
end
end Tim


set_option Elab.async false
set_option linter.all false
set_option maxRecDepth 100000
set_option maxHeartbeats 4000000
namespace Tim
open PySem PyProof.Rows
section
variable {prog : Program} {w : World} {A : Around} {E : Value → Shared → Prop} {s : Shared} {a₀ : Array Keyed} {κ : SortKind} {O : KeyOrd} {key : Keyed → O.α}
abbrev Run3 := Nat × Nat × Nat
/-- runs, one behind the other -/
def Runs (key : Keyed → O.α) (xs : Array Keyed) : List Run3 → Nat → Nat → Prop
  | [], i, j => i = j
  | r :: rs, i, j => r.1 = i ∧ 1 ≤ r.2.1 ∧ Seg key xs i (i + r.2.1) ∧ Runs key xs rs (i + r.2.1) j
def RI (key : Keyed → O.α) (a₀ : Array Keyed) (κ : SortKind) (lo : Nat) (st : SortSt) : Prop := ∃ ys pd g, st = SortSt.mk' κ ys pd g none ∧ ys.Perm a₀ ∧ Runs key ys pd.toList 0 lo ∧ lo ≤ a₀.size
end
end Tim


set_option Elab.async false
set_option linter.all false
set_option maxRecDepth 100000
set_option maxHeartbeats 4000000
/-! sorted of many texts, sorted of a dict's keys; what is never raised; l.index of many texts -/
namespace L2
open PySem PySem.Spec PyProof.Rows PySem.W Tim
section
variable {prog : Program} {w : World} {A : Around} {E : Value → Shared → Prop} {s : Shared}
end
section
variable {prog : Program} {w : World} {A : Around} {E : Value → Shared → Prop} {s : Shared} {T : String} {r d : Addr} {n : Nat} {P : Nat → Value → Prop} {OK : Heap → Prop}
end
section
variable {X : Cx}
/-- raise: where it is never reached -/
theorem ps_raise0 {e : Option Expr} {c : Option Expr} {pos : Pos} : PS X (.Raise e c pos) (fun _ _ _ => False) := fun _ _ _ _ _ _ h => h.elim
end
end L2


set_option Elab.async false
set_option linter.all false
set_option maxRecDepth 100000
set_option maxHeartbeats 4000000
/-! list.count of texts; l[::n]; a text walked; startswith as a test -/
namespace L2
open PySem PySem.Spec PyProof.Rows PySem.W
section
variable {X : Cx}
/-! ### l[::n] -/
variable {e st : Expr} {te : TE} {ts : TO} {pos p2 : Pos}
end
/-! ### a text walked -/
def Itx (x : Str) : It := ⟨fun i _ => i < x.cps.size, fun i H v H' => H' = H ∧ ∃ c, x.cps[i]? = some c ∧ v = .str ⟨#[c]⟩, fun i _ => x.cps.size ≤ i⟩
theorem turn_str {P : Program} {w : World} {K : PySem.W.Frag} {tg : Expr} (x : Str) (t : Tok) (it : Addr) : Turn P w K tg (Itx x) [it] it (fun i h => h.IsStrIter it (strIterType x) x t i) where
  mem := by simp
  obj := fun i h st b hb => by
    have e : b = it := by simpa using hb
    subst e
    obtain ⟨o, e, c, d⟩ := st
    exact ⟨o, e, fun v z => by rw [d] at z; cases z⟩
  keep := fun i h h' st k => by
    obtain ⟨o, e, c, d⟩ := st
    exact ⟨o, k it (by simp) o e, c, d⟩
  item := by
    intro X hP hw hK hc i pins s σ H E I hf st hg
    subst hP hw hK
    have hg : i < x.cps.size := hg
    obtain ⟨f0, f1, f2, f3, f4, f5⟩ := hf it (by simp)
    have hx : x.cps[i]? = some (x.cps[i]'hg) := Array.getElem?_eq_getElem hg
    have go : ∀ (h' : Heap), h'.IsStrIter it (strIterType x) x t (i + 1) → Heap.SameBut it s.heap h' → ∃ u, some (Value.str ⟨#[x.cps[i]'hg]⟩ s.toks) = some u ∧
        wpAny (model X.prog X.w) X.A (letOwnedTupleGo tg (.ref it) u) (fun _ s2 => ∃ v H', Inv X pins σ H' s2 ∧ RelV v u ∧ (Itx x).yld i H v H' ∧ s2.heap.IsStrIter it (strIterType x) x t (i + 1) ∧ ∀ b ∈ [it], H' b = none) E { s with heap := h', toks := s.toks + 1 } := fun h' st' sb => by
      have I1 : Inv X pins σ H { s with heap := h', toks := s.toks + 1 } := I.turned (t' := s.toks + 1) (fun b o hb e => (sb.2 b hb).trans e) f0 f1 f3 f4 f5
      obtain ⟨o, e, c, d⟩ := id st'
      refine ⟨_, rfl, go_of (s := { s with heap := h', toks := s.toks + 1 }) e c d ?_ ⟨.str ⟨#[x.cps[i]'hg]⟩, H, I1, ⟨_, rfl⟩, ⟨rfl, _, hx, rfl⟩, st', fun b hb => (hf b hb).1⟩⟩
      unfold strIterType
      split <;> decide
    cases c : x.cps.all (· < 128) with
    | true =>
      have e : strIterType x = "str_ascii_iterator" := by unfold strIterType; rw [c]; rfl
      rw [e] at st
      exact wpAny_pyNext_ascii_item st hx fun h' st' sb => go h' (by rw [e]; exact st') sb
    | false =>
      have e : strIterType x = "str_iterator" := by unfold strIterType; rw [c]; rfl
      rw [e] at st
      exact wpAny_pyNext_wide_item st hx fun h' st' sb => go h' (by rw [e]; exact st') sb
  done := by
    intro X hP hw hK hc i pins s σ H E I hf st hg
    subst hP hw hK
    have hg : x.cps.size ≤ i := hg
    obtain ⟨f0, f1, f2, f3, f4, f5⟩ := hf it (by simp)
    have hx : x.cps[i]? = none := Array.getElem?_eq_none hg
    cases c : x.cps.all (· < 128) with
    | true =>
      have e : strIterType x = "str_ascii_iterator" := by unfold strIterType; rw [c]; rfl
      rw [e] at st
      exact wpAny_pyNext_ascii_end (I.ok.hd hc) st hx fun h' eb => ⟨rfl, I.turned (t' := s.toks) (fun b o hb e => eb b o hb e) f0 f1 f3 f4 f5⟩
    | false =>
      have e : strIterType x = "str_iterator" := by unfold strIterType; rw [c]; rfl
      rw [e] at st
      exact wpAny_pyNext_wide_end (I.ok.hd hc) st hx fun h' eb => ⟨rfl, I.turned (t' := s.toks) (fun b o hb e => eb b o hb e) f0 f1 f3 f4 f5⟩
  self := fun _ _ _ _ _ st h => by
    cases c : x.cps.all (· < 128) with
    | true =>
      have e : strIterType x = "str_ascii_iterator" := by unfold strIterType; rw [c]; rfl
      rw [e] at st
      exact wpAny_pyIter_striter_ascii st h
    | false =>
      have e : strIterType x = "str_iterator" := by unfold strIterType; rw [c]; rfl
      rw [e] at st
      exact wpAny_pyIter_striter_wide st h
section
variable {X : Cx} {tg : Expr}
def iStr (tl : TE) : TI := fun σ H R => tl σ H fun x H1 => ∃ z, x = .str z ∧ R (Itx z) H1
theorem pi_str {l : Expr} {tl : TE} (hl : PE X l tl) : PI X tg l (iStr tl) := by
  intro pins s σ H R I h
  refine thn (hl pins s σ H _ I h) fun v s1 ⟨x, H1, I1, r1, q1⟩ => ?_
  obtain ⟨z, rfl, q⟩ := q1
  obtain ⟨t, rfl⟩ := r1
  refine wpAny_pyIter_strU ?_
  refine ⟨s1.heap.objs.size, [s1.heap.objs.size], _, _, H1, rfl, I1.kept (t' := s1.toks) fun b o e => Heap.get?_push_of_some _ e, turn_str z t _, ⟨_, Heap.get?_push_size _ rfl, rfl, rfl⟩, fun b hb => ?_, q⟩
  have e : b = s1.heap.objs.size := by simpa using hb
  subst e
  exact I1.fpOk (Nat.le_refl _) (I1.hok.fresh (Nat.le_refl _))
end
section
variable {NL : List Str} {ix : List Nat} {g : TG} {tt : TT} {te : TE} {σ : St} {H1 : Hp} {Qs : Hp → Prop} {acc : Addr}
theorem comp_str {z : Str} (hn : z.cps.size < 10000) (Pv : Nat → List V → Hp → Prop)
    (hacc : ∀ i ys H2, Pv i ys H2 → H2 acc = some (.lst ys) ∧ ys.length ≤ i) (h0 : Pv 0 [] (upd H1 acc (.lst []))) (hstop : ∀ ys H2, Pv z.cps.size ys H2 → Qs H2)
    (hturn : ∀ i c ys H2, z.cps[i]? = some c → Pv i ys H2 → g (.str ⟨#[c]⟩) (comp0 NL ix σ) H2 fun σ' H4 => σ'.drop NL.length = ix.map (fun j => σ.getD j none) ∧ tt σ' H4 fun b H5 =>
      if b = true then te σ' H5 fun v H6 => H6 acc = some (.lst ys) ∧ Pv (i + 1) (ys ++ [v]) (upd H6 acc (.lst (ys ++ [v]))) else Pv (i + 1) ys H5) :
    ∃ W : Nat → Nat → List V → Hp → Prop, (∃ m, W 0 m [] (upd H1 acc (.lst []))) ∧
    ∀ i m ys H2, W i m ys H2 → H2 acc = some (.lst ys) ∧ ys.length < sizeLine ∧
      (((Itx z).stop i H2 ∧ Qs H2) ∨ ((Itx z).go i H2 ∧ ∃ N : List V → Hp → Prop, (∀ ys' H', N ys' H' → ∃ m', m' < m ∧ W (i + 1) m' ys' H') ∧
        ∀ x H3, (Itx z).yld i H2 x H3 → g x (comp0 NL ix σ) H3 fun σ' H4 => σ'.drop NL.length = ix.map (fun j => σ.getD j none) ∧ tt σ' H4 fun b H5 =>
          if b = true then te σ' H5 fun v H6 => H6 acc = some (.lst ys) ∧ N (ys ++ [v]) (upd H6 acc (.lst (ys ++ [v]))) else N ys H5)) := by
  refine comp_big z.cps.size hn Pv hacc h0 (fun ys H2 hp => ⟨Nat.le_refl _, hstop ys H2 hp⟩) fun i ys H2 hi hp => ⟨hi, ?_⟩
  rintro x H3 ⟨rfl, c, hc, rfl⟩
  exact hturn i c ys H3 hc hp
end
section
variable {X : Cx}
end
end L2


set_option Elab.async false
set_option linter.all false
set_option maxRecDepth 100000
set_option maxHeartbeats 4000000
/-! t + u, any two tuples -/
namespace L2
open PySem PySem.Spec PyProof.Rows
section
variable {X : Cx}
def rCatA (K : PySem.W.Frag) : R2 := fun x y H Q => ∃ a b xs ys, x = .ref a ∧ y = .ref b ∧ SqT K H a xs ∧ SqT K H b ys ∧ xs.length + ys.length ≤ sizeLine ∧
  (xs = [] → Q (.ref b) H) ∧ (xs ≠ [] → ys = [] → Q (.ref a) H) ∧ (xs ≠ [] → ys ≠ [] → ∀ p, H p = none → Q (.ref p) (upd H p (.tup (xs ++ ys))))
theorem cat_tup0 {prog : Program} {w : World} {A : Around} {E : Value → Shared → Prop} {s : Shared} {t b : Addr} {vs ws : List Value} {Q : Value → Shared → Prop} (ht : IsTup s.heap t vs.toArray) (hb : IsTup s.heap b ws.toArray) (hv : vs = [])
    (h : Q (.ref b) s) : wpAny (model prog w) A (binaryOp .Add (.ref t) (.ref b)) Q E s := by
  obtain ⟨⟨cls, dd, data, sl⟩, ho, hc, n, hd⟩ := id ht
  obtain ⟨⟨cls2, dd2, data2, sl2⟩, ho2, hc2, n2, hd2⟩ := id hb
  simp only at hc hd hc2 hd2
  subst hc hd hc2 hd2
  exact concat_meets ⟨_, ho, rfl⟩ ⟨_, ho2, rfl⟩ noFill_tuple_add seq_tuple_add PySem.F.slot_tuple_add PySem.F.entry_tuple_add (PySem.F.args_tuple_add_2 _ _)
      (tuple_addW0 t b vs.toArray ws.toArray n n2 dd dd2 sl sl2 (by simp [hv])) ⟨ho, ho2, h⟩
theorem op_catA : OpR X (binaryOp .Add) (rCatA X.K) := by
  intro pins s σ H x y v u Q I rx ry h
  obtain ⟨a, b, xs, ys, rfl, rfl, ha, hb, hz, q0, q1, q2⟩ := h
  by_cases hx : xs = []
  · cases rx
    cases ry
    obtain ⟨its, r1, p1, _⟩ := I.tuple ha
    obtain ⟨its2, r2, p2, _⟩ := I.tuple hb
    exact cat_tup0 p1 p2 (r1.nil_iff.mpr hx) ⟨.ref b, H, I, rfl, q0 hx⟩
  · exact op_catT pins s σ H _ _ v u Q I rx ry ⟨a, b, xs, ys, rfl, rfl, ha, hb, hx, hz, q1 hx, q2 hx⟩
theorem op_catAK (K : PySem.W.Frag) (hK : X.K = K := by rfl) : OpR X (binaryOp .Add) (rCatA K) := by subst hK; exact op_catA
end
end L2


set_option Elab.async false
set_option linter.all false
set_option maxRecDepth 100000
set_option maxHeartbeats 4000000
/-! dict(a list of pairs) whose keys are tuples -/
namespace L2
open PySem PySem.Spec PyProof.Rows PySem.W
def DPrsT (P : Program) (w : World) (h : Heap) (D : Addr) (items : Array Value) (ps : List (List Key × Addr × Value)) : Prop :=
  ps.length = items.size ∧ ∀ (j : Nat) (k : List Key) (b : Addr) (v : Value), ps[j]? = some (k, b, v) → ∃ a : Addr, items[j]? = some (Value.ref a) ∧ a ≠ D ∧ b ≠ D ∧ IsTup h a #[.ref b, v] ∧ (tupleKind (mixKind P w)).is h k b
theorem DPrsT.keeps {P : Program} {w : World} {h h' : Heap} {D I : Addr} {items : Array Value} {ps : List (List Key × Addr × Value)} (p : DPrsT P w h D items ps) (nI : ∀ a : Addr, Value.ref a ∈ items → a ≠ I) (nIb : ∀ (j : Nat) k b v, ps[j]? = some (k, b, v) → b ≠ I)
    (k : ∀ b o, b ≠ I → b ≠ D → h.get? b = some o → h'.get? b = some o) : DPrsT P w h' D items ps := by
  refine ⟨p.1, fun j kk b v e => ?_⟩
  obtain ⟨a, ha, hD, hbD, ⟨o, e1, e2⟩, o2, its, n, e3, r⟩ := p.2 j kk b v e
  exact ⟨a, ha, hD, hbD, ⟨o, k a o (nI a (Array.mem_of_getElem? ha)) hD e1, e2⟩, o2, its, n, k b o2 (nIb j kk b v e) hbD e3, r⟩
section
variable {prog : Program} {w : World} {A : Around} {E : Value → Shared → Prop}
end
section
variable {prog : Program} {w : World} {A : Around} {E : Value → Shared → Prop} {s : Shared}
end
/-! the rule -/
section
variable {X : Cx}
end
end L2


set_option Elab.async false
set_option linter.all false
set_option maxRecDepth 100000
set_option maxHeartbeats 4000000
/-! exceptions: raised, passed on -/
namespace L2
open PySem PySem.Spec PyProof.Rows

theorem ObjOk.obj {P : Program} {w : World} {H : Hp} {h : Heap} {a : Addr} {o : HO} (x : ObjOk P w H h a o) : ∃ u, h.get? a = some u := by
  cases o with
  | lst xs => obtain ⟨_, _, _, _, e⟩ := x; exact ⟨_, e⟩
  | tup xs => obtain ⟨⟨_, o, e, _⟩, _⟩ := x; exact ⟨_, e⟩
  | dK kvs => obtain ⟨_, _, _, _, o, _, _, e, _⟩ := x; exact ⟨_, e⟩
  | dT kvs => obtain ⟨_, _, _, _, o, _, _, e, _⟩ := x; exact ⟨_, e⟩
  | set S n => obtain ⟨o, _, _, _, e, _⟩ := x; exact ⟨_, e⟩
  | ins C dx fs => obtain ⟨_, _, _, e, _⟩ := x; exact ⟨_, e⟩
  | own y => exact x
  | xd fs => obtain ⟨_, ⟨_, _, _, e, _⟩, _⟩ := x; exact ⟨_, e⟩
  | rng lo hi => obtain ⟨_, _, _, e⟩ := x; exact ⟨_, e⟩
  | frz ob u => exact ⟨_, x.1⟩
  | tbl ps => exact ⟨_, x⟩
  | met f y => exact ⟨_, x⟩
  | ext φ => exact x.2.1

/-- an exception under way below the frames l: B is what it can't touch: all that stood at the entry but the frames, and all that is tracked -/
def FlyS (l : List Env) (H₀ : Hp) (h₀ : Heap) (H' : Hp) (a C : Addr) (h : Heap) : Prop :=
  ∃ B a0, Heap.FlyingW B l a (.ref C) a0 h ∧ (∀ b o, h₀.get? b = some o → b ∉ frs l → ∃ o', B.get? b = some o' ∧ (H₀ b = none → o' = o)) ∧ ∀ b u, H' b = some u → ∃ o, B.get? b = some o

def CXE (P : Program) (w : World) : CXT := fun outer H s E e s' => ∃ a C H', e = .ref a ∧ s'.os = s.os ∧ AllBare s'.gens ∧ Un (frs outer) [] H H' s.heap s'.heap ∧ HOk P w H' s'.heap ∧ FlyS outer H s.heap H' a C s'.heap ∧ H' a = none ∧ E e (some C) H'

section
variable {P : Program} {w : World} {K : PySem.W.Frag} {mg : Str → Option Value} {base : Heap} {N : List Str} {qual : Str} {scope : Scope} {f : Addr} {cd : Value} {A : Around} {outer : List Env} {s : Shared} {H : Hp} {E : XK}
end
end L2


set_option Elab.async false
set_option linter.all false
set_option maxRecDepth 100000
set_option maxHeartbeats 4000000
/-! exceptions caught: try / except -/
namespace L2
open PySem PySem.Spec PyProof.Rows

section
variable {X : Cx} {pins : List (Addr × Obj)} {σ : St} {a C : Addr} {H1 H2 : Hp} {s s1 : Shared} {B h h' : Heap} {a0 : Value}
/-- the context of a handler's suite: nothing may be raised there -/
abbrev Cx.caught (X : Cx) (a : Addr) : Cx := { X with A := X.A.mark (some (.ref a)), calm := false, xe := fun _ _ => False }
theorem Inv.caught {H : Hp} (I : Inv X pins σ H s) (a : Addr) : Inv (X.caught a) pins σ H s :=
  ⟨⟨I.ok.mod, I.ok.kind, I.ok.glob, I.ok.blt, I.ok.above, I.ok.inj, I.ok.has, I.ok.cab, (fun z => nomatch z), I.ok.frames, I.ok.stk, I.ok.exf, I.ok.bs, I.ok.bsz, I.ok.noex, I.ok.exfs, I.ok.funs, I.ok.frf⟩, I.os, I.bare, I.base, I.loc, I.cell, I.free, I.freeC, I.pin, I.hok, I.len⟩
end

/-! ### handlers -/
section
variable {X : Cx} {x n : Str} {i : Nat} {np pos : Pos} {b₀ : Stmt} {suite : List Stmt} {rest : List ExceptHandler} {Cl : Addr} {th : Addr → TS} {tr : Addr → Addr → TS}
end

/-! ### the statement -/
def PassesAt (CX : CXT) (X : Cx) (E : XK) (σ : St) : Prop := ∀ (pins : List (Addr × Obj)) (H : Hp) (s : Shared) (e : Value) (s' : Shared), Inv X pins σ H s → CX X.stack H s E e s' → X.xe e s'
theorem Passes.at {CX : CXT} {X : Cx} {E : XK} {σ : St} (h : Passes CX X E) : PassesAt CX X E σ := fun pins H s e s' I q => h pins σ H s e s' I q
end L2


set_option Elab.async false
set_option linter.all false
set_option maxRecDepth 100000
set_option maxHeartbeats 4000000
/-! isinstance of an exception of one's own -/
namespace L2
open PySem PySem.Spec PyProof.Rows PySem.W PySem.Calls PySem.Builtin PySem.Builtin.ObjectAttr PySem.Builtin.Getset_descriptor
/-- what isinstance asks of a class of errors -/
structure ExK (K : Frag) (C : Addr) : Prop where
  ga : findIn K (.ref C) "__getattribute__" = some (some (.builtin "BaseException.__getattribute__"))
  gn : findIn K (.ref C) "__getattr__" = some none
  cl : findIn K (.ref C) "__class__" = some (some (.builtin "object.__class__"))
  gt : specialIn K (.builtin "object.__class__") "__get__" = some (some (.builtin "getset_descriptor.__get__"))
  tk : takesIn K (.builtin "object.__class__") = some true
  ob : mroIn K C (.type "object") = some true
  be : mroIn K C (.type "BaseException") = some true
  cd : (clsIn K C).isSome = true
section
variable {prog : Program} {w : World} {A : Around} {E : Value → Shared → Prop} {s : Shared} {K : Frag} {x C : Addr} {R : Result → Shared → Prop}
end
end L2


set_option Elab.async false
set_option linter.all false
set_option maxRecDepth 100000
set_option maxHeartbeats 4000000
/-! raise; defs that raise, called; isinstance of an exception -/
namespace L2
open PySem PySem.Spec PyProof.Rows PySem.W

/-! ### isinstance -/
section
variable {X : Cx}
end

/-! ### raise -/
/-! ### defs that raise -/
def HasX (P : Program) (w : World) (K : Frag) (mg : Str → Option Value) (base : Heap) (x : Str) (k : Nat) (ps : List Str) (sp : Sp) : Prop :=
  ∃ f fd, FnOk P w K mg base (CXE P w) k f fd ps sp ∧ Binds K fd ps [] ∧ keepIn K (.ref f) = true ∧ mg x = some (.ref f)
section
variable {P : Program} {w : World} {K : Frag} {mg : Str → Option Value} {base : Heap}
theorem HasX.mono {x : Str} {j k : Nat} {ps : List Str} {sp : Sp} (G : HasX P w K mg base x j ps sp) (h : j ≤ k) : HasX P w K mg base x k ps sp :=
  let ⟨f, fd, F, r⟩ := G; ⟨f, fd, F.mono h, r⟩
end
section
variable {X : Cx} {x : Str} {k : Nat} {ps : List Str} {sp : Sp} {p pos : Pos} {e : Expr} {es : List Expr} {t : TA} {E : XK} {σ0 : St}
end
end L2


set_option Elab.async false
set_option linter.all false
set_option maxRecDepth 100000
set_option maxHeartbeats 4000000
/-! l.index of ints; a comprehension over a tuple -/
namespace L2
open PySem PySem.Spec PyProof.Rows PySem.W
section
variable {X : Cx}
end
end L2
namespace L2
section
variable {NL : List PySem.Str} {ix : List Nat} {g : TG} {tt : TT} {te : TE} {σ : St} {H1 : Hp} {Qs : Hp → Prop} {acc : PySem.Addr}
theorem comp_tupI {K : PySem.W.Frag} {a : PySem.Addr} {xs : List V} (hn : xs.length < 1000) (Pv : Nat → List V → Hp → Prop)
    (hl : ∀ i ys H2, Pv i ys H2 → SqT K H2 a xs) (hacc : ∀ i ys H2, Pv i ys H2 → H2 acc = some (.lst ys) ∧ ys.length ≤ i) (h0 : Pv 0 [] (upd H1 acc (.lst []))) (hstop : ∀ ys H2, Pv xs.length ys H2 → Qs H2)
    (hturn : ∀ i x ys H2, xs[i]? = some x → Pv i ys H2 → g x (comp0 NL ix σ) H2 fun σ' H4 => σ'.drop NL.length = ix.map (fun j => σ.getD j none) ∧ tt σ' H4 fun b H5 =>
      if b = true then te σ' H5 fun v H6 => H6 acc = some (.lst ys) ∧ Pv (i + 1) (ys ++ [v]) (upd H6 acc (.lst (ys ++ [v]))) else Pv (i + 1) ys H5) :
    ∃ W : Nat → Nat → List V → Hp → Prop, (∃ m, W 0 m [] (upd H1 acc (.lst []))) ∧
    ∀ i m ys H2, W i m ys H2 → H2 acc = some (.lst ys) ∧ ys.length < PySem.sizeLine ∧
      (((Itt K a).stop i H2 ∧ Qs H2) ∨ ((Itt K a).go i H2 ∧ ∃ N : List V → Hp → Prop, (∀ ys' H', N ys' H' → ∃ m', m' < m ∧ W (i + 1) m' ys' H') ∧
        ∀ x H3, (Itt K a).yld i H2 x H3 → g x (comp0 NL ix σ) H3 fun σ' H4 => σ'.drop NL.length = ix.map (fun j => σ.getD j none) ∧ tt σ' H4 fun b H5 =>
          if b = true then te σ' H5 fun v H6 => H6 acc = some (.lst ys) ∧ N (ys ++ [v]) (upd H6 acc (.lst (ys ++ [v]))) else N ys H5)) := by
  refine comp_by xs.length hn Pv hacc h0 (fun ys H2 hp => ⟨⟨xs, hl _ _ _ hp, Nat.le_refl _⟩, hstop ys H2 hp⟩) fun i ys H2 hi hp => ?_
  have hs := hl _ _ _ hp
  refine ⟨⟨xs, xs[i], hs, List.getElem?_eq_getElem hi⟩, ?_⟩
  rintro x H3 ⟨rfl, hx⟩
  exact hturn i x ys H3 (hx xs hs) hp
end
end L2


set_option Elab.async false
set_option linter.all false
set_option maxRecDepth 100000
set_option maxHeartbeats 4000000
/-! all that a zip brings, as a list: its tuples are new each -/
namespace L2
open PySem PySem.Spec PyProof.Rows PySem.W
theorem entry_extLoop : entryFor table "list.extend.loop" = some Builtin.«list.extend.loop» := by kernel_rfl
theorem plain_extLoop : plainId "list.extend.loop" = true := by kernel_rfl
theorem wpAny_alive {M : Model} {A : Around} {E : Value → Shared → Prop} {s : Shared} {a : Addr} {Q : Option Obj → Shared → Prop} (h : Q (s.heap.get? a) s) : wpAny M A (loadIfAlive a) Q E s := by
  intro Γ p hΓ
  unfold loadIfAlive
  rw [Sem.wp_loadIfAlive]
  exact h
abbrev IsZipB (h : Heap) (z TI TO p : Addr) (b : Bool) : Prop := h.get? z = some { cls := .type "zip", data := .fields #[rawInt (p : Int), .bool b, .bool false, .ref TI, .ref TO] }
section
variable {prog : Program} {w : World} {A : Around} {E : Value → Shared → Prop} {s : Shared}
theorem zip_busy {z TI TO p : Addr} {b : Bool} {Q : Bool → Shared → Prop} (hz : IsZipB s.heap z TI TO p b) (hp : ∃ o, s.heap.get? p = some o)
    (h : ∀ h', IsZipB h' z TI TO p true → Heap.SameBut z s.heap h' → Q false { s with heap := h' }) : wpAny (model prog w) A (Builtin.SmallTypes.ownedTupleIsFree (.ref z)) Q E s := by
  obtain ⟨o, ho⟩ := hp
  unfold Builtin.SmallTypes.ownedTupleIsFree
  refine wpAny_bind (wpAny_field hz rfl (x := rawInt (p : Int)) rfl ?_)
  show wpAny _ _ (loadIfAlive (p : Int).toNat >>= _) _ _ _
  refine wpAny_bind (wpAny_alive ?_)
  rw [Int.toNat_natCast, ho]
  show wpAny _ _ (field (.ref z) 1 >>= _) _ _ _
  refine wpAny_bind (wpAny_field hz rfl (x := .bool b) rfl ?_)
  cases b with
  | true => exact wpAny_pure (h s.heap hz ⟨rfl, fun _ _ => rfl⟩)
  | false =>
    show wpAny _ _ (setField (.ref z) 1 (.bool true) >>= _) _ _ _
    exact wpAny_bind (wpAny_setField_rec hz (by simp) fun h₁ hz₁ hs₁ => wpAny_pure (h h₁ hz₁ hs₁))
theorem zip_next_itemR {z TI TO i1 i2 p : Addr} {fp1 fp2 : List Addr} {n1 n2 k : Nat} {P1 P2 : Nat → Value → Prop} {S1 S2 : Nat → Heap → Prop} {bb : Bool} {Q : Value → Shared → Prop} (Z : ZA z TI TO i1 i2 fp1 fp2)
    (D1 : Draws prog w A i1 fp1 n1 P1 S1) (D2 : Draws prog w A i2 fp2 n2 P2 S2)
    (hz : IsZipB s.heap z TI TO p bb) (hp : ∃ o, s.heap.get? p = some o) (hTI : IsPair s.heap TI (.ref i1) (.ref i2)) (h1 : S1 k s.heap) (h2 : S2 k s.heap) (l1 : k < n1) (l2 : k < n2)
    (hQ : ∀ x y h' tk, P1 k x → P2 k y → IsZipB h' z TI TO p true → S1 (k + 1) h' → S2 (k + 1) h' → IsPair h' s.heap.objs.size x y → h'.objs.size = s.heap.objs.size + 1 →
      (∀ c o, c ≠ z → c ≠ i1 → c ≠ i2 → s.heap.get? c = some o → h'.get? c = some o) → Q (.ref s.heap.objs.size) { s with heap := h', toks := tk }) :
    wpAny (model prog w) A (Builtin.«zip.__next__» ⟨[.ref z], []⟩) (fun fin s' => ∃ v, fin = .done (.ret v) ∧ Q v s') E s := by
  obtain ⟨hp₀, g, d, tk₀, os⟩ := s
  show wpAny _ _ (field (.ref z) 2 >>= _) _ _ _
  refine wpAny_bind (wpAny_field hz rfl (x := .bool false) rfl ?_)
  show wpAny _ _ (field (.ref z) 3 >>= _) _ _ _
  refine wpAny_bind (wpAny_field hz rfl (x := .ref TI) rfl ?_)
  refine wpAny_bind (wpAny_seqItems hTI rfl ?_)
  show wpAny _ _ (Builtin.SmallTypes.ownedTupleIsFree (.ref z) >>= _) _ _ _
  refine wpAny_bind (zip_busy hz hp fun h₁ hz₁ hs₁ => ?_)
  replace hs₁ : Heap.SameBut z hp₀ h₁ := hs₁
  simp only [Bool.false_eq_true, if_false, List.forIn_toArray, List.forIn_cons, List.forIn_nil]
  refine wpAny_bind (wpAny_bind (wpAny_bind (wpAny_holding ?_)))
  show wpAny _ _ (Builtin.SmallTypes.nextOf (.ref i1) >>= _) _ _ _
  have h1₁ : S1 k h₁ := D1.frame _ _ _ h1 fun c hc o e => hs₁.extBut _ _ (fun q => Z.z1 (q ▸ hc)) e
  refine wpAny_bind (D1.item k _ _ _ l1 h1₁ fun x h₂ tk₂ hx h1₂ hs₂ => wpAny_pure ?_)
  replace hs₂ : Heap.SameBut i1 h₁ h₂ := hs₂
  refine wpAny_pure ?_
  refine wpAny_bind (wpAny_bind (wpAny_holding ?_))
  show wpAny _ _ (Builtin.SmallTypes.nextOf (.ref i2) >>= _) _ _ _
  have h2₂ : S2 k h₂ := D2.frame _ _ _ h2 fun c hc o e => hs₂.extBut _ _ (fun q => Z.a2 (q ▸ hc)) (hs₁.extBut _ _ (fun q => Z.z2 (q ▸ hc)) e)
  refine wpAny_bind (D2.item k _ _ _ l2 h2₂ fun y h₃ tk₃ hy h2₃ hs₃ => wpAny_pure ?_)
  replace hs₃ : Heap.SameBut i2 h₂ h₃ := hs₃
  refine wpAny_pure (wpAny_pure ?_)
  refine wpAny_bind (wpAny_newTuple (wpAny_pure ⟨_, rfl, ?_⟩) (by show 2 ≤ sizeLine; decide))
  have hsz : h₃.objs.size = hp₀.objs.size := by rw [hs₃.1, hs₂.1, hs₁.1]
  have up : ∀ c o, h₃.get? c = some o → (h₃.push { cls := .type "tuple", data := .seq #[x, y] }).get? c = some o := fun c o e => Heap.get?_push_of_some _ e
  have hz₃ : IsZipB h₃ z TI TO p true := hs₃.extBut _ _ Z.i2z.symm (hs₂.extBut _ _ Z.i1z.symm hz₁)
  have h1₃ : S1 (k + 1) h₃ := D1.frame _ _ _ h1₂ fun c hc o e => hs₃.extBut _ _ (fun q => Z.a1 (q ▸ hc)) e
  have hT : IsPair (h₃.push { cls := .type "tuple", data := .seq #[x, y] }) h₃.objs.size x y := Heap.get?_push_size _ rfl
  have e8 : (h₃.push { cls := .type "tuple", data := .seq #[x, y] }).objs.size = hp₀.objs.size + 1 := by rw [Heap.size_push, hsz]
  have := hQ x y (h₃.push { cls := .type "tuple", data := .seq #[x, y] }) tk₃ hx hy (up _ _ hz₃) (D1.frame _ _ _ h1₃ fun c _ o e => up c o e) (D2.frame _ _ _ h2₃ fun c _ o e => up c o e) (by rw [← hsz]; exact hT) e8
    fun c o c1 c3 c4 e => up c o (hs₃.extBut _ _ c4 (hs₂.extBut _ _ c3 (hs₁.extBut _ _ c1 e)))
  rw [← hsz] at this
  exact this
theorem zip_next_endR {z TI TO i1 i2 p : Addr} {fp1 fp2 : List Addr} {n1 k : Nat} {P1 : Nat → Value → Prop} {S1 : Nat → Heap → Prop} {bb : Bool} {Q : Fin → Shared → Prop} (Z : ZA z TI TO i1 i2 fp1 fp2)
    (D1 : Draws prog w A i1 fp1 n1 P1 S1)
    (hz : IsZipB s.heap z TI TO p bb) (hp : ∃ o, s.heap.get? p = some o) (hTI : IsPair s.heap TI (.ref i1) (.ref i2)) (h1 : S1 k s.heap) (hend : n1 = k)
    (hE : ∀ h' e tk, (∀ c o, c ≠ z → c ≠ i1 → s.heap.get? c = some o → h'.get? c = some o) → (∃ o, h'.get? e = some o ∧ o.cls = .type "StopIteration") → E (.ref e) { s with heap := h', toks := tk }) :
    wpAny (model prog w) A (Builtin.«zip.__next__» ⟨[.ref z], []⟩) Q E s := by
  obtain ⟨hp₀, g, d, tk₀, os⟩ := s
  subst hend
  show wpAny _ _ (field (.ref z) 2 >>= _) _ _ _
  refine wpAny_bind (wpAny_field hz rfl (x := .bool false) rfl ?_)
  show wpAny _ _ (field (.ref z) 3 >>= _) _ _ _
  refine wpAny_bind (wpAny_field hz rfl (x := .ref TI) rfl ?_)
  refine wpAny_bind (wpAny_seqItems hTI rfl ?_)
  show wpAny _ _ (Builtin.SmallTypes.ownedTupleIsFree (.ref z) >>= _) _ _ _
  refine wpAny_bind (zip_busy hz hp fun h₁ hz₁ hs₁ => ?_)
  replace hs₁ : Heap.SameBut z hp₀ h₁ := hs₁
  simp only [Bool.false_eq_true, if_false, List.forIn_toArray, List.forIn_cons, List.forIn_nil]
  refine wpAny_bind (wpAny_bind (wpAny_bind (wpAny_holding ?_)))
  show wpAny _ _ (Builtin.SmallTypes.nextOf (.ref i1) >>= _) _ _ _
  have h1₁ := D1.frame _ _ h₁ h1 fun c hc o e => hs₁.extBut _ _ (fun q => Z.z1 (q ▸ hc)) e
  exact wpAny_bind (D1.done _ _ _ h1₁ fun h₂ e hs₂ he => hE h₂ e _ (fun c o c1 c3 x => hs₂ _ _ c3 (hs₁.extBut _ _ c1 x)) he)
end
/-- the zip's records -/
def ZSt (κ1 κ2 : SK) (z TI TO i1 i2 : Addr) (k : Nat) (h : Heap) : Prop :=
  ((IsZip h z TI TO .none) ∨ ∃ p b, IsZipB h z TI TO p b ∧ (∃ o, h.get? p = some o)) ∧ IsPair h TI (.ref i1) (.ref i2) ∧ (∃ a b, IsPair h TO a b) ∧ κ1.own i1 k h ∧ κ2.own i2 k h
theorem ZSt.keep {κ1 κ2 : SK} {z TI TO i1 i2 : Addr} {k : Nat} {h h' : Heap} (x : ZSt κ1 κ2 z TI TO i1 i2 k h) (k1 : ∀ b ∈ [z, TI, TO, i1, i2], ∀ o, h.get? b = some o → h'.get? b = some o) (k2 : ∀ b o, h.get? b = some o → ∃ o', h'.get? b = some o') : ZSt κ1 κ2 z TI TO i1 i2 k h' := by
  obtain ⟨hz, hTI, ⟨a, c, hTO⟩, h1, h2⟩ := x
  refine ⟨?_, k1 TI (by simp) _ hTI, ⟨a, c, k1 TO (by simp) _ hTO⟩, SK.own_at h1 fun o q => k1 i1 (by simp) o q, SK.own_at h2 fun o q => k1 i2 (by simp) o q⟩
  rcases hz with hz | ⟨p, b, hz, o, hp⟩
  · exact .inl (k1 z (by simp) _ hz)
  · exact .inr ⟨p, b, k1 z (by simp) _ hz, k2 _ _ hp⟩
section
variable {X : Cx} {pins : List (Addr × Obj)} {σ : St} {H : Hp} {s : Shared} {A : Around} {E : Value → Shared → Prop} {κ1 κ2 : SK} {z TI TO i1 i2 : Addr}
theorem za_of {xs ys : List V} (hnd : [z, TI, TO, i1, i2].Nodup) (hf : ∀ b ∈ [z, TI, TO, i1, i2], FpOk X pins H b) (hx : κ1.has H xs) (hy : κ2.has H ys) : ZA z TI TO i1 i2 (i1 :: κ1.box) (i2 :: κ2.box) := by
  simp only [List.nodup_cons, List.mem_cons, List.not_mem_nil, or_false, not_or] at hnd
  obtain ⟨⟨n1, n2, n3, n4⟩, ⟨n5, n6, n7⟩, ⟨n8, n9⟩, n10, _⟩ := hnd
  have nb : ∀ {κ : SK} {zs : List V} {b it : Addr}, κ.has H zs → H b = none → b ≠ it → b ∉ it :: κ.box := fun {κ zs b it} hκ hb hne q => by
    rcases List.mem_cons.mp q with q | q
    · exact hne q
    · exact SK.box_some hκ q hb
  exact { TIz := Ne.symm n1, TOz := Ne.symm n2, i1z := Ne.symm n3, i2z := Ne.symm n4, TITO := n5, TIi1 := n6, TIi2 := n7, TOi1 := n8, TOi2 := n9, i12 := n10
          z1 := nb hx (hf z (by simp)).1 n3, z2 := nb hy (hf z (by simp)).1 n4, o1 := nb hx (hf TO (by simp)).1 n8, o2 := nb hy (hf TO (by simp)).1 n9, a1 := nb hx (hf i2 (by simp)).1 (Ne.symm n10), a2 := nb hy (hf i1 (by simp)).1 n10 }
theorem zip_step {k : Nat} {xs ys : List V} {x y : V} {Q : Option Value → Shared → Prop} (I : Inv X pins σ H s) (hnd : [z, TI, TO, i1, i2].Nodup) (hf : ∀ b ∈ [z, TI, TO, i1, i2], FpOk X pins H b) (st : ZSt κ1 κ2 z TI TO i1 i2 k s.heap)
    (hx : κ1.has H xs) (hy : κ2.has H ys) (hxi : xs[k]? = some x) (hyi : ys[k]? = some y) (hh : A.in1.handled = none)
    (h : ∀ h' tk, Inv X pins σ (upd H s.heap.objs.size (.tup [x, y])) { s with heap := h', toks := tk } → ZSt κ1 κ2 z TI TO i1 i2 (k + 1) h' → (∀ b ob, b ∉ [z, TI, TO, i1, i2] → s.heap.get? b = some ob → h'.get? b = some ob) → Q (some (.ref s.heap.objs.size)) { s with heap := h', toks := tk }) :
    wpAny (model X.prog X.w) A (pyNext (.ref z)) Q E s := by
  obtain ⟨hz, hTI, ⟨a, c, hTO⟩, h1, h2⟩ := st
  have l1 : k < xs.length := (List.getElem?_eq_some_iff.mp hxi).1
  have l2 : k < ys.length := (List.getElem?_eq_some_iff.mp hyi).1
  obtain ⟨P1, S1, D1, s1, r1, w1⟩ := sk_draws (A := A.in1) I hx h1 (hf i1 (by simp)).1 hh
  obtain ⟨P2, S2, D2, s2, r2, w2⟩ := sk_draws (A := A.in1) I hy h2 (hf i2 (by simp)).1 hh
  have Z := za_of hnd hf hx hy
  have fin : ∀ u v h' tk, P1 k u → P2 k v → ((IsZip h' z TI TO .none) ∨ ∃ p b, IsZipB h' z TI TO p b ∧ (∃ o, h'.get? p = some o)) → IsPair h' TI (.ref i1) (.ref i2) → (∃ a b, IsPair h' TO a b) → S1 (k + 1) h' → S2 (k + 1) h' → IsPair h' s.heap.objs.size u v →
      (∀ b ob, b ∉ [z, TI, TO, i1, i2] → s.heap.get? b = some ob → h'.get? b = some ob) → Q (some (.ref s.heap.objs.size)) { s with heap := h', toks := tk } := fun u v h' tk hu hv hz' hTI' hTO' s1' s2' hT' kk => by
    obtain ⟨x', hx', rx⟩ := r1 k u hu
    obtain ⟨y', hy', ry⟩ := r2 k v hv
    have ex : x' = x := Option.some.inj (hx'.symm.trans hxi)
    have ey : y' = y := Option.some.inj (hy'.symm.trans hyi)
    subst ex ey
    exact h h' tk (I.turnedNew (tk := tk) hf kk (Nat.le_refl _) ⟨⟨(by show 2 ≤ sizeLine; decide), _, hT', rfl⟩, [u, v], .cons rx (.cons ry .nil), _, hT', rfl, 0, rfl⟩) ⟨hz', hTI', hTO', w1 _ _ s1', w2 _ _ s2'⟩ kk
  have hT : s.TypeIs (.ref z) "zip" := by
    rcases hz with hz | ⟨p, b, hz, _⟩
    · exact ⟨_, hz, rfl⟩
    · exact ⟨_, hz, rfl⟩
  unfold pyNext
  refine wpAny_bind (wpAny_attempt (wpAny_callSpecial?_slot (name := Str.ofString "__next__") hT F.slot_zip_next (wpAny_call_entry F.slot_zip_next hT F.entry_zip_next ?_ (F.args_zip_next_1 _))))
  rcases hz with hz | ⟨p, b, hz, hp⟩
  · refine zip_next_itemD Z D1 D2 hz hTI hTO s1 s2 l1 l2 fun u v h' tk hu hv hz' hTO' s1' s2' hT' hsz hk => wpAny_pure (fin u v h' tk hu hv (.inr ⟨_, _, hz', _, hT'⟩) (hk _ _ Z.TIz Z.TITO Z.TIi1 Z.TIi2 hTI) ⟨_, _, hTO'⟩ s1' s2' hT' fun b ob hb q => hk b ob ?_ ?_ ?_ ?_ q) <;> (intro e; exact hb (by simp [e]))
  · refine zip_next_itemR Z D1 D2 hz hp hTI s1 s2 l1 l2 fun u v h' tk hu hv hz' s1' s2' hT' hsz hk => wpAny_pure (fin u v h' tk hu hv (.inr ⟨_, _, hz', ?_⟩) (hk _ _ Z.TIz Z.TIi1 Z.TIi2 hTI) ⟨_, _, hk _ _ Z.TOz Z.TOi1 Z.TOi2 hTO⟩ s1' s2' hT' fun b ob hb q => hk b ob ?_ ?_ ?_ q)
    · obtain ⟨o, hp⟩ := hp
      by_cases q1 : p = z
      · rw [q1]; exact ⟨_, hz'⟩
      · by_cases q2 : p = i1
        · obtain ⟨o, e, _⟩ := SK.own_obj (w1 _ _ s1'); rw [q2]; exact ⟨o, e⟩
        · by_cases q3 : p = i2
          · obtain ⟨o, e, _⟩ := SK.own_obj (w2 _ _ s2'); rw [q3]; exact ⟨o, e⟩
          · exact ⟨o, hk p o q1 q2 q3 hp⟩
    all_goals (intro e; exact hb (by simp [e]))
theorem zip_stop {xs ys : List V} {Q : Option Value → Shared → Prop} (I : Inv X pins σ H s) (hnd : [z, TI, TO, i1, i2].Nodup) (hf : ∀ b ∈ [z, TI, TO, i1, i2], FpOk X pins H b) (st : ZSt κ1 κ2 z TI TO i1 i2 xs.length s.heap)
    (hx : κ1.has H xs) (hy : κ2.has H ys) (hh : A.in1.handled = none)
    (h : ∀ h' tk, (∀ b ob, b ∉ [z, TI, TO, i1, i2] → s.heap.get? b = some ob → h'.get? b = some ob) → Q none { s with heap := h', toks := tk }) :
    wpAny (model X.prog X.w) A (pyNext (.ref z)) Q E s := by
  obtain ⟨hz, hTI, ⟨a, c, hTO⟩, h1, h2⟩ := st
  obtain ⟨P1, S1, D1, s1, r1, w1⟩ := sk_draws (A := A.in1) I hx h1 (hf i1 (by simp)).1 hh
  obtain ⟨P2, S2, D2, s2, r2, w2⟩ := sk_draws (A := A.in1) I hy h2 (hf i2 (by simp)).1 hh
  have Z := za_of hnd hf hx hy
  have hT : s.TypeIs (.ref z) "zip" := by
    rcases hz with hz | ⟨p, b, hz, _⟩
    · exact ⟨_, hz, rfl⟩
    · exact ⟨_, hz, rfl⟩
  unfold pyNext
  refine wpAny_bind (wpAny_attempt (wpAny_callSpecial?_slot (name := Str.ofString "__next__") hT F.slot_zip_next (wpAny_call_entry F.slot_zip_next hT F.entry_zip_next ?_ (F.args_zip_next_1 _))))
  rcases hz with hz | ⟨p, b, hz, hp⟩
  · refine zip_next_endD Z D1 D2 hz hTI hTO s1 s2 (.inl rfl) fun h' e tk hk he => ?_
    obtain ⟨o, ho, hcl⟩ := he
    refine wpAny_bind (wpAny_isInstance (T := "StopIteration") (b := true) ⟨o, ho, hcl⟩ isSubtype_stop ?_)
    exact wpAny_pure (h h' tk fun b ob hb q => hk b ob (fun e => hb (by simp [e])) (fun e => hb (by simp [e])) (fun e => hb (by simp [e])) (fun e => hb (by simp [e])) q)
  · refine zip_next_endR Z D1 hz hp hTI s1 rfl fun h' e tk hk he => ?_
    obtain ⟨o, ho, hcl⟩ := he
    refine wpAny_bind (wpAny_isInstance (T := "StopIteration") (b := true) ⟨o, ho, hcl⟩ isSubtype_stop ?_)
    exact wpAny_pure (h h' tk fun b ob hb q => hk b ob (fun e => hb (by simp [e])) (fun e => hb (by simp [e])) q)
end
/-- what was made: as many tuples as were walked, all new, all else as it was -/
def NewTups (H0 H : Hp) (as : List Addr) (xs ys : List V) : Prop :=
  as.Nodup ∧ (∀ b, b ∉ as → H b = H0 b) ∧ ∀ (i : Nat) (a : Addr), as[i]? = some a → H0 a = none ∧ ∃ x y, xs[i]? = some x ∧ ys[i]? = some y ∧ H a = some (.tup [x, y])
theorem NewTups.nil {H : Hp} {xs ys : List V} : NewTups H H [] xs ys := ⟨List.nodup_nil, fun _ _ => rfl, fun i a e => by simp at e⟩
theorem NewTups.same {H0 H : Hp} {as : List Addr} {xs ys : List V} (n : NewTups H0 H as xs ys) : Same H0 H := fun b u e => by
  have nb : b ∉ as := fun hb => by
    obtain ⟨i, hi⟩ := List.getElem?_of_mem hb
    rw [(n.2.2 i b hi).1] at e; cases e
  exact (n.2.1 b nb).trans e
theorem NewTups.push {H0 H : Hp} {as : List Addr} {xs ys : List V} {p : Addr} {x y : V} (n : NewTups H0 H as xs ys) (hp : H p = none) (hx : xs[as.length]? = some x) (hy : ys[as.length]? = some y) : NewTups H0 (upd H p (.tup [x, y])) (as ++ [p]) xs ys := by
  have np : p ∉ as := fun hm => by
    obtain ⟨i, hi⟩ := List.getElem?_of_mem hm
    obtain ⟨_, x, y, _, _, e⟩ := n.2.2 i p hi
    rw [hp] at e; cases e
  refine ⟨List.nodup_append.mpr ⟨n.1, by simp, fun a ha b hb => by simp at hb; subst hb; exact fun e => np (e ▸ ha)⟩, fun b hb => ?_, fun i a e => ?_⟩
  · have h1 : b ∉ as := fun q => hb (by simp [q])
    have h2 : b ≠ p := fun q => hb (by simp [q])
    rw [upd_ne h2]; exact n.2.1 b h1
  · rcases Nat.lt_or_ge i as.length with q | q
    · rw [List.getElem?_append_left q] at e
      obtain ⟨e1, x, y, e2, e3, e4⟩ := n.2.2 i a e
      exact ⟨e1, x, y, e2, e3, by rw [upd_ne (fun z => np (by rw [← z]; exact List.mem_of_getElem? e))]; exact e4⟩
    · have q0 : i = as.length := by
        have := (List.getElem?_eq_some_iff.mp e).1
        simp at this; omega
      subst q0
      have ea : p = a := by simpa using e
      subst ea
      exact ⟨by rw [← n.2.1 p np]; exact hp, x, y, hx, hy, upd_same⟩
section
variable {X : Cx} {pins : List (Addr × Obj)} {σ : St} {A : Around} {κ1 κ2 : SK} {z TI TO i1 i2 S : Addr} {xs ys : List V} {H0 : Hp} {res : Value} {R : Result → Shared → Prop} {g0 : Array GenState} {d0 : Drawn} {o0 : OsState}
theorem sk_same {κ : SK} {H H' : Hp} {xs : List V} (s : Same H H') (x : κ.has H xs) : κ.has H' xs := by
  cases κ with
  | lst a => exact Or.imp (s _ _) (fun ⟨o, q⟩ => ⟨o, s _ _ q⟩) x
  | tup a => exact Or.imp (s _ _) (fun ⟨o, q⟩ => ⟨o, s _ _ q⟩) x
  | str z => exact x
theorem zip_loop (hnd : [z, TI, TO, i1, i2].Nodup) (hS : S ∉ [z, TI, TO, i1, i2]) (hh : A.in1.in1.handled = none) (hx0 : κ1.has H0 xs) (hy0 : κ2.has H0 ys) (hl : xs.length = ys.length) (hz : xs.length ≤ sizeLine)
    (fin : ∀ (H' : Hp) (s' : Shared) (as : List Addr) (c : Nat), Inv X pins σ H' s' → FpOk X pins H' S → NewTups H0 H' as xs ys → as.length = xs.length → s'.heap.get? S = some (seqObj "list" (as.map Value.ref).toArray c) → R (.ok (.ret res)) s') :
    ∀ (m k : Nat) (H : Hp) (s : Shared) (as : List Addr) (c : Nat), xs.length - k = m → k ≤ xs.length → Inv X pins σ H s → (∀ b ∈ S :: [z, TI, TO, i1, i2], FpOk X pins H b) → ZSt κ1 κ2 z TI TO i1 i2 k s.heap → NewTups H0 H as xs ys → as.length = k →
      s.heap.get? S = some (seqObj "list" (as.map Value.ref).toArray c) → codeAny (model X.prog X.w) A (.builtin "list.extend.loop" ⟨[.ref S, .ref z, res], []⟩) R s
  | 0, k, H, s, as, c, hm, hk, I, hf, st, nt, la, hS0 => by
    have ek : k = xs.length := by omega
    subst ek
    refine codeAny_builtin entry_extLoop ?_
    rw [Around.under_plainId plain_extLoop _]
    show wpAny _ _ (pyNext (.ref z) >>= _) _ _ _
    have hf5 : ∀ b ∈ [z, TI, TO, i1, i2], FpOk X pins H b := fun b hb => hf b (List.mem_cons_of_mem _ hb)
    refine wpAny_bind (zip_stop I hnd hf5 st (sk_same nt.same hx0) (sk_same nt.same hy0) hh fun h' tk kk => wpAny_pure ?_)
    exact fin H _ as c (I.turnedMany (tk := tk) hf5 kk) (hf S (by simp)) nt la (kk S _ hS hS0)
  | m + 1, k, H, s, as, c, hm, hk, I, hf, st, nt, la, hS0 => by
    have lk : k < xs.length := by omega
    have lk2 : k < ys.length := by omega
    refine codeAny_builtin entry_extLoop ?_
    rw [Around.under_plainId plain_extLoop _]
    show wpAny _ _ (pyNext (.ref z) >>= _) _ _ _
    have hf5 : ∀ b ∈ [z, TI, TO, i1, i2], FpOk X pins H b := fun b hb => hf b (List.mem_cons_of_mem _ hb)
    refine wpAny_bind (zip_step I hnd hf5 st (sk_same nt.same hx0) (sk_same nt.same hy0) (List.getElem?_eq_getElem lk) (List.getElem?_eq_getElem lk2) hh fun h' tk I' st' kk => ?_)
    have hS1 : h'.get? S = some (seqObj "list" (as.map Value.ref).toArray c) := kk S _ hS hS0
    have pS : s.heap.objs.size ≠ S := Nat.ne_of_gt (Heap.lt_size hS0)
    refine wpAny_bind (listUpdate_at (s := { s with heap := h', toks := tk }) (a := S) hS1 rfl (wpAny_pure ⟨plainId_quiet plain_extLoop _, ?_⟩) (by rw [List.size_toArray, List.length_map]; omega) (by rw [Array.size_push, List.size_toArray, List.length_map]; omega))
    have fp : ∀ b ∈ S :: [z, TI, TO, i1, i2], FpOk X pins (upd H s.heap.objs.size (.tup [xs[k], ys[k]])) b := fun b hb => by
      refine ⟨?_, (hf b hb).2⟩
      have : b ≠ s.heap.objs.size := by
        obtain ⟨hz, hTI, ⟨a, c, hTO⟩, h1, h2⟩ := st
        simp only [List.mem_cons, List.not_mem_nil, or_false] at hb
        rcases hb with rfl | rfl | rfl | rfl | rfl | rfl
        · exact Ne.symm pS
        · rcases hz with hz | ⟨_, _, hz, _⟩ <;> exact Nat.ne_of_lt (Heap.lt_size hz)
        · exact Nat.ne_of_lt (Heap.lt_size hTI)
        · exact Nat.ne_of_lt (Heap.lt_size hTO)
        · obtain ⟨o, e, _⟩ := SK.own_obj h1; exact Nat.ne_of_lt (Heap.lt_size e)
        · obtain ⟨o, e, _⟩ := SK.own_obj h2; exact Nat.ne_of_lt (Heap.lt_size e)
      rw [upd_ne this]; exact (hf b hb).1
    have ku : ∀ b o, b ≠ S → h'.get? b = some o → (h'.update S (Obj.mapSeq fun v => v.push (.ref s.heap.objs.size))).get? b = some o := fun b o hb e => (Heap.get?_update_ne _ _ _ _ hb).trans e
    have ee : (as.map Value.ref).toArray.push (.ref s.heap.objs.size) = ((as ++ [s.heap.objs.size]).map Value.ref).toArray := by simp
    obtain ⟨c', hS2⟩ : ∃ c', (h'.update S (Obj.mapSeq fun v => v.push (.ref s.heap.objs.size))).get? S = some (seqObj "list" ((as ++ [s.heap.objs.size]).map Value.ref).toArray c') := ⟨_, by rw [← ee]; exact get?_update_seq hS1 fun v => v.push (.ref s.heap.objs.size)⟩
    refine zip_loop hnd hS hh hx0 hy0 hl hz fin m (k + 1) _ { s with heap := h'.update S (Obj.mapSeq fun v => v.push (.ref s.heap.objs.size)), toks := tk } (as ++ [s.heap.objs.size]) c' (by omega) lk (I'.turnedMany (tk := tk) (ch := [S]) (fun b hb => fp b (by simp at hb; simp [hb])) fun b ob hb q => ku b ob (fun z => hb (by simp [z])) q) fp
      (st'.keep (fun b hb o e => ku b o (fun z => hS (z ▸ hb)) e) fun b o e => ?_) (nt.push (I.hok.fresh (Nat.le_refl _)) (by rw [la]; exact List.getElem?_eq_getElem lk) (by rw [la]; exact List.getElem?_eq_getElem lk2)) (by simp [la]) hS2
    · by_cases q : b = S
      · rw [q]; exact ⟨_, hS2⟩
      · exact ⟨o, ku b o q e⟩
end
end L2


set_option Elab.async false
set_option linter.all false
set_option maxRecDepth 100000
set_option maxHeartbeats 4000000
/-! sorted(zip(texts, tuples)), list(zip(.., ..)) -/
namespace L2
open PySem PySem.Spec PyProof.Rows PySem.W Tim
section
variable {prog : Program} {w : World} {A : Around} {E : Value → Shared → Prop} {s : Shared}
theorem hint_zip {r : Addr} {Q : Bool → Shared → Prop} (hT : s.TypeIs (.ref r) "zip") (h : Q true s) : wpAny (model prog w) A (Builtin.List.listLengthHint (.ref r)) Q E s := by
  unfold Builtin.List.listLengthHint
  refine wpAny_bind (wpAny_specialOf hT (r := none) (by kernel_rfl) ?_)
  dsimp only
  refine wpAny_bind (wpAny_specialOf hT (r := none) (by kernel_rfl) ?_)
  exact wpAny_pure h
end
section
variable {X : Cx} {pins : List (Addr × Obj)} {σ : St} {H : Hp} {s : Shared} {A : Around} {E : Value → Shared → Prop} {κ1 κ2 : SK} {z TI TO i1 i2 : Addr} {xs ys : List V}
theorem ZSt.zip {k : Nat} {h : Heap} (x : ZSt κ1 κ2 z TI TO i1 i2 k h) : ∃ o, h.get? z = some o ∧ o.cls = .type "zip" := by
  rcases x.1 with e | ⟨_, _, e, _⟩
  · exact ⟨_, e, rfl⟩
  · exact ⟨_, e, rfl⟩
/-- the list at S, which is empty, takes all that the zip brings -/
theorem zip_extend {S : Addr} {c : Nat} {res : Value} {R : Result → Shared → Prop} (I : Inv X pins σ H s) (hnd : [z, TI, TO, i1, i2].Nodup) (hS : S ∉ [z, TI, TO, i1, i2]) (hf : ∀ b ∈ S :: [z, TI, TO, i1, i2], FpOk X pins H b) (st : ZSt κ1 κ2 z TI TO i1 i2 0 s.heap) (hz0 : IsZip s.heap z TI TO .none)
    (hx : κ1.has H xs) (hy : κ2.has H ys) (hl : xs.length = ys.length) (hz : xs.length ≤ sizeLine) (hh : A.in1.in1.handled = none) (hS0 : s.heap.get? S = some (seqObj "list" #[] c))
    (fin : ∀ (H' : Hp) (s' : Shared) (as : List Addr) (c : Nat), Inv X pins σ H' s' → FpOk X pins H' S → NewTups H H' as xs ys → as.length = xs.length → s'.heap.get? S = some (seqObj "list" (as.map Value.ref).toArray c) → R (.ok (.ret res)) s') :
    wpAny (model X.prog X.w) A.in1 (Builtin.List.listExtendWith (.ref S) (.ref z) res) (fun fin s' => match fin with | .done f => R (.ok f) s' | .again c' => c'.quiet = true ∧ codeAny (model X.prog X.w) A c' R s') (fun e s' => R (.error e) s') s := by
  obtain ⟨oz, hoz, hcz⟩ := st.zip
  have hT : s.TypeIs (.ref z) "zip" := ⟨oz, hoz, hcz⟩
  have nSz : S ≠ z := fun e => hS (by simp [e])
  unfold Builtin.List.listExtendWith
  refine wpAny_bind (wpAny_typeOf hT ?_)
  rw [if_neg (by
    have : (S == z) = false := by simpa using nSz
    show ¬ (((S == z) || _ || _) = true)
    rw [this]; decide)]
  refine wpAny_bind (wpAny_pyIter_zip hz0 ?_)
  refine wpAny_bind (wpAny_holding (hint_zip hT ?_))
  simp only [Bool.true_or, if_true]
  refine wpAny_bind (wpAny_rule (wpAny_bind ?_))
  unfold Builtin.List.listTouch
  refine wpAny_bind (listUpdate_at hS0 rfl ?_ (Nat.zero_le _) (by show 1 ≤ _; rw [sizeLine_eq]; omega))
  obtain ⟨c1, hS1⟩ : ∃ c1, (s.heap.update S (Obj.mapSeq fun x => x.push .none)).get? S = some (seqObj "list" #[Value.none] c1) := ⟨_, get?_update_seq hS0 fun x => x.push Value.none⟩
  refine listUpdate_at (s := { s with heap := s.heap.update S (Obj.mapSeq fun x => x.push .none) }) hS1 rfl ?_ (by show 1 ≤ _; rw [sizeLine_eq]; omega) (Nat.zero_le _)
  obtain ⟨c2, hS2⟩ : ∃ c2, ((s.heap.update S (Obj.mapSeq fun x => x.push .none)).update S (Obj.mapSeq fun x => x.pop)).get? S = some (seqObj "list" #[] c2) := ⟨_, get?_update_seq hS1 fun x => x.pop⟩
  refine wpAny_pure ⟨plainId_quiet plain_extLoop _, ?_⟩
  have ku : ∀ b o, b ≠ S → s.heap.get? b = some o → ((s.heap.update S (Obj.mapSeq fun x => x.push .none)).update S (Obj.mapSeq fun x => x.pop)).get? b = some o := fun b o hb e => (Heap.get?_update_ne _ _ _ _ hb).trans ((Heap.get?_update_ne _ _ _ _ hb).trans e)
  refine zip_loop hnd hS hh hx hy hl hz fin xs.length 0 H { s with heap := (s.heap.update S (Obj.mapSeq fun x => x.push .none)).update S (Obj.mapSeq fun x => x.pop) } [] c2 rfl (Nat.zero_le _) (I.turnedMany (tk := s.toks) (ch := [S]) (fun b hb => hf b (by simp at hb; simp [hb])) fun b ob hb q => ku b ob (fun z => hb (by simp [z])) q) hf
    (st.keep (fun b hb o e => ku b o (fun z => hS (z ▸ hb)) e) fun b o e => ?_) NewTups.nil rfl hS2
  by_cases q : b = S
  · rw [q]; exact ⟨_, hS2⟩
  · exact ⟨o, ku b o q e⟩
/-- zip(a, b), as a value of its own -/
theorem ev_zip {a b : Expr} {ta : TA} {p pos : Pos} {R : SK → SK → List V → List V → Hp → Prop} (hg : Gl X "zip") (hm : X.mg "zip" = none) (ha : PA X [a, b] ta) (I : Inv X pins σ H s)
    (h : ta σ H fun vs H1 => ∃ (κ1 κ2 : SK) (xs ys : List V), vs = [κ1.val, κ2.val] ∧ κ1.has H1 xs ∧ κ2.has H1 ys ∧ R κ1 κ2 xs ys H1)
    (hs : starEach [a, b] X.env = [(false, eval a X.env), (false, eval b X.env)] := by rfl) (hs2 : starEach [b] X.env = [(false, eval b X.env)] := by rfl) :
    wpAny (model X.prog X.w) X.A (eval (.Call (.Name "zip" p) [a, b] [] pos) X.env) (fun u s' => ∃ (z TI TO i1 i2 : Addr) (κ1 κ2 : SK) (xs ys : List V) (H1 : Hp), u = .ref z ∧ Inv X pins σ H1 s' ∧ [z, TI, TO, i1, i2].Nodup ∧ (∀ b ∈ [z, TI, TO, i1, i2], FpOk X pins H1 b) ∧
      ZSt κ1 κ2 z TI TO i1 i2 0 s'.heap ∧ IsZip s'.heap z TI TO .none ∧ κ1.has H1 xs ∧ κ2.has H1 ys ∧ R κ1 κ2 xs ys H1) X.xe s := by
  refine Call_ (ld_blt I hg hm boot_zip (PyProof.Rows.callWith_type1 (thn (ha pos pins s σ H _ I h) fun us s1 ⟨vs, H1, I1, r1, q1⟩ => ?_) (by rw [hs, hs2]) (by rw [hs2]; rfl)))
  obtain ⟨κ1, κ2, xs, ys, e, hx, hy, q⟩ := q1
  subst e
  obtain ⟨u, v, rfl, ru, rv⟩ := vals2 r1
  refine call_zipG (itObj_live u κ1) (itObj_live v κ2) (sk_iters I1 hx ru) (sk_iters I1 hy rv) fun h' hz hTI hTO h1 h2 hk => ?_
  refine ⟨s1.heap.objs.size + 4, s1.heap.objs.size + 2, s1.heap.objs.size + 3, s1.heap.objs.size, s1.heap.objs.size + 1, κ1, κ2, xs, ys, H1, rfl, I1.kept (t' := s1.toks) hk, by simp, fun b hb => ?_, ⟨.inl hz, hTI, ⟨_, _, hTO⟩, sk_own0 (h' := h') ru h1, sk_own0 (h' := h') rv h2⟩, hz, hx, hy, q⟩
  have hge : s1.heap.objs.size ≤ b := by
    simp only [List.mem_cons, List.not_mem_nil, or_false] at hb
    rcases hb with rfl | rfl | rfl | rfl | rfl <;> first | exact Nat.le_add_right _ _ | exact Nat.le_refl _
  exact I1.fpOk hge (I1.hok.fresh hge)
end
end L2


set_option Elab.async false
set_option linter.all false
set_option maxRecDepth 100000
set_option maxHeartbeats 4000000
/-! max(a list, key=lambda x: ..) -/
namespace L2
open PySem PySem.Spec PyProof.Rows PySem.W
/-- the first of the greatest among the first j -/
def Best (kf : Nat → Int) (b j : Nat) : Prop := b < j ∧ ∀ i, i < j → kf i ≤ kf b ∧ (i < b → kf i < kf b)
theorem Best.one (kf : Nat → Int) : Best kf 0 1 := ⟨by omega, fun i hi => ⟨by rw [show i = 0 by omega]; exact Int.le_refl _, fun h => by omega⟩⟩
theorem Best.stay {kf : Nat → Int} {b j : Nat} (h : Best kf b j) (hn : ¬ kf b < kf j) : Best kf b (j + 1) := ⟨by have := h.1; omega, fun i hi => by
  rcases Nat.lt_or_ge i j with q | q
  · exact h.2 i q
  · have : i = j := by omega
    subst this
    exact ⟨by omega, fun z => by have := h.1; omega⟩⟩
theorem Best.new {kf : Nat → Int} {b j : Nat} (h : Best kf b j) (hn : kf b < kf j) : Best kf j (j + 1) := ⟨by omega, fun i hi => by
  rcases Nat.lt_or_ge i j with q | q
  · have := (h.2 i q).1
    exact ⟨by omega, fun _ => by omega⟩
  · have : i = j := by omega
    subst this
    exact ⟨Int.le_refl _, fun z => by omega⟩⟩
section
variable {X : Cx} {pins : List (Addr × Obj)} {σ : St}
variable {A : Around} {R : Result → Shared → Prop} {H0 : Hp} {a fa S It : Addr} {xs : List V} {kf : Nat → Int}
end
section
variable {X : Cx}
end
end L2


set_option Elab.async false
set_option linter.all false
set_option maxRecDepth 100000
set_option maxHeartbeats 4000000
/-! list(zip(.., ..)), tuple(range(..)), t[::-1], == of tuples that hold tuples, tuple.count of truths -/
namespace L2
open PySem PySem.Spec PyProof.Rows PySem.W
section
variable {X : Cx}
def tListZ (ta : TA) : TE := fun σ H Q => ta σ H fun vs H1 => ∃ (κ1 κ2 : SK) (xs ys : List V), vs = [κ1.val, κ2.val] ∧ κ1.has H1 xs ∧ κ2.has H1 ys ∧ xs.length = ys.length ∧ xs.length ≤ 10000 ∧
  ∀ (as : List Addr) (H2 : Hp) (l : Addr), NewTups H1 H2 as xs ys → as.length = xs.length → H1 l = none → H2 l = none → Q (.ref l) (upd H2 l (.lst (as.map V.ref)))
theorem pe_listZ {a b : Expr} {ta : TA} {p p2 pos pos2 : Pos} (hcalm : X.calm = true) (hg : Gl X "list") (hm : X.mg "list" = none) (hg2 : Gl X "zip") (hm2 : X.mg "zip" = none) (ha : PA X [a, b] ta)
    (hs0 : starEach [.Call (.Name "zip" p2) [a, b] [] pos2] X.env = [(false, eval (.Call (.Name "zip" p2) [a, b] [] pos2) X.env)] := by rfl)
    (hs : starEach [a, b] X.env = [(false, eval a X.env), (false, eval b X.env)] := by rfl) (hs2 : starEach [b] X.env = [(false, eval b X.env)] := by rfl) :
    PE X (.Call (.Name "list" p) [.Call (.Name "zip" p2) [a, b] [] pos2] [] pos) (tListZ ta) := by
  intro pins s σ H Q I h
  have h' : ta σ H fun vs H1 => ∃ (κ1 κ2 : SK) (xs ys : List V), vs = [κ1.val, κ2.val] ∧ κ1.has H1 xs ∧ κ2.has H1 ys ∧ (xs.length = ys.length ∧ xs.length ≤ 10000 ∧
    ∀ (as : List Addr) (H2 : Hp) (l : Addr), NewTups H1 H2 as xs ys → as.length = xs.length → H1 l = none → H2 l = none → Q (.ref l) (upd H2 l (.lst (as.map V.ref)))) := h
  refine Call_ (ld_blt I hg hm bt_list ?_)
  refine PyProof.Rows.callWith_type1 ?_ hs0 rfl
  rw [hs0]
  show wpAny _ _ (spliced [(false, eval (.Call (.Name "zip" p2) [a, b] [] pos2) X.env)]) _ _ s
  refine Calls.spliced_cons (thn (ev_zip (R := fun _ _ xs ys H1 => xs.length = ys.length ∧ xs.length ≤ 10000 ∧ ∀ (as : List Addr) (H2 : Hp) (l : Addr), NewTups H1 H2 as xs ys → as.length = xs.length → H1 l = none → H2 l = none → Q (.ref l) (upd H2 l (.lst (as.map V.ref)))) (p := p2) (pos := pos2) hg2 hm2 ha I h' hs hs2) fun u s1 hu => Calls.spliced_nil ?_)
  obtain ⟨z, TI, TO, i1, i2, κ1, κ2, xs, ys, H1, rfl, I1, hnd, hf, st, hz0, hx, hy, hl, hz, q⟩ := hu
  have hh : X.A.in1.handled = none := I.ok.hd hcalm
  have lsz : xs.length ≤ sizeLine := by rw [sizeLine_eq]; omega
  have nS : s1.heap.objs.size ∉ [z, TI, TO, i1, i2] := fun hb => by
    obtain ⟨_, hTI, ⟨a, c, hTO⟩, h1, h2⟩ := st
    simp only [List.mem_cons, List.not_mem_nil, or_false] at hb
    rcases hb with e | e | e | e | e
    · exact Nat.lt_irrefl _ (e ▸ Heap.lt_size hz0)
    · exact Nat.lt_irrefl _ (e ▸ Heap.lt_size hTI)
    · exact Nat.lt_irrefl _ (e ▸ Heap.lt_size hTO)
    · obtain ⟨o, e1, _⟩ := SK.own_obj h1; exact Nat.lt_irrefl _ (e ▸ Heap.lt_size e1)
    · obtain ⟨o, e1, _⟩ := SK.own_obj h2; exact Nat.lt_irrefl _ (e ▸ Heap.lt_size e1)
  refine callType_codes F.called_list (F.typeCall_list_1 _) F.entry_list_init (code_list_new _ (Q₁ := fun obj s' => obj = .ref s1.heap.objs.size ∧ s' = { s1 with heap := s1.heap.push { cls := .type "list", data := .seq #[] } }) ⟨rfl, rfl⟩) ?_
  rintro obj s' ⟨rfl, rfl⟩
  have hS₁ : (s1.heap.push { cls := .type "list", data := .seq #[] }).get? s1.heap.objs.size = some (seqObj "list" #[] 0) := Heap.get?_push_size _ rfl
  have old : ∀ b o, s1.heap.get? b = some o → (s1.heap.push { cls := .type "list", data := .seq #[] }).get? b = some o := fun b o e => Heap.get?_push_of_some _ e
  refine ⟨⟨_, hS₁, rfl⟩, F.args_list_init_2 _ _, ?_⟩
  show wpAny _ _ (Builtin.List.listItems (.ref s1.heap.objs.size) >>= _) _ _ _
  refine wpAny_bind (listItems_at (a := s1.heap.objs.size) (s := { s1 with heap := s1.heap.push { cls := .type "list", data := .seq #[] } }) hS₁ rfl ?_)
  refine wpAny_bind (listUpdate_at (a := s1.heap.objs.size) (s := { s1 with heap := s1.heap.push { cls := .type "list", data := .seq #[] } }) hS₁ rfl ?_ (Nat.zero_le _) (Nat.zero_le _))
  refine wpAny_bind (wpAny_letGo ?_)
  obtain ⟨c2, hS2⟩ : ∃ c2, ((s1.heap.push { cls := .type "list", data := .seq #[] }).update s1.heap.objs.size (Obj.mapSeq fun _ => #[])).get? s1.heap.objs.size = some (seqObj "list" #[] c2) := ⟨_, get?_update_seq hS₁ fun _ => #[]⟩
  have old2 : ∀ b o, s1.heap.get? b = some o → ((s1.heap.push { cls := .type "list", data := .seq #[] }).update s1.heap.objs.size (Obj.mapSeq fun _ => #[])).get? b = some o := fun b o e => (Heap.get?_update_ne _ _ _ _ (Nat.ne_of_lt (Heap.lt_size e))).trans (old b o e)
  have fS : FpOk X pins H1 s1.heap.objs.size := I1.fpOk (Nat.le_refl _) (I1.hok.fresh (Nat.le_refl _))
  refine zip_extend (A := X.A.in1) (res := .none) (s := { s1 with heap := (s1.heap.push { cls := .type "list", data := .seq #[] }).update s1.heap.objs.size (Obj.mapSeq fun _ => #[]), toks := s1.toks }) (I1.kept (t' := s1.toks) old2) hnd nS (fun b hb => ?_) (st.keep (fun b _ o e => old2 b o e) fun b o e => ⟨o, old2 b o e⟩) (old2 _ _ hz0) hx hy hl lsz hh hS2 fun H' s' as c I' fS' nt la hS' => ⟨rfl, ?_⟩
  · rcases List.mem_cons.mp hb with e | e
    · rw [e]; exact fS
    · exact hf b e
  · have J := I'.adopt (t' := s'.toks) (o := .lst (as.map V.ref)) (h' := s'.heap) fS' (fun b u _ e => e) ⟨by rw [List.length_map, la]; exact lsz, as.map Value.ref, c, refs_vals as, hS'⟩ hS'
    exact ⟨.ref s1.heap.objs.size, _, J, rfl, q as H' _ nt la fS.1 fS'.1⟩
/-! ### tuple(range(..)) -/
theorem meets_tuple_rng (r : Addr) (lo hi : Int) (t u v : Tok) (n : Nat) : Meets (Builtin.«tuple.__new__» ⟨[.type "tuple", .ref r], []⟩) (fun A R s => A.handled = none ∧ IsRange s.heap r lo hi 1 t u v ∧ Builtin.Range.small lo hi 1 = true ∧ Builtin.Range.rangeSize lo hi 1 = n ∧ n ≤ 2 ^ 24 ∧
    ∀ (h' : Heap) (tk : Nat) (acc : Array Value), (∀ b o, s.heap.get? b = some o → h'.get? b = some o) → s.heap.objs.size ≤ h'.objs.size → ItemsOf (fun i v => ∃ t, v = .int (lo + i * 1) t) acc n → R (.ok (.ret (.ref h'.objs.size))) { s with heap := h'.push { cls := .type "tuple", data := .seq acc }, toks := tk }) :=
  .of_wp fun prog w A R s h => by
    obtain ⟨hh, hr, h1, h2, h3, h⟩ := h
    have hT : s.TypeIs (.ref r) "range" := ⟨_, hr, rfl⟩
    have g : ∀ (Q : List Value → Shared → Prop) (E : Value → Shared → Prop), (∀ (h' : Heap) (tk : Nat) (acc : Array Value), (∀ b o, s.heap.get? b = some o → h'.get? b = some o) → s.heap.objs.size ≤ h'.objs.size → ItemsOf (fun i v => ∃ t, v = .int (lo + i * 1) t) acc n → Q acc.toList { s with heap := h', toks := tk }) → wpAny (model prog w) A.in1 (collect (.ref r)) Q E s := fun Q E q => collect_rng (A := A.in1) hh hr h1 h2 h3 q
    have f2 := AutoSeq1.sub_tuple_tuple
    have f3 : Bind.madeHere "tuple.__new__" (.type "tuple") = pure () := by kernel_rfl
    have f4 := F.called_tuple.init.lookup
    wp_walk using g _ _
    intro h' tk acc kp sz it
    refine wpAny_bind (wpAny_pure ?_)
    show wpAny _ _ (newTuple acc.toList >>= _) _ _ _
    refine wpAny_bind (wpAny_newTuple (wpAny_pure ⟨_, rfl, h h' tk acc kp sz it⟩) ?_)
    rw [Array.length_toList, it.1, sizeLine_eq]; exact h3
theorem call_tuple_rng (hc : X.calm = true) : CallR X (.type "tuple") (fun xs H Q => ∃ (r : Addr) (lo hi : Int), xs = [.ref r] ∧ H r = some (.rng lo hi) ∧ (-(2 ^ 62) ≤ lo ∧ lo < 2 ^ 62 ∧ -(2 ^ 62) ≤ hi ∧ hi < 2 ^ 62) ∧ (hi - lo).toNat ≤ 1000 ∧ ∀ l, H l = none → Q (.ref l) (upd H l (.tup (rngV lo (hi - lo).toNat)))) := by
  intro pins s σ H xs us Q I r h
  obtain ⟨a, lo, hi, rfl, hr, ⟨l1, l2, l3, l4⟩, hn, q⟩ := h
  obtain ⟨u, rfl, rx⟩ := vals1 r
  cases rx
  obtain ⟨t, t', t'', hr2⟩ := I.hok a _ hr
  have en : Builtin.Range.rangeSize lo hi 1 = (((hi - lo).toNat : Nat) : Int) := by rw [rangeSize_one]; split <;> omega
  refine callType_new F.called_tuple (by decide) (F.typeCall_tuple_1 _) (F.newCall_tuple_1 _) (fun obj => F.args_object_init_2 obj _) F.entry_tuple_new (meets_tuple_rng a lo hi t t' t'' (hi - lo).toNat) ⟨I.ok.hd hc, hr2, small_one l1 l2 l3 l4, en, by omega, fun h' tk acc kp sz hacc => ⟨⟨_, Heap.get?_push_size _ rfl, rfl⟩, ?_⟩⟩
  have v := rng_vals hacc
  have ls : (rngV lo (hi - lo).toNat).length ≤ sizeLine := by
    rw [List.length_map, List.length_range]
    exact Nat.le_of_lt (Nat.lt_of_le_of_lt hn (by decide +kernel))
  have I1 : Inv X pins σ H { s with heap := h', toks := tk } := I.kept (t' := tk) kp
  have et : (h'.push { cls := .type "tuple", data := .seq acc }).get? h'.objs.size = some { cls := .type "tuple", data := .seq acc } := Heap.get?_push_size _ rfl
  exact ⟨.ref h'.objs.size, _, I1.laid (t' := tk) (o := .tup (rngV lo (hi - lo).toNat)) (fun b o e => Heap.get?_push_of_some _ e) (Nat.le_refl _) ⟨⟨ls, _, et, rfl⟩, acc.toList, v, _, et, rfl, 0, by simp⟩, rfl, q _ (I1.hok.fresh (Nat.le_refl _))⟩
end
end L2


set_option Elab.async false
set_option linter.all false
set_option maxRecDepth 100000
set_option maxHeartbeats 4000000
/-! t[::-1] of tuples -/
namespace L2
open PySem PySem.Spec PyProof.Rows PySem.W
theorem rev_pick (items : Array Value) : (List.filterMap (fun k : Nat => items[((items.size : Int) - 1 + (k : Int) * -1).toNat]?) (List.range items.size)) = items.toList.reverse := by
  apply List.ext_getElem?
  intro i
  have e : (List.range items.size).filterMap (fun k : Nat => items[((items.size : Int) - 1 + (k : Int) * -1).toNat]?) = (List.range items.size).map fun k => items.getD (items.size - 1 - k) .none := by
    have go : ∀ l : List Nat, (∀ k ∈ l, k < items.size) → l.filterMap (fun k : Nat => items[((items.size : Int) - 1 + (k : Int) * -1).toNat]?) = l.map fun k => items.getD (items.size - 1 - k) .none := fun l => by
      induction l with
      | nil => intro _; rfl
      | cons k l ih =>
        intro hl
        have hk := hl k List.mem_cons_self
        rw [List.filterMap_cons, List.map_cons, ih fun x hx => hl x (List.mem_cons_of_mem _ hx), show ((items.size : Int) - 1 + (k : Int) * -1).toNat = items.size - 1 - k by omega, Array.getElem?_eq_getElem (by omega), Array.getD_eq_getD_getElem?, Array.getElem?_eq_getElem (by omega)]
        rfl
    exact go _ fun k hk => List.mem_range.mp hk
  rw [e, List.getElem?_map]
  rcases Nat.lt_or_ge i items.size with c | c
  · rw [List.getElem?_range c, List.getElem?_reverse (by simpa using c), Array.length_toList, Array.getElem?_toList, Array.getElem?_eq_getElem (by omega)]
    show some (items.getD (items.size - 1 - i) .none) = some _
    rw [Array.getD_eq_getD_getElem?, Array.getElem?_eq_getElem (by omega)]; rfl
  · rw [List.getElem?_eq_none (by simpa using c), List.getElem?_eq_none (by simpa using c)]; rfl
theorem places_rev (n : Nat) : Builtin.Slice.slicePlaces ((n : Int) - 1) (-1) (-1) = n := by
  unfold Builtin.Slice.slicePlaces
  rw [if_neg (by decide)]
  split
  · rename_i h
    have : ((n : Int) - 1 - -1 - 1) / - -1 = (n : Int) - 1 := by
      rw [show (- -1 : Int) = 1 by decide, Int.ediv_one]; omega
    rw [this]; omega
  · omega
section
variable {prog : Program} {w : World} {A : Around} {E : Value → Shared → Prop} {s : Shared}
theorem part_none {Q : Option Int → Shared → Prop} (h : Q none s) : wpAny (model prog w) A (Builtin.Slice.slicePartIndex .none) Q E s := wpAny_pure h
theorem part_int {i : Int} {tk : Tok} {Q : Option Int → Shared → Prop} (h : Q (some i) s) : wpAny (model prog w) A (Builtin.Slice.slicePartIndex (.int i tk)) Q E s := by
  unfold Builtin.Slice.slicePartIndex
  rw [if_neg (by show ¬ (false = true); decide)]
  refine wpAny_bind (wpAny_specialOf_val (T := "int") rfl (r := some (.builtin "int.__index__")) (by kernel_rfl) ?_)
  rw [if_neg (by decide)]
  show wpAny _ _ (pure i >>= _) _ _ _
  exact wpAny_bind (wpAny_pure (wpAny_pure h))
theorem getItem_tuple_rev {t sl : Addr} {items : Array Value} {tk : Tok} {Q : Value → Shared → Prop} (ht : IsTup s.heap t items) (hs : s.heap.get? sl = some { cls := .type "slice", data := .fields #[.none, .none, .int (-1) tk] }) (hz : items.size ≤ sizeLine)
    (h : Q (.ref s.heap.objs.size) { s with heap := s.heap.push { cls := .type "tuple", data := .seq items.toList.reverse.toArray } }) : wpAny (model prog w) A (getItem (.ref t) (.ref sl)) Q E s := by
  have hT : s.TypeIs (.ref t) "tuple" := ht.typeIs
  have hTs : s.TypeIs (.ref sl) "slice" := ⟨_, hs, rfl⟩
  refine wpAny_getItem_slot hT (by decide) PyProof.Rows.slot_tuple_getitem (wpAny_call_entry PyProof.Rows.slot_tuple_getitem hT PyProof.Rows.entry_tuple_getitem ?_ (PyProof.Rows.args_tuple_getitem _ _))
  obtain ⟨o, ho, hc, n, hd⟩ := id ht
  have f1 : wpAny (model prog w) A.in1 (Builtin.Slice.sliceApplied (.ref sl) (pure (items.size : Int))) (fun r s' => r = ((items.size : Int) - 1, -1, items.size) ∧ s' = s) E s := by
    unfold Builtin.Slice.sliceApplied Builtin.Slice.sliceFields
    refine wpAny_bind (wpAny_bind (wpAny_field hs rfl (x := .none) rfl (wpAny_bind (wpAny_field hs rfl (x := .none) rfl (wpAny_bind (wpAny_field hs rfl (x := .int (-1) tk) rfl (wpAny_pure ?_)))))))
    dsimp only
    refine wpAny_bind (part_int ?_)
    show wpAny _ _ (Builtin.Slice.slicePartIndex .none >>= _) _ _ _
    refine wpAny_bind (part_none ?_)
    refine wpAny_bind (part_none ?_)
    refine wpAny_bind (wpAny_pure ?_)
    show wpAny _ _ (pure ((items.size : Int) - 1, (-1 : Int), Builtin.Slice.slicePlaces ((items.size : Int) - 1) (-1) (-1))) _ _ _
    rw [places_rev]
    exact wpAny_pure ⟨rfl, rfl⟩
  show wpAny _ _ (Builtin.Tuple.tupleItemsOf (.ref t) >>= _) _ _ _
  refine wpAny_bind (PyProof.Rows.tupleItemsOf_ ht ?_)
  refine wpAny_bind (wpAny_typeOf hTs ?_)
  rw [if_pos (by decide)]
  refine wpAny_bind (thn f1 fun r s' hr => ?_)
  obtain ⟨rfl, rfl⟩ := hr
  dsimp only
  have nb : ¬ (((items.size : Int) - 1 == 0 && (-1 : Int) == 1 && items.size == items.size) = true) := by simp
  rw [if_neg nb, rev_pick]
  show wpAny _ _ (newTuple items.toList.reverse >>= _) _ _ _
  exact wpAny_bind (wpAny_newTuple (wpAny_pure ⟨_, rfl, h⟩) (by rw [List.length_reverse, Array.length_toList]; exact hz))
end
section
variable {X : Cx} {e st : Expr} {te : TE} {ts : TO} {pos p2 : Pos}
def tRevT (K : PySem.W.Frag) (te : TE) (ts : TO) : TE := fun σ H Q => te σ H fun x H1 => ts σ H1 fun o H2 => ∃ (a : Addr) (xs : List V), o = some (-1) ∧ x = .ref a ∧ SqT K H2 a xs ∧ ∀ r : Addr, H2 r = none → Q (.ref r) (upd H2 r (.tup xs.reverse))
theorem vals_rev : ∀ {xs : List V} {us : List Value}, Vals xs us → Vals xs.reverse us.reverse
  | [], _, .nil => .nil
  | x :: xs, _, .cons r t => by
    rw [List.reverse_cons, List.reverse_cons]
    exact (vals_rev t).append (.cons r .nil)
theorem pe_revT (K : PySem.W.Frag) (he : PE X e te) (hs : PO X (some st) ts) (hK : X.K = K := by rfl) : PE X (.Subscript e (.Slice none none (some st) p2) pos) (tRevT K te ts) := by
  subst hK
  intro pins s σ H Q I h
  refine Subscript_ (thn (he pins s σ H _ I h) fun v s1 ⟨x, H1, I1, r1, q1⟩ => ?_)
  refine wpAny_Slice ?_
  rw [evalPart_none]
  refine wpAny_pure (wpAny_pure ?_)
  refine thn (hs pins s1 σ H1 _ I1 q1) fun vs s3 ⟨o, H3, I3, po, q3⟩ => ?_
  obtain ⟨a, xs, rfl, rfl, hq, q⟩ := q3
  cases r1
  cases po with
  | int i tk =>
  have I4 : Inv X pins σ H3 { s3 with heap := s3.heap.push { cls := .type "slice", data := .fields #[.none, .none, .int (-1) tk] } } := I3.kept (t' := s3.toks) fun b ob q => Heap.get?_push_of_some _ q
  show wpAny (model X.prog X.w) X.A (subscriptTail e (.Slice none none (some st) p2) (.ref a) (.ref s3.heap.objs.size)) (EP X pins σ Q) X.xe { s3 with heap := s3.heap.push { cls := .type "slice", data := .fields #[.none, .none, .int (-1) tk] } }
  obtain ⟨its, r, ht, hz⟩ := I4.tuple hq
  have hlen := r.length
  refine tail_any (ops := [.ref a, .ref s3.heap.objs.size]) (T := "tuple") ht.typeIs PyProof.Rows.slot_tuple_getitem.lookup ?_ (by with_unfolding_all rfl)
  refine getItem_tuple_rev ht (Heap.get?_push_size _ rfl) (by rw [List.size_toArray]; omega) ?_
  have rl : its.toArray.toList.reverse = its.reverse := by simp
  rw [rl]
  refine ⟨.ref _, _, I4.laid (t' := s3.toks) (o := .tup xs.reverse) (fun b ob q => Heap.get?_push_of_some _ q) (Nat.le_refl _) ?_, rfl, q _ (I4.hok.fresh (Nat.le_refl _))⟩
  exact ⟨⟨by rw [List.length_reverse]; exact hz, _, Heap.get?_push_size _ rfl, rfl⟩, its.reverse, vals_rev r, _, Heap.get?_push_size _ rfl, rfl, 0, rfl⟩
end
end L2


set_option Elab.async false
set_option linter.all false
set_option maxRecDepth 100000
set_option maxHeartbeats 4000000
/-! == of tuples that hold tuples; tuple.count of truths -/
namespace L2
open PySem PySem.Spec PyProof.Rows PySem.W
theorem eq_of_rel {x y : V} {u : Value} (h1 : RelV x u) (h2 : RelV y u) (f1 : flatV x = true) (f2 : flatV y = true) : eqV x y = true := by
  cases x <;> cases y <;> first | cases f1; done | cases f2; done | skip
  all_goals simp only [RelV] at h1 h2
  all_goals first
    | (obtain ⟨t, rfl⟩ := h1; obtain ⟨t', e⟩ := h2; cases e; simp [eqV]; done)
    | (subst h1; cases h2; simp [eqV]; done)
    | (subst h1; obtain ⟨t', e⟩ := h2; cases e; done)
    | (obtain ⟨t, rfl⟩ := h1; cases h2; done)
    | (obtain ⟨t, rfl⟩ := h1; obtain ⟨t', e⟩ := h2; exact absurd e (by simp))
theorem eqVs_rel {us : List Value} : ∀ {xs ys : List V}, Vals xs us → Vals ys us → xs.all flatV = true → ys.all flatV = true → eqVs xs ys = true := fun {xs ys} h1 h2 f1 f2 => by
  have l1 := h1.length
  have l2 := h2.length
  unfold eqVs
  rw [Bool.and_eq_true, beq_iff_eq, List.all_eq_true]
  refine ⟨by omega, fun j hj => ?_⟩
  have hj' := List.mem_range.mp hj
  obtain ⟨u, e1, r1⟩ := h1.get (List.getElem?_eq_getElem hj')
  obtain ⟨u', e2, r2⟩ := h2.get (List.getElem?_eq_getElem (show j < ys.length by omega))
  rw [e1] at e2; cases e2
  unfold eqAtJ
  rw [List.getElem?_eq_getElem hj', List.getElem?_eq_getElem (show j < ys.length by omega)]
  exact eq_of_rel r1 r2 (List.all_eq_true.mp f1 _ (List.getElem_mem _)) (List.all_eq_true.mp f2 _ (List.getElem_mem _))
theorem eqVs_bools (ns ms : List Bool) : eqVs (ns.map V.bl) (ms.map V.bl) = decide (ns = ms) := by
  rw [Bool.eq_iff_iff]
  unfold eqVs
  simp only [Bool.and_eq_true, beq_iff_eq, List.length_map, List.all_eq_true, List.mem_range, decide_eq_true_eq]
  constructor
  · rintro ⟨hl, h⟩
    apply List.ext_getElem hl
    intro i h1 h2
    have := h i h1
    unfold eqAtJ at this
    rw [List.getElem?_map, List.getElem?_map, List.getElem?_eq_getElem h1, List.getElem?_eq_getElem h2] at this
    exact eq_of_beq (show (ns[i] == ms[i]) = true from this)
  · rintro rfl
    refine ⟨rfl, fun j hj => ?_⟩
    unfold eqAtJ
    rw [List.getElem?_map, List.getElem?_eq_getElem hj]
    show (ns[j] == ns[j]) = true
    exact beq_self_eq_true _
theorem eqAt_tupF {A : Around} {s : Shared} {a b : Addr} {us ws : List Value} {xs ys : List V} (t1 : IsTup s.heap a us.toArray) (t2 : IsTup s.heap b ws.toArray) (q1 : Vals xs us) (q2 : Vals ys ws) (f1 : xs.all flatV = true) (f2 : ys.all flatV = true) (hu : A.units < cLine) : SeqAt.EqAt A s (.ref a) (.ref b) (eqVs xs ys) := by
  have z1 := q1.length
  have z2 := q2.length
  by_cases e : a = b
  · subst e
    obtain ⟨o, ho, hc, n, hd⟩ := t1
    obtain ⟨o', ho', hc', n', hd'⟩ := t2
    rw [ho] at ho'; cases ho'
    rw [hd] at hd'
    have exy : us = ws := by
      have : us.toArray = ws.toArray := by cases hd'; rfl
      simpa using this
    subst exy
    rw [eqVs_rel q1 q2 f1 f2]
    exact SeqAt.EqAt.same _
  · refine SeqAt.EqAt.of_refs e ?_
    have hc := SeqAt.RcAt.tuples (A := A) (s := s) (e := eqAtJ xs ys) t1 t2 hu (fun j g1 g2 => eqAt_items q1 q2 f1 f2 j g1 g2)
    have ev : ((List.range (min us.toArray.size ws.toArray.size)).all (eqAtJ xs ys) && us.toArray.size == ws.toArray.size) = eqVs xs ys := by
      unfold eqVs
      rw [List.size_toArray, List.size_toArray, ← z1, ← z2]
      by_cases el : xs.length = ys.length
      · rw [el, Nat.min_self, beq_self_eq_true, Bool.and_true, Bool.true_and]
      · have : (xs.length == ys.length) = false := by simpa using el
        rw [this, Bool.and_false, Bool.false_and]
    rw [ev] at hc
    exact hc
section
variable {X : Cx}
/-- one thing of two: flat, or a tuple of flat things -/
def NE (K : PySem.W.Frag) (H : Hp) (x y : V) (b : Bool) : Prop := (flatV x = true ∧ flatV y = true ∧ b = eqV x y) ∨ ∃ (p q : Addr) (us ws : List V), x = .ref p ∧ y = .ref q ∧ SqT K H p us ∧ SqT K H q ws ∧ us.all flatV = true ∧ ws.all flatV = true ∧ b = eqVs us ws
theorem op_eq_nest {k : Nat} (K : PySem.W.Frag) (hr : Room k X.A) (hK : X.K = K := by rfl) : OpR X (compareOp .Eq) (fun x y H Q => ∃ (a b : Addr) (xs ys : List V) (e : Nat → Bool), x = .ref a ∧ y = .ref b ∧ a ≠ b ∧ SqT K H a xs ∧ SqT K H b ys ∧ xs.length = ys.length ∧ (∀ (i : Nat) x y, xs[i]? = some x → ys[i]? = some y → NE K H x y (e i)) ∧ Q (.bl ((List.range xs.length).all e)) H) := by
  subst hK
  intro pins s σ H x y v u Q I rx ry h
  obtain ⟨a, b, xs, ys, e, rfl, rfl, ab, h1, h2, hl, hat, q⟩ := h
  cases (show v = Value.ref a from rx)
  cases (show u = Value.ref b from ry)
  obtain ⟨us, r1, l1, _⟩ := I.tuple h1
  obtain ⟨ws, r2, l2, _⟩ := I.tuple h2
  have e1 := r1.length
  have e2 := r2.length
  have un := hr.un
  have hc := SeqAt.RcAt.tuples (A := X.A) (s := s) (e := e) l1 l2 (by omega) (fun j g1 g2 => by
    have j1 : j < xs.length := by rw [e1]; simpa using g1
    have j2 : j < ys.length := by omega
    obtain ⟨u1, eu1, ru1⟩ := r1.get (List.getElem?_eq_getElem j1)
    obtain ⟨u2, eu2, ru2⟩ := r2.get (List.getElem?_eq_getElem j2)
    have d1 : us.toArray[j] = u1 := by
      have : us[j]? = some u1 := eu1
      rw [List.getElem?_eq_getElem (by omega)] at this
      simpa using Option.some.inj this
    have d2 : ws.toArray[j] = u2 := by
      have : ws[j]? = some u2 := eu2
      rw [List.getElem?_eq_getElem (by omega)] at this
      simpa using Option.some.inj this
    rw [d1, d2]
    rcases hat j _ _ (List.getElem?_eq_getElem j1) (List.getElem?_eq_getElem j2) with ⟨f1, f2, eb⟩ | ⟨p, q', vs, zs, ex, ey, t1, t2, f1, f2, eb⟩
    · rw [eb]; exact eqAt_V ru1 ru2 f1 f2
    · rw [ex] at ru1
      rw [ey] at ru2
      cases (show u1 = Value.ref p from ru1)
      cases (show u2 = Value.ref q' from ru2)
      obtain ⟨is1, w1, m1, _⟩ := I.tuple t1
      obtain ⟨is2, w2, m2, _⟩ := I.tuple t2
      rw [eb]
      exact eqAt_tupF (A := X.A.in1) m1 m2 w1 w2 f1 f2 (by show X.A.units + 1 < _; omega))
  refine hc X.prog X.w X.xe _ ⟨.bl _, H, I, rfl, ?_⟩
  have ev : ((List.range (min us.toArray.size ws.toArray.size)).all e && us.toArray.size == ws.toArray.size) = (List.range xs.length).all e := by
    rw [List.size_toArray, List.size_toArray, ← e1, ← e2, hl, Nat.min_self, beq_self_eq_true, Bool.and_true]
  rw [ev]; exact q
def rTcB : V → List V → Hp → VK → Prop := fun x vs H Q => ∃ (l : Addr) (bs : List Bool) (y : Bool), x = .ref l ∧ vs = [.bl y] ∧ H l = some (.tup (bs.map V.bl)) ∧ Q (.int ((bs.count y : Nat) : Int)) H
theorem flat_bools (bs : List Bool) : (bs.map V.bl).all flatV = true := by
  rw [List.all_eq_true]
  intro x hx
  obtain ⟨b, _, rfl⟩ := List.mem_map.mp hx
  rfl
theorem mt_tcountB : MtM X "tuple.count" rTcB := by
  intro pins s σ H x vs v us Q I rx rv h
  obtain ⟨l, bs, y, rfl, rfl, hH, q⟩ := h
  cases rx
  obtain ⟨u, rfl, ru⟩ := rv.one
  have ru0 := ru
  cases (show u = Value.bool y from ru)
  obtain ⟨_, its, r, ⟨o, e, h2, n, h3⟩⟩ := (show ObjOk X.prog X.w H s.heap l (.tup (bs.map V.bl)) from I.hok l _ hH)
  obtain ⟨cls, dd, dat, sl⟩ := o
  cases h2; cases h3
  refine call_meets F.slot_tuple_count ⟨_, e, rfl⟩ F.entry_tuple_count (F.args_tuple_count_2 _ _) (SeqAt.tuple_countAt l its.toArray n dd sl (.bool y) (eqU (V.bl y))) ⟨e, fun u hu => mem_eqAt (x := V.bl y) ru0 rfl r (flat_bools bs) u (by simpa using hu), ?_⟩
  have key : ∀ (ms : List Bool) (us : List Value), Vals (ms.map V.bl) us → us.countP (eqU (V.bl y)) = ms.count y := by
    intro ms
    induction ms with
    | nil => intro us hv; cases hv; rfl
    | cons m ms ih =>
      intro us hv
      cases hv with
      | cons h t =>
        cases (show _ = Value.bool m from h)
        rw [List.countP_cons, ih _ t, List.count_cons]
        rfl
  have ek := key bs its r
  have el : its.toArray.toList = its := by simp
  rw [el, ek]
  exact ⟨.int _, H, I.tok _, ⟨_, rfl⟩, q⟩
theorem pe_tcountB {o e : Expr} {to te : TE} {apos cpos : Pos} (ho : PE X o to) (he : PE X e te) (hbase : attributeBase o "count" X.env (eval o X.env) = eval o X.env := by rfl)
    (h1 : starEach [e] X.env = [(false, eval e X.env)] := by rfl) (hl : (apos.endLine == cpos.line) = true := by rfl) :
    PE X (.Call (.Attribute o "count" apos) [e] [] cpos) (tTM rTcB to (tCons te tNil)) :=
  pe_tm PySem.F.slot_tuple_count PySem.F.type_tuple_count mt_tcountB ho (pa_cons he pa_nil h1) hbase (by rw [h1]; rfl) hl h1 (by rfl)
end
end L2


set_option Elab.async false
set_option linter.all false
set_option maxRecDepth 100000
set_option maxHeartbeats 4000000
/-! a tuple that holds tuples, in a list; str.count -/
namespace L2
open PySem PySem.Spec PyProof.Rows PySem.W
section
variable {X : Cx}
/-- two tuples of flat things and tuples of flat things -/
def TE2 (K : PySem.W.Frag) (H : Hp) (a b : Addr) (c : Bool) : Prop := ∃ (xs ys : List V) (e : Nat → Bool), a ≠ b ∧ SqT K H a xs ∧ SqT K H b ys ∧ xs.length = ys.length ∧ (∀ (i : Nat) x y, xs[i]? = some x → ys[i]? = some y → NE K H x y (e i)) ∧ c = (List.range xs.length).all e
theorem eqAt_nest {A : Around} (un : A.units + 1 < cLine) {pins s σ H} (I : Inv X pins σ H s) {a b : Addr} {c : Bool} (h : TE2 X.K H a b c) : SeqAt.EqAt A s (.ref a) (.ref b) c := by
  obtain ⟨xs, ys, e, ab, h1, h2, hl, hat, rfl⟩ := h
  obtain ⟨us, r1, l1, _⟩ := I.tuple h1
  obtain ⟨ws, r2, l2, _⟩ := I.tuple h2
  have e1 := r1.length
  have e2 := r2.length
  have hc := SeqAt.RcAt.tuples (A := A) (s := s) (e := e) l1 l2 (by omega) (fun j g1 g2 => by
    have j1 : j < xs.length := by rw [e1]; simpa using g1
    have j2 : j < ys.length := by omega
    obtain ⟨u1, eu1, ru1⟩ := r1.get (List.getElem?_eq_getElem j1)
    obtain ⟨u2, eu2, ru2⟩ := r2.get (List.getElem?_eq_getElem j2)
    have d1 : us.toArray[j] = u1 := by
      have : us[j]? = some u1 := eu1
      rw [List.getElem?_eq_getElem (by omega)] at this
      simpa using Option.some.inj this
    have d2 : ws.toArray[j] = u2 := by
      have : ws[j]? = some u2 := eu2
      rw [List.getElem?_eq_getElem (by omega)] at this
      simpa using Option.some.inj this
    rw [d1, d2]
    rcases hat j _ _ (List.getElem?_eq_getElem j1) (List.getElem?_eq_getElem j2) with ⟨f1, f2, eb⟩ | ⟨p, q', vs, zs, ex, ey, t1, t2, f1, f2, eb⟩
    · rw [eb]; exact eqAt_V ru1 ru2 f1 f2
    · rw [ex] at ru1
      rw [ey] at ru2
      cases (show u1 = Value.ref p from ru1)
      cases (show u2 = Value.ref q' from ru2)
      obtain ⟨is1, w1, m1, _⟩ := I.tuple t1
      obtain ⟨is2, w2, m2, _⟩ := I.tuple t2
      rw [eb]
      exact eqAt_tupF (A := A.in1) m1 m2 w1 w2 f1 f2 (by show A.units + 1 < _; omega))
  have ev : ((List.range (min us.toArray.size ws.toArray.size)).all e && us.toArray.size == ws.toArray.size) = (List.range xs.length).all e := by
    rw [List.size_toArray, List.size_toArray, ← e1, ← e2, hl, Nat.min_self, beq_self_eq_true, Bool.and_true]
  rw [ev] at hc
  exact SeqAt.EqAt.of_refs ab hc
theorem valsR_of : ∀ {as : List Addr} {us : List Value}, Vals (as.map V.ref) us → us = as.map Value.ref
  | [], _, .nil => rfl
  | a :: as, u :: us, .cons r t => by
    rw [valsR_of t, show u = Value.ref a from r]; rfl
/-- x in a list of tuples -/
theorem op_in_nest {k : Nat} (K : PySem.W.Frag) (hr : Room k X.A) (hK : X.K = K := by rfl) : OpR X (compareOp .In) (fun x y H Q => ∃ (a p : Addr) (as : List Addr) (c : Addr → Bool), x = .ref a ∧ y = .ref p ∧ SqL K H p (as.map V.ref) ∧ (∀ b ∈ as, TE2 K H b a (c b)) ∧ Q (.bl (as.any c)) H) := by
  subst hK
  intro pins s σ H x y v u Q I rx ry h
  obtain ⟨a, p, as, c, rfl, rfl, hp, hat, q⟩ := h
  cases (show v = Value.ref a from rx)
  cases (show u = Value.ref p from ry)
  obtain ⟨its, r, pl, hz⟩ := I.list hp
  have ei := valsR_of r
  subst ei
  refine SeqAt.in_listAt (fun u => match u with | .ref b => c b | _ => false) pl.isList (fun w hw => ?_) ⟨.bl _, H, I, rfl, ?_⟩
  · obtain ⟨b, hb, rfl⟩ := List.mem_map.mp (show w ∈ as.map Value.ref by simpa using hw)
    have un := hr.un
    exact eqAt_nest (A := X.A.in1) (by show X.A.units + 1 + 1 < _; omega) I (hat b hb)
  · have e : (as.map Value.ref).toArray.any (fun u => match u with | .ref b => c b | _ => false) = as.any c := by
      rw [show (as.map Value.ref).toArray.any (fun u => match u with | .ref b => c b | _ => false) = (as.map Value.ref).any (fun u => match u with | .ref b => c b | _ => false) by simp, List.any_map]
      rfl
    rw [e]; exact q
theorem mt_scount : MtR X "str.count" (fun x vs H Q => ∃ z p, x = .str z ∧ vs = [.str p] ∧ Q (.int (Txt.count z p)) H) := by
  intro pins s σ H x xs v us Q I rx rv h
  obtain ⟨z, p, rfl, rfl, q⟩ := h
  obtain ⟨t, rfl⟩ := rx
  obtain ⟨u, rfl, t', rfl⟩ := rv.one
  exact SC.count ⟨.int _, H, I.tok _, ⟨_, rfl⟩, q⟩
theorem pe_scount {o e : Expr} {to te : TE} {apos cpos : Pos} (ho : PE X o to) (he : PE X e te) (hbase : attributeBase o "count" X.env (eval o X.env) = eval o X.env := by rfl)
    (h1 : starEach [e] X.env = [(false, eval e X.env)] := by rfl) (hl : (apos.endLine == cpos.line) = true := by rfl) :
    PE X (.Call (.Attribute o "count" apos) [e] [] cpos) (tBM X.K "str" (fun x vs H Q => ∃ z p, x = .str z ∧ vs = [.str p] ∧ Q (.int (Txt.count z p)) H) to (tCons te tNil)) :=
  pe_bm PySem.F.plainAttrs_str PySem.F.slot_str_count PySem.F.type_str_count mt_scount ho (pa_cons he pa_nil h1) hbase (by rw [h1]; rfl) hl h1 (by rfl)
theorem pe_scountK (K : PySem.W.Frag) {o e : Expr} {to te : TE} {apos cpos : Pos} (ho : PE X o to) (he : PE X e te) (hK : X.K = K := by rfl) (hbase : attributeBase o "count" X.env (eval o X.env) = eval o X.env := by rfl)
    (h1 : starEach [e] X.env = [(false, eval e X.env)] := by rfl) (hl : (apos.endLine == cpos.line) = true := by rfl) :
    PE X (.Call (.Attribute o "count" apos) [e] [] cpos) (tBM K "str" (fun x vs H Q => ∃ z p, x = .str z ∧ vs = [.str p] ∧ Q (.int (Txt.count z p)) H) to (tCons te tNil)) := by
  subst hK; exact pe_scount ho he hbase h1 hl
end
end L2


/-! rows by what stands above them: their groups, in order -/
namespace W29
structure Rw (n : Nat) (κ : Nat → Nat → Prop) (pl par : Nat → Nat) (last : Nat → Bool) : Prop where
  irr : ∀ a, ¬ κ a a
  tr : ∀ a b c, κ a b → κ b c → κ a c
  ro : ∀ o o', 1 ≤ o → o < o' → o' < n → κ (par o) (par o') ∨ (par o = par o' ∧ pl o < pl o')
  lst : ∀ o, 1 ≤ o → o < n → (last o = true ↔ ∀ o', 1 ≤ o' → o' < n → par o' = par o → pl o' ≤ pl o)
section
variable {n : Nat} {κ : Nat → Nat → Prop} {pl par : Nat → Nat} {last : Nat → Bool}
theorem Rw.mid (R : Rw n κ pl par last) {o m o' : Nat} (h1 : 1 ≤ o) (h2 : o ≤ m) (h3 : m ≤ o') (h4 : o' < n) (e : par o = par o') : par m = par o := by
  rcases Nat.eq_or_lt_of_le h2 with a | a
  · rw [a]
  · rcases Nat.eq_or_lt_of_le h3 with b | b
    · rw [b, e]
    · rcases R.ro o m h1 a (by omega) with x | ⟨x, _⟩
      · rcases R.ro m o' (by omega) b h4 with y | ⟨y, _⟩
        · exact absurd (R.tr _ _ _ x (by rw [e]; exact y)) (R.irr _)
        · rw [y, ← e]
      · exact x.symm
theorem Rw.next (R : Rw n κ pl par last) {o : Nat} (h1 : 1 ≤ o) (h2 : o < n) (h : last o = false) : o + 1 < n ∧ par (o + 1) = par o := by
  have nl : ¬ ∀ o', 1 ≤ o' → o' < n → par o' = par o → pl o' ≤ pl o := fun z => by
    have := (R.lst o h1 h2).mpr z
    rw [h] at this; cases this
  have ex : ∃ o', 1 ≤ o' ∧ o' < n ∧ par o' = par o ∧ pl o < pl o' := by
    refine Classical.byContradiction fun c => nl fun o' a b e => ?_
    rcases Nat.lt_or_ge (pl o) (pl o') with z | z
    · exact absurd ⟨o', a, b, e, z⟩ c
    · exact z
  obtain ⟨o', a, b, e, z⟩ := ex
  have lt : o < o' := by
    rcases Nat.lt_trichotomy o o' with c | c | c
    · exact c
    · subst c; omega
    · rcases R.ro o' o a c h2 with y | ⟨_, y⟩
      · rw [e] at y; exact absurd y (R.irr _)
      · omega
  exact ⟨by omega, R.mid h1 (Nat.le_succ o) lt b e.symm⟩
theorem Rw.stop (R : Rw n κ pl par last) {o o' : Nat} (h1 : 1 ≤ o) (h2 : o < o') (h3 : o' < n) (h : last o = true) : par o' ≠ par o := fun e => by
  have z := (R.lst o h1 (by omega)).mp h o' (by omega) h3 e
  rcases R.ro o o' h1 h2 h3 with y | ⟨_, y⟩
  · rw [e] at y; exact absurd y (R.irr _)
  · omega
def grp (last : Nat → Bool) : Nat → List (Nat × Nat) × Nat
  | 0 => ([], 1)
  | r + 1 => if 0 < r ∧ last r = true then ((grp last r).1 ++ [((grp last r).2, r + 1)], r + 1) else grp last r
structure GI (last : Nat → Bool) (r : Nat) (gs : List (Nat × Nat)) (first : Nat) : Prop where
  f1 : 1 ≤ first
  f2 : first ≤ r ∨ first = 1
  fl : first = 1 ∨ last (first - 1) = true
  opn : ∀ o, first ≤ o → o < r → last o = false
  ends : ∀ (k : Nat) (g : Nat × Nat), gs[k]? = some g → (1 :: gs.map (·.2))[k]? = some g.1
  endL : (1 :: gs.map (·.2)).getLast? = some first
  mem : ∀ g ∈ gs, 1 ≤ g.1 ∧ g.1 < g.2 ∧ g.2 ≤ first ∧ (g.1 = 1 ∨ last (g.1 - 1) = true) ∧ last (g.2 - 1) = true ∧ ∀ o, g.1 ≤ o → o < g.2 - 1 → last o = false
  pw : gs.Pairwise (fun g h => g.2 ≤ h.1)
  cov : ∀ o, 1 ≤ o → o < first → ∃ g ∈ gs, g.1 ≤ o ∧ o < g.2
  len : gs.length ≤ r
theorem grp_ok (last : Nat → Bool) : ∀ r, GI last r (grp last r).1 (grp last r).2
  | 0 => ⟨Nat.le_refl _, .inr rfl, .inl rfl, fun o _ h => absurd h (Nat.not_lt_zero _), fun k g h => by simp [grp] at h, rfl, fun g h => by simp [grp] at h, by simp [grp], fun o a b => by simp [grp] at b; omega, Nat.le_refl _⟩
  | r + 1 => by
    have I := grp_ok last r
    rw [grp]
    by_cases c : 0 < r ∧ last r = true
    · rw [if_pos c]
      generalize (grp last r).1 = gs at I
      generalize (grp last r).2 = first at I
      have fr : first ≤ r := by rcases I.f2 with z | z <;> omega
      refine ⟨by show 1 ≤ r + 1; omega, .inl (Nat.le_refl _), .inr c.2, fun o a b => by simp at a; omega, fun k g h => ?_, by rw [List.map_append, ← List.cons_append]; exact List.getLast?_concat, fun g h => ?_, ?_, fun o a b => ?_, by simp; have := I.len; omega⟩
      · simp only at h
        rcases Nat.lt_or_ge k gs.length with z | z
        · rw [List.getElem?_append_left z] at h
          have := I.ends k g h
          rw [List.map_append, ← List.cons_append, List.getElem?_append_left (by simp; omega)]
          exact this
        · rw [List.getElem?_append_right z] at h
          have k0 : k - gs.length = 0 := by
            rcases Nat.eq_zero_or_pos (k - gs.length) with y | y
            · exact y
            · rw [List.getElem?_eq_none (by simp; omega)] at h; cases h
          rw [k0] at h
          have eg : (first, r + 1) = g := by simpa using h
          have ek : k = gs.length := by omega
          rw [← eg, ek, List.map_append, ← List.cons_append, List.getElem?_append_left (by simp)]
          have := I.endL
          rw [List.getLast?_eq_getElem?] at this
          simpa using this
      · simp only at h
        rcases List.mem_append.mp h with z | z
        · obtain ⟨a1, a2, a3, a4, a5, a6⟩ := I.mem g z
          exact ⟨a1, a2, by show g.2 ≤ r + 1; omega, a4, a5, a6⟩
        · have eg : g = (first, r + 1) := by simpa using z
          subst eg
          exact ⟨I.f1, by show first < r + 1; omega, Nat.le_refl _, I.fl, c.2, fun o a b => I.opn o a (by simp at b; omega)⟩
      · simp only
        rw [List.pairwise_append]
        refine ⟨I.pw, List.pairwise_singleton _ _, fun g hg h hh => ?_⟩
        have eg : h = (first, r + 1) := by simpa using hh
        subst eg
        exact (I.mem g hg).2.2.1
      · simp only at b ⊢
        rcases Nat.lt_or_ge o first with z | z
        · obtain ⟨g, hg, w⟩ := I.cov o a z
          exact ⟨g, List.mem_append_left _ hg, w⟩
        · exact ⟨(first, r + 1), by simp, z, b⟩
    · rw [if_neg c]
      refine ⟨I.f1, I.f2.elim (fun z => .inl (by omega)) .inr, I.fl, fun o a b => ?_, I.ends, I.endL, I.mem, I.pw, I.cov, by have := I.len; omega⟩
      rcases Nat.lt_or_ge o r with z | z
      · exact I.opn o a z
      · have : o = r := by omega
        subst this
        have := I.f1
        cases e : last o with
        | false => rfl
        | true => exact absurd ⟨by omega, e⟩ c
/-- all rows are in groups -/
theorem Rw.whole (R : Rw n κ pl par last) (hn : 1 ≤ n) {gs : List (Nat × Nat)} {first : Nat} (I : GI last n gs first) : first = n := by
  have f2 := I.f2
  have f1 := I.f1
  rcases Nat.lt_or_ge first n with z | z
  · exfalso
    have := I.opn (n - 1) (by omega) (by omega)
    have := (R.next (o := n - 1) (by omega) (by omega) this).1
    omega
  · omega
/-- a group's rows have one above them -/
theorem Rw.one (R : Rw n κ pl par last) {gs : List (Nat × Nat)} {first : Nat} (I : GI last n gs first) (hf : first ≤ n) {g : Nat × Nat} (hg : g ∈ gs) : ∀ d, g.1 + d < g.2 → par (g.1 + d) = par g.1
  | 0, _ => rfl
  | d + 1, h => by
    obtain ⟨a1, a2, a3, a4, a5, a6⟩ := I.mem g hg
    have ih := R.one I hf hg d (by omega)
    have := (R.next (o := g.1 + d) (by omega) (by omega) (a6 _ (by omega) (by omega))).2
    rw [← ih]; exact this
theorem Rw.all (R : Rw n κ pl par last) {gs : List (Nat × Nat)} {first : Nat} (I : GI last n gs first) (hf : first ≤ n) {g : Nat × Nat} (hg : g ∈ gs) {o : Nat} (h1 : 1 ≤ o) (h2 : o < n) : par o = par g.1 ↔ g.1 ≤ o ∧ o < g.2 := by
  obtain ⟨a1, a2, a3, a4, a5, a6⟩ := I.mem g hg
  constructor
  · intro e
    constructor
    · rcases Nat.lt_or_ge o g.1 with z | z
      · exfalso
        have l := a4.resolve_left (by omega)
        have m := R.mid (o := o) (m := g.1 - 1) (o' := g.1) h1 (by omega) (by omega) (by omega) e
        exact R.stop (o := g.1 - 1) (o' := g.1) (by omega) (by omega) (by omega) l (by rw [m, e])
      · exact z
    · rcases Nat.lt_or_ge o g.2 with z | z
      · exact z
      · exfalso
        have := R.one I hf hg (g.2 - 1 - g.1) (by omega)
        rw [show g.1 + (g.2 - 1 - g.1) = g.2 - 1 by omega] at this
        exact R.stop (o := g.2 - 1) (o' := o) (by omega) (by omega) h2 a5 (by rw [e, this])
  · rintro ⟨x, y⟩
    have := R.one I hf hg (o - g.1) (by omega)
    rw [show g.1 + (o - g.1) = o by omega] at this
    exact this
/-- the groups' places above rise -/
theorem Rw.rise (R : Rw n κ pl par last) {gs : List (Nat × Nat)} {first : Nat} (I : GI last n gs first) (hf : first ≤ n) : (gs.map fun g => par g.1).Pairwise κ := by
  rw [List.pairwise_map]
  have pw := I.pw
  refine List.Pairwise.imp_of_mem (fun {g h} hg hh e => ?_) pw
  obtain ⟨a1, a2, a3, _⟩ := I.mem g hg
  obtain ⟨b1, b2, b3, _⟩ := I.mem h hh
  rcases R.ro g.1 h.1 a1 (by omega) (by omega) with z | ⟨z, _⟩
  · exact z
  · have := ((R.all I hf hg (o := h.1) b1 (by omega)).mp z.symm).2
    omega
end
theorem sorted_eq {κ : Nat → Nat → Prop} (irr : ∀ a, ¬ κ a a) (tr : ∀ a b c, κ a b → κ b c → κ a c) : ∀ l1 l2 : List Nat, l1.Pairwise κ → l2.Pairwise κ → (∀ x, x ∈ l1 ↔ x ∈ l2) → l1 = l2
  | [], [], _, _, _ => rfl
  | [], y :: ys, _, _, h => absurd ((h y).mpr List.mem_cons_self) (by simp)
  | x :: xs, [], _, _, h => absurd ((h x).mp List.mem_cons_self) (by simp)
  | x :: xs, y :: ys, p1, p2, h => by
    rw [List.pairwise_cons] at p1 p2
    have e : x = y := by
      rcases List.mem_cons.mp ((h x).mp List.mem_cons_self) with z | z
      · exact z
      · rcases List.mem_cons.mp ((h y).mpr List.mem_cons_self) with w | w
        · exact w.symm
        · exact absurd (tr _ _ _ (p1.1 y w) (p2.1 x z)) (irr _)
    subst e
    congr 1
    refine sorted_eq irr tr xs ys p1.2 p2.2 fun z => ?_
    constructor
    · intro hz
      rcases List.mem_cons.mp ((h z).mp (List.mem_cons_of_mem _ hz)) with w | w
      · subst w; exact absurd (p1.1 z hz) (irr _)
      · exact w
    · intro hz
      rcases List.mem_cons.mp ((h z).mpr (List.mem_cons_of_mem _ hz)) with w | w
      · subst w; exact absurd (p2.1 z hz) (irr _)
      · exact w
end W29


/-! a tree grown by a stack: rows and what stands beneath them -/
namespace W27
abbrev St := List (Nat × Int) × List Int × List Nat
/-- one turn: the uppermost row is written down, what stands beneath it comes upon the stack -/
def step (kids : Nat → List Nat) (lt : Nat → Nat) : St → St
  | ((r, u) :: st, us, ls) => ((kids r).map (fun l => (l, (us.length : Int))) ++ st, us ++ [u], ls ++ [lt r])
  | s => s
def run (kids : Nat → List Nat) (lt : Nat → Nat) : Nat → St
  | 0 => ([(0, -1)], [], [])
  | i + 1 => step kids lt (run kids lt i)
section
variable (ups : List Int)
def fr (i : Nat) : List Nat := (List.range ups.length).filter fun y => decide (i ≤ y ∧ ups.getD y 0 < (i : Int))
def ben (i : Nat) : List Nat := (List.range ups.length).filter fun y => decide (ups.getD y 0 = (i : Int))
end
structure Tr (ups : List Int) : Prop where
  pos : 0 < ups.length
  root : ups.getD 0 0 = -1
  up : ∀ k, 0 < k → k < ups.length → 0 ≤ ups.getD k 0 ∧ ups.getD k 0 < (k : Int)
  /-- what stands between a place and one beneath it has it above -/
  btw : ∀ i y z : Nat, y < ups.length → ups.getD y 0 = (i : Int) → i < z → z < y → (i : Int) ≤ ups.getD z 0
variable {ups : List Int}
theorem fr_mem {i y : Nat} : y ∈ fr ups i ↔ y < ups.length ∧ i ≤ y ∧ ups.getD y 0 < (i : Int) := by
  unfold fr; rw [List.mem_filter, List.mem_range, decide_eq_true_eq]
theorem ben_mem {i y : Nat} : y ∈ ben ups i ↔ y < ups.length ∧ ups.getD y 0 = (i : Int) := by
  unfold ben; rw [List.mem_filter, List.mem_range, decide_eq_true_eq]
theorem range_up (n : Nat) (p : Nat → Bool) : ((List.range n).filter p).Pairwise (· < ·) := List.Pairwise.sublist List.filter_sublist List.pairwise_lt_range
theorem fr_zero (t : Tr ups) : fr ups 0 = [0] := by
  refine W29.sorted_eq (κ := (· < ·)) Nat.lt_irrefl (fun a b c => Nat.lt_trans) _ _ (range_up _ _) (List.pairwise_singleton _ _) fun x => ?_
  rw [fr_mem, List.mem_singleton]
  constructor
  · rintro ⟨h1, _, h3⟩
    rcases Nat.eq_zero_or_pos x with e | e
    · exact e
    · have := (t.up x e h1).1; omega
  · rintro rfl
    exact ⟨t.pos, Nat.le_refl _, by rw [t.root]; decide⟩
theorem fr_step (t : Tr ups) {i : Nat} (hi : i < ups.length) : ∃ F, fr ups i = i :: F ∧ fr ups (i + 1) = ben ups i ++ F := by
  have upi : ups.getD i 0 < (i : Int) := by
    rcases Nat.eq_zero_or_pos i with e | e
    · subst e; rw [t.root]; decide
    · exact (t.up i e hi).2
  let F := (List.range ups.length).filter fun y => decide (i + 1 ≤ y ∧ ups.getD y 0 < (i : Int))
  have memF : ∀ y, y ∈ F ↔ y < ups.length ∧ i + 1 ≤ y ∧ ups.getD y 0 < (i : Int) := fun y => by
    show y ∈ (List.range ups.length).filter _ ↔ _
    rw [List.mem_filter, List.mem_range, decide_eq_true_eq]
  have pF : F.Pairwise (· < ·) := range_up _ _
  refine ⟨F, ?_, ?_⟩
  · refine W29.sorted_eq (κ := (· < ·)) Nat.lt_irrefl (fun a b c => Nat.lt_trans) _ _ (range_up _ _) (List.pairwise_cons.mpr ⟨fun y hy => by have := (memF y).mp hy; omega, pF⟩) fun x => ?_
    rw [fr_mem, List.mem_cons, memF]
    constructor
    · rintro ⟨h1, h2, h3⟩
      rcases Nat.eq_or_lt_of_le h2 with e | e
      · exact .inl e.symm
      · exact .inr ⟨h1, e, h3⟩
    · rintro (rfl | ⟨h1, h2, h3⟩)
      · exact ⟨hi, Nat.le_refl _, upi⟩
      · exact ⟨h1, by omega, h3⟩
  · refine W29.sorted_eq (κ := (· < ·)) Nat.lt_irrefl (fun a b c => Nat.lt_trans) _ _ (range_up _ _) (List.pairwise_append.mpr ⟨range_up _ _, pF, fun a ha b hb => ?_⟩) fun x => ?_
    · obtain ⟨a1, a2⟩ := ben_mem.mp ha
      obtain ⟨b1, b2, b3⟩ := (memF b).mp hb
      rcases Nat.lt_trichotomy a b with q | q | q
      · exact q
      · subst q; omega
      · have := t.btw i a b a1 a2 (by omega) q; omega
    · rw [fr_mem, List.mem_append, ben_mem, memF]
      constructor
      · rintro ⟨h1, h2, h3⟩
        by_cases e : ups.getD x 0 = (i : Int)
        · exact .inl ⟨h1, e⟩
        · exact .inr ⟨h1, h2, by omega⟩
      · rintro (⟨h1, h2⟩ | ⟨h1, h2, h3⟩)
        · refine ⟨h1, ?_, by omega⟩
          have : x ≠ 0 := fun e => by rw [e, t.root] at h2; omega
          have := (t.up x (by omega) h1).2
          omega
        · exact ⟨h1, h2, by omega⟩
/-- what the machine has written: the tree -/
theorem run_ok (t : Tr ups) {lab : List Nat} {kids : Nat → List Nat} {lt : Nat → Nat} {ro : Nat → Nat} (r0 : ro 0 = 0) (hk : ∀ i, i < ups.length → kids (ro i) = (ben ups i).map ro) (hl : ∀ i, i < ups.length → lt (ro i) = lab.getD i 0) (ll : lab.length = ups.length) :
    ∀ i, i ≤ ups.length → run kids lt i = ((fr ups i).map (fun y => (ro y, ups.getD y 0)), ups.take i, lab.take i)
  | 0, _ => by
    rw [fr_zero t]
    show ([(0, -1)], [], []) = _
    rw [List.map_cons, List.map_nil, r0, t.root]; rfl
  | i + 1, hi => by
    have ih := run_ok t r0 hk hl ll i (by omega)
    obtain ⟨F, e1, e2⟩ := fr_step t (show i < ups.length by omega)
    show step kids lt (run kids lt i) = _
    rw [ih, e1, e2, List.map_cons]
    show ((kids (ro i)).map (fun l => (l, ((ups.take i).length : Int))) ++ F.map (fun y => (ro y, ups.getD y 0)), ups.take i ++ [ups.getD i 0], lab.take i ++ [lt (ro i)]) = _
    rw [hk i (by omega), hl i (by omega), List.length_take, Nat.min_eq_left (by omega), List.map_map, List.map_append]
    have g1 : ups.take (i + 1) = ups.take i ++ [ups.getD i 0] := by
      rw [List.take_succ, List.getD_eq_getElem?_getD, List.getElem?_eq_getElem (by omega)]; rfl
    have g2 : lab.take (i + 1) = lab.take i ++ [lab.getD i 0] := by
      rw [List.take_succ, List.getD_eq_getElem?_getD, List.getElem?_eq_getElem (by omega)]; rfl
    rw [g1, g2]
    congr 2
    refine List.map_congr_left fun y hy => ?_
    show (ro y, (i : Int)) = (ro y, ups.getD y 0)
    rw [(ben_mem.mp hy).2]
end W27


/-! words of a tree, as plain lists of codes -/
namespace W7
/-- the word read from place k, with fuel -/
def wd (ups : List Int) (lab : List Nat) : Nat → Nat → List Nat
  | 0, _ => []
  | f + 1, k => lab.getD k 0 :: (if ups.getD k 0 < 0 then [] else wd ups lab f (ups.getD k 0).toNat)
structure TreeOk (ups : List Int) (lab : List Nat) : Prop where
  len : ups.length = lab.length
  pos : 0 < ups.length
  most : ups.length ≤ 60
  root : ups.getD 0 0 = -1
  up : ∀ k, 0 < k → k < ups.length → 0 ≤ ups.getD k 0 ∧ ups.getD k 0 < (k : Int)
theorem TreeOk.lt {ups : List Int} {lab : List Nat} (t : TreeOk ups lab) {k : Nat} (h : k < ups.length) (h0 : ¬ ups.getD k 0 < 0) : (ups.getD k 0).toNat < k := by
  rcases Nat.eq_zero_or_pos k with e | e
  · subst e; have := t.root; omega
  · have := t.up k e h; omega
theorem TreeOk.neg {ups : List Int} {lab : List Nat} (t : TreeOk ups lab) {k : Nat} (h : k < ups.length) : ups.getD k 0 < 0 ↔ ups.getD k 0 = -1 := by
  rcases Nat.eq_zero_or_pos k with e | e
  · subst e; have := t.root; omega
  · have := t.up k e h; omega
theorem wd_fuel {ups : List Int} {lab : List Nat} (t : TreeOk ups lab) : ∀ (f g k : Nat), k < ups.length → k < f → k < g → wd ups lab f k = wd ups lab g k
  | 0, _, _, _, h, _ => absurd h (Nat.not_lt_zero _)
  | _ + 1, 0, _, _, _, h => absurd h (Nat.not_lt_zero _)
  | f + 1, g + 1, k, hk, hf, hg => by
    simp only [wd]
    congr 1
    split
    · rfl
    · rename_i h0
      have := t.lt hk h0
      exact wd_fuel t f g _ (by omega) (by omega) (by omega)
/-- the word read from place k -/
def W (ups : List Int) (lab : List Nat) (k : Nat) : List Nat := wd ups lab (k + 1) k
theorem W_eq {ups : List Int} {lab : List Nat} (t : TreeOk ups lab) {k : Nat} (hk : k < ups.length) : W ups lab k = lab.getD k 0 :: (if ups.getD k 0 < 0 then [] else W ups lab (ups.getD k 0).toNat) := by
  unfold W
  rw [wd]
  congr 1
  split
  · rfl
  · rename_i h0
    have := t.lt hk h0
    exact wd_fuel t _ _ _ (by omega) (by omega) (by omega)
theorem W_len {ups : List Int} {lab : List Nat} (t : TreeOk ups lab) : ∀ (n k : Nat), k < n → k < ups.length → (W ups lab k).length ≤ k + 1
  | 0, _, h, _ => absurd h (Nat.not_lt_zero _)
  | n + 1, k, hn, hk => by
    rw [W_eq t hk]
    split
    · simp
    · rename_i h0
      have := t.lt hk h0
      have ih := W_len t n (ups.getD k 0).toNat (by omega) (by omega)
      simp only [List.length_cons]
      omega
/-- what is left to read from place k (an int, below 0 behind the root) -/
def R (ups : List Int) (lab : List Nat) (k : Int) : List Nat := if k < 0 then [] else W ups lab k.toNat
end W7


namespace W7
/-- the places above k, from the nearest on, with fuel -/
def chf (ups : List Int) : Nat → Nat → List Int
  | 0, _ => []
  | f + 1, k => if ups.getD k 0 < 0 then [] else ups.getD k 0 :: chf ups f (ups.getD k 0).toNat
theorem chf_fuel {ups : List Int} {lab : List Nat} (t : TreeOk ups lab) : ∀ (f g k : Nat), k < ups.length → k < f → k < g → chf ups f k = chf ups g k
  | 0, _, _, _, h, _ => absurd h (Nat.not_lt_zero _)
  | _ + 1, 0, _, _, _, h => absurd h (Nat.not_lt_zero _)
  | f + 1, g + 1, k, hk, hf, hg => by
    simp only [chf]
    split
    · rfl
    · rename_i h0
      have := t.lt hk h0
      congr 1
      exact chf_fuel t f g _ (by omega) (by omega) (by omega)
def chn (ups : List Int) (k : Nat) : List Int := chf ups (k + 1) k
theorem chn_eq {ups : List Int} {lab : List Nat} (t : TreeOk ups lab) {k : Nat} (hk : k < ups.length) : chn ups k = if ups.getD k 0 < 0 then [] else ups.getD k 0 :: chn ups (ups.getD k 0).toNat := by
  unfold chn
  rw [chf]
  split
  · rfl
  · rename_i h0
    have := t.lt hk h0
    congr 1
    exact chf_fuel t _ _ _ (by omega) (by omega) (by omega)
/-- k and what stands above it; nothing below 0 -/
def rst (ups : List Int) (k : Int) : List Int := if k < 0 then [] else k :: chn ups k.toNat
theorem chn_rst {ups : List Int} {lab : List Nat} (t : TreeOk ups lab) {k : Nat} (hk : k < ups.length) : chn ups k = rst ups (ups.getD k 0) := by
  rw [chn_eq t hk]; rfl
theorem rst_step {ups : List Int} {lab : List Nat} (t : TreeOk ups lab) {k : Int} (h0 : 0 ≤ k) (hk : k < (ups.length : Int)) : rst ups k = k :: rst ups (ups.getD k.toNat 0) := by
  have := chn_rst t (k := k.toNat) (by omega)
  unfold rst
  rw [if_neg (by omega), this]
  rfl
theorem chn_mem {ups : List Int} {lab : List Nat} (t : TreeOk ups lab) : ∀ (n k : Nat), k < n → k < ups.length → (chn ups k).length ≤ k ∧ ∀ v ∈ chn ups k, 0 ≤ v ∧ v < (k : Int)
  | 0, _, h, _ => absurd h (Nat.not_lt_zero _)
  | n + 1, k, hn, hk => by
    rw [chn_eq t hk]
    split
    · exact ⟨Nat.zero_le _, fun v hv => nomatch hv⟩
    · rename_i h0
      have lt := t.lt hk h0
      obtain ⟨i1, i2⟩ := chn_mem t n (ups.getD k 0).toNat (by omega) (by omega)
      refine ⟨by rw [List.length_cons]; omega, fun v hv => ?_⟩
      rcases List.mem_cons.mp hv with e | e
      · omega
      · have := i2 v e; omega
end W7


set_option Elab.async false
set_option linter.all false
set_option maxRecDepth 100000
set_option maxHeartbeats 4000000
namespace S30
open PySem L2 W7
def top (i : Nat) : Stmt := PySem.Challenge.pw_upwords_k30_rows_of_few_letters.main.body.getD i (.Pass ⟨0, 0, 0, 0⟩)
abbrev s_words_of : Stmt := top 4
abbrev N_words_of : List Str := ["tree", "words", "letter", "up"]
theorem sc_words_of : FnScope N_words_of ["tree"] (defScope s_words_of) := ⟨rfl, rfl, rfl, by decide +kernel, rfl, by decide +kernel, by decide +kernel⟩
abbrev s_order_of : Stmt := top 6
abbrev N_order_of : List Str := ["tree", "words"]
theorem sc_order_of : FnScope N_order_of ["tree"] (defScope s_order_of) := ⟨rfl, rfl, rfl, by decide +kernel, rfl, by decide +kernel, by decide +kernel⟩
abbrev s_ranks_of : Stmt := top 7
abbrev N_ranks_of : List Str := ["tree", "order", "ranks", "rank", "place"]
theorem sc_ranks_of : FnScope N_ranks_of ["tree"] (defScope s_ranks_of) := ⟨rfl, rfl, rfl, by decide +kernel, rfl, by decide +kernel, by decide +kernel⟩
abbrev s_is_letters : Stmt := top 10
abbrev N_is_letters : List Str := ["thing"]
theorem sc_is_letters : FnScope N_is_letters ["thing"] (defScope s_is_letters) := ⟨rfl, rfl, rfl, by decide +kernel, rfl, by decide +kernel, by decide +kernel⟩
abbrev s_is_labels : Stmt := top 13
abbrev N_is_labels : List Str := ["thing"]
theorem sc_is_labels : FnScope N_is_labels ["thing"] (defScope s_is_labels) := ⟨rfl, rfl, rfl, by decide +kernel, rfl, by decide +kernel, by decide +kernel⟩
abbrev s_beneath_of : Stmt := top 14
abbrev N_beneath_of : List Str := ["tree", "place"]
theorem sc_beneath_of : FnScope N_beneath_of ["tree", "place"] (defScope s_beneath_of) := ⟨rfl, rfl, rfl, by decide +kernel, rfl, by decide +kernel, by decide +kernel⟩
abbrev s_is_leaf : Stmt := top 15
abbrev N_is_leaf : List Str := ["tree", "place"]
theorem sc_is_leaf : FnScope N_is_leaf ["tree", "place"] (defScope s_is_leaf) := ⟨rfl, rfl, rfl, by decide +kernel, rfl, by decide +kernel, by decide +kernel⟩
abbrev s_grown_tree : Stmt := top 16
abbrev N_grown_tree : List Str := ["knots", "start", "ups", "labels", "waiting", "pair", "knot", "place"]
theorem sc_grown_tree : FnScope N_grown_tree ["knots", "start"] (defScope s_grown_tree) := ⟨rfl, rfl, rfl, by decide +kernel, rfl, by decide +kernel, by decide +kernel⟩
abbrev s_kept_order : Stmt := top 18
abbrev N_kept_order : List Str := ["tree", "ups", "ranks"]
theorem sc_kept_order : FnScope N_kept_order ["tree"] (defScope s_kept_order) := ⟨rfl, rfl, rfl, by decide +kernel, rfl, by decide +kernel, by decide +kernel⟩
abbrev s_rows_of : Stmt := top 19
abbrev N_rows_of : List Str := ["tree", "order", "labels", "lasts", "leaves"]
theorem sc_rows_of : FnScope N_rows_of ["tree"] (defScope s_rows_of) := ⟨rfl, rfl, rfl, by decide +kernel, rfl, by decide +kernel, by decide +kernel⟩
abbrev s_is_last : Stmt := top 20
abbrev N_is_last : List Str := ["tree", "place"]
theorem sc_is_last : FnScope N_is_last ["tree", "place"] (defScope s_is_last) := ⟨rfl, rfl, rfl, by decide +kernel, rfl, by decide +kernel, by decide +kernel⟩
abbrev s_is_rows : Stmt := top 21
abbrev N_is_rows : List Str := ["thing"]
theorem sc_is_rows : FnScope N_is_rows ["thing"] (defScope s_is_rows) := ⟨rfl, rfl, rfl, by decide +kernel, rfl, by decide +kernel, by decide +kernel⟩
abbrev s_tree_of : Stmt := top 22
abbrev N_tree_of : List Str := ["rows"]
theorem sc_tree_of : FnScope N_tree_of ["rows"] (defScope s_tree_of) := ⟨rfl, rfl, rfl, by decide +kernel, rfl, by decide +kernel, by decide +kernel⟩
abbrev s_has_form : Stmt := top 23
abbrev N_has_form : List Str := ["thing", "many"]
theorem sc_has_form : FnScope N_has_form ["thing"] (defScope s_has_form) := ⟨rfl, rfl, rfl, by decide +kernel, rfl, by decide +kernel, by decide +kernel⟩
abbrev s_is_truths : Stmt := top 24
abbrev N_is_truths : List Str := ["thing", "many"]
theorem sc_is_truths : FnScope N_is_truths ["thing", "many"] (defScope s_is_truths) := ⟨rfl, rfl, rfl, by decide +kernel, rfl, by decide +kernel, by decide +kernel⟩
abbrev s_tree_by : Stmt := top 25
abbrev N_tree_by : List Str := ["rows", "groups", "beneath"]
theorem sc_tree_by : FnScope N_tree_by ["rows"] (defScope s_tree_by) := ⟨rfl, rfl, rfl, by decide +kernel, rfl, by decide +kernel, by decide +kernel⟩
abbrev s_groups_of : Stmt := top 26
abbrev N_groups_of : List Str := ["rows", "found", "first", "row", "last"]
theorem sc_groups_of : FnScope N_groups_of ["rows"] (defScope s_groups_of) := ⟨rfl, rfl, rfl, by decide +kernel, rfl, by decide +kernel, by decide +kernel⟩
abbrev s_group_numbers : Stmt := top 27
abbrev N_group_numbers : List Str := ["rows", "inner", "numbers", "number", "pair"]
theorem sc_group_numbers : FnScope N_group_numbers ["rows"] (defScope s_group_numbers) := ⟨rfl, rfl, rfl, by decide +kernel, rfl, by decide +kernel, by decide +kernel⟩
abbrev s_law_prime : Stmt := top 29
abbrev N_law_prime : List Str := ["at", "some"]
theorem sc_law_prime : FnScope N_law_prime ["at"] (defScope s_law_prime) := ⟨rfl, rfl, rfl, by decide +kernel, rfl, by decide +kernel, by decide +kernel⟩
abbrev s_law_pool : Stmt := top 30
abbrev N_law_pool : List Str := ["cell"]
theorem sc_law_pool : FnScope N_law_pool ["cell"] (defScope s_law_pool) := ⟨rfl, rfl, rfl, by decide +kernel, rfl, by decide +kernel, by decide +kernel⟩
abbrev s_law_take : Stmt := top 31
abbrev N_law_take : List Str := ["pool", "many", "found", "at", "one", "two"]
theorem sc_law_take : FnScope N_law_take ["pool", "many"] (defScope s_law_take) := ⟨rfl, rfl, rfl, by decide +kernel, rfl, by decide +kernel, by decide +kernel⟩
abbrev s_law_cells : Stmt := top 32
abbrev N_law_cells : List Str := ["script", "many"]
theorem sc_law_cells : FnScope N_law_cells ["script", "many"] (defScope s_law_cells) := ⟨rfl, rfl, rfl, by decide +kernel, rfl, by decide +kernel, by decide +kernel⟩
abbrev s_law_forms : Stmt := top 33
abbrev N_law_forms : List Str := ["many", "found", "k", "longer", "ups", "place"]
theorem sc_law_forms : FnScope N_law_forms ["many"] (defScope s_law_forms) := ⟨rfl, rfl, rfl, by decide +kernel, rfl, by decide +kernel, by decide +kernel⟩
abbrev s_law_texts : Stmt := top 34
abbrev N_law_texts : List Str := ["many", "found", "turn"]
theorem sc_law_texts : FnScope N_law_texts ["many"] (defScope s_law_texts) := ⟨rfl, rfl, rfl, by decide +kernel, rfl, by decide +kernel, by decide +kernel⟩
abbrev s_law_marks : Stmt := top 35
abbrev N_law_marks : List Str := ["many", "found", "turn"]
theorem sc_law_marks : FnScope N_law_marks ["many"] (defScope s_law_marks) := ⟨rfl, rfl, rfl, by decide +kernel, rfl, by decide +kernel, by decide +kernel⟩
abbrev s_law : Stmt := top 36
abbrev N_law : List Str := ["script", "cell", "pool", "many", "forms", "every", "texts", "often", "letters", "text", "ups", "rows", "count", "lasts", "leaves"]
theorem sc_law : FnScope N_law ["script"] (defScope s_law) := ⟨rfl, rfl, rfl, by decide +kernel, rfl, by decide +kernel, by decide +kernel⟩
section
variable {P : Program} {w : World} {K : PySem.W.Frag} {mg : Str → Option Value} {base : Heap} {k : Nat}

def mk (l : List Nat) : Str := ⟨l.toArray⟩
theorem mk_cps (l : List Nat) : (mk l).cps.toList = l := rfl
theorem mk_len (l : List Nat) : (mk l).length = l.length := by simp [mk, Str.length]
theorem str_ext {a b : Str} (h : a.cps.toList = b.cps.toList) : a = b := by
  obtain ⟨x⟩ := a; obtain ⟨y⟩ := b
  have : x = y := Array.toList_inj.mp h
  rw [this]
theorem mk_app (c : Nat) (l : List Nat) : (⟨#[c]⟩ : Str) ++ mk l = mk (c :: l) := by
  apply str_ext
  rw [app_list]
  rfl
def TreeAt (H : Hp) (t : Addr) (ups : List Int) (lab : Str) : Prop := ∃ u, H t = some (.tup [.ref u, .str lab]) ∧ H u = some (.tup (ups.map V.int)) ∧ TreeOk ups lab.cps.toList
theorem TreeAt.same {H H' : Hp} {t : Addr} {ups : List Int} {lab : Str} (h : TreeAt H t ups lab) (s : Same H H') : TreeAt H' t ups lab := by
  obtain ⟨u, a, b, c⟩ := h
  exact ⟨u, s _ _ a, s _ _ b, c⟩

/-- a list of texts of one sign -/
def oneV (cs : List Nat) : List V := cs.map fun c => .str ⟨#[c]⟩
theorem oneV_len (cs : List Nat) : (oneV cs).length = cs.length := List.length_map _
theorem ints_at {us : List Int} {i : Int} (h0 : 0 ≤ i) (h1 : i < (us.length : Int)) : atI (us.map V.int) i = some (.int (us.getD i.toNat 0)) := by
  have hk : i.toNat < us.length := by omega
  have e := atI_nat (xs := us.map V.int) (j := i.toNat) (v := .int (us.getD i.toNat 0)) (by rw [List.getElem?_map, List.getElem?_eq_getElem hk, List.getD_eq_getElem?_getD, List.getElem?_eq_getElem hk]; rfl)
  rw [show ((i.toNat : Nat) : Int) = i by omega] at e
  exact e
abbrev Lw (c : Nat) : Prop := 97 ≤ c ∧ c < 123
theorem menu {us : List Int} {n lo hi : Int} (h0 : 0 ≤ n) (h1 : n < (us.length : Int)) (hb : ∀ v ∈ us, lo ≤ v ∧ v ≤ hi) : ∃ v : Int, atI (us.map V.int) n = some (.int v) ∧ lo ≤ v ∧ v ≤ hi := by
  refine ⟨_, ints_at h0 h1, ?_⟩
  have hk : n.toNat < us.length := by omega
  rw [List.getD_eq_getElem?_getD, List.getElem?_eq_getElem hk]
  exact hb _ (List.getElem_mem hk)
/-! ### _law_prime -/
def sp_prime : Sp := fun vs H Q _ => ∃ z : Int, vs = [.int z] ∧ ∀ (n : Int) (H' : Hp), 0 < n → n < 2147483648 → Same H H' → Q (.int n) H'
theorem has_prime (D : Df K mg "_law_prime" s_law_prime) (B : Blt mg) : Has P w K mg base "_law_prime" (k + 1) ["at"] sp_prime := by
  refine D.has sc_law_prime (fun _ _ _ _ _ _ us hl => match us, hl with | [_], _ => rfl) (fun vs H Q E h => by obtain ⟨z, rfl, _⟩ := h; rfl) (fun f cdv A outer s H vs Q E hr h => ?_)
  obtain ⟨z, rfl, q⟩ := h
  refine ⟨_, (pss_cons (ps_set (i := 1) sc_law_prime.nd rfl (by first | exact Or.inl rfl | exact Or.inr rfl) (pe_lst (pa_cons pe_int (pa_cons pe_int (pa_cons pe_int (pa_cons pe_int (pa_cons pe_int (pa_cons pe_int (pa_cons pe_int pa_nil)))))))))
  (pss_one (ps_ret (pe_ix ix_list (pe_op op_cat (pv 1) (pe_lst (pa_cons pe_int (pa_cons pe_int (pa_cons pe_int (pa_cons pe_int pa_nil)))))) (pe_op op_mod (pv 0) pe_int) (fun _ _ => rfl))))), ?_⟩
  refine ⟨(by show 7 ≤ sizeLine; decide), fun r1 hr1 => ?_⟩
  refine ⟨_, rfl, (by show 4 ≤ sizeLine; decide), fun r2 hr2 => ?_⟩
  have n12 : r1 ≠ r2 := ne_of_none upd_same hr2
  refine ⟨r1, r2, _, _, rfl, rfl, by rw [upd_ne n12]; exact upd_same, upd_same, (by show 11 ≤ sizeLine; decide), fun r3 hr3 => ?_⟩
  refine ⟨_, rfl, _, _, rfl, rfl, (by decide : (0 : Int) < 11), ?_⟩
  obtain ⟨v, hv, v0, v1⟩ := menu (us := [2147483647, 2147483629, 2147483587, 2147483579, 2147483563, 2147483549, 2147483543, 2147483497, 2147483489, 2147483477, 2147483423]) (n := z % 11) (lo := 1) (hi := 2147483647) (Int.emod_nonneg _ (by decide)) (Int.emod_lt_of_pos _ (by decide)) (by decide)
  refine ⟨r3, _, _, _, rfl, rfl, SqL.of upd_same, hv, q v _ (by omega) (by omega) ?_⟩
  exact (((Same.refl H).new hr1).new hr2).new hr3
/-! ### _law_pool -/
def sp_pool : Sp := fun vs H Q _ => ∃ cell : Int, vs = [.int cell] ∧ ∀ (p : Addr) (x y : Int), H p = none → Q (.ref p) (upd H p (.lst [.int x, .int y, .int 0]))
theorem has_pool (D : Df K mg "_law_pool" s_law_pool) (B : Blt mg) : Has P w K mg base "_law_pool" (k + 1) ["cell"] sp_pool := by
  refine D.has sc_law_pool (fun _ _ _ _ _ _ us hl => match us, hl with | [_], _ => rfl) (fun vs H Q E h => by obtain ⟨z, rfl, _⟩ := h; rfl) (fun f cdv A outer s H vs Q E hr h => ?_)
  obtain ⟨cell, rfl, q⟩ := h
  refine ⟨_, (pss_one (ps_ret (pe_lst (pa_cons (pe_callB (call_max2 rfl) rfl B.max bt_max (pa_cons pe_int (pa_cons (pe_op op_sub (pv 0) (pe_op op_pow pe_int pe_int)) pa_nil))) (pa_cons (pv 0) (pa_cons pe_int pa_nil)))))), ?_⟩
  refine ⟨_, rfl, _, _, rfl, rfl, ⟨by decide, by decide, by decide⟩, _, _, rfl, rfl, _, _, rfl, ?_⟩
  exact ⟨_, rfl, (by show 3 ≤ sizeLine; decide), fun p hp => q p _ _ hp⟩
theorem pow_ok (u n z y : Int) (hn : 0 < n) (hn2 : n < 2147483648) (z0 : 0 ≤ z) (z1 : z < 1000000) : (u % n * (u % n) + 69621 * z + y % 65537 + 1).natAbs < 2 ^ 64 := by
  have o1 := Int.emod_nonneg u (show n ≠ 0 by omega)
  have o2 := Int.emod_lt_of_pos u hn
  generalize u % n = one at o1 o2
  have oo : one * one ≤ 2147483648 * 2147483648 := Int.mul_le_mul (by omega) (by omega) o1 (by decide)
  have oo0 : 0 ≤ one * one := Int.mul_nonneg o1 o1
  have w1 := Int.emod_nonneg y (by decide : (65537 : Int) ≠ 0)
  have w2 := Int.emod_lt_of_pos y (by decide : (0 : Int) < 65537)
  generalize one * one = q1 at oo oo0
  omega
theorem mod_in (u n : Int) (hn : 0 < n) (hn2 : n < 2147483648) : -(2 ^ 64) < u % n ∧ u % n < 2 ^ 64 := by
  have o1 := Int.emod_nonneg u (show n ≠ 0 by omega)
  have o2 := Int.emod_lt_of_pos u hn
  omega
/-! ### _law_take -/
def sp_take : Sp := fun vs H Q _ => ∃ (p : Addr) (m c : Int), vs = [.ref p, .int m] ∧ Deck H p c ∧ c < 1000000 ∧ 0 < m ∧ m < 1073741824 ∧ ∀ (n : Int) (H' : Hp), 0 ≤ n → n < m → Kd p (c + 1) H H' → Q (.int n) H'
theorem has_take (D : Df K mg "_law_take" s_law_take) (B : Blt mg) (G_law_prime : Has P w K mg base "_law_prime" k ["at"] sp_prime) : Has P w K mg base "_law_take" (k + 1) ["pool", "many"] sp_take := by
  refine D.has sc_law_take (fun _ _ _ _ _ _ us hl => match us, hl with | [_, _], _ => rfl) (fun vs H Q E h => by obtain ⟨p, m, c, rfl, _⟩ := h; rfl) (fun f cdv A outer s H vs Q E hr h => ?_)
  obtain ⟨p, m, c, rfl, ⟨x, y, z, hp, z0, z1⟩, c6, m0, m1, q⟩ := h
  refine ⟨_, (pss_cons (ps_if (pt_cmpR op_gt (pe_ix ix_list (pv 0) pe_int (fun _ _ => rfl)) pe_int (nomark _))
  (pss_cons (ps_set (i := 2) sc_law_take.nd rfl (by first | exact Or.inl rfl | exact Or.inr rfl) (pe_op op_mod (pe_ix ix_list (pv 0) pe_int (fun _ _ => rfl)) (pv 1)))
  (pss_cons (ps_asg (pe_op op_fdiv (pe_ix ix_list (pv 0) pe_int (fun _ _ => rfl)) (pv 1)) (pg_sub (pv 0) pe_int set_list))
  (pss_one (ps_ret (pv 2)))))
  pss_nil)
  (pss_cons (ps_set (i := 3) sc_law_take.nd rfl (by first | exact Or.inl rfl | exact Or.inr rfl) (pe_ix ix_list (pv 0) pe_int (fun _ _ => rfl)))
  (pss_cons (ps_asg (pe_op op_add (pv 3) pe_int) (pg_sub (pv 0) pe_int set_list))
  (pss_cons (ps_set (i := 4) sc_law_take.nd rfl (by first | exact Or.inl rfl | exact Or.inr rfl) (pe_op op_mod (pe_op op_pow (pe_op op_add (pe_op op_add (pe_op op_mod (pe_ix ix_list (pv 0) pe_int (fun _ _ => rfl)) pe_int) (pe_op op_mul pe_int (pv 3))) pe_int) pe_int) (pe_callH G_law_prime hr rfl (pa_cons (pv 3) pa_nil))))
  (pss_cons (ps_set (i := 5) sc_law_take.nd rfl (by first | exact Or.inl rfl | exact Or.inr rfl) (pe_op op_mod (pe_op op_pow (pe_op op_add (pe_op op_add (pe_op op_add (pe_op op_mul (pv 4) (pv 4)) (pe_op op_mul pe_int (pv 3))) (pe_op op_mod (pe_ix ix_list (pv 0) pe_int (fun _ _ => rfl)) pe_int)) pe_int) pe_int) (pe_callH G_law_prime hr rfl (pa_cons (pe_op op_add (pv 3) pe_int) pa_nil))))
  (pss_one (ps_ret (pe_op op_mod (pe_op op_fdiv (pe_op op_mod (pe_op op_add (pe_op op_mul (pv 5) pe_int) (pv 4)) (pe_callH G_law_prime hr rfl (pa_cons (pe_op op_add (pv 3) pe_int) pa_nil))) pe_int) (pv 1))))))))), ?_⟩
  refine ⟨_, rfl, p, _, _, _, rfl, rfl, SqL.of hp, rfl, _, _, rfl, rfl, _, rfl, ite2 (fun cnd => ?_) (fun cnd => ?_)⟩
  · refine ⟨_, rfl, p, _, _, _, rfl, rfl, SqL.of hp, rfl, _, rfl, _, _, rfl, rfl, m0, ?_⟩
    refine ⟨_, rfl, p, _, _, _, rfl, rfl, SqL.of hp, rfl, _, rfl, _, _, rfl, rfl, ⟨m0, m1⟩, ?_⟩
    refine ⟨_, rfl, p, _, _, 0, rfl, rfl, hp, rfl, _, rfl, ?_⟩
    exact q _ _ (Int.emod_nonneg _ (by omega)) (Int.emod_lt_of_pos _ m0) ⟨⟨_, y, z, upd_same, z0, by omega⟩, fun b o hb e => by rw [upd_ne hb]; exact e⟩
  · refine ⟨_, rfl, p, _, _, _, rfl, rfl, SqL.of hp, rfl, _, rfl, _, _, rfl, rfl, ?_⟩
    refine ⟨_, rfl, p, _, _, 2, rfl, rfl, hp, rfl, ?_⟩
    have hp' : upd H p (.lst [.int x, .int y, .int (z + 1)]) p = some (.lst [.int x, .int y, .int (z + 1)]) := upd_same
    have kd : Kd p (c + 1) H (upd H p (.lst [.int x, .int y, .int (z + 1)])) := ⟨⟨x, y, z + 1, upd_same, by omega, by omega⟩, fun b o hb e => by rw [upd_ne hb]; exact e⟩
    have y1 := Int.emod_nonneg y (by decide : (2147483399 : Int) ≠ 0)
    have y2 := Int.emod_lt_of_pos y (by decide : (0 : Int) < 2147483399)
    refine ⟨_, rfl, p, _, _, _, rfl, rfl, SqL.of hp', rfl, _, _, rfl, rfl, (by decide : (0 : Int) < 2147483399), _, rfl, _, _, rfl, rfl, .inl ⟨by decide, by decide⟩, _, _, rfl, rfl, _, _, rfl, rfl, _, _, rfl, rfl, ⟨by decide, by decide, by omega⟩, ?_⟩
    refine ⟨_, rfl, z, rfl, fun n1 H1 a0 a1 s1 => ⟨_, _, rfl, rfl, a0, ?_⟩⟩
    have hp1 := s1 _ _ hp'
    refine ⟨_, rfl, _, rfl, _, _, rfl, rfl, .inl (mod_in _ _ a0 a1), _, rfl, _, _, rfl, rfl, .inl ⟨by decide, by decide⟩, _, _, rfl, rfl, _, rfl, p, _, _, _, rfl, rfl, SqL.of hp1, rfl, _, _, rfl, rfl, (by decide : (0 : Int) < 65537), _, _, rfl, rfl, _, _, rfl, rfl, _, _, rfl, rfl, ⟨by decide, by decide, pow_ok _ _ _ _ a0 a1 z0 (by omega)⟩, ?_⟩
    refine ⟨_, rfl, _, _, rfl, rfl, z + 4, rfl, fun n2 H2 b0 b1 s2 => ⟨_, _, rfl, rfl, b0, ?_⟩⟩
    refine ⟨_, rfl, _, _, rfl, rfl, .inr ⟨by decide, by decide⟩, _, rfl, _, _, rfl, rfl, _, rfl, _, _, rfl, rfl, z + 7, rfl, fun n3 H3 d0 d1 s3 => ⟨_, _, rfl, rfl, d0, ?_⟩⟩
    refine ⟨_, _, rfl, rfl, ⟨by decide, by decide⟩, _, rfl, _, _, rfl, rfl, m0, ?_⟩
    exact q _ _ (Int.emod_nonneg _ (by omega)) (Int.emod_lt_of_pos _ m0) (((kd.same s1).same s2).same s3)
/-! ### words_of -/
def wordsV (ups : List Int) (lab : Str) (n : Nat) : List V := (List.range n).map fun j => .str (mk (W ups lab.cps.toList j))
def sp_words : Sp := fun vs H Q _ => ∃ (t : Addr) (ups : List Int) (lab : Str), vs = [.ref t] ∧ TreeAt H t ups lab ∧ ∀ (q : Addr) (H' : Hp), Same H H' → H' q = some (.lst (wordsV ups lab ups.length)) → Q (.ref q) H'
theorem has_words (D : Df K mg "words_of" s_words_of) (B : Blt mg) : Has P w K mg base "words_of" (k + 1) ["tree"] sp_words := by
  refine D.has sc_words_of (fun _ _ _ _ _ _ us hl => match us, hl with | [_], _ => rfl) (fun vs H Q E h => by obtain ⟨t, ups, lab, rfl, _⟩ := h; rfl) (fun f cdv A outer s H vs Q E hr h => ?_)
  obtain ⟨t, ups, lab, rfl, ⟨u, ht, hu, ok⟩, q⟩ := h
  refine ⟨_, (pss_cons (ps_set (i := 1) sc_words_of.nd rfl (by first | exact Or.inl rfl | exact Or.inr rfl) (pe_lst pa_nil))
  (pss_cons (ps_for PassesOwn.never rfl (pi_zip rfl B.zip (pa_cons (pe_ix ix_tup (pv 0) pe_int (fun _ _ => rfl)) (pa_cons (pe_ix ix_tup (pv 0) pe_int (fun _ _ => rfl)) pa_nil))) (pg_tup rfl (pgs_cons (pg_name (i := 2) sc_words_of.nd rfl (by first | exact Or.inl rfl | exact Or.inr rfl)) (pgs_cons (pg_name (i := 3) sc_words_of.nd rfl (by first | exact Or.inl rfl | exact Or.inr rfl)) pgs_nil)))
  (pss_one (ps_expr (pe_bm PySem.F.plainAttrs_list PySem.F.slot_list_append PySem.F.type_list_append mt_append (pv 1) (pa_cons (pe_ifExp (pt_cmpR op_eq (pv 3) (pe_un un_neg pe_int) (nomark _)) (pv 2) (pe_op op_add_str (pv 2) (pe_ix ix_list (pv 1) (pv 3) (fun _ _ => rfl)))) pa_nil)))))
  (pss_one (ps_ret (pv 1))))), ?_⟩
  have hlen : (signs lab).length = (ups.map V.int).length := by rw [List.length_map, ok.len]; simp [signs]
  refine ⟨(by show 0 ≤ sizeLine; decide), fun r hr0 => ?_⟩
  have s0 : Same H (upd H r (.lst [])) := (Same.refl H).new hr0
  refine ⟨_, rfl, t, _, _, _, rfl, rfl, SqT.of (s0 _ _ ht), rfl, _, rfl, t, _, _, _, rfl, rfl, SqT.of (s0 _ _ ht), rfl, .str lab, .tup u, rfl, ⟨_, rfl⟩, ⟨_, .inl (s0 _ _ hu)⟩, ?_⟩
  refine for_zip (xs := signs lab) (ys := ups.map V.int) (fun i σ H' => ∃ o1 o2 : Option V, σ = [some (.ref t), some (.ref r), o1, o2] ∧ Same H H' ∧ H' r = some (.lst (wordsV ups lab i))) ⟨none, none, rfl, s0, upd_same⟩ hlen
    (fun i σ H' hi h => by obtain ⟨o1, o2, _, s1, _⟩ := h; exact ⟨rfl, .inl (s1 _ _ hu)⟩) ?_ ?_
  · rintro i x y σ H' p hx hy ⟨o1, o2, rfl, s1, hr1⟩ hp
    obtain ⟨c, hc, rfl⟩ : ∃ c, lab.cps.toList[i]? = some c ∧ x = .str ⟨#[c]⟩ := by
      simp only [signs, List.getElem?_map] at hx
      cases e : lab.cps.toList[i]? with
      | none => rw [e] at hx; cases hx
      | some c => rw [e] at hx; exact ⟨c, rfl, (Option.some.inj hx).symm⟩
    obtain ⟨v, hv, rfl⟩ : ∃ v, ups[i]? = some v ∧ y = .int v := by
      simp only [List.getElem?_map] at hy
      cases e : ups[i]? with
      | none => rw [e] at hy; cases hy
      | some v => rw [e] at hy; exact ⟨v, rfl, (Option.some.inj hy).symm⟩
    have hi : i < ups.length := (List.getElem?_eq_some_iff.mp hv).1
    have ev : ups.getD i 0 = v := by rw [List.getD_eq_getElem?_getD, hv]; rfl
    have ec : lab.cps.toList.getD i 0 = c := by rw [List.getD_eq_getElem?_getD, hc]; rfl
    have hm := ok.most
    have s2 : Same H (upd H' p (.tup [.str ⟨#[c]⟩, .int v])) := s1.new hp
    have hr2 : upd H' p (.tup [.str ⟨#[c]⟩, .int v]) r = some (.lst (wordsV ups lab i)) := by rw [upd_ne (ne_of_none hr1 hp)]; exact hr1
    have wl : (wordsV ups lab i).length = i := by simp [wordsV]
    have step : wordsV ups lab (i + 1) = wordsV ups lab i ++ [.str (mk (W ups lab.cps.toList i))] := by
      unfold wordsV
      rw [List.range_succ, List.map_append]; rfl
    refine ⟨p, _, rfl, SqT.of upd_same, rfl, _, _, rfl, _, _, rfl, rfl, ?_⟩
    refine ⟨_, rfl, .inl ⟨rfl, _, SqL.of hr2⟩, _, rfl, _, rfl, rfl, _, rfl, ite2 (fun cnd => ?_) (fun cnd => ?_)⟩
    · have e1 : V.int v = V.int (-1) := of_decide_eq_true cnd
      have e2 : v = -1 := by injection e1
      have ew : W ups lab.cps.toList i = [c] := by rw [W_eq ok hi, ev, ec, if_pos (by omega)]
      refine ⟨_, rfl, r, _, _, rfl, rfl, hr2, by rw [wl]; exact small1000 (by omega), ⟨_, _, rfl, s2.write hr0, ?_⟩⟩
      rw [upd_same, step, ew]
      rfl
    · have e1 : ¬ V.int v = V.int (-1) := of_decide_eq_false (Bool.eq_false_iff.mpr cnd)
      have e2 : v ≠ -1 := fun z => e1 (by rw [z])
      have e3 : ¬ v < 0 := by
        have := ok.neg hi
        rw [ev] at this
        omega
      have lt := ok.lt hi (by rw [ev]; exact e3)
      rw [ev] at lt
      have hat : atI (wordsV ups lab i) v = some (.str (mk (W ups lab.cps.toList v.toNat))) := by
        have e : atI (wordsV ups lab i) ((v.toNat : Nat) : Int) = some (.str (mk (W ups lab.cps.toList v.toNat))) := atI_nat (by
          unfold wordsV
          rw [List.getElem?_map, List.getElem?_range lt]; rfl)
        rw [show ((v.toNat : Nat) : Int) = v by omega] at e
        exact e
      have wle := W_len ok (v.toNat + 1) v.toNat (by omega) (by omega)
      have ew : W ups lab.cps.toList i = c :: W ups lab.cps.toList v.toNat := by rw [W_eq ok hi, ev, ec, if_neg e3]
      refine ⟨_, rfl, _, rfl, _, rfl, r, _, _, _, rfl, rfl, SqL.of hr2, hat, _, _, rfl, rfl, ?_, r, _, _, rfl, rfl, hr2, by rw [wl]; exact small1000 (by omega), ⟨_, _, rfl, s2.write hr0, ?_⟩⟩
      · rw [mk_len]
        have : (⟨#[c]⟩ : Str).length = 1 := rfl
        rw [this]
        exact Nat.le_of_lt (small1000 (by omega))
      · rw [upd_same, step, ew, mk_app]
  · rintro σ H' ⟨o1, o2, rfl, s1, hr1⟩
    refine ⟨_, rfl, q r H' s1 ?_⟩
    rw [hr1]
    congr 2
    simp [signs, ok.len]


end
end S30


set_option Elab.async false
set_option linter.all false
set_option maxRecDepth 100000
set_option maxHeartbeats 8000000
namespace S30
open PySem L2 W7
section
variable {P : Program} {w : World} {K : PySem.W.Frag} {mg : Str → Option Value} {base : Heap} {k : Nat}
/-- the numbers of the places above, as they grow -/
def stepUp (us : List Int) (p : Int) : Int := if us.getD p.toNat 0 > 0 then us.getD p.toNat 0 else 0
/-- so many steps up from a place (the root stays) -/
def climb (us : List Int) : Nat → Int → Int
  | 0, p => p
  | n + 1, p => stepUp us (climb us n p)
structure GrOk (us : List Int) : Prop where
  road : ∀ k, 0 < k → k < us.length → ∃ n, climb us n ((k : Int) - 1) = us.getD k 0
  pos : 0 < us.length
  root : us.getD 0 0 = -1
  up : ∀ k, 0 < k → k < us.length → 0 ≤ us.getD k 0 ∧ us.getD k 0 < (k : Int)
theorem getD_app {us vs : List Int} {j : Nat} : (us ++ vs).getD j 0 = if j < us.length then us.getD j 0 else vs.getD (j - us.length) 0 := by
  simp only [List.getD_eq_getElem?_getD]
  split
  · rename_i h; rw [List.getElem?_append_left h]
  · rename_i h; rw [List.getElem?_append_right (by omega)]
theorem GrOk.climb {us : List Int} (g : GrOk us) (v : Int) {p : Int} (h0 : 0 ≤ p) (h1 : p < (us.length : Int)) : ∀ n, climb (us ++ [v]) n p = climb us n p ∧ 0 ≤ climb us n p ∧ climb us n p < (us.length : Int)
  | 0 => ⟨rfl, h0, h1⟩
  | n + 1 => by
    obtain ⟨a, b, c⟩ := g.climb v h0 h1 n
    have lt : (S30.climb us n p).toNat < us.length := by omega
    have e : (us ++ [v]).getD (S30.climb us n p).toNat 0 = us.getD (S30.climb us n p).toNat 0 := by rw [getD_app, if_pos lt]
    refine ⟨?_, ?_⟩
    · show stepUp (us ++ [v]) (S30.climb (us ++ [v]) n p) = stepUp us (S30.climb us n p)
      rw [a]; unfold stepUp; rw [e]
    · show 0 ≤ stepUp us (S30.climb us n p) ∧ stepUp us (S30.climb us n p) < (us.length : Int)
      have pos := g.pos
      unfold stepUp
      rcases Nat.eq_zero_or_pos (S30.climb us n p).toNat with z | z
      · rw [z, g.root]; exact ⟨by decide, by show (0 : Int) < _; omega⟩
      · have := g.up _ z lt
        split <;> omega
theorem GrOk.snoc {us : List Int} (g : GrOk us) {v : Int} (h0 : 0 ≤ v) (h1 : v < (us.length : Int)) (hr : ∃ n, S30.climb us n ((us.length : Int) - 1) = v) : GrOk (us ++ [v]) where
  road := fun j hj hl => by
    rw [List.length_append, List.length_singleton] at hl
    rw [getD_app]
    have pos := g.pos
    split
    · rename_i h
      obtain ⟨n, e⟩ := g.road j hj h
      exact ⟨n, ((g.climb v (by omega) (by omega) n).1).trans e⟩
    · rename_i h
      have e : j = us.length := by omega
      subst e
      obtain ⟨n, e⟩ := hr
      rw [Nat.sub_self]
      exact ⟨n, ((g.climb v (by omega) (by omega) n).1).trans e⟩
  pos := by rw [List.length_append]; have := g.pos; omega
  root := by rw [getD_app, if_pos g.pos]; exact g.root
  up := fun j hj hl => by
    rw [List.length_append, List.length_singleton] at hl
    rw [getD_app]
    split
    · rename_i h; exact g.up j hj h
    · rename_i h
      have e : j = us.length := by omega
      subst e
      rw [Nat.sub_self]
      exact ⟨h0, h1⟩
theorem GrOk.one : GrOk [-1] := ⟨fun j h0 h1 => by
  have : j < 1 := h1
  omega, by decide, rfl, fun j h0 h1 => by
  have : j < 1 := h1
  omega⟩
theorem gr_tree {us : List Int} {ls : List Nat} (g : GrOk us) (hl : us.length = ls.length) (h60 : us.length ≤ 60) : TreeOk us (mk ls).cps.toList := ⟨by rw [mk_cps]; exact hl, g.pos, h60, g.root, g.up⟩
/-- growing, from none on -/
structure Fine (ups : List Int) (lab : Str) : Prop where
  low : ∀ c ∈ lab.cps.toList, Lw c
  road : ∀ k, 0 < k → k < ups.length → ∃ n, climb ups n ((k : Int) - 1) = ups.getD k 0
end
end S30


set_option Elab.async false
set_option linter.all false
set_option maxRecDepth 100000
set_option maxHeartbeats 8000000
namespace S30
open PySem L2 W7
structure Blt7 (mg : Str → Option Value) : Prop extends Blt mg where
  sorted : mg "sorted" = none
  all : mg "all" = none
  repr : mg "repr" = none
  most : ∃ u, mg "MOST_PLACES" = some u ∧ RelV (.int 60) u
  letters : ∃ u, mg "LETTERS" = some u ∧ RelV (.str "abcdefghijklmnopqrstuvwxyz") u
section
variable {P : Program} {w : World} {K : PySem.W.Frag} {mg : Str → Option Value} {base : Heap} {k : Nat}
/-! ### what the order is -/
abbrev lpO : Pos := ⟨15, 41, 15, 76⟩
abbrev qO : Str := (("order_of" : Str) ++ ".<locals>.") ++ "<lambda>"
def Kw (ups : List Int) (lab : Str) (i : Nat) : List V := [.str (mk (W ups lab.cps.toList i)), .int (i : Int)]
theorem kw_keys (ups : List Int) (lab : Str) (n : Nat) : Keys n (Kw ups lab) [2, 1] where
  shp := fun i => rfl
  ne := by simp
  z := by simp
  inj := fun i j _ _ h => by
    have h2 : [V.str (mk (W ups lab.cps.toList i)), .int (i : Int)] = [.str (mk (W ups lab.cps.toList j)), .int (j : Int)] := h
    simp only [List.cons.injEq, V.int.injEq, and_true] at h2
    omega
structure OrderOk (ups : List Int) (lab : Str) (os : List Nat) : Prop where
  perm : os.Perm (List.range ups.length)
  rise : ∀ i j, i < j → j < ups.length → lexV (Kw ups lab (os.getD j 0)) (Kw ups lab (os.getD i 0)) = false
theorem OrderOk.len {ups : List Int} {lab : Str} {os : List Nat} (h : OrderOk ups lab os) : os.length = ups.length := by have := h.perm.length_eq; simpa using this
theorem OrderOk.one {ups : List Int} {lab : Str} {os os' : List Nat} (h : OrderOk ups lab os) (h' : OrderOk ups lab os') : os = os' := rise_one (kw_keys ups lab ups.length) h.perm h'.perm h.rise h'.rise
abbrev natV (l : List Nat) : List V := l.map fun i : Nat => V.int (i : Int)
theorem natV_ints (l : List Nat) : natV l = (l.map fun i : Nat => (i : Int)).map V.int := by unfold natV; rw [List.map_map]; rfl
theorem wordsV_at {ups : List Int} {lab : Str} {i n : Nat} (h : i < n) : atI (wordsV ups lab n) (i : Int) = some (.str (mk (W ups lab.cps.toList i))) := atI_nat (by unfold wordsV; rw [List.getElem?_map, List.getElem?_range h]; rfl)

/-! ### order_of -/
def sp_order (ls : List Lm) : Sp := fun vs H Q _ => ∃ (t : Addr) (ups : List Int) (lab : Str), vs = [.ref t] ∧ TreeAt H t ups lab ∧ Lams ls H ∧
  ∀ (os : List Nat) (r : Addr) (H' : Hp), OrderOk ups lab os → Kt ls H H' → H r = none → H' r = some (.lst (natV os)) → Q (.ref r) H'
theorem has_order {T : Addr} {ls : List Lm} (D : Df K mg "order_of" s_order_of) (B : Blt7 mg) (kb : K.In base) (TA : TabAt base mg "order_of" T) (LK : LmOk ls) (LI : (T, lpO, qO) ∈ ls) (G_words_of : Has P w K mg base "words_of" k ["tree"] sp_words) : Has P w K mg base "order_of" (k + 1) ["tree"] (sp_order ls) := by
  refine D.hasT kb TA sc_order_of (fun _ _ _ _ _ _ us hl => match us, hl with | [_], _ => rfl) (fun vs H Q E h => by obtain ⟨t, ups, lab, rfl, _⟩ := h; rfl) (fun f c A outer s H vs Q E CH hr h => ?_)
  have BA := TA.blt
  obtain ⟨t, ups, lab, rfl, tr, L, q⟩ := h
  refine ⟨_, (pss_cons (ps_set (i := 1) sc_order_of.nd rfl (by first | exact Or.inl rfl | exact Or.inr rfl) (pe_callH G_words_of hr rfl (pa_cons (pv 0) pa_nil)))
  (pss_one (ps_ret (pe_sortLam (x := "place") (ix := [1]) hr rfl rfl B.sorted (pe_rng1 rfl B.range (pa_cons (pe_callB call_len_seq rfl B.len bt_len (pa_cons (pv 1) pa_nil)) pa_nil)) rfl CH BA LK LI (csc (defScope s_order_of) N_order_of) (fun qual cl fa cd A1 s₃ H₃ pins => (pe_tup (pa_cons (pe_ix (ix_listK K) (pv 1) (pv 0) (fun _ _ => rfl)) (pa_cons (pv 0) pa_nil)))))))), ?_⟩
  obtain ⟨_, _, _, ok⟩ := id tr
  have m60 := ok.most
  have lpos := ok.pos
  refine ⟨_, rfl, t, ups, lab, rfl, tr, fun r H1 s1 hr1 => ?_⟩
  have wl : (wordsV ups lab ups.length).length = ups.length := by simp [wordsV]
  have L1 := L.same s1
  refine ⟨_, rfl, r, _, rfl, .inl (SqL.of hr1), _, rfl, fun g hg => ?_⟩
  have s2 : Same H1 (upd H1 g (.rng 0 (((wordsV ups lab ups.length).length : Nat) : Int))) := (Same.refl H1).new hg
  refine ⟨g, 0, _, Kw ups lab, [2, 1], rfl, upd_same, ⟨by decide, by decide, by omega, by omega⟩, by omega, L1.same s2, kw_keys _ _ _, fun i H2 hi kt => ?_, fun p l H2 hp hrise kt hl hl2 => ?_⟩
  · have hr2 := kt.lst (s2 _ _ hr1)
    rw [wl] at hi
    have e0 : (0 : Int) + (i : Int) = (i : Int) := Int.zero_add _
    refine ⟨_, rfl, _, rfl, r, _, _, _, rfl, rfl, SqL.of hr2, by rw [e0]; exact wordsV_at (by omega), _, rfl, (by show 2 ≤ sizeLine; decide), fun a ha => ⟨a, rfl, ?_, (Same.refl H2).new ha⟩⟩
    rw [upd_same]
    unfold Kw
    rw [e0]
  · have e1 : ((((wordsV ups lab ups.length).length : Nat) : Int) - 0).toNat = ups.length := by rw [wl]; omega
    rw [e1] at hp hrise
    refine q p l H2 ⟨hp, hrise⟩ ((s1.trans s2).kt kt) ((s1.trans s2).free hl) ?_
    rw [hl2]
    congr 2
    unfold natV
    refine List.map_congr_left fun i _ => ?_
    rw [Int.zero_add]

/-! ### ranks -/
theorem rise_true {ups : List Int} {lab : Str} {os : List Nat} (h : OrderOk ups lab os) {i j : Nat} (hij : i < j) (hj : j < ups.length) : lexV (Kw ups lab (os.getD i 0)) (Kw ups lab (os.getD j 0)) = true := by
  cases e : lexV (Kw ups lab (os.getD i 0)) (Kw ups lab (os.getD j 0)) with
  | true => rfl
  | false =>
    exfalso
    have z := (kw_keys ups lab ups.length)
    have ek := lexV_tot _ _ ((z.shp (os.getD i 0)).trans (z.shp (os.getD j 0)).symm) (by rw [z.shp]; exact z.z) e (h.rise i j hij hj)
    have ln := h.len
    have e2 : os.getD i 0 = os.getD j 0 := by
      have h2 : [V.str (mk (W ups lab.cps.toList (os.getD i 0))), .int ((os.getD i 0 : Nat) : Int)] = [.str (mk (W ups lab.cps.toList (os.getD j 0))), .int ((os.getD j 0 : Nat) : Int)] := ek
      simp only [List.cons.injEq, V.int.injEq, and_true] at h2
      omega
    have nd : os.Nodup := h.perm.nodup_iff.mpr List.nodup_range
    rw [List.getD_eq_getElem?_getD, List.getD_eq_getElem?_getD, List.getElem?_eq_getElem (by omega), List.getElem?_eq_getElem (by omega)] at e2
    have := (List.getElem_inj nd).mp (show os[i]'(by omega) = os[j]'(by omega) from e2)
    omega
theorem count_split (f : Nat → Bool) : ∀ (l : List Nat) (j : Nat), j ≤ l.length → (∀ i, i < j → f (l.getD i 0) = true) → (∀ i, j ≤ i → i < l.length → f (l.getD i 0) = false) → (l.filter f).length = j
  | [], j, h, _, _ => by simp at h; simp [h]
  | x :: l, 0, _, _, b => by
    have hx : f x = false := b 0 (Nat.le_refl _) (by simp)
    rw [List.filter_cons_of_neg (by rw [hx]; simp)]
    exact count_split f l 0 (Nat.zero_le _) (fun i hi => absurd hi (Nat.not_lt_zero _)) fun i _ hi => b (i + 1) (Nat.zero_le _) (by simpa using hi)
  | x :: l, j + 1, h, a, b => by
    have hx : f x = true := a 0 (Nat.succ_pos _)
    rw [List.filter_cons_of_pos hx, List.length_cons, count_split f l j (by simpa using h) (fun i hi => a (i + 1) (by omega)) fun i h1 h2 => b (i + 1) (by omega) (by simpa using h2)]
/-- how many places come ahead -/
def cnt (ups : List Int) (lab : Str) (p : Nat) : Nat := ((List.range ups.length).filter fun i => lexV (Kw ups lab i) (Kw ups lab p)).length
theorem cnt_rank {ups : List Int} {lab : Str} {os : List Nat} (h : OrderOk ups lab os) {j : Nat} (hj : j < ups.length) : cnt ups lab (os.getD j 0) = j := by
  have ln := h.len
  have e : (os.filter fun i => lexV (Kw ups lab i) (Kw ups lab (os.getD j 0))).length = j := by
    refine count_split _ os j (by omega) (fun i hi => rise_true h hi hj) fun i h1 h2 => ?_
    rcases Nat.eq_or_lt_of_le h1 with q | q
    · rw [← q]
      cases e : lexV (Kw ups lab (os.getD j 0)) (Kw ups lab (os.getD j 0)) with
      | false => rfl
      | true => have := lexV_asym _ _ e; rw [e] at this; cases this
    · exact h.rise j i q (by omega)
  have e2 := (h.perm.filter (fun i => lexV (Kw ups lab i) (Kw ups lab (os.getD j 0)))).length_eq
  unfold cnt
  rw [← e2]
  exact e
def sp_ranks (ls : List Lm) : Sp := fun vs H Q _ => ∃ (t : Addr) (ups : List Int) (lab : Str), vs = [.ref t] ∧ TreeAt H t ups lab ∧ Lams ls H ∧
  ∀ (os : List Nat) (r : Addr) (H' : Hp), OrderOk ups lab os → Kt ls H H' → H r = none → H' r = some (.lst (natV ((List.range ups.length).map (cnt ups lab)))) → Q (.ref r) H'
theorem has_ranks {ls : List Lm} (D : Df K mg "ranks_of" s_ranks_of) (B : Blt7 mg) (G_order_of : Has P w K mg base "order_of" k ["tree"] (sp_order ls)) : Has P w K mg base "ranks_of" (k + 1) ["tree"] (sp_ranks ls) := by
  refine D.has sc_ranks_of (fun _ _ _ _ _ _ us hl => match us, hl with | [_], _ => rfl) (fun vs H Q E h => by obtain ⟨t, ups, lab, rfl, _⟩ := h; rfl) (fun f cdv A outer s H vs Q E hr h => ?_)
  obtain ⟨t, ups, lab, rfl, tr, L, q⟩ := h
  refine ⟨_, (pss_cons (ps_set (i := 1) sc_ranks_of.nd rfl (by first | exact Or.inl rfl | exact Or.inr rfl) (pe_callH G_order_of hr rfl (pa_cons (pv 0) pa_nil)))
  (pss_cons (ps_set (i := 2) sc_ranks_of.nd rfl (by first | exact Or.inl rfl | exact Or.inr rfl) (pe_op op_rep (pe_lst (pa_cons pe_int pa_nil)) (pe_callB call_len_seq rfl B.len bt_len (pa_cons (pv 1) pa_nil))))
  (pss_cons (ps_for PassesOwn.never rfl (pi_enum rfl B.enumerate (pa_cons (pv 1) pa_nil)) (pg_tup rfl (pgs_cons (pg_name (i := 3) sc_ranks_of.nd rfl (by first | exact Or.inl rfl | exact Or.inr rfl)) (pgs_cons (pg_name (i := 4) sc_ranks_of.nd rfl (by first | exact Or.inl rfl | exact Or.inr rfl)) pgs_nil)))
  (pss_one (ps_asg (pv 3) (pg_sub (pv 2) (pv 4) set_list))))
  (pss_one (ps_ret (pv 2)))))), ?_⟩
  obtain ⟨_, _, _, ok⟩ := id tr
  have m60 := ok.most
  have lpos := ok.pos
  refine ⟨_, rfl, t, ups, lab, rfl, tr, L, fun os r H1 oo k1 hf1 hr1 => ?_⟩
  have ol := oo.len
  have nl : (natV os).length = ups.length := by rw [List.length_map, ol]
  refine ⟨(by show 1 ≤ sizeLine; decide), fun z hz => ?_⟩
  have s2 : Same H1 (upd H1 z (.lst [.int 0])) := (Same.refl H1).new hz
  refine ⟨_, rfl, r, _, rfl, .inl (SqL.of (s2 _ _ hr1)), z, _, _, rfl, rfl, upd_same, by omega, by omega, ?_, fun r2 hr2 => ?_⟩
  · rw [nl, List.length_singleton, Nat.one_mul]
    exact Nat.le_of_lt (small1000 (by omega))
  have eF : (List.replicate ((((natV os).length : Nat) : Int)).toNat [V.int 0]).flatten = (List.replicate ups.length (0 : Int)).map V.int := by
    rw [nl, Int.toNat_natCast]
    induction ups.length with
    | zero => rfl
    | succ m ih => rw [List.replicate_succ, List.flatten_cons, ih, List.replicate_succ]; rfl
  rw [eF]
  have s3 : Same (upd H1 z (.lst [.int 0])) (upd (upd H1 z (.lst [.int 0])) r2 (.lst ((List.replicate ups.length (0 : Int)).map V.int))) := (Same.refl _).new hr2
  have h22 : upd (upd H1 z (.lst [.int 0])) r2 (.lst ((List.replicate ups.length (0 : Int)).map V.int)) r2 = some (.lst ((List.replicate ups.length (0 : Int)).map V.int)) := upd_same
  have f2 : H1 r2 = none := s2.free hr2
  have s4 := s2.trans s3
  generalize upd (upd H1 z (.lst [.int 0])) r2 (.lst ((List.replicate ups.length (0 : Int)).map V.int)) = H4 at s4 h22
  have h41 := s4 _ _ hr1
  have rr : r ≠ r2 := ne_of_none hr1 f2
  refine ⟨_, rfl, .lst r, rfl, ⟨_, .inl h41⟩, ?_⟩
  refine for_enum (xs := natV os) (fun j σ H' => ∃ o3 o4 : Option V, ∃ rs : List Int, σ = [some (.ref t), some (.ref r), some (.ref r2), o3, o4] ∧ Kt ls H H' ∧ H' r = some (.lst (natV os)) ∧ H' r2 = some (.lst (rs.map V.int)) ∧ rs.length = ups.length ∧ ∀ i p, i < j → os[i]? = some p → rs[p]? = some (i : Int))
    ⟨none, none, _, rfl, k1.same s4, h41, h22, List.length_replicate .., fun i p hi => absurd hi (Nat.not_lt_zero _)⟩ (fun j σ H' _ h => by obtain ⟨_, _, _, _, _, h, _⟩ := h; exact .inl h) ?_ ?_
  · rintro j x σ H' p hx ⟨o3, o4, rs, rfl, kt, g1, g2, rl, hrs⟩ hp
    rw [natV, List.getElem?_map] at hx
    cases e1 : os[j]? with
    | none => rw [e1] at hx; cases hx
    | some pl =>
      rw [e1] at hx
      cases hx
      have pll : pl < ups.length := List.mem_range.mp (oo.perm.mem_iff.mp (List.mem_of_getElem? e1))
      have jl : j < os.length := (List.getElem?_eq_some_iff.mp e1).1
      refine ⟨p, _, rfl, SqT.of upd_same, rfl, _, _, rfl, _, _, rfl, rfl, ?_⟩
      have g1' : upd H' p (.tup [.int (j : Int), .int (pl : Int)]) r = some (.lst (natV os)) := by rw [upd_ne (ne_of_none g1 hp)]; exact g1
      have g2' : upd H' p (.tup [.int (j : Int), .int (pl : Int)]) r2 = some (.lst (rs.map V.int)) := by rw [upd_ne (ne_of_none g2 hp)]; exact g2
      have kt' : Kt ls H (upd H' p (.tup [.int (j : Int), .int (pl : Int)])) := kt.same ((Same.refl H').new hp)
      refine ⟨_, rfl, _, rfl, _, rfl, r2, _, _, pl, rfl, rfl, g2', ?_, _, _, rs.set pl (j : Int), rfl, kt'.write ?_ g2', ?_, ?_, by rw [List.length_set]; exact rl, fun i p' hi hp' => ?_⟩
      · unfold ixN
        rw [List.length_map, rl, if_pos (by omega), if_pos (by omega), Int.toNat_natCast]
      · exact k1.here _ f2
      · rw [upd_ne rr]; exact g1'
      · rw [upd_same, List.map_set]
      · rcases Nat.lt_or_ge i j with c | c
        · have nd : os.Nodup := oo.perm.nodup_iff.mpr List.nodup_range
          have ne : pl ≠ p' := fun e => by
            subst e
            have i1 := (List.getElem?_eq_some_iff.mp hp')
            have i2 := (List.getElem?_eq_some_iff.mp e1)
            have := (List.getElem_inj nd).mp (i1.2.trans i2.2.symm)
            omega
          rw [List.getElem?_set_ne ne]
          exact hrs i p' c hp'
        · have ei : i = j := by omega
          subst ei
          rw [e1] at hp'; cases hp'
          rw [List.getElem?_set_self (by omega)]
  · rintro σ H' ⟨o3, o4, rs, rfl, kt, g1, g2, rl, hrs⟩
    refine ⟨_, rfl, q os r2 H' oo kt (k1.here _ f2) ?_⟩
    rw [g2]
    congr 2
    rw [natV_ints]
    congr 1
    apply List.ext_getElem?
    intro p
    rcases Nat.lt_or_ge p ups.length with c | c
    · have hm : p ∈ os := oo.perm.mem_iff.mpr (List.mem_range.mpr c)
      obtain ⟨i, hi, e⟩ := List.getElem_of_mem hm
      have ei : os[i]? = some p := by rw [List.getElem?_eq_getElem hi, e]
      rw [hrs i p (by rw [nl]; omega) ei, List.getElem?_map, List.getElem?_map, List.getElem?_range c]
      have ec := cnt_rank oo (j := i) (by omega)
      rw [List.getD_eq_getElem?_getD, ei, Option.getD_some] at ec
      show _ = some ((cnt ups lab p : Nat) : Int)
      rw [ec]
    · rw [List.getElem?_eq_none (by omega), List.getElem?_eq_none (by simp; omega)]

/-! ### the kept order -/
abbrev lpK : Pos := ⟨50, 48, 50, 88⟩
abbrev qK : Str := (("kept_order" : Str) ++ ".<locals>.") ++ "<lambda>"
theorem cnt_pos {ups : List Int} {lab : Str} {os : List Nat} (h : OrderOk ups lab os) {a : Nat} (ha : a < ups.length) : ∃ i, i < ups.length ∧ os.getD i 0 = a ∧ cnt ups lab a = i := by
  have ln := h.len
  have hm : a ∈ os := h.perm.mem_iff.mpr (List.mem_range.mpr ha)
  obtain ⟨i, hi, e⟩ := List.getElem_of_mem hm
  have e2 : os.getD i 0 = a := by rw [List.getD_eq_getElem?_getD, List.getElem?_eq_getElem hi]; exact e
  have e3 := cnt_rank h (j := i) (by omega)
  rw [e2] at e3
  exact ⟨i, by omega, e2, e3⟩
theorem cnt_lex {ups : List Int} {lab : Str} {os : List Nat} (h : OrderOk ups lab os) {a b : Nat} (ha : a < ups.length) (hb : b < ups.length) (hab : a ≠ b) : cnt ups lab a ≠ cnt ups lab b ∧ lexV (Kw ups lab a) (Kw ups lab b) = decide (cnt ups lab a < cnt ups lab b) := by
  obtain ⟨i, i1, i2, i3⟩ := cnt_pos h ha
  obtain ⟨j, j1, j2, j3⟩ := cnt_pos h hb
  have ne : i ≠ j := fun e => hab (by rw [← i2, ← j2, e])
  rw [i3, j3]
  refine ⟨ne, ?_⟩
  rcases Nat.lt_or_gt_of_ne ne with c | c
  · have := rise_true h c j1
    rw [i2, j2] at this
    rw [this, decide_eq_true c]
  · have := h.rise j i c i1
    rw [i2, j2] at this
    rw [this, decide_eq_false (by omega)]
def upN (ups : List Int) (i : Nat) : Nat := (ups.getD (i + 1) 0).toNat
def Kr (ups : List Int) (lab : Str) (i : Nat) : List V := [.int ((cnt ups lab (upN ups i) : Nat) : Int), .int (1 + (i : Int))]
def Kl (ups : List Int) (lab : Str) (i : Nat) : List V := [.str (mk (W ups lab.cps.toList (upN ups i))), .int ((upN ups i : Nat) : Int), .int (1 + (i : Int))]
theorem kr_keys (ups : List Int) (lab : Str) (n : Nat) : Keys n (Kr ups lab) [1, 1] where
  shp := fun i => rfl
  ne := by simp
  z := by simp
  inj := fun i j _ _ h => by
    unfold Kr at h
    simp only [List.cons.injEq, V.int.injEq, and_true] at h
    omega
theorem kl_keys (ups : List Int) (lab : Str) (n : Nat) : Keys n (Kl ups lab) [2, 1, 1] where
  shp := fun i => rfl
  ne := by simp
  z := by simp
  inj := fun i j _ _ h => by
    unfold Kl at h
    simp only [List.cons.injEq, V.int.injEq, and_true] at h
    omega
theorem lex_cons (x y : V) (xs ys : List V) : lexV (x :: xs) (y :: ys) = if x = y then lexV xs ys else ltV x y := by rw [lexV]
theorem up_lt {ups : List Int} {lab : List Nat} (ok : TreeOk ups lab) {i : Nat} (hi : i < ups.length - 1) : upN ups i < ups.length ∧ ups.getD (i + 1) 0 = ((upN ups i : Nat) : Int) := by
  have := ok.up (i + 1) (by omega) (by omega)
  unfold upN
  omega
theorem lex_same {ups : List Int} {lab : Str} {os : List Nat} (h : OrderOk ups lab os) (ok : TreeOk ups lab.cps.toList) {i j : Nat} (hi : i < ups.length - 1) (hj : j < ups.length - 1) : lexV (Kr ups lab i) (Kr ups lab j) = lexV (Kl ups lab i) (Kl ups lab j) := by
  have ai := (up_lt ok hi).1
  have aj := (up_lt ok hj).1
  unfold Kr Kl
  generalize upN ups i = a at ai
  generalize upN ups j = b at aj
  by_cases e : a = b
  · subst e
    rw [lex_cons, if_pos rfl, lex_cons (.str _), if_pos rfl, lex_cons (.int (a : Int)), if_pos rfl]
  · obtain ⟨c1, c2⟩ := cnt_lex h ai aj e
    have n1 : ¬ (V.int ((cnt ups lab a : Nat) : Int) = V.int ((cnt ups lab b : Nat) : Int)) := fun z => c1 (by injection z; omega)
    have n2 : ¬ (V.int (a : Int) = V.int (b : Int)) := fun z => e (by injection z; omega)
    unfold Kw at c2
    rw [lex_cons, lex_cons (.int (a : Int)), if_neg n2] at c2
    rw [lex_cons, if_neg n1, lex_cons (.str _), lex_cons (.int (a : Int)), if_neg n2, c2]
    show decide (((cnt ups lab a : Nat) : Int) < ((cnt ups lab b : Nat) : Int)) = _
    rw [Bool.eq_iff_iff, decide_eq_true_eq, decide_eq_true_eq]
    omega
structure KeptOk (ups : List Int) (lab : Str) (ks : List Nat) : Prop where
  perm : ks.Perm (List.range (ups.length - 1))
  rise : ∀ i j, i < j → j < ups.length - 1 → lexV (Kl ups lab (ks.getD j 0)) (Kl ups lab (ks.getD i 0)) = false
theorem KeptOk.len {ups : List Int} {lab : Str} {ks : List Nat} (h : KeptOk ups lab ks) : ks.length = ups.length - 1 := by have := h.perm.length_eq; simpa using this
theorem KeptOk.one {ups : List Int} {lab : Str} {os os' : List Nat} (h : KeptOk ups lab os) (h' : KeptOk ups lab os') : os = os' := rise_one (kl_keys ups lab (ups.length - 1)) h.perm h'.perm h.rise h'.rise
abbrev keptI (ks : List Nat) : List Int := 0 :: ks.map fun i : Nat => 1 + (i : Int)
def sp_kept (ls : List Lm) : Sp := fun vs H Q _ => ∃ (t : Addr) (ups : List Int) (lab : Str), vs = [.ref t] ∧ TreeAt H t ups lab ∧ Lams ls H ∧
  ∀ (ks : List Nat) (r : Addr) (H' : Hp), KeptOk ups lab ks → Kt ls H H' → H r = none → H' r = some (.lst ((keptI ks).map V.int)) → Q (.ref r) H'
theorem has_kept {T : Addr} {ls : List Lm} (D : Df K mg "kept_order" s_kept_order) (B : Blt7 mg) (kb : K.In base) (TA : TabAt base mg "kept_order" T) (LK : LmOk ls) (LI : (T, lpK, qK) ∈ ls) (G_ranks_of : Has P w K mg base "ranks_of" k ["tree"] (sp_ranks ls)) : Has P w K mg base "kept_order" (k + 1) ["tree"] (sp_kept ls) := by
  refine D.hasT kb TA sc_kept_order (fun _ _ _ _ _ _ us hl => match us, hl with | [_], _ => rfl) (fun vs H Q E h => by obtain ⟨t, ups, lab, rfl, _⟩ := h; rfl) (fun f c A outer s H vs Q E CH hr h => ?_)
  have BA := TA.blt
  obtain ⟨t, ups, lab, rfl, tr, L, q⟩ := h
  refine ⟨_, (pss_cons (ps_set (i := 1) sc_kept_order.nd rfl (by first | exact Or.inl rfl | exact Or.inr rfl) (pe_ix ix_tup (pv 0) pe_int (fun _ _ => rfl)))
  (pss_cons (ps_set (i := 2) sc_kept_order.nd rfl (by first | exact Or.inl rfl | exact Or.inr rfl) (pe_callH G_ranks_of hr rfl (pa_cons (pv 0) pa_nil)))
  (pss_one (ps_ret (pe_op op_cat (pe_lst (pa_cons pe_int pa_nil)) (pe_sortLam (x := "place") (ix := [2, 1]) hr rfl rfl B.sorted (pe_rng2 rfl B.range (pa_cons pe_int (pa_cons (pe_callB call_len_seq rfl B.len bt_len (pa_cons (pv 1) pa_nil)) pa_nil))) rfl CH BA LK LI (csc (defScope s_kept_order) N_kept_order) (fun qual cl fa cd A1 s₃ H₃ pins => (pe_tup (pa_cons (pe_ix (ix_listK K) (pv 1) (pe_ix (ix_tupK K) (pv 2) (pv 0) (fun _ _ => rfl)) (fun _ _ => rfl)) (pa_cons (pv 0) pa_nil)))))))))), ?_⟩
  obtain ⟨u, ht, hu, ok⟩ := id tr
  have m60 := ok.most
  have lpos := ok.pos
  refine ⟨_, rfl, t, _, _, _, rfl, rfl, SqT.of ht, rfl, ?_⟩
  refine ⟨_, rfl, t, ups, lab, rfl, tr, L, fun os r H1 oo k1 hf1 hr1 => ?_⟩
  have hu1 := k1.tup hu
  refine ⟨(by show 1 ≤ sizeLine; decide), fun z hz => ?_⟩
  have s2 : Same H1 (upd H1 z (.lst [.int 0])) := (Same.refl H1).new hz
  have z2 : upd H1 z (.lst [.int 0]) z = some (.lst [.int 0]) := upd_same
  generalize upd H1 z (.lst [.int 0]) = H2 at s2 z2
  have hr2 := s2 _ _ hr1
  have hu2 := s2 _ _ hu1
  have L2' : Lams ls H2 := k1.lam.same s2
  refine ⟨_, rfl, u, _, rfl, .inr (SqT.of hu2), _, _, rfl, fun g hg => ?_⟩
  have s3 : Same H2 (upd H2 g (.rng 1 (((ups.map V.int).length : Nat) : Int))) := (Same.refl H2).new hg
  have ul : (ups.map V.int).length = ups.length := List.length_map _
  refine ⟨g, 1, _, Kr ups lab, [1, 1], rfl, upd_same, ⟨by decide, by decide, by omega, by omega⟩, by omega, L2'.same s3, kr_keys _ _ _, fun i H3 hi kt => ?_, fun p l H3 hp hrise kt hl hl2 => ?_⟩
  · have hi' : i < ups.length - 1 := by omega
    have hr3 := kt.lst (s3 _ _ hr2)
    have hu3 := kt.tup (s3 _ _ hu2)
    have e1 : (1 + (i : Int)).toNat = i + 1 := by omega
    obtain ⟨ul1, ul2⟩ := up_lt ok hi'
    refine ⟨_, rfl, _, rfl, _, rfl, u, _, _, _, rfl, rfl, SqT.of hu3, (ints_at (us := ups) (i := 1 + (i : Int)) (by omega) (by omega)), r, _, _, _, rfl, rfl, SqL.of hr3, ?_, _, rfl, (by show 2 ≤ sizeLine; decide), fun a ha => ⟨a, rfl, upd_same, (Same.refl H3).new ha⟩⟩
    rw [e1, ul2]
    refine atI_nat ?_
    rw [natV, List.map_map, List.getElem?_map, List.getElem?_range ul1]; rfl
  · have e1 : ((((ups.map V.int).length : Nat) : Int) - 1).toNat = ups.length - 1 := by omega
    rw [e1] at hp hrise
    have mem : ∀ i, i < ups.length - 1 → p.getD i 0 < ups.length - 1 := fun i hi => by
      have pl : p.length = ups.length - 1 := by have := hp.length_eq; simpa using this
      rw [List.getD_eq_getElem?_getD, List.getElem?_eq_getElem (by omega)]
      exact List.mem_range.mp (hp.mem_iff.mp (List.getElem_mem _))
    have ko : KeptOk ups lab p := ⟨hp, fun i j hij hj => by
      rw [← lex_same oo ok (mem j hj) (mem i (by omega))]; exact hrise i j hij hj⟩
    have kl := ko.len
    have z3 := kt.lst (s3 _ _ z2)
    refine ⟨z, l, _, _, rfl, rfl, z3, hl2, ?_, fun pp hpp => q p pp _ ko ?_ ?_ ?_⟩
    · rw [List.length_map, kl]
      exact Nat.le_of_lt (small1000 (by simp only [List.length_cons, List.length_nil]; omega))
    · exact (k1.same (s2.trans s3)).trans (kt.same ((Same.refl H3).new hpp))
    · exact k1.here _ ((s2.trans s3).free (kt.here _ hpp))
    · rw [upd_same, List.map_cons, List.map_map]; rfl

/-! ### _law_cells -/
def sp_cells (K : PySem.W.Frag) : Sp := fun vs H Q _ => ∃ (a : Addr) (ns : List Int) (m : Nat), vs = [.ref a, .int (m : Int)] ∧ SqL K H a (ns.map V.int) ∧ ns.length ≤ 63 ∧ m ≤ 63 ∧
  ∀ (cs : List Int) (r : Addr) (H' : Hp), cs.length ≤ 64 → Same H H' → H r = none → H' r = some (.lst (cs.map V.int)) → Q (.ref r) H'
theorem has_cells (D : Df K mg "_law_cells" s_law_cells) (B : Blt7 mg) : Has P w K mg base "_law_cells" (k + 1) ["script", "many"] (sp_cells K) := by
  refine D.has sc_law_cells (fun _ _ _ _ _ _ us hl => match us, hl with | [_, _], _ => rfl) (fun vs H Q E h => by obtain ⟨a, ns, m, rfl, _⟩ := h; rfl) (fun f cdv A outer s H vs Q E hr h => ?_)
  obtain ⟨a, ns, m, rfl, hS, h63, m63, q⟩ := h
  refine ⟨_, (pss_one (ps_ret (pe_op op_cat (pe_slice sl_list (pv 0) po_none (po_some (pv 1))) (pe_op op_rep (pe_lst (pa_cons pe_int pa_nil)) (pe_callTy call_int1 rfl B.int_ bt_int (pa_cons (pe_cmpR (op_eq_lst hr.units0) (pv 0) (pe_lst pa_nil) (nomark _)) pa_nil)))))), ?_⟩
  refine ⟨_, rfl, _, rfl, _, rfl, a, _, rfl, hS, fun p hp => ?_⟩
  have s1 : Same H (upd H p (.lst (cutV (ns.map V.int) none (some (m : Int))))) := (Same.refl H).new hp
  have h1 : upd H p (.lst (cutV (ns.map V.int) none (some (m : Int)))) p = some (.lst (cutV (ns.map V.int) none (some (m : Int)))) := upd_same
  generalize upd H p (.lst (cutV (ns.map V.int) none (some (m : Int)))) = H1 at s1 h1
  refine ⟨(by show 1 ≤ sizeLine; decide), fun z hz => ?_⟩
  have s2 : Same H1 (upd H1 z (.lst [.int 0])) := (Same.refl H1).new hz
  have h2 : upd H1 z (.lst [.int 0]) z = some (.lst [.int 0]) := upd_same
  generalize upd H1 z (.lst [.int 0]) = H2 at s2 h2
  refine ⟨_, rfl, (by show 0 ≤ sizeLine; decide), fun e he => ?_⟩
  have s3 : Same H2 (upd H2 e (.lst [])) := (Same.refl H2).new he
  have h3 : upd H2 e (.lst []) e = some (.lst []) := upd_same
  generalize upd H2 e (.lst []) = H3 at s3 h3
  refine ⟨a, e, _, _, rfl, rfl, SqL.keepS hS ((s1.trans s2).trans s3), SqL.of h3, flat_ints _, rfl, ?_⟩
  generalize eqVs (ns.map V.int) [] = bb
  refine .inr ⟨bb, rfl, z, _, _, rfl, rfl, s3 _ _ h2, ?_, ?_, ?_, fun r2 hr2 => ?_⟩
  · cases bb <;> decide
  · cases bb <;> decide
  · cases bb <;> decide
  have s4 : Same H3 (upd H3 r2 (.lst (List.replicate (if bb = true then (1 : Int) else 0).toNat [V.int 0]).flatten)) := (Same.refl H3).new hr2
  have e0 : (List.replicate (if bb = true then (1 : Int) else 0).toNat [V.int 0]).flatten = (List.replicate (if bb = true then 1 else 0) (0 : Int)).map V.int := by cases bb <;> rfl
  rw [e0] at s4 ⊢
  have h4 : upd H3 r2 (.lst ((List.replicate (if bb = true then 1 else 0) (0 : Int)).map V.int)) r2 = some (.lst ((List.replicate (if bb = true then 1 else 0) (0 : Int)).map V.int)) := upd_same
  generalize upd H3 r2 (.lst ((List.replicate (if bb = true then 1 else 0) (0 : Int)).map V.int)) = H4 at s4 h4
  have ec : cutV (ns.map V.int) none (some (m : Int)) = (ns.take (HT.sIx (ns.map V.int).length (ns.map V.int).length (some (m : Int)))).map V.int := by
    unfold cutV
    rw [HT.sIx_none, List.drop_zero, Nat.sub_zero, List.map_take]
  have lb : (if bb = true then 1 else 0 : Nat) ≤ 1 := by cases bb <;> decide
  have lt1 : (ns.take (HT.sIx (ns.map V.int).length (ns.map V.int).length (some (m : Int)))).length ≤ 63 := by rw [List.length_take]; omega
  refine ⟨p, r2, _, _, rfl, rfl, s4 _ _ (s3 _ _ (s2 _ _ h1)), h4, ?_, fun r3 hr3 => q (ns.take (HT.sIx (ns.map V.int).length (ns.map V.int).length (some (m : Int))) ++ List.replicate (if bb = true then 1 else 0) 0) r3 _ ?_ ?_ ?_ ?_⟩
  · rw [ec]
    simp only [List.length_map, List.length_replicate] at lt1 ⊢
    exact Nat.le_of_lt (small1000 (by omega))
  · rw [List.length_append, List.length_replicate]; omega
  · exact (((s1.trans s2).trans s3).trans s4).trans ((Same.refl H4).new hr3)
  · exact (((s1.trans s2).trans s3).trans s4).free hr3
  · rw [upd_same, ec, List.map_append]
end
end S30


set_option Elab.async false
set_option linter.all false
set_option maxRecDepth 100000
set_option maxHeartbeats 8000000
namespace S30
open PySem L2 W7
section
variable {P : Program} {w : World} {K : PySem.W.Frag} {mg : Str → Option Value} {base : Heap} {k : Nat}
/-! ### beneath_of -/
def ben (ups : List Int) (p : Int) (m : Nat) : List Nat := (List.range m).filter fun j => decide (ups.getD j 0 = p)
theorem ben_succ (ups : List Int) (p : Int) (m : Nat) : ben ups p (m + 1) = if ups.getD m 0 = p then ben ups p m ++ [m] else ben ups p m := by
  unfold ben
  rw [List.range_succ, List.filter_append]
  by_cases h : ups.getD m 0 = p
  · rw [if_pos h, List.filter_cons_of_pos (by simpa using h)]; rfl
  · rw [if_neg h, List.filter_cons_of_neg (by simpa using h)]; simp
theorem ben_le (ups : List Int) (p : Int) (m : Nat) : (ben ups p m).length ≤ m := by
  have := List.length_filter_le (fun j => decide (ups.getD j 0 = p)) (List.range m)
  simpa [ben] using this
def sp_beneath : Sp := fun vs H Q _ => ∃ (t : Addr) (ups : List Int) (lab : Str) (p : Int), vs = [.ref t, .int p] ∧ TreeAt H t ups lab ∧
  ∀ (r : Addr) (H' : Hp), Same H H' → H r = none → H' r = some (.lst (natV (ben ups p ups.length))) → Q (.ref r) H'
theorem has_beneath (D : Df K mg "beneath_of" s_beneath_of) (B : Blt7 mg) : Has P w K mg base "beneath_of" (k + 1) ["tree", "place"] sp_beneath := by
  refine D.has sc_beneath_of (fun _ _ _ _ _ _ us hl => match us, hl with | [_, _], _ => rfl) (fun vs H Q E h => by obtain ⟨t, ups, lab, p, rfl, _⟩ := h; rfl) (fun f cdv A outer s H vs Q E hr h => ?_)
  obtain ⟨t, ups, lab, p, rfl, tr, q⟩ := h
  refine ⟨_, (pss_one (ps_ret (pe_comp rfl (pi_enum rfl B.enumerate (pa_cons (pe_ix ix_tup (pv 0) pe_int (fun _ _ => rfl)) pa_nil)) (NL := ["other", "up"]) (ix := [1]) (csc (defScope s_beneath_of) N_beneath_of) (fun cl C s₃ H₃ fp pins => ⟨(pg_tupK K (n := 2) rfl (pgs_cons (pg_name (i := 0) (show List.Nodup (["other", "up", "place"] : List Str) from by decide +kernel) rfl (by first | exact Or.inl rfl | exact Or.inr rfl)) (pgs_cons (pg_name (i := 1) (show List.Nodup (["other", "up", "place"] : List Str) from by decide +kernel) rfl (by first | exact Or.inl rfl | exact Or.inr rfl)) pgs_nil))), (pifs_one (pt_cmpR op_eq (pv 1) (pv 2) (nomark _))), (pv 0)⟩)))), ?_⟩
  obtain ⟨u, ht, hu, ok⟩ := id tr
  have m60 := ok.most
  refine ⟨_, rfl, t, _, _, _, rfl, rfl, SqT.of ht, rfl, .tup u, rfl, ⟨_, .inl hu⟩, fun acc hacc => ?_⟩
  refine comp_enum (xs := ups.map V.int) (by rw [List.length_map]; omega) (fun i ys H2 => H2 acc = some (.lst ys) ∧ ys = natV (ben ups p i) ∧ Same H H2)
    (fun i ys H2 h => .inl (h.2.2 _ _ hu)) (fun i ys H2 h => ⟨h.1, by rw [h.2.1, natV, List.length_map]; exact ben_le _ _ _⟩) ⟨upd_same, rfl, (Same.refl H).new hacc⟩ ?_ ?_
  · rintro ys H2 ⟨g1, rfl, g3⟩
    rw [List.length_map] at g1
    exact q acc H2 g3 hacc g1
  · rintro i x ys H2 pp hx ⟨g1, rfl, g3⟩ hpp
    rw [List.getElem?_map] at hx
    cases e1 : ups[i]? with
    | none => rw [e1] at hx; cases hx
    | some v =>
      rw [e1] at hx
      cases hx
      have ev : ups.getD i 0 = v := by rw [List.getD_eq_getElem?_getD, e1]; rfl
      refine ⟨pp, _, rfl, SqT.of upd_same, rfl, _, _, rfl, _, _, rfl, rfl, ?_⟩
      refine ⟨rfl, ?_⟩
      have g1' : upd H2 pp (.tup [.int (i : Int), .int v]) acc = some (.lst (natV (ben ups p i))) := by rw [upd_ne (ne_of_none g1 hpp)]; exact g1
      refine ⟨_, rfl, _, rfl, rfl, _, rfl, ite2 (fun cnd => ?_) (fun cnd => ?_)⟩
      · have ec : v = p := by
          have := of_decide_eq_true cnd
          injection this
        exact ⟨_, rfl, g1', upd_same, by rw [ben_succ, if_pos (ev.trans ec), natV, natV, List.map_append]; rfl, (g3.new hpp).write hacc⟩
      · have ec : v ≠ p := fun z => cnd (by rw [z]; exact decide_eq_true rfl)
        exact ⟨g1', by rw [ben_succ, if_neg (by rw [ev]; exact ec)], g3.new hpp⟩
/-! ### is_leaf -/
def leafB (ups : List Int) (p : Int) : Bool := !inV (.int p) (ups.map V.int)
def sp_leaf : Sp := fun vs H Q _ => ∃ (t : Addr) (ups : List Int) (lab : Str) (p : Int), vs = [.ref t, .int p] ∧ TreeAt H t ups lab ∧ Q (.bl (leafB ups p)) H
theorem has_leaf (D : Df K mg "is_leaf" s_is_leaf) (B : Blt7 mg) : Has P w K mg base "is_leaf" (k + 1) ["tree", "place"] sp_leaf := by
  refine D.has sc_is_leaf (fun _ _ _ _ _ _ us hl => match us, hl with | [_, _], _ => rfl) (fun vs H Q E h => by obtain ⟨t, ups, lab, p, rfl, _⟩ := h; rfl) (fun f cdv A outer s H vs Q E hr h => ?_)
  obtain ⟨t, ups, lab, p, rfl, tr, q⟩ := h
  refine ⟨_, (pss_one (ps_ret (pe_cmpR op_notIn_seq (pv 1) (pe_ix ix_tup (pv 0) pe_int (fun _ _ => rfl)) (by with_unfolding_all rfl)))), ?_⟩
  obtain ⟨u, ht, hu, ok⟩ := id tr
  exact ⟨_, rfl, _, rfl, t, _, _, _, rfl, rfl, SqT.of ht, rfl, u, _, rfl, .inr (SqT.of hu), rfl, flat_ints _, q⟩
/-! ### is_last -/
def lastB (ups : List Int) (j : Nat) : Bool := decide (j = 0) || decide ((ben ups (ups.getD j 0) ups.length).getLast? = some j)
def sp_last : Sp := fun vs H Q _ => ∃ (t : Addr) (ups : List Int) (lab : Str) (j : Nat), vs = [.ref t, .int (j : Int)] ∧ TreeAt H t ups lab ∧ j < ups.length ∧ ∀ H' : Hp, Same H H' → Q (.bl (lastB ups j)) H'
theorem has_last (D : Df K mg "is_last" s_is_last) (B : Blt7 mg) (G_beneath_of : Has P w K mg base "beneath_of" k ["tree", "place"] sp_beneath) : Has P w K mg base "is_last" (k + 1) ["tree", "place"] sp_last := by
  refine D.has sc_is_last (fun _ _ _ _ _ _ us hl => match us, hl with | [_, _], _ => rfl) (fun vs H Q E h => by obtain ⟨t, ups, lab, p, rfl, _⟩ := h; rfl) (fun f cdv A outer s H vs Q E hr h => ?_)
  obtain ⟨t, ups, lab, j, rfl, tr, hj, q⟩ := h
  refine ⟨_, (pss_one (ps_ret (pe_or (pe_cmpR op_eq (pv 1) pe_int (nomark _)) (pe_one (pe_cmpR op_eq (pv 1) (pe_ix ix_list (pe_callH G_beneath_of hr rfl (pa_cons (pv 0) (pa_cons (pe_ix ix_tup (pe_ix ix_tup (pv 0) pe_int (fun _ _ => rfl)) (pv 1) (fun _ _ => rfl)) pa_nil))) (pe_un un_neg pe_int) (fun _ _ => rfl)) (nomark _)))))), ?_⟩
  obtain ⟨u, ht, hu, ok⟩ := id tr
  have m60 := ok.most
  refine ⟨_, rfl, rfl, _, rfl, ite2 (fun cnd => ?_) (fun cnd => ?_)⟩
  · have z := of_decide_eq_true cnd
    have z0 : j = 0 := by injection z with z; omega
    have e : lastB ups j = true := by unfold lastB; rw [z0]; rfl
    have := q H (Same.refl H)
    rw [e] at this
    exact this
  · have nz : j ≠ 0 := fun e => cnd (by rw [e]; exact decide_eq_true rfl)
    have hat := ints_at (us := ups) (i := (j : Int)) (by omega) (by omega)
    rw [Int.toNat_natCast] at hat
    refine ⟨_, rfl, _, rfl, _, rfl, t, _, _, _, rfl, rfl, SqT.of ht, rfl, _, rfl, u, _, _, _, rfl, rfl, SqT.of hu, hat, t, ups, lab, _, rfl, tr, fun r H1 s1 hf1 hr1 => ?_⟩
    have hm : j ∈ ben ups (ups.getD j 0) ups.length := by
      unfold ben
      rw [List.mem_filter]
      exact ⟨List.mem_range.mpr hj, decide_eq_true rfl⟩
    have el : lastB ups j = decide ((ben ups (ups.getD j 0) ups.length).getLast? = some j) := by unfold lastB; rw [decide_eq_false nz, Bool.false_or]
    generalize ben ups (ups.getD j 0) ups.length = bs at hm el hr1
    rcases List.eq_nil_or_concat bs with eb | ⟨bi, bl, eb⟩
    · rw [eb] at hm; cases hm
    · rw [List.concat_eq_append] at eb
      subst eb
      have hat2 : atI (natV (bi ++ [bl])) (-1) = some (.int (bl : Int)) := by rw [natV, List.map_append]; exact atI_last _ _
      refine ⟨_, rfl, r, _, _, _, rfl, rfl, SqL.of hr1, hat2, rfl, ?_⟩
      have := q H1 s1
      rw [el, List.getLast?_concat] at this
      have e2 : decide (V.int (j : Int) = V.int (bl : Int)) = decide (some bl = some j) := by
        rw [Bool.eq_iff_iff, decide_eq_true_eq, decide_eq_true_eq]
        constructor
        · intro z; injection z with z; rw [show bl = j by omega]
        · intro z; injection z with z; rw [z]
      rw [e2]
      exact this
/-! ### rows_of -/
abbrev keptN (ks : List Nat) : List Nat := 0 :: ks.map (· + 1)
def oneS (lab : Str) (j : Nat) : Str := ⟨#[lab.cps.toList.getD j 0]⟩
def rowsText (lab : Str) (ks : List Nat) : Str := Txt.join (Str.ofString "") ((keptN ks).map (oneS lab))
def sp_rows (ls : List Lm) : Sp := fun vs H Q _ => ∃ (t : Addr) (ups : List Int) (lab : Str), vs = [.ref t] ∧ TreeAt H t ups lab ∧ Lams ls H ∧
  ∀ (ks : List Nat) (r a b : Addr) (H' : Hp), KeptOk ups lab ks → Kt ls H H' → H r = none → H' r = some (.tup [.str (rowsText lab ks), .ref a, .ref b]) →
    H' a = some (.tup ((keptN ks).map fun j => .bl (lastB ups j))) → H' b = some (.tup ((keptN ks).map fun j : Nat => .bl (leafB ups (j : Int)))) → Q (.ref r) H'
theorem has_rows {ls : List Lm} (D : Df K mg "rows_of" s_rows_of) (B : Blt7 mg) (G_kept_order : Has P w K mg base "kept_order" k ["tree"] (sp_kept ls)) (G_is_last : Has P w K mg base "is_last" k ["tree", "place"] sp_last) (G_is_leaf : Has P w K mg base "is_leaf" k ["tree", "place"] sp_leaf) : Has P w K mg base "rows_of" (k + 1) ["tree"] (sp_rows ls) := by
  refine D.has sc_rows_of (fun _ _ _ _ _ _ us hl => match us, hl with | [_], _ => rfl) (fun vs H Q E h => by obtain ⟨t, ups, lab, rfl, _⟩ := h; rfl) (fun f cdv A outer s H vs Q E hr h => ?_)
  obtain ⟨t, ups, lab, rfl, tr, L, q⟩ := h
  refine ⟨_, (pss_cons (ps_set (i := 1) sc_rows_of.nd rfl (by first | exact Or.inl rfl | exact Or.inr rfl) (pe_callH G_kept_order hr rfl (pa_cons (pv 0) pa_nil)))
  (pss_cons (ps_set (i := 2) sc_rows_of.nd rfl (by first | exact Or.inl rfl | exact Or.inr rfl) (pe_bm PySem.F.plainAttrs_str PySem.F.slot_str_join PySem.F.type_str_join mt_join pe_str (pa_cons (pe_comp rfl (pi_list (pv 1)) (NL := ["place"]) (ix := [0]) (csc (defScope s_rows_of) N_rows_of) (fun cl C s₃ H₃ fp pins => ⟨(pg_name (i := 0) (show List.Nodup (["place", "tree"] : List Str) from by decide +kernel) rfl (by first | exact Or.inl rfl | exact Or.inr rfl)), pifs_nil, (pe_ix ix_str (pe_ix (ix_tupK K) (pv 1) pe_int (fun _ _ => rfl)) (pv 0) (fun _ _ => rfl))⟩)) pa_nil)))
  (pss_cons (ps_set (i := 3) sc_rows_of.nd rfl (by first | exact Or.inl rfl | exact Or.inr rfl) (pe_callTy call_tuple_of rfl B.tuple_ bt_tuple (pa_cons (pe_comp rfl (pi_list (pv 1)) (NL := ["place"]) (ix := [0]) (csc (defScope s_rows_of) N_rows_of) (fun cl C s₃ H₃ fp pins => ⟨(pg_name (i := 0) (show List.Nodup (["place", "tree"] : List Str) from by decide +kernel) rfl (by first | exact Or.inl rfl | exact Or.inr rfl)), pifs_nil, (pe_callH G_is_last hr rfl (pa_cons (pv 1) (pa_cons (pv 0) pa_nil)))⟩)) pa_nil)))
  (pss_cons (ps_set (i := 4) sc_rows_of.nd rfl (by first | exact Or.inl rfl | exact Or.inr rfl) (pe_callTy call_tuple_of rfl B.tuple_ bt_tuple (pa_cons (pe_comp rfl (pi_list (pv 1)) (NL := ["place"]) (ix := [0]) (csc (defScope s_rows_of) N_rows_of) (fun cl C s₃ H₃ fp pins => ⟨(pg_name (i := 0) (show List.Nodup (["place", "tree"] : List Str) from by decide +kernel) rfl (by first | exact Or.inl rfl | exact Or.inr rfl)), pifs_nil, (pe_callH G_is_leaf hr rfl (pa_cons (pv 1) (pa_cons (pv 0) pa_nil)))⟩)) pa_nil)))
  (pss_one (ps_ret (pe_tup (pa_cons (pv 2) (pa_cons (pv 3) (pa_cons (pv 4) pa_nil)))))))))), ?_⟩
  obtain ⟨u, ht, hu, ok⟩ := id tr
  have m60 := ok.most
  have lpos := ok.pos
  refine ⟨_, rfl, t, ups, lab, rfl, tr, L, fun ks r1 H1 ko k1 hf1 hr1 => ?_⟩
  have kl := ko.len
  have ek : (keptI ks).map V.int = natV (keptN ks) := by
    rw [natV, keptI, keptN, List.map_cons, List.map_cons, List.map_map, List.map_map]
    congr 1
    refine List.map_congr_left fun i _ => ?_
    show V.int (1 + (i : Int)) = V.int ((i + 1 : Nat) : Int)
    congr 1; omega
  rw [ek] at hr1
  have kn : (keptN ks).length = ups.length := by simp only [keptN, List.length_cons, List.length_map]; omega
  have kin : ∀ j ∈ keptN ks, j < ups.length := fun j hj => by
    rcases List.mem_cons.mp hj with z | z
    · omega
    · obtain ⟨i, hi, rfl⟩ := List.mem_map.mp z
      have := List.mem_range.mp (ko.perm.mem_iff.mp hi)
      omega
  have q' := fun (r a b : Addr) (H' : Hp) => q ks r a b H' ko
  unfold rowsText at q'
  generalize keptN ks = ns at kn kin hr1 q'
  have nl : (natV ns).length = ups.length := by rw [natV, List.length_map, kn]
  have ht1 := k1.tup ht
  have hu1 := k1.tup hu
  have tr1 : TreeAt H1 t ups lab := ⟨u, ht1, hu1, ok⟩
  have ll : lab.cps.toList.length = ups.length := ok.len.symm
  have lz : lab.length ≤ sizeLine := Nat.le_of_lt (small1000 (by simp only [Str.length]; rw [← Array.length_toList, ll]; omega))
  have nget : ∀ {i : Nat} {x : V}, (natV ns)[i]? = some x → ∃ j, ns[i]? = some j ∧ j < ups.length ∧ x = .int (j : Int) := fun {i x} hx => by
    rw [natV, List.getElem?_map] at hx
    cases e1 : ns[i]? with
    | none => rw [e1] at hx; cases hx
    | some j => rw [e1] at hx; cases hx; exact ⟨j, rfl, kin j (List.mem_of_getElem? e1), rfl⟩
  -- labels
  refine ⟨rfl, _, rfl, r1, rfl, ⟨_, SqL.of hr1⟩, fun acc hacc => ?_⟩
  refine comp_lst (xs := natV ns) (by omega) (fun i ys H2 => H2 acc = some (.lst ys) ∧ ys = ((ns.take i).map (oneS lab)).map V.str ∧ Same H1 H2)
    (fun i ys H2 h => SqL.of (h.2.2 _ _ hr1)) (fun i ys H2 h => ⟨h.1, by rw [h.2.1, List.length_map, List.length_map, List.length_take]; exact Nat.min_le_left _ _⟩) ⟨upd_same, rfl, (Same.refl H1).new hacc⟩ ?_ ?_
  rotate_left
  · rintro i x ys H2 hx ⟨g1, rfl, g3⟩
    obtain ⟨j, e1, jl, rfl⟩ := nget hx
    refine ⟨rfl, ?_⟩
    refine ⟨_, rfl, t, _, _, _, rfl, rfl, SqT.of (g3 _ _ ht1), rfl, _, rfl, lab, _, _, rfl, rfl, lz, atI_nat (List.getElem?_eq_getElem (by omega : j < lab.cps.toList.length)), g1, upd_same, ?_, g3.write hacc⟩
    rw [List.take_succ, e1, List.map_append, List.map_append]
    congr 1
    show _ = [V.str (oneS lab j)]
    unfold oneS
    rw [List.getD_eq_getElem?_getD, List.getElem?_eq_getElem (by omega : j < lab.cps.toList.length)]; rfl
  rintro ys H2 ⟨g1, rfl, g3⟩
  rw [nl, ← kn, List.take_length] at g1
  refine ⟨_, acc, _, rfl, rfl, SqL.of g1, ?_, ?_⟩
  · have : ∀ l : List Nat, ((l.map (oneS lab)).map (·.length)).sum = l.length := fun l => by
      induction l with
      | nil => rfl
      | cons a r ih => rw [List.map_cons, List.map_cons, List.sum_cons, ih, List.length_cons]; show 1 + _ = _; omega
    rw [this, List.length_map]
    have e0 : (Str.ofString "").length = 0 := rfl
    rw [e0]; omega
  -- lasts
  have hr2 := g3 _ _ hr1
  refine ⟨_, rfl, r1, rfl, ⟨_, SqL.of hr2⟩, fun ac2 hac2 => ?_⟩
  refine comp_lst (xs := natV ns) (by omega) (fun i ys H3 => H3 ac2 = some (.lst ys) ∧ ys = (ns.take i).map (fun j => V.bl (lastB ups j)) ∧ Same H2 H3)
    (fun i ys H3 h => SqL.of (h.2.2 _ _ hr2)) (fun i ys H3 h => ⟨h.1, by rw [h.2.1, List.length_map, List.length_take]; exact Nat.min_le_left _ _⟩) ⟨upd_same, rfl, (Same.refl H2).new hac2⟩ ?_ ?_
  rotate_left
  · rintro i x ys H3 hx ⟨g4, rfl, g5⟩
    obtain ⟨j, e1, jl, rfl⟩ := nget hx
    refine ⟨rfl, ?_⟩
    refine ⟨_, rfl, _, rfl, t, ups, lab, j, rfl, (tr1.same g3).same g5, jl, fun H4 s4 => ?_⟩
    refine ⟨s4 _ _ g4, upd_same, ?_, (g5.trans s4).write hac2⟩
    rw [List.take_succ, e1, List.map_append]; rfl
  rintro ys H3 ⟨g4, rfl, g5⟩
  rw [nl, ← kn, List.take_length] at g4
  refine ⟨ac2, _, rfl, .inl ⟨SqL.of g4, fun la hla => ?_⟩⟩
  have s6 : Same H3 (upd H3 la (.tup (ns.map fun j => V.bl (lastB ups j)))) := (Same.refl H3).new hla
  have h6 : upd H3 la (.tup (ns.map fun j => V.bl (lastB ups j))) la = some (.tup (ns.map fun j => V.bl (lastB ups j))) := upd_same
  generalize upd H3 la (.tup (ns.map fun j => V.bl (lastB ups j))) = H6 at s6 h6
  -- leaves
  have hr6 := s6 _ _ (g5 _ _ hr2)
  refine ⟨_, rfl, r1, rfl, ⟨_, SqL.of hr6⟩, fun ac3 hac3 => ?_⟩
  refine comp_lst (xs := natV ns) (by omega) (fun i ys H7 => H7 ac3 = some (.lst ys) ∧ ys = (ns.take i).map (fun j : Nat => V.bl (leafB ups (j : Int))) ∧ Same H6 H7)
    (fun i ys H7 h => SqL.of (h.2.2 _ _ hr6)) (fun i ys H7 h => ⟨h.1, by rw [h.2.1, List.length_map, List.length_take]; exact Nat.min_le_left _ _⟩) ⟨upd_same, rfl, (Same.refl H6).new hac3⟩ ?_ ?_
  rotate_left
  · rintro i x ys H7 hx ⟨g7, rfl, g8⟩
    obtain ⟨j, e1, jl, rfl⟩ := nget hx
    refine ⟨rfl, ?_⟩
    refine ⟨_, rfl, _, rfl, t, ups, lab, _, rfl, (((tr1.same g3).same g5).same s6).same g8, g7, upd_same, ?_, g8.write hac3⟩
    rw [List.take_succ, e1, List.map_append]; rfl
  rintro ys H7 ⟨g7, rfl, g8⟩
  rw [nl, ← kn, List.take_length] at g7
  refine ⟨ac3, _, rfl, .inl ⟨SqL.of g7, fun le hle => ?_⟩⟩
  have s9 : Same H7 (upd H7 le (.tup (ns.map fun j : Nat => V.bl (leafB ups (j : Int))))) := (Same.refl H7).new hle
  have h9 : upd H7 le (.tup (ns.map fun j : Nat => V.bl (leafB ups (j : Int)))) le = some (.tup (ns.map fun j : Nat => V.bl (leafB ups (j : Int)))) := upd_same
  generalize upd H7 le (.tup (ns.map fun j : Nat => V.bl (leafB ups (j : Int)))) = H9 at s9 h9
  refine ⟨_, rfl, _, rfl, _, rfl, (by show 3 ≤ sizeLine; decide), fun rr hrr => ?_⟩
  have s19 : Same H1 H9 := ((((g3.trans g5).trans s6).trans g8).trans s9)
  have sR : Same H9 (upd H9 rr (.tup [.str (Txt.join (Str.ofString "") (ns.map (oneS lab))), .ref la, .ref le])) := (Same.refl H9).new hrr
  exact q' rr la le _ (k1.same (s19.trans sR)) (k1.here _ (s19.free hrr)) upd_same (sR _ _ ((g8.trans s9) _ _ h6)) (sR _ _ h9)
end
end S30


set_option Elab.async false
set_option linter.all false
set_option maxRecDepth 100000
set_option maxHeartbeats 8000000
namespace S30
open PySem L2 W7
/-! ### plain -/
section
variable {ups : List Int} {lab : List Nat}
theorem chn_trans (t : TreeOk ups lab) : ∀ (n k : Nat), k < n → k < ups.length → ∀ v ∈ chn ups k, ∀ w ∈ chn ups v.toNat, w ∈ chn ups k
  | 0, _, h, _, _, _, _, _ => absurd h (Nat.not_lt_zero _)
  | n + 1, k, hn, hk, v, hv, w, hw => by
    rw [chn_eq t hk] at hv ⊢
    split at hv
    · cases hv
    · rename_i h0
      rw [if_neg h0]
      have lt := t.lt hk h0
      rcases List.mem_cons.mp hv with e | e
      · rw [e] at hw; exact List.mem_cons_of_mem _ hw
      · exact List.mem_cons_of_mem _ (chn_trans t n _ (by omega) (by omega) v e w hw)
theorem road_mem (t : TreeOk ups lab) {k : Nat} (hk : k < ups.length) : ∀ n, climb ups n (k : Int) = (k : Int) ∨ climb ups n (k : Int) ∈ chn ups k
  | 0 => .inl rfl
  | n + 1 => by
    have step : ∀ c : Nat, c < ups.length → stepUp ups (c : Int) = (c : Int) ∨ stepUp ups (c : Int) ∈ chn ups c := fun c hc => by
      rcases Nat.eq_zero_or_pos c with z | z
      · left; subst z; unfold stepUp; show (if ups.getD 0 0 > 0 then ups.getD 0 0 else 0) = 0; rw [t.root]; rfl
      · right
        have u := t.up c z hc
        rw [chn_eq t hc, if_neg (by omega)]
        have e : stepUp ups (c : Int) = ups.getD c 0 := by
          unfold stepUp; rw [Int.toNat_natCast]; split <;> omega
        rw [e]; exact List.mem_cons_self ..
    show stepUp ups (climb ups n (k : Int)) = _ ∨ stepUp ups (climb ups n (k : Int)) ∈ _
    rcases road_mem t hk n with a | a
    · rw [a]; exact step k hk
    · have b := (chn_mem t (k + 1) k (by omega) hk).2 _ a
      have e : climb ups n (k : Int) = ((climb ups n (k : Int)).toNat : Int) := by omega
      rcases step (climb ups n (k : Int)).toNat (by omega) with s | s
      · rw [← e] at s; rw [s]; exact .inr a
      · rw [← e] at s; exact .inr (chn_trans t (k + 1) k (by omega) hk _ a _ s)
theorem chn_behind (t : TreeOk ups lab) (road : ∀ k, 0 < k → k < ups.length → ∃ n, climb ups n ((k : Int) - 1) = ups.getD k 0) {k : Nat} (h0 : 0 < k) (hk : k < ups.length) : ∀ v ∈ chn ups k, v = (k : Int) - 1 ∨ v ∈ chn ups (k - 1) := fun v hv => by
  obtain ⟨n, e⟩ := road k h0 hk
  have u := t.up k h0 hk
  have ek : (k : Int) - 1 = ((k - 1 : Nat) : Int) := by omega
  rw [ek] at e ⊢
  rw [chn_eq t hk, if_neg (by omega)] at hv
  have m := road_mem t (k := k - 1) (by omega) n
  rw [e] at m
  rcases List.mem_cons.mp hv with z | z
  · rw [z]; exact m
  · right
    rcases m with m | m
    · rw [m, Int.toNat_natCast] at z; exact z
    · exact chn_trans t (k - 1 + 1) (k - 1) (by omega) (by omega) _ m _ z

theorem chn_down (t : TreeOk ups lab) (road : ∀ k, 0 < k → k < ups.length → ∃ n, climb ups n ((k : Int) - 1) = ups.getD k 0) {p a : Nat} (ha : a < ups.length) (hp : (p : Int) ∈ chn ups a) : ∀ d, d ≤ a → p < a - d → (p : Int) ∈ chn ups (a - d)
  | 0, _, _ => hp
  | d + 1, h, hd => by
    have ih := chn_down t road ha hp d (by omega) (by omega)
    rcases chn_behind t road (k := a - d) (by omega) (by omega) _ ih with z | z
    · omega
    · rw [show a - (d + 1) = a - d - 1 by omega]; exact z
theorem chn_short (t : TreeOk ups lab) : ∀ (n k : Nat), k < n → k < ups.length → ∀ v ∈ chn ups k, (W ups lab v.toNat).length < (W ups lab k).length
  | 0, _, h, _, _, _ => absurd h (Nat.not_lt_zero _)
  | n + 1, k, hn, hk, v, hv => by
    rw [chn_eq t hk] at hv
    rw [W_eq t hk]
    split at hv
    · cases hv
    · rename_i h0
      rw [if_neg h0, List.length_cons]
      have lt := t.lt hk h0
      rcases List.mem_cons.mp hv with e | e
      · rw [e]; omega
      · have := chn_short t n _ (by omega) (by omega) v e
        omega
theorem pre_order (t : TreeOk ups lab) (road : ∀ k, 0 < k → k < ups.length → ∃ n, climb ups n ((k : Int) - 1) = ups.getD k 0) {p q a b : Nat} (ha : a < ups.length) (hb : b < ups.length) (ea : ups.getD a 0 = (p : Int)) (eb : ups.getD b 0 = (q : Int)) (pq : p < q) (hl : (W ups lab p).length = (W ups lab q).length) : a < b := by
  rcases Nat.lt_or_ge a b with z | z
  · exact z
  · exfalso
    have lb := t.lt hb (by omega)
    rw [eb, Int.toNat_natCast] at lb
    have hp : (p : Int) ∈ chn ups a := by
      rw [chn_eq t ha, if_neg (by omega), ea]; exact List.mem_cons_self ..
    have := chn_down t road ha hp (a - q) (by omega) (by omega)
    rw [show a - (a - q) = q by omega] at this
    have := chn_short t (q + 1) q (by omega) (by omega) _ this
    rw [Int.toNat_natCast] at this
    omega
end
/-! ### the order of the places -/
section
variable {ups : List Int} {lab : Str} {ks : List Nat}
def kap (ups : List Int) (lab : Str) (a b : Nat) : Prop := lexV (Kw ups lab a) (Kw ups lab b) = true
theorem kap_irr (a : Nat) : ¬ kap ups lab a a := fun h => by
  have := lexV_asym _ _ h
  unfold kap at h
  rw [h] at this; cases this
theorem kap_tr (a b c : Nat) (h1 : kap ups lab a b) (h2 : kap ups lab b c) : kap ups lab a c := by
  have T := (kw_keys ups lab 0).tot
  cases e : lexV (Kw ups lab a) (Kw ups lab c) with
  | true => exact e
  | false =>
    have := T.tr b c a (lexV_asym _ _ h2) e
    exact absurd h1 (by unfold kap; rw [this]; simp)
theorem mk_inj {a b : List Nat} (h : mk a = mk b) : a = b := by
  have := congrArg (fun z : Str => z.cps.toList) h
  exact this
theorem kap_iff (a b : Nat) : kap ups lab a b ↔ W ups lab.cps.toList a < W ups lab.cps.toList b ∨ (W ups lab.cps.toList a = W ups lab.cps.toList b ∧ a < b) := by
  unfold kap Kw
  rw [lex_cons, lex_cons]
  by_cases h : W ups lab.cps.toList a = W ups lab.cps.toList b
  · rw [h, if_pos rfl]
    by_cases e : a = b
    · subst e
      rw [if_pos rfl]
      constructor
      · intro z; cases z
      · rintro (z | ⟨_, z⟩)
        · exact absurd z (List.lt_irrefl _)
        · omega
    · rw [if_neg (fun z => e (by injection z; omega))]
      show decide ((a : Int) < (b : Int)) = true ↔ _
      rw [decide_eq_true_eq]
      constructor
      · intro z; exact .inr ⟨rfl, by omega⟩
      · rintro (z | ⟨_, z⟩)
        · exact absurd z (List.lt_irrefl _)
        · omega
  · rw [if_neg (fun z => h (mk_inj (by injection z)))]
    show decide (W ups lab.cps.toList a < W ups lab.cps.toList b) = true ↔ _
    rw [decide_eq_true_eq]
    constructor
    · exact .inl
    · rintro (z | ⟨z, _⟩)
      · exact z
      · exact absurd z h
theorem kl_split {a b : Nat} (h : lexV (Kl ups lab a) (Kl ups lab b) = true) : kap ups lab (upN ups a) (upN ups b) ∨ (upN ups a = upN ups b ∧ a < b) := by
  unfold Kl at h
  unfold kap Kw
  by_cases e : upN ups a = upN ups b
  · right
    refine ⟨e, ?_⟩
    rw [e, lex_cons, if_pos rfl, lex_cons, if_pos rfl, lex_cons] at h
    by_cases e2 : a = b
    · subst e2; rw [if_pos rfl] at h; cases h
    · rw [if_neg (fun z => e2 (by injection z; omega))] at h
      have : (1 + (a : Int)) < (1 + (b : Int)) := of_decide_eq_true h
      omega
  · left
    have ne : ¬ (V.int ((upN ups a : Nat) : Int) = V.int ((upN ups b : Nat) : Int)) := fun z => e (by injection z; omega)
    rw [lex_cons, lex_cons (.int ((upN ups a : Nat) : Int)), if_neg ne] at h
    rw [lex_cons, lex_cons (.int ((upN ups a : Nat) : Int)), if_neg ne]
    exact h
def pl (ks : List Nat) (r : Nat) : Nat := (keptN ks).getD r 0
def par (ups : List Int) (ks : List Nat) (r : Nat) : Nat := upN ups (ks.getD (r - 1) 0)
theorem pl_zero : pl ks 0 = 0 := rfl
theorem pl_succ {r : Nat} (h : r < ks.length) : pl ks (r + 1) = ks.getD r 0 + 1 := by
  unfold pl keptN
  rw [List.getD_eq_getElem?_getD, List.getElem?_cons_succ, List.getElem?_map, List.getD_eq_getElem?_getD, List.getElem?_eq_getElem h]; rfl
theorem ks_lt (ko : KeptOk ups lab ks) {i : Nat} (h : i < ks.length) : ks.getD i 0 < ups.length - 1 := by
  rw [List.getD_eq_getElem?_getD, List.getElem?_eq_getElem h]
  exact List.mem_range.mp (ko.perm.mem_iff.mp (List.getElem_mem h))
theorem pl_lt (ok : TreeOk ups lab.cps.toList) (ko : KeptOk ups lab ks) {r : Nat} (h : r < ups.length) : pl ks r < ups.length := by
  have kl := ko.len
  cases r with
  | zero => rw [pl_zero]; exact ok.pos
  | succ r =>
    rw [pl_succ (by omega)]
    have := ks_lt ko (i := r) (by omega)
    omega
theorem pl_up (ok : TreeOk ups lab.cps.toList) (ko : KeptOk ups lab ks) {r : Nat} (h0 : 1 ≤ r) (h : r < ups.length) : ups.getD (pl ks r) 0 = ((par ups ks r : Nat) : Int) := by
  have kl := ko.len
  obtain ⟨i, rfl⟩ : ∃ i, r = i + 1 := ⟨r - 1, by omega⟩
  rw [pl_succ (by omega)]
  exact (up_lt ok (ks_lt ko (i := i) (by omega))).2
theorem pl_onto (ok : TreeOk ups lab.cps.toList) (ko : KeptOk ups lab ks) {y : Nat} (h0 : 1 ≤ y) (h : y < ups.length) : ∃ r, 1 ≤ r ∧ r < ups.length ∧ pl ks r = y := by
  have kl := ko.len
  have hm : y - 1 ∈ ks := ko.perm.mem_iff.mpr (List.mem_range.mpr (by omega))
  obtain ⟨i, hi, e⟩ := List.getElem_of_mem hm
  refine ⟨i + 1, by omega, by omega, ?_⟩
  rw [pl_succ hi, List.getD_eq_getElem?_getD, List.getElem?_eq_getElem hi, Option.getD_some, e]
  omega
theorem pl_inj (ok : TreeOk ups lab.cps.toList) (ko : KeptOk ups lab ks) {r s : Nat} (hr : r < ups.length) (hs : s < ups.length) (e : pl ks r = pl ks s) : r = s := by
  have kl := ko.len
  have nd : ks.Nodup := ko.perm.nodup_iff.mpr List.nodup_range
  cases r with
  | zero =>
    cases s with
    | zero => rfl
    | succ s => rw [pl_zero, pl_succ (by omega)] at e; omega
  | succ r =>
    cases s with
    | zero => rw [pl_zero, pl_succ (by omega)] at e; omega
    | succ s =>
      rw [pl_succ (by omega), pl_succ (by omega), List.getD_eq_getElem?_getD, List.getD_eq_getElem?_getD, List.getElem?_eq_getElem (by omega), List.getElem?_eq_getElem (by omega)] at e
      have e' : ks[r]'(by omega) = ks[s]'(by omega) := by simpa using e
      have := (List.getElem_inj nd).mp e'
      omega
theorem range_last_max (f : Nat → Bool) : ∀ (m y : Nat), ((List.range m).filter f).getLast? = some y → ∀ z ∈ (List.range m).filter f, z ≤ y
  | 0, y, h, _, _ => by simp at h
  | m + 1, y, h, z, hz => by
    rw [List.range_succ, List.filter_append] at h hz
    by_cases c : f m = true
    · rw [List.filter_cons_of_pos c, List.filter_nil] at h hz
      rw [List.getLast?_concat] at h
      have em : m = y := Option.some.inj h
      rcases List.mem_append.mp hz with w | w
      · have := List.mem_range.mp (List.mem_filter.mp w).1; omega
      · have : z = m := by simpa using w
        omega
    · rw [List.filter_cons_of_neg c, List.filter_nil, List.append_nil] at h hz
      exact range_last_max f m y h z hz
theorem range_filter_last (f : Nat → Bool) : ∀ (m : Nat) (x : Nat), x ∈ (List.range m).filter f → (∀ y ∈ (List.range m).filter f, y ≤ x) → ((List.range m).filter f).getLast? = some x
  | 0, x, h, _ => by simp at h
  | m + 1, x, h, hx => by
    rw [List.range_succ, List.filter_append] at h hx ⊢
    by_cases c : f m = true
    · rw [List.filter_cons_of_pos c] at h hx ⊢
      have : m ≤ x := hx m (List.mem_append_right _ List.mem_cons_self)
      have xm : x ≤ m := by
        rcases List.mem_append.mp h with z | z
        · have := List.mem_range.mp (List.mem_filter.mp z).1; omega
        · have z' : x = m := by simpa using z
          omega
      rw [show x = m by omega]
      simp
    · rw [List.filter_cons_of_neg c] at h hx ⊢
      rw [List.filter_nil, List.append_nil] at h hx ⊢
      exact range_filter_last f m x h hx
theorem ben_mem {p : Int} {m z : Nat} : z ∈ ben ups p m ↔ z < m ∧ ups.getD z 0 = p := by
  unfold ben
  rw [List.mem_filter, List.mem_range, decide_eq_true_eq]
/-- the rows of a tree, for W29 -/
theorem rows_rw (ok : TreeOk ups lab.cps.toList) (ko : KeptOk ups lab ks) : W29.Rw ups.length (kap ups lab) (pl ks) (par ups ks) (fun r => lastB ups (pl ks r)) where
  irr := kap_irr
  tr := kap_tr
  ro := fun o o' h1 h2 h3 => by
    have kl := ko.len
    have nd : ks.Nodup := ko.perm.nodup_iff.mpr List.nodup_range
    have r := ko.rise (o - 1) (o' - 1) (by omega) (by omega)
    have z := kl_keys ups lab (ups.length - 1)
    have tr : lexV (Kl ups lab (ks.getD (o - 1) 0)) (Kl ups lab (ks.getD (o' - 1) 0)) = true := by
      cases e : lexV (Kl ups lab (ks.getD (o - 1) 0)) (Kl ups lab (ks.getD (o' - 1) 0)) with
      | true => rfl
      | false =>
        exfalso
        have := z.tot.tot _ _ (ks_lt ko (i := o - 1) (by omega)) (ks_lt ko (i := o' - 1) (by omega)) e r
        rw [List.getD_eq_getElem?_getD, List.getD_eq_getElem?_getD, List.getElem?_eq_getElem (by omega), List.getElem?_eq_getElem (by omega)] at this
        have e' : ks[o - 1]'(by omega) = ks[o' - 1]'(by omega) := by simpa using this
        have := (List.getElem_inj nd).mp e'
        omega
    rcases kl_split tr with w | ⟨w1, w2⟩
    · exact .inl w
    · refine .inr ⟨w1, ?_⟩
      have p1 := pl_succ (ks := ks) (r := o - 1) (by omega)
      have p2 := pl_succ (ks := ks) (r := o' - 1) (by omega)
      rw [show o - 1 + 1 = o by omega] at p1
      rw [show o' - 1 + 1 = o' by omega] at p2
      omega
  lst := fun o h1 h2 => by
    have p0 : pl ks o ≠ 0 := fun e => by
      have := pl_inj ok ko h2 ok.pos (e.trans pl_zero.symm)
      omega
    have lt := pl_lt ok ko h2
    have eu := pl_up ok ko h1 h2
    show lastB ups (pl ks o) = true ↔ _
    unfold lastB
    rw [decide_eq_false p0, Bool.false_or, decide_eq_true_eq]
    constructor
    · intro h o' a b e
      have hz : pl ks o' ∈ ben ups (ups.getD (pl ks o) 0) ups.length := by
        rw [ben_mem, eu, pl_up ok ko a b, e]
        exact ⟨pl_lt ok ko b, rfl⟩
      exact range_last_max _ _ _ h _ hz
    · intro h
      refine range_filter_last _ _ _ (ben_mem.mpr ⟨lt, rfl⟩) fun y hy => ?_
      obtain ⟨y1, y2⟩ := ben_mem.mp hy
      have yp : 1 ≤ y := by
        rcases Nat.eq_zero_or_pos y with z | z
        · subst z
          have := ok.root
          rw [y2, eu] at this
          omega
        · exact z
      obtain ⟨o', a, b, e⟩ := pl_onto ok ko yp y1
      have := h o' a b (by
        have e1 := pl_up ok ko a b
        rw [e, y2, eu] at e1
        omega)
      omega
/-- rows by letter and number are places in order -/
theorem rows_kap (ok : TreeOk ups lab.cps.toList) (fine : Fine ups lab) (ko : KeptOk ups lab ks) {r s : Nat} (hr : r < ups.length) (hs : s < ups.length)
    (h : lab.cps.toList.getD (pl ks r) 0 < lab.cps.toList.getD (pl ks s) 0 ∨ (lab.cps.toList.getD (pl ks r) 0 = lab.cps.toList.getD (pl ks s) 0 ∧ r < s)) : kap ups lab (pl ks r) (pl ks s) := by
  have w1 := W_eq ok (pl_lt ok ko hr)
  have w2 := W_eq ok (pl_lt ok ko hs)
  rw [kap_iff]
  rcases h with h | ⟨e, h⟩
  · left
    rw [w1, w2, List.cons_lt_cons_iff]
    exact .inl h
  · have us := pl_up ok ko (r := s) (by omega) hs
    rcases Nat.eq_zero_or_pos r with z | z
    · left
      subst z
      have hroot : ups.getD (pl ks 0) 0 < 0 := by rw [pl_zero, ok.root]; decide
      rw [if_pos hroot] at w1
      rw [us, if_neg (by omega)] at w2
      rw [w1, w2, e, List.cons_lt_cons_iff]
      refine .inr ⟨rfl, ?_⟩
      have pls := pl_lt ok ko hs
      have lt := ok.lt pls (by rw [us]; omega)
      rw [us] at lt
      rw [W_eq ok (k := ((par ups ks s : Nat) : Int).toNat) (by omega)]
      exact List.nil_lt_cons _ _
    · have ur := pl_up ok ko (r := r) z hr
      rw [ur, if_neg (by omega), Int.toNat_natCast] at w1
      rw [us, if_neg (by omega), Int.toNat_natCast] at w2
      rcases (rows_rw ok ko).ro r s z h hs with k | ⟨k1, k2⟩
      · rw [kap_iff] at k
        rcases k with k | ⟨k1, k2⟩
        · left
          rw [w1, w2, e, List.cons_lt_cons_iff]
          exact .inr ⟨rfl, k⟩
        · right
          refine ⟨by rw [w1, w2, e, k1], ?_⟩
          exact pre_order ok fine.road (pl_lt ok ko hr) (pl_lt ok ko hs) ur us k2 (by rw [k1])
      · right
        exact ⟨by rw [w1, w2, e, k1], k2⟩
/-- the places that have some beneath, as rows -/
def inn (ups : List Int) (ks : List Nat) (n : Nat) : List Nat := (List.range n).filter fun r => !leafB ups ((pl ks r : Nat) : Int)
theorem leaf_iff {p : Nat} : leafB ups (p : Int) = false ↔ ∃ y, y < ups.length ∧ ups.getD y 0 = (p : Int) := by
  unfold leafB inV
  rw [Bool.not_eq_false', List.any_eq_true]
  constructor
  · rintro ⟨x, hx, h⟩
    obtain ⟨v, hv, rfl⟩ := List.mem_map.mp hx
    obtain ⟨y, hy, e⟩ := List.getElem_of_mem hv
    have ev : v = (p : Int) := beq_iff_eq.mp (show (v == (p : Int)) = true from h)
    refine ⟨y, hy, ?_⟩
    rw [List.getD_eq_getElem?_getD, List.getElem?_eq_getElem hy, Option.getD_some, e, ev]
  · rintro ⟨y, hy, e⟩
    refine ⟨V.int (p : Int), List.mem_map.mpr ⟨(p : Int), ?_, rfl⟩, ?_⟩
    · rw [List.getD_eq_getElem?_getD, List.getElem?_eq_getElem hy, Option.getD_some] at e
      rw [← e]; exact List.getElem_mem hy
    · show ((p : Int) == (p : Int)) = true
      exact beq_self_eq_true _
/-- the sorted inner rows are, one by one, what stands above the groups -/
theorem rows_match (ok : TreeOk ups lab.cps.toList) (ko : KeptOk ups lab ks) {gs : List (Nat × Nat)} {first : Nat} (I : W29.GI (fun r => lastB ups (pl ks r)) ups.length gs first) {so : List Nat} (hp : so.Perm (inn ups ks ups.length)) (hs : so.Pairwise fun r s => kap ups lab (pl ks r) (pl ks s)) :
    so.map (pl ks) = gs.map fun g => par ups ks g.1 := by
  have R := rows_rw ok ko
  have fn := R.whole ok.pos I
  have fle : first ≤ ups.length := by omega
  refine W29.sorted_eq kap_irr kap_tr _ _ (by rw [List.pairwise_map]; exact hs) (R.rise I fle) fun x => ?_
  rw [List.mem_map, List.mem_map]
  constructor
  · rintro ⟨r, hr, rfl⟩
    have hr' := hp.mem_iff.mp hr
    unfold inn at hr'
    rw [List.mem_filter, List.mem_range] at hr'
    obtain ⟨y, hy, e⟩ := leaf_iff.mp (by simpa using hr'.2)
    have yp : 1 ≤ y := by
      rcases Nat.eq_zero_or_pos y with z | z
      · subst z
        have := ok.root
        omega
      · exact z
    obtain ⟨o, a, b, eo⟩ := pl_onto ok ko yp hy
    obtain ⟨g, hg, g1, g2⟩ := I.cov o a (by omega)
    refine ⟨g, hg, ?_⟩
    have := (R.all I fle hg a b).mpr ⟨g1, g2⟩
    have eu := pl_up ok ko a b
    rw [eo, e] at eu
    omega
  · rintro ⟨g, hg, rfl⟩
    obtain ⟨a1, a2, a3, _⟩ := I.mem g hg
    have eu := pl_up ok ko a1 (by omega)
    have pls := pl_lt ok ko (r := g.1) (by omega)
    have lt := ok.lt pls (by rw [eu]; omega)
    rw [eu, Int.toNat_natCast] at lt
    have hx : ∃ r, r < ups.length ∧ pl ks r = par ups ks g.1 := by
      rcases Nat.eq_zero_or_pos (par ups ks g.1) with z | z
      · exact ⟨0, ok.pos, by rw [pl_zero, z]⟩
      · obtain ⟨r, _, b, c⟩ := pl_onto ok ko z (by omega)
        exact ⟨r, b, c⟩
    obtain ⟨r, hr, e⟩ := hx
    refine ⟨r, hp.mem_iff.mpr ?_, e⟩
    unfold inn
    rw [List.mem_filter, List.mem_range]
    refine ⟨hr, ?_⟩
    have : leafB ups ((pl ks r : Nat) : Int) = false := leaf_iff.mpr ⟨pl ks g.1, pls, by rw [eu, e]⟩
    rw [this]; rfl
end
end S30


set_option Elab.async false
set_option linter.all false
set_option maxRecDepth 100000
set_option maxHeartbeats 8000000
namespace S30
open PySem L2 W7
theorem grp_congr {f g : Nat → Bool} : ∀ n, (∀ r, r < n → f r = g r) → W29.grp f n = W29.grp g n
  | 0, _ => rfl
  | n + 1, h => by
    rw [W29.grp, W29.grp, grp_congr n fun r hr => h r (by omega), h n (by omega)]
def pairT (g : Nat × Nat) : List V := [.int ((g.1 : Nat) : Int), .int ((g.2 : Nat) : Int)]
/-- the tuples of the groups -/
def PairsAt (H : Hp) (as : List Addr) (gs : List (Nat × Nat)) : Prop := as.length = gs.length ∧ ∀ (i : Nat) (a : Addr) (g : Nat × Nat), as[i]? = some a → gs[i]? = some g → H a = some (.tup (pairT g))
theorem PairsAt.same {H H' : Hp} {as : List Addr} {gs : List (Nat × Nat)} (h : PairsAt H as gs) (s : Same H H') : PairsAt H' as gs := ⟨h.1, fun i a g e1 e2 => s _ _ (h.2 i a g e1 e2)⟩
section
variable {P : Program} {w : World} {K : PySem.W.Frag} {mg : Str → Option Value} {base : Heap} {k : Nat}
/-! ### groups_of -/
def sp_groups : Sp := fun vs H Q _ => ∃ (t a b : Addr) (txt : Str) (ls : List Bool), vs = [.ref t] ∧ H t = some (.tup [.str txt, .ref a, .ref b]) ∧ H a = some (.tup (ls.map V.bl)) ∧ ls.length ≤ 60 ∧
  ∀ (as : List Addr) (r : Addr) (H' : Hp), Same H H' → H r = none → H' r = some (.lst (as.map V.ref)) → PairsAt H' as (W29.grp (fun i => ls.getD i false) ls.length).1 → Q (.ref r) H'
theorem has_groups (D : Df K mg "groups_of" s_groups_of) (B : Blt7 mg) : Has P w K mg base "groups_of" (k + 1) ["rows"] sp_groups := by
  refine D.has sc_groups_of (fun _ _ _ _ _ _ us hl => match us, hl with | [_], _ => rfl) (fun vs H Q E h => by obtain ⟨t, a, b, txt, ls, rfl, _⟩ := h; rfl) (fun f cdv A outer s H vs Q E hr h => ?_)
  obtain ⟨t, a, b, txt, ls, rfl, ht, ha, l60, q⟩ := h
  refine ⟨_, (pss_cons (ps_set (i := 1) sc_groups_of.nd rfl (by first | exact Or.inl rfl | exact Or.inr rfl) (pe_lst pa_nil))
  (pss_cons (ps_set (i := 2) sc_groups_of.nd rfl (by first | exact Or.inl rfl | exact Or.inr rfl) pe_int)
  (pss_cons (ps_for PassesOwn.never rfl (pi_enum rfl B.enumerate (pa_cons (pe_ix ix_tup (pv 0) pe_int (fun _ _ => rfl)) pa_nil)) (pg_tup rfl (pgs_cons (pg_name (i := 3) sc_groups_of.nd rfl (by first | exact Or.inl rfl | exact Or.inr rfl)) (pgs_cons (pg_name (i := 4) sc_groups_of.nd rfl (by first | exact Or.inl rfl | exact Or.inr rfl)) pgs_nil)))
  (pss_one (ps_if (PW.pt (pw_and (pt_cmpR op_gt (pv 3) pe_int (nomark _)) (pw_and1 (pt_val (pv 4)))))
  (pss_cons (ps_expr (pe_bm PySem.F.plainAttrs_list PySem.F.slot_list_append PySem.F.type_list_append mt_append (pv 1) (pa_cons (pe_tup (pa_cons (pv 2) (pa_cons (pe_op op_add (pv 3) pe_int) pa_nil))) pa_nil)))
  (pss_one (ps_set (i := 2) sc_groups_of.nd rfl (by first | exact Or.inl rfl | exact Or.inr rfl) (pe_op op_add (pv 3) pe_int))))
  pss_nil)))
  (pss_one (ps_ret (pv 1)))))), ?_⟩
  refine ⟨(by show 0 ≤ sizeLine; decide), fun r hr0 => ?_⟩
  have s0 : Same H (upd H r (.lst [])) := (Same.refl H).new hr0
  refine ⟨_, rfl, t, _, _, _, rfl, rfl, SqT.of (s0 _ _ ht), rfl, .tup a, rfl, ⟨_, .inl (s0 _ _ ha)⟩, ?_⟩
  refine for_enum (xs := ls.map V.bl) (fun j σ H' => ∃ (o3 o4 : Option V) (as : List Addr), σ = [some (.ref t), some (.ref r), some (.int (((W29.grp (fun i => ls.getD i false) j).2 : Nat) : Int)), o3, o4] ∧ Same H H' ∧ H' r = some (.lst (as.map V.ref)) ∧ PairsAt H' as (W29.grp (fun i => ls.getD i false) j).1)
    ⟨none, none, [], rfl, s0, upd_same, rfl, fun i a g e => by simp at e⟩ (fun j σ H' _ h => by obtain ⟨_, _, _, _, s1, _⟩ := h; exact .inl (s1 _ _ ha)) ?_ ?_
  · rintro j x σ H' p hx ⟨o3, o4, as, rfl, s1, hr1, pa⟩ hp
    rw [List.getElem?_map] at hx
    cases e1 : ls[j]? with
    | none => rw [e1] at hx; cases hx
    | some bb =>
      rw [e1] at hx
      cases hx
      have jl : j < ls.length := (List.getElem?_eq_some_iff.mp e1).1
      have eb : ls.getD j false = bb := by rw [List.getD_eq_getElem?_getD, e1]; rfl
      have GI := W29.grp_ok (fun i => ls.getD i false) j
      have gl := GI.len
      refine ⟨p, _, rfl, SqT.of upd_same, rfl, _, _, rfl, _, _, rfl, rfl, ?_⟩
      have s2 : Same H' (upd H' p (.tup [.int (j : Int), .bl bb])) := (Same.refl H').new hp
      have hr2 := s2 _ _ hr1
      have pa2 := pa.same s2
      have s3 := s1.trans s2
      generalize upd H' p (.tup [.int (j : Int), .bl bb]) = H2 at s2 hr2 pa2 s3
      refine ⟨_, rfl, _, _, rfl, rfl, _, rfl, ite2 (fun c => ?_) (fun c => ?_)⟩
      · have c' : (0 : Int) < (j : Int) := of_decide_eq_true c
        refine ⟨_, rfl, _, rfl, ?_⟩
        cases bb with
        | true =>
          refine iteT ?_
          have eg : W29.grp (fun i => ls.getD i false) (j + 1) = ((W29.grp (fun i => ls.getD i false) j).1 ++ [((W29.grp (fun i => ls.getD i false) j).2, j + 1)], j + 1) := by
            rw [W29.grp, if_pos ⟨by omega, eb⟩]
          refine ⟨_, rfl, .inl ⟨rfl, _, SqL.of hr2⟩, _, rfl, _, rfl, _, _, rfl, rfl, (by show 2 ≤ sizeLine; decide), fun e he => ?_⟩
          have s4 : Same H2 (upd H2 e (.tup [.int (((W29.grp (fun i => ls.getD i false) j).2 : Nat) : Int), .int ((j : Int) + 1)])) := (Same.refl H2).new he
          have h4 : upd H2 e (.tup [.int (((W29.grp (fun i => ls.getD i false) j).2 : Nat) : Int), .int ((j : Int) + 1)]) e = some (.tup [.int (((W29.grp (fun i => ls.getD i false) j).2 : Nat) : Int), .int ((j : Int) + 1)]) := upd_same
          generalize upd H2 e (.tup [.int (((W29.grp (fun i => ls.getD i false) j).2 : Nat) : Int), .int ((j : Int) + 1)]) = H4 at s4 h4
          have hr4 := s4 _ _ hr2
          have er : e ≠ r := fun z => by subst z; rw [hr2] at he; cases he
          refine ⟨r, _, _, rfl, rfl, hr4, by rw [List.length_map, pa.1]; exact small1000 (by omega), ?_⟩
          refine ⟨_, rfl, _, _, rfl, rfl, ?_⟩
          rw [eg]
          refine ⟨_, _, as ++ [e], rfl, (s3.trans s4).write hr0, by rw [upd_same, List.map_append]; rfl, by simp [pa.1], fun i a' g' e1 e2 => ?_⟩
          rcases Nat.lt_or_ge i as.length with z | z
          · rw [List.getElem?_append_left z] at e1
            rw [List.getElem?_append_left (by rw [← pa.1]; exact z)] at e2
            have h1 := s4 _ _ (pa2.2 i a' g' e1 e2)
            rw [upd_ne (ne_of h1 hr4 (by intro z; cases z))]; exact h1
          · rw [List.getElem?_append_right z] at e1
            rw [List.getElem?_append_right (by rw [← pa.1]; exact z)] at e2
            have q0 : i - as.length = 0 := by
              rcases Nat.eq_zero_or_pos (i - as.length) with y | y
              · exact y
              · rw [List.getElem?_eq_none (by simp; omega)] at e1; cases e1
            rw [q0] at e1
            rw [← pa.1, q0] at e2
            have ea : e = a' := by simpa using e1
            have eg' : ((W29.grp (fun i => ls.getD i false) j).2, j + 1) = g' := by simpa using e2
            subst ea
            rw [upd_ne er, h4, ← eg']
            rfl
        | false =>
          refine iteF ?_
          have eg : W29.grp (fun i => ls.getD i false) (j + 1) = W29.grp (fun i => ls.getD i false) j := by
            rw [W29.grp, if_neg (by rw [eb]; simp)]
          rw [eg]
          exact ⟨_, _, as, rfl, s3, hr2, pa2⟩
      · have c' : ¬ (0 : Int) < (j : Int) := of_decide_eq_false (Bool.eq_false_iff.mpr c)
        have eg : W29.grp (fun i => ls.getD i false) (j + 1) = W29.grp (fun i => ls.getD i false) j := by
          rw [W29.grp, if_neg (fun z => by omega)]
        rw [eg]
        refine iteF ?_
        exact ⟨_, _, as, rfl, s3, hr2, pa2⟩
  · rintro σ H' ⟨o3, o4, as, rfl, s1, hr1, pa⟩
    rw [List.length_map] at pa
    exact ⟨_, rfl, q as r H' s1 hr0 hr1 pa⟩
/-! ### group_numbers -/
def numV (so : List Nat) (r : Nat) : V := if r ∈ so then .int ((so.idxOf r : Nat) : Int) else .non
def ff (ls : List Bool) (n : Nat) : List Nat := (List.range n).filter fun i => !ls.getD i true
theorem ff_succ (ls : List Bool) (n : Nat) : ff ls (n + 1) = if ls.getD n true = false then ff ls n ++ [n] else ff ls n := by
  unfold ff
  rw [List.range_succ, List.filter_append]
  by_cases h : ls.getD n true = false
  · rw [if_pos h, List.filter_cons_of_pos (by rw [h]; rfl)]; rfl
  · rw [if_neg h, List.filter_cons_of_neg (by simpa using h)]; simp
theorem ff_le (ls : List Bool) (n : Nat) : (ff ls n).length ≤ n := by
  have := List.length_filter_le (fun i => !ls.getD i true) (List.range n)
  simpa [ff] using this
theorem ff_nodup (ls : List Bool) (n : Nat) : (ff ls n).Nodup := List.Pairwise.filter _ List.nodup_range
theorem ff_lt {ls : List Bool} {n x : Nat} (h : x ∈ ff ls n) : x < n := List.mem_range.mp (List.mem_filter.mp h).1
def KG (txt : Str) (r : Nat) : List V := [.str ⟨#[txt.cps.toList.getD r 0]⟩, .int (r : Int)]
theorem range_getD (l : List Nat) : (List.range l.length).map (fun i => l.getD i 0) = l := by
  apply List.ext_getElem
  · simp
  · intro i h1 h2
    rw [List.getElem_map, List.getElem_range, List.getD_eq_getElem?_getD, List.getElem?_eq_getElem h2]; rfl
theorem kg_keys (txt : Str) {ir : List Nat} (nd : ir.Nodup) : Keys ir.length (fun i => KG txt (ir.getD i 0)) [2, 1] where
  shp := fun i => rfl
  ne := by simp
  z := by simp
  inj := fun i j hi hj h => by
    have h2 : [V.str ⟨#[txt.cps.toList.getD (ir.getD i 0) 0]⟩, .int ((ir.getD i 0 : Nat) : Int)] = [.str ⟨#[txt.cps.toList.getD (ir.getD j 0) 0]⟩, .int ((ir.getD j 0 : Nat) : Int)] := h
    simp only [List.cons.injEq, V.int.injEq, and_true] at h2
    have e : ir.getD i 0 = ir.getD j 0 := by omega
    rw [List.getD_eq_getElem?_getD, List.getD_eq_getElem?_getD, List.getElem?_eq_getElem hi, List.getElem?_eq_getElem hj] at e
    exact (List.getElem_inj nd).mp (by simpa using e)
theorem kg_split {txt : Str} {r s : Nat} (ne : r ≠ s) (h : lexV (KG txt s) (KG txt r) = false) : txt.cps.toList.getD r 0 < txt.cps.toList.getD s 0 ∨ (txt.cps.toList.getD r 0 = txt.cps.toList.getD s 0 ∧ r < s) := by
  unfold KG at h
  rw [lex_cons, lex_cons] at h
  by_cases e : txt.cps.toList.getD r 0 = txt.cps.toList.getD s 0
  · right
    refine ⟨e, ?_⟩
    rw [e, if_pos rfl, if_neg (fun z => ne (by injection z; omega))] at h
    have : ¬ (s : Int) < (r : Int) := of_decide_eq_false h
    omega
  · left
    rw [if_neg (fun z => e (by injection z with z; injection z with z; injection z with z; injection z with z; exact z.symm))] at h
    have h' : ¬ [txt.cps.toList.getD s 0] < [txt.cps.toList.getD r 0] := of_decide_eq_false h
    rw [List.cons_lt_cons_iff] at h'
    have : ¬ txt.cps.toList.getD s 0 < txt.cps.toList.getD r 0 := fun z => h' (.inl z)
    omega
theorem num_set {so : List Nat} {n j x : Nat} (nd : so.Nodup) (hj : so[j]? = some x) (hx : x < n) : ((List.range n).map (numV (so.take j))).set x (.int (j : Int)) = (List.range n).map (numV (so.take (j + 1))) := by
  have jl : j < so.length := (List.getElem?_eq_some_iff.mp hj).1
  have et : so.take (j + 1) = so.take j ++ [x] := by rw [List.take_succ, hj]; rfl
  have xn : x ∉ so.take j := fun hm => by
    obtain ⟨i, hi, e⟩ := List.getElem_of_mem hm
    rw [List.length_take] at hi
    rw [List.getElem_take] at e
    have e2 : so[j] = x := (List.getElem?_eq_some_iff.mp hj).2
    have := (List.getElem_inj nd).mp (e.trans e2.symm)
    omega
  apply List.ext_getElem?
  intro i
  rcases Nat.lt_or_ge i n with c | c
  · by_cases e : x = i
    · subst e
      rw [List.getElem?_set_self (by simpa using c), List.getElem?_map, List.getElem?_range c]
      show _ = some (numV (so.take (j + 1)) x)
      unfold numV
      rw [et, if_pos (by simp), List.idxOf_append, if_neg xn]
      have : [x].idxOf x = 0 := by simp
      rw [this, List.length_take, Nat.min_eq_left (by omega), Nat.zero_add]
    · rw [List.getElem?_set_ne e, List.getElem?_map, List.getElem?_map, List.getElem?_range c]
      show some (numV (so.take j) i) = some (numV (so.take (j + 1)) i)
      unfold numV
      rw [et, List.idxOf_append]
      by_cases m : i ∈ so.take j
      · rw [if_pos m, if_pos (List.mem_append_left _ m), if_pos m]
      · rw [if_neg m, if_neg (fun z => by
          rcases List.mem_append.mp z with z | z
          · exact m z
          · exact e (List.mem_singleton.mp z).symm)]
  · rw [List.getElem?_eq_none (by simpa using c), List.getElem?_eq_none (by simpa using c)]
def sp_gnums : Sp := fun vs H Q _ => ∃ (t a b : Addr) (txt : Str) (ls : List Bool), vs = [.ref t] ∧ H t = some (.tup [.str txt, .ref a, .ref b]) ∧ H b = some (.tup (ls.map V.bl)) ∧ ls.length ≤ 60 ∧ txt.cps.toList.length = ls.length ∧
  ∀ (so : List Nat) (r : Addr) (H' : Hp), so.Perm (ff ls ls.length) → so.Pairwise (fun x y => txt.cps.toList.getD x 0 < txt.cps.toList.getD y 0 ∨ (txt.cps.toList.getD x 0 = txt.cps.toList.getD y 0 ∧ x < y)) → Same H H' → H r = none → H' r = some (.lst ((List.range ls.length).map (numV so))) → Q (.ref r) H'
theorem has_gnums (D : Df K mg "group_numbers" s_group_numbers) (B : Blt7 mg) : Has P w K mg base "group_numbers" (k + 1) ["rows"] sp_gnums := by
  refine D.has sc_group_numbers (fun _ _ _ _ _ _ us hl => match us, hl with | [_], _ => rfl) (fun vs H Q E h => by obtain ⟨t, a, b, txt, ls, rfl, _⟩ := h; rfl) (fun f cdv A outer s H vs Q E hr h => ?_)
  obtain ⟨t, a, b, txt, ls, rfl, ht, hb, l60, tl, q⟩ := h
  refine ⟨_, (pss_cons (ps_set (i := 1) sc_group_numbers.nd rfl (by first | exact Or.inl rfl | exact Or.inr rfl) (pe_callB call_sorted_tups rfl B.sorted bt_sorted (pa_cons (pe_comp rfl (pi_enum rfl B.enumerate (pa_cons (pe_ix ix_tup (pv 0) pe_int (fun _ _ => rfl)) pa_nil)) (NL := ["row", "leaf"]) (ix := [0]) (csc (defScope s_group_numbers) N_group_numbers) (fun cl C s₃ H₃ fp pins => ⟨(pg_tupK K (n := 2) rfl (pgs_cons (pg_name (i := 0) (show List.Nodup (["row", "leaf", "rows"] : List Str) from by decide +kernel) rfl (by first | exact Or.inl rfl | exact Or.inr rfl)) (pgs_cons (pg_name (i := 1) (show List.Nodup (["row", "leaf", "rows"] : List Str) from by decide +kernel) rfl (by first | exact Or.inl rfl | exact Or.inr rfl)) pgs_nil))), (pifs_one (pt_not (pt_val (pv 1)))), (pe_tup (pa_cons (pe_ix ix_str (pe_ix (ix_tupK K) (pv 2) pe_int (fun _ _ => rfl)) (pv 0) (fun _ _ => rfl)) (pa_cons (pv 0) pa_nil)))⟩)) pa_nil)))
  (pss_cons (ps_set (i := 2) sc_group_numbers.nd rfl (by first | exact Or.inl rfl | exact Or.inr rfl) (pe_op op_rep (pe_lst (pa_cons pe_non pa_nil)) (pe_callB call_len_seq rfl B.len bt_len (pa_cons (pe_ix ix_tup (pv 0) pe_int (fun _ _ => rfl)) pa_nil))))
  (pss_cons (ps_for PassesOwn.never rfl (pi_enum rfl B.enumerate (pa_cons (pv 1) pa_nil)) (pg_tup rfl (pgs_cons (pg_name (i := 3) sc_group_numbers.nd rfl (by first | exact Or.inl rfl | exact Or.inr rfl)) (pgs_cons (pg_name (i := 4) sc_group_numbers.nd rfl (by first | exact Or.inl rfl | exact Or.inr rfl)) pgs_nil)))
  (pss_one (ps_asg (pv 3) (pg_sub (pv 2) (pe_ix ix_tup (pv 4) pe_int (fun _ _ => rfl)) set_list))))
  (pss_one (ps_ret (pv 2)))))), ?_⟩
  have tz : txt.length ≤ sizeLine := Nat.le_of_lt (small1000 (by simp only [Str.length]; rw [← Array.length_toList, tl]; omega))
  -- inner
  refine ⟨_, rfl, t, _, _, _, rfl, rfl, SqT.of ht, rfl, .tup b, rfl, ⟨_, .inl hb⟩, fun acc hacc => ?_⟩
  refine comp_enum (xs := ls.map V.bl) (by rw [List.length_map]; omega) (fun j ys H' => H' acc = some (.lst ys) ∧ Same H H' ∧ ∃ as : List Addr, ys = as.map V.ref ∧ as.length = (ff ls j).length ∧ ∀ (i : Nat) (e : Addr), as[i]? = some e → H' e = some (.tup (KG txt ((ff ls j).getD i 0))))
    (fun j ys H' h => .inl (h.2.1 _ _ hb)) (fun j ys H' h => ⟨h.1, by obtain ⟨as, e, l, _⟩ := h.2.2; rw [e, List.length_map, l]; exact ff_le _ _⟩) ⟨upd_same, (Same.refl H).new hacc, [], rfl, rfl, fun i e h => by simp at h⟩ ?_ ?_
  rotate_left
  · rintro j x ys H2 pp hx ⟨g1, g3, as, rfl, al, at'⟩ hpp
    rw [List.getElem?_map] at hx
    cases e1 : ls[j]? with
    | none => rw [e1] at hx; cases hx
    | some bb =>
      rw [e1] at hx
      cases hx
      have jl : j < ls.length := (List.getElem?_eq_some_iff.mp e1).1
      have eb : ls.getD j true = bb := by rw [List.getD_eq_getElem?_getD, e1]; rfl
      refine ⟨pp, _, rfl, SqT.of upd_same, rfl, _, _, rfl, _, _, rfl, rfl, ?_⟩
      refine ⟨rfl, ?_⟩
      have s2 : Same H2 (upd H2 pp (.tup [.int (j : Int), .bl bb])) := (Same.refl H2).new hpp
      generalize upd H2 pp (.tup [.int (j : Int), .bl bb]) = H3 at s2
      refine ⟨_, rfl, _, rfl, ?_⟩
      cases bb with
      | true =>
        refine iteF ?_
        have ef : ff ls (j + 1) = ff ls j := by rw [ff_succ, if_neg (by rw [eb]; simp)]
        rw [ef]
        exact ⟨s2 _ _ g1, g3.trans s2, as, rfl, al, fun i e h => s2 _ _ (at' i e h)⟩
      | false =>
        refine iteT ?_
        have ef : ff ls (j + 1) = ff ls j ++ [j] := by rw [ff_succ, if_pos eb]
        rw [ef]
        have hc : txt.cps.toList[j]? = some (txt.cps.toList.getD j 0) := by rw [List.getD_eq_getElem?_getD, List.getElem?_eq_getElem (by omega)]; rfl
        refine ⟨_, rfl, t, _, _, _, rfl, rfl, SqT.of (s2 _ _ (g3 _ _ ht)), rfl, _, rfl, txt, _, _, rfl, rfl, tz, atI_nat hc, _, rfl, (by show 2 ≤ sizeLine; decide), fun e he => ?_⟩
        have g1' := s2 _ _ g1
        have ae : acc ≠ e := ne_of_none g1' he
        refine ⟨by rw [upd_ne ae]; exact g1', upd_same, ((g3.trans s2).new he).write hacc, as ++ [e], by rw [List.map_append]; rfl, by simp [al], fun i e' h => ?_⟩
        rcases Nat.lt_or_ge i as.length with z | z
        · rw [List.getElem?_append_left z] at h
          have h1 := s2 _ _ (at' i e' h)
          rw [upd_ne (ne_of h1 g1' (by intro z; cases z)), upd_ne (ne_of_none h1 he), h1]
          congr 3
          rw [List.getD_eq_getElem?_getD, List.getD_eq_getElem?_getD, List.getElem?_append_left (by omega)]
        · rw [List.getElem?_append_right z] at h
          have q0 : i - as.length = 0 := by
            rcases Nat.eq_zero_or_pos (i - as.length) with y | y
            · exact y
            · rw [List.getElem?_eq_none (by simp; omega)] at h; cases h
          rw [q0] at h
          have ee : e = e' := by simpa using h
          subst ee
          rw [upd_ne (Ne.symm ae), upd_same]
          have ei : i = (ff ls j).length := by omega
          have : (ff ls j ++ [j]).getD i 0 = j := by
            rw [List.getD_eq_getElem?_getD, List.getElem?_append_right (by omega), ei, Nat.sub_self]; rfl
          rw [this]
          rfl
  rintro ys H2 ⟨g1, g3, as, rfl, al, at'⟩
  rw [List.length_map] at al at'
  generalize hir : ff ls ls.length = ir at al at' q
  have ird : ir.Nodup := by rw [← hir]; exact ff_nodup _ _
  have irl : ∀ x ∈ ir, x < ls.length := fun x hx => by rw [← hir] at hx; exact ff_lt hx
  have irn : ir.length ≤ ls.length := by rw [← hir]; exact ff_le _ _
  have kk := kg_keys txt ird
  refine ⟨acc, as, fun i => KG txt (ir.getD i 0), [2, 1], rfl, SqL.of g1, by omega, fun i b' hb' => SqT.of (at' i b' hb'), by rw [al]; exact kk, fun p l hp hrise hl => ?_⟩
  rw [al] at hp hrise
  have s4 : Same H2 (upd H2 l (.lst ((p.map fun i => as.getD i 0).map V.ref))) := (Same.refl H2).new hl
  have h4 : upd H2 l (.lst ((p.map fun i => as.getD i 0).map V.ref)) l = some (.lst ((p.map fun i => as.getD i 0).map V.ref)) := upd_same
  generalize upd H2 l (.lst ((p.map fun i => as.getD i 0).map V.ref)) = H4 at s4 h4
  have plen : p.length = ir.length := by have := hp.length_eq; simpa using this
  have pnd : p.Nodup := hp.nodup_iff.mpr List.nodup_range
  have pin : ∀ x ∈ p, x < ir.length := fun x hx => List.mem_range.mp (hp.mem_iff.mp hx)
  let so := p.map fun i => ir.getD i 0
  have hso : so = p.map fun i => ir.getD i 0 := rfl
  have sop : so.Perm ir := by
    have := hp.map (fun i => ir.getD i 0)
    rw [range_getD] at this
    exact this
  have sond : so.Nodup := sop.nodup_iff.mpr ird
  have solen : so.length = ir.length := sop.length_eq
  have sopw : so.Pairwise (fun x y => txt.cps.toList.getD x 0 < txt.cps.toList.getD y 0 ∨ (txt.cps.toList.getD x 0 = txt.cps.toList.getD y 0 ∧ x < y)) := by
    rw [List.pairwise_iff_getElem]
    intro i j hi hj hij
    have r : lexV (KG txt (ir.getD (p.getD j 0) 0)) (KG txt (ir.getD (p.getD i 0) 0)) = false := hrise i j hij (by omega)
    have gi : so[i] = ir.getD (p.getD i 0) 0 := by
      simp only [so, List.getElem_map, List.getD_eq_getElem?_getD]
      rw [List.getElem?_eq_getElem (by omega : i < p.length)]; rfl
    have gj : so[j] = ir.getD (p.getD j 0) 0 := by
      simp only [so, List.getElem_map, List.getD_eq_getElem?_getD]
      rw [List.getElem?_eq_getElem (by omega : j < p.length)]; rfl
    rw [← gi, ← gj] at r
    refine kg_split (fun e => ?_) r
    have := (List.getElem_inj sond).mp e
    omega
  -- numbers
  have s04 := g3.trans s4
  refine ⟨(by show 1 ≤ sizeLine; decide), fun z hz => ?_⟩
  have s5 : Same H4 (upd H4 z (.lst [.non])) := (Same.refl H4).new hz
  have h5 : upd H4 z (.lst [.non]) z = some (.lst [.non]) := upd_same
  generalize upd H4 z (.lst [.non]) = H5 at s5 h5
  have s05 := s04.trans s5
  refine ⟨_, rfl, t, _, _, _, rfl, rfl, SqT.of (s05 _ _ ht), rfl, b, _, rfl, .inr (SqT.of (s05 _ _ hb)), z, _, _, rfl, rfl, h5, by omega, by rw [List.length_map]; omega, ?_, fun r2 hr2 => ?_⟩
  · rw [List.length_map, List.length_singleton, Nat.one_mul]
    exact Nat.le_of_lt (small1000 (by omega))
  have eF : (List.replicate ((((ls.map V.bl).length : Nat) : Int)).toNat [V.non]).flatten = (List.range ls.length).map (numV []) := by
    rw [List.length_map, Int.toNat_natCast]
    have : numV [] = fun _ => V.non := by funext x; simp [numV]
    rw [this]
    induction ls.length with
    | zero => rfl
    | succ m ih =>
      rw [List.replicate_succ, List.flatten_cons, ih, List.range_succ, List.map_append]
      show V.non :: _ = _
      have hr : ∀ m, V.non :: (List.range m).map (fun _ => V.non) = (List.range m).map (fun _ => V.non) ++ [V.non] := fun m => by
        rw [List.map_const', List.length_range, ← List.replicate_succ, List.replicate_succ']
      exact hr m
  rw [eF]
  have s6 : Same H5 (upd H5 r2 (.lst ((List.range ls.length).map (numV [])))) := (Same.refl H5).new hr2
  have h6 : upd H5 r2 (.lst ((List.range ls.length).map (numV []))) r2 = some (.lst ((List.range ls.length).map (numV (so.take 0)))) := by rw [upd_same, List.take_zero]
  generalize upd H5 r2 (.lst ((List.range ls.length).map (numV []))) = H6 at s6 h6
  have f2 : H r2 = none := s05.free hr2
  have s46 : Same H4 H6 := s5.trans s6
  have h46 := s46 _ _ h4
  have rl : r2 ≠ l := fun e => by
    subst e
    have := s5 _ _ h4
    rw [hr2] at this; cases this
  have xl : ((p.map fun i => as.getD i 0).map V.ref).length = ir.length := by rw [List.length_map, List.length_map, plen]
  refine ⟨_, rfl, .lst l, rfl, ⟨_, .inl h46⟩, ?_⟩
  refine for_enum (xs := (p.map fun i => as.getD i 0).map V.ref) (fun j σ H' => ∃ o3 o4 : Option V, σ = [some (.ref t), some (.ref l), some (.ref r2), o3, o4] ∧ Same H H' ∧ H' l = some (.lst ((p.map fun i => as.getD i 0).map V.ref)) ∧ (∀ (i : Nat) (e : Addr), as[i]? = some e → H' e = some (.tup (KG txt (ir.getD i 0)))) ∧ H' r2 = some (.lst ((List.range ls.length).map (numV (so.take j)))))
    ⟨none, none, rfl, s04.trans s46, h46, fun i e h => s46 _ _ (s4 _ _ (at' i e h)), h6⟩ (fun j σ H' _ h => by obtain ⟨_, _, _, _, h, _⟩ := h; exact .inl h) ?_ ?_
  · rintro j x σ H' pp hx ⟨o3, o4, rfl, s7, g7, ga, g8⟩ hpp
    rw [List.map_map, List.getElem?_map] at hx
    cases e1 : p[j]? with
    | none => rw [e1] at hx; cases hx
    | some pj =>
      rw [e1] at hx
      have ex : x = V.ref (as.getD pj 0) := (Option.some.inj hx).symm
      subst ex
      have jl : j < p.length := (List.getElem?_eq_some_iff.mp e1).1
      have pjl := pin pj (List.mem_of_getElem? e1)
      have gae : as[pj]? = some (as.getD pj 0) := by rw [List.getD_eq_getElem?_getD, List.getElem?_eq_getElem (by omega : pj < as.length)]; rfl
      have esj : so[j]? = some (ir.getD pj 0) := by rw [hso, List.getElem?_map, e1]; rfl
      have sjl : ir.getD pj 0 < ls.length := irl _ (by rw [List.getD_eq_getElem?_getD, List.getElem?_eq_getElem pjl]; exact List.getElem_mem pjl)
      refine ⟨pp, _, rfl, SqT.of upd_same, rfl, _, _, rfl, _, _, rfl, rfl, ?_⟩
      have s8 : Same H' (upd H' pp (.tup [.int (j : Int), .ref (as.getD pj 0)])) := (Same.refl H').new hpp
      have g7' := s8 _ _ g7
      have g8' := s8 _ _ g8
      have ga' : ∀ (i : Nat) (e : Addr), as[i]? = some e → upd H' pp (.tup [.int (j : Int), .ref (as.getD pj 0)]) e = some (.tup (KG txt (ir.getD i 0))) := fun i e h => s8 _ _ (ga i e h)
      have s78 := s7.trans s8
      show tAsg _ _ _ _ _
      generalize upd H' pp (.tup [.int (j : Int), .ref (as.getD pj 0)]) = H9 at s8 g7' g8' ga' s78
      refine ⟨_, rfl, _, rfl, _, rfl, as.getD pj 0, _, _, _, rfl, rfl, SqT.of (ga' pj _ gae), rfl, r2, _, _, ir.getD pj 0, rfl, rfl, g8', ?_, _, _, rfl, s78.write f2, ?_, fun i e h => ?_, ?_⟩
      · unfold ixN
        rw [List.length_map, List.length_range, if_pos (by omega), if_pos (by omega), Int.toNat_natCast]
      · rw [upd_ne (Ne.symm rl)]; exact g7'
      · have h1 := ga' i e h
        rw [upd_ne (ne_of h1 g8' (by intro z; cases z))]; exact h1
      · rw [upd_same, num_set sond esj sjl]
  · rintro σ H' ⟨o3, o4, rfl, s7, g7, ga, g8⟩
    rw [xl, ← solen, List.take_length] at g8
    exact ⟨_, rfl, q so r2 H' sop sopw s7 f2 g8⟩
end
end S30


set_option Elab.async false
set_option linter.all false
set_option maxRecDepth 100000
set_option maxHeartbeats 8000000
namespace S30
open PySem L2 W7
section
variable {ups : List Int} {lab : Str} {ks : List Nat}
theorem tr_of (ok : TreeOk ups lab.cps.toList) (fine : Fine ups lab) : W27.Tr ups where
  pos := ok.pos
  root := ok.root
  up := ok.up
  btw := fun i y z hy e iz zy => by
    have y0 : y ≠ 0 := by omega
    have hi : (i : Int) ∈ chn ups y := by
      rw [chn_eq ok hy, e, if_neg (by omega)]; exact List.mem_cons_self
    have d := chn_down ok fine.road hy hi (y - z) (by omega) (by omega)
    rw [show y - (y - z) = z by omega] at d
    have hz : z < ups.length := by omega
    have up := ok.up z (by omega) hz
    rw [chn_eq ok hz, if_neg (by omega)] at d
    rcases List.mem_cons.mp d with q | q
    · omega
    · have := (chn_mem ok ((ups.getD z 0).toNat + 1) (ups.getD z 0).toNat (by omega) (by omega)).2 _ q
      omega
/-! ### what stands beneath a row -/
def kids (gs : List (Nat × Nat)) (so : List Nat) (r : Nat) : List Nat := if r ∈ so then (List.range ((gs.getD (so.idxOf r) (0, 0)).2 - (gs.getD (so.idxOf r) (0, 0)).1)).map fun i => (gs.getD (so.idxOf r) (0, 0)).1 + i else []
def ro (ks : List Nat) (y : Nat) : Nat := (keptN ks).idxOf y
theorem kept_perm (ok : TreeOk ups lab.cps.toList) (ko : KeptOk ups lab ks) : (keptN ks).Perm (List.range ups.length) := by
  obtain ⟨m, hm⟩ : ∃ m, ups.length = m + 1 := ⟨ups.length - 1, by have := ok.pos; omega⟩
  have p := ko.perm
  rw [hm, Nat.add_sub_cancel] at p
  rw [hm, List.range_succ_eq_map]
  exact (p.map (· + 1)).cons 0
theorem kept_len (ok : TreeOk ups lab.cps.toList) (ko : KeptOk ups lab ks) : (keptN ks).length = ups.length := by have := (kept_perm ok ko).length_eq; simpa using this
theorem pl_at (ok : TreeOk ups lab.cps.toList) (ko : KeptOk ups lab ks) {r : Nat} (h : r < ups.length) : pl ks r = (keptN ks)[r]'(by rw [kept_len ok ko]; exact h) := by
  unfold pl; rw [List.getD_eq_getElem?_getD, List.getElem?_eq_getElem (by rw [kept_len ok ko]; exact h)]; rfl
theorem pl_ro (ok : TreeOk ups lab.cps.toList) (ko : KeptOk ups lab ks) {y : Nat} (h : y < ups.length) : ro ks y < ups.length ∧ pl ks (ro ks y) = y := by
  have m : y ∈ keptN ks := (kept_perm ok ko).mem_iff.mpr (List.mem_range.mpr h)
  have l := List.idxOf_lt_length_of_mem m
  have l' : ro ks y < ups.length := by rw [← kept_len ok ko]; exact l
  refine ⟨l', ?_⟩
  rw [pl_at ok ko l']
  exact List.getElem_idxOf l
theorem ro_pl (ok : TreeOk ups lab.cps.toList) (ko : KeptOk ups lab ks) {r : Nat} (h : r < ups.length) : ro ks (pl ks r) = r := by
  obtain ⟨a, b⟩ := pl_ro ok ko (pl_lt ok ko h)
  exact pl_inj ok ko a h b
/-- the sorted inner rows are as many as the groups; what stands beneath a row are its places' places beneath -/
structure Sor (ups : List Int) (lab : Str) (ks : List Nat) (gs : List (Nat × Nat)) (so : List Nat) : Prop where
  gi : ∃ first, W29.GI (fun r => lastB ups (pl ks r)) ups.length gs first
  perm : so.Perm (inn ups ks ups.length)
  pw : so.Pairwise fun r s => kap ups lab (pl ks r) (pl ks s)
theorem kids_pl (ok : TreeOk ups lab.cps.toList) (ko : KeptOk ups lab ks) {gs : List (Nat × Nat)} {so : List Nat} (S : Sor ups lab ks gs so) {r : Nat} (hr : r < ups.length) : (∀ l ∈ kids gs so r, l < ups.length) ∧ (kids gs so r).map (pl ks) = W27.ben ups (pl ks r) := by
  obtain ⟨first, I⟩ := S.gi
  have R := rows_rw ok ko
  have fn := R.whole ok.pos I
  have fle : first ≤ ups.length := by omega
  have mt := rows_match ok ko I S.perm S.pw
  have ml : so.length = gs.length := by have := congrArg List.length mt; simpa using this
  by_cases hm : r ∈ so
  · have jl : so.idxOf r < so.length := List.idxOf_lt_length_of_mem hm
    have jg : so.idxOf r < gs.length := by omega
    have eg : gs.getD (so.idxOf r) (0, 0) = gs[so.idxOf r] := by rw [List.getD_eq_getElem?_getD, List.getElem?_eq_getElem jg]; rfl
    have ek : kids gs so r = (List.range (gs[so.idxOf r].2 - gs[so.idxOf r].1)).map fun i => gs[so.idxOf r].1 + i := by
      unfold kids; rw [if_pos hm, eg]
    have hp : par ups ks gs[so.idxOf r].1 = pl ks r := by
      have := congrArg (fun l : List Nat => l[so.idxOf r]?) mt
      simp only [List.getElem?_map, List.getElem?_eq_getElem jl, List.getElem?_eq_getElem jg, Option.map_some, List.getElem_idxOf] at this
      exact (Option.some.inj this).symm
    have hg : gs[so.idxOf r] ∈ gs := List.getElem_mem jg
    generalize gs[so.idxOf r] = g at ek hp hg
    obtain ⟨g1, g2, g3, _⟩ := I.mem g hg
    have mk' : ∀ l, l ∈ kids gs so r ↔ g.1 ≤ l ∧ l < g.2 := fun l => by
      rw [ek, List.mem_map]
      constructor
      · rintro ⟨i, hi, rfl⟩
        have := List.mem_range.mp hi; omega
      · rintro ⟨a, b⟩
        exact ⟨l - g.1, List.mem_range.mpr (by omega), by omega⟩
    refine ⟨fun l hl => by have := (mk' l).mp hl; omega, ?_⟩
    refine W29.sorted_eq (κ := (· < ·)) Nat.lt_irrefl (fun a b c => Nat.lt_trans) _ _ ?_ (W27.range_up _ _) fun y => ?_
    · rw [List.pairwise_map, ek, List.pairwise_map]
      refine List.Pairwise.imp_of_mem (fun {a b} ha hb ab => ?_) List.pairwise_lt_range
      have ha' := List.mem_range.mp ha
      have hb' := List.mem_range.mp hb
      have ea := (R.all I fle hg (show 1 ≤ g.1 + a by omega) (by omega)).mpr ⟨by omega, by omega⟩
      have eb := (R.all I fle hg (show 1 ≤ g.1 + b by omega) (by omega)).mpr ⟨by omega, by omega⟩
      rcases R.ro (g.1 + a) (g.1 + b) (by omega) (by omega) (by omega) with z | ⟨_, z⟩
      · rw [ea, eb] at z; exact absurd z (R.irr _)
      · exact z
    · rw [List.mem_map, W27.ben_mem]
      constructor
      · rintro ⟨l, hl, rfl⟩
        have hl' := (mk' l).mp hl
        have el := (R.all I fle hg (show 1 ≤ l by omega) (by omega)).mpr hl'
        refine ⟨pl_lt ok ko (by omega), ?_⟩
        rw [pl_up ok ko (by omega) (by omega), el, hp]
      · rintro ⟨hy, e⟩
        have yp : 1 ≤ y := by
          rcases Nat.eq_zero_or_pos y with z | z
          · subst z; have := ok.root; omega
          · exact z
        obtain ⟨o, a, b, c⟩ := pl_onto ok ko yp hy
        refine ⟨o, (mk' o).mpr ((R.all I fle hg a b).mp ?_), c⟩
        have := pl_up ok ko a b
        rw [c, e] at this
        rw [hp]; omega
  · have ek : kids gs so r = [] := by unfold kids; rw [if_neg hm]
    rw [ek]
    refine ⟨(fun l h => by cases h), ?_⟩
    symm
    refine List.eq_nil_iff_forall_not_mem.mpr fun y hy => hm ?_
    obtain ⟨hy, e⟩ := W27.ben_mem.mp hy
    refine S.perm.mem_iff.mpr ?_
    unfold inn
    rw [List.mem_filter, List.mem_range]
    refine ⟨hr, ?_⟩
    rw [leaf_iff.mpr ⟨y, hy, e⟩]; rfl
/-- the machine writes the tree -/
theorem run_tree (ok : TreeOk ups lab.cps.toList) (fine : Fine ups lab) (ko : KeptOk ups lab ks) {gs : List (Nat × Nat)} {so : List Nat} (S : Sor ups lab ks gs so) {lt : Nat → Nat} (hl : ∀ r, r < ups.length → lt r = lab.cps.toList.getD (pl ks r) 0) :
    ∀ i, i ≤ ups.length → W27.run (kids gs so) lt i = ((W27.fr ups i).map (fun y => (ro ks y, ups.getD y 0)), ups.take i, lab.cps.toList.take i) := by
  refine W27.run_ok (tr_of ok fine) (ro := ro ks) ?_ (fun i hi => ?_) (fun i hi => ?_) ok.len.symm
  · have := ro_pl ok ko ok.pos
    rw [pl_zero] at this; exact this
  · obtain ⟨a, b⟩ := pl_ro ok ko hi
    obtain ⟨k1, k2⟩ := kids_pl ok ko S a
    rw [b] at k2
    rw [← k2, List.map_map]
    have : (kids gs so (ro ks i)).map (ro ks ∘ pl ks) = (kids gs so (ro ks i)).map id := List.map_congr_left fun l hl => ro_pl ok ko (k1 l hl)
    rw [this, List.map_id]
  · obtain ⟨a, b⟩ := pl_ro ok ko hi
    rw [hl _ a, b]
end
end S30


set_option Elab.async false
set_option linter.all false
set_option maxRecDepth 100000
set_option maxHeartbeats 8000000
namespace S30
open PySem L2 W7
theorem bt_all : bootBuiltins "all" = some (.builtin "all") := by decide +kernel
theorem iteB {c : Bool} {A B : Prop} (h : c = true) (q : A) : if c = true then A else B := by rw [if_pos h]; exact q
theorem bq {Q : VK} {b : Bool} {H : Hp} (h : b = true) (q : Q (.bl true) H) : Q (.bl b) H := by rw [h]; exact q
theorem in_letters {c : Nat} (h : Lw c) : (!(Builtin.Str.occurrences (Str.ofString "abcdefghijklmnopqrstuvwxyz") (mk [c]) 0 (Str.ofString "abcdefghijklmnopqrstuvwxyz").length 1).isEmpty) = true := by
  have all : ∀ c : Nat, c < 123 → 97 ≤ c → (!(Builtin.Str.occurrences (Str.ofString "abcdefghijklmnopqrstuvwxyz") (mk [c]) 0 (Str.ofString "abcdefghijklmnopqrstuvwxyz").length 1).isEmpty) = true := by decide +kernel
  unfold Lw at h
  exact all c (by omega) (by omega)
theorem trues_all (n : Nat) : ((List.replicate n true).all id) = true := by induction n with
  | zero => rfl
  | succ n ih => rw [List.replicate_succ, List.all_cons, ih]; rfl
theorem trues_snoc (n : Nat) : (List.replicate n true).map V.bl ++ [V.bl true] = (List.replicate (n + 1) true).map V.bl := by rw [List.replicate_succ', List.map_append]; rfl
section
variable {P : Program} {w : World} {K : PySem.W.Frag} {mg : Str → Option Value} {base : Heap} {k : Nat}
def sp_letters : Sp := fun vs H Q _ => ∃ z : Str, vs = [.str z] ∧ z.length ≤ 60 ∧ (∀ c ∈ z.cps.toList, Lw c) ∧ ∀ H', Same H H' → Q (.bl true) H'
theorem has_letters (D : Df K mg "is_letters" s_is_letters) (B : Blt7 mg) : Has P w K mg base "is_letters" (k + 1) ["thing"] sp_letters := by
  refine D.has sc_is_letters (fun _ _ _ _ _ _ us hl => match us, hl with | [_], _ => rfl) (fun vs H Q E h => by obtain ⟨x, rfl, _⟩ := h; rfl) (fun f cdv A outer s H vs Q E hr h => ?_)
  obtain ⟨z, rfl, zl, low, q⟩ := h
  obtain ⟨u2, h_LETTERS, r_LETTERS⟩ := B.letters
  refine ⟨_, (pss_one (ps_ret (pe_and (pe_callB call_isinst rfl B.isinstance bt_isinstance (pa_cons (pv 0) (pa_cons (pe_bltn (v := .ty "str") rfl B.str_ bt_str rfl) pa_nil))) (pe_one (pe_callB (call_all rfl) rfl B.all bt_all (pa_cons (pe_comp rfl (pi_str (pv 0)) (NL := ["sign"]) (ix := []) (csc (defScope s_is_letters) N_is_letters) (fun cl C s₃ H₃ fp pins => ⟨(pg_name (i := 0) (show List.Nodup (["sign"] : List Str) from by decide +kernel) rfl (by first | exact Or.inl rfl | exact Or.inr rfl)), pifs_nil, (pe_cmpR op_in_str (pv 0) (pe_glob (v := .str "abcdefghijklmnopqrstuvwxyz") rfl h_LETTERS r_LETTERS) (by with_unfolding_all rfl))⟩)) pa_nil)))))), ?_⟩
  refine ⟨_, rfl, _, _, _, true, rfl, .str _, kit_same _ _, _, rfl, iteT ?_⟩
  have zs : z.cps.size ≤ 60 := zl
  refine ⟨_, rfl, _, rfl, fun a1 ha1 => ?_⟩
  refine comp_str (by omega) (fun i ys HX => HX a1 = some (.lst ys) ∧ Same H HX ∧ ys = (List.replicate i true).map V.bl)
    (fun i ys HX h => ⟨h.1, by rw [h.2.2, List.length_map, List.length_replicate]; exact Nat.le_refl _⟩) ⟨upd_same, (Same.refl H).new ha1, rfl⟩ ?_ ?_
  rotate_left
  · rintro i c ys HX hc ⟨g1, g2, rfl⟩
    have hm : c ∈ z.cps.toList := by rw [← Array.getElem?_toList] at hc; exact List.mem_of_getElem? hc
    refine ⟨rfl, _, rfl, _, _, rfl, rfl, ?_⟩
    have e : (!(Builtin.Str.occurrences (Str.ofString "abcdefghijklmnopqrstuvwxyz") ⟨#[c]⟩ 0 (Str.ofString "abcdefghijklmnopqrstuvwxyz").length 1).isEmpty) = true := in_letters (low c hm)
    rw [e]
    exact ⟨g1, upd_same, g2.write ha1, trues_snoc i⟩
  rintro ys H1 ⟨g1, s1, rfl⟩
  refine ⟨a1, _, rfl, SqL.of g1, ?_⟩
  rw [trues_all]
  exact q _ s1
def sp_labels : Sp := fun vs H Q _ => ∃ z : Str, vs = [.str z] ∧ 1 ≤ z.length ∧ z.length ≤ 60 ∧ (∀ c ∈ z.cps.toList, Lw c) ∧ ∀ H', Same H H' → Q (.bl true) H'
theorem has_labels (D : Df K mg "is_labels" s_is_labels) (B : Blt7 mg) (G_is_letters : Has P w K mg base "is_letters" k ["thing"] sp_letters) : Has P w K mg base "is_labels" (k + 1) ["thing"] sp_labels := by
  refine D.has sc_is_labels (fun _ _ _ _ _ _ us hl => match us, hl with | [_], _ => rfl) (fun vs H Q E h => by obtain ⟨x, rfl, _⟩ := h; rfl) (fun f cdv A outer s H vs Q E hr h => ?_)
  obtain ⟨z, rfl, z1, z60, low, q⟩ := h
  obtain ⟨u1, h_MOST_PLACES, r_MOST_PLACES⟩ := B.most
  refine ⟨_, (pss_one (ps_ret (pe_and (pe_callH G_is_letters hr rfl (pa_cons (pv 0) pa_nil)) (pe_one (pe_chain op_le op_le pe_int (pe_callB call_len_str rfl B.len bt_len (pa_cons (pv 0) pa_nil)) (pe_glob (v := .int 60) rfl h_MOST_PLACES r_MOST_PLACES)))))), ?_⟩
  refine ⟨_, rfl, z, rfl, z60, low, fun H1 s1 => ⟨_, rfl, iteT ?_⟩⟩
  refine ⟨_, rfl, _, rfl, Nat.le_of_lt (small1000 (by omega)), _, _, rfl, rfl, _, rfl, ?_⟩
  refine iteB (decide_eq_true (by show (1 : Int) ≤ (z.length : Int); omega)) ?_
  refine ⟨_, _, rfl, rfl, ?_⟩
  exact bq (decide_eq_true (by show (z.length : Int) ≤ 60; omega)) (q H1 s1)
/-! ### is_truths, has_form -/
def sp_truths : Sp := fun vs H Q _ => ∃ (a : Addr) (bs : List Bool), vs = [.ref a, .int (bs.length : Int)] ∧ H a = some (.tup (bs.map V.bl)) ∧ bs.length ≤ 60 ∧ ∀ H', Same H H' → Q (.bl true) H'
theorem has_truths (D : Df K mg "is_truths" s_is_truths) (B : Blt7 mg) : Has P w K mg base "is_truths" (k + 1) ["thing", "many"] sp_truths := by
  refine D.has sc_is_truths (fun _ _ _ _ _ _ us hl => match us, hl with | [_, _], _ => rfl) (fun vs H Q E h => by obtain ⟨a, bs, rfl, _⟩ := h; rfl) (fun f cdv A outer s H vs Q E hr h => ?_)
  obtain ⟨a, bs, rfl, ha, b60, q⟩ := h
  refine ⟨_, (pss_cons (ps_if (PW.pt (pw_or (pt_not (pt_val (pe_callB call_isinst rfl B.isinstance bt_isinstance (pa_cons (pv 0) (pa_cons (pe_bltn (v := .ty "tuple") rfl B.tuple_ bt_tuple rfl) pa_nil))))) (pw_or1 (pt_cmpR op_ne (pe_callB call_len_seq rfl B.len bt_len (pa_cons (pv 0) pa_nil)) (pv 1) (nomark _)))))
  (pss_one (ps_ret pe_bl))
  pss_nil)
  (pss_one (ps_ret (pe_callB (call_all rfl) rfl B.all bt_all (pa_cons (pe_comp rfl (pi_tup (pv 0)) (NL := ["part"]) (ix := []) (csc (defScope s_is_truths) N_is_truths) (fun cl C s₃ H₃ fp pins => ⟨(pg_name (i := 0) (show List.Nodup (["part"] : List Str) from by decide +kernel) rfl (by first | exact Or.inl rfl | exact Or.inr rfl)), pifs_nil, (pe_callB (call_isinstK K) rfl B.isinstance bt_isinstance (pa_cons (pv 0) (pa_cons (pe_bltn (v := .ty "bool") rfl B.bool_ bt_bool rfl) pa_nil)))⟩)) pa_nil))))), ?_⟩
  refine ⟨_, rfl, _, _, _, true, rfl, .tup ha, kit_same _ _, _, rfl, iteF ?_⟩
  refine ⟨_, rfl, a, _, rfl, .inr (SqT.of ha), _, rfl, rfl, _, rfl, ite2 (fun c => by simp at c) (fun _ => ?_)⟩
  refine ⟨_, rfl, a, rfl, ⟨_, SqT.of ha⟩, fun acc hacc => ?_⟩
  refine comp_tupI (xs := bs.map V.bl) (by rw [List.length_map]; omega) (fun i ys HX => HX acc = some (.lst ys) ∧ Same H HX ∧ ys = (List.replicate i true).map V.bl)
    (fun i ys HX h => SqT.of (h.2.1 _ _ ha)) (fun i ys HX h => ⟨h.1, by rw [h.2.2, List.length_map, List.length_replicate]; exact Nat.le_refl _⟩) ⟨upd_same, (Same.refl H).new hacc, rfl⟩ ?_ ?_
  rotate_left
  · rintro i x ys HX hx ⟨g1, g2, rfl⟩
    obtain ⟨b, _, rfl⟩ := List.mem_map.mp (List.mem_of_getElem? hx)
    exact ⟨rfl, _, rfl, _, _, _, true, rfl, .bl _, kit_same _ _, g1, upd_same, g2.write hacc, trues_snoc i⟩
  rintro ys H1 ⟨g1, s1, rfl⟩
  refine ⟨acc, _, rfl, SqL.of g1, ?_⟩
  rw [trues_all]
  exact q _ s1
def RwAt (H : Hp) (r : Addr) (txt : Str) (ls lv : List Bool) : Prop := ∃ a b, H r = some (.tup [.str txt, .ref a, .ref b]) ∧ H a = some (.tup (ls.map V.bl)) ∧ H b = some (.tup (lv.map V.bl))
theorem RwAt.same {H H' : Hp} {r : Addr} {txt : Str} {ls lv : List Bool} (h : RwAt H r txt ls lv) (s : Same H H') : RwAt H' r txt ls lv := by
  obtain ⟨a, b, h1, h2, h3⟩ := h
  exact ⟨a, b, s _ _ h1, s _ _ h2, s _ _ h3⟩
abbrev grpL (ls : List Bool) : List (Nat × Nat) := (W29.grp (fun i => ls.getD i false) ls.length).1
def sp_form : Sp := fun vs H Q _ => ∃ (r : Addr) (txt : Str) (ls lv : List Bool), vs = [.ref r] ∧ RwAt H r txt ls lv ∧ txt.length = ls.length ∧ txt.length = lv.length ∧ 1 ≤ txt.length ∧ txt.length ≤ 60 ∧ (∀ c ∈ txt.cps.toList, Lw c) ∧ ∀ H', Same H H' → Q (.bl (decide ((grpL ls).length = lv.count false))) H'
theorem has_form (D : Df K mg "has_form" s_has_form) (B : Blt7 mg) (G_is_labels : Has P w K mg base "is_labels" k ["thing"] sp_labels) (G_is_truths : Has P w K mg base "is_truths" k ["thing", "many"] sp_truths) (G_groups_of : Has P w K mg base "groups_of" k ["rows"] sp_groups) : Has P w K mg base "has_form" (k + 1) ["thing"] sp_form := by
  refine D.has sc_has_form (fun _ _ _ _ _ _ us hl => match us, hl with | [_], _ => rfl) (fun vs H Q E h => by obtain ⟨r, txt, ls, lv, rfl, _⟩ := h; rfl) (fun f cdv A outer s H vs Q E hr h => ?_)
  obtain ⟨r, txt, ls, lv, rfl, rw0, t1, t2, t3, t4, low, q⟩ := h
  refine ⟨_, (pss_cons (ps_if (PW.pt (pw_or (pt_not (pt_val (pe_callB call_isinst rfl B.isinstance bt_isinstance (pa_cons (pv 0) (pa_cons (pe_bltn (v := .ty "tuple") rfl B.tuple_ bt_tuple rfl) pa_nil))))) (pw_or (pt_cmpR op_ne (pe_callB call_len_seq rfl B.len bt_len (pa_cons (pv 0) pa_nil)) pe_int (nomark _)) (pw_or1 (pt_not (pt_val (pe_callH G_is_labels hr rfl (pa_cons (pe_ix ix_tup (pv 0) pe_int (fun _ _ => rfl)) pa_nil))))))))
  (pss_one (ps_ret pe_bl))
  pss_nil)
  (pss_cons (ps_set (i := 1) sc_has_form.nd rfl (by first | exact Or.inl rfl | exact Or.inr rfl) (pe_callB call_len_str rfl B.len bt_len (pa_cons (pe_ix ix_tup (pv 0) pe_int (fun _ _ => rfl)) pa_nil)))
  (pss_cons (ps_if (PW.pt (pw_or (pt_not (pt_val (pe_callH G_is_truths hr rfl (pa_cons (pe_ix ix_tup (pv 0) pe_int (fun _ _ => rfl)) (pa_cons (pv 1) pa_nil))))) (pw_or1 (pt_not (pt_val (pe_callH G_is_truths hr rfl (pa_cons (pe_ix ix_tup (pv 0) pe_int (fun _ _ => rfl)) (pa_cons (pv 1) pa_nil))))))))
  (pss_one (ps_ret pe_bl))
  pss_nil)
  (pss_one (ps_ret (pe_cmpR op_eq (pe_callB call_len_seq rfl B.len bt_len (pa_cons (pe_callH G_groups_of hr rfl (pa_cons (pv 0) pa_nil)) pa_nil)) (pe_tcountB (pe_ix ix_tup (pv 0) pe_int (fun _ _ => rfl)) pe_bl) (nomark _))))))), ?_⟩
  obtain ⟨a, b, hr0, ha, hb⟩ := id rw0
  refine ⟨_, rfl, _, _, _, true, rfl, .tup hr0, kit_same _ _, _, rfl, iteF ?_⟩
  refine ⟨_, rfl, r, _, rfl, .inr (SqT.of hr0), rfl, _, rfl, ite2 (fun c => by simp at c) (fun _ => ?_)⟩
  refine ⟨_, rfl, r, _, _, _, rfl, rfl, SqT.of hr0, rfl, txt, rfl, t3, t4, low, fun H1 s1 => ⟨_, rfl, iteF ?_⟩⟩
  have ts : txt.length ≤ sizeLine := Nat.le_of_lt (small1000 (by omega))
  refine ⟨_, rfl, r, _, _, _, rfl, rfl, SqT.of (s1 _ _ hr0), rfl, txt, rfl, ts, ?_⟩
  refine ⟨_, rfl, r, _, _, _, rfl, rfl, SqT.of (s1 _ _ hr0), rfl, _, rfl, a, ls, by rw [← t1]; rfl, s1 _ _ ha, by omega, fun H2 s2 => ⟨_, rfl, iteF ?_⟩⟩
  have s02 := s1.trans s2
  refine ⟨_, rfl, r, _, _, _, rfl, rfl, SqT.of (s02 _ _ hr0), rfl, _, rfl, b, lv, by rw [← t2]; rfl, s02 _ _ hb, by omega, fun H3 s3 => ⟨_, rfl, iteF ?_⟩⟩
  have s03 := s02.trans s3
  refine ⟨_, rfl, r, a, b, txt, ls, rfl, s03 _ _ hr0, s03 _ _ ha, by omega, fun as rg H4 s4 hf hrg pa => ?_⟩
  have s04 := s03.trans s4
  refine ⟨rg, _, rfl, .inl (SqL.of hrg), _, rfl, r, _, _, _, rfl, rfl, SqT.of (s04 _ _ hr0), rfl, ⟨_, _, rfl, s04 _ _ hb⟩, b, lv, false, rfl, rfl, s04 _ _ hb, rfl, ?_⟩
  have q' := q H4 s04
  have e : decide ((((as.map V.ref).length : Nat) : Int) = ((lv.count false : Nat) : Int)) = decide ((grpL ls).length = lv.count false) := by
    rw [List.length_map, pa.1, Bool.eq_iff_iff, decide_eq_true_eq, decide_eq_true_eq]
    show (((grpL ls).length : Nat) : Int) = _ ↔ _
    omega
  rw [← e] at q'
  have e2 : ∀ a b : Int, decide (V.int a = V.int b) = decide (a = b) := fun a b => by rw [Bool.eq_iff_iff, decide_eq_true_eq, decide_eq_true_eq]; exact ⟨fun z => by injection z, fun z => by rw [z]⟩
  rw [← e2] at q'
  exact q'
end
end S30


set_option Elab.async false
set_option linter.all false
set_option maxRecDepth 100000
set_option maxHeartbeats 8000000
namespace S30
open PySem L2 W7
section
variable {P : Program} {w : World} {K : PySem.W.Frag} {mg : Str → Option Value} {base : Heap} {k : Nat}
theorem glue_cps : ∀ (ss : List Str) (acc : Array Nat), (List.foldl (fun acc (p : Str) => acc ++ (Str.ofString "").cps ++ p.cps) acc ss).toList = acc.toList ++ (ss.map fun z : Str => z.cps.toList).flatten
  | [], acc => by simp
  | x :: r, acc => by
    rw [List.foldl_cons, glue_cps r, Array.toList_append, Array.toList_append]
    have e : (Str.ofString "").cps.toList = [] := rfl
    rw [e, List.append_nil, List.map_cons, List.flatten_cons, List.append_assoc]
theorem join_cps (ss : List Str) : (Txt.join (Str.ofString "") ss).cps.toList = (ss.map fun z : Str => z.cps.toList).flatten := by
  cases ss with
  | nil => rfl
  | cons x r =>
    have := glue_cps r x.cps
    rw [List.map_cons, List.flatten_cons]
    exact this
theorem join_mk (l : List Nat) : Txt.join (Str.ofString "") (l.map fun c => (⟨#[c]⟩ : Str)) = mk l := by
  apply str_ext
  rw [join_cps, mk_cps, List.map_map]
  induction l with
  | nil => rfl
  | cons a l ih => rw [List.map_cons, List.flatten_cons, ih]; rfl
theorem ones_sum (l : List Nat) : ((l.map fun c => (⟨#[c]⟩ : Str)).map fun x => x.length).sum = l.length := by
  induction l with
  | nil => rfl
  | cons a l ih => rw [List.map_cons, List.map_cons, List.sum_cons, ih, List.length_cons]; show 1 + _ = _; omega
/-! ### grown_tree -/
def pairN (p : Nat × Int) : List V := [.int ((p.1 : Nat) : Int), .int p.2]
def PrW (H : Hp) (ws : List Addr) (ps : List (Nat × Int)) : Prop := ws.length = ps.length ∧ ∀ (i : Nat) (a : Addr) (p : Nat × Int), ws[i]? = some a → ps[i]? = some p → H a = some (.tup (pairN p))
theorem PrW.same {H H' : Hp} {ws : List Addr} {ps : List (Nat × Int)} (h : PrW H ws ps) (s : ∀ b xs, H b = some (.tup xs) → H' b = some (.tup xs)) : PrW H' ws ps := ⟨h.1, fun i a p e1 e2 => s _ _ (h.2 i a p e1 e2)⟩
theorem PrW.app {H : Hp} {ws vs : List Addr} {ps qs : List (Nat × Int)} (h : PrW H ws ps) (g : PrW H vs qs) : PrW H (ws ++ vs) (ps ++ qs) := by
  refine ⟨by simp [h.1, g.1], fun i a p e1 e2 => ?_⟩
  rcases Nat.lt_or_ge i ws.length with c | c
  · rw [List.getElem?_append_left c] at e1
    rw [List.getElem?_append_left (by rw [← h.1]; exact c)] at e2
    exact h.2 i a p e1 e2
  · rw [List.getElem?_append_right c] at e1
    rw [List.getElem?_append_right (by rw [← h.1]; exact c), ← h.1] at e2
    exact g.2 _ a p e1 e2
theorem PrW.init {H : Hp} {ws : List Addr} {a : Addr} {ps : List (Nat × Int)} {p : Nat × Int} (h : PrW H (ws ++ [a]) (ps ++ [p])) : PrW H ws ps ∧ H a = some (.tup (pairN p)) := by
  have l : ws.length = ps.length := by have := h.1; simpa using this
  refine ⟨⟨l, fun i b q e1 e2 => ?_⟩, ?_⟩
  · have i1 := (List.getElem?_eq_some_iff.mp e1).1
    exact h.2 i b q (by rw [List.getElem?_append_left i1]; exact e1) (by rw [List.getElem?_append_left (by omega)]; exact e2)
  · exact h.2 ws.length a p (by simp) (by rw [l]; simp)
/-- the knots: a letter and what stands beneath -/
def KnAt (H : Hp) (kn : Addr) (n : Nat) (kd : Nat → List Nat) (lt : Nat → Nat) : Prop := ∃ as : List Addr, H kn = some (.lst (as.map V.ref)) ∧ as.length = n ∧ ∀ (r : Nat) (a : Addr), as[r]? = some a → ∃ c, H a = some (.tup [.str ⟨#[lt r]⟩, .ref c]) ∧ H c = some (.tup (natV (kd r)))
theorem KnAt.same {H H' : Hp} {kn : Addr} {n : Nat} {kd : Nat → List Nat} {lt : Nat → Nat} (h : KnAt H kn n kd lt) (s : Same H H') : KnAt H' kn n kd lt := by
  obtain ⟨as, h1, h2, h3⟩ := h
  refine ⟨as, s _ _ h1, h2, fun r a e => ?_⟩
  obtain ⟨c, e1, e2⟩ := h3 r a e
  exact ⟨c, s _ _ e1, s _ _ e2⟩
def sp_grow : Sp := fun vs H Q _ => ∃ (kn : Addr) (N n : Nat) (kd : Nat → List Nat) (lt : Nat → Nat) (us : List Int) (ls : List Nat) (st : Nat → List (Nat × Int)), vs = [.ref kn, .int 0] ∧ KnAt H kn N kd lt ∧ us.length = n ∧ ls.length = n ∧ 1 ≤ n ∧ n ≤ 60 ∧
  (∀ i, i ≤ n → W27.run kd lt i = (st i, us.take i, ls.take i)) ∧ (∀ i, i < n → st i ≠ []) ∧ st n = [] ∧ (∀ i, i ≤ n → (st i).length ≤ 60) ∧ (∀ i, i ≤ n → ∀ p ∈ st i, p.1 < N) ∧ (∀ r, r < N → (kd r).length ≤ 60) ∧
  ∀ (t u : Addr) (H' : Hp), Same H H' → H' t = some (.tup [.ref u, .str (mk ls)]) → H' u = some (.tup (us.map V.int)) → Q (.ref t) H'
theorem has_grow (D : Df K mg "grown_tree" s_grown_tree) (B : Blt7 mg) : Has P w K mg base "grown_tree" (k + 1) ["knots", "start"] sp_grow := by
  refine D.has sc_grown_tree (fun _ _ _ _ _ _ us hl => match us, hl with | [_, _], _ => rfl) (fun vs H Q E h => by obtain ⟨kn, N, n, kd, lt, us, ls, st, rfl, _⟩ := h; rfl) (fun f cdv A outer s H vs Q E hr h => ?_)
  obtain ⟨kn, N, n, kd, lt, us, ls, st, rfl, ka, ul, ll, n1, n60, run, sne, snil, sl, srow, kl, q⟩ := h
  refine ⟨_, (pss_cons (ps_set (i := 2) sc_grown_tree.nd rfl (by first | exact Or.inl rfl | exact Or.inr rfl) (pe_lst pa_nil))
  (pss_cons (ps_set (i := 3) sc_grown_tree.nd rfl (by first | exact Or.inl rfl | exact Or.inr rfl) (pe_lst pa_nil))
  (pss_cons (ps_set (i := 4) sc_grown_tree.nd rfl (by first | exact Or.inl rfl | exact Or.inr rfl) (pe_lst (pa_cons (pe_tup (pa_cons (pv 1) (pa_cons (pe_un un_neg pe_int) pa_nil))) pa_nil)))
  (pss_cons (ps_while PassesOwn.never (pt_truth (pv 4) (fun _ => rfl))
  (pss_cons (ps_set (i := 5) sc_grown_tree.nd rfl (by first | exact Or.inl rfl | exact Or.inr rfl) (pe_bm0 PySem.F.plainAttrs_list PySem.F.slot_list_pop PySem.F.type_list_pop mt_pop (pv 4)))
  (pss_cons (ps_set (i := 6) sc_grown_tree.nd rfl (by first | exact Or.inl rfl | exact Or.inr rfl) (pe_ix ix_list (pv 0) (pe_ix ix_tup (pv 5) pe_int (fun _ _ => rfl)) (fun _ _ => rfl)))
  (pss_cons (ps_set (i := 7) sc_grown_tree.nd rfl (by first | exact Or.inl rfl | exact Or.inr rfl) (pe_callB call_len_seq rfl B.len bt_len (pa_cons (pv 2) pa_nil)))
  (pss_cons (ps_expr (pe_bm PySem.F.plainAttrs_list PySem.F.slot_list_append PySem.F.type_list_append mt_append (pv 2) (pa_cons (pe_ix ix_tup (pv 5) pe_int (fun _ _ => rfl)) pa_nil)))
  (pss_cons (ps_expr (pe_bm PySem.F.plainAttrs_list PySem.F.slot_list_append PySem.F.type_list_append mt_append (pv 3) (pa_cons (pe_ix ix_tup (pv 6) pe_int (fun _ _ => rfl)) pa_nil)))
  (pss_one (ps_expr (pe_bm PySem.F.plainAttrs_list PySem.F.slot_list_extend PySem.F.type_list_extend mt_extend (pv 4) (pa_cons (pe_comp rfl (pi_tup (pe_revT K (pe_ix ix_tup (pv 6) pe_int (fun _ _ => rfl)) (po_some (pe_un un_neg pe_int)))) (NL := ["lower"]) (ix := [7]) (csc (defScope s_grown_tree) N_grown_tree) (fun cl C s₃ H₃ fp pins => ⟨(pg_name (i := 0) (show List.Nodup (["lower", "place"] : List Str) from by decide +kernel) rfl (by first | exact Or.inl rfl | exact Or.inr rfl)), pifs_nil, (pe_tup (pa_cons (pv 0) (pa_cons (pv 1) pa_nil)))⟩)) pa_nil))))))))))
  (pss_one (ps_ret (pe_tup (pa_cons (pe_callTy call_tuple_of rfl B.tuple_ bt_tuple (pa_cons (pv 2) pa_nil)) (pa_cons (pe_bm PySem.F.plainAttrs_str PySem.F.slot_str_join PySem.F.type_str_join mt_join pe_str (pa_cons (pv 3) pa_nil)) pa_nil))))))))), ?_⟩
  refine ⟨Nat.zero_le _, fun u hu => ?_⟩
  have s1 : Same H (upd H u (.lst [])) := (Same.refl H).new hu
  have h1 : upd H u (.lst []) u = some (.lst []) := upd_same
  generalize upd H u (.lst []) = H1 at s1 h1
  refine ⟨Nat.zero_le _, fun l hl => ?_⟩
  have nl : H l = none := s1.free hl
  have ul' : u ≠ l := ne_of_none h1 hl
  have s2 : Same H1 (upd H1 l (.lst [])) := (Same.refl H1).new hl
  have h2 : upd H1 l (.lst []) l = some (.lst []) := upd_same
  generalize upd H1 l (.lst []) = H2 at s2 h2
  refine ⟨_, rfl, _, rfl, (by show 2 ≤ sizeLine; decide), fun p0 hp0 => ?_⟩
  generalize hg3 : upd H2 p0 _ = H3
  have s3 : Same H2 H3 := by rw [← hg3]; exact (Same.refl H2).new hp0
  have h3 : H3 p0 = some (.tup [.int 0, .int (-1)]) := by rw [← hg3]; exact upd_same
  clear hg3
  refine ⟨(by show 1 ≤ sizeLine; decide), fun wt hwt => ?_⟩
  have nw : H wt = none := s1.free (s2.free (s3.free hwt))
  have uw : u ≠ wt := ne_of_none (s3 _ _ (s2 _ _ h1)) hwt
  have lw : l ≠ wt := ne_of_none (s3 _ _ h2) hwt
  have s4 : Same H3 (upd H3 wt (.lst [.ref p0])) := (Same.refl H3).new hwt
  have h4 : upd H3 wt (.lst [.ref p0]) wt = some (.lst ([p0].map V.ref)) := upd_same
  generalize upd H3 wt (.lst [.ref p0]) = H4 at s4 h4
  have st0 : st 0 = [(0, -1)] := by
    have := run 0 (Nat.zero_le _)
    exact (congrArg Prod.fst this).symm
  dsimp only [gName]
  have e : ((((L2.start N_grown_tree [V.ref kn, V.int 0]).set 2 (some (V.ref u))).set 3 (some (V.ref l))).set 4 (some (V.ref wt))) = [some (.ref kn), some (.int 0), some (.ref u), some (.ref l), some (.ref wt), none, none, none] := rfl
  rw [e]
  clear e
  refine while_by (fun σ HX => ∃ (i : Nat) (ws : List Addr) (o5 o6 o7 : Option V), σ = [some (.ref kn), some (.int 0), some (.ref u), some (.ref l), some (.ref wt), o5, o6, o7] ∧ i ≤ n ∧ Same H HX ∧ HX u = some (.lst ((us.take i).map V.int)) ∧ HX l = some (.lst (oneV (ls.take i))) ∧ HX wt = some (.lst (ws.map V.ref)) ∧ PrW HX ws (st i).reverse)
    (fun σ HX => match HX u with | some (.lst xs) => 60 - xs.length | _ => 0) ⟨0, [p0], none, none, none, rfl, Nat.zero_le _, ((s1.trans s2).trans s3).trans s4, s4 _ _ (s3 _ _ (s2 _ _ h1)), s4 _ _ (s3 _ _ h2), h4, ?_⟩ ?_ ?_
  · rw [st0]
    refine ⟨rfl, fun i a p e1 e2 => ?_⟩
    have i0 : i = 0 := by have := (List.getElem?_eq_some_iff.mp e1).1; simp at this; exact this
    subst i0
    cases e1; cases e2
    exact s4 _ _ h3
  · rintro σ HX ⟨i, ws, o5, o6, o7, rfl, hi, sX, hu', hl', hw', pw⟩
    refine ⟨_, rfl, _, .inl ⟨_, SqL.of hw', rfl⟩, ite2 (fun c => ?_) (fun c => ?_)⟩
    · have wne : ws ≠ [] := fun e => by rw [e] at c; cases c
      have lt' : i < n := by
        rcases Nat.eq_or_lt_of_le hi with e | e
        · rw [e, snil] at pw; exact absurd (List.eq_nil_of_length_eq_zero pw.1) wne
        · exact e
      obtain ⟨⟨r, up⟩, rest, est⟩ : ∃ p rest, st i = p :: rest := by
        cases e : st i with
        | nil => exact absurd e (sne i lt')
        | cons p rest => exact ⟨p, rest, rfl⟩
      obtain ⟨ws0, a0, rfl⟩ : ∃ ws0 a0, ws = ws0 ++ [a0] := ⟨ws.dropLast, ws.getLast wne, (List.dropLast_concat_getLast wne).symm⟩
      rw [est, List.reverse_cons] at pw
      obtain ⟨pw0, ha0⟩ := pw.init
      have rn : r < N := srow i hi (r, up) (by rw [est]; exact List.mem_cons_self)
      -- what the next turn writes
      have step := run (i + 1) lt'
      have stepE : W27.run kd lt (i + 1) = ((kd r).map (fun l => (l, ((us.take i).length : Int))) ++ rest, us.take i ++ [up], ls.take i ++ [lt r]) := by
        show W27.step kd lt (W27.run kd lt i) = _
        rw [run i hi, est]; rfl
      rw [stepE] at step
      have ei : (us.take i).length = i := by rw [List.length_take]; omega
      have ei2 : (ls.take i).length = i := by rw [List.length_take]; omega
      have e1 : st (i + 1) = (kd r).map (fun l => (l, (i : Int))) ++ rest := by have := (congrArg Prod.fst step).symm; rw [ei] at this; exact this
      have e2 : us.take (i + 1) = us.take i ++ [up] := (congrArg (fun x => x.2.1) step).symm
      have e3 : ls.take (i + 1) = ls.take i ++ [lt r] := (congrArg (fun x => x.2.2) step).symm
      obtain ⟨as, hkn, al, hat⟩ := ka
      have ra : as[r]? = some (as[r]'(by omega)) := List.getElem?_eq_getElem (by omega)
      obtain ⟨cc, hk1, hk2⟩ := hat r _ ra
      generalize as[r]'(by omega) = ar at ra hk1
      have wl : ws0.length ≤ 60 := by
        have := pw0.1
        have := sl i hi
        rw [est, List.length_cons] at this
        rw [List.length_reverse] at *
        omega
      -- pop
      have hw2 : HX wt = some (.lst (ws0.map V.ref ++ [.ref a0])) := by rw [hw', List.map_append]; rfl
      refine ⟨_, rfl, .inl ⟨rfl, _, SqL.of hw2⟩, wt, _, .ref a0, rfl, rfl, hw2, by simp, ?_⟩
      rw [List.dropLast_concat]
      have t1 : ∀ b xs, HX b = some (.tup xs) → upd HX wt (.lst (ws0.map V.ref)) b = some (.tup xs) := fun b xs e => by rw [upd_ne (ne_of e hw2 (by intro z; cases z))]; exact e
      have b1 : ∀ b, b ≠ wt → upd HX wt (.lst (ws0.map V.ref)) b = HX b := fun b nb => upd_ne nb
      have w1 : upd HX wt (.lst (ws0.map V.ref)) wt = some (.lst (ws0.map V.ref)) := upd_same
      have sA : Same H (upd HX wt (.lst (ws0.map V.ref))) := sX.write nw
      generalize upd HX wt (.lst (ws0.map V.ref)) = HA at t1 b1 w1 sA
      -- knot
      refine ⟨_, rfl, _, rfl, a0, _, _, _, rfl, rfl, SqT.of (t1 _ _ ha0), rfl, kn, _, _, _, rfl, rfl, SqL.of (sA _ _ hkn), atI_nat (j := r) (by rw [List.getElem?_map, ra]; rfl), ?_⟩
      -- place
      have huA : HA u = some (.lst ((us.take i).map V.int)) := (b1 u uw).trans hu'
      have hlA : HA l = some (.lst (oneV (ls.take i))) := (b1 l lw).trans hl'
      refine ⟨_, rfl, u, _, rfl, .inl (SqL.of huA), ?_⟩
      rw [List.length_map, ei]
      -- ups.append
      refine ⟨_, rfl, .inl ⟨rfl, _, SqL.of huA⟩, _, rfl, a0, _, _, _, rfl, rfl, SqT.of (t1 _ _ ha0), rfl, u, _, _, rfl, rfl, huA, by rw [List.length_map, ei]; exact small1000 (by omega), ?_⟩
      have t2 : ∀ b xs, HA b = some (.tup xs) → upd HA u (.lst ((us.take i).map V.int ++ [.int up])) b = some (.tup xs) := fun b xs e => by rw [upd_ne (ne_of e huA (by intro z; cases z))]; exact e
      have sB : Same H (upd HA u (.lst ((us.take i).map V.int ++ [.int up]))) := sA.write hu
      have u2 : upd HA u (.lst ((us.take i).map V.int ++ [.int up])) u = some (.lst ((us.take (i + 1)).map V.int)) := by rw [upd_same, e2, List.map_append]; rfl
      have l2 : upd HA u (.lst ((us.take i).map V.int ++ [.int up])) l = some (.lst (oneV (ls.take i))) := by rw [upd_ne (Ne.symm ul')]; exact hlA
      have w2 : upd HA u (.lst ((us.take i).map V.int ++ [.int up])) wt = some (.lst (ws0.map V.ref)) := by rw [upd_ne (Ne.symm uw)]; exact w1
      generalize upd HA u (.lst ((us.take i).map V.int ++ [.int up])) = HB at t2 sB u2 l2 w2
      -- labels.append
      refine ⟨_, rfl, .inl ⟨rfl, _, SqL.of l2⟩, _, rfl, ar, _, _, _, rfl, rfl, SqT.of (sB _ _ hk1), rfl, l, _, _, rfl, rfl, l2, by rw [oneV_len, ei2]; exact small1000 (by omega), ?_⟩
      have t3 : ∀ b xs, HB b = some (.tup xs) → upd HB l (.lst (oneV (ls.take i) ++ [.str ⟨#[lt r]⟩])) b = some (.tup xs) := fun b xs e => by rw [upd_ne (ne_of e l2 (by intro z; cases z))]; exact e
      have sC : Same H (upd HB l (.lst (oneV (ls.take i) ++ [.str ⟨#[lt r]⟩]))) := sB.write nl
      have u3 : upd HB l (.lst (oneV (ls.take i) ++ [.str ⟨#[lt r]⟩])) u = some (.lst ((us.take (i + 1)).map V.int)) := by rw [upd_ne ul']; exact u2
      have l3 : upd HB l (.lst (oneV (ls.take i) ++ [.str ⟨#[lt r]⟩])) l = some (.lst (oneV (ls.take (i + 1)))) := by rw [upd_same, e3]; unfold oneV; rw [List.map_append]; rfl
      have w3 : upd HB l (.lst (oneV (ls.take i) ++ [.str ⟨#[lt r]⟩])) wt = some (.lst (ws0.map V.ref)) := by rw [upd_ne (Ne.symm lw)]; exact w2
      generalize upd HB l (.lst (oneV (ls.take i) ++ [.str ⟨#[lt r]⟩])) = HC at t3 sC u3 l3 w3
      have pw3 : PrW HC ws0 rest.reverse := pw0.same fun b xs e => t3 _ _ (t2 _ _ (t1 _ _ e))
      -- waiting.extend
      refine ⟨_, rfl, .inl ⟨rfl, _, SqL.of w3⟩, _, rfl, ar, _, _, _, rfl, rfl, SqT.of (sC _ _ hk1), rfl, _, rfl, _, rfl, cc, _, rfl, rfl, SqT.of (sC _ _ hk2), fun rv hrv => ?_⟩
      have s4' : Same HC (upd HC rv (.tup (natV (kd r)).reverse)) := (Same.refl HC).new hrv
      have h4' : upd HC rv (.tup (natV (kd r)).reverse) rv = some (.tup (natV (kd r)).reverse) := upd_same
      generalize upd HC rv (.tup (natV (kd r)).reverse) = HD at s4' h4'
      refine ⟨rv, rfl, ⟨_, SqT.of h4'⟩, fun acc hacc => ?_⟩
      have kl' := kl r rn
      have en : (natV (kd r)).reverse = natV (kd r).reverse := by unfold natV; rw [List.map_reverse]
      rw [en] at h4'
      refine comp_tupI (xs := natV (kd r).reverse) (by unfold natV; rw [List.length_map, List.length_reverse]; omega) (fun j ys HX => HX acc = some (.lst ys) ∧ Same HD HX ∧ ∃ vs : List Addr, ys = vs.map V.ref ∧ PrW HX vs (((kd r).reverse.take j).map fun l => (l, (i : Int))))
        (fun j ys HX h => SqT.of (h.2.1 _ _ h4')) (fun j ys HX h => ⟨h.1, by obtain ⟨vs, e, pv⟩ := h.2.2; rw [e, List.length_map, pv.1, List.length_map, List.length_take]; omega⟩) ⟨upd_same, (Same.refl HD).new hacc, [], rfl, rfl, fun i a p e => by simp at e⟩ ?_ ?_
      rotate_left
      · rintro j x ys HX hx ⟨g1, g2, vs, rfl, pv⟩
        unfold natV at hx
        rw [List.getElem?_map] at hx
        cases ex : (kd r).reverse[j]? with
        | none => rw [ex] at hx; cases hx
        | some lo =>
          rw [ex] at hx
          cases hx
          refine ⟨rfl, _, rfl, _, rfl, (by show 2 ≤ sizeLine; decide), fun e he => ?_⟩
          have ae : acc ≠ e := ne_of_none g1 he
          refine ⟨by rw [upd_ne ae]; exact g1, upd_same, (g2.new he).write hacc, vs ++ [e], by rw [List.map_append]; rfl, ?_⟩
          rw [List.take_succ, ex, List.map_append]
          have keep : ∀ b xs, HX b = some (.tup xs) → upd (upd HX e (.tup [.int ((lo : Nat) : Int), .int (i : Int)])) acc (.lst (vs.map V.ref ++ [.ref e])) b = some (.tup xs) := fun b xs eb => by
            rw [upd_ne (ne_of eb g1 (by intro z; cases z)), upd_ne (ne_of_none eb he)]; exact eb
          refine (pv.same keep).app ⟨rfl, fun i' a p e1 e2 => ?_⟩
          have i0 : i' = 0 := by have := (List.getElem?_eq_some_iff.mp e1).1; simp at this; exact this
          subst i0
          cases e1; cases e2
          rw [upd_ne (Ne.symm ae)]; exact upd_same
      rintro ys HE ⟨g1, g2, vs, rfl, pv⟩
      have sCE := s4'.trans g2
      have w4 := sCE _ _ w3
      have vl : vs.length ≤ 60 := by
        rw [pv.1, List.length_map, List.length_take, List.length_reverse]
        omega
      refine ⟨wt, acc, _, _, rfl, rfl, w4, g1, by rw [List.length_map, List.length_map]; exact Nat.le_of_lt (small1000 (by omega)), ?_⟩
      have nacc : wt ≠ acc := ne_of_none (s4' _ _ w3) hacc
      have full : ((kd r).reverse.take (natV (kd r).reverse).length).map (fun l => (l, (i : Int))) = ((kd r).map fun l => (l, (i : Int))).reverse := by
        rw [← List.map_reverse]
        congr 1
        unfold natV
        rw [List.length_map]; exact List.take_length
      rw [full] at pv
      have keep : ∀ b xs, HE b = some (.tup xs) → upd HE wt (.lst (ws0.map V.ref ++ vs.map V.ref)) b = some (.tup xs) := fun b xs eb => by rw [upd_ne (ne_of eb w4 (by intro z; cases z))]; exact eb
      refine ⟨⟨i + 1, ws0 ++ vs, _, _, _, rfl, lt', (sC.trans sCE).write nw, ?_, ?_, ?_, ?_⟩, ?_⟩
      · rw [upd_ne uw]; exact sCE _ _ u3
      · rw [upd_ne lw]; exact sCE _ _ l3
      · rw [upd_same, List.map_append]
      · rw [e1, List.reverse_append]
        exact ((pw3.same fun b xs e => sCE _ _ e).app pv).same keep
      · show (match upd HE wt (.lst (ws0.map V.ref ++ vs.map V.ref)) u with | some (.lst xs) => 60 - xs.length | _ => 0) < (match HX u with | some (.lst xs) => 60 - xs.length | _ => 0)
        rw [upd_ne uw, sCE _ _ u3, hu']
        show 60 - ((us.take (i + 1)).map V.int).length < 60 - ((us.take i).map V.int).length
        rw [List.length_map, List.length_map, List.length_take, List.length_take]; omega
    · have w0 : ws = [] := by
        cases ws with
        | nil => rfl
        | cons a b => exact absurd rfl c
      have en : i = n := by
        rcases Nat.eq_or_lt_of_le hi with e | e
        · exact e
        · have := pw.1
          rw [w0, List.length_reverse] at this
          exact absurd (List.eq_nil_of_length_eq_zero this.symm) (sne i e)
      subst en
      have eu : us.take i = us := List.take_of_length_le (by omega)
      have el : ls.take i = ls := List.take_of_length_le (by omega)
      rw [eu] at hu'
      rw [el] at hl'
      refine ⟨_, rfl, u, _, rfl, .inl ⟨SqL.of hu', fun ru hru => ?_⟩⟩
      have s5 : Same HX (upd HX ru (.tup (us.map V.int))) := (Same.refl HX).new hru
      have h5 : upd HX ru (.tup (us.map V.int)) ru = some (.tup (us.map V.int)) := upd_same
      generalize upd HX ru (.tup (us.map V.int)) = HY at s5 h5
      have ho : oneV ls = (ls.map fun c => (⟨#[c]⟩ : Str)).map V.str := by unfold oneV; rw [List.map_map]; rfl
      rw [ho] at hl'
      refine ⟨rfl, _, rfl, _, l, _, rfl, rfl, SqL.of (s5 _ _ hl'), ?_, ?_⟩
      · rw [ones_sum, List.length_map]
        show ls.length + ls.length * 0 ≤ _
        omega
      refine ⟨(by show 2 ≤ sizeLine; decide), fun t ht => ?_⟩
      rw [join_mk]
      exact q t ru _ ((sX.trans s5).new ht) upd_same (by rw [upd_ne (ne_of_none h5 ht)]; exact h5)
  · intro σ HX Q1 Q2 hq h
    obtain ⟨v, e, kk, tr, hh⟩ := h
    exact ⟨v, e, kk, tr, hq _ _ hh⟩
end
end S30


set_option Elab.async false
set_option linter.all false
set_option maxRecDepth 100000
set_option maxHeartbeats 8000000
namespace S30
open PySem L2 W7
theorem rowsText_cps (lab : Str) (ks : List Nat) : (rowsText lab ks).cps.toList = (keptN ks).map fun j => lab.cps.toList.getD j 0 := by
  unfold rowsText
  rw [join_cps, List.map_map]
  have : ∀ l : List Nat, (l.map ((fun z : Str => z.cps.toList) ∘ oneS lab)).flatten = l.map fun j => lab.cps.toList.getD j 0 := fun l => by
    induction l with
    | nil => rfl
    | cons a r ih => rw [List.map_cons, List.flatten_cons, ih]; rfl
  exact this _
theorem map_getD {α : Type} (f : Nat → α) (d : α) {l : List Nat} {r : Nat} (h : r < l.length) : (l.map f).getD r d = f (l.getD r 0) := by
  rw [List.getD_eq_getElem?_getD, List.getElem?_map, List.getElem?_eq_getElem h, List.getD_eq_getElem?_getD, List.getElem?_eq_getElem h]; rfl
/-- the rows of a tree -/
structure RO (ups : List Int) (lab : Str) (ks : List Nat) (txt : Str) (ls lv : List Bool) : Prop where
  ok : TreeOk ups lab.cps.toList
  fine : Fine ups lab
  ko : KeptOk ups lab ks
  txt : txt = rowsText lab ks
  ls : ls = (keptN ks).map (lastB ups)
  lv : lv = (keptN ks).map fun j : Nat => leafB ups (j : Int)
section
variable {ups : List Int} {lab : Str} {ks : List Nat} {txt : Str} {ls lv : List Bool}
theorem RO.tl (h : RO ups lab ks txt ls lv) : txt.cps.toList.length = ups.length := by rw [h.txt, rowsText_cps, List.length_map, kept_len h.ok h.ko]
theorem RO.tl' (h : RO ups lab ks txt ls lv) : txt.length = ups.length := by have := h.tl; rw [← this]; simp [Str.length]
theorem RO.sl (h : RO ups lab ks txt ls lv) : ls.length = ups.length := by rw [h.ls, List.length_map, kept_len h.ok h.ko]
theorem RO.vl (h : RO ups lab ks txt ls lv) : lv.length = ups.length := by rw [h.lv, List.length_map, kept_len h.ok h.ko]
theorem RO.at' (h : RO ups lab ks txt ls lv) {r : Nat} (hr : r < ups.length) : txt.cps.toList.getD r 0 = lab.cps.toList.getD (pl ks r) 0 := by
  rw [h.txt, rowsText_cps]; exact map_getD (fun j => lab.cps.toList.getD j 0) 0 (by rw [kept_len h.ok h.ko]; exact hr)
theorem RO.low (h : RO ups lab ks txt ls lv) : ∀ c ∈ txt.cps.toList, Lw c := fun c hc => by
  obtain ⟨r, hr, e⟩ := List.getElem_of_mem hc
  have hr' : r < ups.length := by rw [← h.tl]; exact hr
  have := h.at' hr'
  rw [List.getD_eq_getElem?_getD, List.getElem?_eq_getElem hr] at this
  have e2 : c = lab.cps.toList.getD (pl ks r) 0 := by rw [← e]; exact this
  have pll := pl_lt h.ok h.ko hr'
  have ll : lab.cps.toList.length = ups.length := h.ok.len.symm
  rw [e2, List.getD_eq_getElem?_getD, List.getElem?_eq_getElem (by omega)]
  exact h.fine.low _ (List.getElem_mem _)
theorem RO.grp (h : RO ups lab ks txt ls lv) : W29.grp (fun i => ls.getD i false) ls.length = W29.grp (fun r => lastB ups (pl ks r)) ups.length := by
  rw [h.sl]
  refine grp_congr _ fun r hr => ?_
  rw [h.ls]; exact map_getD (lastB ups) false (by rw [kept_len h.ok h.ko]; exact hr)
theorem RO.inn (h : RO ups lab ks txt ls lv) : ff lv lv.length = inn ups ks ups.length := by
  rw [h.vl, h.lv]
  unfold ff S30.inn
  refine List.filter_congr fun r hr => ?_
  rw [map_getD (fun j : Nat => leafB ups (j : Int)) true (by rw [kept_len h.ok h.ko]; exact List.mem_range.mp hr)]; rfl
abbrev bef (txt : Str) (x y : Nat) : Prop := txt.cps.toList.getD x 0 < txt.cps.toList.getD y 0 ∨ (txt.cps.toList.getD x 0 = txt.cps.toList.getD y 0 ∧ x < y)
theorem RO.sor (h : RO ups lab ks txt ls lv) {so : List Nat} (sop : so.Perm (ff lv lv.length)) (spw : so.Pairwise (bef txt)) : Sor ups lab ks (grpL ls) so := by
  rw [h.inn] at sop
  have slt : ∀ x ∈ so, x < ups.length := fun x hx => List.mem_range.mp (List.mem_filter.mp (sop.mem_iff.mp hx)).1
  refine ⟨⟨(W29.grp (fun r => lastB ups (pl ks r)) ups.length).2, ?_⟩, sop, List.Pairwise.imp_of_mem (fun {x y} hx hy q => ?_) spw⟩
  · show W29.GI _ _ (W29.grp (fun i => ls.getD i false) ls.length).1 _
    rw [h.grp]
    exact W29.grp_ok _ _
  · unfold bef at q
    rw [h.at' (slt x hx), h.at' (slt y hy)] at q
    exact rows_kap h.ok h.fine h.ko (slt x hx) (slt y hy) q
theorem so_is (txt : Str) {l : List Nat} (nd : l.Nodup) : ∃ so : List Nat, so.Perm l ∧ so.Pairwise (bef txt) := by
  let le : Nat → Nat → Bool := fun x y => decide (txt.cps.toList.getD x 0 < txt.cps.toList.getD y 0 ∨ (txt.cps.toList.getD x 0 = txt.cps.toList.getD y 0 ∧ x ≤ y))
  refine ⟨l.mergeSort le, List.mergeSort_perm l le, ?_⟩
  have p : (l.mergeSort le).Pairwise (fun a b => le a b = true) := List.pairwise_mergeSort (fun a b c h1 h2 => by
    have a1 := of_decide_eq_true h1
    have a2 := of_decide_eq_true h2
    refine decide_eq_true ?_
    omega) (fun a b => by
    show (decide _ || decide _) = true
    rw [Bool.or_eq_true, decide_eq_true_eq, decide_eq_true_eq]
    omega) l
  have nd2 : (l.mergeSort le).Nodup := (List.mergeSort_perm l le).nodup_iff.mpr nd
  have both := List.pairwise_and_iff.mpr ⟨p, nd2⟩
  refine List.Pairwise.imp (fun {a b} ⟨h1, h2⟩ => ?_) both
  have a1 := of_decide_eq_true h1
  unfold bef
  have : a ≠ b := h2
  omega
theorem count_ff (l : List Bool) : ∀ n, n ≤ l.length → (l.take n).count false = (ff l n).length
  | 0, _ => by simp [ff]
  | n + 1, h => by
    have e : l[n]? = some (l.getD n true) := by rw [List.getD_eq_getElem?_getD, List.getElem?_eq_getElem (by omega)]; rfl
    rw [List.take_succ, List.count_append, count_ff l n (by omega), ff_succ, e]
    cases l.getD n true with
    | true => simp
    | false => simp
theorem RO.gl (h : RO ups lab ks txt ls lv) : (grpL ls).length = lv.count false := by
  obtain ⟨so, sop, spw⟩ := so_is txt (ff_nodup lv lv.length)
  have S := h.sor sop spw
  obtain ⟨first, I⟩ := S.gi
  have M := rows_match h.ok h.ko I S.perm S.pw
  have l1 : so.length = (grpL ls).length := by have := congrArg List.length M; simpa using this
  have c := count_ff lv lv.length (Nat.le_refl _)
  rw [List.take_length] at c
  rw [c, ← l1, sop.length_eq]
theorem RO.run (h : RO ups lab ks txt ls lv) {so : List Nat} (sop : so.Perm (ff lv lv.length)) (spw : so.Pairwise (bef txt)) : ∀ i, i ≤ ups.length → W27.run (kids (grpL ls) so) (fun r => txt.cps.toList.getD r 0) i = ((W27.fr ups i).map (fun y => (ro ks y, ups.getD y 0)), ups.take i, lab.cps.toList.take i) :=
  run_tree h.ok h.fine h.ko (h.sor sop spw) fun r hr => h.at' hr
/-- the rows tell the tree -/
theorem RO.one {ups' : List Int} {lab' : Str} {ks' : List Nat} (h : RO ups lab ks txt ls lv) (h' : RO ups' lab' ks' txt ls lv) : ups = ups' ∧ lab = lab' := by
  obtain ⟨so, sop, spw⟩ := so_is txt (ff_nodup lv lv.length)
  have e : ups.length = ups'.length := by rw [← h.sl, ← h'.sl]
  have r1 := h.run sop spw ups.length (Nat.le_refl _)
  have r2 := h'.run sop spw ups.length (by omega)
  rw [r1] at r2
  have q1 := congrArg (fun z => z.2.1) r2
  have q2 := congrArg (fun z => z.2.2) r2
  have l1 : lab.cps.toList.length = ups.length := h.ok.len.symm
  have l2 : lab'.cps.toList.length = ups'.length := h'.ok.len.symm
  simp only [List.take_length] at q1 q2
  rw [e, List.take_length] at q1
  rw [List.take_of_length_le (by omega), List.take_of_length_le (by omega)] at q2
  exact ⟨q1, str_ext q2⟩
theorem RO.same {ks' : List Nat} {txt' : Str} {ls' lv' : List Bool} (h : RO ups lab ks txt ls lv) (h' : RO ups lab ks' txt' ls' lv') : txt = txt' ∧ ls = ls' ∧ lv = lv' := by
  have e := h.ko.one h'.ko
  subst e
  exact ⟨h.txt.trans h'.txt.symm, h.ls.trans h'.ls.symm, h.lv.trans h'.lv.symm⟩
end
end S30


set_option Elab.async false
set_option linter.all false
set_option maxRecDepth 100000
set_option maxHeartbeats 8000000
namespace S30
open PySem L2 W7
theorem nd_le : ∀ (N : Nat) (l : List Nat), l.Nodup → (∀ x ∈ l, x < N) → l.length ≤ N
  | 0, l, _, h => by
    cases l with
    | nil => exact Nat.le_refl _
    | cons a l => exact absurd (h a List.mem_cons_self) (Nat.not_lt_zero _)
  | N + 1, l, nd, h => by
    have ih := nd_le N (l.erase N) (nd.erase N) fun x hx => by
      have := (nd.mem_erase_iff).mp hx
      have := h x this.2
      omega
    rw [List.length_erase] at ih
    split at ih <;> omega
theorem least {p : Nat → Prop} (dp : ∀ n, Decidable (p n)) : ∀ n, p n → ∃ m, m ≤ n ∧ p m ∧ ∀ j, j < m → ¬ p j
  | 0, h => ⟨0, Nat.le_refl _, h, fun j hj => absurd hj (Nat.not_lt_zero _)⟩
  | n + 1, h => by
    by_cases q : ∃ j, j ≤ n ∧ p j
    · obtain ⟨j, hj, pj⟩ := q
      have : ∀ k, k ≤ n → p k → ∃ m, m ≤ k ∧ p m ∧ ∀ j, j < m → ¬ p j := fun k hk pk => by
        revert pk
        induction k using Nat.strongRecOn with
        | ind k ih =>
          intro pk
          by_cases z : ∃ i, i < k ∧ p i
          · obtain ⟨i, hi, pi⟩ := z
            obtain ⟨m, a, b, c⟩ := ih i hi (by omega) pi
            exact ⟨m, by omega, b, c⟩
          · exact ⟨k, Nat.le_refl _, pk, fun j hj pj => z ⟨j, hj, pj⟩⟩
      obtain ⟨m, a, b, c⟩ := this j hj pj
      exact ⟨m, by omega, b, c⟩
    · exact ⟨n + 1, Nat.le_refl _, h, fun j hj pj => q ⟨j, by omega, pj⟩⟩
theorem climb_init {us : List Int} (pos : 0 < us.length) (root : us.getD 0 0 = -1) (up : ∀ k, 0 < k → k < us.length → 0 ≤ us.getD k 0 ∧ us.getD k 0 < (k : Int)) (v : Int) {p : Int} (h0 : 0 ≤ p) (h1 : p < (us.length : Int)) : ∀ n, climb (us ++ [v]) n p = climb us n p ∧ 0 ≤ climb us n p ∧ climb us n p < (us.length : Int)
  | 0 => ⟨rfl, h0, h1⟩
  | n + 1 => by
    obtain ⟨a, b, c⟩ := climb_init pos root up v h0 h1 n
    have lt : (climb us n p).toNat < us.length := by omega
    have e : (us ++ [v]).getD (climb us n p).toNat 0 = us.getD (climb us n p).toNat 0 := by rw [getD_app, if_pos lt]
    refine ⟨?_, ?_⟩
    · show stepUp (us ++ [v]) (climb (us ++ [v]) n p) = stepUp us (climb us n p)
      rw [a]; unfold stepUp; rw [e]
    · show 0 ≤ stepUp us (climb us n p) ∧ stepUp us (climb us n p) < (us.length : Int)
      unfold stepUp
      rcases Nat.eq_zero_or_pos (climb us n p).toNat with z | z
      · rw [z, root]; exact ⟨by decide, by show (0 : Int) < _; omega⟩
      · have := up _ z lt
        split <;> omega
theorem climb_add (us : List Int) (p : Int) (a : Nat) : ∀ b, climb us (a + b) p = climb us b (climb us a p)
  | 0 => rfl
  | b + 1 => by
    show stepUp us (climb us (a + b) p) = stepUp us (climb us b (climb us a p))
    rw [climb_add us p a b]
/-- what stands beneath: each row once -/
structure KdOk (kd : Nat → List Nat) (N : Nat) : Prop where
  pos : 1 ≤ N
  low : ∀ r, ∀ y ∈ kd r, 1 ≤ y ∧ y < N
  nd : ∀ r, (kd r).Nodup
  dis : ∀ r r' y, y ∈ kd r → y ∈ kd r' → r = r'
def vs (kd : Nat → List Nat) (lt : Nat → Nat) : Nat → List Nat
  | 0 => []
  | i + 1 => vs kd lt i ++ ((W27.run kd lt i).1.map Prod.fst).take 1
abbrev Rc (us : List Int) (u v : Int) : Prop := ∃ n, climb us n u = v
structure RI (kd : Nat → List Nat) (lt : Nat → Nat) (N i : Nat) (st : List (Nat × Int)) (us : List Int) (ls : List Nat) (vs : List Nat) : Prop where
  ul : us.length = i
  ll : ls.length = i
  vl : vs.length = i
  nd : (vs ++ st.map Prod.fst).Nodup
  blw : ∀ y ∈ vs ++ st.map Prod.fst, y < N
  par : ∀ y ∈ vs ++ st.map Prod.fst, y = 0 ∨ ∃ r' ∈ vs, y ∈ kd r'
  gr : (i = 0 ∧ st = [(0, -1)] ∧ us = []) ∨ (1 ≤ i ∧ GrOk us ∧ (∀ p ∈ st, 0 ≤ p.2 ∧ p.2 < (i : Int)) ∧ (((i : Int) - 1) :: st.map Prod.snd).Pairwise (Rc us))
  lets : ∀ c ∈ ls, ∃ r, r < N ∧ c = lt r
theorem ri_step {kd : Nat → List Nat} {lt : Nat → Nat} {N i : Nat} {r : Nat} {u : Int} {st : List (Nat × Int)} {us : List Int} {ls vs : List Nat} (K : KdOk kd N) (h : RI kd lt N i ((r, u) :: st) us ls vs) :
    RI kd lt N (i + 1) ((kd r).map (fun l => (l, (us.length : Int))) ++ st) (us ++ [u]) (ls ++ [lt r]) (vs ++ [r]) := by
  have rin : r ∈ vs ++ ((r, u) :: st).map Prod.fst := List.mem_append_right _ (List.mem_cons_self)
  have rlt := h.blw r rin
  have nd := h.nd
  have e1 : ((kd r).map (fun l => (l, (us.length : Int))) ++ st).map Prod.fst = kd r ++ st.map Prod.fst := by
    rw [List.map_append, List.map_map]
    congr 1
    have : (Prod.fst ∘ fun l : Nat => (l, (us.length : Int))) = id := rfl
    rw [this, List.map_id]
  have e2 : ((kd r).map (fun l => (l, (us.length : Int))) ++ st).map Prod.snd = (kd r).map (fun _ => (us.length : Int)) ++ st.map Prod.snd := by
    rw [List.map_append, List.map_map]; rfl
  rw [List.map_cons] at nd
  have nd2 : (vs ++ [r] ++ st.map Prod.fst).Nodup := by rw [List.append_assoc]; exact nd
  have old : ∀ y, y ∈ vs ++ [r] ++ st.map Prod.fst → y ∈ vs ++ ((r, u) :: st).map Prod.fst := fun y hy => by
    rw [List.map_cons]; rw [List.append_assoc] at hy; exact hy
  have rv : r ∉ vs := fun z => by
    have := List.nodup_append.mp nd
    exact this.2.2 r z r List.mem_cons_self rfl
  have kf : ∀ y ∈ kd r, y ∉ vs ++ [r] ++ st.map Prod.fst := fun y hy hm => by
    rcases h.par y (old y hm) with z | ⟨r', hr', hy'⟩
    · have := (K.low r y hy).1; omega
    · have := K.dis _ _ _ hy hy'
      subst this; exact rv hr'
  refine ⟨by rw [List.length_append, h.ul]; rfl, by rw [List.length_append, h.ll]; rfl, by rw [List.length_append, h.vl]; rfl, ?_, ?_, ?_, ?_, ?_⟩
  · rw [e1]
    have p : (vs ++ [r] ++ (kd r ++ st.map Prod.fst)).Perm (kd r ++ (vs ++ [r] ++ st.map Prod.fst)) := by
      rw [← List.append_assoc, ← List.append_assoc]
      exact List.Perm.append_right _ List.perm_append_comm
    rw [p.nodup_iff, List.nodup_append]
    exact ⟨K.nd r, nd2, fun a ha b hb e => kf a ha (by rw [e]; exact hb)⟩
  · intro y hy
    rw [e1] at hy
    rcases List.mem_append.mp hy with z | z
    · exact h.blw y (old y (List.mem_append_left _ z))
    · rcases List.mem_append.mp z with z | z
      · exact (K.low r y z).2
      · exact h.blw y (old y (List.mem_append_right _ z))
  · intro y hy
    rw [e1] at hy
    have wid : ∀ {y}, (y = 0 ∨ ∃ r' ∈ vs, y ∈ kd r') → (y = 0 ∨ ∃ r' ∈ vs ++ [r], y ∈ kd r') := fun {y} q => q.imp id fun ⟨r', a, b⟩ => ⟨r', List.mem_append_left _ a, b⟩
    rcases List.mem_append.mp hy with z | z
    · exact wid (h.par y (old y (List.mem_append_left _ z)))
    · rcases List.mem_append.mp z with z | z
      · exact .inr ⟨r, List.mem_append_right _ (List.mem_singleton.mpr rfl), z⟩
      · exact wid (h.par y (old y (List.mem_append_right _ z)))
  · right
    refine ⟨by omega, ?_⟩
    rw [e2]
    have kk : ∀ p ∈ (kd r).map (fun l => (l, (us.length : Int))), p.2 = (us.length : Int) := fun p hp => by
      obtain ⟨l, _, rfl⟩ := List.mem_map.mp hp; rfl
    have ul := h.ul
    rcases h.gr with ⟨i0, es, eu⟩ | ⟨i1, g, bd, pw⟩
    · cases es
      subst eu
      have i0' : i = 0 := i0
      refine ⟨GrOk.one, fun p hp => ?_, ?_⟩
      · rw [List.append_nil] at hp
        have := kk p hp
        rw [this]
        exact ⟨by decide, by show ((0 : Nat) : Int) < ((i + 1 : Nat) : Int); omega⟩
      · rw [List.map_nil, List.append_nil]
        refine List.pairwise_cons.mpr ⟨fun v hv => ?_, ?_⟩
        · obtain ⟨_, _, rfl⟩ := List.mem_map.mp hv
          exact ⟨0, by show ((i + 1 : Nat) : Int) - 1 = ((0 : Nat) : Int); omega⟩
        · rw [List.pairwise_map]
          exact List.Pairwise.imp (fun _ => ⟨0, rfl⟩) (K.nd _)
    · have ub := bd (r, u) List.mem_cons_self
      rw [List.map_cons] at pw
      obtain ⟨pw1, pw2⟩ := List.pairwise_cons.mp pw
      obtain ⟨pw3, pw4⟩ := List.pairwise_cons.mp pw2
      have ci := fun {p : Int} => climb_init (p := p) g.pos g.root g.up u
      have g2 : GrOk (us ++ [u]) := g.snoc ub.1 (by omega) (by
        obtain ⟨n, e⟩ := pw1 u List.mem_cons_self
        exact ⟨n, by rw [ul]; exact e⟩)
      have wid : ∀ {a b : Int}, 0 ≤ a → a < (i : Int) → Rc us a b → Rc (us ++ [u]) a b := fun {a b} a0 a1 ⟨n, e⟩ => ⟨n, ((ci a0 (by omega) n).1).trans e⟩
      have up1 : climb (us ++ [u]) 1 (i : Int) = u := by
        show stepUp (us ++ [u]) (i : Int) = u
        have e : (us ++ [u]).getD i 0 = u := by rw [getD_app, if_neg (by omega), show i - us.length = 0 by omega]; rfl
        have u0 : 0 ≤ u := ub.1
        unfold stepUp
        rw [Int.toNat_natCast, e]
        split <;> omega
      refine ⟨g2, fun p hp => ?_, ?_⟩
      · rcases List.mem_append.mp hp with z | z
        · have := kk p z; omega
        · have := bd p (List.mem_cons_of_mem _ z); omega
      · have rest : ∀ v ∈ st.map Prod.snd, Rc (us ++ [u]) (i : Int) v := fun v hv => by
          obtain ⟨n, e⟩ := wid ub.1 ub.2 (pw3 v hv)
          exact ⟨1 + n, by rw [climb_add, up1]; exact e⟩
        have ei : ((i + 1 : Nat) : Int) - 1 = (i : Int) := by omega
        rw [ei, ul]
        refine List.pairwise_cons.mpr ⟨fun v hv => ?_, List.pairwise_append.mpr ⟨?_, ?_, fun a ha v hv => ?_⟩⟩
        · rcases List.mem_append.mp hv with z | z
          · obtain ⟨_, _, rfl⟩ := List.mem_map.mp z
            exact ⟨0, rfl⟩
          · exact rest v z
        · rw [List.pairwise_map]
          exact List.Pairwise.imp (fun _ => ⟨0, rfl⟩) (K.nd r)
        · refine List.Pairwise.imp_of_mem (fun {a b} ha hb q => ?_) pw4
          obtain ⟨p, hp, rfl⟩ := List.mem_map.mp ha
          have := bd p (List.mem_cons_of_mem _ hp)
          exact wid this.1 this.2 q
        · obtain ⟨_, _, rfl⟩ := List.mem_map.mp ha
          exact rest v hv
  · intro c hc
    rcases List.mem_append.mp hc with z | z
    · exact h.lets c z
    · rw [List.mem_singleton.mp z]; exact ⟨r, rlt, rfl⟩
theorem ri_run {kd : Nat → List Nat} {lt : Nat → Nat} {N : Nat} (K : KdOk kd N) : ∀ i, (∀ j, j < i → (W27.run kd lt j).1 ≠ []) → RI kd lt N i (W27.run kd lt i).1 (W27.run kd lt i).2.1 (W27.run kd lt i).2.2 (vs kd lt i)
  | 0, _ => ⟨rfl, rfl, rfl, by show [0].Nodup; simp, fun y hy => by have : y = 0 := List.mem_singleton.mp hy; have := K.pos; omega, fun y hy => .inl (List.mem_singleton.mp hy), .inl ⟨rfl, rfl, rfl⟩, fun c hc => by cases hc⟩
  | i + 1, h => by
    have ih := ri_run K i fun j hj => h j (by omega)
    have ne := h i (Nat.lt_succ_self _)
    rcases hr : W27.run kd lt i with ⟨st, us, ls⟩
    rw [hr] at ih ne
    have es : W27.run kd lt (i + 1) = W27.step kd lt (st, us, ls) := by rw [← hr]; rfl
    have ev : vs kd lt (i + 1) = vs kd lt i ++ (st.map Prod.fst).take 1 := by
      show vs kd lt i ++ ((W27.run kd lt i).1.map Prod.fst).take 1 = _
      rw [hr]
    cases st with
    | nil => exact absurd rfl ne
    | cons p st =>
      obtain ⟨r, u⟩ := p
      rw [es, ev]
      exact ri_step K ih
/-- the stack's machine ends, and what it wrote is a tree -/
theorem grow_ok {kd : Nat → List Nat} {lt : Nat → Nat} {N : Nat} (K : KdOk kd N) (N60 : N ≤ 60) (hl : ∀ r, r < N → Lw (lt r)) : ∃ (m : Nat) (us : List Int) (ls : List Nat), 1 ≤ m ∧ m ≤ N ∧ us.length = m ∧ ls.length = m ∧ GrOk us ∧ (∀ c ∈ ls, Lw c) ∧
    (∀ i, i ≤ m → W27.run kd lt i = ((W27.run kd lt i).1, us.take i, ls.take i)) ∧ (∀ i, i < m → (W27.run kd lt i).1 ≠ []) ∧ (W27.run kd lt m).1 = [] ∧ (∀ i, i ≤ m → (W27.run kd lt i).1.length ≤ 60) ∧ (∀ i, i ≤ m → ∀ p ∈ (W27.run kd lt i).1, p.1 < N) := by
  have some : ∃ j, j ≤ N ∧ (W27.run kd lt j).1 = [] := by
    by_cases q : ∃ j, j ≤ N ∧ (W27.run kd lt j).1 = []
    · exact q
    · have I := ri_run (lt := lt) K N fun j hj e => q ⟨j, by omega, e⟩
      have := nd_le N _ I.nd I.blw
      rw [List.length_append, I.vl, List.length_map] at this
      exact ⟨N, Nat.le_refl _, List.eq_nil_of_length_eq_zero (by omega)⟩
  obtain ⟨j, jN, ej⟩ := some
  obtain ⟨m, mj, em, le⟩ := least (p := fun n => (W27.run kd lt n).1 = []) (fun n => inferInstance) j ej
  have II := fun i (hi : i ≤ m) => ri_run (lt := lt) K i fun k hk => le k (by omega)
  have m1 : 1 ≤ m := by
    rcases Nat.eq_zero_or_pos m with z | z
    · subst z; cases em
    · exact z
  have Im := II m (Nat.le_refl _)
  have pre : ∀ d i, i + d = m → (W27.run kd lt i).2.1 = (W27.run kd lt m).2.1.take i ∧ (W27.run kd lt i).2.2 = (W27.run kd lt m).2.2.take i := fun d => by
    induction d with
    | zero =>
      intro i hi
      have : i = m := by omega
      subst this
      exact ⟨(List.take_of_length_le (by rw [Im.ul]; exact Nat.le_refl _)).symm, (List.take_of_length_le (by rw [Im.ll]; exact Nat.le_refl _)).symm⟩
    | succ d ih =>
      intro i hi
      obtain ⟨a, b⟩ := ih (i + 1) (by omega)
      have I := II i (by omega)
      have ne := le i (by omega)
      rcases hr : W27.run kd lt i with ⟨st, us, ls⟩
      rw [hr] at I ne
      have es : W27.run kd lt (i + 1) = W27.step kd lt (st, us, ls) := by rw [← hr]; rfl
      cases st with
      | nil => exact absurd rfl ne
      | cons p st =>
        obtain ⟨r, u⟩ := p
        rw [es] at a b
        have a' : us ++ [u] = (W27.run kd lt m).2.1.take (i + 1) := a
        have b' : ls ++ [lt r] = (W27.run kd lt m).2.2.take (i + 1) := b
        have ul : us.length = i := I.ul
        have ll : ls.length = i := I.ll
        constructor
        · show us = _
          have := congrArg (List.take i) a'
          rw [List.take_left' ul, List.take_take, Nat.min_eq_left (by omega)] at this
          exact this
        · show ls = _
          have := congrArg (List.take i) b'
          rw [List.take_left' ll, List.take_take, Nat.min_eq_left (by omega)] at this
          exact this
  have cap : ∀ i, i ≤ m → (W27.run kd lt i).1.length ≤ N := fun i hi => by
    have I := II i hi
    have := nd_le N _ I.nd I.blw
    rw [List.length_append, List.length_map] at this
    omega
  refine ⟨m, (W27.run kd lt m).2.1, (W27.run kd lt m).2.2, m1, by omega, Im.ul, Im.ll, ?_, fun c hc => ?_, fun i hi => ?_, fun i hi => le i hi, em, fun i hi => Nat.le_trans (cap i hi) N60, fun i hi p hp => ?_⟩
  · rcases Im.gr with ⟨z, _⟩ | ⟨_, g, _⟩
    · omega
    · exact g
  · obtain ⟨r, hr, rfl⟩ := Im.lets c hc
    exact hl r hr
  · obtain ⟨a, b⟩ := pre (m - i) i (by omega)
    exact Prod.ext rfl (Prod.ext a b)
  · exact (II i hi).blw p.1 (List.mem_append_right _ (List.mem_map.mpr ⟨p, hp, rfl⟩))
end S30


set_option Elab.async false
set_option linter.all false
set_option maxRecDepth 100000
set_option maxHeartbeats 8000000
namespace S30
open PySem L2 W7
section
variable {P : Program} {w : World} {K : PySem.W.Frag} {mg : Str → Option Value} {base : Heap} {k : Nat}
/-- tuples of numbers -/
def TpAt (H : Hp) (cs : List Addr) (f : Nat → List Nat) : Prop := ∀ (i : Nat) (c : Addr), cs[i]? = some c → H c = some (.tup (natV (f i)))
theorem TpAt.same {H H' : Hp} {cs : List Addr} {f : Nat → List Nat} (h : TpAt H cs f) (s : ∀ b xs, H b = some (.tup xs) → H' b = some (.tup xs)) : TpAt H' cs f := fun i c e => s _ _ (h i c e)
theorem TpAt.snoc {H : Hp} {cs : List Addr} {f : Nat → List Nat} {e : Addr} (h : TpAt H cs f) (he : H e = some (.tup (natV (f cs.length)))) : TpAt H (cs ++ [e]) f := fun i c hc => by
  rcases Nat.lt_or_ge i cs.length with z | z
  · rw [List.getElem?_append_left z] at hc; exact h i c hc
  · rw [List.getElem?_append_right z] at hc
    have q0 : i - cs.length = 0 := by
      rcases Nat.eq_zero_or_pos (i - cs.length) with y | y
      · exact y
      · rw [List.getElem?_eq_none (by simp; omega)] at hc; cases hc
    rw [q0] at hc
    have ee : e = c := by simpa using hc
    subst ee
    have : i = cs.length := by omega
    rw [this]; exact he
def grN (g : Nat × Nat) : List Nat := (List.range (g.2 - g.1)).map fun i => g.1 + i
theorem rng_gr (g : Nat × Nat) : rngV ((g.1 : Nat) : Int) (((g.2 : Nat) : Int) - ((g.1 : Nat) : Int)).toNat = natV (grN g) := by
  unfold natV grN rngV
  rw [List.map_map, show (((g.2 : Nat) : Int) - ((g.1 : Nat) : Int)).toNat = g.2 - g.1 by omega]
  refine List.map_congr_left fun i _ => ?_
  show V.int _ = V.int _
  congr 1
theorem kids_in {gs : List (Nat × Nat)} {so : List Nat} {r : Nat} (h : r ∈ so) : kids gs so r = grN (gs.getD (so.idxOf r) (0, 0)) := by unfold kids grN; rw [if_pos h]
theorem kids_out {gs : List (Nat × Nat)} {so : List Nat} {r : Nat} (h : r ∉ so) : kids gs so r = [] := by unfold kids; rw [if_neg h]

theorem grN_mem {g : Nat × Nat} {y : Nat} : y ∈ grN g ↔ g.1 ≤ y ∧ y < g.2 := by
  unfold grN
  rw [List.mem_map]
  constructor
  · rintro ⟨i, hi, rfl⟩
    have := List.mem_range.mp hi; omega
  · rintro ⟨a, b⟩
    exact ⟨y - g.1, List.mem_range.mpr (by omega), by omega⟩
theorem kids_ok {last : Nat → Bool} {n first : Nat} {gs : List (Nat × Nat)} {so : List Nat} (I : W29.GI last n gs first) (n1 : 1 ≤ n) (sl : so.length = gs.length) (nd : so.Nodup) : KdOk (kids gs so) n := by
  have key : ∀ r y, y ∈ kids gs so r → r ∈ so ∧ ∃ h : so.idxOf r < gs.length, (gs[so.idxOf r]).1 ≤ y ∧ y < (gs[so.idxOf r]).2 := fun r y hy => by
    by_cases hm : r ∈ so
    · rw [kids_in hm] at hy
      have jl : so.idxOf r < gs.length := by rw [← sl]; exact List.idxOf_lt_length_of_mem hm
      rw [List.getD_eq_getElem?_getD, List.getElem?_eq_getElem jl] at hy
      exact ⟨hm, jl, grN_mem.mp hy⟩
    · rw [kids_out hm] at hy; cases hy
  refine ⟨n1, fun r y hy => ?_, fun r => ?_, fun r r' y hy hy' => ?_⟩
  · obtain ⟨_, jl, a, b⟩ := key r y hy
    obtain ⟨g1, g2, g3, _⟩ := I.mem _ (List.getElem_mem jl)
    have := I.f2
    rcases I.f2 with z | z <;> omega
  · by_cases hm : r ∈ so
    · rw [kids_in hm]
      unfold grN
      exact List.Pairwise.map _ (fun a b ab e => ab (by omega)) List.nodup_range
    · rw [kids_out hm]; exact List.nodup_nil
  · obtain ⟨m1, j1, a1, b1⟩ := key r y hy
    obtain ⟨m2, j2, a2, b2⟩ := key r' y hy'
    have pw := List.pairwise_iff_getElem.mp I.pw
    have e : so.idxOf r = so.idxOf r' := by
      rcases Nat.lt_trichotomy (so.idxOf r) (so.idxOf r') with z | z | z
      · have := pw _ _ j1 j2 z; omega
      · exact z
      · have := pw _ _ j2 j1 z; omega
    have x1 := List.getElem_idxOf (List.idxOf_lt_length_of_mem m1)
    have x2 := List.getElem_idxOf (List.idxOf_lt_length_of_mem m2)
    rw [← x1, ← x2]
    congr 1
/-- what the tree of these rows is -/
def ByRows (txt : Str) (ls lv : List Bool) (ups : List Int) (lab : Str) : Prop := ∃ so m, so.Perm (ff lv lv.length) ∧ so.Pairwise (bef txt) ∧ m ≤ lv.length ∧ W27.run (kids (grpL ls) so) (fun r => txt.cps.toList.getD r 0) m = ([], ups, lab.cps.toList)
theorem RO.by {ups ups' : List Int} {lab lab' txt : Str} {ks : List Nat} {ls lv : List Bool} (R : RO ups lab ks txt ls lv) (h : ByRows txt ls lv ups' lab') : ups' = ups ∧ lab' = lab := by
  obtain ⟨so, m, sop, spw, ml, run⟩ := h
  rw [R.vl] at ml
  have r1 := R.run sop spw m ml
  rw [run] at r1
  have em : m = ups.length := by
    rcases Nat.eq_or_lt_of_le ml with z | z
    · exact z
    · obtain ⟨F, e, _⟩ := W27.fr_step (tr_of R.ok R.fine) z
      have := congrArg Prod.fst r1
      rw [e] at this
      cases this
  subst em
  have q1 := congrArg (fun z => z.2.1) r1
  have q2 := congrArg (fun z => z.2.2) r1
  simp only [List.take_length] at q1 q2
  rw [List.take_of_length_le (by have := R.ok.len; omega)] at q2
  exact ⟨q1, str_ext q2⟩
/-! ### tree_by -/
def sp_by : Sp := fun vs H Q _ => ∃ (r : Addr) (txt : Str) (ls lv : List Bool) (n : Nat), vs = [.ref r] ∧ RwAt H r txt ls lv ∧ txt.length = n ∧ ls.length = n ∧ lv.length = n ∧ 1 ≤ n ∧ n ≤ 60 ∧ (∀ c ∈ txt.cps.toList, Lw c) ∧ (grpL ls).length = lv.count false ∧ ∀ (t : Addr) (ups : List Int) (lab : Str) (H' : Hp), Same H H' → TreeAt H' t ups lab → Fine ups lab → ByRows txt ls lv ups lab → Q (.ref t) H'
theorem has_by (D : Df K mg "tree_by" s_tree_by) (B : Blt7 mg) (G_groups_of : Has P w K mg base "groups_of" k ["rows"] sp_groups) (G_group_numbers : Has P w K mg base "group_numbers" k ["rows"] sp_gnums) (G_grown_tree : Has P w K mg base "grown_tree" k ["knots", "start"] sp_grow) : Has P w K mg base "tree_by" (k + 1) ["rows"] sp_by := by
  refine D.has sc_tree_by (fun _ _ _ _ _ _ us hl => match us, hl with | [_], _ => rfl) (fun vs H Q E h => by obtain ⟨r, txt, ls, lv, n, rfl, _⟩ := h; rfl) (fun f cdv A outer s H vs Q E hr h => ?_)
  obtain ⟨r, txt, ls, lv, n, rfl, ⟨a, b, hr0, ha, hb⟩, tl', sl, vl, lpos, m60, low, form, q⟩ := h
  refine ⟨_, (pss_cons (ps_set (i := 1) sc_tree_by.nd rfl (by first | exact Or.inl rfl | exact Or.inr rfl) (pe_comp rfl (pi_list (pe_callH G_groups_of hr rfl (pa_cons (pv 0) pa_nil))) (NL := ["group"]) (ix := []) (csc (defScope s_tree_by) N_tree_by) (fun cl C s₃ H₃ fp pins => ⟨(pg_name (i := 0) (show List.Nodup (["group"] : List Str) from by decide +kernel) rfl (by first | exact Or.inl rfl | exact Or.inr rfl)), pifs_nil, (pe_callTy (call_tuple_rng rfl) rfl B.tuple_ bt_tuple (pa_cons (pe_rng2 rfl B.range (pa_cons (pe_ix (ix_tupK K) (pv 0) pe_int (fun _ _ => rfl)) (pa_cons (pe_ix (ix_tupK K) (pv 0) pe_int (fun _ _ => rfl)) pa_nil))) pa_nil))⟩)))
  (pss_cons (ps_comp (i := 2) sc_tree_by.nd rfl (by first | exact Or.inl rfl | exact Or.inr rfl) rfl (pi_list (pe_callH G_group_numbers hr rfl (pa_cons (pv 0) pa_nil))) (NL := ["number"]) (ix := [1]) (csc (defScope s_tree_by) N_tree_by) (fun cl C s₃ H₃ fp pins => ⟨(pg_name (i := 0) (show List.Nodup (["number", "groups"] : List Str) from by decide +kernel) rfl (by first | exact Or.inl rfl | exact Or.inr rfl)), pifs_nil, (pe_ifExp (pt_cmpR op_isN (pv 0) pe_non (nomark _)) (pe_tup pa_nil) (pe_ix (ix_listK K) (pv 1) (pv 0) (fun _ _ => rfl)))⟩))
  (pss_one (ps_ret (pe_callH G_grown_tree hr rfl (pa_cons (pe_listZ rfl rfl B.list_ rfl B.zip (pa_cons (pe_ix ix_tup (pv 0) pe_int (fun _ _ => rfl)) (pa_cons (pv 2) pa_nil))) (pa_cons pe_int pa_nil))))))), ?_⟩
  have tl : txt.cps.toList.length = n := by rw [← tl']; simp [Str.length]
  have GI := W29.grp_ok (fun i => ls.getD i false) ls.length
  have fl := count_ff lv lv.length (Nat.le_refl _)
  rw [List.take_length] at fl
  -- groups
  refine ⟨_, rfl, r, a, b, txt, ls, rfl, hr0, ha, by omega, fun as rg H1 s1 hf1 hrg pa => ?_⟩
  have hgl : (grpL ls).length ≤ 60 := by
    have := (W29.grp_ok (fun i => ls.getD i false) ls.length).len
    show (W29.grp (fun i => ls.getD i false) ls.length).1.length ≤ 60
    omega
  have hgm : ∀ g ∈ grpL ls, g.1 < g.2 ∧ g.2 ≤ 60 := fun g hg => by
    have I := W29.grp_ok (fun i => ls.getD i false) ls.length
    obtain ⟨g1, g2, g3, _⟩ := I.mem g hg
    have := I.f2
    rcases I.f2 with z | z <;> omega
  have hby : ∀ ups lab, ByRows txt ls lv ups lab ↔ ∃ so m, so.Perm (ff lv lv.length) ∧ so.Pairwise (bef txt) ∧ m ≤ lv.length ∧ W27.run (kids (grpL ls) so) (fun r => txt.cps.toList.getD r 0) m = ([], ups, lab.cps.toList) := fun _ _ => Iff.rfl
  have GI' : W29.GI (fun i => ls.getD i false) ls.length (grpL ls) _ := GI
  clear GI
  have pa' : PairsAt H1 as (grpL ls) := pa
  clear pa
  generalize grpL ls = gs at pa' hgl hgm hby GI' form
  refine ⟨rg, rfl, ⟨_, SqL.of hrg⟩, fun acc hacc => ?_⟩
  have al : as.length = gs.length := pa'.1
  refine comp_lst (xs := as.map V.ref) (by rw [List.length_map]; omega) (fun i ys HX => HX acc = some (.lst ys) ∧ Same H1 HX ∧ ∃ cs : List Addr, ys = cs.map V.ref ∧ cs.length = i ∧ TpAt HX cs fun j => grN (gs.getD j (0, 0)))
    (fun i ys HX h => SqL.of (h.2.1 _ _ hrg)) (fun i ys HX h => ⟨h.1, by obtain ⟨cs, e, l, _⟩ := h.2.2; rw [e, List.length_map, l]; exact Nat.le_refl _⟩) ⟨upd_same, (Same.refl H1).new hacc, [], rfl, rfl, fun i c e => by simp at e⟩ ?_ ?_
  rotate_left
  · rintro i x ys HX hx ⟨g1, g2, cs, rfl, cl, tp⟩
    rw [List.getElem?_map] at hx
    cases ex : as[i]? with
    | none => rw [ex] at hx; cases hx
    | some ai =>
      rw [ex] at hx
      cases hx
      have il : i < gs.length := by have := (List.getElem?_eq_some_iff.mp ex).1; omega
      have eg : gs[i]? = some (gs.getD i (0, 0)) := by rw [List.getD_eq_getElem?_getD, List.getElem?_eq_getElem il]; rfl
      have hai := g2 _ _ (pa'.2 i ai _ ex eg)
      obtain ⟨b1, b2⟩ := hgm (gs.getD i (0, 0)) (List.mem_of_getElem? eg)
      refine ⟨rfl, ?_⟩
      refine ⟨_, rfl, ai, _, _, _, rfl, rfl, SqT.of hai, rfl, _, rfl, ai, _, _, _, rfl, rfl, SqT.of hai, rfl, _, _, rfl, fun rr hrr => ?_⟩
      have s3 : Same HX (upd HX rr (.rng (((gs.getD i (0, 0)).1 : Nat) : Int) (((gs.getD i (0, 0)).2 : Nat) : Int))) := (Same.refl HX).new hrr
      have h3 : upd HX rr (.rng (((gs.getD i (0, 0)).1 : Nat) : Int) (((gs.getD i (0, 0)).2 : Nat) : Int)) rr = some (.rng (((gs.getD i (0, 0)).1 : Nat) : Int) (((gs.getD i (0, 0)).2 : Nat) : Int)) := upd_same
      show ∃ r lo hi, _
      generalize upd HX rr (.rng (((gs.getD i (0, 0)).1 : Nat) : Int) (((gs.getD i (0, 0)).2 : Nat) : Int)) = HY at s3 h3
      refine ⟨rr, _, _, rfl, h3, ⟨by omega, by omega, by omega, by omega⟩, by omega, fun l hl => ?_⟩
      rw [rng_gr]
      have g1' := s3 _ _ g1
      have ne : acc ≠ l := ne_of_none g1' hl
      refine ⟨by rw [upd_ne ne]; exact g1', upd_same, ((g2.trans s3).new hl).write hacc, cs ++ [l], by rw [List.map_append]; rfl, by simp [cl], ?_⟩
      refine TpAt.snoc (tp.same fun b xs e => ?_) ?_
      · have e' := s3 _ _ e
        rw [upd_ne (ne_of e' g1' (by intro z; cases z)), upd_ne (ne_of_none e' hl)]; exact e'
      · rw [cl, upd_ne (Ne.symm ne)]; exact upd_same
  rintro ys H2 ⟨g1, s2, cs, rfl, cl, tp⟩
  rw [List.length_map, al] at cl
  have s02 := s1.trans s2
  -- beneath
  refine ⟨_, rfl, r, a, b, txt, lv, rfl, s02 _ _ hr0, s02 _ _ hb, by omega, by omega, fun so rn H3 sop spw s3 hf3 hrn => ?_⟩
  have sol : so.length = gs.length := by rw [sop.length_eq, form, fl]
  have KO : KdOk (kids gs so) n := kids_ok GI' (by omega) sol (sop.nodup_iff.mpr (ff_nodup _ _)) |> fun h => by rw [sl] at h; exact h
  obtain ⟨m, us, lb, m1, mN, usl, lbl, gr, lwl, run, rne, rnil, rlen, rrow⟩ := grow_ok (lt := fun r => txt.cps.toList.getD r 0) KO m60 (fun r hr => by
    show Lw (txt.cps.toList.getD r 0)
    rw [List.getD_eq_getElem?_getD, List.getElem?_eq_getElem (by omega)]
    exact low _ (List.getElem_mem _))
  have kdl : ∀ r, (kids gs so r).length ≤ 60 := fun r => Nat.le_trans (nd_le n _ (KO.nd r) fun y hy => (KO.low r y hy).2) m60
  rw [vl] at hrn
  have g3 := s3 _ _ g1
  have tp3 := tp.same fun b xs e => s3 _ _ e
  refine ⟨rn, rfl, ⟨_, SqL.of hrn⟩, fun ac2 hac2 => ?_⟩
  refine comp_lst (xs := (List.range n).map (numV so)) (by rw [List.length_map, List.length_range]; omega) (fun i ys HX => HX ac2 = some (.lst ys) ∧ Same H3 HX ∧ ∃ bs : List Addr, ys = bs.map V.ref ∧ bs.length = i ∧ TpAt HX bs (kids gs so))
    (fun i ys HX h => SqL.of (h.2.1 _ _ hrn)) (fun i ys HX h => ⟨h.1, by obtain ⟨cs, e, l, _⟩ := h.2.2; rw [e, List.length_map, l]; exact Nat.le_refl _⟩) ⟨upd_same, (Same.refl H3).new hac2, [], rfl, rfl, fun i c e => by simp at e⟩ ?_ ?_
  rotate_left
  · rintro i x ys HX hx ⟨k1, k2, bs, rfl, bl, tb⟩
    have il : i < n := by have := (List.getElem?_eq_some_iff.mp hx).1; simpa using this
    rw [List.getElem?_map, List.getElem?_range il] at hx
    have ex : x = numV so i := (Option.some.inj hx).symm
    refine ⟨rfl, ?_⟩
    by_cases hm : i ∈ so
    · have jl : so.idxOf i < so.length := List.idxOf_lt_length_of_mem hm
      have en : x = V.int ((so.idxOf i : Nat) : Int) := by rw [ex]; unfold numV; rw [if_pos hm]
      subst en
      have hc : cs[so.idxOf i]? = some (cs[so.idxOf i]'(by omega)) := List.getElem?_eq_getElem (by omega)
      generalize cs[so.idxOf i]'(by omega) = c at hc
      have hcat := k2 _ _ (tp3 _ _ hc)
      refine ⟨_, rfl, rfl, _, rfl, ite2 (fun z => by simp at z) (fun _ => ?_)⟩
      refine ⟨_, rfl, _, rfl, acc, _, _, _, rfl, rfl, SqL.of (k2 _ _ g3), atI_nat (j := so.idxOf i) (by rw [List.getElem?_map, hc]; rfl), ?_⟩
      refine ⟨k1, upd_same, k2.write hac2, bs ++ [c], by rw [List.map_append]; rfl, by simp [bl], ?_⟩
      have keep : ∀ b xs, HX b = some (.tup xs) → upd HX ac2 (.lst (bs.map V.ref ++ [.ref c])) b = some (.tup xs) := fun b xs e => by
        rw [upd_ne (ne_of e k1 (by intro z; cases z))]; exact e
      refine TpAt.snoc (tb.same keep) (keep _ _ ?_)
      rw [bl, kids_in hm]; exact hcat
    · have en : x = V.non := by rw [ex]; unfold numV; rw [if_neg hm]
      subst en
      refine ⟨_, rfl, rfl, _, rfl, ite2 (fun _ => ?_) (fun z => absurd rfl z)⟩
      refine ⟨Nat.zero_le _, fun e he => ?_⟩
      have ne : ac2 ≠ e := ne_of_none k1 he
      refine ⟨by rw [upd_ne ne]; exact k1, upd_same, (k2.new he).write hac2, bs ++ [e], by rw [List.map_append]; rfl, by simp [bl], ?_⟩
      refine TpAt.snoc (tb.same fun b xs eb => ?_) ?_
      · rw [upd_ne (ne_of eb k1 (by intro z; cases z)), upd_ne (ne_of_none eb he)]; exact eb
      · rw [bl, kids_out hm, upd_ne (Ne.symm ne)]; exact upd_same
  rintro ys H4 ⟨k1, s4, bs, rfl, bl, tb⟩
  rw [List.length_map, List.length_range] at bl
  have s04 := (s02.trans s3).trans s4
  -- list(zip)
  have sg : (signs txt).length = n := by simp only [signs, List.length_map]; exact tl
  refine ⟨_, rfl, r, _, _, _, rfl, rfl, SqT.of (s04 _ _ hr0), rfl, _, rfl, .str txt, .lst ac2, signs txt, bs.map V.ref, rfl, rfl, .inl k1, by rw [sg, List.length_map, bl], by omega, fun zs H5 l nt zl hl4 hl5 => ?_⟩
  have s5 := nt.same
  have s6 : Same H5 (upd H5 l (.lst (zs.map V.ref))) := (Same.refl H5).new hl5
  have h6 : upd H5 l (.lst (zs.map V.ref)) l = some (.lst (zs.map V.ref)) := upd_same
  generalize upd H5 l (.lst (zs.map V.ref)) = H6 at s6 h6
  refine ⟨l, n, m, kids gs so, (fun r => txt.cps.toList.getD r 0), us, lb, (fun i => (W27.run (kids gs so) (fun r => txt.cps.toList.getD r 0) i).1), rfl, ⟨zs, h6, by rw [zl, sg], fun i z hz => ?_⟩, usl, lbl, m1, by omega, run, rne, rnil, rlen, rrow, fun r _ => kdl r, fun t u H7 s7 ht hu => ?_⟩
  · obtain ⟨_, x, y, hx, hy, hz2⟩ := nt.2.2 i z hz
    have il : i < n := by have := (List.getElem?_eq_some_iff.mp hx).1; omega
    have hcx : txt.cps.toList[i]? = some (txt.cps.toList.getD i 0) := by rw [List.getD_eq_getElem?_getD, List.getElem?_eq_getElem (by omega)]; rfl
    unfold signs at hx
    rw [List.getElem?_map, hcx] at hx
    have ex : V.str ⟨#[txt.cps.toList.getD i 0]⟩ = x := Option.some.inj hx
    rw [List.getElem?_map] at hy
    cases eb : bs[i]? with
    | none => rw [eb] at hy; cases hy
    | some c =>
      rw [eb] at hy
      cases hy
      rw [← ex] at hz2
      exact ⟨c, s6 _ _ hz2, s6 _ _ (s5 _ _ (tb i c eb))⟩
  · have rm := run m (Nat.le_refl _)
    rw [rnil, List.take_of_length_le (by omega), List.take_of_length_le (by omega)] at rm
    exact q t us (mk lb) H7 (((s04.trans s5).trans s6).trans s7) ⟨u, ht, hu, gr_tree gr (by omega) (by omega)⟩ ⟨lwl, gr.road⟩ ((hby us (mk lb)).mpr ⟨so, m, sop, spw, by omega, rm⟩)
/-! ### is_rows, tree_of -/
theorem RwAt.kt {lms : List Lm} {H H' : Hp} {r : Addr} {txt : Str} {ls lv : List Bool} (h : RwAt H r txt ls lv) (s : Kt lms H H') : RwAt H' r txt ls lv := by
  obtain ⟨a, b, h1, h2, h3⟩ := h
  exact ⟨a, b, s.tup h1, s.tup h2, s.tup h3⟩
theorem TreeAt.kt {lms : List Lm} {H H' : Hp} {t : Addr} {ups : List Int} {lab : Str} (h : TreeAt H t ups lab) (s : Kt lms H H') : TreeAt H' t ups lab := by
  obtain ⟨u, a, b, c⟩ := h
  exact ⟨u, s.tup a, s.tup b, c⟩
theorem eqV_str (a b : Str) : eqV (.str a) (.str b) = decide (a = b) := by
  rw [Bool.eq_iff_iff]; simp [eqV]
def IsRows (txt : Str) (ls lv : List Bool) : Prop := ∃ ups lab ks, RO ups lab ks txt ls lv
def sp_isrows (lms : List Lm) : Sp := fun vs H Q _ => ∃ (r : Addr) (txt : Str) (ls lv : List Bool) (n : Nat), vs = [.ref r] ∧ RwAt H r txt ls lv ∧ txt.length = n ∧ ls.length = n ∧ lv.length = n ∧ 1 ≤ n ∧ n ≤ 60 ∧ (∀ c ∈ txt.cps.toList, Lw c) ∧ Lams lms H ∧ ∀ (b : Bool) (H' : Hp), (b = true ↔ IsRows txt ls lv) → Kt lms H H' → Q (.bl b) H'
theorem has_isrows {lms : List Lm} (D : Df K mg "is_rows" s_is_rows) (B : Blt7 mg) (G_has_form : Has P w K mg base "has_form" k ["thing"] sp_form) (G_rows_of : Has P w K mg base "rows_of" k ["tree"] (sp_rows lms)) (G_tree_by : Has P w K mg base "tree_by" k ["rows"] sp_by) : Has P w K mg base "is_rows" (k + 1) ["thing"] (sp_isrows lms) := by
  refine D.has sc_is_rows (fun _ _ _ _ _ _ us hl => match us, hl with | [_], _ => rfl) (fun vs H Q E h => by obtain ⟨r, txt, ls, lv, n, rfl, _⟩ := h; rfl) (fun f cdv A outer s H vs Q E hr h => ?_)
  obtain ⟨r, txt, ls, lv, n, rfl, rw0, tl', sl, vl, lpos, m60, low, L, q⟩ := h
  refine ⟨_, (pss_one (ps_ret (pe_and (pe_callH G_has_form hr rfl (pa_cons (pv 0) pa_nil)) (pe_one (pe_cmpR (op_eq_nest K hr) (pe_callH G_rows_of hr rfl (pa_cons (pe_callH G_tree_by hr rfl (pa_cons (pv 0) pa_nil)) pa_nil)) (pv 0) (nomark _)))))), ?_⟩
  refine ⟨_, rfl, r, txt, ls, lv, rfl, rw0, by omega, by omega, by omega, by omega, low, fun H1 s1 => ⟨_, rfl, ite2 (fun cf => ?_) (fun cf => ?_)⟩⟩
  rotate_left
  · have nf : (grpL ls).length ≠ lv.count false := of_decide_eq_false (Bool.eq_false_iff.mpr cf)
    have := q false H1 ⟨(fun z => by cases z), fun ⟨ups, lab, ks, R⟩ => absurd R.gl nf⟩ (Kt.of s1 L)
    exact this
  have form : (grpL ls).length = lv.count false := of_decide_eq_true cf
  have rw1 := rw0.same s1
  refine ⟨_, rfl, r, txt, ls, lv, n, rfl, rw1, tl', sl, vl, lpos, m60, low, form, fun t ups lab H2 s2 tr fine byr => ⟨t, ups, lab, rfl, tr, (L.same s1).same s2, fun ks r' a' b' H3 ko k3 hf3 hr3 ha3 hb3 => ?_⟩⟩
  obtain ⟨_, _, _, ok⟩ := id tr
  have R0 : RO ups lab ks (rowsText lab ks) ((keptN ks).map (lastB ups)) ((keptN ks).map fun j : Nat => leafB ups (j : Int)) := ⟨ok, fine, ko, rfl, rfl, rfl⟩
  have rw3 := (rw1.same s2).kt k3
  obtain ⟨a, b, hr4, ha4, hb4⟩ := id rw3
  have ne : r' ≠ r := fun z => by
    subst z
    obtain ⟨_, _, z, _⟩ := rw1.same s2
    rw [hf3] at z; cases z
  have ha3' : H3 a' = some (.tup (((keptN ks).map (lastB ups)).map V.bl)) := by rw [ha3, List.map_map]; rfl
  have hb3' : H3 b' = some (.tup (((keptN ks).map fun j : Nat => leafB ups (j : Int)).map V.bl)) := by rw [hb3, List.map_map]; rfl
  have key : (eqV (.str (rowsText lab ks)) (.str txt) && (eqVs (((keptN ks).map (lastB ups)).map V.bl) (ls.map V.bl) && (eqVs (((keptN ks).map fun j : Nat => leafB ups (j : Int)).map V.bl) (lv.map V.bl) && true))) = true ↔ IsRows txt ls lv := by
    rw [eqV_str, eqVs_bools, eqVs_bools]
    simp only [Bool.and_eq_true, decide_eq_true_eq, and_true]
    constructor
    · rintro ⟨e1, e2, e3⟩
      rw [e1, e2, e3] at R0
      exact ⟨ups, lab, ks, R0⟩
    · rintro ⟨ups', lab', ks', R'⟩
      obtain ⟨e1, e2⟩ := R'.by byr
      subst e1 e2
      exact R0.same R'
  generalize (keptN ks).map (lastB ups) = l1 at ha3' key
  generalize ((keptN ks).map fun j : Nat => leafB ups (j : Int)) = v1 at hb3' key
  refine ⟨_, rfl, r', r, _, _, (fun i => [eqV (.str (rowsText lab ks)) (.str txt), eqVs (l1.map V.bl) (ls.map V.bl), eqVs (v1.map V.bl) (lv.map V.bl)].getD i true), rfl, rfl, ne, SqT.of hr3, SqT.of hr4, rfl, fun i x y hx hy => ?_, ?_⟩
  · match i, hx, hy with
    | 0, hx, hy =>
      cases hx; cases hy
      exact .inl ⟨rfl, rfl, rfl⟩
    | 1, hx, hy =>
      cases hx; cases hy
      exact .inr ⟨a', a, _, _, rfl, rfl, SqT.of ha3', SqT.of ha4, flat_bools _, flat_bools _, rfl⟩
    | 2, hx, hy =>
      cases hx; cases hy
      exact .inr ⟨b', b, _, _, rfl, rfl, SqT.of hb3', SqT.of hb4, flat_bools _, flat_bools _, rfl⟩
    | n + 3, hx, hy => cases hx
  · exact q _ H3 key ((Kt.of (s1.trans s2) L).trans k3)
def sp_treeof (lms : List Lm) : Sp := fun vs H Q _ => ∃ (r : Addr) (ups : List Int) (lab : Str) (ks : List Nat) (txt : Str) (ls lv : List Bool), vs = [.ref r] ∧ RwAt H r txt ls lv ∧ RO ups lab ks txt ls lv ∧ Lams lms H ∧ ∀ (t : Addr) (H' : Hp), Kt lms H H' → TreeAt H' t ups lab → Q (.ref t) H'
theorem has_treeof {lms : List Lm} (D : Df K mg "tree_of" s_tree_of) (B : Blt7 mg) (G_is_rows : Has P w K mg base "is_rows" k ["thing"] (sp_isrows lms)) (G_tree_by : Has P w K mg base "tree_by" k ["rows"] sp_by) : Has P w K mg base "tree_of" (k + 1) ["rows"] (sp_treeof lms) := by
  refine D.has sc_tree_of (fun _ _ _ _ _ _ us hl => match us, hl with | [_], _ => rfl) (fun vs H Q E h => by obtain ⟨r, ups, lab, ks, txt, ls, lv, rfl, _⟩ := h; rfl) (fun f cdv A outer s H vs Q E hr h => ?_)
  obtain ⟨r, ups, lab, ks, txt, ls, lv, rfl, rw0, R, L, q⟩ := h
  refine ⟨_, (pss_cons (ps_if (pt_not (pt_val (pe_callH G_is_rows hr rfl (pa_cons (pv 0) pa_nil))))
  (pss_one ps_raise0)
  pss_nil)
  (pss_one (ps_ret (pe_callH G_tree_by hr rfl (pa_cons (pv 0) pa_nil))))), ?_⟩
  have m60 := R.ok.most
  have lpos := R.ok.pos
  refine ⟨_, rfl, r, txt, ls, lv, ups.length, rfl, rw0, R.tl', R.sl, R.vl, lpos, m60, R.low, L, fun b H1 hb k1 => ?_⟩
  have hb' : b = true := hb.mpr ⟨ups, lab, ks, R⟩
  subst hb'
  refine ⟨_, rfl, iteF ?_⟩
  refine ⟨_, rfl, r, txt, ls, lv, ups.length, rfl, rw0.kt k1, R.tl', R.sl, R.vl, lpos, m60, R.low, R.gl, fun t us lb H2 s2 tr fine byr => ?_⟩
  obtain ⟨e1, e2⟩ := R.by byr
  subst e1 e2
  exact q t H2 (k1.same s2) tr
end
end S30


set_option Elab.async false
set_option linter.all false
set_option maxRecDepth 100000
set_option maxHeartbeats 8000000
namespace S30
open PySem L2 W7
theorem iteN {c : Bool} {A B : Prop} (h : c = false) (q : B) : if c = true then A else B := by rw [h]; exact iteF q
theorem climb_app {pre : List Int} (g : GrOk pre) (more : List Int) {p : Int} (h0 : 0 ≤ p) (h1 : p < (pre.length : Int)) : ∀ n, climb (pre ++ more) n p = climb pre n p ∧ 0 ≤ climb pre n p ∧ climb pre n p < (pre.length : Int)
  | 0 => ⟨rfl, h0, h1⟩
  | n + 1 => by
    obtain ⟨a, b, c⟩ := climb_app g more h0 h1 n
    have lt : (climb pre n p).toNat < pre.length := by omega
    have e : (pre ++ more).getD (climb pre n p).toNat 0 = pre.getD (climb pre n p).toNat 0 := by rw [getD_app, if_pos lt]
    refine ⟨?_, ?_⟩
    · show stepUp (pre ++ more) (climb (pre ++ more) n p) = stepUp pre (climb pre n p)
      rw [a]; unfold stepUp; rw [e]
    · exact (g.climb 0 h0 h1 (n + 1)).2
theorem climb_in (us : List Int) : ∀ (n : Nat) (p : Int), climb us n (stepUp us p) = stepUp us (climb us n p)
  | 0, _ => rfl
  | n + 1, p => by show stepUp us (climb us n (stepUp us p)) = _; rw [climb_in us n p]; rfl
theorem chn_climb {ups : List Int} {lab : List Nat} (t : TreeOk ups lab) : ∀ (f j : Nat), j < f → j < ups.length → ∀ v ∈ chn ups j, ∃ n, climb ups n (j : Int) = v
  | 0, j, h, _, _, _ => absurd h (Nat.not_lt_zero _)
  | f + 1, j, h, hj, v, hv => by
    rw [chn_eq t hj] at hv
    split at hv
    · cases hv
    · rename_i h0
      have lt := t.lt hj h0
      have st : stepUp ups (j : Int) = ups.getD j 0 := by unfold stepUp; rw [Int.toNat_natCast]; split <;> omega
      rcases List.mem_cons.mp hv with e | e
      · exact ⟨1, by show stepUp ups (j : Int) = v; rw [st, e]⟩
      · obtain ⟨n, en⟩ := chn_climb t f _ (by omega) (by omega) v e
        refine ⟨n + 1, ?_⟩
        show stepUp ups (climb ups n (j : Int)) = v
        rw [← climb_in, st, ← en]
        congr 1
        omega
theorem gr_lab {us : List Int} (g : GrOk us) (h60 : us.length ≤ 60) : TreeOk us (List.replicate us.length 97) := by
  have := gr_tree (ls := List.replicate us.length 97) g (by rw [List.length_replicate]) h60
  exact this
/-- one place more: it stands beneath the one ahead or one above it -/
theorem gr_next {pre : List Int} {v : Int} (g : GrOk pre) (h60 : pre.length ≤ 60) : (v = (pre.length : Int) - 1 ∨ v ∈ chn pre (pre.length - 1)) ↔ GrOk (pre ++ [v]) := by
  have pos := g.pos
  have t := gr_lab g h60
  constructor
  · rintro (e | e)
    · exact g.snoc (by omega) (by omega) ⟨0, e.symm⟩
    · have m := (chn_mem t (pre.length - 1 + 1) (pre.length - 1) (by omega) (by omega)).2 v e
      obtain ⟨n, en⟩ := chn_climb t (pre.length - 1 + 1) (pre.length - 1) (by omega) (by omega) v e
      exact g.snoc (by omega) (by omega) ⟨n, by rw [← en]; congr 1; omega⟩
  · intro g2
    obtain ⟨n, en⟩ := g2.road pre.length pos (by rw [List.length_append]; show _ < _ + 1; omega)
    rw [(climb_app g [v] (by omega) (by omega) n).1, getD_app, if_neg (by omega), Nat.sub_self] at en
    have en : climb pre n ((pre.length : Int) - 1) = v := en
    rcases road_mem t (k := pre.length - 1) (by omega) n with m | m
    · left
      rw [show (((pre.length - 1 : Nat)) : Int) = (pre.length : Int) - 1 by omega, en] at m
      exact m
    · right
      rw [show (((pre.length - 1 : Nat)) : Int) = (pre.length : Int) - 1 by omega, en] at m
      exact m
theorem gr_pre {pre more : List Int} {v : Int} (g : GrOk pre) (g2 : GrOk (pre ++ v :: more)) : GrOk (pre ++ [v]) := by
  have pos := g.pos
  have lt : pre.length < (pre ++ v :: more).length := by rw [List.length_append, List.length_cons]; omega
  have u := g2.up pre.length pos lt
  obtain ⟨n, en⟩ := g2.road pre.length pos lt
  rw [(climb_app g (v :: more) (by omega) (by omega) n).1, getD_app, if_neg (by omega), Nat.sub_self] at en
  rw [getD_app, if_neg (by omega), Nat.sub_self] at u
  exact g.snoc u.1 u.2 ⟨n, en⟩
/-! ### lists of tuples of ints -/
def Tups (H : Hp) (as : List Addr) (fs : List (List Int)) : Prop := as.length = fs.length ∧ ∀ (i : Nat) (a : Addr) (us : List Int), as[i]? = some a → fs[i]? = some us → H a = some (.tup (us.map V.int))
theorem Tups.tups {H H' : Hp} {as : List Addr} {fs : List (List Int)} (h : Tups H as fs) (t : ∀ a xs, H a = some (.tup xs) → H' a = some (.tup xs)) : Tups H' as fs := ⟨h.1, fun i a us x y => t _ _ (h.2 i a us x y)⟩
theorem Tups.same {H H' : Hp} {as : List Addr} {fs : List (List Int)} (h : Tups H as fs) (s : Same H H') : Tups H' as fs := h.tups fun a xs e => s _ _ e
theorem Tups.nil (H : Hp) : Tups H [] [] := ⟨rfl, fun i a us x => by cases x⟩
theorem Tups.snoc {H : Hp} {as : List Addr} {fs : List (List Int)} {a : Addr} {us : List Int} (h : Tups H as fs) (e : H a = some (.tup (us.map V.int))) : Tups H (as ++ [a]) (fs ++ [us]) := by
  refine ⟨by rw [List.length_append, List.length_append, h.1]; rfl, fun i b m x y => ?_⟩
  rcases Nat.lt_or_ge i as.length with lt | ge
  · rw [List.getElem?_append_left lt] at x
    rw [List.getElem?_append_left (by rw [← h.1]; exact lt)] at y
    exact h.2 i b m x y
  · rw [List.getElem?_append_right ge] at x
    rw [List.getElem?_append_right (by rw [← h.1]; exact ge), ← h.1] at y
    cases z : i - as.length with
    | zero =>
      rw [z] at x y
      cases x; cases y
      exact e
    | succ n => rw [z] at x; cases x
/-! ### the forms -/
def line (us : List Int) : List Int := rst us ((us.length : Int) - 1)
def ext (us : List Int) : List (List Int) := (line us).map fun p => us ++ [p]
def forms : Nat → List (List Int)
  | 0 => [[-1]]
  | n + 1 => (forms n).flatMap ext
theorem line_eq {us : List Int} (h : 0 < us.length) : line us = ((us.length : Int) - 1) :: chn us (us.length - 1) := by
  unfold line rst
  rw [if_neg (by omega), show ((us.length : Int) - 1).toNat = us.length - 1 by omega]
theorem forms_gr : ∀ (n : Nat), n < 60 → ∀ us ∈ forms n, GrOk us ∧ us.length = n + 1
  | 0, _, us, h => by rw [List.mem_singleton.mp h]; exact ⟨GrOk.one, rfl⟩
  | n + 1, hn, us, h => by
    obtain ⟨vs, hv, hx⟩ := List.mem_flatMap.mp h
    obtain ⟨g, l⟩ := forms_gr n (by omega) vs hv
    obtain ⟨p, hp, rfl⟩ := List.mem_map.mp hx
    rw [line_eq g.pos] at hp
    refine ⟨(gr_next g (by omega)).mp ?_, by rw [List.length_append, l]; rfl⟩
    rcases List.mem_cons.mp hp with e | e
    · exact .inl e
    · exact .inr e
theorem gr_take {us : List Int} (g : GrOk us) : ∀ p, p < us.length → GrOk (us.take (p + 1))
  | 0, h => by
    have : us.take (0 + 1) = [-1] := by
      cases us with
      | nil => cases h
      | cons x r => rw [show x = -1 from g.root]; simp
    rw [this]; exact GrOk.one
  | p + 1, h => by
    have ih := gr_take g p (by omega)
    have ex : us = us.take (p + 1) ++ us.getD (p + 1) 0 :: us.drop (p + 1 + 1) := by
      conv => lhs; rw [← List.take_append_drop (p + 1) us]
      rw [List.drop_eq_getElem_cons h, List.getD_eq_getElem?_getD, List.getElem?_eq_getElem h]; rfl
    have nx : us.take (p + 1 + 1) = us.take (p + 1) ++ [us.getD (p + 1) 0] := by
      rw [List.take_succ, List.getElem?_eq_getElem h, List.getD_eq_getElem?_getD, List.getElem?_eq_getElem h]; rfl
    rw [nx]
    refine gr_pre ih ?_ (more := us.drop (p + 1 + 1))
    rw [← ex]; exact g
theorem forms_all : ∀ (n : Nat), n < 60 → ∀ us, GrOk us → us.length = n + 1 → us ∈ forms n
  | 0, _, us, g, l => by
    obtain ⟨x, rfl⟩ := List.length_eq_one_iff.mp l
    have : x = -1 := g.root
    rw [this]; exact List.mem_singleton.mpr rfl
  | n + 1, hn, us, g, l => by
    have ex : us = us.take (n + 1) ++ [us.getD (n + 1) 0] := by
      conv => lhs; rw [← List.take_append_drop (n + 1) us]
      rw [List.drop_eq_getElem_cons (by omega), List.getD_eq_getElem?_getD, List.getElem?_eq_getElem (by omega), List.drop_eq_nil_of_le (by omega)]; rfl
    have tl : (us.take (n + 1)).length = n + 1 := by rw [List.length_take]; omega
    have gt := gr_take g n (by omega)
    have m := (gr_next (v := us.getD (n + 1) 0) gt (by omega)).mpr (by rw [← ex]; exact g)
    refine List.mem_flatMap.mpr ⟨us.take (n + 1), forms_all n (by omega) _ gt tl, ?_⟩
    refine List.mem_map.mpr ⟨us.getD (n + 1) 0, ?_, ex.symm⟩
    rw [line_eq gt.pos]
    rcases m with z | z
    · rw [z]; exact List.mem_cons_self
    · exact List.mem_cons_of_mem _ z
theorem line_len {us : List Int} (g : GrOk us) (h : us.length ≤ 60) : (line us).length ≤ us.length := by
  have pos := g.pos
  rw [line_eq pos, List.length_cons]
  have := (chn_mem (gr_lab g h) (us.length - 1 + 1) (us.length - 1) (by omega) (by omega)).1
  omega
theorem line_nodup {us : List Int} (g : GrOk us) (h : us.length ≤ 60) : (line us).Nodup := by
  have pos := g.pos
  have t := gr_lab g h
  have nd : ∀ (n k : Nat), k < n → k < us.length → (chn us k).Nodup := by
    intro n
    induction n with
    | zero => intro k hk; omega
    | succ n ih =>
      intro k hn hk
      rw [chn_eq t hk]
      split
      · exact List.nodup_nil
      · rename_i h0
        have lt := t.lt hk h0
        refine List.nodup_cons.mpr ⟨fun hm => ?_, ih _ (by omega) (by omega)⟩
        have := (chn_mem t _ (us.getD k 0).toNat (Nat.lt_succ_self _) (by omega)).2 _ hm
        omega
  rw [line_eq pos]
  refine List.nodup_cons.mpr ⟨fun hm => ?_, nd _ _ (Nat.lt_succ_self _) (by omega)⟩
  have := (chn_mem t (us.length - 1 + 1) (us.length - 1) (by omega) (by omega)).2 _ hm
  omega
theorem flat_le {α β : Type} {f : α → List β} {b : Nat} : ∀ {l : List α}, (∀ x ∈ l, (f x).length ≤ b) → (l.flatMap f).length ≤ l.length * b
  | [], _ => by simp
  | x :: l, h => by
    rw [List.flatMap_cons, List.length_append, List.length_cons, Nat.succ_mul]
    have := h x List.mem_cons_self
    have := flat_le (l := l) (f := f) (b := b) fun y hy => h y (List.mem_cons_of_mem _ hy)
    omega
theorem forms_len : ∀ n, n < 6 → (forms n).length ≤ [1, 1, 2, 6, 24, 120].getD n 0
  | 0, _ => by decide
  | n + 1, h => by
    have ih := forms_len n (by omega)
    have fl := flat_le (l := forms n) (f := ext) (b := n + 1) fun us hu => by
      obtain ⟨g, l⟩ := forms_gr n (by omega) us hu
      unfold ext
      rw [List.length_map, ← l]
      exact line_len g (by omega)
    have fl : (forms (n + 1)).length ≤ (forms n).length * (n + 1) := fl
    generalize (forms (n + 1)).length = d at fl ⊢
    generalize (forms n).length = a at fl ih
    have : n = 0 ∨ n = 1 ∨ n = 2 ∨ n = 3 ∨ n = 4 := by omega
    rcases this with rfl | rfl | rfl | rfl | rfl <;> simp at ih ⊢ <;> omega
theorem forms_nodup : ∀ n, n < 60 → (forms n).Nodup
  | 0, _ => by simp [forms]
  | n + 1, h => by
    have ih := forms_nodup n (by omega)
    show ((forms n).flatMap ext).Nodup
    refine List.pairwise_flatMap.mpr ⟨fun us hu => ?_, ?_⟩
    · obtain ⟨g, l⟩ := forms_gr n (by omega) us hu
      unfold ext
      refine List.Pairwise.map _ (fun a b ne e => ne ?_) (line_nodup g (by omega))
      have := List.append_cancel_left e
      injection this
    · refine List.Pairwise.imp_of_mem (fun {a b} ha hb ne x hx y hy e => ne ?_) ih
      obtain ⟨p, _, rfl⟩ := List.mem_map.mp hx
      obtain ⟨q, _, rfl⟩ := List.mem_map.mp hy
      have la := (forms_gr n (by omega) a ha).2
      have lb := (forms_gr n (by omega) b hb).2
      exact (List.append_inj e (by omega)).1
end S30


set_option Elab.async false
set_option linter.all false
set_option maxRecDepth 100000
set_option maxHeartbeats 8000000
namespace S30
open PySem L2 W7
section
variable {P : Program} {w : World} {K : PySem.W.Frag} {mg : Str → Option Value} {base : Heap} {k : Nat}
def sp_forms : Sp := fun vs H Q _ => ∃ m : Nat, vs = [.int (m : Int)] ∧ 1 ≤ m ∧ m ≤ 6 ∧ ∀ (r : Addr) (as : List Addr) (H' : Hp), Same H H' → H r = none → H' r = some (.lst (as.map V.ref)) → Tups H' as (forms (m - 1)) → Q (.ref r) H'
theorem has_forms (D : Df K mg "_law_forms" s_law_forms) (B : Blt7 mg) : Has P w K mg base "_law_forms" (k + 1) ["many"] sp_forms := by
  refine D.has sc_law_forms (fun _ _ _ _ _ _ us hl => match us, hl with | [_], _ => rfl) (fun vs H Q E h => by obtain ⟨m, rfl, _⟩ := h; rfl) (fun f cdv A outer s H vs Q E hr h => ?_)
  obtain ⟨m, rfl, m1, m6, q⟩ := h
  refine ⟨_, (pss_cons (ps_set (i := 1) sc_law_forms.nd rfl (by first | exact Or.inl rfl | exact Or.inr rfl) (pe_lst (pa_cons (pe_tup (pa_cons (pe_op op_sub pe_int pe_int) pa_nil)) pa_nil)))
  (pss_cons (ps_for PassesOwn.never rfl (pi_range2 rfl B.range (pa_cons pe_int (pa_cons (pv 0) pa_nil))) (pg_name (i := 2) sc_law_forms.nd rfl (by first | exact Or.inl rfl | exact Or.inr rfl))
  (pss_cons (ps_set (i := 3) sc_law_forms.nd rfl (by first | exact Or.inl rfl | exact Or.inr rfl) (pe_lst pa_nil))
  (pss_cons (ps_for PassesOwn.never rfl (pi_list (pv 1)) (pg_name (i := 4) sc_law_forms.nd rfl (by first | exact Or.inl rfl | exact Or.inr rfl))
  (pss_cons (ps_set (i := 5) sc_law_forms.nd rfl (by first | exact Or.inl rfl | exact Or.inr rfl) (pe_op op_sub (pv 2) pe_int))
  (pss_one (ps_while PassesOwn.never (pt_cmpR op_ge (pv 5) pe_int (nomark _))
  (pss_cons (ps_expr (pe_bm PySem.F.plainAttrs_list PySem.F.slot_list_append PySem.F.type_list_append mt_append (pv 3) (pa_cons (pe_op op_catT (pv 4) (pe_tup (pa_cons (pv 5) pa_nil))) pa_nil)))
  (pss_one (ps_set (i := 5) sc_law_forms.nd rfl (by first | exact Or.inl rfl | exact Or.inr rfl) (pe_ix ix_tup (pv 4) (pv 5) (fun _ _ => rfl)))))))))
  (pss_one (ps_set (i := 1) sc_law_forms.nd rfl (by first | exact Or.inl rfl | exact Or.inr rfl) (pv 3))))))
  (pss_one (ps_ret (pv 1))))), ?_⟩
  refine ⟨_, _, rfl, rfl, (by show 1 ≤ sizeLine; decide), fun t0 ht0 => ⟨(by show 1 ≤ sizeLine; decide), fun r0 hr0 => ?_⟩⟩
  have s0 : Same H (upd (upd H t0 (.tup [.int (0 - 1)])) r0 (.lst [.ref t0])) := ((Same.refl H).new ht0).new hr0
  have h0 : upd (upd H t0 (.tup [.int (0 - 1)])) r0 (.lst [.ref t0]) r0 = some (.lst ([t0].map V.ref)) := upd_same
  have g0 : Tups (upd (upd H t0 (.tup [.int (0 - 1)])) r0 (.lst [.ref t0])) [t0] (forms 0) := by
    have := (Tups.nil (upd (upd H t0 (.tup [.int (0 - 1)])) r0 (.lst [.ref t0]))).snoc (a := t0) (us := [-1]) (by rw [upd_ne (ne_of_none upd_same hr0)]; exact upd_same)
    exact this
  have f0 : H r0 = none := ((Same.refl H).new ht0).free hr0
  show (fun HH => _) (upd (upd H t0 (.tup [.int (0 - 1)])) r0 (.lst [.ref t0]))
  generalize upd (upd H t0 (.tup [.int (0 - 1)])) r0 (.lst [.ref t0]) = H0 at s0 h0 g0
  refine ⟨_, rfl, _, _, rfl, ⟨by decide, by decide, by omega, by omega⟩, ?_⟩
  rw [show ((m : Int) - 1).toNat = m - 1 by omega]
  refine for_range (lo := 1) (n := m - 1) (fun i σ H' => ∃ (r : Addr) (as : List Addr) (o2 o3 o4 o5 : Option V), σ = [some (.int (m : Int)), some (.ref r), o2, o3, o4, o5] ∧ Same H H' ∧ H r = none ∧ H' r = some (.lst (as.map V.ref)) ∧ Tups H' as (forms i))
    ⟨r0, [t0], none, none, none, none, rfl, s0, f0, h0, g0⟩ ?_ ?_
  · rintro i σ H' hi ⟨r, as, o2, o3, o4, o5, rfl, sX, fr, hrX, tX⟩
    refine ⟨(by show 0 ≤ sizeLine; decide), fun r3 hr3 => ?_⟩
    have fr3 : H r3 = none := sX.free hr3
    have fl := forms_len i (by omega)
    have fl2 : (forms i).length ≤ 120 := by
      have : i = 0 ∨ i = 1 ∨ i = 2 ∨ i = 3 ∨ i = 4 := by omega
      rcases this with rfl | rfl | rfl | rfl | rfl <;> simp at fl <;> omega
    have al := tX.1
    refine ⟨_, rfl, r, rfl, ⟨_, SqL.of (by rw [upd_ne (ne_of_none hrX hr3)]; exact hrX)⟩, ?_⟩
    refine for_list (K := K) (a := r) (xs := as.map V.ref) (fun j σ H'' => ∃ (bs : List Addr) (o4' o5' : Option V), σ = [some (.int (m : Int)), some (.ref r), some (.int (1 + (i : Int))), some (.ref r3), o4', o5'] ∧ Same H' H'' ∧ H'' r3 = some (.lst (bs.map V.ref)) ∧ Tups H'' bs (((forms i).take j).flatMap ext))
      ⟨[], o4, o5, rfl, (Same.refl H').new hr3, upd_same, Tups.nil _⟩ (fun j σ H'' _ h => by obtain ⟨_, _, _, _, sY, _⟩ := h; exact SqL.of (sY _ _ hrX)) ?_ ?_
    · rintro j x σ H'' hx ⟨bs, o4', o5', rfl, sY, h3, tb⟩
      rw [List.getElem?_map] at hx
      cases e1 : as[j]? with
      | none => rw [e1] at hx; cases hx
      | some a =>
        rw [e1] at hx
        cases hx
        have jl : j < (forms i).length := by rw [← al]; exact (List.getElem?_eq_some_iff.mp e1).1
        have e2 : (forms i)[j]? = some (forms i)[j] := List.getElem?_eq_getElem jl
        have ha := sY _ _ (tX.2 j a _ e1 e2)
        obtain ⟨g, ul⟩ := forms_gr i (by omega) _ (List.getElem_mem jl)
        have nx : ((forms i).take (j + 1)).flatMap ext = ((forms i).take j).flatMap ext ++ ext (forms i)[j] := by
          rw [List.take_succ, e2, List.flatMap_append]; simp
        generalize (forms i)[j] = us at ha g ul nx
        have t := gr_lab g (by omega)
        have ll := line_len g (by omega)
        have bl : (((forms i).take j).flatMap ext).length ≤ 120 * 60 := by
          have := flat_le (l := (forms i).take j) (f := ext) (b := 60) fun v hv => by
            obtain ⟨g2, l2⟩ := forms_gr i (by omega) v (List.mem_of_mem_take hv)
            unfold ext
            rw [List.length_map]
            have := line_len g2 (by omega)
            omega
          have l3 : ((forms i).take j).length ≤ 120 := by rw [List.length_take]; omega
          exact Nat.le_trans this (Nat.mul_le_mul_right _ l3)
        have hup : ∀ p : Int, 0 ≤ p → p < (us.length : Int) → us.getD p.toNat 0 < p ∧ -1 ≤ us.getD p.toNat 0 := fun p h0 h1 => by
          rcases Nat.eq_zero_or_pos p.toNat with z | z
          · have := g.root
            rw [z]; omega
          · have := g.up p.toNat z (by omega)
            omega
        refine ⟨_, rfl, _, _, rfl, rfl, ?_⟩
        refine ⟨fun mm σ H4 => ∃ (l : List Int) (pl : Int) (cs : List Addr), σ = [some (.int (m : Int)), some (.ref r), some (.int (1 + (i : Int))), some (.ref r3), some (.ref a), some (.int pl)] ∧ Same H' H4 ∧ H4 r3 = some (.lst (cs.map V.ref)) ∧ Tups H4 cs (((forms i).take j).flatMap ext ++ l.map fun p => us ++ [p]) ∧ l ++ rst us pl = line us ∧ mm = (pl + 1).toNat ∧ pl < (us.length : Int) ∧ -1 ≤ pl ∧ H4 a = some (.tup (us.map V.int)),
          ⟨_, [], _, bs, rfl, sY, h3, by rw [List.map_nil, List.append_nil]; exact tb, by rw [List.nil_append]; unfold line; congr 1; omega, rfl, by omega, by omega, ha⟩, ?_⟩
        rintro mm σ H4 ⟨l, pl, cs, rfl, s4, h4, t4, el, rfl, p1, p2, ha4⟩
        refine ⟨_, rfl, _, _, rfl, rfl, _, rfl, ?_⟩
        by_cases p0 : 0 ≤ pl
        · refine iteB (decide_eq_true p0) ?_
          refine ⟨_, fun σ' H5 h => h, ?_⟩
          refine ⟨_, rfl, .inl ⟨rfl, _, SqL.of h4⟩, _, rfl, _, rfl, (by show 1 ≤ sizeLine; decide), fun tp htp => ?_⟩
          have s5 : Same H4 (upd H4 tp (.tup [.int pl])) := (Same.refl H4).new htp
          have h5 : upd H4 tp (.tup [.int pl]) tp = some (.tup [.int pl]) := upd_same
          show (fun HH => _) (upd H4 tp (.tup [.int pl]))
          generalize upd H4 tp (.tup [.int pl]) = H5 at s5 h5
          have usn : us.map V.int ≠ [] := fun e => by
            have := congrArg List.length e
            rw [List.length_map, List.length_nil] at this
            omega
          refine ⟨a, tp, _, _, rfl, rfl, SqT.of (s5 _ _ ha4), SqT.of h5, usn, by rw [List.length_map]; exact Nat.le_of_lt (small1000 (by show us.length + 1 ≤ 1000; omega)), (fun e => by cases e), fun _ pp hpp => ?_⟩
          have s6 : Same H5 (upd H5 pp (.tup (us.map V.int ++ [.int pl]))) := (Same.refl H5).new hpp
          have h6 : upd H5 pp (.tup (us.map V.int ++ [.int pl])) pp = some (.tup ((us ++ [pl]).map V.int)) := by rw [upd_same, List.map_append]; rfl
          show (fun HH => _) (upd H5 pp (.tup (us.map V.int ++ [.int pl])))
          generalize upd H5 pp (.tup (us.map V.int ++ [.int pl])) = H6 at s6 h6
          have h36 := s6 _ _ (s5 _ _ h4)
          have ha6 := s6 _ _ (s5 _ _ ha4)
          have cl := t4.1
          have lle : l.length ≤ 60 := by
            have := congrArg List.length el
            rw [List.length_append] at this
            omega
          refine ⟨r3, _, _, rfl, rfl, h36, by rw [List.length_map, cl, List.length_append, List.length_map]; exact small10000 (by omega), ?_⟩
          have tU : ∀ b xs, H6 b = some (.tup xs) → upd H6 r3 (.lst (cs.map V.ref ++ [.ref pp])) b = some (.tup xs) := fun b xs e => by
            rw [upd_ne (ne_of e h36 (by intro z; cases z))]; exact e
          refine ⟨_, rfl, _, rfl, a, _, _, _, rfl, rfl, SqT.of (tU _ _ ha6), ints_at p0 p1, ?_⟩
          have hh := hup pl p0 p1
          refine ⟨(us.getD pl.toNat 0 + 1).toNat, by omega, l ++ [pl], us.getD pl.toNat 0, cs ++ [pp], rfl, ((s4.trans s5).trans s6).write hr3, by rw [upd_same, List.map_append]; rfl, ?_, ?_, rfl, by omega, hh.2, tU _ _ ha6⟩
          · rw [List.map_append, ← List.append_assoc]
            exact (((t4.same s5).same s6).snoc h6).tups tU
          · rw [List.append_assoc, ← el, rst_step t p0 p1]; rfl
        · refine iteN (decide_eq_false p0) ?_
          have e0 : rst us pl = [] := by unfold rst; rw [if_pos (by omega)]
          rw [e0, List.append_nil] at el
          refine ⟨cs, _, _, rfl, s4, h4, ?_⟩
          rw [nx]
          unfold ext
          rw [← el]
          exact t4
    · rintro σ H'' ⟨bs, o4', o5', rfl, sY, h3, tb⟩
      rw [List.length_map, al, List.take_length] at tb
      exact ⟨_, rfl, r3, bs, _, _, _, _, rfl, sX.trans sY, fr3, h3, tb⟩
  · rintro σ H' ⟨r, as, o2, o3, o4, o5, rfl, sX, fr, hrX, tX⟩
    exact ⟨_, rfl, q r as H' sX fr hrX tX⟩
end
end S30


set_option Elab.async false
set_option linter.all false
set_option maxRecDepth 100000
set_option maxHeartbeats 8000000
namespace S30
open PySem L2 W7
/-! ### all texts of two letters, all marks -/
def texL : Nat → List Str
  | 0 => [Str.ofString ""]
  | n + 1 => (texL n).map (fun z => z ++ Str.ofString "a") ++ (texL n).map (fun z => z ++ Str.ofString "b")
def marL : Nat → List (List Bool)
  | 0 => [[]]
  | n + 1 => (marL n).map (fun l => l ++ [true]) ++ (marL n).map (fun l => l ++ [false])
theorem a_cps : (Str.ofString "a").cps.toList = [97] := by decide +kernel
theorem b_cps : (Str.ofString "b").cps.toList = [98] := by decide +kernel
theorem texL_mem : ∀ (n : Nat) (z : Str), z ∈ texL n ↔ z.cps.toList.length = n ∧ ∀ c ∈ z.cps.toList, c = 97 ∨ c = 98
  | 0, z => by
    constructor
    · intro h
      rw [List.mem_singleton.mp h]
      exact ⟨rfl, fun c hc => by cases hc⟩
    · rintro ⟨h, _⟩
      refine List.mem_singleton.mpr (str_ext ?_)
      rw [List.eq_nil_of_length_eq_zero h]; rfl
  | n + 1, z => by
    constructor
    · intro h
      rcases List.mem_append.mp h with h | h
      · obtain ⟨y, hy, rfl⟩ := List.mem_map.mp h
        obtain ⟨l, a⟩ := (texL_mem n y).mp hy
        rw [app_list, a_cps]
        refine ⟨by rw [List.length_append, l]; rfl, fun c hc => ?_⟩
        rcases List.mem_append.mp hc with q | q
        · exact a c q
        · exact .inl (List.mem_singleton.mp q)
      · obtain ⟨y, hy, rfl⟩ := List.mem_map.mp h
        obtain ⟨l, a⟩ := (texL_mem n y).mp hy
        rw [app_list, b_cps]
        refine ⟨by rw [List.length_append, l]; rfl, fun c hc => ?_⟩
        rcases List.mem_append.mp hc with q | q
        · exact a c q
        · exact .inr (List.mem_singleton.mp q)
    · rintro ⟨h, a⟩
      have ne : z.cps.toList ≠ [] := fun e => by rw [e] at h; cases h
      have ex := (List.dropLast_concat_getLast ne).symm
      generalize z.cps.toList.getLast ne = c at ex
      have hm : mk z.cps.toList.dropLast ∈ texL n := (texL_mem n _).mpr ⟨by rw [mk_cps, List.length_dropLast]; omega, fun c hc => a c (List.dropLast_subset _ hc)⟩
      have hc : c = 97 ∨ c = 98 := a c (by rw [ex]; simp)
      rcases hc with rfl | rfl
      · exact List.mem_append_left _ (List.mem_map.mpr ⟨_, hm, str_ext (by rw [app_list, a_cps, mk_cps]; exact ex.symm)⟩)
      · exact List.mem_append_right _ (List.mem_map.mpr ⟨_, hm, str_ext (by rw [app_list, b_cps, mk_cps]; exact ex.symm)⟩)
theorem texL_nodup : ∀ n, (texL n).Nodup
  | 0 => by simp [texL]
  | n + 1 => by
    have ih := texL_nodup n
    have inj : ∀ {s : Str} (a b : Str), a ++ s = b ++ s → a = b := fun {s} a b e => by
      have := congrArg (fun z : Str => z.cps.toList) e
      simp only [app_list] at this
      exact str_ext (List.append_cancel_right this)
    refine List.nodup_append.mpr ⟨List.Pairwise.map _ (fun a b ne e => ne (inj a b e)) ih, List.Pairwise.map _ (fun a b ne e => ne (inj a b e)) ih, fun x hx y hy e => ?_⟩
    obtain ⟨a, _, rfl⟩ := List.mem_map.mp hx
    obtain ⟨b, _, rfl⟩ := List.mem_map.mp hy
    have := congrArg (fun z : Str => z.cps.toList.getLast?) e
    simp only [app_list, a_cps, b_cps, List.getLast?_concat] at this
    cases this
theorem marL_mem : ∀ (n : Nat) (l : List Bool), l ∈ marL n ↔ l.length = n
  | 0, l => by
    show l ∈ [[]] ↔ _
    rw [List.mem_singleton, List.length_eq_zero_iff]
  | n + 1, l => by
    constructor
    · intro h
      rcases List.mem_append.mp h with h | h
      · obtain ⟨y, hy, rfl⟩ := List.mem_map.mp h
        rw [List.length_append, (marL_mem n y).mp hy]; rfl
      · obtain ⟨y, hy, rfl⟩ := List.mem_map.mp h
        rw [List.length_append, (marL_mem n y).mp hy]; rfl
    · intro h
      have ne : l ≠ [] := fun e => by rw [e] at h; cases h
      have ex := (List.dropLast_concat_getLast ne).symm
      generalize l.getLast ne = c at ex
      have hm : l.dropLast ∈ marL n := (marL_mem n _).mpr (by rw [List.length_dropLast]; omega)
      cases c with
      | true => exact List.mem_append_left _ (List.mem_map.mpr ⟨_, hm, ex.symm⟩)
      | false => exact List.mem_append_right _ (List.mem_map.mpr ⟨_, hm, ex.symm⟩)
theorem marL_nodup : ∀ n, (marL n).Nodup
  | 0 => by simp [marL]
  | n + 1 => by
    have ih := marL_nodup n
    refine List.nodup_append.mpr ⟨List.Pairwise.map _ (fun a b ne e => ne (List.append_cancel_right e)) ih, List.Pairwise.map _ (fun a b ne e => ne (List.append_cancel_right e)) ih, fun x hx y hy e => ?_⟩
    obtain ⟨a, _, rfl⟩ := List.mem_map.mp hx
    obtain ⟨b, _, rfl⟩ := List.mem_map.mp hy
    have := congrArg List.getLast? e
    simp only [List.getLast?_concat] at this
    cases this
theorem texL_len (n : Nat) : (texL n).length = 2 ^ n := by
  induction n with
  | zero => rfl
  | succ n ih => show ((texL n).map _ ++ (texL n).map _).length = _; rw [List.length_append, List.length_map, List.length_map, ih, Nat.pow_succ]; omega
theorem marL_len (n : Nat) : (marL n).length = 2 ^ n := by
  induction n with
  | zero => rfl
  | succ n ih => show ((marL n).map _ ++ (marL n).map _).length = _; rw [List.length_append, List.length_map, List.length_map, ih, Nat.pow_succ]; omega
theorem pow16 {n : Nat} (h : n ≤ 4) : 2 ^ n ≤ 16 := by
  have : n = 0 ∨ n = 1 ∨ n = 2 ∨ n = 3 ∨ n = 4 := by omega
  rcases this with rfl | rfl | rfl | rfl | rfl <;> decide
theorem tex_count {n : Nat} (h : n ≤ 4) {z : Str} (hz : z ∈ texL n) : Txt.count z (Str.ofString "a") = ((z.cps.toList.count 97 : Nat) : Int) := by
  have all : ∀ n ∈ [0, 1, 2, 3, 4], ∀ z ∈ texL n, Txt.count z (Str.ofString "a") = ((z.cps.toList.count 97 : Nat) : Int) := by decide +kernel
  exact all n (by simp; omega) z hz
/-! ### as many rows as trees -/
abbrev Trip := Str × List Bool × List Bool
abbrev IsR (e : Trip) : Prop := IsRows e.1 e.2.1 e.2.2
noncomputable def isB (e : Trip) : Bool := @decide (IsR e) (Classical.propDecidable _)
theorem isB_iff {e : Trip} : isB e = true ↔ IsR e := by unfold isB; exact @decide_eq_true_iff _ (Classical.propDecidable _)
def trees (lets : List Str) (fs : List (List Int)) : List (Str × List Int) := lets.flatMap fun z => fs.map fun u => (z, u)
def trips (lets : List Str) (ms : List (List Bool)) : List Trip := lets.flatMap fun z => ms.flatMap fun l => ms.map fun v => (z, l, v)
def Rel (E : List Trip) (T : List (Str × List Int)) : Prop := E.length = T.length ∧ ∀ (k : Nat) (e : Trip) (t : Str × List Int), E[k]? = some e → T[k]? = some t → ∃ ks, RO t.2 t.1 ks e.1 e.2.1 e.2.2
theorem text_perm {ups : List Int} {lab txt : Str} {ks : List Nat} {ls lv : List Bool} (R : RO ups lab ks txt ls lv) : txt.cps.toList.Perm lab.cps.toList := by
  rw [R.txt, rowsText_cps]
  have p := (kept_perm R.ok R.ko).map fun j => lab.cps.toList.getD j 0
  have e : (List.range ups.length).map (fun j => lab.cps.toList.getD j 0) = lab.cps.toList := by
    rw [R.ok.len]; exact range_getD _
  rw [e] at p
  exact p
def letsOf (m : Nat) (o : Int) : List Str := (texL m).filter fun z => decide (V.int (Txt.count z (Str.ofString "a")) = V.int o)
theorem lets_mem {m : Nat} (hm : m ≤ 4) {o : Int} {z : Str} : z ∈ letsOf m o ↔ (z.cps.toList.length = m ∧ ∀ c ∈ z.cps.toList, c = 97 ∨ c = 98) ∧ ((z.cps.toList.count 97 : Nat) : Int) = o := by
  unfold letsOf
  rw [List.mem_filter]
  constructor
  · rintro ⟨h1, h2⟩
    have := of_decide_eq_true h2
    injection this with this
    rw [tex_count hm h1] at this
    exact ⟨(texL_mem m z).mp h1, this⟩
  · rintro ⟨h1, h2⟩
    have h1' := (texL_mem m z).mpr h1
    exact ⟨h1', decide_eq_true (by rw [tex_count hm h1', h2])⟩
theorem lets_perm {m : Nat} (hm : m ≤ 4) {o : Int} {z y : Str} (p : z.cps.toList.Perm y.cps.toList) (h : z ∈ letsOf m o) : y ∈ letsOf m o := by
  rw [lets_mem hm] at h ⊢
  refine ⟨⟨by rw [← p.length_eq]; exact h.1.1, fun c hc => h.1.2 c (p.mem_iff.mpr hc)⟩, by rw [← p.count_eq]; exact h.2⟩
theorem count_eq {m : Nat} (m1 : 1 ≤ m) (m4 : m ≤ 4) {o : Int} {E : List Trip} (hE : Rel E (trees (letsOf m o) (forms (m - 1)))) : ((trips (letsOf m o) (marL m)).filter isB).length = E.length := by
  have ln : (letsOf m o).Nodup := List.Pairwise.filter _ (texL_nodup m)
  have fn := forms_nodup (m - 1) (by omega)
  have mn := marL_nodup m
  have tn : (trees (letsOf m o) (forms (m - 1))).Nodup := by
    refine List.pairwise_flatMap.mpr ⟨fun z _ => List.Pairwise.map _ (fun a b ne e => ne (by injection e)) fn, List.Pairwise.imp (fun {a b} ne x hx y hy e => ?_) ln⟩
    obtain ⟨_, _, rfl⟩ := List.mem_map.mp hx
    obtain ⟨_, _, rfl⟩ := List.mem_map.mp hy
    injection e with e
    exact ne e
  have sn : (trips (letsOf m o) (marL m)).Nodup := by
    refine List.pairwise_flatMap.mpr ⟨fun z _ => List.pairwise_flatMap.mpr ⟨fun l _ => List.Pairwise.map _ (fun a b ne e => ne (by injection e with _ e; injection e)) mn, List.Pairwise.imp (fun {a b} ne x hx y hy e => ?_) mn⟩, List.Pairwise.imp (fun {a b} ne x hx y hy e => ?_) ln⟩
    · obtain ⟨_, _, rfl⟩ := List.mem_map.mp hx
      obtain ⟨_, _, rfl⟩ := List.mem_map.mp hy
      injection e with _ e
      injection e with e
      exact ne e
    · obtain ⟨_, _, hx⟩ := List.mem_flatMap.mp hx
      obtain ⟨_, _, hy⟩ := List.mem_flatMap.mp hy
      obtain ⟨_, _, rfl⟩ := List.mem_map.mp hx
      obtain ⟨_, _, rfl⟩ := List.mem_map.mp hy
      injection e with e
      exact ne e
  have en : E.Nodup := by
    rw [List.nodup_iff_pairwise_ne, List.pairwise_iff_getElem]
    intro i j hi hj ij e
    have ti : i < (trees (letsOf m o) (forms (m - 1))).length := by rw [← hE.1]; exact hi
    have tj : j < (trees (letsOf m o) (forms (m - 1))).length := by rw [← hE.1]; exact hj
    obtain ⟨k1, R1⟩ := hE.2 i _ _ (List.getElem?_eq_getElem hi) (List.getElem?_eq_getElem ti)
    obtain ⟨k2, R2⟩ := hE.2 j _ _ (List.getElem?_eq_getElem hj) (List.getElem?_eq_getElem tj)
    rw [e] at R1
    obtain ⟨a, b⟩ := R1.one R2
    have := (List.getElem_inj tn).mp (Prod.ext b a)
    omega
  have p : ((trips (letsOf m o) (marL m)).filter isB).Perm E := by
    rw [List.perm_ext_iff_of_nodup (List.Pairwise.filter _ sn) en]
    rintro ⟨z, l, v⟩
    rw [List.mem_filter]
    constructor
    · rintro ⟨hs, hb⟩
      obtain ⟨ups, lab, ks, R⟩ := isB_iff.mp hb
      obtain ⟨z', hz, hs⟩ := List.mem_flatMap.mp hs
      obtain ⟨l', hl, hs⟩ := List.mem_flatMap.mp hs
      obtain ⟨v', hv, e⟩ := List.mem_map.mp hs
      cases e
      have ul : ups.length = m := by rw [← R.sl]; exact (marL_mem m _).mp hl
      have hlab := lets_perm m4 (text_perm R) hz
      have hup := forms_all (m - 1) (by omega) ups ⟨R.fine.road, R.ok.pos, R.ok.root, R.ok.up⟩ (by omega)
      have ht : (lab, ups) ∈ trees (letsOf m o) (forms (m - 1)) := List.mem_flatMap.mpr ⟨lab, hlab, List.mem_map.mpr ⟨ups, hup, rfl⟩⟩
      obtain ⟨i, hi, e⟩ := List.getElem_of_mem ht
      have ei : i < E.length := by rw [hE.1]; exact hi
      obtain ⟨k2, R2⟩ := hE.2 i _ _ (List.getElem?_eq_getElem ei) (List.getElem?_eq_getElem hi)
      rw [e] at R2
      obtain ⟨a, b, c⟩ := R.same R2
      have : E[i] = (z, l, v) := Prod.ext a.symm (Prod.ext b.symm c.symm)
      rw [← this]; exact List.getElem_mem ei
    · intro he
      obtain ⟨i, hi, e⟩ := List.getElem_of_mem he
      have ti : i < (trees (letsOf m o) (forms (m - 1))).length := by rw [← hE.1]; exact hi
      obtain ⟨ks, R⟩ := hE.2 i _ _ (List.getElem?_eq_getElem hi) (List.getElem?_eq_getElem ti)
      have tm := List.getElem_mem ti
      generalize (trees (letsOf m o) (forms (m - 1)))[i] = t at R tm
      rw [e] at R
      obtain ⟨z', hz, hs⟩ := List.mem_flatMap.mp tm
      obtain ⟨u, hu, e2⟩ := List.mem_map.mp hs
      subst e2
      have ul := (forms_gr (m - 1) (by omega) u hu).2
      have lm : l ∈ marL m := (marL_mem m l).mpr (by rw [show l.length = u.length from R.sl]; omega)
      have vm : v ∈ marL m := (marL_mem m v).mpr (by rw [show v.length = u.length from R.vl]; omega)
      have zm : z ∈ letsOf m o := lets_perm m4 (text_perm R).symm hz
      exact ⟨List.mem_flatMap.mpr ⟨z, zm, List.mem_flatMap.mpr ⟨l, lm, List.mem_map.mpr ⟨v, vm, rfl⟩⟩⟩, isB_iff.mpr ⟨_, _, ks, R⟩⟩
  exact p.length_eq
end S30


set_option Elab.async false
set_option linter.all false
set_option maxRecDepth 100000
set_option maxHeartbeats 8000000
namespace S30
open PySem L2 W7
section
variable {P : Program} {w : World} {K : PySem.W.Frag} {mg : Str → Option Value} {base : Heap} {k : Nat}
def Mks (H : Hp) (as : List Addr) (ms : List (List Bool)) : Prop := as.length = ms.length ∧ ∀ (i : Nat) (a : Addr) (m : List Bool), as[i]? = some a → ms[i]? = some m → H a = some (.tup (m.map V.bl))
theorem Mks.tups {H H' : Hp} {as : List Addr} {ms : List (List Bool)} (h : Mks H as ms) (t : ∀ a xs, H a = some (.tup xs) → H' a = some (.tup xs)) : Mks H' as ms := ⟨h.1, fun i a m x y => t _ _ (h.2 i a m x y)⟩
theorem Mks.same {H H' : Hp} {as : List Addr} {ms : List (List Bool)} (h : Mks H as ms) (s : Same H H') : Mks H' as ms := h.tups fun a xs e => s _ _ e
theorem Mks.app {H : Hp} {as bs : List Addr} {ms ns : List (List Bool)} (h : Mks H as ms) (g : Mks H bs ns) : Mks H (as ++ bs) (ms ++ ns) := by
  refine ⟨by simp [h.1, g.1], fun i a m e1 e2 => ?_⟩
  rcases Nat.lt_or_ge i as.length with c | c
  · rw [List.getElem?_append_left c] at e1
    rw [List.getElem?_append_left (by rw [← h.1]; exact c)] at e2
    exact h.2 i a m e1 e2
  · rw [List.getElem?_append_right c] at e1
    rw [List.getElem?_append_right (by rw [← h.1]; exact c), ← h.1] at e2
    exact g.2 _ a m e1 e2
theorem Mks.snoc {H : Hp} {as : List Addr} {ms : List (List Bool)} {a : Addr} {m : List Bool} (h : Mks H as ms) (e : H a = some (.tup (m.map V.bl))) : Mks H (as ++ [a]) (ms ++ [m]) := by
  refine h.app ⟨rfl, fun i b n e1 e2 => ?_⟩
  have i0 : i = 0 := by have := (List.getElem?_eq_some_iff.mp e1).1; simp at this; exact this
  subst i0
  cases e1; cases e2
  exact e
def sp_texts : Sp := fun vs H Q _ => ∃ m : Nat, vs = [.int (m : Int)] ∧ m ≤ 4 ∧ ∀ (r : Addr) (H' : Hp), Same H H' → H r = none → H' r = some (.lst ((texL m).map V.str)) → Q (.ref r) H'
theorem has_texts (D : Df K mg "_law_texts" s_law_texts) (B : Blt7 mg) : Has P w K mg base "_law_texts" (k + 1) ["many"] sp_texts := by
  refine D.has sc_law_texts (fun _ _ _ _ _ _ us hl => match us, hl with | [_], _ => rfl) (fun vs H Q E h => by obtain ⟨m, rfl, _⟩ := h; rfl) (fun f cdv A outer s H vs Q E hr h => ?_)
  obtain ⟨m, rfl, m4, q⟩ := h
  refine ⟨_, (pss_cons (ps_set (i := 1) sc_law_texts.nd rfl (by first | exact Or.inl rfl | exact Or.inr rfl) (pe_lst (pa_cons pe_str pa_nil)))
  (pss_cons (ps_for PassesOwn.never rfl (pi_range1 rfl B.range (pa_cons (pv 0) pa_nil)) (pg_name (i := 2) sc_law_texts.nd rfl (by first | exact Or.inl rfl | exact Or.inr rfl))
  (pss_one (ps_set (i := 1) sc_law_texts.nd rfl (by first | exact Or.inl rfl | exact Or.inr rfl) (pe_op op_cat (pe_comp rfl (pi_list (pv 1)) (NL := ["text"]) (ix := []) (csc (defScope s_law_texts) N_law_texts) (fun cl C s₃ H₃ fp pins => ⟨(pg_name (i := 0) (show List.Nodup (["text"] : List Str) from by decide +kernel) rfl (by first | exact Or.inl rfl | exact Or.inr rfl)), pifs_nil, (pe_op op_add_str (pv 0) pe_str)⟩)) (pe_comp rfl (pi_list (pv 1)) (NL := ["text"]) (ix := []) (csc (defScope s_law_texts) N_law_texts) (fun cl C s₃ H₃ fp pins => ⟨(pg_name (i := 0) (show List.Nodup (["text"] : List Str) from by decide +kernel) rfl (by first | exact Or.inl rfl | exact Or.inr rfl)), pifs_nil, (pe_op op_add_str (pv 0) pe_str)⟩))))))
  (pss_one (ps_ret (pv 1))))), ?_⟩
  refine ⟨(by show 1 ≤ sizeLine; decide), fun r0 hr0 => ?_⟩
  refine ⟨_, rfl, _, rfl, by omega, by omega, ?_⟩
  refine for_range (lo := 0) (n := ((m : Nat) : Int).toNat) (fun i σ HX => ∃ (r : Addr) (o2 : Option V), σ = [some (.int (m : Int)), some (.ref r), o2] ∧ Same H HX ∧ H r = none ∧ HX r = some (.lst ((texL i).map V.str)))
    ⟨r0, none, rfl, (Same.refl H).new hr0, hr0, upd_same⟩ ?_ ?_
  · rintro i σ HX hi ⟨r, o2, rfl, sX, fr, hX⟩
    have tl := texL_len i
    have p16 := pow16 (n := i) (by omega)
    have zl : ∀ z ∈ texL i, z.length ≤ 4 := fun z hz => by
      have := ((texL_mem i z).mp hz).1
      have e : z.length = z.cps.toList.length := by simp [Str.length]
      omega
    have el : ∀ {j : Nat} {x : V}, ((texL i).map V.str)[j]? = some x → ∃ z, (texL i)[j]? = some z ∧ z ∈ texL i ∧ x = .str z := fun {j x} hx => by
      rw [List.getElem?_map] at hx
      cases e : (texL i)[j]? with
      | none => rw [e] at hx; cases hx
      | some z => rw [e] at hx; cases hx; exact ⟨z, rfl, List.mem_of_getElem? e, rfl⟩
    refine ⟨_, rfl, r, rfl, ⟨_, SqL.of hX⟩, fun a1 ha1 => ?_⟩
    refine comp_lst (K := K) (xs := (texL i).map V.str) (by rw [List.length_map]; omega) (fun j ys HY => HY a1 = some (.lst ys) ∧ Same HX HY ∧ ys = (((texL i).take j).map fun z => z ++ Str.ofString "a").map V.str)
      (fun j ys HY h => SqL.of (h.2.1 _ _ hX)) (fun j ys HY h => ⟨h.1, by rw [h.2.2, List.length_map, List.length_map, List.length_take]; omega⟩) ⟨upd_same, (Same.refl HX).new ha1, rfl⟩ ?_ ?_
    rotate_left
    · rintro j x ys HY hx ⟨g1, g2, rfl⟩
      obtain ⟨z, ez, hz, rfl⟩ := el hx
      have := zl z hz
      refine ⟨rfl, ?_⟩
      refine ⟨_, rfl, _, _, rfl, rfl, Nat.le_of_lt (small1000 (by show z.length + 1 ≤ _; omega)), g1, upd_same, g2.write ha1, ?_⟩
      rw [List.take_succ, ez, List.map_append, List.map_append]; rfl
    rintro ys H1 ⟨g1, s1, rfl⟩
    refine ⟨_, rfl, r, rfl, ⟨_, SqL.of (s1 _ _ hX)⟩, fun a2 ha2 => ?_⟩
    refine comp_lst (K := K) (xs := (texL i).map V.str) (by rw [List.length_map]; omega) (fun j ys HY => HY a2 = some (.lst ys) ∧ Same H1 HY ∧ ys = (((texL i).take j).map fun z => z ++ Str.ofString "b").map V.str)
      (fun j ys HY h => SqL.of (h.2.1 _ _ (s1 _ _ hX))) (fun j ys HY h => ⟨h.1, by rw [h.2.2, List.length_map, List.length_map, List.length_take]; omega⟩) ⟨upd_same, (Same.refl H1).new ha2, rfl⟩ ?_ ?_
    rotate_left
    · rintro j x ys HY hx ⟨g1, g2, rfl⟩
      obtain ⟨z, ez, hz, rfl⟩ := el hx
      have := zl z hz
      refine ⟨rfl, ?_⟩
      refine ⟨_, rfl, _, _, rfl, rfl, Nat.le_of_lt (small1000 (by show z.length + 1 ≤ _; omega)), g1, upd_same, g2.write ha2, ?_⟩
      rw [List.take_succ, ez, List.map_append, List.map_append]; rfl
    rintro ys H2 ⟨g2, s2, rfl⟩
    rw [List.length_map, List.take_length] at g1 g2
    refine ⟨a1, a2, _, _, rfl, rfl, s2 _ _ g1, g2, ?_, fun r3 hr3 => ?_⟩
    · rw [List.length_map, List.length_map, List.length_map, List.length_map]
      exact Nat.le_of_lt (small1000 (by omega))
    · have sA := (sX.trans s1).trans s2
      refine ⟨r3, _, rfl, sA.new hr3, sA.free hr3, ?_⟩
      rw [upd_same]
      show _ = some (HO.lst (((texL i).map (fun z => z ++ Str.ofString "a") ++ (texL i).map (fun z => z ++ Str.ofString "b")).map V.str))
      rw [List.map_append]
  · rintro σ HX ⟨r, o2, rfl, sX, fr, hX⟩
    rw [Int.toNat_natCast] at hX
    exact ⟨_, rfl, q r HX sX fr hX⟩
def sp_marks : Sp := fun vs H Q _ => ∃ m : Nat, vs = [.int (m : Int)] ∧ m ≤ 4 ∧ ∀ (r : Addr) (as : List Addr) (H' : Hp), Same H H' → H r = none → H' r = some (.lst (as.map V.ref)) → Mks H' as (marL m) → Q (.ref r) H'
theorem has_marks (D : Df K mg "_law_marks" s_law_marks) (B : Blt7 mg) : Has P w K mg base "_law_marks" (k + 1) ["many"] sp_marks := by
  refine D.has sc_law_marks (fun _ _ _ _ _ _ us hl => match us, hl with | [_], _ => rfl) (fun vs H Q E h => by obtain ⟨m, rfl, _⟩ := h; rfl) (fun f cdv A outer s H vs Q E hr h => ?_)
  obtain ⟨m, rfl, m4, q⟩ := h
  refine ⟨_, (pss_cons (ps_set (i := 1) sc_law_marks.nd rfl (by first | exact Or.inl rfl | exact Or.inr rfl) (pe_lst (pa_cons (pe_tup pa_nil) pa_nil)))
  (pss_cons (ps_for PassesOwn.never rfl (pi_range1 rfl B.range (pa_cons (pv 0) pa_nil)) (pg_name (i := 2) sc_law_marks.nd rfl (by first | exact Or.inl rfl | exact Or.inr rfl))
  (pss_one (ps_set (i := 1) sc_law_marks.nd rfl (by first | exact Or.inl rfl | exact Or.inr rfl) (pe_op op_cat (pe_comp rfl (pi_list (pv 1)) (NL := ["marks"]) (ix := []) (csc (defScope s_law_marks) N_law_marks) (fun cl C s₃ H₃ fp pins => ⟨(pg_name (i := 0) (show List.Nodup (["marks"] : List Str) from by decide +kernel) rfl (by first | exact Or.inl rfl | exact Or.inr rfl)), pifs_nil, (pe_op (op_catAK K) (pv 0) (pe_tup (pa_cons pe_bl pa_nil)))⟩)) (pe_comp rfl (pi_list (pv 1)) (NL := ["marks"]) (ix := []) (csc (defScope s_law_marks) N_law_marks) (fun cl C s₃ H₃ fp pins => ⟨(pg_name (i := 0) (show List.Nodup (["marks"] : List Str) from by decide +kernel) rfl (by first | exact Or.inl rfl | exact Or.inr rfl)), pifs_nil, (pe_op (op_catAK K) (pv 0) (pe_tup (pa_cons pe_bl pa_nil)))⟩))))))
  (pss_one (ps_ret (pv 1))))), ?_⟩
  refine ⟨Nat.zero_le _, fun t0 ht0 => ⟨(by show 1 ≤ sizeLine; decide), fun r0 hr0 => ?_⟩⟩
  have s0 : Same H (upd (upd H t0 (.tup [])) r0 (.lst [.ref t0])) := ((Same.refl H).new ht0).new hr0
  have h0 : upd (upd H t0 (.tup [])) r0 (.lst [.ref t0]) r0 = some (.lst ([t0].map V.ref)) := upd_same
  have g0 : Mks (upd (upd H t0 (.tup [])) r0 (.lst [.ref t0])) [t0] (marL 0) := by
    refine ⟨rfl, fun i a m e1 e2 => ?_⟩
    have i0 : i = 0 := by have := (List.getElem?_eq_some_iff.mp e1).1; simp at this; exact this
    subst i0
    cases e1; cases e2
    rw [upd_ne (ne_of_none upd_same hr0)]; exact upd_same
  have f0 : H r0 = none := ((Same.refl H).new ht0).free hr0
  show (fun HH => _) (upd (upd H t0 (.tup [])) r0 (.lst [.ref t0]))
  generalize upd (upd H t0 (.tup [])) r0 (.lst [.ref t0]) = H0 at s0 h0 g0
  refine ⟨_, rfl, _, rfl, by omega, by omega, ?_⟩
  refine for_range (lo := 0) (n := ((m : Nat) : Int).toNat) (fun i σ HX => ∃ (r : Addr) (as : List Addr) (o2 : Option V), σ = [some (.int (m : Int)), some (.ref r), o2] ∧ Same H HX ∧ H r = none ∧ HX r = some (.lst (as.map V.ref)) ∧ Mks HX as (marL i))
    ⟨r0, [t0], none, rfl, s0, f0, h0, g0⟩ ?_ ?_
  · rintro i σ HW hi ⟨r, as, o2, rfl, sX, fr, hX, ma⟩
    have tl := marL_len i
    have p16 := pow16 (n := i) (by omega)
    have al := ma.1
    refine ⟨_, rfl, r, rfl, ⟨_, SqL.of hX⟩, fun a1 ha1 => ?_⟩
    have sw : Same HW HW := Same.refl HW
    refine comp_lst (K := K) (xs := as.map V.ref) (by rw [List.length_map]; omega) (fun j ys HX => HX a1 = some (.lst ys) ∧ Same HW HX ∧ ∃ bs : List Addr, ys = bs.map V.ref ∧ Mks HX bs (((marL i).take j).map fun l => l ++ [true]))
      (fun j ys HX h => SqL.of (h.2.1 _ _ hX)) (fun j ys HX h => ⟨h.1, by obtain ⟨bs, e, mk⟩ := h.2.2; rw [e, List.length_map, mk.1, List.length_map, List.length_take]; omega⟩) ⟨upd_same, (Same.refl HW).new ha1, [], rfl, rfl, fun i a m e => by cases e⟩ ?_ ?_
    rotate_left
    · rintro j x ys HX hx ⟨g1, g2, bs, rfl, mb⟩
      rw [List.getElem?_map] at hx
      cases ex : as[j]? with
      | none => rw [ex] at hx; cases hx
      | some aj =>
        rw [ex] at hx
        cases hx
        have jl : j < (marL i).length := by rw [← ma.1]; exact (List.getElem?_eq_some_iff.mp ex).1
        have em : (marL i)[j]? = some (marL i)[j] := List.getElem?_eq_getElem jl
        have haj := g2 _ _ (sw _ _ (ma.2 j aj _ ex em))
        have tk : ((marL i).take (j + 1)).map (fun l => l ++ [true]) = ((marL i).take j).map (fun l => l ++ [true]) ++ [(marL i)[j] ++ [true]] := by
          rw [List.take_succ, em, List.map_append]; rfl
        have ml : (marL i)[j].length = i := (marL_mem i _).mp (List.getElem_mem jl)
        rw [tk]
        generalize (marL i)[j] = mj at haj ml
        refine ⟨rfl, ?_⟩
        refine ⟨_, rfl, (by show 1 ≤ sizeLine; decide), fun tp htp => ?_⟩
        have s5 : Same HX (upd HX tp (.tup [.bl true])) := (Same.refl HX).new htp
        have h5 : upd HX tp (.tup [.bl true]) tp = some (.tup [.bl true]) := upd_same
        show (fun HH => _) (upd HX tp (.tup [.bl true]))
        generalize upd HX tp (.tup [.bl true]) = HY at s5 h5
        have keep : ∀ {HZ : Hp} {ys : List V} {b : Addr} {xs : List V}, HZ a1 = some (.lst (bs.map V.ref)) → HZ b = some (.tup xs) → upd HZ a1 (.lst ys) b = some (.tup xs) := fun {HZ ys b xs} hz e => by
          rw [upd_ne (ne_of e hz (by intro z; cases z))]; exact e
        refine ⟨aj, tp, _, _, rfl, rfl, SqT.of (s5 _ _ haj), SqT.of h5, by rw [List.length_map, ml]; exact Nat.le_of_lt (small1000 (by show i + 1 ≤ 1000; omega)), fun e0 => ?_, (fun _ z => by cases z), fun _ _ pp hpp => ?_⟩
        · have m0 : mj = [] := List.map_eq_nil_iff.mp e0
          subst m0
          refine ⟨s5 _ _ g1, upd_same, (g2.trans s5).write ha1, bs ++ [tp], by rw [List.map_append]; rfl, ?_⟩
          exact ((mb.same s5).snoc (m := [] ++ [true]) h5).tups fun b xs e => keep (s5 _ _ g1) e
        · have s6 : Same HY (upd HY pp (.tup (mj.map V.bl ++ [.bl true]))) := (Same.refl HY).new hpp
          have h6 : upd HY pp (.tup (mj.map V.bl ++ [.bl true])) pp = some (.tup ((mj ++ [true]).map V.bl)) := by rw [upd_same, List.map_append]; rfl
          generalize upd HY pp (.tup (mj.map V.bl ++ [.bl true])) = HZ at s6 h6
          have g6 := s6 _ _ (s5 _ _ g1)
          refine ⟨g6, upd_same, ((g2.trans s5).trans s6).write ha1, bs ++ [pp], by rw [List.map_append]; rfl, ?_⟩
          exact (((mb.same s5).same s6).snoc h6).tups fun b xs e => keep g6 e
    rintro ys H1 ⟨g1, s1, bs1, rfl, m1⟩
    have hX1 := s1 _ _ hX
    refine ⟨_, rfl, r, rfl, ⟨_, SqL.of hX1⟩, fun a2 ha2 => ?_⟩
    refine comp_lst (K := K) (xs := as.map V.ref) (by rw [List.length_map]; omega) (fun j ys HX => HX a2 = some (.lst ys) ∧ Same H1 HX ∧ ∃ bs : List Addr, ys = bs.map V.ref ∧ Mks HX bs (((marL i).take j).map fun l => l ++ [false]))
      (fun j ys HX h => SqL.of (h.2.1 _ _ hX1)) (fun j ys HX h => ⟨h.1, by obtain ⟨bs, e, mk⟩ := h.2.2; rw [e, List.length_map, mk.1, List.length_map, List.length_take]; omega⟩) ⟨upd_same, (Same.refl H1).new ha2, [], rfl, rfl, fun i a m e => by cases e⟩ ?_ ?_
    rotate_left
    · rintro j x ys HX hx ⟨g1, g2, bs, rfl, mb⟩
      rw [List.getElem?_map] at hx
      cases ex : as[j]? with
      | none => rw [ex] at hx; cases hx
      | some aj =>
        rw [ex] at hx
        cases hx
        have jl : j < (marL i).length := by rw [← ma.1]; exact (List.getElem?_eq_some_iff.mp ex).1
        have em : (marL i)[j]? = some (marL i)[j] := List.getElem?_eq_getElem jl
        have haj := g2 _ _ (s1 _ _ (ma.2 j aj _ ex em))
        have tk : ((marL i).take (j + 1)).map (fun l => l ++ [false]) = ((marL i).take j).map (fun l => l ++ [false]) ++ [(marL i)[j] ++ [false]] := by
          rw [List.take_succ, em, List.map_append]; rfl
        have ml : (marL i)[j].length = i := (marL_mem i _).mp (List.getElem_mem jl)
        rw [tk]
        generalize (marL i)[j] = mj at haj ml
        refine ⟨rfl, ?_⟩
        refine ⟨_, rfl, (by show 1 ≤ sizeLine; decide), fun tp htp => ?_⟩
        have s5 : Same HX (upd HX tp (.tup [.bl false])) := (Same.refl HX).new htp
        have h5 : upd HX tp (.tup [.bl false]) tp = some (.tup [.bl false]) := upd_same
        show (fun HH => _) (upd HX tp (.tup [.bl false]))
        generalize upd HX tp (.tup [.bl false]) = HY at s5 h5
        have keep : ∀ {HZ : Hp} {ys : List V} {b : Addr} {xs : List V}, HZ a2 = some (.lst (bs.map V.ref)) → HZ b = some (.tup xs) → upd HZ a2 (.lst ys) b = some (.tup xs) := fun {HZ ys b xs} hz e => by
          rw [upd_ne (ne_of e hz (by intro z; cases z))]; exact e
        refine ⟨aj, tp, _, _, rfl, rfl, SqT.of (s5 _ _ haj), SqT.of h5, by rw [List.length_map, ml]; exact Nat.le_of_lt (small1000 (by show i + 1 ≤ 1000; omega)), fun e0 => ?_, (fun _ z => by cases z), fun _ _ pp hpp => ?_⟩
        · have m0 : mj = [] := List.map_eq_nil_iff.mp e0
          subst m0
          refine ⟨s5 _ _ g1, upd_same, (g2.trans s5).write ha2, bs ++ [tp], by rw [List.map_append]; rfl, ?_⟩
          exact ((mb.same s5).snoc (m := [] ++ [false]) h5).tups fun b xs e => keep (s5 _ _ g1) e
        · have s6 : Same HY (upd HY pp (.tup (mj.map V.bl ++ [.bl false]))) := (Same.refl HY).new hpp
          have h6 : upd HY pp (.tup (mj.map V.bl ++ [.bl false])) pp = some (.tup ((mj ++ [false]).map V.bl)) := by rw [upd_same, List.map_append]; rfl
          generalize upd HY pp (.tup (mj.map V.bl ++ [.bl false])) = HZ at s6 h6
          have g6 := s6 _ _ (s5 _ _ g1)
          refine ⟨g6, upd_same, ((g2.trans s5).trans s6).write ha2, bs ++ [pp], by rw [List.map_append]; rfl, ?_⟩
          exact (((mb.same s5).same s6).snoc h6).tups fun b xs e => keep g6 e
    rintro ys H2 ⟨g2, s2, bs2, rfl, m2⟩
    rw [List.length_map, al, List.take_length] at m1 m2
    have l1 := m1.1
    have l2 := m2.1
    rw [List.length_map] at l1 l2
    refine ⟨a1, a2, _, _, rfl, rfl, s2 _ _ g1, g2, ?_, fun r3 hr3 => ?_⟩
    · rw [List.length_map, List.length_map]
      exact Nat.le_of_lt (small1000 (by omega))
    · have sA := (sX.trans s1).trans s2
      refine ⟨r3, bs1 ++ bs2, _, rfl, sA.new hr3, sA.free hr3, by rw [upd_same, List.map_append], ?_⟩
      exact ((m1.same s2).app m2).same ((Same.refl H2).new hr3)
  · rintro σ HX ⟨r, as, o2, rfl, sX, fr, hX, ma⟩
    rw [Int.toNat_natCast] at ma
    exact ⟨_, rfl, q r as HX sX fr hX ma⟩
end
end S30


set_option Elab.async false
set_option linter.all false
set_option maxRecDepth 100000
set_option maxHeartbeats 16000000
namespace S30
open PySem L2 W7
theorem Lams.but {ls : List Lm} {p : Addr} {o : HO} {H H' : Hp} (a : Lams ls H) (hp : H p = some o) (h1 : ∀ ps, o ≠ .tbl ps) (h2 : ∀ c q, o ≠ codeO c q) (k : ∀ b u, b ≠ p → H b = some u → H' b = some u) : Lams ls H' := fun m hm => by
  obtain ⟨ps, a, b, c⟩ := a m hm
  refine ⟨ps, k _ _ (fun e => h1 ps (by rw [e, hp] at a; exact Option.some.inj a)) a, b, ?_⟩
  rcases c with c | ⟨d, c, e⟩
  · exact .inl c
  · exact .inr ⟨d, c, k _ _ (fun z => h2 d _ (by rw [z, hp] at e; rw [z]; exact Option.some.inj e)) e⟩
theorem Lams.kd {ls : List Lm} {p : Addr} {c : Int} {H H' : Hp} (a : Lams ls H) (dk : ∃ c, Deck H p c) (k : Kd p c H H') : Lams ls H' := by
  obtain ⟨c0, x, y, z, e0, _⟩ := dk
  exact Lams.but a e0 (fun _ z => by cases z) (fun _ _ z => by cases z) k.keep
theorem Kt.kd {ls : List Lm} {p : Addr} {c : Int} {H0 H H' : Hp} (a : Kt ls H0 H) (dk : ∃ c, Deck H p c) (hp : H0 p = none) (k : Kd p c H H') : Kt ls H0 H' :=
  ⟨Lams.kd a.lam dk k, fun b o ho e => k.keep b o (ne_of_none e hp) (a.keep b o ho e), fun b e => a.here b (k.fresh e)⟩
theorem Deck.same {p : Addr} {c : Int} {H H' : Hp} (h : Deck H p c) (s : Same H H') : Deck H' p c := by
  obtain ⟨x, y, z, e, r⟩ := h
  exact ⟨x, y, z, s _ _ e, r⟩
def lamsOf (Ts : List Addr) : List Lm := [(Ts.getD 0 0, lpO, qO), (Ts.getD 1 0, lpK, qK)]
theorem lm_ok (Ts : List Addr) : LmOk (lamsOf Ts) := by
  intro l hl m hm
  simp only [lamsOf, List.mem_cons, List.not_mem_nil, or_false] at hl hm
  rcases hl with rfl | rfl <;> rcases hm with rfl | rfl
  · exact .inl rfl
  · exact .inr (show ¬ (_ ∧ _) from by dsimp only; decide)
  · exact .inr (show ¬ (_ ∧ _) from by dsimp only; decide)
  · exact .inl rfl
theorem lams_start {Ts : List Addr} {H : Hp} (hl : Ts.length = 2) (h : ∀ T ∈ Ts, H T = some (.tbl #[])) : Lams (lamsOf Ts) H := by
  match Ts, hl with
  | [T1, T2], _ =>
    intro l hl
    simp only [lamsOf, List.mem_cons, List.not_mem_nil, or_false] at hl
    rcases hl with rfl | rfl
    · exact LamAt.start (h T1 (by simp))
    · exact LamAt.start (h T2 (by simp))
theorem tree_small {ups : List Int} {lab : Str} (ok : TreeOk ups lab.cps.toList) : ∀ n ∈ ups, n.natAbs < 10 ^ 12 := fun n hn => by
  obtain ⟨i, hi, e⟩ := List.getElem_of_mem hn
  have e2 : ups.getD i 0 = n := by rw [List.getD_eq_getElem?_getD, List.getElem?_eq_getElem hi]; exact e
  have m := ok.most
  have t : (10 : Nat) ^ 12 = 1000000000000 := by decide
  rw [t]
  rcases Nat.eq_zero_or_pos i with z | z
  · subst z; have := ok.root; omega
  · have := ok.up i z hi; omega
theorem ne_of_tup {H : Hp} {p : Addr} {c : Int} (d : Deck H p c) {b : Addr} {xs : List V} (e : H b = some (.tup xs)) : b ≠ p := by
  obtain ⟨x, y, z, e0, _⟩ := d
  exact ne_of e e0 (by intro z; cases z)

/-! ### what was found so far -/
theorem RwAt.tups {H H' : Hp} {r : Addr} {txt : Str} {ls lv : List Bool} (h : RwAt H r txt ls lv) (t : ∀ a xs, H a = some (.tup xs) → H' a = some (.tup xs)) : RwAt H' r txt ls lv := by
  obtain ⟨a, b, h1, h2, h3⟩ := h
  exact ⟨a, b, t _ _ h1, t _ _ h2, t _ _ h3⟩
def EvAt (H : Hp) (rs : List Addr) (E : List Trip) : Prop := rs.length = E.length ∧ ∀ (i : Nat) (a : Addr) (e : Trip), rs[i]? = some a → E[i]? = some e → RwAt H a e.1 e.2.1 e.2.2
theorem EvAt.tups {H H' : Hp} {rs : List Addr} {E : List Trip} (h : EvAt H rs E) (t : ∀ a xs, H a = some (.tup xs) → H' a = some (.tup xs)) : EvAt H' rs E := ⟨h.1, fun i a e x y => (h.2 i a e x y).tups t⟩
theorem EvAt.snoc {H : Hp} {rs : List Addr} {E : List Trip} {r : Addr} {e : Trip} (h : EvAt H rs E) (hr : RwAt H r e.1 e.2.1 e.2.2) : EvAt H (rs ++ [r]) (E ++ [e]) := by
  refine ⟨by simp [h.1], fun i a e' x y => ?_⟩
  rcases Nat.lt_or_ge i rs.length with c | c
  · rw [List.getElem?_append_left c] at x
    rw [List.getElem?_append_left (by rw [← h.1]; exact c)] at y
    exact h.2 i a e' x y
  · rw [List.getElem?_append_right c] at x
    rw [List.getElem?_append_right (by rw [← h.1]; exact c), ← h.1] at y
    have i0 : i - rs.length = 0 := by have := (List.getElem?_eq_some_iff.mp x).1; simp at this; omega
    rw [i0] at x y
    cases x; cases y
    exact hr
theorem Rel.snoc {E : List Trip} {T : List (Str × List Int)} {e : Trip} {t : Str × List Int} {ks : List Nat} (h : Rel E T) (R : RO t.2 t.1 ks e.1 e.2.1 e.2.2) : Rel (E ++ [e]) (T ++ [t]) := by
  refine ⟨by simp [h.1], fun i e' t' x y => ?_⟩
  rcases Nat.lt_or_ge i E.length with c | c
  · rw [List.getElem?_append_left c] at x
    rw [List.getElem?_append_left (by rw [← h.1]; exact c)] at y
    exact h.2 i e' t' x y
  · rw [List.getElem?_append_right c] at x
    rw [List.getElem?_append_right (by rw [← h.1]; exact c), ← h.1] at y
    have i0 : i - E.length = 0 := by have := (List.getElem?_eq_some_iff.mp x).1; simp at this; omega
    rw [i0] at x y
    cases x; cases y
    exact ⟨ks, R⟩
structure SX (lms : List Lm) (H2 HX : Hp) (r4 r5 r8 : Addr) (as4 : List Addr) (fs : List (List Int)) (lets : List Str) (rs : List Addr) (E : List Trip) : Prop where
  kt : Kt lms H2 HX
  h4 : HX r4 = some (.lst (as4.map V.ref))
  t4 : Tups HX as4 fs
  h8 : HX r8 = some (.lst (lets.map V.str))
  h5 : HX r5 = some (.lst (rs.map V.ref))
  ev : EvAt HX rs E
theorem SX.step {lms : List Lm} {H2 HX HY : Hp} {r4 r5 r8 : Addr} {as4 : List Addr} {fs : List (List Int)} {lets : List Str} {rs : List Addr} {E : List Trip} (s : SX lms H2 HX r4 r5 r8 as4 fs lets rs E) (k : Kt lms HX HY) : SX lms H2 HY r4 r5 r8 as4 fs lets rs E :=
  ⟨s.kt.trans k, k.lst s.h4, s.t4.tups fun a xs e => k.tup e, k.lst s.h8, k.lst s.h5, s.ev.tups fun a xs e => k.tup e⟩
theorem SX.same {lms : List Lm} {H2 HX HY : Hp} {r4 r5 r8 : Addr} {as4 : List Addr} {fs : List (List Int)} {lets : List Str} {rs : List Addr} {E : List Trip} (s : SX lms H2 HX r4 r5 r8 as4 fs lets rs E) (k : Same HX HY) : SX lms H2 HY r4 r5 r8 as4 fs lets rs E := s.step (Kt.of k s.kt.lam)
theorem SX.push {lms : List Lm} {H2 HX : Hp} {r4 r5 r8 : Addr} {as4 : List Addr} {fs : List (List Int)} {lets : List Str} {rs : List Addr} {E : List Trip} {r : Addr} {e : Trip} (s : SX lms H2 HX r4 r5 r8 as4 fs lets rs E) (f5 : H2 r5 = none) (n45 : r4 ≠ r5) (n85 : r8 ≠ r5) (hr : RwAt HX r e.1 e.2.1 e.2.2) :
    SX lms H2 (upd HX r5 (.lst (rs.map V.ref ++ [.ref r]))) r4 r5 r8 as4 fs lets (rs ++ [r]) (E ++ [e]) := by
  have t : ∀ a xs, HX a = some (.tup xs) → upd HX r5 (.lst (rs.map V.ref ++ [.ref r])) a = some (.tup xs) := fun a xs e => by
    rw [upd_ne (ne_of e s.h5 (by intro z; cases z))]; exact e
  exact ⟨s.kt.write f5 s.h5, by rw [upd_ne n45]; exact s.h4, s.t4.tups t, by rw [upd_ne n85]; exact s.h8, by rw [upd_same, List.map_append]; rfl, (s.ev.snoc hr).tups t⟩
theorem take_not {α : Type} {l : List α} (nd : l.Nodup) {i : Nat} (hi : i < l.length) : l[i] ∉ l.take i := fun h => by
  obtain ⟨j, hj, e⟩ := List.getElem_of_mem h
  rw [List.length_take] at hj
  rw [List.getElem_take] at e
  have := (List.getElem_inj nd).mp e
  omega
def TL (lets : List Str) (fs : List (List Int)) (i j : Nat) (z : Str) : List (Str × List Int) := trees (lets.take i) fs ++ (fs.take j).map fun u => (z, u)
theorem trees_snoc (l : List Str) (z : Str) (fs : List (List Int)) : trees (l ++ [z]) fs = trees l fs ++ fs.map fun u => (z, u) := by
  unfold trees; rw [List.flatMap_append]; simp
theorem trees_len (l : List Str) (fs : List (List Int)) : (trees l fs).length = l.length * fs.length := by
  induction l with
  | nil => simp [trees]
  | cons a l ih =>
    show ((a :: l).flatMap _).length = _
    rw [List.flatMap_cons, List.length_append, List.length_map, List.length_cons, Nat.succ_mul]
    have : (l.flatMap fun z => fs.map fun u => (z, u)).length = l.length * fs.length := ih
    omega
theorem TL_new {lets : List Str} {fs : List (List Int)} (ln : lets.Nodup) (fn : fs.Nodup) {i j : Nat} (hi : i < lets.length) (hj : j < fs.length) : (lets[i], fs[j]) ∉ TL lets fs i j lets[i] := fun h => by
  rcases List.mem_append.mp h with h | h
  · obtain ⟨z, hz, h⟩ := List.mem_flatMap.mp h
    obtain ⟨u, _, e⟩ := List.mem_map.mp h
    injection e with e _
    rw [e] at hz
    exact take_not ln hi hz
  · obtain ⟨u, hu, e⟩ := List.mem_map.mp h
    injection e with _ e
    rw [e] at hu
    exact take_not fn hj hu
theorem filt_snoc (l : List Trip) (e : Trip) : ((l ++ [e]).filter isB).length = (l.filter isB).length + if isB e then 1 else 0 := by
  rw [List.filter_append, List.length_append]
  by_cases h : isB e = true
  · rw [List.filter_cons_of_pos h, if_pos h]; rfl
  · rw [List.filter_cons_of_neg h, if_neg h]; rfl
theorem iadd (c : Nat) (b : Bool) : (c : Int) + (if b then 1 else 0) = ((c + if b then 1 else 0 : Nat) : Int) := by cases b <;> simp
section
variable {P : Program} {w : World} {K : PySem.W.Frag} {mg : Str → Option Value} {base : Heap} {k : Nat}
def sp_law (ls : List Lm) : PySem.W.Frag → Sp := fun K vs H Q _ => ∃ (a : Addr) (ns : List Int), vs = [.ref a] ∧ SqL K H a (ns.map V.int) ∧ ns.length ≤ 63 ∧ Lams ls H ∧ ∀ H', Q (.bl true) H'
theorem ok_law {ls : List Lm} {f : Addr} {fd : FuncData} (F : Fun K "law" "law" s_law f fd) (B : Blt7 mg) (G_law_cells : Has P w K mg base "_law_cells" k ["script", "many"] (sp_cells K)) (G_law_pool : Has P w K mg base "_law_pool" k ["cell"] sp_pool) (G_law_take : Has P w K mg base "_law_take" k ["pool", "many"] sp_take)
    (G_law_forms : Has P w K mg base "_law_forms" k ["many"] sp_forms) (G_law_texts : Has P w K mg base "_law_texts" k ["many"] sp_texts) (G_law_marks : Has P w K mg base "_law_marks" k ["many"] sp_marks) (G_rows_of : Has P w K mg base "rows_of" k ["tree"] (sp_rows ls)) (G_is_rows : Has P w K mg base "is_rows" k ["thing"] (sp_isrows ls)) (G_tree_of : Has P w K mg base "tree_of" k ["rows"] (sp_treeof ls)) :
    FnOk P w K mg base CX0 (k + 1) f fd ["script"] (sp_law ls K) := by
  refine F.ok sc_law (fun vs H Q E h => by obtain ⟨a, ns, rfl, _⟩ := h; rfl) (fun cdv A outer s H vs Q E hr h => ?_)
  obtain ⟨a, ns, rfl, hS, h63, L, q⟩ := h
  refine ⟨_, (pss_cons (ps_for PassesOwn.never rfl (pi_list (pe_callH G_law_cells hr rfl (pa_cons (pv 0) (pa_cons pe_int pa_nil)))) (pg_name (i := 1) sc_law.nd rfl (by first | exact Or.inl rfl | exact Or.inr rfl))
  (pss_cons (ps_set (i := 2) sc_law.nd rfl (by first | exact Or.inl rfl | exact Or.inr rfl) (pe_callH G_law_pool hr rfl (pa_cons (pv 1) pa_nil)))
  (pss_cons (ps_set (i := 3) sc_law.nd rfl (by first | exact Or.inl rfl | exact Or.inr rfl) (pe_op op_add pe_int (pe_callH G_law_take hr rfl (pa_cons (pv 2) (pa_cons pe_int pa_nil)))))
  (pss_cons (ps_set (i := 4) sc_law.nd rfl (by first | exact Or.inl rfl | exact Or.inr rfl) (pe_callH G_law_forms hr rfl (pa_cons (pv 3) pa_nil)))
  (pss_cons (ps_set (i := 5) sc_law.nd rfl (by first | exact Or.inl rfl | exact Or.inr rfl) (pe_lst pa_nil))
  (pss_cons (ps_set (i := 6) sc_law.nd rfl (by first | exact Or.inl rfl | exact Or.inr rfl) (pe_callH G_law_texts hr rfl (pa_cons (pv 3) pa_nil)))
  (pss_cons (ps_set (i := 7) sc_law.nd rfl (by first | exact Or.inl rfl | exact Or.inr rfl) (pe_bm PySem.F.plainAttrs_str PySem.F.slot_str_count PySem.F.type_str_count mt_scount (pe_ix ix_list (pv 6) (pe_callH G_law_take hr rfl (pa_cons (pv 2) (pa_cons (pe_callB call_len_seq rfl B.len bt_len (pa_cons (pv 6) pa_nil)) pa_nil))) (fun _ _ => rfl)) (pa_cons pe_str pa_nil)))
  (pss_cons (ps_comp (i := 8) sc_law.nd rfl (by first | exact Or.inl rfl | exact Or.inr rfl) rfl (pi_list (pv 6)) (NL := ["text"]) (ix := [7]) (csc (defScope s_law) N_law) (fun cl C s₃ H₃ fp pins => ⟨(pg_name (i := 0) (show List.Nodup (["text", "often"] : List Str) from by decide +kernel) rfl (by first | exact Or.inl rfl | exact Or.inr rfl)), (pifs_one (pt_cmpR op_eq (pe_scountK K (pv 0) pe_str) (pv 1) (nomark _))), (pv 0)⟩))
  (pss_cons (ps_for PassesOwn.never rfl (pi_list (pv 8)) (pg_name (i := 9) sc_law.nd rfl (by first | exact Or.inl rfl | exact Or.inr rfl))
  (pss_one (ps_for PassesOwn.never rfl (pi_list (pv 4)) (pg_name (i := 10) sc_law.nd rfl (by first | exact Or.inl rfl | exact Or.inr rfl))
  (pss_cons (ps_set (i := 11) sc_law.nd rfl (by first | exact Or.inl rfl | exact Or.inr rfl) (pe_callH G_rows_of hr rfl (pa_cons (pe_tup (pa_cons (pv 10) (pa_cons (pv 9) pa_nil))) pa_nil)))
  (pss_cons (ps_if (PW.pt (pw_or (pt_cmpR (op_in_nest K hr) (pv 11) (pv 5) (by with_unfolding_all rfl)) (pw_or1 (pt_cmpR op_ne (pe_callB (call_repr_tree hr) rfl B.repr bt_repr (pa_cons (pe_callH G_tree_of hr rfl (pa_cons (pv 11) pa_nil)) pa_nil)) (pe_callB (call_repr_tree hr) rfl B.repr bt_repr (pa_cons (pe_tup (pa_cons (pv 10) (pa_cons (pv 9) pa_nil))) pa_nil)) (nomark _)))))
  (pss_one (ps_ret pe_bl))
  pss_nil)
  (pss_one (ps_expr (pe_bm PySem.F.plainAttrs_list PySem.F.slot_list_append PySem.F.type_list_append mt_append (pv 5) (pa_cons (pv 11) pa_nil)))))))))
  (pss_cons (ps_set (i := 12) sc_law.nd rfl (by first | exact Or.inl rfl | exact Or.inr rfl) pe_int)
  (pss_cons (ps_for PassesOwn.never rfl (pi_list (pv 8)) (pg_name (i := 9) sc_law.nd rfl (by first | exact Or.inl rfl | exact Or.inr rfl))
  (pss_one (ps_for PassesOwn.never rfl (pi_list (pe_callH G_law_marks hr rfl (pa_cons (pv 3) pa_nil))) (pg_name (i := 13) sc_law.nd rfl (by first | exact Or.inl rfl | exact Or.inr rfl))
  (pss_one (ps_for PassesOwn.never rfl (pi_list (pe_callH G_law_marks hr rfl (pa_cons (pv 3) pa_nil))) (pg_name (i := 14) sc_law.nd rfl (by first | exact Or.inl rfl | exact Or.inr rfl))
  (pss_one (ps_set (i := 12) sc_law.nd rfl (by first | exact Or.inl rfl | exact Or.inr rfl) (pe_op op_add (pv 12) (pe_callTy call_int1 rfl B.int_ bt_int (pa_cons (pe_callH G_is_rows hr rfl (pa_cons (pe_tup (pa_cons (pv 9) (pa_cons (pv 13) (pa_cons (pv 14) pa_nil)))) pa_nil)) pa_nil))))))))))
  (pss_one (ps_if (pt_cmpR op_ne (pv 12) (pe_callB call_len_seq rfl B.len bt_len (pa_cons (pv 5) pa_nil)) (nomark _))
  (pss_one (ps_ret pe_bl))
  pss_nil)))))))))))))
  (pss_one (ps_ret pe_bl))), ?_⟩
  refine ⟨_, rfl, a, ns, 3, rfl, hS, h63, by decide, fun cs r0 H0 cl s0 hf0 hr0 => ?_⟩
  refine ⟨r0, rfl, ⟨_, SqL.of hr0⟩, ?_⟩
  have L0 : Lams ls H0 := L.same s0
  refine for_list (xs := cs.map V.int) (fun i σ H' => ∃ o1 o2 o3 o4 o5 o6 o7 o8 o9 o10 o11 o12 o13 o14 : Option V, σ = [some (.ref a), o1, o2, o3, o4, o5, o6, o7, o8, o9, o10, o11, o12, o13, o14] ∧ Kt ls H0 H') ⟨none, none, none, none, none, none, none, none, none, none, none, none, none, none, rfl, Kt.refl L0⟩ (fun i σ H' _ h => by obtain ⟨_, _, _, _, _, _, _, _, _, _, _, _, _, _, _, k1⟩ := h; exact SqL.of (k1.lst hr0)) ?_ ?_
  · rintro i x σ H2 hx ⟨o1, o2, o3, o4, o5, o6, o7, o8, o9, o10, o11, o12, o13, o14, rfl, k2⟩
    obtain ⟨cell, _, rfl⟩ := List.mem_map.mp (List.mem_of_getElem? hx)
    -- pool
    refine ⟨_, rfl, cell, rfl, fun p x y hp => ?_⟩
    have dk3 : Deck (upd H2 p (.lst [.int x, .int y, .int 0])) p 0 := ⟨x, y, 0, upd_same, by decide, by decide⟩
    have k3 : Kt ls H2 (upd H2 p (.lst [.int x, .int y, .int 0])) := (Kt.refl k2.lam).same ((Same.refl H2).new hp)
    show (fun HH => _) (upd H2 p (.lst [.int x, .int y, .int 0]))
    generalize upd H2 p (.lst [.int x, .int y, .int 0]) = H3 at dk3 k3
    -- many
    refine ⟨_, rfl, p, 4, 0, rfl, dk3, by decide, by decide, by decide, fun n1 H4 a0 a1 kd4 => ⟨_, _, rfl, rfl, ?_⟩⟩
    have k4 : Kt ls H2 H4 := Kt.kd k3 ⟨_, dk3⟩ hp kd4
    obtain ⟨m, hm, m1, m4⟩ : ∃ m : Nat, 1 + n1 = (m : Int) ∧ 1 ≤ m ∧ m ≤ 4 := ⟨(1 + n1).toNat, by omega, by omega, by omega⟩
    have hv : [V.int (1 + n1)] = [V.int (m : Int)] := by rw [hm]
    -- forms
    refine ⟨_, rfl, m, hv, m1, by omega, fun r4 as4 H5 s5 f4 h4 t4 => ?_⟩
    have k5 := k4.same s5
    have dk5 : Deck H5 p (0 + 1) := Deck.same kd4.deck s5
    -- every
    refine ⟨Nat.zero_le _, fun r5 hr5 => ?_⟩
    have s6 : Same H5 (upd H5 r5 (.lst [])) := (Same.refl H5).new hr5
    have h5 : upd H5 r5 (.lst []) r5 = some (.lst []) := upd_same
    show (fun HH => _) (upd H5 r5 (.lst []))
    generalize upd H5 r5 (.lst []) = H6 at s6 h5
    have n45 : r4 ≠ r5 := ne_of_none h4 hr5
    have f5 : H2 r5 = none := k5.here _ hr5
    -- texts
    refine ⟨_, rfl, m, hv, m4, fun r6 H7 s7 f6 h6 => ?_⟩
    have dk7 := Deck.same (Deck.same dk5 s6) s7
    have k7 := (k5.same s6).same s7
    have tlen := texL_len m
    have p16 := pow16 m4
    have tpos : 1 ≤ (texL m).length := by rw [tlen]; exact Nat.one_le_two_pow
    have xl : ((texL m).map V.str).length = (texL m).length := List.length_map _
    -- often
    refine ⟨_, rfl, _, rfl, _, rfl, r6, _, rfl, .inl (SqL.of h6), p, _, _, rfl, dk7, by omega, by omega, by omega, fun n2 H8 b0 b1 kd8 => ?_⟩
    have ne6 : r6 ≠ p := (ne_of_none (show H6 p = _ from (Deck.same dk5 s6).choose_spec.choose_spec.choose_spec.1) f6).symm
    have ne4 : r4 ≠ p := kd4.deck.ne f4
    have ne5 : r5 ≠ p := dk5.ne hr5
    have h68 := kd8.keep _ _ ne6 h6
    have k8 : Kt ls H2 H8 := Kt.kd k7 ⟨_, dk7⟩ hp kd8
    obtain ⟨z0, hz0⟩ : ∃ z0, atI ((texL m).map V.str) n2 = some (.str z0) := by
      have hk : n2.toNat < (texL m).length := by omega
      refine ⟨(texL m)[n2.toNat], ?_⟩
      have e := atI_nat (xs := (texL m).map V.str) (j := n2.toNat) (v := .str (texL m)[n2.toNat]) (by rw [List.getElem?_map, List.getElem?_eq_getElem hk]; rfl)
      rw [show ((n2.toNat : Nat) : Int) = n2 by omega] at e
      exact e
    refine ⟨r6, _, _, _, rfl, rfl, SqL.of h68, hz0, rfl, z0, _, rfl, rfl, ?_⟩
    generalize Txt.count z0 (Str.ofString "a") = often
    have kp : ∀ b o, b ≠ p → H6 b = some o → H8 b = some o := fun b o nb e => kd8.keep b o nb (s7 _ _ e)
    -- letters
    refine ⟨_, rfl, r6, rfl, ⟨_, SqL.of h68⟩, fun r8 hr8 => ?_⟩
    refine comp_lst (K := K) (xs := (texL m).map V.str) (by omega) (fun j ys HX => HX r8 = some (.lst ys) ∧ Same H8 HX ∧ ys = (((texL m).take j).filter fun z => decide (V.int (Txt.count z (Str.ofString "a")) = V.int often)).map V.str)
      (fun j ys HX h => SqL.of (h.2.1 _ _ h68)) (fun j ys HX h => ⟨h.1, by
        rw [h.2.2, List.length_map]
        have := List.length_filter_le (fun z => decide (V.int (Txt.count z (Str.ofString "a")) = V.int often)) ((texL m).take j)
        rw [List.length_take] at this
        omega⟩) ⟨upd_same, (Same.refl H8).new hr8, rfl⟩ ?_ ?_
    rotate_left
    · rintro j x ys HX hx ⟨g1, g2, rfl⟩
      rw [List.getElem?_map] at hx
      cases ez : (texL m)[j]? with
      | none => rw [ez] at hx; cases hx
      | some z =>
        rw [ez] at hx
        cases hx
        refine ⟨rfl, ?_⟩
        refine ⟨_, rfl, rfl, z, _, rfl, rfl, _, rfl, rfl, _, rfl, ite2 (fun c => ?_) (fun c => ?_)⟩
        · refine ⟨_, rfl, g1, upd_same, g2.write hr8, ?_⟩
          rw [List.take_succ, ez, List.filter_append]
          show _ = (List.filter _ _ ++ List.filter _ [z]).map V.str
          rw [List.filter_cons_of_pos (p := fun z => decide (V.int (Txt.count z (Str.ofString "a")) = V.int often)) c, List.map_append]; rfl
        · refine ⟨g1, g2, ?_⟩
          rw [List.take_succ, ez, List.filter_append]
          show _ = (List.filter _ _ ++ List.filter _ [z]).map V.str
          rw [List.filter_cons_of_neg (p := fun z => decide (V.int (Txt.count z (Str.ofString "a")) = V.int often)) c]; simp
    rintro ys H9 ⟨h89, s9, rfl⟩
    rw [xl, List.take_length] at h89
    have h89' : H9 r8 = some (.lst ((letsOf m often).map V.str)) := h89
    clear h89
    have ll16 : (letsOf m often).length ≤ 16 := by
      have := List.length_filter_le (fun z => decide (V.int (Txt.count z (Str.ofString "a")) = V.int often)) (texL m)
      show (List.filter _ _).length ≤ 16
      omega
    have ln : (letsOf m often).Nodup := List.Pairwise.filter _ (texL_nodup m)
    have lin : ∀ z ∈ letsOf m often, z.cps.toList.length = m ∧ ∀ c ∈ z.cps.toList, c = 97 ∨ c = 98 := fun z hz => ((lets_mem m4).mp hz).1
    have fn := forms_nodup (m - 1) (by omega)
    have fin : ∀ us ∈ forms (m - 1), GrOk us ∧ us.length = m := fun us hu => by
      obtain ⟨g, l⟩ := forms_gr (m - 1) (by omega) us hu
      exact ⟨g, by omega⟩
    have fl6 : (forms (m - 1)).length ≤ 6 := by
      have fl := forms_len (m - 1) (by omega)
      generalize (forms (m - 1)).length = d at fl ⊢
      have : m = 1 ∨ m = 2 ∨ m = 3 ∨ m = 4 := by omega
      rcases this with rfl | rfl | rfl | rfl <;> simp at fl <;> omega
    have cE := fun E => count_eq m1 m4 (o := often) (E := E)
    have n85 : r8 ≠ r5 := (ne_of_none (kp _ _ ne5 h5) hr8).symm
    have S9 : SX ls H2 H9 r4 r5 r8 as4 (forms (m - 1)) (letsOf m often) [] [] :=
      ⟨k8.same s9, s9 _ _ (kp _ _ ne4 (s6 _ _ h4)), (t4.tups fun b xs e => s9 _ _ (kp _ _ (ne_of_tup dk5 e) (s6 _ _ e))), h89', s9 _ _ (kp _ _ ne5 h5), rfl, fun i a e x => by cases x⟩
    generalize letsOf m often = lets at S9 ll16 ln lin cE
    generalize forms (m - 1) = fs at S9 fn fin fl6 cE
    -- the rows of all trees
    have h8' := S9.h8
    refine ⟨_, rfl, r8, rfl, ⟨_, SqL.of h8'⟩, ?_⟩
    refine for_list (K := K) (xs := lets.map V.str) (fun i σ HX => ∃ (o9 o10 o11 : Option V) (rs : List Addr) (E : List Trip), σ = [some (.ref a), some (.int cell), some (.ref p), some (.int (1 + n1)), some (.ref r4), some (.ref r5), some (.ref r6), some (.int often), some (.ref r8), o9, o10, o11, o12, o13, o14] ∧ SX ls H2 HX r4 r5 r8 as4 fs lets rs E ∧ Rel E (trees (lets.take i) fs))
      ⟨o9, o10, o11, [], [], rfl, S9, rfl, fun k e t x => by cases x⟩ (fun i σ HX _ h => by obtain ⟨_, _, _, _, _, _, S, _⟩ := h; exact SqL.of S.h8) ?_ ?_
    · rintro i x σ HX hx ⟨o9, o10, o11, rs0, E0, rfl, SXX, rel⟩
      rw [List.getElem?_map] at hx
      cases ez : lets[i]? with
      | none => rw [ez] at hx; cases hx
      | some z =>
        rw [ez] at hx
        cases hx
        have il : i < lets.length := (List.getElem?_eq_some_iff.mp ez).1
        have ez' : lets[i] = z := (List.getElem?_eq_some_iff.mp ez).2
        obtain ⟨zl, zab⟩ := lin z (List.mem_of_getElem? ez)
        have zlow : ∀ c ∈ z.cps.toList, Lw c := fun c hc => by
          rcases zab c hc with rfl | rfl <;> exact ⟨by decide, by decide⟩
        have zc : ∀ c ∈ z.cps.toList, c < 1000 := fun c hc => by have := zlow c hc; unfold Lw at this; omega
        have h4' := SXX.h4
        refine ⟨_, rfl, r4, rfl, ⟨_, SqL.of h4'⟩, ?_⟩
        refine for_list (K := K) (xs := as4.map V.ref) (fun j σ HY => ∃ (o10 o11 : Option V) (rs : List Addr) (E : List Trip), σ = [some (.ref a), some (.int cell), some (.ref p), some (.int (1 + n1)), some (.ref r4), some (.ref r5), some (.ref r6), some (.int often), some (.ref r8), some (.str z), o10, o11, o12, o13, o14] ∧ SX ls H2 HY r4 r5 r8 as4 fs lets rs E ∧ Rel E (TL lets fs i j z))
          ⟨o10, o11, rs0, E0, rfl, SXX, by unfold TL; rw [List.take_zero, List.map_nil, List.append_nil]; exact rel⟩ (fun j σ HY _ h => by obtain ⟨_, _, _, _, _, S, _⟩ := h; exact SqL.of S.h4) ?_ ?_
        · rintro j x σ HY hx ⟨o10, o11, rs, E, rfl, SY, rel⟩
          rw [List.getElem?_map] at hx
          cases ea : as4[j]? with
          | none => rw [ea] at hx; cases hx
          | some aj =>
            rw [ea] at hx
            cases hx
            have jl : j < fs.length := by rw [← SY.t4.1]; exact (List.getElem?_eq_some_iff.mp ea).1
            have eu : fs[j]? = some fs[j] := List.getElem?_eq_getElem jl
            have hu := SY.t4.2 j aj _ ea eu
            obtain ⟨g, ul⟩ := fin _ (List.getElem_mem jl)
            have tnew := TL_new ln fn il jl
            rw [ez'] at tnew
            have tlx : TL lets fs i (j + 1) z = TL lets fs i j z ++ [(z, fs[j])] := by
              unfold TL; rw [List.take_succ, eu, List.map_append, ← List.append_assoc]; rfl
            have Elen : E.length ≤ 200 := by
              rw [rel.1]
              unfold TL
              rw [List.length_append, trees_len, List.length_map, List.length_take, List.length_take]
              have : min i lets.length * fs.length ≤ 16 * 6 := Nat.mul_le_mul (by omega) fl6
              omega
            generalize fs[j] = us at hu g ul tnew tlx
            have ok : TreeOk us z.cps.toList := ⟨by omega, g.pos, by omega, g.root, g.up⟩
            have fine : Fine us z := ⟨zlow, g.road⟩
            -- rows
            refine ⟨_, rfl, _, rfl, (by show 2 ≤ sizeLine; decide), fun tt htt => ?_⟩
            have sA : Same HY (upd HY tt (.tup [.ref aj, .str z])) := (Same.refl HY).new htt
            have hA : upd HY tt (.tup [.ref aj, .str z]) tt = some (.tup [.ref aj, .str z]) := upd_same
            show (fun HH => _) (upd HY tt (.tup [.ref aj, .str z]))
            generalize upd HY tt (.tup [.ref aj, .str z]) = HA at sA hA
            have SA := SY.same sA
            have trA : TreeAt HA tt us z := ⟨aj, hA, sA _ _ hu, ok⟩
            refine ⟨tt, us, z, rfl, trA, SA.kt.lam, fun ks r a1 b1 HB ko kB hfB hrB haB hbB => ?_⟩
            have SB := SA.step kB
            have R : RO us z ks (rowsText z ks) ((keptN ks).map (lastB us)) ((keptN ks).map fun j : Nat => leafB us (j : Int)) := ⟨ok, fine, ko, rfl, rfl, rfl⟩
            have rwB : RwAt HB r (rowsText z ks) ((keptN ks).map (lastB us)) ((keptN ks).map fun j : Nat => leafB us (j : Int)) := ⟨a1, b1, hrB, by rw [haB, List.map_map]; rfl, by rw [hbB, List.map_map]; rfl⟩
            generalize rowsText z ks = txt at R rwB
            generalize (keptN ks).map (lastB us) = l1 at R rwB
            generalize ((keptN ks).map fun j : Nat => leafB us (j : Int)) = v1 at R rwB
            -- not found before
            refine ⟨_, rfl, _, rfl, r, r5, rs, (fun _ => false), rfl, rfl, SqL.of SB.h5, fun b hb => ?_, _, rfl, ite2 (fun c => by simp at c) (fun _ => ?_)⟩
            · obtain ⟨i', hi', eb⟩ := List.getElem_of_mem hb
              have ei : i' < E.length := by rw [← SB.ev.1]; exact hi'
              have rwb := SB.ev.2 i' b _ (by rw [List.getElem?_eq_getElem hi', eb]) (List.getElem?_eq_getElem ei)
              have ti : i' < (TL lets fs i j z).length := by rw [← rel.1]; exact ei
              obtain ⟨ks', R'⟩ := rel.2 i' _ _ (List.getElem?_eq_getElem ei) (List.getElem?_eq_getElem ti)
              have tm := List.getElem_mem ti
              generalize (TL lets fs i j z)[i'] = t at R' tm
              generalize E[i'] = e at rwb R'
              obtain ⟨te, le, ve⟩ := e
              obtain ⟨x1, y1, q1, q2, q3⟩ := id rwB
              obtain ⟨x2, y2, p1, p2, p3⟩ := id rwb
              have bne : b ≠ r := fun z => by
                subst z
                obtain ⟨_, _, z, _⟩ := SA.ev.2 i' b _ (by rw [List.getElem?_eq_getElem hi', eb]) (List.getElem?_eq_getElem ei)
                rw [hfB] at z; cases z
              refine ⟨_, _, (fun i => [eqV (.str te) (.str txt), eqVs (le.map V.bl) (l1.map V.bl), eqVs (ve.map V.bl) (v1.map V.bl)].getD i true), bne, SqT.of p1, SqT.of q1, rfl, fun i x y hx hy => ?_, ?_⟩
              · match i, hx, hy with
                | 0, hx, hy =>
                  cases hx; cases hy
                  exact .inl ⟨rfl, rfl, rfl⟩
                | 1, hx, hy =>
                  cases hx; cases hy
                  exact .inr ⟨x2, x1, _, _, rfl, rfl, SqT.of p2, SqT.of q2, flat_bools _, flat_bools _, rfl⟩
                | 2, hx, hy =>
                  cases hx; cases hy
                  exact .inr ⟨y2, y1, _, _, rfl, rfl, SqT.of p3, SqT.of q3, flat_bools _, flat_bools _, rfl⟩
                | n + 3, hx, hy => cases hx
              · show false = (eqV (.str te) (.str txt) && (eqVs (le.map V.bl) (l1.map V.bl) && (eqVs (ve.map V.bl) (v1.map V.bl) && true)))
                symm
                rw [Bool.eq_false_iff]
                intro c
                rw [eqV_str, eqVs_bools, eqVs_bools] at c
                simp only [Bool.and_eq_true, decide_eq_true_eq, and_true] at c
                obtain ⟨c1, c2, c3⟩ := c
                subst c1 c2 c3
                obtain ⟨d1, d2⟩ := R'.one R
                apply tnew
                have : t = (z, us) := Prod.ext d2 d1
                rw [← this]; exact tm
            -- back
            refine ⟨_, rfl, r, us, z, ks, _, _, _, rfl, rwB, R, SB.kt.lam, fun t9 HC kC trC => ?_⟩
            have SC := SB.step kC
            obtain ⟨u9, ht9, hu9, _⟩ := id trC
            refine ⟨t9, u9, us, z, rfl, SqT.of ht9, SqT.of hu9, tree_small ok, by omega, zc, by omega, ?_⟩
            refine ⟨_, rfl, _, rfl, (by show 2 ≤ sizeLine; decide), fun t10 ht10 => ?_⟩
            have sD : Same HC (upd HC t10 (.tup [.ref aj, .str z])) := (Same.refl HC).new ht10
            have hD : upd HC t10 (.tup [.ref aj, .str z]) t10 = some (.tup [.ref aj, .str z]) := upd_same
            show (fun HH => _) (upd HC t10 (.tup [.ref aj, .str z]))
            generalize upd HC t10 (.tup [.ref aj, .str z]) = HD at sD hD
            have SD := SC.same sD
            have huD := sD _ _ (kC.tup (kB.tup (sA _ _ hu)))
            refine ⟨t10, aj, us, z, rfl, SqT.of hD, SqT.of huD, tree_small ok, by omega, zc, by omega, ?_⟩
            refine ⟨rfl, _, rfl, ite2 (fun c => by simp at c) (fun _ => ?_)⟩
            have rl := SD.ev.1
            refine ⟨_, rfl, .inl ⟨rfl, _, SqL.of SD.h5⟩, _, rfl, r5, _, _, rfl, rfl, SD.h5, by rw [List.length_map]; exact small1000 (by omega), ?_⟩
            refine ⟨_, _, rs ++ [r], E ++ [(txt, l1, v1)], rfl, SD.push f5 n45 n85 ((rwB.kt kC).same sD), ?_⟩
            rw [tlx]
            exact rel.snoc (t := (z, us)) R
        · rintro σ HY ⟨o10, o11, rs, E, rfl, SY, rel⟩
          refine ⟨_, _, _, rs, E, rfl, SY, ?_⟩
          have : TL lets fs i (as4.map V.ref).length z = trees (lets.take (i + 1)) fs := by
            rw [List.length_map, SY.t4.1]
            unfold TL
            rw [List.take_length, List.take_succ, ez]
            exact (trees_snoc _ _ _).symm
          rw [← this]; exact rel
    · rintro σ HX ⟨o9, o10, o11, rs, E, rfl, SXX, rel⟩
      rw [List.length_map, List.take_length] at rel
      have cnt := cE E rel
      clear cE rel
      -- count
      have h8'' := SXX.h8
      have mlen := marL_len m
      have mln : ∀ l ∈ marL m, l.length = m := fun l hl => (marL_mem m l).mp hl
      generalize hms : marL m = ms at cnt mlen mln
      refine ⟨_, rfl, r8, rfl, ⟨_, SqL.of h8''⟩, ?_⟩
      refine for_list (K := K) (xs := lets.map V.str) (fun i σ HX => ∃ (o9 o13 o14 : Option V), σ = [some (.ref a), some (.int cell), some (.ref p), some (.int (1 + n1)), some (.ref r4), some (.ref r5), some (.ref r6), some (.int often), some (.ref r8), o9, o10, o11, some (.int ((((trips (lets.take i) ms).filter isB).length : Nat) : Int)), o13, o14] ∧ SX ls H2 HX r4 r5 r8 as4 fs lets rs E)
        ⟨o9, o13, o14, rfl, SXX⟩ (fun i σ HX _ h => by obtain ⟨_, _, _, _, S⟩ := h; exact SqL.of S.h8) ?_ ?_
      · rintro i x σ HY hx ⟨o9', o13', o14', rfl, SY⟩
        rw [List.getElem?_map] at hx
        cases ez : lets[i]? with
        | none => rw [ez] at hx; cases hx
        | some z =>
          rw [ez] at hx
          cases hx
          obtain ⟨zl, zab⟩ := lin z (List.mem_of_getElem? ez)
          have zlow : ∀ c ∈ z.cps.toList, Lw c := fun c hc => by
            rcases zab c hc with rfl | rfl <;> exact ⟨by decide, by decide⟩
          have zl' : z.length = m := by rw [← zl]; simp [Str.length]
          refine ⟨_, rfl, m, hv, m4, fun rA asA HA sA fA hA mA => ?_⟩
          rw [hms] at mA
          refine ⟨rA, rfl, ⟨_, SqL.of hA⟩, ?_⟩
          refine for_list (K := K) (xs := asA.map V.ref) (fun j σ HX => ∃ (o13 o14 : Option V), σ = [some (.ref a), some (.int cell), some (.ref p), some (.int (1 + n1)), some (.ref r4), some (.ref r5), some (.ref r6), some (.int often), some (.ref r8), some (.str z), o10, o11, some (.int ((((trips (lets.take i) ms ++ (ms.take j).flatMap fun l => ms.map fun v => (z, l, v)).filter isB).length : Nat) : Int)), o13, o14] ∧ SX ls H2 HX r4 r5 r8 as4 fs lets rs E ∧ HX rA = some (.lst (asA.map V.ref)) ∧ Mks HX asA ms)
            ⟨o13', o14', by rw [List.take_zero, List.flatMap_nil, List.append_nil]; rfl, SY.same sA, hA, mA⟩ (fun j σ HX _ h => by obtain ⟨_, _, _, _, h, _⟩ := h; exact SqL.of h) ?_ ?_
          · rintro j x σ HB hx ⟨o13', o14', rfl, SB, hB, mB⟩
            rw [List.getElem?_map] at hx
            cases ea : asA[j]? with
            | none => rw [ea] at hx; cases hx
            | some al =>
              rw [ea] at hx
              cases hx
              have jl : j < ms.length := by rw [← mB.1]; exact (List.getElem?_eq_some_iff.mp ea).1
              have em : ms[j]? = some ms[j] := List.getElem?_eq_getElem jl
              have hl := mB.2 j al _ ea em
              have lm := mln _ (List.getElem_mem jl)
              have lx : (ms.take (j + 1)).flatMap (fun l => ms.map fun v => (z, l, v)) = (ms.take j).flatMap (fun l => ms.map fun v => (z, l, v)) ++ ms.map fun v => (z, ms[j], v) := by
                rw [List.take_succ, em, List.flatMap_append]; simp
              generalize ms[j] = l at hl lm lx
              refine ⟨_, rfl, m, hv, m4, fun rC asC HC sC fC hC mC => ?_⟩
              rw [hms] at mC
              refine ⟨rC, rfl, ⟨_, SqL.of hC⟩, ?_⟩
              refine for_list (K := K) (xs := asC.map V.ref) (fun k σ HX => ∃ (o14 : Option V), σ = [some (.ref a), some (.int cell), some (.ref p), some (.int (1 + n1)), some (.ref r4), some (.ref r5), some (.ref r6), some (.int often), some (.ref r8), some (.str z), o10, o11, some (.int ((((trips (lets.take i) ms ++ (ms.take j).flatMap (fun l => ms.map fun v => (z, l, v)) ++ (ms.take k).map fun v => (z, l, v)).filter isB).length : Nat) : Int)), some (.ref al), o14] ∧ SX ls H2 HX r4 r5 r8 as4 fs lets rs E ∧ (HX rA = some (.lst (asA.map V.ref)) ∧ Mks HX asA ms) ∧ (HX rC = some (.lst (asC.map V.ref)) ∧ Mks HX asC ms) ∧ HX al = some (.tup (l.map V.bl)))
                ⟨o14', by rw [List.take_zero, List.map_nil, List.append_nil]; rfl, SB.same sC, ⟨sC _ _ hB, mB.same sC⟩, ⟨hC, mC⟩, sC _ _ hl⟩ (fun k σ HX _ h => by obtain ⟨_, _, _, _, h, _⟩ := h; exact SqL.of h.1) ?_ ?_
              · rintro k' x σ HD hx ⟨o14', rfl, SD, ⟨hD1, hD2⟩, ⟨hD3, hD4⟩, hD5⟩
                rw [List.getElem?_map] at hx
                cases eb : asC[k']? with
                | none => rw [eb] at hx; cases hx
                | some av =>
                  rw [eb] at hx
                  cases hx
                  have kl : k' < ms.length := by rw [← hD4.1]; exact (List.getElem?_eq_some_iff.mp eb).1
                  have em : ms[k']? = some ms[k'] := List.getElem?_eq_getElem kl
                  have hv' := hD4.2 k' av _ eb em
                  have vm := mln _ (List.getElem_mem kl)
                  have vx : (ms.take (k' + 1)).map (fun v => (z, l, v)) = (ms.take k').map (fun v => (z, l, v)) ++ [(z, l, ms[k'])] := by
                    rw [List.take_succ, em, List.map_append]; rfl
                  generalize ms[k'] = v at hv' vm vx
                  refine ⟨_, rfl, _, rfl, _, rfl, _, rfl, (by show 3 ≤ sizeLine; decide), fun tt htt => ?_⟩
                  have sE : Same HD (upd HD tt (.tup [.str z, .ref al, .ref av])) := (Same.refl HD).new htt
                  have hE : upd HD tt (.tup [.str z, .ref al, .ref av]) tt = some (.tup [.str z, .ref al, .ref av]) := upd_same
                  show (fun HH => _) (upd HD tt (.tup [.str z, .ref al, .ref av]))
                  generalize upd HD tt (.tup [.str z, .ref al, .ref av]) = HE at sE hE
                  have SE := SD.same sE
                  refine ⟨tt, z, l, v, m, rfl, ⟨al, av, hE, sE _ _ hD5, sE _ _ hv'⟩, zl', lm, vm, m1, by omega, zlow, SE.kt.lam, fun b HF hb kF => ?_⟩
                  have eb' : b = isB (z, l, v) := by rw [Bool.eq_iff_iff, hb, isB_iff]
                  refine .inr ⟨b, rfl, _, _, rfl, rfl, ?_⟩
                  have kk := Kt.of (ls := ls) sE SD.kt.lam |>.trans kF
                  refine ⟨some (.ref av), ?_, SE.step kF, ⟨kk.lst hD1, hD2.tups fun a xs e => kk.tup e⟩, ⟨kk.lst hD3, hD4.tups fun a xs e => kk.tup e⟩, kk.tup hD5⟩
                  rw [vx, ← List.append_assoc, filt_snoc, ← eb', ← iadd]
                  rfl
              · rintro σ HD ⟨o14', rfl, SD, ⟨hD1, hD2⟩, ⟨hD3, hD4⟩, hD5⟩
                refine ⟨some (.ref al), o14', ?_, SD, hD1, hD2⟩
                rw [List.length_map, hD4.1, List.take_length, lx, ← List.append_assoc]
          · rintro σ HB ⟨o13', o14', rfl, SB, hB, mB⟩
            refine ⟨some (.str z), o13', o14', ?_, SB⟩
            rw [List.length_map, mB.1, List.take_length, List.take_succ, ez]
            have : trips (lets.take i ++ (some z).toList) ms = trips (lets.take i) ms ++ ms.flatMap fun l => ms.map fun v => (z, l, v) := by
              unfold trips; rw [List.flatMap_append]; simp
            rw [this]
      · rintro σ HY ⟨o9', o13', o14', rfl, SY⟩
        rw [List.length_map, List.take_length, cnt]
        refine ⟨_, rfl, _, rfl, r5, _, rfl, .inl (SqL.of SY.h5), rfl, _, rfl, ite2 (fun c => ?_) (fun _ => ?_)⟩
        · have : (!decide (V.int ((E.length : Nat) : Int) = V.int (((rs.map V.ref).length : Nat) : Int))) = true := c
          rw [List.length_map, SY.ev.1, decide_eq_true rfl] at this
          cases this
        · exact ⟨_, _, _, _, _, _, _, _, _, _, _, _, _, _, rfl, k2.trans SY.kt⟩
  · rintro σ H' ⟨o1, o2, o3, o4, o5, o6, o7, o8, o9, o10, o11, o12, o13, o14, rfl, k1⟩
    exact q H'
end
end S30


set_option Elab.async false
set_option linter.all false
set_option maxRecDepth 100000
set_option maxHeartbeats 8000000
namespace S30
open PySem L2 W7
theorem df_mk {K : PySem.W.Frag} {h : Heap} {mg : Str → Option Value} {x : Str} {st : Stmt} {f : Addr} {oc : Value} {od an : Option Addr} {osl : Array (Option Value)} {kV doc pm cdv ct : Value} (X : K.In h) (G : h.Ns mainGlobals mg)
    (a : PySem.W.nsIn K mainGlobals x = some (some (.ref f))) (l : K.lookup f = some ⟨oc, od, .func (PySem.W.fnOf x x (defArgs st) (defBody st) (defScope st) .none kV doc pm an cdv ct), osl⟩) (c : PySem.W.codeIn K cdv x = true) (kk : PySem.W.keepIn K (.ref f) = true) : Df K mg x st :=
  ⟨f, _, fun_mk l c kk, PySem.W.mg_of X G a⟩
theorem blt_mk {K : PySem.W.Frag} {h : Heap} {mg : Str → Option Value} (X : K.In h) (G : h.Ns mainGlobals mg)
    (z1 : PySem.W.nsIn K mainGlobals "len" = some none) (z2 : PySem.W.nsIn K mainGlobals "range" = some none) (z3 : PySem.W.nsIn K mainGlobals "zip" = some none) (z4 : PySem.W.nsIn K mainGlobals "enumerate" = some none)
    (z5 : PySem.W.nsIn K mainGlobals "max" = some none) (z6 : PySem.W.nsIn K mainGlobals "min" = some none) (z7 : PySem.W.nsIn K mainGlobals "int" = some none) (z8 : PySem.W.nsIn K mainGlobals "str" = some none)
    (z9 : PySem.W.nsIn K mainGlobals "bool" = some none) (z10 : PySem.W.nsIn K mainGlobals "list" = some none) (z11 : PySem.W.nsIn K mainGlobals "tuple" = some none) (z12 : PySem.W.nsIn K mainGlobals "isinstance" = some none) : Blt mg :=
  ⟨PySem.W.mg_none_of X G z1, PySem.W.mg_none_of X G z2, PySem.W.mg_none_of X G z3, PySem.W.mg_none_of X G z4, PySem.W.mg_none_of X G z5, PySem.W.mg_none_of X G z6, PySem.W.mg_none_of X G z7, PySem.W.mg_none_of X G z8,
    PySem.W.mg_none_of X G z9, PySem.W.mg_none_of X G z10, PySem.W.mg_none_of X G z11, PySem.W.mg_none_of X G z12⟩
theorem all_ok {P : Program} {w : World} {K : PySem.W.Frag} {mg : Str → Option Value} {fa : Addr} (hfa : mg "law" = some (.ref fa)) (B : Blt7 mg)
    (d1 : Df K mg "words_of" s_words_of) (d2 : Df K mg "order_of" s_order_of) (d3 : Df K mg "ranks_of" s_ranks_of) (d4 : Df K mg "is_letters" s_is_letters) (d5 : Df K mg "is_labels" s_is_labels) (d6 : Df K mg "beneath_of" s_beneath_of) (d7 : Df K mg "is_leaf" s_is_leaf) (d8 : Df K mg "grown_tree" s_grown_tree) (d9 : Df K mg "kept_order" s_kept_order) (d10 : Df K mg "rows_of" s_rows_of) (d11 : Df K mg "is_last" s_is_last) (d12 : Df K mg "is_rows" s_is_rows) (d13 : Df K mg "tree_of" s_tree_of) (d14 : Df K mg "has_form" s_has_form) (d15 : Df K mg "is_truths" s_is_truths) (d16 : Df K mg "tree_by" s_tree_by) (d17 : Df K mg "groups_of" s_groups_of) (d18 : Df K mg "group_numbers" s_group_numbers) (d19 : Df K mg "_law_prime" s_law_prime) (d20 : Df K mg "_law_pool" s_law_pool) (d21 : Df K mg "_law_take" s_law_take) (d22 : Df K mg "_law_cells" s_law_cells) (d23 : Df K mg "_law_forms" s_law_forms) (d24 : Df K mg "_law_texts" s_law_texts) (d25 : Df K mg "_law_marks" s_law_marks) (d26 : Df K mg "law" s_law) :
    ∃ fd : FuncData, (∀ (s : Shared) (v : Value), BindsTo s fd ⟨[v], []⟩ [("script", v)]) ∧ ∀ (Ts : List Addr) (base : Heap), K.In base → Two (TabAt base mg) ["order_of", "kept_order"] Ts → FnOk P w K mg base CX0 12 fa fd ["script"] (sp_law (lamsOf Ts) K) := by
  obtain ⟨f, fd, F, m⟩ := d26
  have e := hfa.symm.trans m
  cases e
  refine ⟨fd, ?_, fun Ts base kb TT => ?_⟩
  · obtain ⟨oc, od, kV, doc, pm, an, cdv, ct, osl, rfl, _, _⟩ := F.ex
    exact fun s v => .of_eq rfl
  cases TT with
  | cons TA1 TT2 =>
    rename_i T1 _
    cases TT2 with
    | cons TA2 TT3 =>
      rename_i T2 _
      cases TT3
      have LK : LmOk (lamsOf [T1, T2]) := lm_ok _
      have LI1 : (T1, lpO, qO) ∈ lamsOf [T1, T2] := List.mem_cons_self ..
      have LI2 : (T2, lpK, qK) ∈ lamsOf [T1, T2] := List.mem_cons_of_mem _ (List.mem_cons_self ..)
      have g_words := has_words (P := P) (w := w) (base := base) (k := 0) d1 B.toBlt
      have g_order := has_order (k := 1) d2 B kb TA1 LK LI1 g_words
      have g_ranks := has_ranks (k := 2) d3 B g_order
      have g_kept := has_kept (k := 3) d9 B kb TA2 LK LI2 g_ranks
      have g_ben := has_beneath (P := P) (w := w) (base := base) (k := 0) d6 B
      have g_leaf := has_leaf (P := P) (w := w) (base := base) (k := 0) d7 B
      have g_last := has_last (k := 1) d11 B g_ben
      have g_rows := has_rows (k := 4) d10 B g_kept (g_last.mono (by decide)) (g_leaf.mono (by decide))
      have g_prime := has_prime (P := P) (w := w) (base := base) (k := 0) d19 B.toBlt
      have g_pool := has_pool (P := P) (w := w) (base := base) (k := 0) d20 B.toBlt
      have g_take := has_take (k := 1) d21 B.toBlt g_prime
      have g_cells := has_cells (P := P) (w := w) (base := base) (k := 0) d22 B
      have g_groups := has_groups (P := P) (w := w) (base := base) (k := 0) d17 B
      have g_gnums := has_gnums (P := P) (w := w) (base := base) (k := 0) d18 B
      have g_grow := has_grow (P := P) (w := w) (base := base) (k := 0) d8 B
      have g_by := has_by (k := 1) d16 B g_groups g_gnums g_grow
      have g_letters := has_letters (P := P) (w := w) (base := base) (k := 0) d4 B
      have g_labels := has_labels (k := 1) d5 B g_letters
      have g_truths := has_truths (P := P) (w := w) (base := base) (k := 0) d15 B
      have g_form := has_form (k := 2) d14 B g_labels (g_truths.mono (by decide)) (g_groups.mono (by decide))
      have g_isrows := has_isrows (k := 5) d12 B (g_form.mono (by decide)) g_rows (g_by.mono (by decide))
      have g_treeof := has_treeof (k := 6) d13 B g_isrows (g_by.mono (by decide))
      have g_forms := has_forms (P := P) (w := w) (base := base) (k := 0) d23 B
      have g_texts := has_texts (P := P) (w := w) (base := base) (k := 0) d24 B
      have g_marks := has_marks (P := P) (w := w) (base := base) (k := 0) d25 B
      exact (ok_law (k := 7) F B (g_cells.mono (by decide)) (g_pool.mono (by decide)) (g_take.mono (by decide)) (g_forms.mono (by decide)) (g_texts.mono (by decide)) (g_marks.mono (by decide)) (g_rows.mono (by decide)) (g_isrows.mono (by decide)) g_treeof).mono (by decide)
end S30
open PySem PySem.W PyProof.Rows
set_option maxRecDepth 100000 in
set_option maxHeartbeats 0 in
theorem PySem.Challenge.cw_upwords_k30_rows_of_few_letters_holds : PySem.Challenge.rw_upwords_k30_rows_of_few_letters.Holds := by
  w_on; o_law; k_head; (case hw => w_witness2)
  k_fill
  refine L2.walk_ofT (l := PySem.Challenge.rw_upwords_k30_rows_of_few_letters) (n := 63) (k := 12) (x := "script") (nms := ["order_of", "kept_order"]) (CX := L2.CX0) (sp := fun Ts => S30.sp_law (S30.lamsOf Ts)) rfl (by decide) rfl ⟨rfl, by decide, by decide, rfl⟩ (fun w h Y => PySem.W.km_in_of Y) (.cons rfl (.cons rfl .nil)) (fun w => by kernel_rfl) ?F
    (fun K Ts H a ns hl hlen hT hS => ⟨a, ns, rfl, hS, hl, S30.lams_start hlen hT, fun _ => rfl⟩) (fun _ _ _ _ z => z)
  case F =>
    intro w mg fa h KX G hmg
    have B : L2.Blt mg := by
      refine' S30.blt_mk KX G ?z1 ?z2 ?z3 ?z4 ?z5 ?z6 ?z7 ?z8 ?z9 ?z10 ?z11 ?z12
      (case z1 => k_is); (case z2 => k_is); (case z3 => k_is); (case z4 => k_is); (case z5 => k_is); (case z6 => k_is); (case z7 => k_is); (case z8 => k_is); (case z9 => k_is); (case z10 => k_is); (case z11 => k_is); (case z12 => k_is)
    have Bx0 : mg "sorted" = none := by
      refine' PySem.W.mg_none_of KX G ?z
      (case z => k_is)
    have Bx1 : mg "all" = none := by
      refine' PySem.W.mg_none_of KX G ?z
      (case z => k_is)
    have Bx2 : mg "repr" = none := by
      refine' PySem.W.mg_none_of KX G ?z
      (case z => k_is)
    have Bx3 : ∃ u, mg "MOST_PLACES" = some u ∧ L2.RelV (.int 60) u := by
      refine' ⟨_, PySem.W.mg_of KX G ?z, ?r⟩
      (case z => k_is)
      (case r => exact ⟨_, rfl⟩)
    have Bx4 : ∃ u, mg "LETTERS" = some u ∧ L2.RelV (.str "abcdefghijklmnopqrstuvwxyz") u := by
      refine' ⟨_, PySem.W.mg_of KX G ?z, ?r⟩
      (case z => k_is)
      (case r => exact ⟨_, rfl⟩)
    have d1 : L2.Df (L2.KOf KX) mg "words_of" S30.s_words_of := by
      dsimp only [L2.KOf]; refine' S30.df_mk KX G ?a ?l ?c ?k
      (case a => k_is); (case l => k_is); (case c => k_is); (case k => k_is)
    have d2 : L2.Df (L2.KOf KX) mg "order_of" S30.s_order_of := by
      dsimp only [L2.KOf]; refine' S30.df_mk KX G ?a ?l ?c ?k
      (case a => k_is); (case l => k_is); (case c => k_is); (case k => k_is)
    have d3 : L2.Df (L2.KOf KX) mg "ranks_of" S30.s_ranks_of := by
      dsimp only [L2.KOf]; refine' S30.df_mk KX G ?a ?l ?c ?k
      (case a => k_is); (case l => k_is); (case c => k_is); (case k => k_is)
    have d4 : L2.Df (L2.KOf KX) mg "is_letters" S30.s_is_letters := by
      dsimp only [L2.KOf]; refine' S30.df_mk KX G ?a ?l ?c ?k
      (case a => k_is); (case l => k_is); (case c => k_is); (case k => k_is)
    have d5 : L2.Df (L2.KOf KX) mg "is_labels" S30.s_is_labels := by
      dsimp only [L2.KOf]; refine' S30.df_mk KX G ?a ?l ?c ?k
      (case a => k_is); (case l => k_is); (case c => k_is); (case k => k_is)
    have d6 : L2.Df (L2.KOf KX) mg "beneath_of" S30.s_beneath_of := by
      dsimp only [L2.KOf]; refine' S30.df_mk KX G ?a ?l ?c ?k
      (case a => k_is); (case l => k_is); (case c => k_is); (case k => k_is)
    have d7 : L2.Df (L2.KOf KX) mg "is_leaf" S30.s_is_leaf := by
      dsimp only [L2.KOf]; refine' S30.df_mk KX G ?a ?l ?c ?k
      (case a => k_is); (case l => k_is); (case c => k_is); (case k => k_is)
    have d8 : L2.Df (L2.KOf KX) mg "grown_tree" S30.s_grown_tree := by
      dsimp only [L2.KOf]; refine' S30.df_mk KX G ?a ?l ?c ?k
      (case a => k_is); (case l => k_is); (case c => k_is); (case k => k_is)
    have d9 : L2.Df (L2.KOf KX) mg "kept_order" S30.s_kept_order := by
      dsimp only [L2.KOf]; refine' S30.df_mk KX G ?a ?l ?c ?k
      (case a => k_is); (case l => k_is); (case c => k_is); (case k => k_is)
    have d10 : L2.Df (L2.KOf KX) mg "rows_of" S30.s_rows_of := by
      dsimp only [L2.KOf]; refine' S30.df_mk KX G ?a ?l ?c ?k
      (case a => k_is); (case l => k_is); (case c => k_is); (case k => k_is)
    have d11 : L2.Df (L2.KOf KX) mg "is_last" S30.s_is_last := by
      dsimp only [L2.KOf]; refine' S30.df_mk KX G ?a ?l ?c ?k
      (case a => k_is); (case l => k_is); (case c => k_is); (case k => k_is)
    have d12 : L2.Df (L2.KOf KX) mg "is_rows" S30.s_is_rows := by
      dsimp only [L2.KOf]; refine' S30.df_mk KX G ?a ?l ?c ?k
      (case a => k_is); (case l => k_is); (case c => k_is); (case k => k_is)
    have d13 : L2.Df (L2.KOf KX) mg "tree_of" S30.s_tree_of := by
      dsimp only [L2.KOf]; refine' S30.df_mk KX G ?a ?l ?c ?k
      (case a => k_is); (case l => k_is); (case c => k_is); (case k => k_is)
    have d14 : L2.Df (L2.KOf KX) mg "has_form" S30.s_has_form := by
      dsimp only [L2.KOf]; refine' S30.df_mk KX G ?a ?l ?c ?k
      (case a => k_is); (case l => k_is); (case c => k_is); (case k => k_is)
    have d15 : L2.Df (L2.KOf KX) mg "is_truths" S30.s_is_truths := by
      dsimp only [L2.KOf]; refine' S30.df_mk KX G ?a ?l ?c ?k
      (case a => k_is); (case l => k_is); (case c => k_is); (case k => k_is)
    have d16 : L2.Df (L2.KOf KX) mg "tree_by" S30.s_tree_by := by
      dsimp only [L2.KOf]; refine' S30.df_mk KX G ?a ?l ?c ?k
      (case a => k_is); (case l => k_is); (case c => k_is); (case k => k_is)
    have d17 : L2.Df (L2.KOf KX) mg "groups_of" S30.s_groups_of := by
      dsimp only [L2.KOf]; refine' S30.df_mk KX G ?a ?l ?c ?k
      (case a => k_is); (case l => k_is); (case c => k_is); (case k => k_is)
    have d18 : L2.Df (L2.KOf KX) mg "group_numbers" S30.s_group_numbers := by
      dsimp only [L2.KOf]; refine' S30.df_mk KX G ?a ?l ?c ?k
      (case a => k_is); (case l => k_is); (case c => k_is); (case k => k_is)
    have d19 : L2.Df (L2.KOf KX) mg "_law_prime" S30.s_law_prime := by
      dsimp only [L2.KOf]; refine' S30.df_mk KX G ?a ?l ?c ?k
      (case a => k_is); (case l => k_is); (case c => k_is); (case k => k_is)
    have d20 : L2.Df (L2.KOf KX) mg "_law_pool" S30.s_law_pool := by
      dsimp only [L2.KOf]; refine' S30.df_mk KX G ?a ?l ?c ?k
      (case a => k_is); (case l => k_is); (case c => k_is); (case k => k_is)
    have d21 : L2.Df (L2.KOf KX) mg "_law_take" S30.s_law_take := by
      dsimp only [L2.KOf]; refine' S30.df_mk KX G ?a ?l ?c ?k
      (case a => k_is); (case l => k_is); (case c => k_is); (case k => k_is)
    have d22 : L2.Df (L2.KOf KX) mg "_law_cells" S30.s_law_cells := by
      dsimp only [L2.KOf]; refine' S30.df_mk KX G ?a ?l ?c ?k
      (case a => k_is); (case l => k_is); (case c => k_is); (case k => k_is)
    have d23 : L2.Df (L2.KOf KX) mg "_law_forms" S30.s_law_forms := by
      dsimp only [L2.KOf]; refine' S30.df_mk KX G ?a ?l ?c ?k
      (case a => k_is); (case l => k_is); (case c => k_is); (case k => k_is)
    have d24 : L2.Df (L2.KOf KX) mg "_law_texts" S30.s_law_texts := by
      dsimp only [L2.KOf]; refine' S30.df_mk KX G ?a ?l ?c ?k
      (case a => k_is); (case l => k_is); (case c => k_is); (case k => k_is)
    have d25 : L2.Df (L2.KOf KX) mg "_law_marks" S30.s_law_marks := by
      dsimp only [L2.KOf]; refine' S30.df_mk KX G ?a ?l ?c ?k
      (case a => k_is); (case l => k_is); (case c => k_is); (case k => k_is)
    have d26 : L2.Df (L2.KOf KX) mg "law" S30.s_law := by
      dsimp only [L2.KOf]; refine' S30.df_mk KX G ?a ?l ?c ?k
      (case a => k_is); (case l => k_is); (case c => k_is); (case k => k_is)
    obtain ⟨fd, h1, h2⟩ := S30.all_ok (P := PySem.Challenge.rw_upwords_k30_rows_of_few_letters.prog) (w := w) hmg ⟨B, Bx0, Bx1, Bx2, Bx3, Bx4⟩ d1 d2 d3 d4 d5 d6 d7 d8 d9 d10 d11 d12 d13 d14 d15 d16 d17 d18 d19 d20 d21 d22 d23 d24 d25 d26
    exact ⟨fd, h1, fun Ts base kb _ TA => h2 Ts base kb TA⟩

