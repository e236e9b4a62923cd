import PyProof.Rows.All
import Wide.All
import OpenK.AllK
import Wide.FinOn
import Lean
import PyProof.EqAt
import PyProof.EqKinds
import PyProof.TupleCall
import PyProof.WalkInts
import PyProof.NeKinds
import KE.KSortTup
import KE.KLam
import PyProof.ListRange
import KE.KDictOf
import PyProof.DictWalks
import PyProof.AttrMissSeq
import KE.KDictSum
import KE.KTryOn
import PyProof.NsDelKeeps
import PyProof.ExcAttrAll.ValueError
import KE.KMinKey
import PyProof.StrBlock
import PyProof.StrLaws
import PySem.Challenge.RW_upwords_k21_most_read_and_again
set_option Elab.async false
set_option linter.all false
set_option maxRecDepth 100000
/-! THE HAND LAYER, for ints, bools, texts, own classes, LISTS and tuples (index, slices, in, append, pop ..), calls, loops. Paste it whole ahead of your own text; what your proof does not reach may be deleted. -/
namespace L2
open PySem PySem.Spec PyProof.Rows

/-- a key: an int or a str -/
abbrev Key := Sum Int Str
def keyIs : Key → Value → Bool
  | .inl k, v => Value.isInt k v
  | .inr x, v => Value.isStrOf x v
def keyH (w : World) : Key → Int
  | .inl k => hashInt k
  | .inr x => hashStr w x
theorem keyIs_shape : ∀ {k : Key} {v : Value}, keyIs k v = true → (∃ i t, k = Sum.inl i ∧ v = Value.int i t) ∨ (∃ x t, k = Sum.inr x ∧ v = Value.str x t)
  | .inl i, v, h => by
    obtain ⟨t, e⟩ := Value.isInt_shape (k := i) (v := v) h
    exact .inl ⟨i, t, rfl, e⟩
  | .inr x, v, h => by
    obtain ⟨t, e⟩ := Value.isStrOf_shape (x := x) (v := v) h
    exact .inr ⟨x, t, rfl, e⟩
theorem keyIs_int (i : Int) (t : Tok) : keyIs (.inl i) (.int i t) = true := by simp [keyIs, Value.isInt]
theorem keyIs_str (x : Str) (t : Tok) : keyIs (.inr x) (.str x t) = true := by simp [keyIs, Value.isStrOf]
theorem key_ll (a b : Int) : decide ((Sum.inl a : Key) = Sum.inl b) = (a == b) := by
  by_cases e : a = b
  · subst e; simp
  · have h : ¬ (Sum.inl a : Key) = Sum.inl b := fun q => e (Sum.inl.inj q)
    rw [decide_eq_false h]
    exact (beq_eq_false_iff_ne.mpr e).symm
theorem key_rr (a b : Str) : decide ((Sum.inr a : Key) = Sum.inr b) = decide (a = b) := by
  by_cases e : a = b
  · subst e; simp
  · have h : ¬ (Sum.inr a : Key) = Sum.inr b := fun q => e (Sum.inr.inj q)
    rw [decide_eq_false h, decide_eq_false e]
theorem key_lr (a : Int) (b : Str) : decide ((Sum.inl a : Key) = Sum.inr b) = false := decide_eq_false (fun q => nomatch q)
theorem key_rl (a : Str) (b : Int) : decide ((Sum.inr a : Key) = Sum.inl b) = false := decide_eq_false (fun q => nomatch q)

def mixKind (prog : Program) (w : World) : PySem.KeyKind prog w Key where
  is := keyIs
  hash := keyH w
  inj := fun v a b ha hb => by
    rcases keyIs_shape ha with ⟨i, t, rfl, rfl⟩ | ⟨x, t, rfl, rfl⟩
    · rcases keyIs_shape hb with ⟨j, u, rfl, e⟩ | ⟨y, u, rfl, e⟩
      · injection e with e1 _; rw [e1]
      · exact nomatch e
    · rcases keyIs_shape hb with ⟨j, u, rfl, e⟩ | ⟨y, u, rfl, e⟩
      · exact nomatch e
      · injection e with e1 _; rw [e1]
  byValue := fun k v h => by
    rcases keyIs_shape h with ⟨i, t, rfl, rfl⟩ | ⟨x, t, rfl, rfl⟩ <;> rfl
  pyHash := fun hv h => by
    rcases keyIs_shape hv with ⟨i, t, rfl, rfl⟩ | ⟨x, t, rfl, rfl⟩
    · exact wpAny_pyHash_int h
    · exact wpAny_pyHash_str h
  eqBool := fun hu hv h => by
    rcases keyIs_shape hu with ⟨i, t, rfl, rfl⟩ | ⟨x, t, rfl, rfl⟩
    · rcases keyIs_shape hv with ⟨j, u, rfl, rfl⟩ | ⟨y, u, rfl, rfl⟩
      · rw [key_ll] at h; exact wpAny_eqBool_int h
      · rw [key_lr] at h; exact SeqAt.EqAt.int_str i t y u _ _ _ _ h
    · rcases keyIs_shape hv with ⟨j, u, rfl, rfl⟩ | ⟨y, u, rfl, rfl⟩
      · rw [key_rl] at h; exact SeqAt.EqAt.str_int x t j u _ _ _ _ h
      · rw [key_rr] at h; exact wpAny_eqBool_str h
  «strs» := fun k x t v h => by
    rcases keyIs_shape h with ⟨i, u, rfl, e⟩ | ⟨y, u, rfl, e⟩
    · exact nomatch e
    · injection e with e1 _
      subst e1
      cases v <;> rfl

theorem mixKind_int (prog : Program) (w : World) (i : Int) (t : Tok) : (mixKind prog w).is (.inl i) (.int i t) = true := keyIs_int i t
theorem mixKind_str (prog : Program) (w : World) (x : Str) (t : Tok) : (mixKind prog w).is (.inr x) (.str x t) = true := keyIs_str x t
end L2

namespace L2
open PySem PySem.Spec PyProof.Rows

/-- a value, without the heap -/
inductive V where
  | non | bl (b : Bool) | int (i : Int) | str (x : Str) | byt (b : Array UInt8) | flt (b : UInt64) | ref (a : Addr) | ty (n : String)
  deriving DecidableEq

def RelV : V → Value → Prop
  | .non, u => u = Value.none
  | .bl b, u => u = Value.bool b
  | .int i, u => ∃ t, u = Value.int i t
  | .str x, u => ∃ t, u = Value.str x t
  | .byt b, u => ∃ t, u = Value.bytes b t
  | .flt b, u => ∃ t, u = Value.float b t
  | .ref a, u => u = Value.ref a
  | .ty n, u => u = Value.type n

abbrev Vals : List V → List Value → Prop := Paired RelV
theorem Vals.length {xs : List V} {us : List Value} (r : Vals xs us) : xs.length = us.length := Paired.length r
theorem Vals.get : ∀ {xs : List V} {us : List Value} {i : Nat} {x : V}, Vals xs us → xs[i]? = some x → ∃ u, us[i]? = some u ∧ RelV x u
  | _, _, _, _, .nil, e => by simp at e
  | _, _, 0, _, .cons r _, e => by simp at e; subst e; exact ⟨_, rfl, r⟩
  | _, _, i + 1, x, .cons _ t, e => by
    obtain ⟨u, h1, h2⟩ := Vals.get (i := i) (x := x) t (by simpa using e)
    exact ⟨u, by simpa using h1, h2⟩
theorem Vals.set {x : V} {u : Value} (r : RelV x u) : ∀ {xs : List V} {us : List Value} (i : Nat), Vals xs us → Vals (xs.set i x) (us.set i u)
  | _, _, _, .nil => .nil
  | _, _, 0, .cons _ t => .cons r t
  | _, _, i + 1, .cons q t => .cons q (Vals.set r i t)
theorem Vals.append : ∀ {xs ys : List V} {us ws : List Value}, Vals xs us → Vals ys ws → Vals (xs ++ ys) (us ++ ws)
  | _, _, _, _, .nil, s => s
  | _, _, _, _, .cons r t, s => .cons r (Vals.append t s)
theorem Vals.take : ∀ {xs : List V} {us : List Value} (n : Nat), Vals xs us → Vals (xs.take n) (us.take n)
  | _, _, 0, _ => .nil
  | _, _, _ + 1, .nil => .nil
  | _, _, n + 1, .cons r t => .cons r (Vals.take n t)
theorem Vals.drop : ∀ {xs : List V} {us : List Value} (n : Nat), Vals xs us → Vals (xs.drop n) (us.drop n)
  | _, _, 0, r => r
  | _, _, _ + 1, .nil => .nil
  | _, _, n + 1, .cons _ t => Vals.drop n t
def RelO : Option V → Option Value → Prop
  | some v, some u => RelV v u
  | none, none => True
  | _, _ => False
def KV {κ : Type} : List (κ × V) → List (κ × Value) → Prop := Paired fun (p : κ × V) (q : κ × Value) => p.1 = q.1 ∧ RelV p.2 q.2

/-- a key of a dict (00_mix): an int or a text -/
def kV : Key → V
  | .inl i => .int i
  | .inr x => .str x

/-- what stands at a tracked address -/
inductive HO where
  /-- a list -/
  | lst (xs : List V)
  /-- a tuple (never changes) -/
  | tup (xs : List V)
  /-- a dict whose keys are ints and texts; one whose keys are tuples of ints and texts (the empty one is both) -/
  | dK (kvs : List (Key × V)) | dT (kvs : List (List Key × V))
  /-- a set of ints: its members, its size -/
  | set (S : Int → Bool) (n : Nat)
  /-- an instance of the class at C, its dict at dx, its attributes -/
  | ins (C dx : Addr) (fs : List (Str × V))
  /-- the dict of the instance at x -/
  | own (x : Addr)
  /-- the dict of an exception -/
  | xd (fs : List (Str × V))
  /-- a bound method, f of x -/
  | met (f x : Addr)
  /-- a range object lo, lo + 1, .. below hi -/
  | rng (lo hi : Int)
  /-- a thing that is known to the object (the script; a dict while a loop walks it): read, never written while it is so -/
  | frz (o : Obj) (u : HO)
  /-- a code object's table -/
  | tbl (ps : Array Value)
  /-- any other thing, by what is true of its one object (a def of one's own: SetO a S n := HO.ext fun h => ..) -/
  | ext (φ : Heap → Prop)

abbrev Hp := Addr → Option HO
def upd (H : Hp) (a : Addr) (o : HO) : Hp := fun b => if b = a then some o else H b
theorem upd_same {H : Hp} {a : Addr} {o : HO} : upd H a o a = some o := by unfold upd; rw [if_pos rfl]
theorem upd_ne {H : Hp} {a b : Addr} {o : HO} (h : b ≠ a) : upd H a o b = H b := by unfold upd; rw [if_neg h]
/-- two objects of different content stand apart -/
theorem ne_of {H : Hp} {a b : Addr} {o u : HO} (h : H a = some o) (h' : H b = some u) (d : o ≠ u) : a ≠ b := by
  intro e; subst e; rw [h] at h'; exact d (Option.some.inj h')
theorem ne_of_none {H : Hp} {a b : Addr} {o : HO} (h : H a = some o) (h' : H b = none) : a ≠ b := by
  intro e; subst e; rw [h] at h'; cases h'

section
variable (P : Program) (w : World)
def ObjOk (H : Hp) (h : Heap) (a : Addr) : HO → Prop
  | .lst xs => xs.length ≤ sizeLine ∧ ∃ (its : List Value) (n : Nat), Vals xs its ∧ h.get? a = some { cls := .type "list", data := .seq its.toArray n }
  | .tup xs => (xs.length ≤ sizeLine ∧ ∃ o, h.get? a = some o ∧ o.dict = none) ∧ ∃ its : List Value, Vals xs its ∧ IsTup h a its.toArray
  | .dK kvs => kvs.length ≤ sizeLine ∧ (a == sysModules) = false ∧ ∃ vs, KV kvs vs ∧ h.DictOf (mixKind P w) a vs
  | .dT kvs => kvs.length ≤ sizeLine ∧ (a == sysModules) = false ∧ ∃ xs : List (List Key × Addr × Value),
      Paired (fun (p : List Key × V) (q : List Key × Addr × Value) => p.1 = q.1 ∧ H q.2.1 = some (.tup (p.1.map kV)) ∧ RelV p.2 q.2.2) kvs xs ∧
      ∃ o es ep, h.get? a = some o ∧ o.ExactDict ∧ o.data = .dict es ep ∧ es.toList = xs.map (entryOfKey (tupleKind (mixKind P w))) ∧ (xs.map (·.1)).Nodup
  | .set S n => h.SetOf (intKind P w) a S n
  | .ins C dx fs => H dx = some (.own a) ∧ fs.length ≤ 1000 ∧ dx ≠ a ∧ h.get? a = some (PySem.W.instObj C dx) ∧
      ∃ mA, h.Ns1 dx mA ∧ (∀ f, RelO (fs.lookup f) (mA f)) ∧ PySem.Within mA (fs.map (·.1))
  | .own _ => ∃ o, h.get? a = some o
  | .xd fs => ∃ mA, h.Ns1 a mA ∧ ∀ f, RelO (fs.lookup f) (mA f)
  | .rng lo hi => ∃ t u v, h.get? a = some { cls := .type "range", data := .fields #[.int lo t, .int hi u, .int 1 v] }
  | .frz o u => h.get? a = some o ∧ ObjOk H h a u
  | .tbl ps => h.get? a = some { cls := .none, data := .fields ps }
  | .met f x => h.get? a = some (PySem.W.methodObj (.ref f) (.ref x))
  | .ext φ => φ h ∧ (∃ o, h.get? a = some o) ∧ ∀ h1 h2 : Heap, φ h1 → (∀ o, h1.get? a = some o → h2.get? a = some o) → φ h2
/-- the abstract heap is held -/
def HOk (H : Hp) (h : Heap) : Prop := ∀ a o, H a = some o → ObjOk P w H h a o
end

section
variable {P : Program} {w : World} {H H' : Hp} {h h' : Heap} {a : Addr} {o : HO}
theorem ObjOk.lt (x : ObjOk P w H h a o) : a < h.objs.size := by
  cases o with
  | lst xs => obtain ⟨_, _, _, _, e⟩ := x; exact Heap.lt_size e
  | tup xs => obtain ⟨_, _, _, p⟩ := x; exact p.lt
  | dK kvs => obtain ⟨_, _, _, _, o, _, _, e, _⟩ := x; exact Heap.lt_size e
  | dT kvs => obtain ⟨_, _, _, _, o, _, _, e, _⟩ := x; exact Heap.lt_size e
  | set S n => obtain ⟨o, _, _, _, e, _⟩ := x; exact Heap.lt_size e
  | ins C dx fs => obtain ⟨_, _, _, e, _⟩ := x; exact Heap.lt_size e
  | own y => obtain ⟨_, e⟩ := x; exact Heap.lt_size e
  | xd fs => obtain ⟨_, ⟨_, _, _, e, _⟩, _⟩ := x; exact Heap.lt_size e
  | rng lo hi => obtain ⟨_, _, _, e⟩ := x; exact Heap.lt_size e
  | frz ob u => obtain ⟨e, _⟩ := x; exact Heap.lt_size e
  | tbl ps => exact Heap.lt_size (show h.get? a = some _ from x)
  | met f y => exact Heap.lt_size (show h.get? a = some _ from x)
  | ext φ => obtain ⟨_, ⟨_, e⟩, _⟩ := x; exact Heap.lt_size e
theorem Paired.mapP {α β : Type} {F G : α → β → Prop} : ∀ {l₁ : List α} {l₂ : List β}, Paired F l₁ l₂ → (∀ a b, F a b → G a b) → Paired G l₁ l₂
  | _, _, .nil, _ => .nil
  | _, _, .cons r t, f => .cons (f _ _ r) (Paired.mapP t f)
/-- what an object's description leans on: its own object, its own dict, the tuples -/
theorem ObjOk.stay (x : ObjOk P w H h a o) (k : ∀ b u, (b = a ∨ H b = some (.own a)) → h.get? b = some u → h'.get? b = some u)
    (ho : ∀ b, H b = some (.own a) → H' b = some (.own a)) (ht : ∀ b xs, H b = some (.tup xs) → H' b = some (.tup xs)) : ObjOk P w H' h' a o := by
  induction o with
  | lst xs => obtain ⟨z, its, n, r, e⟩ := x; exact ⟨z, its, n, r, k _ _ (.inl rfl) e⟩
  | tup xs => obtain ⟨⟨z, o1, e1, c1⟩, its, r, ob, e, c⟩ := x; exact ⟨⟨z, o1, k _ _ (.inl rfl) e1, c1⟩, its, r, ob, k _ _ (.inl rfl) e, c⟩
  | dK kvs => obtain ⟨z, y, vs, r, ob, es, ep, e, c⟩ := x; exact ⟨z, y, vs, r, ob, es, ep, k _ _ (.inl rfl) e, c⟩
  | dT kvs =>
    obtain ⟨z, y, xs, r, ob, es, ep, e, c⟩ := x
    exact ⟨z, y, xs, Paired.mapP r fun p q z => ⟨z.1, ht _ _ z.2.1, z.2.2⟩, ob, es, ep, k _ _ (.inl rfl) e, c⟩
  | set S n => obtain ⟨ob, es, ep, t, e, c⟩ := x; exact ⟨ob, es, ep, t, k _ _ (.inl rfl) e, c⟩
  | ins C dx fs =>
    obtain ⟨d, z, ne, e, mA, ⟨od, es, ep, e2, c⟩, r⟩ := x
    exact ⟨ho _ d, z, ne, k _ _ (.inl rfl) e, mA, ⟨od, es, ep, k _ _ (.inr d) e2, c⟩, r⟩
  | own y => obtain ⟨ob, e⟩ := x; exact ⟨ob, k _ _ (.inl rfl) e⟩
  | xd fs => obtain ⟨mA, ⟨od, es, ep, e, c⟩, r⟩ := x; exact ⟨mA, ⟨od, es, ep, k _ _ (.inl rfl) e, c⟩, r⟩
  | rng lo hi => obtain ⟨t, u, v, e⟩ := x; exact ⟨t, u, v, k _ _ (.inl rfl) e⟩
  | frz ob u ih => obtain ⟨e, q⟩ := x; exact ⟨k _ _ (.inl rfl) e, ih q⟩
  | tbl ps =>
    have e : h.get? a = some { cls := .none, data := .fields ps } := x
    show h'.get? a = some { cls := .none, data := .fields ps }
    exact k a _ (.inl rfl) e
  | met f y =>
    have e : h.get? a = some (PySem.W.methodObj (.ref f) (.ref y)) := x
    show h'.get? a = some (PySem.W.methodObj (.ref f) (.ref y))
    exact k a _ (.inl rfl) e
  | ext φ => obtain ⟨p, ⟨o, e⟩, st⟩ := x; exact ⟨st _ _ p fun o q => k _ _ (.inl rfl) q, ⟨o, k _ _ (.inl rfl) e⟩, st⟩
theorem HOk.lt (x : HOk P w H h) (e : H a = some o) : a < h.objs.size := (x a o e).lt
theorem HOk.fresh (x : HOk P w H h) (e : h.objs.size ≤ a) : H a = none := by
  cases q : H a with
  | none => rfl
  | some u => exact absurd (Nat.lt_of_lt_of_le (x.lt q) e) (Nat.lt_irrefl _)
/-- every object of the heap is kept -/
theorem HOk.kept (x : HOk P w H h) (k : ∀ b u, h.get? b = some u → h'.get? b = some u) : HOk P w H h' := fun a o e =>
  (x a o e).stay (fun b u _ q => k b u q) (fun _ q => q) fun _ _ q => q
/-- a new object is laid and tracked -/
theorem HOk.laid (x : HOk P w H h) (k : ∀ b u, h.get? b = some u → h'.get? b = some u) (hp : h.objs.size ≤ a) (new : ObjOk P w (upd H a o) h' a o) : HOk P w (upd H a o) h' := fun b u e => by
  have hn := x.fresh hp
  by_cases hb : b = a
  · subst hb; rw [upd_same] at e; cases e; exact new
  · rw [upd_ne hb] at e
    exact (x b u e).stay (fun c v _ q => k c v q) (fun c q => by rw [upd_ne (ne_of_none q hn)]; exact q) fun c xs q => by rw [upd_ne (ne_of_none q hn)]; exact q
end

/-- what may be read as u: it is u, or a known u -/
def Rd (H : Hp) (a : Addr) (u : HO) : Prop := H a = some u ∨ ∃ o, H a = some (.frz o u)
theorem Rd.of {H : Hp} {a : Addr} {u : HO} (h : H a = some u) : Rd H a u := .inl h
theorem Rd.ok {P : Program} {w : World} {H : Hp} {h : Heap} {a : Addr} {u : HO} (r : Rd H a u) (x : HOk P w H h) : ObjOk P w H h a u := by
  rcases r with r | ⟨o, r⟩
  · exact x a u r
  · obtain ⟨_, q⟩ := x a _ r
    exact q
/-- what may be written -/
def Mut : Option HO → Prop
  | some (.lst _) => True
  | some (.dK _) => True
  | some (.dT _) => True
  | some (.set _ _) => True
  | some (.ins _ _ _) => True
  | some (.ext _) => True
  | _ => False
section
variable {P : Program} {w : World} {H : Hp} {h h' : Heap} {x e : Addr} {o' : HO}
/-- the object at e is changed: x itself, or the dict of the instance x -/
theorem HOk.write (ok : HOk P w H h) (mu : Mut (H x)) (he : e = x ∨ H e = some (.own x)) (k : ∀ b u, b ≠ e → h.get? b = some u → h'.get? b = some u) (heo : ∃ u, h'.get? e = some u)
    (new : ObjOk P w (upd H x o') h' x o') : HOk P w (upd H x o') h' := fun b u q => by
  have nown : ∀ c y, H c = some (.own y) → c ≠ x := fun c y r z => by subst z; rw [r] at mu; exact mu
  have ntup : ∀ c xs, H c = some (.tup xs) → c ≠ x := fun c xs r z => by subst z; rw [r] at mu; exact mu
  by_cases hb : b = x
  · subst hb; rw [upd_same] at q; cases q; exact new
  · rw [upd_ne hb] at q
    by_cases hbe : b = e
    · have q' : H b = some (.own x) := by
        rcases he with z | z
        · exact absurd (hbe.trans z) hb
        · rw [hbe]; exact z
      rw [q] at q'; cases q'
      obtain ⟨v, hv⟩ := heo
      exact ⟨v, by rw [hbe]; exact hv⟩
    · refine (ok b u q).stay (fun c v hc r => k c v ?_ r) (fun c r => by rw [upd_ne (nown c b r)]; exact r) fun c xs r => by rw [upd_ne (ntup c xs r)]; exact r
      rcases hc with rfl | hc
      · exact hbe
      · rintro rfl
        rcases he with z | z
        · exact nown c b hc z
        · rw [hc] at z; cases z; exact hb rfl
end

/-! ### kept unless tracked; of the frames at fs (the callers') the slots may change (an exception that passes writes there); of the records at ex (iterators) nothing is said -/
structure Un (fs ex : List Addr) (H H' : Hp) (h h' : Heap) : Prop where
  keep : ∀ b o, h.get? b = some o → H b = none → b ∉ fs → b ∉ ex → h'.get? b = some o
  slot : ∀ b o, h.get? b = some o → H b = none → b ∈ fs → b ∉ ex → ∃ sl, h'.get? b = some { o with slots := sl }
  free : ∀ b o, h.get? b = some o → H b = none → b ∉ ex → H' b = none
  there : ∀ b o, h.get? b = some o → b ∉ ex → ∃ o', h'.get? b = some o'
  tups : ∀ b xs, H b = some (.tup xs) → H' b = some (.tup xs)
  frzs : ∀ b o u, H b = some (.frz o u) → H' b = some (.frz o u)
  tbls : ∀ b ps, H b = some (.tbl ps) → ∃ more, H' b = some (.tbl (ps ++ more))
section
variable {fs fs' ex ex' : List Addr} {H H1 H2 : Hp} {h h1 h2 h' : Heap} {a x e : Addr} {o : HO}
theorem Un.any (u : Un fs ex H H1 h h1) {b : Addr} {ob : Obj} (q : h.get? b = some ob) (n : H b = none) (hx : b ∉ ex) : ∃ sl, h1.get? b = some { ob with slots := sl } := by
  by_cases hb : b ∈ fs
  · exact u.slot b ob q n hb hx
  · exact ⟨ob.slots, u.keep b ob q n hb hx⟩
theorem Un.trans (a : Un fs ex H H1 h h1) (b : Un fs ex H1 H2 h1 h2) : Un fs ex H H2 h h2 where
  keep := fun c ob q n hc hx => b.keep c ob (a.keep c ob q n hc hx) (a.free c ob q n hx) hc hx
  slot := fun c ob q n hc hx => by
    obtain ⟨sl, e1⟩ := a.slot c ob q n hc hx
    obtain ⟨sl', e2⟩ := b.slot c _ e1 (a.free c ob q n hx) hc hx
    exact ⟨sl', e2⟩
  free := fun c ob q n hx => by
    obtain ⟨o', e1⟩ := a.there c ob q hx
    exact b.free c o' e1 (a.free c ob q n hx) hx
  there := fun c ob q hx => by
    obtain ⟨o', e1⟩ := a.there c ob q hx
    exact b.there c o' e1 hx
  tups := fun c xs q => b.tups c xs (a.tups c xs q)
  frzs := fun c ob xs q => b.frzs c ob xs (a.frzs c ob xs q)
  tbls := fun c ps q => by
    obtain ⟨m1, e1⟩ := a.tbls c ps q
    obtain ⟨m2, e2⟩ := b.tbls c _ e1
    exact ⟨m1 ++ m2, by rw [e2, Array.append_assoc]⟩
theorem Un.kept (k : ∀ b u, h.get? b = some u → h'.get? b = some u) : Un fs ex H H h h' :=
  ⟨fun b ob q _ _ _ => k b ob q, fun b ob q _ _ _ => ⟨ob.slots, k b ob q⟩, fun _ _ _ n _ => n, fun b ob q _ => ⟨ob, k b ob q⟩, fun _ _ q => q, fun _ _ _ q => q, fun _ ps q => ⟨#[], by rw [q]; simp⟩⟩
theorem Un.refl : Un fs ex H H h h := Un.kept fun _ _ q => q
theorem Un.laid (k : ∀ b u, h.get? b = some u → h'.get? b = some u) (hp : h.objs.size ≤ a) (hn : H a = none) : Un fs ex H (upd H a o) h h' where
  keep := fun b u q _ _ _ => k b u q
  slot := fun b u q _ _ _ => ⟨u.slots, k b u q⟩
  free := fun b u q n _ => by rw [upd_ne (Nat.ne_of_lt (Nat.lt_of_lt_of_le (Heap.lt_size q) hp))]; exact n
  there := fun b u q _ => ⟨u, k b u q⟩
  tups := fun b xs q => by rw [upd_ne (ne_of_none q hn)]; exact q
  frzs := fun b u xs q => by rw [upd_ne (ne_of_none q hn)]; exact q
  tbls := fun b ps q => ⟨#[], by rw [upd_ne (ne_of_none q hn), q]; simp⟩
theorem Un.write (mu : Mut (H x)) (he : e = x ∨ H e = some (.own x)) (k : ∀ b u, b ≠ e → h.get? b = some u → h'.get? b = some u) (heo : ∃ u, h'.get? e = some u) : Un fs ex H (upd H x o) h h' := by
  have hx : ∀ b, H b = none → b ≠ x := fun b n z => by subst z; rw [n] at mu; exact mu
  have hb : ∀ b, H b = none → b ≠ e := fun b n z => by
    subst z
    rcases he with r | r
    · exact hx b n r
    · rw [n] at r; cases r
  have hm : ∀ b u, H b = some u → ¬ Mut (some u) → b ≠ x := fun b u q nm z => by subst z; rw [q] at mu; exact nm mu
  refine ⟨fun b u q n _ _ => k b u (hb b n) q, fun b u q n _ _ => ⟨u.slots, k b u (hb b n) q⟩, fun b u q n _ => by rw [upd_ne (hx b n)]; exact n, fun b u q _ => ?_,
    fun b xs q => by rw [upd_ne (hm b _ q fun z => z)]; exact q, fun b u xs q => by rw [upd_ne (hm b _ q fun z => z)]; exact q, fun b ps q => ⟨#[], by rw [upd_ne (hm b _ q fun z => z), q]; simp⟩⟩
  by_cases hbe : b = e
  · subst hbe; exact heo
  · exact ⟨u, k b u hbe q⟩
theorem Un.mono (u : Un fs ex H H1 h h1) (hs : ∀ b ∈ fs, b ∈ fs') (hx : ∀ b ∈ ex, b ∈ ex') : Un fs' ex' H H1 h h1 :=
  ⟨fun b ob q n hb he => u.keep b ob q n (fun z => hb (hs b z)) fun z => he (hx b z), fun _ _ q n _ he => u.any q n fun z => he (hx _ z), fun b ob q n he => u.free b ob q n fun z => he (hx b z), fun b ob q he => u.there b ob q fun z => he (hx b z), u.tups, u.frzs, u.tbls⟩
end

/-! ### the heap without what is tracked -/
def trk (h : Heap) (H : Hp) : List Addr := (List.range h.objs.size).filter fun a => (H a).isSome
def hidT (h : Heap) (H : Hp) : Heap := PySem.W.hideAll h (trk h H)
theorem hidT_size (h : Heap) (H : Hp) : (hidT h H).objs.size = h.objs.size := PySem.W.hideAll_size _ _
theorem hidT_get {h : Heap} {H : Hp} {b : Addr} {o : Obj} (e : h.get? b = some o) (n : H b = none) : (hidT h H).get? b = some o :=
  PySem.W.hideAll_get _ e fun hm => by
    have q : (H b).isSome = true := (List.mem_filter.mp hm).2
    rw [n] at q; simp at q
theorem of_hidT {h : Heap} {H : Hp} {b : Addr} {o : Obj} (e : (hidT h H).get? b = some o) : h.get? b = some o ∧ H b = none := by
  have e' : h.get? b = some o := PySem.W.of_hideAll (trk h H) e
  refine ⟨e', ?_⟩
  cases q : H b with
  | none => rfl
  | some x =>
    have hm : b ∈ trk h H := List.mem_filter.mpr ⟨List.mem_range.mpr (Heap.lt_size e'), by simp [q]⟩
    have z : (hidT h H).get? b = none := PySem.W.hideAll_none (trk h H) hm
    rw [z] at e; cases e

/-! ### OpenK's ledger, filled with every new object but one -/
def allNews (g h : Heap) (L : Addr) : List (Addr × Obj) := (List.range h.objs.size).filterMap fun a => if a = L ∨ (g.get? a).isSome = true then none else (h.get? a).map fun o => (a, o)
def rest (g h : Heap) (L d : Addr) : List (Addr × Obj) := (allNews g h L).filter fun p => decide (p.1 ≠ d)
end L2

namespace L2
open PySem PySem.Spec PyProof.Rows

/-- the module's facts, over the base: the heap at the law's entry without what is tracked there -/
structure Mod (K : PySem.W.Frag) (mg : Str → Option Value) (base : Heap) : Prop where
  kin : K.In base
  glob : base.Ns mainGlobals mg
  blt : ∃ mb, base.Ns builtinsNs mb ∧ ∀ x : Str, x ≠ "__name__" → mb x = bootBuiltins x
  nolimit : base.NoLimit

/-- the context: a def's body (or a comprehension's block) running. base: fixed through the whole law; s₀, H₀: the entry; outer: the frames whose slots others may change (a def's callers); stack: all frames that run;
   ex: iterators that were made ahead of the entry and are walked here (a comprehension's); fn: the names whose cells were made at the entry (a def: all; a comprehension's block: its own); calm: not within an except suite; pn: pins that every state bears; xe: what is wanted of an exception that leaves the code -/
structure Cx where
  prog : Program
  w : World
  K : PySem.W.Frag
  mg : Str → Option Value
  base : Heap
  A : Around
  N : List Str
  s₀ : Shared
  H₀ : Hp
  env : Env
  outer : List Env
  stack : List Env
  ex : List Addr
  fn : Str → Bool
  calm : Bool
  pn : List (Addr × Obj)
  xe : Value → Shared → Prop
/-- the callers' frames -/
def frs (l : List Env) : List Addr := l.filterMap (·.frame)
abbrev Cx.fs (X : Cx) : List Addr := frs X.outer

def Vis (sc : Scope) (x : Str) : Prop := sc.names.lookup x = some .local ∨ sc.names.lookup x = some .cell ∨ sc.names.lookup x = some .free
def Loc (sc : Scope) (x : Str) : Prop := sc.names.lookup x = some .local ∨ sc.names.lookup x = some .cell
def Look (env : Env) (h : Heap) (m : Str → Option Value) (x : Str) (u : Value) : Prop :=
  (env.kindOf x = some .local ∧ m x = some u) ∨ ((env.kindOf x = some .cell ∨ env.kindOf x = some .free) ∧ ∃ c, env.cells.lookup x = some c ∧ h.IsCell c (some u))

structure Cx.Ok (X : Cx) : Prop where
  mod : Mod X.K X.mg X.base
  kind : X.env.scope.kind = .function
  glob : X.env.globals = mainGlobals
  blt : X.env.builtins = builtinsNs
  above : X.s₀.heap.objs.size ≤ X.env.locals
  inj : ∀ x y c, X.env.cells.lookup x = some c → X.env.cells.lookup y = some c → x = y
  has : ∀ x, (X.env.kindOf x = some .cell ∨ X.env.kindOf x = some .free) → ∃ c, X.env.cells.lookup x = some c
  cab : ∀ x c, X.fn x = true → X.env.cells.lookup x = some c → X.s₀.heap.objs.size ≤ c
  hd : X.calm = true → X.A.handled = none
  frames : X.A.frames = some X.stack
  stk : X.stack = X.outer ∨ (X.stack = X.env :: X.outer ∧ X.env.frame = some X.env.locals)
  exf : ∀ b ∈ X.ex, b ≠ X.env.locals ∧ ∀ x c, X.env.cells.lookup x = some c → c ≠ b
  bs : ∀ b o, X.base.get? b = some o → X.s₀.heap.get? b = some o ∧ X.H₀ b = none
  bsz : X.base.objs.size ≤ X.s₀.heap.objs.size
  noex : ∀ b o, X.base.get? b = some o → b ∉ X.ex
  exfs : ∀ b ∈ X.ex, b ∉ X.fs
  funs : X.s₀.heap.FunFrames X.base X.outer
  frf : ∀ b ∈ X.fs, X.H₀ b = none

structure Inv (X : Cx) (pins : List (Addr × Obj)) (σ : List (Option V)) (H : Hp) (s : Shared) : Prop where
  ok : X.Ok
  os : s.os = X.s₀.os
  bare : AllBare s.gens
  base : Un X.fs X.ex X.H₀ H X.s₀.heap s.heap
  loc : ∃ m, s.heap.Ns X.env.locals m ∧ ∀ (i : Nat) (x : Str) (v : V), X.N[i]? = some x → σ[i]? = some (some v) → Vis X.env.scope x → ∃ u, RelV v u ∧ Look X.env s.heap m x u
  cell : ∀ x c, X.env.cells.lookup x = some c → ∃ v, s.heap.IsCell c v
  free : H X.env.locals = none
  freeC : ∀ x c, X.env.cells.lookup x = some c → H c = none
  pin : ∀ p ∈ X.pn ++ pins, s.heap.get? p.1 = some p.2 ∧ H p.1 = none ∧ p.1 ≠ X.env.locals ∧ p.1 ∉ X.fs ∧ ∀ v, p.2.data ≠ .cell v
  hok : HOk X.prog X.w H s.heap
  len : σ.length = X.N.length

section
variable {X : Cx} {pins : List (Addr × Obj)} {σ : List (Option V)} {H H' : Hp} {s : Shared} {h' : Heap}

theorem Cx.Ok.nofr (ok : X.Ok) {b : Addr} {o : Obj} (e : X.base.get? b = some o) : b ∉ X.fs := fun hb => by
  have := (ok.funs.mem hb).1
  rw [e] at this; cases this
theorem Inv.bs (I : Inv X pins σ H s) : ∀ b o, X.base.get? b = some o → s.heap.get? b = some o ∧ H b = none := fun b o e =>
  ⟨I.base.keep b o (I.ok.bs b o e).1 (I.ok.bs b o e).2 (I.ok.nofr e) (I.ok.noex b o e), I.base.free b o (I.ok.bs b o e).1 (I.ok.bs b o e).2 (I.ok.noex b o e)⟩
theorem Inv.bk (I : Inv X pins σ H s) : ∀ b o, X.base.get? b = some o → s.heap.get? b = some o := fun b o e => (I.bs b o e).1
theorem Inv.mod (I : Inv X pins σ H s) : Mod X.K X.mg X.base := I.ok.mod
theorem Inv.kIn (I : Inv X pins σ H s) : X.K.In s.heap := I.ok.mod.kin.keeps I.bk
theorem Inv.nolimit (I : Inv X pins σ H s) : s.heap.NoLimit := I.ok.mod.nolimit.keeps I.bk
/-- the frame over the base: for OpenK's rules (K.In X.base is I.mod.kin) -/
theorem Inv.fr (I : Inv X pins σ H s) : ∃ m, Fr X.base X.env.locals s.heap m :=
  let ⟨m, hn, _⟩ := I.loc
  ⟨m, hn, I.bk, Nat.le_trans I.ok.bsz I.ok.above⟩
theorem Inv.lt (I : Inv X pins σ H s) : X.env.locals < s.heap.objs.size := let ⟨_, hn, _⟩ := I.loc; hn.lt
theorem Inv.sz (I : Inv X pins σ H s) : X.s₀.heap.objs.size ≤ s.heap.objs.size := Nat.le_trans I.ok.above (Nat.le_of_lt I.lt)
theorem Inv.nofs (I : Inv X pins σ H s) {a : Addr} (h : s.heap.objs.size ≤ a) : a ∉ X.fs := fun hb => by
  obtain ⟨_, o, ho, _⟩ := I.ok.funs.mem hb
  exact absurd (Nat.lt_of_lt_of_le (Heap.lt_size ho) (Nat.le_trans I.sz h)) (Nat.lt_irrefl _)
theorem Inv.cne (I : Inv X pins σ H s) : ∀ x c, X.env.cells.lookup x = some c → c ≠ X.env.locals := fun x c e z => by
  obtain ⟨v, o, ho, hd⟩ := I.cell x c e
  obtain ⟨m, ⟨o', es, ep, ho', hd', _⟩, _⟩ := I.loc
  rw [z, ho'] at ho; cases ho; rw [hd'] at hd; cases hd
theorem Inv.funs (I : Inv X pins σ H s) : s.heap.FunFrames X.base X.outer := by
  have all : ∀ (l : List Env), (∀ b ∈ frs l, b ∈ X.fs) → X.s₀.heap.FunFrames X.base l → s.heap.FunFrames X.base l := by
    intro l
    induction l with
    | nil => intro _ _; trivial
    | cons env r ih =>
      intro hs hl
      obtain ⟨hk, ⟨L, o, hf, hn, ho, hd⟩, hr⟩ := hl
      have hL : L ∈ X.fs := hs L (by unfold frs; rw [List.filterMap_cons, hf]; exact List.mem_cons_self)
      obtain ⟨sl, e⟩ := I.base.slot L o ho (I.ok.frf L hL) hL fun z => I.ok.exfs L z hL
      exact ⟨hk, ⟨L, _, hf, hn, e, hd⟩, ih (fun b hb => hs b (by unfold frs; rw [List.filterMap_cons, hf]; exact List.mem_cons_of_mem _ hb)) hr⟩
  exact all X.outer (fun _ hb => hb) I.ok.funs

/-- the frames that run, for a call -/
theorem Inv.stack (I : Inv X pins σ H s) : s.heap.FunFrames X.base X.stack := by
  rcases I.ok.stk with e | ⟨e, hf⟩
  · rw [e]; exact I.funs
  · rw [e]
    obtain ⟨m, hn, _⟩ := I.loc
    refine .cons (by rw [I.ok.kind]; decide) hf hn ?_ I.funs
    exact Heap.get?_none_of_le (Nat.le_trans I.ok.bsz I.ok.above)
theorem Inv.stkSub (I : Inv X pins σ H s) : ∀ b ∈ frs X.stack, b ∈ X.env.locals :: X.fs := fun b hb => by
  rcases I.ok.stk with e | ⟨e, hf⟩
  · rw [e] at hb; exact List.mem_cons_of_mem _ hb
  · rw [e] at hb
    unfold frs at hb
    rw [List.filterMap_cons, hf] at hb
    exact hb
theorem Inv.stkFree (I : Inv X pins σ H s) : ∀ b ∈ frs X.stack, H b = none := fun b hb => by
  rcases List.mem_cons.mp (I.stkSub b hb) with e | hb
  · rw [e]; exact I.free
  · obtain ⟨_, o, ho, _⟩ := I.ok.funs.mem hb
    exact I.base.free b o ho (I.ok.frf b hb) fun z => I.ok.exfs b z hb

/-- THE STEP: the untracked objects but the frame and the records at ch are kept (the callers' frames up to slots), the frame's map is kept, the new abstract heap is held -/
theorem Inv.step {g' : Array GenState} {t' : Nat} {d' : Drawn} {ch : List Addr} (I : Inv X pins σ H s)
    (hch : ∀ b ∈ ch, (b ∈ X.ex ∨ X.s₀.heap.objs.size ≤ b) ∧ b ≠ X.env.locals ∧ (∀ x c, X.env.cells.lookup x = some c → c ≠ b) ∧ ∀ p ∈ X.pn ++ pins, p.1 ≠ b)
    (keep : ∀ b o, b ≠ X.env.locals → b ∉ X.fs → b ∉ ch → s.heap.get? b = some o → H b = none → h'.get? b = some o)
    (slot : ∀ b o, b ≠ X.env.locals → b ∈ X.fs → b ∉ ch → s.heap.get? b = some o → H b = none → ∃ sl, h'.get? b = some { o with slots := sl }) (free : ∀ b o, b ∉ ch → s.heap.get? b = some o → H b = none → H' b = none)
    (there : ∀ b o, b ∉ ch → s.heap.get? b = some o → ∃ o', h'.get? b = some o')
    (tups : ∀ b xs, H b = some (.tup xs) → H' b = some (.tup xs)) (frzs : ∀ b o u, H b = some (.frz o u) → H' b = some (.frz o u)) (tbls : ∀ b ps, H b = some (.tbl ps) → ∃ more, H' b = some (.tbl (ps ++ more)))
    (ns : ∀ m, s.heap.Ns X.env.locals m → h'.Ns X.env.locals m) (hok : HOk X.prog X.w H' h') (hg : AllBare g') :
    Inv X pins σ H' { s with heap := h', gens := g', drawn := d', toks := t' } := by
  have neL : ∀ b o, X.s₀.heap.get? b = some o → b ≠ X.env.locals := fun b o e => Nat.ne_of_lt (Nat.lt_of_lt_of_le (Heap.lt_size e) I.ok.above)
  have neC : ∀ b o, X.s₀.heap.get? b = some o → b ∉ X.ex → b ∉ ch := fun b o e hx hb => by
    rcases (hch b hb).1 with z | z
    · exact hx z
    · exact absurd (Nat.lt_of_lt_of_le (Heap.lt_size e) z) (Nat.lt_irrefl _)
  have cellK : ∀ x c, X.env.cells.lookup x = some c → ∀ v, s.heap.IsCell c v → h'.IsCell c v := fun x c e v ⟨o, ho, hd⟩ => by
    have nch : c ∉ ch := fun z => (hch c z).2.2.1 x c e rfl
    by_cases hc : c ∈ X.fs
    · obtain ⟨sl, q⟩ := slot c o (I.cne x c e) hc nch ho (I.freeC x c e)
      exact ⟨_, q, hd⟩
    · exact ⟨o, keep c o (I.cne x c e) hc nch ho (I.freeC x c e), hd⟩
  refine ⟨I.ok, I.os, hg, ⟨fun b o e n hb hx => ?_, fun b o e n hb hx => ?_, fun b o e n hx => ?_, fun b o e hx => ?_, fun b xs e => tups b xs (I.base.tups b xs e), fun b o xs e => frzs b o xs (I.base.frzs b o xs e), fun b ps e => ?_⟩, ?_, fun x c e => ?_, ?_, fun x c e => ?_, fun p hp => ?_, hok, I.len⟩
  · exact keep b o (neL b o e) hb (neC b o e hx) (I.base.keep b o e n hb hx) (I.base.free b o e n hx)
  · obtain ⟨sl, e1⟩ := I.base.slot b o e n hb hx
    obtain ⟨sl', e2⟩ := slot b _ (neL b o e) hb (neC b o e hx) e1 (I.base.free b o e n hx)
    exact ⟨sl', e2⟩
  · obtain ⟨o', e1⟩ := I.base.there b o e hx
    exact free b o' (neC b o e hx) e1 (I.base.free b o e n hx)
  · obtain ⟨o', e1⟩ := I.base.there b o e hx
    exact there b o' (neC b o e hx) e1
  · obtain ⟨m1, e1⟩ := I.base.tbls b ps e
    obtain ⟨m2, e2⟩ := tbls b _ e1
    exact ⟨m1 ++ m2, by rw [e2, Array.append_assoc]⟩
  · obtain ⟨m, hn, hl⟩ := I.loc
    refine ⟨m, ns m hn, fun i x v e1 e2 e3 => ?_⟩
    obtain ⟨u, r, l⟩ := hl i x v e1 e2 e3
    refine ⟨u, r, ?_⟩
    rcases l with l | ⟨k, c, e, z⟩
    · exact .inl l
    · exact .inr ⟨k, c, e, cellK x c e _ z⟩
  · obtain ⟨v, z⟩ := I.cell x c e
    exact ⟨v, cellK x c e v z⟩
  · obtain ⟨m, ⟨o, _, _, ho, _⟩, _⟩ := I.loc
    exact free _ o (fun z => (hch _ z).2.1 rfl) ho I.free
  · obtain ⟨v, o, ho, hd⟩ := I.cell x c e
    exact free c o (fun z => (hch c z).2.2.1 x c e rfl) ho (I.freeC x c e)
  · obtain ⟨e, n, ne, nf, d⟩ := I.pin p hp
    have nch : p.1 ∉ ch := fun z => (hch p.1 z).2.2.2 p hp rfl
    exact ⟨keep p.1 p.2 ne nf nch e n, free p.1 p.2 nch e n, ne, nf, d⟩
/-- .. where the frame's own object is kept too -/
theorem Inv.un {t' : Nat} (I : Inv X pins σ H s) (u : Un X.fs [] H H' s.heap h') (hok : HOk X.prog X.w H' h') : Inv X pins σ H' { s with heap := h', toks := t' } := by
  obtain ⟨m, ⟨o, es, ep, ho, r⟩, _⟩ := id I.loc
  obtain ⟨sl, hL⟩ := u.any ho I.free (by simp)
  exact I.step (g' := s.gens) (d' := s.drawn) (ch := []) (fun _ z => nomatch z) (fun b o _ hb _ e n => u.keep b o e n hb (by simp)) (fun b o _ hb _ e n => u.slot b o e n hb (by simp)) (fun b o _ e n => u.free b o e n (by simp)) (fun b o _ e => u.there b o e (by simp)) u.tups u.frzs u.tbls (fun m' hm => by
    obtain ⟨o', es', ep', ho', r'⟩ := hm
    rw [ho] at ho'; cases ho'
    exact ⟨_, es', ep', hL, r'⟩) hok I.bare
/-- behind a call (or a comprehension's block): the slots of this frame may have changed too, the records at ch may have turned -/
theorem Inv.call {g' : Array GenState} {t' : Nat} {d' : Drawn} {ch : List Addr} (I : Inv X pins σ H s) (u : Un (frs X.stack) ch H H' s.heap h') (hok : HOk X.prog X.w H' h') (hg : AllBare g')
    (hch : ∀ b ∈ ch, (b ∈ X.ex ∨ X.s₀.heap.objs.size ≤ b) ∧ b ≠ X.env.locals ∧ (∀ x c, X.env.cells.lookup x = some c → c ≠ b) ∧ ∀ p ∈ X.pn ++ pins, p.1 ≠ b) :
    Inv X pins σ H' { s with heap := h', gens := g', drawn := d', toks := t' } := by
  obtain ⟨m, ⟨o, es, ep, ho, r⟩, _⟩ := id I.loc
  obtain ⟨sl, hL⟩ := u.any ho I.free fun z => (hch _ z).2.1 rfl
  exact I.step (ch := ch) hch (fun b o hL hb hc e n => u.keep b o e n (fun z => (List.mem_cons.mp (I.stkSub b z)).elim hL hb) hc) (fun b o _ _ hc e n => u.any e n hc) (fun b o hc e n => u.free b o e n hc) (fun b o hc e => u.there b o e hc) u.tups u.frzs u.tbls (fun m' hm => by
    obtain ⟨o', es', ep', ho', r'⟩ := hm
    rw [ho] at ho'; cases ho'
    exact ⟨_, es', ep', hL, r'⟩) hok hg
/-- an untracked record of ours (an iterator) has turned -/
theorem Inv.turned {t' : Nat} {it : Addr} (I : Inv X pins σ H s) (k : ∀ b o, b ≠ it → s.heap.get? b = some o → h'.get? b = some o) (hn : H it = none) (hL : it ≠ X.env.locals)
    (h1 : it ∈ X.ex ∨ X.s₀.heap.objs.size ≤ it) (h2 : ∀ x c, X.env.cells.lookup x = some c → c ≠ it) (h3 : ∀ p ∈ X.pn ++ pins, p.1 ≠ it) : Inv X pins σ H { s with heap := h', toks := t' } := by
  have nit : ∀ b u, H b = some u → b ≠ it := fun b u e z => by rw [z, hn] at e; cases e
  refine I.step (g' := s.gens) (d' := s.drawn) (ch := [it]) (fun b hb => ?_) (fun b o _ _ hc e _ => k b o (fun z => hc (by simp [z])) e) (fun b o _ _ hc e _ => ⟨o.slots, k b o (fun z => hc (by simp [z])) e⟩) (fun _ _ _ _ n => n)
    (fun b o hc e => ⟨o, k b o (fun z => hc (by simp [z])) e⟩) (fun _ _ e => e) (fun _ _ _ e => e) (fun b ps e => ⟨#[], by rw [e]; simp⟩) (fun m hm => ?_) (fun b u e => ?_) I.bare
  · have e : b = it := by simpa using hb
    subst e
    exact ⟨h1, hL, h2, h3⟩
  · obtain ⟨o, es, ep, ho, r⟩ := hm
    exact ⟨o, es, ep, k _ o (Ne.symm hL) ho, r⟩
  · refine (I.hok b u e).stay (fun c v hc q => k c v ?_ q) (fun _ q => q) fun _ _ q => q
    rcases hc with z | z
    · rw [z]; exact nit b u e
    · exact nit c _ z
theorem Inv.tok (I : Inv X pins σ H s) (t : Nat) : Inv X pins σ H { s with toks := t } := I.un (h' := s.heap) (t' := t) Un.refl I.hok
/-- all objects kept -/
theorem Inv.kept {t' : Nat} (I : Inv X pins σ H s) (k : ∀ b u, s.heap.get? b = some u → h'.get? b = some u) : Inv X pins σ H { s with heap := h', toks := t' } := I.un (Un.kept k) (I.hok.kept k)
/-- a new object laid and tracked -/
theorem Inv.laid {a : Addr} {o : HO} {t' : Nat} (I : Inv X pins σ H s) (k : ∀ b u, s.heap.get? b = some u → h'.get? b = some u) (hp : s.heap.objs.size ≤ a) (new : ObjOk X.prog X.w (upd H a o) h' a o) :
    Inv X pins σ (upd H a o) { s with heap := h', toks := t' } := I.un (Un.laid k hp (I.hok.fresh hp)) (I.hok.laid k hp new)
/-- an object written -/
theorem Inv.write {x e : Addr} {o : HO} {t' : Nat} (I : Inv X pins σ H s) (mu : Mut (H x)) (he : e = x ∨ H e = some (.own x)) (k : ∀ b u, b ≠ e → s.heap.get? b = some u → h'.get? b = some u) (heo : ∃ u, h'.get? e = some u)
    (new : ObjOk X.prog X.w (upd H x o) h' x o) : Inv X pins σ (upd H x o) { s with heap := h', toks := t' } := I.un (Un.write mu he k heo) (I.hok.write mu he k heo new)
/-- forgetting slots, pins -/
theorem Inv.weak {σ' : List (Option V)} (I : Inv X pins σ H s) (hl : σ'.length = σ.length) (w : ∀ (i : Nat) v, σ'[i]? = some (some v) → σ[i]? = some (some v)) : Inv X pins σ' H s :=
  ⟨I.ok, I.os, I.bare, I.base, let ⟨m, hn, hl'⟩ := I.loc; ⟨m, hn, fun i x v e1 e2 e3 => hl' i x v e1 (w i v e2) e3⟩, I.cell, I.free, I.freeC, I.pin, I.hok, hl.trans I.len⟩
theorem Inv.pins_of {pins' : List (Addr × Obj)} (I : Inv X pins σ H s) (h : ∀ p ∈ pins', s.heap.get? p.1 = some p.2 ∧ H p.1 = none ∧ p.1 ≠ X.env.locals ∧ p.1 ∉ X.fs ∧ ∀ v, p.2.data ≠ .cell v) : Inv X pins' σ H s :=
  ⟨I.ok, I.os, I.bare, I.base, I.loc, I.cell, I.free, I.freeC, fun p hp => (List.mem_append.mp hp).elim (fun z => I.pin p (List.mem_append_left _ z)) (h p), I.hok, I.len⟩

theorem nodup_ix {N : List Str} (hN : N.Nodup) {i j : Nat} {x : Str} (a : N[i]? = some x) (b : N[j]? = some x) : i = j := by
  obtain ⟨h1, e1⟩ := List.getElem?_eq_some_iff.mp a
  obtain ⟨h2, e2⟩ := List.getElem?_eq_some_iff.mp b
  exact (List.getElem_inj hN).mp (e1.trans e2.symm)

/-- a name is stored; what changed -/
theorem store_ok2 {M : Model} {A : Around} {E : Value → Shared → Prop} {i : Nat} {x : Str} {v : V} {u : Value} {Q : Unit → Shared → Prop} (I : Inv X pins σ H s) (hN : X.N.Nodup) (hi : X.N[i]? = some x) (hx : Loc X.env.scope x) (r : RelV v u)
    (h : ∀ s', Inv X pins (σ.set i (some v)) H s' → (∃ a, Heap.SameBut a s.heap s'.heap ∧ (a = X.env.locals ∨ X.env.cells.lookup x = some a)) → Q () s') (hf : X.fn x = true ∨ X.env.scope.names.lookup x = some .local := by first | exact .inl rfl | exact .inr rfl | assumption) : wpAny M A (storeName X.env x u) Q E s := by
  obtain ⟨m, hn, hl⟩ := id I.loc
  have hcls : (X.env.scope.kind == .class || (X.env.scope.kind == .module && X.env.locals != X.env.globals)) = false := by rw [I.ok.kind]; rfl
  have hiσ : i < σ.length := by rw [I.len]; exact (List.getElem?_eq_some_iff.mp hi).1
  have cne := I.cne
  have tracked : ∀ {a : Addr} {h' : Heap}, (∃ o, s.heap.get? a = some o ∧ H a = none) → Heap.SameBut a s.heap h' → HOk X.prog X.w H h' := fun {a h'} ha hs b ob e => by
    obtain ⟨_, _, hfree⟩ := ha
    refine (I.hok b ob e).stay (fun c w' hc q => (hs.2 c ?_).trans q) (fun _ q => q) fun _ _ q => q
    rintro rfl
    rcases hc with rfl | hc
    · rw [hfree] at e; cases e
    · rw [hfree] at hc; cases hc
  rcases hx with hk | hk
  · refine wpAny_storeName_local hk hn (fun h' hn' hs => ?_) hcls
    obtain ⟨oL, _, _, hoL, _⟩ := id hn
    refine h _ ⟨I.ok, I.os, I.bare, ⟨fun b o e n hb hx => ?_, fun b o e n hb hx => ?_, I.base.free, fun b o e hx => ?_, I.base.tups, I.base.frzs, I.base.tbls⟩, ⟨_, hn', fun j y v' e1 e2 e3 => ?_⟩, fun y c e => ?_, I.free, I.freeC, fun p hp => ?_, tracked ⟨oL, hoL, I.free⟩ hs, by simpa using I.len⟩ ⟨_, hs, .inl rfl⟩
    · exact (hs.2 b (Nat.ne_of_lt (Nat.lt_of_lt_of_le (Heap.lt_size e) I.ok.above))).trans (I.base.keep b o e n hb hx)
    · obtain ⟨sl, e1⟩ := I.base.slot b o e n hb hx
      exact ⟨sl, (hs.2 b (Nat.ne_of_lt (Nat.lt_of_lt_of_le (Heap.lt_size e) I.ok.above))).trans e1⟩
    · obtain ⟨o', e1⟩ := I.base.there b o e hx
      exact ⟨o', (hs.2 b (Nat.ne_of_lt (Nat.lt_of_lt_of_le (Heap.lt_size e) I.ok.above))).trans e1⟩
    · by_cases hj : j = i
      · subst hj
        rw [hi] at e1; cases e1
        rw [List.getElem?_set_self hiσ] at e2
        cases e2
        exact ⟨u, r, .inl ⟨hk, by simp⟩⟩
      · rw [List.getElem?_set_ne (Ne.symm hj)] at e2
        obtain ⟨u', r', q⟩ := hl j y v' e1 e2 e3
        refine ⟨u', r', ?_⟩
        rcases q with ⟨k, e⟩ | ⟨k, c, e, z⟩
        · refine .inl ⟨k, ?_⟩
          have : y ≠ x := fun e => hj (nodup_ix hN e1 (e ▸ hi))
          simp [this, e]
        · exact .inr ⟨k, c, e, z.sameBut hs (cne y c e)⟩
    · obtain ⟨w', z⟩ := I.cell y c e
      exact ⟨w', z.sameBut hs (cne y c e)⟩
    · obtain ⟨e, n, ne, nf, d⟩ := I.pin p hp
      exact ⟨(hs.2 p.1 ne).trans e, n, ne, nf, d⟩
  · have hfn : X.fn x = true := by
      rcases hf with z | z
      · exact z
      · rw [z] at hk; cases hk
    obtain ⟨c, hc⟩ := I.ok.has x (.inl hk)
    obtain ⟨w', z⟩ := I.cell x c hc
    refine wpAny_storeName_cell I.ok.kind hk hc z (fun h' hc' hs => ?_)
    obtain ⟨oc, hoc, hocd⟩ := id z
    refine h { s with heap := h' } ⟨I.ok, I.os, I.bare, ⟨fun b o e n hb hx => ?_, fun b o e n hb hx => ?_, I.base.free, fun b o e hx => ?_, I.base.tups, I.base.frzs, I.base.tbls⟩, ⟨m, hn.sameBut hs (Ne.symm (cne x c hc)), fun j y v' e1 e2 e3 => ?_⟩, fun y c' e => ?_, I.free, I.freeC, fun p hp => ?_, tracked ⟨oc, hoc, I.freeC x c hc⟩ hs, by simpa using I.len⟩ ⟨c, hs, .inr hc⟩
    · exact (hs.2 b (Nat.ne_of_lt (Nat.lt_of_lt_of_le (Heap.lt_size e) (I.ok.cab x c hfn hc)))).trans (I.base.keep b o e n hb hx)
    · obtain ⟨sl, e1⟩ := I.base.slot b o e n hb hx
      exact ⟨sl, (hs.2 b (Nat.ne_of_lt (Nat.lt_of_lt_of_le (Heap.lt_size e) (I.ok.cab x c hfn hc)))).trans e1⟩
    · obtain ⟨o', e1⟩ := I.base.there b o e hx
      exact ⟨o', (hs.2 b (Nat.ne_of_lt (Nat.lt_of_lt_of_le (Heap.lt_size e) (I.ok.cab x c hfn hc)))).trans e1⟩
    · by_cases hj : j = i
      · subst hj
        rw [hi] at e1; cases e1
        rw [List.getElem?_set_self hiσ] at e2
        cases e2
        exact ⟨u, r, .inr ⟨.inl hk, c, hc, hc'⟩⟩
      · rw [List.getElem?_set_ne (Ne.symm hj)] at e2
        obtain ⟨u', r', q⟩ := hl j y v' e1 e2 e3
        refine ⟨u', r', ?_⟩
        rcases q with q | ⟨k, c', e, z'⟩
        · exact .inl q
        · refine .inr ⟨k, c', e, z'.sameBut hs ?_⟩
          rintro rfl
          exact hj (nodup_ix hN e1 (I.ok.inj _ _ _ e hc ▸ hi))
    · by_cases hcc : c' = c
      · subst hcc; exact ⟨_, hc'⟩
      · obtain ⟨w2, z2⟩ := I.cell y c' e
        exact ⟨w2, z2.sameBut hs hcc⟩
    · obtain ⟨e, n, ne, nf, d⟩ := I.pin p hp
      refine ⟨(hs.2 p.1 ?_).trans e, n, ne, nf, d⟩
      intro q
      rw [q, hoc] at e
      have q' : oc = p.2 := Option.some.inj e
      exact d w' (by rw [← q']; exact hocd)
theorem store_ok {M : Model} {A : Around} {E : Value → Shared → Prop} {i : Nat} {x : Str} {v : V} {u : Value} {Q : Unit → Shared → Prop} (I : Inv X pins σ H s) (hN : X.N.Nodup) (hi : X.N[i]? = some x) (hx : Loc X.env.scope x) (r : RelV v u)
    (h : ∀ s', Inv X pins (σ.set i (some v)) H s' → Q () s') (hf : X.fn x = true ∨ X.env.scope.names.lookup x = some .local := by first | exact .inl rfl | exact .inr rfl | assumption) : wpAny M A (storeName X.env x u) Q E s :=
  store_ok2 I hN hi hx r (fun s' I' _ => h s' I') hf
/-- behind a call or a block, the state as it is -/
theorem Inv.call' {s' : Shared} {ch : List Addr} (I : Inv X pins σ H s) (ho : s'.os = s.os) (u : Un (frs X.stack) ch H H' s.heap s'.heap) (hok : HOk X.prog X.w H' s'.heap) (hg : AllBare s'.gens)
    (hch : ∀ b ∈ ch, (b ∈ X.ex ∨ X.s₀.heap.objs.size ≤ b) ∧ b ≠ X.env.locals ∧ (∀ x c, X.env.cells.lookup x = some c → c ≠ b) ∧ ∀ p ∈ X.pn ++ pins, p.1 ≠ b) : Inv X pins σ H' s' := by
  obtain ⟨h', g', d', t', o'⟩ := s'
  have e : o' = s.os := ho
  subst e
  exact I.call (g' := g') (t' := t') (d' := d') u hok hg hch
end

/-! ### the judgements -/
/-- an exception: its class, its own dict's address (where it has one), the abstract heap behind it -/
abbrev XK := Value → Option Addr → Hp → Prop
abbrev St := List (Option V)
abbrev VK := V → Hp → Prop
/-- an expression's reading; a test's; an argument list's -/
abbrev TE := St → Hp → VK → Prop
abbrev TT := St → Hp → (Bool → Hp → Prop) → Prop
abbrev TA := St → Hp → (List V → Hp → Prop) → Prop
/-- what is wanted behind a statement -/
structure Ends where
  nx : St → Hp → Prop
  rt : VK
  bk : St → Hp → Prop := fun _ _ => False
  ct : St → Hp → Prop := fun _ _ => False
abbrev TS := Ends → St → Hp → Prop

def EP (X : Cx) (pins : List (Addr × Obj)) (σ : St) (Q : VK) (u : Value) (s' : Shared) : Prop := ∃ v H', Inv X pins σ H' s' ∧ RelV v u ∧ Q v H'
def TP (X : Cx) (pins : List (Addr × Obj)) (σ : St) (Q : Bool → Hp → Prop) (b : Bool) (s' : Shared) : Prop := ∃ H', Inv X pins σ H' s' ∧ Q b H'
def AP (X : Cx) (pins : List (Addr × Obj)) (σ : St) (Q : List V → Hp → Prop) (us : List Value) (s' : Shared) : Prop := ∃ vs H', Inv X pins σ H' s' ∧ Vals vs us ∧ Q vs H'
def SP (X : Cx) (pins : List (Addr × Obj)) (D : Ends) (f : Flow) (s' : Shared) : Prop :=
  match f with
  | .next => ∃ σ' H', Inv X pins σ' H' s' ∧ D.nx σ' H'
  | .brk => ∃ σ' H', Inv X pins σ' H' s' ∧ D.bk σ' H'
  | .cont => ∃ σ' H', Inv X pins σ' H' s' ∧ D.ct σ' H'
  | .ret u => ∃ v σ' H', Inv X pins σ' H' s' ∧ RelV v u ∧ D.rt v H'

def PE (X : Cx) (e : Expr) (t : TE) : Prop :=
  ∀ (pins : List (Addr × Obj)) (s : Shared) (σ : St) (H : Hp) (Q : VK), Inv X pins σ H s → t σ H Q → wpAny (model X.prog X.w) X.A (eval e X.env) (EP X pins σ Q) X.xe s
def PT (X : Cx) (e : Expr) (t : TT) : Prop :=
  ∀ (pins : List (Addr × Obj)) (s : Shared) (σ : St) (H : Hp) (Q : Bool → Hp → Prop), Inv X pins σ H s → t σ H Q → wpAny (model X.prog X.w) X.A (isTrue e X.env (eval e X.env)) (TP X pins σ Q) X.xe s
/-- a test whatever its 'whole' is (and, or) -/
def PW (X : Cx) (e : Expr) (t : TT) : Prop :=
  ∀ (whole : Sem Value) (pins : List (Addr × Obj)) (s : Shared) (σ : St) (H : Hp) (Q : Bool → Hp → Prop), Inv X pins σ H s → t σ H Q → wpAny (model X.prog X.w) X.A (isTrue e X.env whole) (TP X pins σ Q) X.xe s
theorem PW.pt {X : Cx} {e : Expr} {t : TT} (h : PW X e t) : PT X e t := h _
/-- an argument list (no star), from the left -/
def PA (X : Cx) (es : List Expr) (t : TA) : Prop :=
  ∀ (pos : Pos) (pins : List (Addr × Obj)) (s : Shared) (σ : St) (H : Hp) (Q : List V → Hp → Prop), Inv X pins σ H s → t σ H Q → wpAny (model X.prog X.w) X.A (spliced (backTo pos (starEach es X.env))) (AP X pins σ Q) X.xe s
def PS (X : Cx) (st : Stmt) (t : TS) : Prop :=
  ∀ (pins : List (Addr × Obj)) (s : Shared) (σ : St) (H : Hp) (D : Ends), Inv X pins σ H s → t D σ H → wpAny (model X.prog X.w) X.A (exec st X.env) (SP X pins D) X.xe s
def PSs (X : Cx) (st : List Stmt) (t : TS) : Prop :=
  ∀ (pins : List (Addr × Obj)) (s : Shared) (σ : St) (H : Hp) (D : Ends), Inv X pins σ H s → t D σ H → wpAny (model X.prog X.w) X.A (execs st X.env) (SP X pins D) X.xe s
/-- weaken the end -/
theorem thn {α : Type} {t : Sem α} {Q Q' : α → Shared → Prop} {M : Model} {A : Around} {E : Value → Shared → Prop} {s : Shared} (h : wpAny M A t Q E s) (hQ : ∀ a s, Q a s → Q' a s) : wpAny M A t Q' E s := wpAny_mono h hQ fun _ _ x => x
end L2

namespace L2
open PySem PySem.Spec PyProof.Rows
section
variable {X : Cx}

/-! ### names and constants -/
def tVar (i : Nat) : TE := fun σ H Q => ∃ v, σ[i]? = some (some v) ∧ Q v H
def tC (v : V) : TE := fun _ H Q => Q v H
theorem pe_var {i : Nat} {x : Str} {pos : Pos} (hN : X.N[i]? = some x) (hv : Vis X.env.scope x) (hd : (x == ("__debug__" : Str)) = false := by decide) (hcd : (x == ("__classdict__" : Str)) = false := by decide) : PE X (.Name x pos) (tVar i) := by
  intro pins s σ H Q I h
  obtain ⟨v, e, h⟩ := h
  obtain ⟨m, hn, hl⟩ := I.loc
  obtain ⟨u, r, l⟩ := hl i x v hN e hv
  have fin : EP X pins σ Q u s := ⟨v, H, I, r, h⟩
  rcases l with ⟨hk, hm⟩ | ⟨hk, c, hc, hcell⟩
  · exact wpAny_Name (wpAny_loadName_local I.ok.kind hk hn hm fin) hd
  · rcases hk with hk | hk
    · exact wpAny_Name (wpAny_loadName_cell I.ok.kind hk hc hcell fin) hd
    · exact wpAny_Name (wpAny_loadName_free I.ok.kind hk hc hcell fin hcd) hd
theorem pe_int {i j pos} : PE X (.Constant (.int i) j pos) (tC (.int i)) := fun _ _ _ H _ I h => wpAny_Constant_int ⟨.int i, H, I.tok _, ⟨_, rfl⟩, h⟩
theorem pe_bl {b j pos} : PE X (.Constant (.bool b) j pos) (tC (.bl b)) := fun _ _ _ H _ I h => Constant_bool ⟨.bl b, H, I, rfl, h⟩
theorem pe_non {j pos} : PE X (.Constant .none j pos) (tC .non) := fun _ _ _ H _ I h => Constant_none ⟨.non, H, I, rfl, h⟩
theorem pe_str {x j pos} : PE X (.Constant (.str x) j pos) (tC (.str x)) := fun _ _ _ H _ I h => Calls.Constant_str ⟨.str x, H, I.tok _, ⟨_, rfl⟩, h⟩

/-- a global name of the def -/
def Gl (X : Cx) (x : Str) : Prop := X.env.kindOf x = some .globalImplicit
theorem ld_glob {E : Value → Shared → Prop} {pins : List (Addr × Obj)} {s : Shared} {σ : St} {H : Hp} {x : Str} {u : Value} {pos : Pos} {Q : Value → Shared → Prop} (I : Inv X pins σ H s) (hg : Gl X x) (hm : X.mg x = some u) (h : Q u s)
    (hd : (x == ("__debug__" : Str)) = false := by decide) : wpAny (model X.prog X.w) X.A (eval (.Name x pos) X.env) Q E s :=
  Calls.Name_function_global I.ok.kind hg (Calls.loadGlobal_global (by rw [I.ok.glob]; exact I.mod.glob.keeps I.bk) hm h) hd
theorem ld_blt {E : Value → Shared → Prop} {pins : List (Addr × Obj)} {s : Shared} {σ : St} {H : Hp} {x : Str} {u : Value} {pos : Pos} {Q : Value → Shared → Prop} (I : Inv X pins σ H s) (hg : Gl X x) (hm : X.mg x = none) (hv : bootBuiltins x = some u) (h : Q u s)
    (hn : x ≠ "__name__" := by decide) (hd : (x == ("__debug__" : Str)) = false := by decide) : wpAny (model X.prog X.w) X.A (eval (.Name x pos) X.env) Q E s := by
  obtain ⟨mb, h1, h2⟩ := I.mod.blt
  exact Calls.Name_function_global I.ok.kind hg (Calls.loadGlobal_builtin (by rw [I.ok.glob]; exact I.mod.glob.keeps I.bk) hm (by rw [I.ok.blt]; exact h1.keeps I.bk) ((h2 x hn).trans hv) h) hd
theorem pe_bltn {x : Str} {v : V} {u : Value} {pos : Pos} (hg : Gl X x) (hm : X.mg x = none) (hv : bootBuiltins x = some u) (r : RelV v u) (hn : x ≠ "__name__" := by decide) (hd : (x == ("__debug__" : Str)) = false := by decide) : PE X (.Name x pos) (tC v) :=
  fun _ _ _ H _ I h => ld_blt I hg hm hv ⟨v, H, I, r, h⟩ hn hd

/-! ### arithmetic -/
variable {a b : Expr} {ta tb : TE} {pos : Pos}
/-! ### comparisons -/
/-- a comparison as a value, as a test -/
def tB (t : TE) : TT := fun σ H Q => t σ H fun x H1 => ∃ c, x = .bl c ∧ Q c H1
/-- an expression whose value is a bool, as a test -/
theorem pt_val {e : Expr} {t : TE} (h : PE X e t) (he : ∀ whole, isTrue e X.env whole = (do let v ← whole; standAt e.pos; holding [v] (truthy v)) := by intro _; rfl) : PT X e (tB t) := by
  intro pins s σ H Q I hw
  refine isTrue_plain (thn (h pins s σ H _ I hw) fun v s1 ⟨x, H1, I1, r1, q1⟩ => ?_) (he _)
  obtain ⟨d, rfl, q⟩ := q1
  cases r1
  exact wpAny_truthy_bool ⟨H1, I1, q⟩

/-! ### and, or, not -/
variable {tA tB' : TT} {rest : List Expr}
def tAnd (t u : TT) : TT := fun σ H Q => t σ H fun c H1 => if c = true then u σ H1 Q else Q false H1
def tOr (t u : TT) : TT := fun σ H Q => t σ H fun c H1 => if c = true then Q true H1 else u σ H1 Q
def tNot (t : TT) : TT := fun σ H Q => t σ H fun c H1 => Q (!c) H1
theorem pw_and1 (ha : PT X a tA) : PW X (.BoolOp .And [a] pos) tA := by
  intro wh pins s σ H Q I h
  refine isTrue_and (thn (ha pins s σ H Q I h) fun c s1 e => ?_)
  cases c with
  | true => exact isTrue_and_nil e
  | false => exact e
theorem pw_or1 (ha : PT X a tA) : PW X (.BoolOp .Or [a] pos) tA := by
  intro wh pins s σ H Q I h
  refine isTrue_or (thn (ha pins s σ H Q I h) fun c s1 e => ?_)
  cases c with
  | false => exact isTrue_or_nil e
  | true => exact e
theorem pw_and (ha : PT X a tA) (hb : PW X (.BoolOp .And (b :: rest) pos) tB') : PW X (.BoolOp .And (a :: b :: rest) pos) (tAnd tA tB') := by
  intro wh pins s σ H Q I h
  refine isTrue_and (thn (ha pins s σ H _ I h) fun c s1 ⟨H1, I1, q1⟩ => ?_)
  cases c with
  | true => exact hb wh pins s1 σ H1 Q I1 q1
  | false => exact ⟨H1, I1, q1⟩
theorem pw_or (ha : PT X a tA) (hb : PW X (.BoolOp .Or (b :: rest) pos) tB') : PW X (.BoolOp .Or (a :: b :: rest) pos) (tOr tA tB') := by
  intro wh pins s σ H Q I h
  refine isTrue_or (thn (ha pins s σ H _ I h) fun c s1 ⟨H1, I1, q1⟩ => ?_)
  cases c with
  | true => exact ⟨H1, I1, q1⟩
  | false => exact hb wh pins s1 σ H1 Q I1 q1
theorem pt_not (ha : PT X a tA) : PT X (.UnaryOp .Not a pos) (tNot tA) := by
  intro pins s σ H Q I h
  exact isTrue_not (ha pins s σ H (fun c H1 => Q (!c) H1) I h)
/-- .. as values (bools) -/
def tAndV (ta tb : TE) : TE := fun σ H Q => ta σ H fun x H1 => ∃ c, x = .bl c ∧ if c = true then tb σ H1 Q else Q (.bl false) H1
theorem pe_one {op} {t : TE} (h : PE X a t) : PE X (.BoolOp op [a] pos) t := fun pins s σ H Q I hw => BoolOp_one (h pins s σ H Q I hw)
theorem pe_and (ha : PE X a ta) (hb : PE X (.BoolOp .And (b :: rest) pos) tb) : PE X (.BoolOp .And (a :: b :: rest) pos) (tAndV ta tb) := by
  intro pins s σ H Q I h
  refine BoolOp_and (thn (ha pins s σ H _ I h) fun v s1 ⟨x, H1, I1, r1, q1⟩ => ?_)
  obtain ⟨c, rfl, q1⟩ := q1
  cases r1
  refine wpAny_truthy_bool ?_
  cases c with
  | true => exact hb pins s1 σ H1 Q I1 q1
  | false => exact ⟨.bl false, H1, I1, rfl, q1⟩
/-- a if t else b -/
def tIf (t : TT) (ta tb : TE) : TE := fun σ H Q => t σ H fun c H1 => if c = true then ta σ H1 Q else tb σ H1 Q
theorem pe_ifExp {c : Expr} (hc : PT X c tA) (ha : PE X a ta) (hb : PE X b tb) : PE X (.IfExp c a b pos) (tIf tA ta tb) := by
  intro pins s σ H Q I h
  refine wpAny_IfExp (thn (hc pins s σ H _ I h) fun d s1 ⟨H1, I1, q1⟩ => ?_)
  cases d with
  | true => exact ha pins s1 σ H1 Q I1 q1
  | false => exact hb pins s1 σ H1 Q I1 q1
end
end L2

namespace L2
open PySem PySem.Spec PyProof.Rows

/-! ### a list, a tuple that is read: tracked, frozen, or an object of the module -/
def SqL (K : PySem.W.Frag) (H : Hp) (a : Addr) (xs : List V) : Prop :=
  Rd H a (.lst xs) ∨
    ∃ (o : Obj) (its : Array Value) (n : Nat), K.lookup a = some o ∧ o.cls = .type "list" ∧ o.dict = none ∧ o.data = .seq its n ∧ its.size ≤ sizeLine ∧ Vals xs its.toList
def SqT (K : PySem.W.Frag) (H : Hp) (a : Addr) (xs : List V) : Prop :=
  Rd H a (.tup xs) ∨
    ∃ (o : Obj) (its : Array Value) (n : Nat), K.lookup a = some o ∧ o.cls = .type "tuple" ∧ o.data = .seq its n ∧ its.size ≤ sizeLine ∧ Vals xs its.toList
def absV : Value → Option V
  | .none => some .non
  | .bool b => some (.bl b)
  | .int i _ => some (.int i)
  | .str x _ => some (.str x)
  | .bytes b _ => some (.byt b)
  | .float b _ => some (.flt b)
  | .ref a => some (.ref a)
  | .type n => some (.ty n)
  | _ => none
theorem RelV.abs {x : V} {u : Value} (r : RelV x u) : absV u = some x := by
  cases x with
  | non => cases r; rfl
  | bl _ => cases r; rfl
  | int _ => obtain ⟨t, rfl⟩ := r; rfl
  | str _ => obtain ⟨t, rfl⟩ := r; rfl
  | byt _ => obtain ⟨t, rfl⟩ := r; rfl
  | flt _ => obtain ⟨t, rfl⟩ := r; rfl
  | ref _ => cases r; rfl
  | ty _ => cases r; rfl
theorem RelV.inj {x y : V} {u : Value} (r : RelV x u) (q : RelV y u) : x = y := Option.some.inj (r.abs.symm.trans q.abs)
theorem Vals.inj : ∀ {xs ys : List V} {us : List Value}, Vals xs us → Vals ys us → xs = ys
  | _, _, _, .nil, .nil => rfl
  | _, _, _, .cons r t, .cons r' t' => by rw [r.inj r', Vals.inj t t']
section
variable {X : Cx} {pins : List (Addr × Obj)} {σ : St} {H : Hp} {s : Shared} {a : Addr} {xs ys : List V}
theorem SqL.of {K : PySem.W.Frag} (h : H a = some (.lst xs)) : SqL K H a xs := .inl (.inl h)
theorem SqT.of {K : PySem.W.Frag} (h : H a = some (.tup xs)) : SqT K H a xs := .inl (.inl h)
theorem Inv.list (I : Inv X pins σ H s) (h : SqL X.K H a xs) : ∃ its : List Value, Vals xs its ∧ PlainL s.heap a its.toArray ∧ xs.length ≤ sizeLine := by
  rcases h with h | ⟨o, its, n, hk, hc, hd, hs, hz, r⟩
  · obtain ⟨z, its, n, r, e⟩ := h.ok I.hok
    exact ⟨its, r, ⟨_, n, e, rfl, rfl, rfl⟩, z⟩
  · refine ⟨its.toList, r, ⟨o, n, I.kIn a o hk, hc, hd, by simpa using hs⟩, ?_⟩
    have e := r.length
    simp only [Array.length_toList] at e
    omega
theorem Inv.tuple (I : Inv X pins σ H s) (h : SqT X.K H a xs) : ∃ its : List Value, Vals xs its ∧ IsTup s.heap a its.toArray ∧ xs.length ≤ sizeLine := by
  rcases h with h | ⟨o, its, n, hk, hc, hs, hz, r⟩
  · obtain ⟨z, its, r, p⟩ := h.ok I.hok
    exact ⟨its, r, p, z.1⟩
  · refine ⟨its.toList, r, ⟨o, I.kIn a o hk, hc, n, by simpa using hs⟩, ?_⟩
    have e := r.length
    simp only [Array.length_toList] at e
    omega
theorem Inv.list_inj (I : Inv X pins σ H s) (h : SqL X.K H a xs) (h' : SqL X.K H a ys) : xs = ys := by
  obtain ⟨its, r, ⟨o, n, e, _, _, d⟩, _⟩ := I.list h
  obtain ⟨its', r', ⟨o', n', e', _, _, d'⟩, _⟩ := I.list h'
  rw [e] at e'; cases e'
  rw [d] at d'
  injection d' with d1 _
  have : its = its' := by simpa using congrArg Array.toList d1
  subst this
  exact r.inj r'
end

/-! ### another wish about exceptions -/
abbrev Cx.wish (X : Cx) (E : Value → Shared → Prop) : Cx := { X with xe := E }
/-- no exception leaves -/
abbrev Cx.nox (X : Cx) : Cx := X.wish fun _ _ => False
theorem Cx.Ok.wish {X : Cx} (ok : X.Ok) (E : Value → Shared → Prop) : (X.wish E).Ok :=
  ⟨ok.mod, ok.kind, ok.glob, ok.blt, ok.above, ok.inj, ok.has, ok.cab, ok.hd, ok.frames, ok.stk, ok.exf, ok.bs, ok.bsz, ok.noex, ok.exfs, ok.funs, ok.frf⟩
theorem Cx.Ok.unwish {X : Cx} {E : Value → Shared → Prop} (ok : (X.wish E).Ok) : X.Ok :=
  ⟨ok.mod, ok.kind, ok.glob, ok.blt, ok.above, ok.inj, ok.has, ok.cab, ok.hd, ok.frames, ok.stk, ok.exf, ok.bs, ok.bsz, ok.noex, ok.exfs, ok.funs, ok.frf⟩
section
variable {X : Cx} {pins : List (Addr × Obj)} {σ : St} {H : Hp} {s : Shared} {E : Value → Shared → Prop}
theorem Inv.wish (I : Inv X pins σ H s) (E : Value → Shared → Prop) : Inv (X.wish E) pins σ H s := ⟨I.ok.wish E, I.os, I.bare, I.base, I.loc, I.cell, I.free, I.freeC, I.pin, I.hok, I.len⟩
theorem Inv.unwish (I : Inv (X.wish E) pins σ H s) : Inv X pins σ H s := ⟨I.ok.unwish, I.os, I.bare, I.base, I.loc, I.cell, I.free, I.freeC, I.pin, I.hok, I.len⟩
theorem SP.unwish {D : Ends} {f : Flow} {s' : Shared} (h : SP (X.wish E) pins D f s') : SP X pins D f s' := by
  cases f with
  | next => obtain ⟨σ', H', I, q⟩ := h; exact ⟨σ', H', I.unwish, q⟩
  | brk => obtain ⟨σ', H', I, q⟩ := h; exact ⟨σ', H', I.unwish, q⟩
  | cont => obtain ⟨σ', H', I, q⟩ := h; exact ⟨σ', H', I.unwish, q⟩
  | ret u => obtain ⟨v, σ', H', I, r, q⟩ := h; exact ⟨v, σ', H', I.unwish, r, q⟩
theorem PE.nox {e : Expr} {t : TE} (h : PE X.nox e t) : PE X e t := fun pins s σ H Q I hw =>
  wpAny_mono (h pins s σ H Q (I.wish _) hw) (fun _ _ ⟨v, H', I', r, q⟩ => ⟨v, H', I'.unwish, r, q⟩) fun _ _ z => False.elim z
theorem PT.nox {e : Expr} {t : TT} (h : PT X.nox e t) : PT X e t := fun pins s σ H Q I hw =>
  wpAny_mono (h pins s σ H Q (I.wish _) hw) (fun _ _ ⟨H', I', q⟩ => ⟨H', I'.unwish, q⟩) fun _ _ z => False.elim z
theorem PSs.nox {st : List Stmt} {t : TS} (h : PSs X.nox st t) : PSs X st t := fun pins s σ H D I hw =>
  wpAny_mono (h pins s σ H D (I.wish _) hw) (fun _ _ q => q.unwish) fun _ _ z => False.elim z
end

/-! ### blocks and small statements -/
section
variable {X : Cx} {st : Stmt} {rest : List Stmt} {t u : TS} {e : Expr} {te : TE} {pos : Pos}
def tNext : TS := fun D σ H => D.nx σ H
def tSeq (t u : TS) : TS := fun D σ H => t { D with nx := u D } σ H
theorem pss_nil : PSs X [] tNext := fun _ _ σ H _ I h => wpAny_execs_nil ⟨σ, H, I, h⟩
theorem pss_cons (h1 : PS X st t) (h2 : PSs X rest u) : PSs X (st :: rest) (tSeq t u) := by
  intro pins s σ H D I h
  refine wpAny_execs_cons (thn (h1 pins s σ H { D with nx := u D } I h) fun f s1 q => ?_)
  cases f with
  | next =>
    obtain ⟨σ', H', I', q⟩ := q
    exact h2 pins s1 σ' H' D I' q
  | ret v => exact q
  | brk => exact q
  | cont => exact q
theorem pss_one (h1 : PS X st t) : PSs X [st] t := by
  intro pins s σ H D I h
  refine wpAny_execs_cons (thn (h1 pins s σ H D I h) fun f s1 q => ?_)
  cases f with
  | next => exact wpAny_execs_nil q
  | ret v => exact q
  | brk => exact q
  | cont => exact q
/-- in a def's body nothing is shown -/
theorem Inv.quiet {pins : List (Addr × Obj)} {σ : St} {H : Hp} {s : Shared} (I : Inv X pins σ H s) : interactive X.env = false := by simp [interactive, I.ok.kind]
/-- an expression whose value is dropped -/
def tDrop (te : TE) : TS := fun D σ H => te σ H fun _ H1 => D.nx σ H1
theorem ps_expr (he : PE X e te) (hs : swapsWith e none pos.line X.env = pure false := by rfl) : PS X (.Expr e pos) (tDrop te) := by
  intro pins s σ H D I h
  exact wpAny_Expr_any (thn (he pins s σ H _ I h) fun v s1 ⟨x, H1, I1, r1, q1⟩ => ⟨σ, H1, I1, q1⟩) I.quiet hs
def tRet (te : TE) : TS := fun D σ H => te σ H D.rt
theorem ps_ret (he : PE X e te) : PS X (.Return (some e) pos) (tRet te) := by
  intro pins s σ H D I h
  exact wpAny_Return_some (thn (he pins s σ H _ I h) fun v s1 ⟨x, H1, I1, r1, q1⟩ => ⟨x, σ, H1, I1, r1, q1⟩)
def tIfS (c : TT) (t u : TS) : TS := fun D σ H => c σ H fun b H1 => if b = true then t D σ H1 else u D σ H1
theorem ps_if {c : Expr} {a b : List Stmt} {tc : TT} (hc : PT X c tc) (ha : PSs X a t) (hb : PSs X b u) : PS X (.If c a b pos) (tIfS tc t u) := by
  intro pins s σ H D I h
  refine wpAny_If (thn (hc pins s σ H _ I h) fun d s1 ⟨H1, I1, q1⟩ => ?_)
  cases d with
  | true => exact ha pins s1 σ H1 D I1 q1
  | false => exact hb pins s1 σ H1 D I1 q1
end

/-! ### targets -/
abbrev TG := V → St → Hp → (St → Hp → Prop) → Prop
abbrev TGs := List V → St → Hp → (St → Hp → Prop) → Prop
def PG (X : Cx) (target : Expr) (t : TG) : Prop :=
  ∀ (pins : List (Addr × Obj)) (s : Shared) (σ : St) (H : Hp) (v : V) (u : Value) (Q : St → Hp → Prop), Inv X pins σ H s → RelV v u → t v σ H Q →
    wpAny (model X.prog X.w) X.A (assign target X.env u) (fun _ s' => ∃ σ' H', Inv X pins σ' H' s' ∧ Q σ' H') X.xe s
/-- several targets, one after another -/
def PGs (X : Cx) (ts : List Expr) (t : TGs) : Prop :=
  ∀ (pins : List (Addr × Obj)) (s : Shared) (σ : St) (H : Hp) (vs : List V) (us : List Value) (Q : St → Hp → Prop), Inv X pins σ H s → Vals vs us → t vs σ H Q →
    wpAny (model X.prog X.w) X.A (assignInOrder ((assignEach ts X.env).map (·.2)) us) (fun _ s' => ∃ σ' H', Inv X pins σ' H' s' ∧ Q σ' H') X.xe s
/-- o[i] = v, by values -/
abbrev TSet := V → V → V → Hp → (Hp → Prop) → Prop
def PSet (X : Cx) (t : TSet) : Prop :=
  ∀ (pins : List (Addr × Obj)) (s : Shared) (σ : St) (H : Hp) (o i v : V) (ov iv u : Value) (Q : Hp → Prop), Inv X pins σ H s → RelV o ov → RelV i iv → RelV v u → t o i v H Q →
    wpAny (model X.prog X.w) X.A (setItem ov iv u) (fun _ s' => ∃ H', Inv X pins σ H' s' ∧ Q H') X.xe s
/-- a op= b, by values -/
abbrev TIp := V → V → Hp → VK → Prop
def PIp (X : Cx) (op : Operator) (t : TIp) : Prop :=
  ∀ (pins : List (Addr × Obj)) (s : Shared) (σ : St) (H : Hp) (x y : V) (v u : Value) (Q : VK), Inv X pins σ H s → RelV x v → RelV y u → t x y H Q →
    wpAny (model X.prog X.w) X.A (inplaceOp op v u) (EP X pins σ Q) X.xe s
section
variable {X : Cx} {pos : Pos}
def gName (i : Nat) : TG := fun v σ H Q => Q (σ.set i (some v)) H
theorem pg_name {i : Nat} {x : Str} (hN : X.N.Nodup) (hi : X.N[i]? = some x) (hx : Loc X.env.scope x) (hf : X.fn x = true ∨ X.env.scope.names.lookup x = some .local := by first | exact .inl rfl | exact .inr rfl | assumption) : PG X (.Name x pos) (gName i) := by
  intro pins s σ H v u Q I r h
  exact wpAny_assign_Name (store_ok I hN hi hx r (fun s' I' => ⟨_, H, I', h⟩) hf)
def gNil : TGs := fun vs σ H Q => vs = [] ∧ Q σ H
def gCons (t : TG) (u : TGs) : TGs := fun vs σ H Q => ∃ v r, vs = v :: r ∧ t v σ H fun σ' H' => u r σ' H' Q
theorem pgs_nil : PGs X [] gNil := by
  intro pins s σ H vs us Q I r h
  obtain ⟨e, h⟩ := h
  subst e
  cases r
  exact assignInOrder_nil ⟨σ, H, I, h⟩
theorem pgs_cons {e : Expr} {es : List Expr} {t : TG} {u : TGs} (h1 : PG X e t) (h2 : PGs X es u)
    (hs : (assignEach (e :: es) X.env).map (·.2) = assign e X.env :: (assignEach es X.env).map (·.2) := by rfl) : PGs X (e :: es) (gCons t u) := by
  intro pins s σ H vs us Q I r h
  obtain ⟨v, vr, e1, h⟩ := h
  subst e1
  cases r with
  | cons r rr =>
    rw [hs]
    refine assignInOrder_cons (thn (h1 pins s σ H _ _ _ I r h) fun _ s1 ⟨σ1, H1, I1, q1⟩ => ?_)
    exact h2 pins s1 σ1 H1 _ _ Q I1 rr q1
/-- (a, b, ..) = a tuple of that length -/
def gTup (K : PySem.W.Frag) (n : Nat) (t : TGs) : TG := fun v σ H Q => ∃ a xs, v = .ref a ∧ SqT K H a xs ∧ xs.length = n ∧ t xs σ H Q
theorem pg_tup {es : List Expr} {k : Nat} {t : TGs} {n : Nat} (hc : X.calm = true) (h : PGs X es t)
    (hn : (assignEach es X.env).length = n := by rfl) (hst : (assignEach es X.env).findIdx? (·.1) = none := by rfl) : PG X (.Tuple es k pos) (gTup X.K n t) := by
  intro pins s σ H v u Q I r hw
  obtain ⟨a, xs, e1, hq, hl, hw⟩ := hw
  subst e1
  cases r
  obtain ⟨its, rv, ht, hz⟩ := I.tuple hq
  refine assign_Tuple_tuple (I.ok.hd hc) ht (by simp [hn, ← hl, rv.length]) hst fun h' hx => ?_
  have I1 : Inv X pins σ H { s with heap := h' } := I.kept (t' := s.toks) fun b o e => hx b o (Nat.ne_of_lt (Heap.lt_size e)) e
  exact h pins _ σ H xs _ Q I1 (by simpa using rv) hw
/-- o[i] = .. -/
def gSub (to ti : TE) (t : TSet) : TG := fun v σ H Q => to σ H fun o H1 => ti σ H1 fun i H2 => t o i v H2 fun H3 => Q σ H3
theorem pg_sub {o i : Expr} {to ti : TE} {t : TSet} (ho : PE X o to) (hi : PE X i ti) (hs : PSet X t)
    (ha : ∀ v, assign (.Subscript o i pos) X.env v = (do
      let ov ← holding [v] (eval o X.env)
      let iv ← holding [v, ov] (eval i X.env)
      standAt pos
      holding [v, ov, iv] (setItem ov iv v)
      release [v, ov, iv] []) := by intro _; rfl) : PG X (.Subscript o i pos) (gSub to ti t) := by
  intro pins s σ H v u Q I r h
  rw [ha]
  refine wpAny_bind (wpAny_holding (thn (ho pins s σ H _ I h) fun ov s1 ⟨x, H1, I1, r1, q1⟩ => ?_))
  refine wpAny_bind (wpAny_holding (thn (hi pins s1 σ H1 _ I1 q1) fun iv s2 ⟨y, H2, I2, r2, q2⟩ => ?_))
  refine wpAny_bind (wpAny_standAt (wpAny_bind (wpAny_holding (thn (hs pins s2 σ H2 x y v ov iv u _ I2 r1 r2 r q2) fun _ s3 ⟨H3, I3, q3⟩ => ?_))))
  exact wpAny_release ⟨σ, H3, I3, q3⟩
/-- target = value -/
def tAsg (te : TE) (g : TG) : TS := fun D σ H => te σ H fun x H1 => g x σ H1 D.nx
theorem ps_asg {tg e : Expr} {te : TE} {g : TG} (he : PE X e te) (hg : PG X tg g) (hs : swapsWithSole [tg] e pos.line X.env = pure false := by rfl) (hw : swappedStores [tg] e X.env = pure none := by rfl)
    (h1 : (assignEach [tg] X.env).map (·.2) = [assign tg X.env] := by rfl) : PS X (.Assign [tg] e pos) (tAsg te g) := by
  intro pins s σ H D I h
  refine wpAny_Assign_stores (thn (he pins s σ H _ I h) fun v s1 ⟨x, H1, I1, r1, q1⟩ => ?_) hs hw
  rw [h1]
  exact thn (hg pins s1 σ H1 x v _ I1 r1 q1) fun _ s2 q => q
/-- name = value -/
theorem ps_set {i : Nat} {x : Str} {e : Expr} {te : TE} {pos' : Pos} (hN : X.N.Nodup) (hi : X.N[i]? = some x) (hx : Loc X.env.scope x) (he : PE X e te) (hs : swapsWith e (some (.Name x pos')) pos.line X.env = pure false := by rfl) (hf : X.fn x = true ∨ X.env.scope.names.lookup x = some .local := by first | exact .inl rfl | exact .inr rfl | assumption) :
    PS X (.Assign [.Name x pos'] e pos) (tAsg te (gName i)) := by
  intro pins s σ H D I h
  refine wpAny_Assign_Name (thn (he pins s σ H _ I h) fun v s1 ⟨y, H1, I1, r1, q1⟩ => ?_) hs
  exact store_ok I1 hN hi hx r1 (fun s2 I2 => ⟨_, H1, I2, q1⟩) hf
/-- name op= e -/
def tAug (i : Nat) (te : TE) (ti : TIp) : TS := fun D σ H => ∃ x, σ[i]? = some (some x) ∧ te σ H fun y H1 => ti x y H1 fun z H2 => D.nx (σ.set i (some z)) H2
theorem ps_aug {i : Nat} {x : Str} {e : Expr} {te : TE} {op : Operator} {ti : TIp} {pos' : Pos} (hN : X.N.Nodup) (hi : X.N[i]? = some x) (hx : Loc X.env.scope x) (he : PE X e te) (ho : PIp X op ti) (hf : X.fn x = true ∨ X.env.scope.names.lookup x = some .local := by first | exact .inl rfl | exact .inr rfl | assumption) :
    PS X (.AugAssign (.Name x pos') op e pos) (tAug i te ti) := by
  intro pins s σ H D I h
  obtain ⟨v, e1, h⟩ := h
  obtain ⟨m, hn, hl⟩ := I.loc
  have vis : Vis X.env.scope x := by rcases hx with k | k; exact .inl k; exact .inr (.inl k)
  obtain ⟨u, r, l⟩ := hl i x v hi e1 vis
  refine wpAny_AugAssign_Name ?_
  have go : wpAny (model X.prog X.w) X.A (eval e X.env) (fun w s₂ => wpAny (model X.prog X.w) X.A (inplaceOp op u w) (fun r s₃ => wpAny (model X.prog X.w) X.A (storeName X.env x r) (fun _ => SP X pins D .next) X.xe s₃) X.xe s₂) X.xe s := by
    refine thn (he pins s σ H _ I h) fun w s1 ⟨y, H1, I1, r1, q1⟩ => ?_
    refine thn (ho pins s1 σ H1 v y u w _ I1 r r1 q1) fun z s2 ⟨zv, H2, I2, r2, q2⟩ => ?_
    exact store_ok I2 hN hi hx r2 (fun s3 I3 => ⟨_, H2, I3, q2⟩) hf
  rcases l with ⟨hk, hm⟩ | ⟨hk, c, hc, hcell⟩
  · exact wpAny_loadName_local I.ok.kind hk hn hm go
  · rcases hk with hk | hk
    · exact wpAny_loadName_cell I.ok.kind hk hc hcell go
    · rcases hx with k | k
      · have : X.env.scope.names.lookup x = some .free := hk
        rw [k] at this; cases this
      · have : X.env.scope.names.lookup x = some .free := hk
        rw [k] at this; cases this
/-- ints -/
def ipI (f : Int → Int → Int) : TIp := fun x y H Q => ∃ i j, x = .int i ∧ y = .int j ∧ Q (.int (f i j)) H
theorem ip_add : PIp X .Add (ipI fun i j => i + j) := by
  intro pins s σ H x y v u Q I r1 r2 h
  obtain ⟨i, j, e1, e2, q⟩ := h
  subst e1; subst e2
  obtain ⟨t, rfl⟩ := r1
  obtain ⟨t', rfl⟩ := r2
  exact iadd_int ⟨.int _, H, I.tok _, ⟨_, rfl⟩, q⟩
end

/-! ### while -/
section
variable {X : Cx} {pos : Pos}
/-- the invariant W with its measure -/
def tWhile (c : TT) (tb : TS) : TS := fun D σ H => ∃ W : Nat → St → Hp → Prop, (∃ m, W m σ H) ∧ ∀ m σ H, W m σ H →
  c σ H fun b H1 => if b = true then ∃ N : St → Hp → Prop, (∀ σ' H', N σ' H' → ∃ m', m' < m ∧ W m' σ' H') ∧ tb { D with nx := N, ct := N, bk := D.nx } σ H1 else D.nx σ H1
theorem ps_while {c : Expr} {body : List Stmt} {tc : TT} {tb : TS} (hp : PassesOwn (model X.prog X.w) X.A X.env X.xe) (hc : PT X c tc) (hb : PSs X body tb) : PS X (.While c body [] pos) (tWhile tc tb) := by
  intro pins s σ H D I h
  obtain ⟨W, ⟨m0, w0⟩, turn⟩ := h
  refine wpAny_While (codeAny_whileLoop (fun n s' => ∃ σ' H', Inv X pins σ' H' s' ∧ W n σ' H') ?_ m0 ⟨σ, H, I, w0⟩)
  rintro n s1 ⟨σ1, H1, I1, w1⟩
  refine wpAny_passesOwn hp (thn (hc pins s1 σ1 H1 _ I1 (turn n σ1 H1 w1)) fun b s2 ⟨H2, I2, q2⟩ => ?_)
  cases b with
  | true =>
    obtain ⟨N, hN, q2⟩ := q2
    rw [if_pos rfl]
    refine wpAny_passesOwn hp (thn (hb pins s2 σ1 H2 _ I2 q2) fun f s3 q3 => ?_)
    cases f with
    | next =>
      obtain ⟨σ3, H3, I3, n3⟩ := q3
      obtain ⟨m', hm, w3⟩ := hN σ3 H3 n3
      exact ⟨m', hm, σ3, H3, I3, w3⟩
    | cont =>
      obtain ⟨σ3, H3, I3, n3⟩ := q3
      obtain ⟨m', hm, w3⟩ := hN σ3 H3 n3
      exact ⟨m', hm, σ3, H3, I3, w3⟩
    | brk => exact q3
    | ret v => exact q3
  | false =>
    rw [if_neg Bool.false_ne_true]
    exact wpAny_execs_nil ⟨σ1, H2, I2, q2⟩
end

/-! ### what a loop or a comprehension walks -/
/-- at turn i: it yields x (the heap may grow), or it stops -/
structure It where
  go : Nat → Hp → Prop
  yld : Nat → Hp → V → Hp → Prop
  stop : Nat → Hp → Prop
/-- the iterator's own objects may turn: they are not the frame's, not pinned, younger than the entry (or a comprehension's own) -/
def FpOk (X : Cx) (pins : List (Addr × Obj)) (H : Hp) (b : Addr) : Prop :=
  H b = none ∧ b ≠ X.env.locals ∧ b ∉ X.fs ∧ (b ∈ X.ex ∨ X.s₀.heap.objs.size ≤ b) ∧ (∀ x c, X.env.cells.lookup x = some c → c ≠ b) ∧ ∀ p ∈ X.pn ++ pins, p.1 ≠ b
theorem Inv.fpOk {X : Cx} {pins : List (Addr × Obj)} {σ : St} {H H' : Hp} {s : Shared} {b : Addr} (I : Inv X pins σ H s) (hb : s.heap.objs.size ≤ b) (hn : H' b = none) : FpOk X pins H' b := by
  refine ⟨hn, Nat.ne_of_gt (Nat.lt_of_lt_of_le I.lt hb), I.nofs hb, .inr (Nat.le_trans I.sz hb), fun x c e z => ?_, fun p hp z => ?_⟩
  · obtain ⟨v, q⟩ := I.cell x c e
    exact absurd (Nat.lt_of_lt_of_le q.lt (by rw [z]; exact hb)) (Nat.lt_irrefl _)
  · exact absurd (Nat.lt_of_lt_of_le (Heap.lt_size (I.pin p hp).1) (by rw [z]; exact hb)) (Nat.lt_irrefl _)
structure Turn (P : Program) (w : World) (K : PySem.W.Frag) (tg : Expr) (J : It) (fp : List Addr) (it : Addr) (tn : Nat → Heap → Prop) : Prop where
  mem : it ∈ fp
  obj : ∀ i h, tn i h → ∀ b ∈ fp, ∃ o, h.get? b = some o ∧ ∀ v, o.data ≠ .cell v
  keep : ∀ i h h', tn i h → (∀ b ∈ fp, ∀ o, h.get? b = some o → h'.get? b = some o) → tn i h'
  item : ∀ (X : Cx), X.prog = P → X.w = w → X.K = K → X.calm = true → ∀ (i : Nat) (pins : List (Addr × Obj)) (s : Shared) (σ : St) (H : Hp) (E : Value → Shared → Prop), Inv X pins σ H s → (∀ b ∈ fp, FpOk X pins H b) → tn i s.heap → J.go i H →
    wpAny (model P w) X.A (pyNext (.ref it)) (fun r s1 => ∃ u, r = some u ∧
      wpAny (model P w) X.A (letOwnedTupleGo tg (.ref it) u) (fun _ s2 => ∃ x H', Inv X pins σ H' s2 ∧ RelV x u ∧ J.yld i H x H' ∧ tn (i + 1) s2.heap ∧ ∀ b ∈ fp, H' b = none) E s1) E s
  done : ∀ (X : Cx), X.prog = P → X.w = w → X.K = K → X.calm = true → ∀ (i : Nat) (pins : List (Addr × Obj)) (s : Shared) (σ : St) (H : Hp) (E : Value → Shared → Prop), Inv X pins σ H s → (∀ b ∈ fp, FpOk X pins H b) → tn i s.heap → J.stop i H →
    wpAny (model P w) X.A (pyNext (.ref it)) (fun r s1 => r = none ∧ Inv X pins σ H s1) E s
  self : ∀ (A : Around) (i : Nat) (s : Shared) (Q : Value → Shared → Prop) (E : Value → Shared → Prop), tn i s.heap → Q (.ref it) s → wpAny (model P w) A (pyIter (.ref it)) Q E s
abbrev TI := St → Hp → (It → Hp → Prop) → Prop
/-- an iterator has come -/
def PIE (X : Cx) (pins : List (Addr × Obj)) (σ : St) (tg : Expr) (R : It → Hp → Prop) (itv : Value) (s2 : Shared) : Prop :=
  ∃ (it : Addr) (fp : List Addr) (tn : Nat → Heap → Prop) (J : It) (H' : Hp), itv = .ref it ∧ Inv X pins σ H' s2 ∧ Turn X.prog X.w X.K tg J fp it tn ∧ tn 0 s2.heap ∧ (∀ b ∈ fp, FpOk X pins H' b) ∧ R J H'
def PI (X : Cx) (tg iter : Expr) (wi : TI) : Prop :=
  ∀ (pins : List (Addr × Obj)) (s : Shared) (σ : St) (H : Hp) (R : It → Hp → Prop), Inv X pins σ H s → wi σ H R →
    wpAny (model X.prog X.w) X.A (eval iter X.env) (fun v s1 => wpAny (model X.prog X.w) X.A (pyIter v) (PIE X pins σ tg R) X.xe s1) X.xe s

/-- the step ahead of the store is nothing for an iterator that keeps no tuple -/
theorem go_of {M : Model} {A : Around} {E : Value → Shared → Prop} {s : Shared} {tg : Expr} {it : Addr} {u : Value} {o : Obj} {n : String} {vs : Array Value} {Q : Unit → Shared → Prop} (ho : s.heap.get? it = some o) (hc : o.cls = .type n) (hd : o.data = .fields vs)
    (hn : ["enumerate", "zip", "dict_itemiterator", "dict_reverseitemiterator", "odict_iterator", "itertools.zip_longest", "itertools.pairwise"].contains n = false) (hQ : Q () s) : wpAny M A (letOwnedTupleGo tg (.ref it) u) Q E s := by
  unfold letOwnedTupleGo
  cases tg <;> first
    | exact wpAny_pure hQ
    | (cases u <;> first
        | exact wpAny_pure hQ
        | (refine wpAny_bind (wpAny_load ho ?_)
           rw [hc, hd]
           show wpAny M A (if (["enumerate", "zip", "dict_itemiterator", "dict_reverseitemiterator", "odict_iterator", "itertools.zip_longest", "itertools.pairwise"].contains n && vs[0]? == some (rawInt _)) = true then _ else _) Q E s
           rw [if_neg (by intro h; rw [hn, Bool.false_and] at h; cases h)]
           exact wpAny_pure hQ))

/-- the list at a, as it stands at each turn (a loop may append to it) -/
def Itl (K : PySem.W.Frag) (a : Addr) : It :=
  ⟨fun i H => ∃ xs x, SqL K H a xs ∧ xs[i]? = some x, fun i H x H' => H' = H ∧ ∀ xs, SqL K H a xs → xs[i]? = some x, fun i H => ∃ xs, SqL K H a xs ∧ xs.length ≤ i⟩
/-- lo, lo + 1, .. (n of them) -/
def Itr (lo : Int) (n : Nat) : It := ⟨fun i _ => i < n, fun i H x H' => H' = H ∧ x = .int (lo + i), fun i _ => n ≤ i⟩
theorem turn_list {P : Program} {w : World} {K : PySem.W.Frag} {tg : Expr} (a it : Addr) : Turn P w K tg (Itl K a) [it] it (fun i h => h.IsListIter it a i) where
  mem := by simp
  obj := fun i h st b hb => by
    have e : b = it := by simpa using hb
    subst e
    obtain ⟨o, e, c, d⟩ := st
    exact ⟨o, e, fun v z => by rw [d] at z; cases z⟩
  keep := fun i h h' st k => st.at fun o e => k it (by simp) o e
  item := by
    intro X hP hw hK hc i pins s σ H E I hf st hg
    subst hP hw hK
    obtain ⟨xs, x, hq, hx⟩ := hg
    obtain ⟨its, rv, p, hz⟩ := I.list hq
    obtain ⟨u, hu, ru⟩ := rv.get hx
    obtain ⟨f0, f1, f2, f3, f4, f5⟩ := hf it (by simp)
    refine wpAny_pyNext_list_item st p.isList (x := u) (by simpa using hu) fun h' st' sb => ?_
    have I1 : Inv X pins σ H { s with heap := h' } := I.turned (t' := s.toks) (fun b o hb e => (sb.2 b hb).trans e) f0 f1 f3 f4 f5
    obtain ⟨o, e, c, d⟩ := id st'
    exact ⟨u, rfl, go_of (s := { s with heap := h' }) e c d (by decide) ⟨x, H, I1, ru, ⟨rfl, fun ys hy => by rw [I.list_inj hy hq]; exact hx⟩, st', fun b hb => (hf b hb).1⟩⟩
  done := by
    intro X hP hw hK hc i pins s σ H E I hf st hg
    subst hP hw hK
    obtain ⟨xs, hq, hx⟩ := hg
    obtain ⟨its, rv, p, hz⟩ := I.list hq
    obtain ⟨f0, f1, f2, f3, f4, f5⟩ := hf it (by simp)
    have hl := rv.length
    exact wpAny_pyNext_list_end (I.ok.hd hc) st p.isList (by simp; omega) fun h' eb => ⟨rfl, I.turned (t' := s.toks) (fun b o hb e => eb b o hb e) f0 f1 f3 f4 f5⟩
  self := fun _ _ _ _ _ st h => wpAny_pyIter_listiter st h
theorem turn_range {P : Program} {w : World} {K : PySem.W.Frag} {tg : Expr} (it : Addr) (lo : Int) (n : Nat) : Turn P w K tg (Itr lo n) [it] it (fun i h => IsRangeIter h it (lo + (i : Nat) * 1) ((n : Int) - (i : Nat)) 1) where
  mem := by simp
  obj := fun i h st b hb => by
    have e : b = it := by simpa using hb
    subst e
    exact ⟨_, st, fun v z => by
      have z' : Data.fields _ = Data.cell v := z
      cases z'⟩
  keep := fun i h h' st k => k it (by simp) _ st
  item := by
    intro X hP hw hK hc i pins s σ H E I hf st hg
    subst hP hw hK
    obtain ⟨f0, f1, f2, f3, f4, f5⟩ := hf it (by simp)
    have W := Walks.range (prog := X.prog) (w := X.w) (I.ok.hd hc) it lo 1 n
    refine W.item i s _ _ hg st fun v h' tk hv st' kk => ?_
    obtain ⟨t, rfl⟩ := hv
    have I1 : Inv X pins σ H { s with heap := h', toks := tk } := I.turned (fun b o hb e => kk b o (by simpa using hb) e) f0 f1 f3 f4 f5
    refine ⟨_, rfl, go_of (s := { s with heap := h', toks := tk }) (n := "range_iterator") st' rfl rfl (by decide) ⟨.int (lo + i), H, I1, ⟨t, ?_⟩, ⟨rfl, rfl⟩, st', fun b hb => (hf b hb).1⟩⟩
    rw [Int.mul_one]
  done := by
    intro X hP hw hK hc i pins s σ H E I hf st hg
    subst hP hw hK
    obtain ⟨f0, f1, f2, f3, f4, f5⟩ := hf it (by simp)
    exact wpAny_pyNext_range_end (I.ok.hd hc) st (by have : n ≤ i := hg; omega) fun h' eb => ⟨rfl, I.turned (t' := s.toks) (fun b o hb e => eb b o hb e) f0 f1 f3 f4 f5⟩
  self := fun _ _ _ _ _ st h => wpAny_pyIter_rangeiter st h
end L2

namespace L2
open PySem PySem.Spec PyProof.Rows
section
variable {X : Cx} {tg : Expr}
def iList (K : PySem.W.Frag) (tl : TE) : TI := fun σ H R => tl σ H fun x H1 => ∃ a, x = .ref a ∧ (∃ xs, SqL K H1 a xs) ∧ R (Itl K a) H1
theorem pi_list {l : Expr} {tl : TE} (hl : PE X l tl) : PI X tg l (iList X.K tl) := by
  intro pins s σ H R I h
  refine thn (hl pins s σ H _ I h) fun v s1 ⟨x, H1, I1, r1, q1⟩ => ?_
  obtain ⟨a, e, ⟨xs, hq⟩, q⟩ := q1
  subst e
  cases r1
  obtain ⟨its, rv, p, hz⟩ := I1.list hq
  refine wpAny_pyIter_list p.isList ?_
  refine ⟨s1.heap.objs.size, [s1.heap.objs.size], _, _, H1, rfl, I1.kept (t' := s1.toks) fun b o e => Heap.get?_push_of_some _ e, turn_list a _, ⟨_, Heap.get?_push_size _ rfl, rfl, rfl⟩, fun b hb => ?_, q⟩
  have e : b = s1.heap.objs.size := by simpa using hb
  subst e
  exact I1.fpOk (Nat.le_refl _) (I1.hok.fresh (Nat.le_refl _))
/-- a range object just made, walked -/
theorem range_it {pins : List (Addr × Obj)} {σ : St} {H : Hp} {s : Shared} {R : It → Hp → Prop} {E : Value → Shared → Prop} {lo hi : Int} {t u v : Tok} {tk : Nat} (I : Inv X pins σ H s) (h1 : -(2 ^ 62) ≤ lo) (h2 : lo < 2 ^ 62) (h3 : -(2 ^ 62) ≤ hi) (h4 : hi < 2 ^ 62)
    (q : R (Itr lo (hi - lo).toNat) H) : wpAny (model X.prog X.w) X.A (pyIter (.ref s.heap.objs.size)) (PIE X pins σ tg R) E { s with heap := s.heap.push { cls := .type "range", data := .fields #[.int lo t, .int hi u, .int 1 v] }, toks := tk } := by
  refine wpAny_pyIter_range (IsRange.new ..) (small_one h1 h2 h3 h4) ?_
  have I1 : Inv X pins σ H { s with heap := s.heap.push { cls := .type "range", data := .fields #[.int lo t, .int hi u, .int 1 v] }, toks := tk } := I.kept fun b o e => Heap.get?_push_of_some _ e
  refine ⟨(s.heap.push { cls := .type "range", data := .fields #[.int lo t, .int hi u, .int 1 v] }).objs.size, [(s.heap.push { cls := .type "range", data := .fields #[.int lo t, .int hi u, .int 1 v] }).objs.size], _, _, H, rfl,
    I1.kept (t' := tk) fun b o e => Heap.get?_push_of_some _ e, turn_range _ lo (hi - lo).toNat, ?_, fun b hb => ?_, q⟩
  · have e1 : lo + ((0 : Nat) : Int) * 1 = lo := by simp
    have e2 : (((hi - lo).toNat : Nat) : Int) - ((0 : Nat) : Int) = Builtin.Range.rangeSize lo hi 1 := by rw [rangeSize_one]; split <;> omega
    show IsRangeIter _ _ (lo + ((0 : Nat) : Int) * 1) ((((hi - lo).toNat : Nat) : Int) - ((0 : Nat) : Int)) 1
    rw [e1, e2]
    exact Heap.get?_push_size _ rfl
  · have e : b = (s.heap.push { cls := .type "range", data := .fields #[.int lo t, .int hi u, .int 1 v] }).objs.size := by simpa using hb
    subst e
    exact I1.fpOk (Nat.le_refl _) (I1.hok.fresh (Nat.le_refl _))
def iRng1 (ta : TA) : TI := fun σ H R => ta σ H fun vs H1 => ∃ j : Int, vs = [.int j] ∧ -(2 ^ 62) ≤ j ∧ j < 2 ^ 62 ∧ R (Itr 0 j.toNat) H1
def iRng2 (ta : TA) : TI := fun σ H R => ta σ H fun vs H1 => ∃ i j : Int, vs = [.int i, .int j] ∧ (-(2 ^ 62) ≤ i ∧ i < 2 ^ 62 ∧ -(2 ^ 62) ≤ j ∧ j < 2 ^ 62) ∧ R (Itr i (j - i).toNat) H1
theorem pi_range1 {a : Expr} {ta : TA} {p pos : Pos} (hg : Gl X "range") (hm : X.mg "range" = none) (ha : PA X [a] ta) (hs : starEach [a] X.env = [(false, eval a X.env)] := by rfl) : PI X tg (.Call (.Name "range" p) [a] [] pos) (iRng1 ta) := by
  intro pins s σ H R I h
  refine Call_ (ld_blt I hg hm boot_range (PyProof.Rows.callWith_type1 (thn (ha pos pins s σ H _ I h) fun us s1 ⟨vs, H1, I1, r1, q1⟩ => ?_) hs rfl))
  obtain ⟨j, e, q1, q2, q⟩ := q1
  subst e
  cases r1 with
  | cons r rr =>
    cases rr
    obtain ⟨t, rfl⟩ := r
    exact call_range_1 (range_it I1 (by omega) (by omega) q1 q2 (by simpa using q))
theorem pi_range2 {a b : Expr} {ta : TA} {p pos : Pos} (hg : Gl X "range") (hm : X.mg "range" = none) (ha : PA X [a, b] ta) (hs : starEach [a, b] X.env = [(false, eval a X.env), (false, eval b X.env)] := by rfl) (hs2 : starEach [b] X.env = [(false, eval b X.env)] := by rfl) :
    PI X tg (.Call (.Name "range" p) [a, b] [] pos) (iRng2 ta) := by
  intro pins s σ H R I h
  refine Call_ (ld_blt I hg hm boot_range (PyProof.Rows.callWith_type1 (thn (ha pos pins s σ H _ I h) fun us s1 ⟨vs, H1, I1, r1, q1⟩ => ?_) (by rw [hs, hs2]) (by rw [hs2]; rfl)))
  obtain ⟨i, j, e, ⟨q1, q2, q3, q4⟩, q⟩ := q1
  subst e
  cases r1 with
  | cons r rr =>
    cases rr with
    | cons r' rr =>
      cases rr
      obtain ⟨t, rfl⟩ := r
      obtain ⟨t', rfl⟩ := r'
      exact call_range_2 (range_it I1 q1 q2 q3 q4 q)

/-! ### for -/
/-- W: the invariant by the turn and a measure; N: what the body is to reach -/
def tFor (wi : TI) (g : TG) (tb : TS) : TS := fun D σ H => wi σ H fun J H1 => ∃ W : Nat → Nat → St → Hp → Prop, (∃ m, W 0 m σ H1) ∧ ∀ i m σ H, W i m σ H →
  (J.stop i H ∧ D.nx σ H) ∨ (J.go i H ∧ ∃ N : St → Hp → Prop, (∀ σ' H', N σ' H' → ∃ m', m' < m ∧ W (i + 1) m' σ' H') ∧ ∀ x H', J.yld i H x H' → g x σ H' fun σ2 H2 => tb { D with nx := N, ct := N, bk := D.nx } σ2 H2)
/-- the records at fp as they stand -/
def pinsAt (fp : List Addr) (h : Heap) : List (Addr × Obj) := fp.filterMap fun b => (h.get? b).map fun o => (b, o)
theorem mem_pinsAt {fp : List Addr} {h : Heap} {b : Addr} {o : Obj} (hb : b ∈ fp) (e : h.get? b = some o) : (b, o) ∈ pinsAt fp h := List.mem_filterMap.mpr ⟨b, hb, by rw [e]; rfl⟩
theorem of_pinsAt {fp : List Addr} {h : Heap} {p : Addr × Obj} (hp : p ∈ pinsAt fp h) : p.1 ∈ fp ∧ h.get? p.1 = some p.2 := by
  obtain ⟨b, hb, e⟩ := List.mem_filterMap.mp hp
  cases q : h.get? b with
  | none => rw [q] at e; cases e
  | some o =>
    rw [q] at e
    have e' : (b, o) = p := Option.some.inj e
    subst e'
    exact ⟨hb, q⟩
theorem Inv.pinned {pins : List (Addr × Obj)} {σ : St} {H : Hp} {s : Shared} {fp : List Addr} (I : Inv X pins σ H s) (hf : ∀ b ∈ fp, FpOk X pins H b) (ho : ∀ b ∈ fp, ∃ o, s.heap.get? b = some o ∧ ∀ v, o.data ≠ .cell v) : Inv X (pins ++ pinsAt fp s.heap) σ H s :=
  I.pins_of fun p hp => (List.mem_append.mp hp).elim (fun z => I.pin p (List.mem_append_right _ z)) fun z => by
    obtain ⟨hb, e⟩ := of_pinsAt z
    obtain ⟨f0, f1, f2, _⟩ := hf p.1 hb
    obtain ⟨o, e', d⟩ := ho p.1 hb
    rw [e] at e'; cases e'
    exact ⟨e, f0, f1, f2, d⟩
theorem Inv.unpinned {pins pl : List (Addr × Obj)} {σ : St} {H : Hp} {s : Shared} (I : Inv X (pins ++ pl) σ H s) : Inv X pins σ H s := I.pins_of fun p hp => I.pin p (List.mem_append_right _ (List.mem_append_left _ hp))
theorem ps_for {iter : Expr} {body : List Stmt} {wi : TI} {g : TG} {tb : TS} {pos : Pos} (hp : PassesOwn (model X.prog X.w) X.A X.env X.xe) (hc : X.calm = true) (hi : PI X tg iter wi) (hg : PG X tg g) (hb : PSs X body tb)
    (hs : ∀ x, foldedSetIterable iter X.env x = pure x := by intro _; rfl) : PS X (.For tg iter body [] pos) (tFor wi g tb) := by
  intro pins s σ H D I h
  refine wpAny_For (thn (hi pins s σ H _ I h) fun v s1 h1 => thn h1 fun itv s2 h2 => ?_) hs
  obtain ⟨it, fp, tn, J, H2, e, I2, T, st2, f2, W, ⟨m0, w0⟩, turn⟩ := h2
  subst e
  -- what stays true of the iterator's objects through the loop
  have stat : ∀ {H' : Hp}, (∀ b ∈ fp, H' b = none) → ∀ b ∈ fp, FpOk X pins H' b := fun hn b hb => ⟨hn b hb, (f2 b hb).2⟩
  refine codeAny_forLoop_any (fun n s' => ∃ i σ' H', Inv X pins σ' H' s' ∧ tn i s'.heap ∧ (∀ b ∈ fp, H' b = none) ∧ W i n σ' H') ?_ m0 ⟨0, σ, H2, I2, st2, fun b hb => (f2 b hb).1, w0⟩
  rintro n s3 ⟨i, σ3, H3, I3, st3, fr3, w3⟩
  rcases turn i n σ3 H3 w3 with ⟨stop, qn⟩ | ⟨go, N, hN, step⟩
  · refine wpAny_passesOwn hp (thn (T.done X rfl rfl rfl hc i pins s3 σ3 H3 X.xe I3 (stat fr3) st3 stop) fun r s4 ⟨hr, I4⟩ => ?_)
    subst hr
    exact wpAny_execs_nil ⟨σ3, H3, I4, qn⟩
  · refine wpAny_passesOwn hp (thn (T.item X rfl rfl rfl hc i pins s3 σ3 H3 X.xe I3 (stat fr3) st3 go) fun r s4 ⟨u, hr, h4⟩ => ?_)
    subst hr
    refine wpAny_passesOwn hp (thn h4 fun _ s5 ⟨x, H5, I5, r5, y5, st5, fr5⟩ => ?_)
    have I5' := I5.pinned (stat fr5) (T.obj _ _ st5)
    refine wpAny_passesOwn hp (thn (hg _ s5 σ3 H5 x u _ I5' r5 (step x H5 y5)) fun _ s6 ⟨σ6, H6, I6, q6⟩ => ?_)
    refine wpAny_passesOwn hp (thn (hb _ s6 σ6 H6 _ I6 q6) fun f s7 q7 => ?_)
    have again : ∀ {σ7 : St} {H7 : Hp}, Inv X (pins ++ pinsAt fp s5.heap) σ7 H7 s7 → N σ7 H7 → ∃ m, m < n ∧ ∃ i σ' H', Inv X pins σ' H' s7 ∧ tn i s7.heap ∧ (∀ b ∈ fp, H' b = none) ∧ W i m σ' H' := fun {σ7 H7} I7 n7 => by
      obtain ⟨m', hm, w7⟩ := hN σ7 H7 n7
      refine ⟨m', hm, i + 1, σ7, H7, I7.unpinned, T.keep _ _ _ st5 fun b hb o e => (I7.pin (b, o) (List.mem_append_right _ (List.mem_append_right _ (mem_pinsAt hb e)))).1, fun b hb => ?_, w7⟩
      obtain ⟨o, e, d⟩ := T.obj _ _ st5 b hb
      exact (I7.pin (b, o) (List.mem_append_right _ (List.mem_append_right _ (mem_pinsAt hb e)))).2.1
    cases f with
    | next => obtain ⟨σ7, H7, I7, n7⟩ := q7; exact again I7 n7
    | cont => obtain ⟨σ7, H7, I7, n7⟩ := q7; exact again I7 n7
    | brk => obtain ⟨σ7, H7, I7, q7⟩ := q7; exact ⟨σ7, H7, I7.unpinned, q7⟩
    | ret v => obtain ⟨x7, σ7, H7, I7, r7, q7⟩ := q7; exact ⟨x7, σ7, H7, I7.unpinned, r7, q7⟩
end

/-! ### the forms one uses -/
/-- over a list that the body leaves as it is -/
theorem for_list {K : PySem.W.Frag} {a : Addr} {xs : List V} {g : TG} {tb : TS} {D : Ends} {σ : St} {H : Hp} (Pv : Nat → St → Hp → Prop) (h0 : Pv 0 σ H) (hl : ∀ i σ H, i ≤ xs.length → Pv i σ H → SqL K H a xs)
    (hs : ∀ i x σ H, xs[i]? = some x → Pv i σ H → g x σ H fun σ2 H2 => tb { D with nx := Pv (i + 1), ct := Pv (i + 1), bk := D.nx } σ2 H2) (hd : ∀ σ H, Pv xs.length σ H → D.nx σ H) :
    ∃ W : Nat → Nat → St → Hp → Prop, (∃ m, W 0 m σ H) ∧ ∀ i m σ H, W i m σ H →
      ((Itl K a).stop i H ∧ D.nx σ H) ∨ ((Itl K a).go i H ∧ ∃ N : St → Hp → Prop, (∀ σ' H', N σ' H' → ∃ m', m' < m ∧ W (i + 1) m' σ' H') ∧ ∀ x H', (Itl K a).yld i H x H' → g x σ H' fun σ2 H2 => tb { D with nx := N, ct := N, bk := D.nx } σ2 H2) := by
  refine ⟨fun i m σ H => m = xs.length - i ∧ i ≤ xs.length ∧ Pv i σ H, ⟨xs.length, by simp, Nat.zero_le _, h0⟩, ?_⟩
  rintro i m σ H ⟨rfl, hi, p⟩
  have q := hl i σ H hi p
  by_cases hlt : i < xs.length
  · refine .inr ⟨⟨xs, xs[i], q, by simp [hlt]⟩, Pv (i + 1), fun σ' H' p' => ⟨xs.length - (i + 1), by omega, rfl, hlt, p'⟩, fun x H' y => ?_⟩
    obtain ⟨e, y⟩ := y
    subst e
    exact hs i x σ _ (y xs q) p
  · have e : i = xs.length := by omega
    subst e
    exact .inl ⟨⟨xs, q, Nat.le_refl _⟩, hd σ H p⟩
theorem for_range {lo : Int} {n : Nat} {g : TG} {tb : TS} {D : Ends} {σ : St} {H : Hp} (Pv : Nat → St → Hp → Prop) (h0 : Pv 0 σ H)
    (hs : ∀ i σ H, i < n → Pv i σ H → g (.int (lo + i)) σ H fun σ2 H2 => tb { D with nx := Pv (i + 1), ct := Pv (i + 1), bk := D.nx } σ2 H2) (hd : ∀ σ H, Pv n σ H → D.nx σ H) :
    ∃ W : Nat → Nat → St → Hp → Prop, (∃ m, W 0 m σ H) ∧ ∀ i m σ H, W i m σ H →
      ((Itr lo n).stop i H ∧ D.nx σ H) ∨ ((Itr lo n).go i H ∧ ∃ N : St → Hp → Prop, (∀ σ' H', N σ' H' → ∃ m', m' < m ∧ W (i + 1) m' σ' H') ∧ ∀ x H', (Itr lo n).yld i H x H' → g x σ H' fun σ2 H2 => tb { D with nx := N, ct := N, bk := D.nx } σ2 H2) := by
  refine ⟨fun i m σ H => m = n - i ∧ i ≤ n ∧ Pv i σ H, ⟨n, by simp, Nat.zero_le _, h0⟩, ?_⟩
  rintro i m σ H ⟨rfl, hi, p⟩
  by_cases hlt : i < n
  · refine .inr ⟨hlt, Pv (i + 1), fun σ' H' p' => ⟨n - (i + 1), by omega, rfl, hlt, p'⟩, fun x H' y => ?_⟩
    obtain ⟨e, y⟩ := y
    subst e y
    exact hs i σ _ hlt p
  · have e : i = n := by omega
    subst e
    exact .inl ⟨Nat.le_refl _, hd σ H p⟩
/-- while, by a word and a measure of the state -/
theorem while_by {c : TT} {tb : TS} {D : Ends} {σ : St} {H : Hp} (Pv : St → Hp → Prop) (μ : St → Hp → Nat) (h0 : Pv σ H)
    (hs : ∀ σ H, Pv σ H → c σ H fun b H1 => if b = true then tb { D with nx := fun σ' H' => Pv σ' H' ∧ μ σ' H' < μ σ H, ct := fun σ' H' => Pv σ' H' ∧ μ σ' H' < μ σ H, bk := D.nx } σ H1 else D.nx σ H1)
    (mono : ∀ σ H Q Q', (∀ b H1, Q b H1 → Q' b H1) → c σ H Q → c σ H Q') : tWhile c tb D σ H := by
  refine ⟨fun m σ H => m = μ σ H ∧ Pv σ H, ⟨_, rfl, h0⟩, ?_⟩
  rintro m σ H ⟨rfl, p⟩
  refine mono σ H _ _ (fun b H1 q => ?_) (hs σ H p)
  cases b with
  | true => exact ⟨_, fun σ' H' ⟨p', l⟩ => ⟨_, l, rfl, p'⟩, q⟩
  | false => exact q
end L2

namespace L2
open PySem PySem.Spec PyProof.Rows

abbrev R2 := V → V → Hp → VK → Prop
/-- a two-place operation on values: f is binaryOp op, inplaceOp op or compareOp op -/
def OpR (X : Cx) (f : Value → Value → Sem Value) (r : R2) : Prop :=
  ∀ (pins : List (Addr × Obj)) (s : Shared) (σ : St) (H : Hp) (x y : V) (v u : Value) (Q : VK), Inv X pins σ H s → RelV x v → RelV y u → r x y H Q →
    wpAny (model X.prog X.w) X.A (f v u) (EP X pins σ Q) X.xe s
/-- a one-place operation -/
def UnR (X : Cx) (f : Value → Sem Value) (r : V → Hp → VK → Prop) : Prop :=
  ∀ (pins : List (Addr × Obj)) (s : Shared) (σ : St) (H : Hp) (x : V) (v : Value) (Q : VK), Inv X pins σ H s → RelV x v → r x H Q →
    wpAny (model X.prog X.w) X.A (f v) (EP X pins σ Q) X.xe s
/-- a call of a value that is known (a builtin, a type) with values -/
def CallR (X : Cx) (f : Value) (r : List V → Hp → VK → Prop) : Prop :=
  ∀ (pins : List (Addr × Obj)) (s : Shared) (σ : St) (H : Hp) (xs : List V) (us : List Value) (Q : VK), Inv X pins σ H s → Vals xs us → r xs H Q →
    wpAny (model X.prog X.w) X.A (call f us) (EP X pins σ Q) X.xe s
def tOp (r : R2) (ta tb : TE) : TE := fun σ H Q => ta σ H fun x H1 => tb σ H1 fun y H2 => r x y H2 Q
def tUn (r : V → Hp → VK → Prop) (ta : TE) : TE := fun σ H Q => ta σ H fun x H1 => r x H1 Q
/-- ints in, under C, and a value out -/
def rI (C : Int → Int → Prop) (g : Int → Int → V) : R2 := fun x y H Q => ∃ i j, x = .int i ∧ y = .int j ∧ C i j ∧ Q (g i j) H
def rI0 (g : Int → Int → V) : R2 := fun x y H Q => ∃ i j, x = .int i ∧ y = .int j ∧ Q (g i j) H
def rU (g : Int → V) : V → Hp → VK → Prop := fun x H Q => ∃ i, x = .int i ∧ Q (g i) H

section
variable {X : Cx} {a b c : Expr} {ta tb tc : TE} {pos : Pos}

theorem binT (ha : PE X a ta) (hb : PE X b tb) {pins : List (Addr × Obj)} {s : Shared} {σ : St} {H : Hp} {R : V → V → Hp → Prop} (I : Inv X pins σ H s)
    (h : ta σ H fun x H1 => tb σ H1 fun y H2 => R x y H2) {Q : Value → Shared → Prop} {f : Value → Value → Sem Value}
    (hf : ∀ v u s2 x y H2, Inv X pins σ H2 s2 → RelV x v → RelV y u → R x y H2 → wpAny (model X.prog X.w) X.A (f v u) Q X.xe s2) :
    wpAny (model X.prog X.w) X.A (eval a X.env) (fun v s₁ => wpAny (model X.prog X.w) X.A (eval b X.env) (fun u s₂ => wpAny (model X.prog X.w) X.A (f v u) Q X.xe s₂) X.xe s₁) X.xe s := by
  refine thn (ha pins s σ H _ I h) fun v s1 ⟨x, H1, I1, r1, q1⟩ => ?_
  refine thn (hb pins s1 σ H1 _ I1 q1) fun u s2 ⟨y, H2, I2, r2, q2⟩ => ?_
  exact hf v u s2 x y H2 I2 r1 r2 q2

theorem pe_op {op : Operator} {r : R2} (ho : OpR X (binaryOp op) r) (ha : PE X a ta) (hb : PE X b tb) : PE X (.BinOp a op b pos) (tOp r ta tb) := by
  intro pins s σ H Q I h
  exact wpAny_BinOp (binT ha hb I h fun v u s2 x y H2 I2 rx ry q => ho pins s2 σ H2 x y v u Q I2 rx ry q)
theorem pe_un {op : UnaryOp} {r : V → Hp → VK → Prop} (ho : UnR X (unaryOp op) r) (ha : PE X a ta) : PE X (.UnaryOp op a pos) (tUn r ta) := by
  intro pins s σ H Q I h
  exact UnaryOp_ (thn (ha pins s σ H _ I h) fun v s1 ⟨x, H1, I1, r1, q1⟩ => ho pins s1 σ H1 x v Q I1 r1 q1)
/-! ### ints -/
theorem opI {f : Value → Value → Sem Value} {C : Int → Int → Prop} {g : Int → Int → Int}
    (rule : ∀ (i j : Int) (t u : Tok) (s : Shared) (Q : Value → Shared → Prop) (E : Value → Shared → Prop), C i j → Q (.int (g i j) s.toks) { s with toks := s.toks + 1 } → wpAny (model X.prog X.w) X.A (f (.int i t) (.int j u)) Q E s) :
    OpR X f (rI C fun i j => .int (g i j)) := by
  intro pins s σ H x y v u Q I rx ry h
  obtain ⟨i, j, rfl, rfl, hc, q⟩ := h
  obtain ⟨t, rfl⟩ := rx
  obtain ⟨t', rfl⟩ := ry
  exact rule i j t t' s _ _ hc ⟨.int (g i j), H, I.tok _, ⟨_, rfl⟩, q⟩
theorem opI0 {f : Value → Value → Sem Value} {g : Int → Int → Int}
    (rule : ∀ (i j : Int) (t u : Tok) (s : Shared) (Q : Value → Shared → Prop) (E : Value → Shared → Prop), Q (.int (g i j) s.toks) { s with toks := s.toks + 1 } → wpAny (model X.prog X.w) X.A (f (.int i t) (.int j u)) Q E s) :
    OpR X f (rI0 fun i j => .int (g i j)) := by
  intro pins s σ H x y v u Q I rx ry h
  obtain ⟨i, j, rfl, rfl, q⟩ := h
  obtain ⟨t, rfl⟩ := rx
  obtain ⟨t', rfl⟩ := ry
  exact rule i j t t' s _ _ ⟨.int (g i j), H, I.tok _, ⟨_, rfl⟩, q⟩
theorem opB0 {f : Value → Value → Sem Value} {g : Int → Int → Bool}
    (rule : ∀ (i j : Int) (t u : Tok) (s : Shared) (Q : Value → Shared → Prop) (E : Value → Shared → Prop), Q (.bool (g i j)) s → wpAny (model X.prog X.w) X.A (f (.int i t) (.int j u)) Q E s) :
    OpR X f (rI0 fun i j => .bl (g i j)) := by
  intro pins s σ H x y v u Q I rx ry h
  obtain ⟨i, j, rfl, rfl, q⟩ := h
  obtain ⟨t, rfl⟩ := rx
  obtain ⟨t', rfl⟩ := ry
  exact rule i j t t' s _ _ ⟨.bl (g i j), H, I, rfl, q⟩

def CDiv (i j : Int) : Prop := 0 < j ∧ j < 1073741824
def CPow (i j : Int) : Prop := 0 ≤ j ∧ j ≤ 1000000 ∧ i.natAbs < 2 ^ 64
def CMul (i j : Int) : Prop := (-(2 ^ 64) < i ∧ i < 2 ^ 64) ∨ (-(2 ^ 64) < j ∧ j < 2 ^ 64)
theorem CMul.ok {i j : Int} (h : CMul i j) : IntMulOk i j := by
  rcases h with ⟨h1, h2⟩ | ⟨h1, h2⟩
  · exact .of_left (intBits_le_64 h1 h2)
  · exact .of_right (intBits_le_64 h1 h2)
theorem op_add : OpR X (binaryOp .Add) (rI0 fun i j => .int (i + j)) := opI0 fun _ _ _ _ _ _ _ q => add_int q
theorem op_sub : OpR X (binaryOp .Sub) (rI0 fun i j => .int (i - j)) := opI0 fun _ _ _ _ _ _ _ q => sub_int q
theorem op_mul : OpR X (binaryOp .Mult) (rI CMul fun i j => .int (i * j)) := opI fun _ _ _ _ _ _ _ hc q => mul_int q hc.ok
/-- // by a positive divisor -/
theorem op_fdiv : OpR X (binaryOp .FloorDiv) (rI CDiv fun i j => .int (i / j)) := opI fun i j _ _ _ _ _ hc q => by
  have h1 : (0 : Int) < j := hc.1
  have h2 : j < 1073741824 := hc.2
  exact floordiv_int (by omega) (by rw [Int.fdiv_eq_ediv_of_nonneg i (by omega)]; exact q) (.inl (PyProof.noPylong_small (by omega)))
/-- % by a positive divisor of any size -/
theorem op_mod : OpR X (binaryOp .Mod) (rI (fun _ j => 0 < j) fun i j => .int (i % j)) := opI fun i j _ _ _ _ _ hc q => by
  have h1 : (0 : Int) < j := hc
  exact mod_int' (by omega) (by rw [Int.fmod_eq_emod_of_nonneg i (by omega)]; exact q)
theorem op_pow : OpR X (binaryOp .Pow) (rI CPow fun i j => .int (i ^ j.toNat)) := opI fun _ _ _ _ _ _ _ hc q => pow_int_small hc.1 hc.2.1 hc.2.2 q
theorem unI {f : Value → Sem Value} {g : Int → Int}
    (rule : ∀ (i : Int) (t : Tok) (s : Shared) (Q : Value → Shared → Prop) (E : Value → Shared → Prop), Q (.int (g i) s.toks) { s with toks := s.toks + 1 } → wpAny (model X.prog X.w) X.A (f (.int i t)) Q E s) :
    UnR X f (rU fun i => .int (g i)) := by
  intro pins s σ H x v Q I rx h
  obtain ⟨i, rfl, q⟩ := h
  obtain ⟨t, rfl⟩ := rx
  exact rule i t s _ _ ⟨.int (g i), H, I.tok _, ⟨_, rfl⟩, q⟩
theorem un_neg : UnR X (unaryOp .USub) (rU fun i => .int (-i)) := unI fun _ _ _ _ _ q => neg_int q
/-! ### bools among ints: n += (a < b) -/
end

/-! ### comparisons -/
/-- the scalars that == tells apart as data does -/
def scal : V → V → Bool
  | .non, .non => true | .non, .int _ => true | .int _, .non => true | .non, .bl _ => true | .bl _, .non => true | .non, .str _ => true | .str _, .non => true
  | .int _, .int _ => true | .bl _, .bl _ => true | .str _, .str _ => true | .byt _, .byt _ => true
  | .int _, .str _ => true | .str _, .int _ => true | .bl _, .str _ => true | .str _, .bl _ => true
  | _, _ => false
def rEq : R2 := fun x y H Q => scal x y = true ∧ Q (.bl (decide (x = y))) H
def rNe : R2 := fun x y H Q => scal x y = true ∧ Q (.bl (!decide (x = y))) H

theorem dec_int {i j : Int} : decide (V.int i = V.int j) = (i == j) := by
  rw [Bool.eq_iff_iff]
  simp
theorem dec_bl {i j : Bool} : decide (V.bl i = V.bl j) = (i == j) := by
  rw [Bool.eq_iff_iff]
  simp
theorem dec_str {i j : Str} : decide (V.str i = V.str j) = (i == j) := by
  rw [Bool.eq_iff_iff]
  simp
theorem dec_byt {i j : Array UInt8} : decide (V.byt i = V.byt j) = (i.toList == j.toList) := by
  rw [Bool.eq_iff_iff]
  cases i
  cases j
  simp

section
variable {X : Cx} {a b c : Expr} {ta tb tc : TE} {pos : Pos}
theorem fin_bl {pins : List (Addr × Obj)} {σ : St} {H : Hp} {s : Shared} {Q : VK} {k k' : Bool} (I : Inv X pins σ H s) (q : Q (.bl k) H) (e : k = k') : EP X pins σ Q (.bool k') s := by
  subst e
  exact ⟨.bl k, H, I, rfl, q⟩
theorem op_eq : OpR X (compareOp .Eq) rEq := by
  intro pins s σ H x y v u Q I rx ry h
  obtain ⟨hs, q⟩ := h
  cases x with
  | non =>
    cases rx
    cases y with
    | non => cases ry; exact PySem.EqNone.eq_none_none (fin_bl I q (by simp))
    | bl j => cases ry; exact PySem.EqNone.eq_none_bool (fin_bl I q (by simp))
    | int j => obtain ⟨t', rfl⟩ := ry; exact PySem.EqNone.eq_none_int (fin_bl I q (by simp))
    | str j => obtain ⟨t', rfl⟩ := ry; exact PySem.EqNone.eq_none_str (fin_bl I q (by simp))
    | _ => exact absurd (show false = true from hs) Bool.false_ne_true
  | bl i =>
    cases rx
    cases y with
    | non => cases ry; exact PySem.EqNone.eq_bool_none (fin_bl I q (by simp))
    | bl j => cases ry; exact eq_bool (fin_bl I q dec_bl)
    | str j => obtain ⟨t', rfl⟩ := ry; exact PySem.EqMixed.eq_bool_str (fin_bl I q (by simp))
    | _ => exact absurd (show false = true from hs) Bool.false_ne_true
  | int i =>
    obtain ⟨t, rfl⟩ := rx
    cases y with
    | non => cases ry; exact PySem.EqNone.eq_int_none (fin_bl I q (by simp))
    | int j => obtain ⟨t', rfl⟩ := ry; exact eq_int (fin_bl I q dec_int)
    | str j => obtain ⟨t', rfl⟩ := ry; exact PySem.EqMixed.eq_int_str (fin_bl I q (by simp))
    | _ => exact absurd (show false = true from hs) Bool.false_ne_true
  | str i =>
    obtain ⟨t, rfl⟩ := rx
    cases y with
    | non => cases ry; exact PySem.EqNone.eq_str_none (fin_bl I q (by simp))
    | bl j => cases ry; exact PySem.EqMixed.eq_str_bool (fin_bl I q (by simp))
    | int j => obtain ⟨t', rfl⟩ := ry; exact PySem.EqMixed.eq_str_int (fin_bl I q (by simp))
    | str j => obtain ⟨t', rfl⟩ := ry; exact eq_str (fin_bl I q dec_str)
    | _ => exact absurd (show false = true from hs) Bool.false_ne_true
  | byt i =>
    obtain ⟨t, rfl⟩ := rx
    cases y with
    | byt j => obtain ⟨t', rfl⟩ := ry; exact PySem.W.eq_bytes (fin_bl I q dec_byt)
    | _ => exact absurd (show false = true from hs) Bool.false_ne_true
  | _ => cases y <;> exact absurd (show false = true from hs) Bool.false_ne_true
theorem op_ne : OpR X (compareOp .NotEq) rNe := by
  intro pins s σ H x y v u Q I rx ry h
  obtain ⟨hs, q⟩ := h
  cases x with
  | non =>
    cases rx
    cases y with
    | non => cases ry; exact PySem.EqNone.ne_none_none (fin_bl I q (by simp))
    | bl j => cases ry; exact PySem.EqNone.ne_none_bool (fin_bl I q (by simp))
    | int j => obtain ⟨t', rfl⟩ := ry; exact PySem.EqNone.ne_none_int (fin_bl I q (by simp))
    | str j => obtain ⟨t', rfl⟩ := ry; exact PySem.EqNone.ne_none_str (fin_bl I q (by simp))
    | _ => exact absurd (show false = true from hs) Bool.false_ne_true
  | bl i =>
    cases rx
    cases y with
    | non => cases ry; exact PySem.EqNone.ne_bool_none (fin_bl I q (by simp))
    | bl j => cases ry; exact ne_bool (fin_bl I q (congrArg not dec_bl))
    | str j => obtain ⟨t', rfl⟩ := ry; exact PySem.EqMixed.ne_bool_str (fin_bl I q (by simp))
    | _ => exact absurd (show false = true from hs) Bool.false_ne_true
  | int i =>
    obtain ⟨t, rfl⟩ := rx
    cases y with
    | non => cases ry; exact PySem.EqNone.ne_int_none (fin_bl I q (by simp))
    | int j => obtain ⟨t', rfl⟩ := ry; exact ne_int (fin_bl I q (congrArg not dec_int))
    | str j => obtain ⟨t', rfl⟩ := ry; exact PySem.EqMixed.ne_int_str (fin_bl I q (by simp))
    | _ => exact absurd (show false = true from hs) Bool.false_ne_true
  | str i =>
    obtain ⟨t, rfl⟩ := rx
    cases y with
    | non => cases ry; exact PySem.EqNone.ne_str_none (fin_bl I q (by simp))
    | bl j => cases ry; exact PySem.EqMixed.ne_str_bool (fin_bl I q (by simp))
    | int j => obtain ⟨t', rfl⟩ := ry; exact PySem.EqMixed.ne_str_int (fin_bl I q (by simp))
    | str j => obtain ⟨t', rfl⟩ := ry; exact ne_str (fin_bl I q (congrArg not dec_str))
    | _ => exact absurd (show false = true from hs) Bool.false_ne_true
  | byt i =>
    obtain ⟨t, rfl⟩ := rx
    cases y with
    | byt j => obtain ⟨t', rfl⟩ := ry; exact PySem.W.ne_bytes (fin_bl I q (congrArg not dec_byt))
    | _ => exact absurd (show false = true from hs) Bool.false_ne_true
  | _ => cases y <;> exact absurd (show false = true from hs) Bool.false_ne_true

theorem op_lt : OpR X (compareOp .Lt) (rI0 fun i j => .bl (decide (i < j))) := opB0 fun _ _ _ _ _ _ _ q => lt_int q
theorem op_gt : OpR X (compareOp .Gt) (rI0 fun i j => .bl (decide (j < i))) := opB0 fun _ _ _ _ _ _ _ q => gt_int q
theorem op_ge : OpR X (compareOp .GtE) (rI0 fun i j => .bl (decide (j ≤ i))) := opB0 fun _ _ _ _ _ _ _ q => ge_int q
/-- is None, is not None: the right side a value none -/
theorem op_isN : OpR X (compareOp .Is) (fun x y H Q => y = .non ∧ Q (.bl (decide (x = .non))) H) := by
  intro pins s σ H x y v u Q I rx ry h
  obtain ⟨rfl, q⟩ := h
  cases ry
  refine is_none_gen (fin_bl I q ?_)
  cases x <;> first
    | (cases rx; rfl)
    | (obtain ⟨t, rfl⟩ := rx; rfl)
theorem op_notN : OpR X (compareOp .IsNot) (fun x y H Q => y = .non ∧ Q (.bl (!decide (x = .non))) H) := by
  intro pins s σ H x y v u Q I rx ry h
  obtain ⟨rfl, q⟩ := h
  cases ry
  refine isnot_none_gen (fin_bl I q ?_)
  cases x <;> first
    | (cases rx; rfl)
    | (obtain ⟨t, rfl⟩ := rx; rfl)

/-- two rules for one operation: by cases -/
theorem OpR.or {f : Value → Value → Sem Value} {r r' : R2} (h : OpR X f r) (h' : OpR X f r') : OpR X f (fun x y H Q => r x y H Q ∨ r' x y H Q) := by
  intro pins s σ H x y v u Q I rx ry q
  rcases q with q | q
  · exact h pins s σ H x y v u Q I rx ry q
  · exact h' pins s σ H x y v u Q I rx ry q

theorem nomark (b : Expr) {op : CmpOp} (h : op ≠ .In := by decide) (h2 : op ≠ .NotIn := by decide) : behindInMarks op b = false := by
  have e1 : (op == CmpOp.In) = false := by cases op <;> first | rfl | exact absurd rfl h
  have e2 : (op == CmpOp.NotIn) = false := by cases op <;> first | rfl | exact absurd rfl h2
  cases b <;> simp [behindInMarks, e1, e2]
/-- a comparison as a value; hm: nomark b, or (for in, not in) by with_unfolding_all rfl -/
theorem pe_cmpR {op : CmpOp} {r : R2} (ho : OpR X (compareOp op) r) (ha : PE X a ta) (hb : PE X b tb) (hm : behindInMarks op b = false) : PE X (.Compare a [op] [b] pos) (tOp r ta tb) := by
  intro pins s σ H Q I h
  exact wpAny_Compare1 (binT ha hb I h fun v u s2 x y H2 I2 rx ry q => ho pins s2 σ H2 x y v u Q I2 rx ry q) hm
/-- a reading of a value as a test -/
def tTest (t : TE) : TT := fun σ H Q => t σ H fun x H' => ∃ k, x = .bl k ∧ Q k H'
theorem pt_cmpR {op : CmpOp} {r : R2} (ho : OpR X (compareOp op) r) (ha : PE X a ta) (hb : PE X b tb) (hm : behindInMarks op b = false) : PT X (.Compare a [op] [b] pos) (tTest (tOp r ta tb)) := by
  intro pins s σ H Q I h
  refine wpAny_isTrue_Compare1 (thn (ha pins s σ H _ I h) fun v s1 ⟨x, H1, I1, r1, q1⟩ => thn (hb pins s1 σ H1 _ I1 q1) fun u s2 ⟨y, H2, I2, r2, q2⟩ =>
    thn (ho pins s2 σ H2 x y v u _ I2 r1 r2 q2) fun c s3 ⟨z, H3, I3, r3, k, e, q3⟩ => ?_) hm
  subst e
  cases r3
  exact wpAny_truthy_bool ⟨H3, I3, q3⟩
/-! ### truth -/
theorem line63 : (sizeLine : Nat) < 2 ^ 63 := by rw [sizeLine_eq]; decide
/-! ### strs and bytes -/
theorem op_add_str : OpR X (binaryOp .Add) (fun x y H Q => ∃ i j, x = .str i ∧ y = .str j ∧ i.length + j.length ≤ sizeLine ∧ Q (.str (i ++ j)) H) := by
  intro pins s σ H x y v u Q I rx ry h
  obtain ⟨i, j, rfl, rfl, hz, q⟩ := h
  obtain ⟨t, rfl⟩ := rx
  obtain ⟨t', rfl⟩ := ry
  exact add_str (fun t' tk => ⟨.str (i ++ j), H, I.tok _, ⟨_, rfl⟩, q⟩) hz
/-! ### scalar builtins, by CallR -/
theorem vals1 {x : V} {us : List Value} (r : Vals [x] us) : ∃ u, us = [u] ∧ RelV x u := by
  cases r with
  | cons r1 r2 => cases r2; exact ⟨_, rfl, r1⟩
theorem vals2 {x y : V} {us : List Value} (r : Vals [x, y] us) : ∃ u w', us = [u, w'] ∧ RelV x u ∧ RelV y w' := by
  cases r with
  | cons r1 r2 =>
    cases r2 with
    | cons r3 r4 => cases r4; exact ⟨_, _, rfl, r1, r3⟩
theorem call_max2 (hc : X.calm = true) : CallR X (.builtin "max") (fun xs H Q => ∃ i j, xs = [.int i, .int j] ∧ Q (.int (if j > i then j else i)) H) := by
  intro pins s σ H xs us Q I r h
  obtain ⟨i, j, rfl, q⟩ := h
  obtain ⟨u, w', rfl, ⟨t, rfl⟩, ⟨t', rfl⟩⟩ := vals2 r
  refine max_two_ints (I.ok.hd hc) fun h' tk k => ⟨_, H, I.kept k, ?_, q⟩
  by_cases hj : j > i
  · rw [if_pos hj, if_pos hj]; exact ⟨_, rfl⟩
  · rw [if_neg hj, if_neg hj]; exact ⟨_, rfl⟩
theorem call_min2 (hc : X.calm = true) : CallR X (.builtin "min") (fun xs H Q => ∃ i j, xs = [.int i, .int j] ∧ Q (.int (if j < i then j else i)) H) := by
  intro pins s σ H xs us Q I r h
  obtain ⟨i, j, rfl, q⟩ := h
  obtain ⟨u, w', rfl, ⟨t, rfl⟩, ⟨t', rfl⟩⟩ := vals2 r
  refine min_two_ints (I.ok.hd hc) fun h' tk k => ⟨_, H, I.kept k, ?_, q⟩
  by_cases hj : j < i
  · rw [if_pos hj, if_pos hj]; exact ⟨_, rfl⟩
  · rw [if_neg hj, if_neg hj]; exact ⟨_, rfl⟩
theorem call_int1 : CallR X (.type "int") (fun xs H Q => (∃ i, xs = [.int i] ∧ Q (.int i) H) ∨ ∃ k, xs = [.bl k] ∧ Q (.int (if k then 1 else 0)) H) := by
  intro pins s σ H xs us Q I r h
  rcases h with ⟨i, rfl, q⟩ | ⟨k, rfl, q⟩
  · obtain ⟨u, rfl, t, rfl⟩ := vals1 r
    exact call_int_int ⟨.int i, H, I, ⟨_, rfl⟩, q⟩
  · obtain ⟨u, rfl, r1⟩ := vals1 r
    cases r1
    exact call_int_bool ⟨.int (if k then 1 else 0), H, I.tok _, ⟨_, rfl⟩, q⟩
end
end L2

namespace L2
open PySem PySem.Spec PyProof.Rows

/-! ### an instance, its attributes a map -/
structure ObjM (h : Heap) (x dx C : Addr) (mA : Str → Option Value) : Prop where
  obj : h.get? x = some (PySem.W.instObj C dx)
  ns : h.Ns1 dx mA
  ne : dx ≠ x

theorem lookIn_ns {h : Heap} {dx : Addr} {mA : Str → Option Value} (n : h.Ns1 dx mA) : ∃ od, h.get? dx = some od ∧ ∀ name, PySem.W.lookIn name od = some (mA name) := by
  obtain ⟨o, es, ep, ho, hd, hk, _, hm⟩ := n
  refine ⟨o, ho, fun name => ?_⟩
  have e := hm name
  unfold nsFind findBy at e
  rw [← Array.find?_toList] at e
  unfold PySem.W.lookIn
  rw [hd]
  dsimp only
  split
  · rename_i y q
    rw [q] at e
    exact congrArg some e
  · rename_i q
    rw [q] at e
    have a : es.toList.any (·.refKey) = false := by
      rw [List.any_eq_false]
      intro y hy
      obtain ⟨z, t, hkey⟩ := hk y (Array.mem_toList_iff.mp hy)
      simp [DictEntry.refKey, hkey]
    have a' : ¬ es.toList.any (·.refKey) = true := by rw [a]; exact Bool.false_ne_true
    rw [if_neg a']
    exact congrArg some e

theorem ObjM.look {h : Heap} {x dx C : Addr} {mA : Str → Option Value} (I : ObjM h x dx C mA) : ∃ od, PySem.W.InstAt h x (PySem.W.instObj C dx) C (some od) ∧ ∀ name, PySem.W.lookIn name od = some (mA name) :=
  let ⟨od, ho, hl⟩ := lookIn_ns I.ns
  ⟨od, ⟨I.obj, rfl, rfl, ho⟩, hl⟩

section
variable {prog : Program} {w : World} {A : Around} {E : Value → Shared → Prop} {s : Shared} {K : PySem.W.Frag} {x dx C f : Addr} {mA : Str → Option Value} {name : Str} {v : Value}

end

/-! ### the attributes as a list of pairs -/
theorem RelO.some_of {v : V} {o : Option Value} (r : RelO (some v) o) : ∃ u, o = some u ∧ RelV v u := by
  cases o with
  | none => exact (show False from r).elim
  | some u => exact ⟨u, rfl, r⟩
section
variable {P : Program} {w : World} {H H' : Hp} {h h' : Heap} {a C dx : Addr} {fs fs' : List (Str × V)}
theorem ins_get (hok : HOk P w H h) (e : H a = some (.ins C dx fs)) : ∃ mA, ObjM h a dx C mA ∧ (∀ f, RelO (fs.lookup f) (mA f)) ∧ PySem.Within mA (fs.map (·.1)) ∧ fs.length ≤ 1000 ∧ H dx = some (.own a) := by
  obtain ⟨d, z, ne, ob, mA, n, r, q⟩ := (show ObjOk P w H h a (.ins C dx fs) from hok a _ e)
  exact ⟨mA, ⟨ob, n, ne⟩, r, q, z, d⟩
end

/-! ### what of the text a class must have -/
structure Cls (K : PySem.W.Frag) (C : Addr) : Prop where
  pg : PySem.W.plainGet K C Str.empty = true
  hd : PySem.W.hasDictIn K C = true
  po : PySem.W.plainOver K C = true
  sa : PySem.W.findIn K (.ref C) "__setattr__" = some (some (.builtin "object.__setattr__"))
theorem Cls.get {K : PySem.W.Frag} {C : Addr} (c : Cls K C) (f : Str) : PySem.W.plainGet K C f = true := c.pg
/-- a constant of the class -/
structure Con (K : PySem.W.Frag) (C : Addr) (f : Str) (v : V) (u : Value) : Prop where
  at_ : PySem.W.findIn K (.ref C) f = some (some u)
  rel : RelV v u
  get : PySem.W.specialIn K u "__get__" = some none
  cp : PySem.W.copiedNames.contains f = false
/-- a method: a plain def of the class or of one above it -/
structure Meth (K : PySem.W.Frag) (C : Addr) (m : Str) (f : Addr) : Prop where
  at_ : PySem.W.findIn K (.ref C) m = some (some (.ref f))
  fn : PySem.W.isFn K (.ref f) = true
  kp : PySem.W.keepIn K (.ref f) = true

section
variable {X : Cx} {pins : List (Addr × Obj)} {σ : St} {H : Hp} {s : Shared} {a C dx : Addr} {fs : List (Str × V)} {f : Str} {v : V} {A : Around} {E : Value → Shared → Prop}

/-- a new instance, tracked, without attributes -/
theorem Inv.made (I : Inv X pins σ H s) : Inv X pins σ (upd (upd H s.heap.objs.size (.own (s.heap.objs.size + 1))) (s.heap.objs.size + 1) (.ins C s.heap.objs.size []))
    { s with heap := (s.heap.push PySem.W.emptyDict).push (PySem.W.instObj C s.heap.objs.size) } := by
  have e1 : (s.heap.push PySem.W.emptyDict).get? s.heap.objs.size = some PySem.W.emptyDict := Heap.get?_push_size s.heap rfl
  have e2 : ((s.heap.push PySem.W.emptyDict).push (PySem.W.instObj C s.heap.objs.size)).get? (s.heap.objs.size + 1) = some (PySem.W.instObj C s.heap.objs.size) := by
    have := Heap.get?_push_size (s.heap.push PySem.W.emptyDict) (o := PySem.W.instObj C s.heap.objs.size) rfl
    rwa [Heap.size_push] at this
  have e3 : (s.heap.push PySem.W.emptyDict).Ns s.heap.objs.size (fun _ => none) := ⟨PySem.W.emptyDict, #[], _, e1, rfl, (fun e he => absurd he (by simp)), fun _ => rfl⟩
  have I1 := I.laid (a := s.heap.objs.size) (o := .own (s.heap.objs.size + 1)) (h' := s.heap.push PySem.W.emptyDict) (t' := s.toks) (fun b u q => Heap.get?_push_of_some _ q) (Nat.le_refl _) ⟨_, e1⟩
  refine I1.laid (a := s.heap.objs.size + 1) (o := .ins C s.heap.objs.size []) (t' := s.toks) (fun b u q => Heap.get?_push_of_some _ q) (Nat.le_of_eq (Heap.size_push _ _)) ?_
  have ne : s.heap.objs.size ≠ s.heap.objs.size + 1 := Nat.ne_of_lt (Nat.lt_succ_self _)
  refine ⟨by rw [upd_ne ne, upd_same], Nat.zero_le _, ne, e2, fun _ => none, (Heap.Ns1.of_empty e3).at fun o q => Heap.get?_push_of_some _ q, fun _ => True.intro, fun y hy => absurd rfl hy⟩

end

/-! ### readings and rules -/
section
variable {X : Cx} {o e value : Expr} {f : Str} {pos pos' tpos : Pos} {ta tv : TE}
end

/-! ### isinstance -/
section
variable {X : Cx} {pins : List (Addr × Obj)} {σ : St} {H : Hp} {s : Shared} {A : Around} {E : Value → Shared → Prop} {Q : Value → Shared → Prop} {c : Value} {b : Bool}
/-- the type of a value, as the fragment's deciders take it; for an instance its class -/
inductive TyOf (K : PySem.W.Frag) (H : Hp) : V → Value → Prop where
  | non : TyOf K H .non (.type "NoneType")
  | bl (x : Bool) : TyOf K H (.bl x) (.type "bool")
  | int (i : Int) : TyOf K H (.int i) (.type "int")
  | str (x : Str) : TyOf K H (.str x) (.type "str")
  | flt (x : UInt64) : TyOf K H (.flt x) (.type "float")
  | lst {a : Addr} {xs : List V} (e : H a = some (.lst xs)) : TyOf K H (.ref a) (.type "list")
  | frz {a : Addr} {o : Obj} {xs : List V} (e : H a = some (.frz o (.lst xs))) : TyOf K H (.ref a) (.type "list")
  | tup {a : Addr} {xs : List V} (e : H a = some (.tup xs)) : TyOf K H (.ref a) (.type "tuple")
  | dK {a : Addr} {kvs : List (Key × V)} (e : H a = some (.dK kvs)) : TyOf K H (.ref a) (.type "dict")
  | dT {a : Addr} {kvs : List (List Key × V)} (e : H a = some (.dT kvs)) : TyOf K H (.ref a) (.type "dict")
  | ins {a C dx : Addr} {fs : List (Str × V)} (e : H a = some (.ins C dx fs)) (cl : Cls K C) (ha : PySem.W.findIn K (.ref C) "__class__" = some (some (.builtin "object.__class__")))
      (hn : PySem.W.specialIn K (.builtin "object.__class__") "__get__" = some (some (.builtin "getset_descriptor.__get__"))) (htk : PySem.W.takesIn K (.builtin "object.__class__") = some true)
      (hm : PySem.W.mroIn K C (.type "object") = some true) : TyOf K H (.ref a) (.ref C)
/-- isinstance(x, c) for one class c, a built-in or an own one: kitOne's answer -/
theorem isinst_ok {x : V} {u t : Value} (I : Inv X pins σ H s) (rx : RelV x u) (ty : TyOf X.K H x t) (e : PySem.W.kitOne X.K t c = some b) (h : ∀ tk, Q (.bool b) { s with toks := tk }) :
    wpAny (model X.prog X.w) A (call (.builtin "isinstance") [u, c]) Q E s := by
  cases ty with
  | non => cases (show u = Value.none from rx); exact PySem.W.kia_one PySem.W.kitx_none I.kIn True.intro e (fun z => nomatch z) h
  | bl y => cases (show u = Value.bool y from rx); exact PySem.W.kia_one PySem.W.kitx_bool I.kIn True.intro e (fun z => nomatch z) h
  | int i => obtain ⟨t, q⟩ := (show ∃ t, u = Value.int i t from rx); cases q; exact PySem.W.kia_one PySem.W.kitx_int I.kIn True.intro e (fun z => nomatch z) h
  | str y => obtain ⟨t, q⟩ := (show ∃ t, u = Value.str y t from rx); cases q; exact PySem.W.kia_one PySem.W.kitx_str I.kIn True.intro e (fun z => nomatch z) h
  | flt y => obtain ⟨t, q⟩ := (show ∃ t, u = Value.float y t from rx); cases q; exact PySem.W.kia_one PySem.W.kitx_float I.kIn True.intro e (fun z => nomatch z) h
  | @lst a xs ea =>
    cases (show u = Value.ref a from rx)
    obtain ⟨_, _, n, _, h1⟩ := (show ObjOk X.prog X.w H s.heap a (.lst xs) from I.hok a _ ea)
    exact PySem.W.kia_one PySem.W.kitx_list I.kIn ⟨_, h1, rfl⟩ e (fun z => nomatch z) h
  | @frz a ob xs ea =>
    cases (show u = Value.ref a from rx)
    obtain ⟨_, _, _, n, _, h1⟩ := (show ObjOk X.prog X.w H s.heap a (.frz ob (.lst xs)) from I.hok a _ ea)
    exact PySem.W.kia_one PySem.W.kitx_list I.kIn ⟨_, h1, rfl⟩ e (fun z => nomatch z) h
  | @tup a xs ea =>
    cases (show u = Value.ref a from rx)
    obtain ⟨_, _, _, p⟩ := (show ObjOk X.prog X.w H s.heap a (.tup xs) from I.hok a _ ea)
    obtain ⟨o, h1, h2, _⟩ := p
    exact PySem.W.kia_one PySem.W.kitx_tuple I.kIn ⟨o, h1, h2⟩ e (fun z => nomatch z) h
  | @dK a kvs ea =>
    cases (show u = Value.ref a from rx)
    obtain ⟨_, _, vs, _, p⟩ := (show ObjOk X.prog X.w H s.heap a (.dK kvs) from I.hok a _ ea)
    obtain ⟨o, es, ep, h1, h2, _⟩ := p
    exact PySem.W.kia_one PySem.W.kitx_dict I.kIn ⟨o, h1, h2.1⟩ e (fun z => nomatch z) h
  | @dT a kvs ea =>
    cases (show u = Value.ref a from rx)
    obtain ⟨_, _, xs, _, o, es, ep, h1, h2, _⟩ := (show ObjOk X.prog X.w H s.heap a (.dT kvs) from I.hok a _ ea)
    exact PySem.W.kia_one PySem.W.kitx_dict I.kIn ⟨o, h1, h2.1⟩ e (fun z => nomatch z) h
  | @ins a C dx fs ea cl ha hn htk hm =>
    cases (show u = Value.ref a from rx)
    obtain ⟨mA, O, _⟩ := ins_get I.hok ea
    obtain ⟨od, J, _⟩ := O.look
    exact PySem.W.kia_one (PySem.W.kitx_own (cl.get _) cl.hd ha hn htk hm) I.kIn J e (fun z => nomatch z) h
end
end L2

namespace L2
open PySem PySem.Spec PyProof.Rows

/-! ### room -/
structure Room (k : Nat) (A : Around) : Prop where
  hd : A.handled = none
  dp : A.depth + 3 * k + 5 < recursionLimit
  un : A.units + 16 * k + 200 < cLine
  gd : A.guards = some []
theorem Room.mono {j k : Nat} {A : Around} (r : Room k A) (h : j ≤ k) : Room j A := ⟨r.hd, by have := r.dp; omega, by have := r.un; omega, by first | exact r.gd | (simpa [Around.under, Code.isGuard, guardIds] using r.gd)⟩
theorem Room.deeper {k : Nat} {A : Around} (r : Room (k + 1) A) (env : Env) : Room k (A.deeper env) :=
  ⟨r.hd, by have := r.dp; show A.depth + 1 + 3 * k + 5 < _; omega, by have := r.un; show A.units + 3 + 16 * k + 200 < _; omega, by first | exact r.gd | (simpa [Around.under, Code.isGuard, guardIds] using r.gd)⟩
theorem Room.in1 {k : Nat} {A : Around} (r : Room (k + 1) A) : Room k A.in1 :=
  ⟨r.hd, by have := r.dp; show A.depth + 3 * k + 5 < _; omega, by have := r.un; show A.units + 1 + 16 * k + 200 < _; omega, by first | exact r.gd | (simpa [Around.under, Code.isGuard, guardIds] using r.gd)⟩
theorem Room.depth {k : Nat} {A : Around} (r : Room k A) : A.depth < recursionLimit := by have := r.dp; omega
theorem Room.units {k : Nat} {A : Around} (r : Room k A) : A.units + 64 < cLine := by have := r.un; omega
theorem Room.units0 {k : Nat} {A : Around} (r : Room k A) : A.units < cLine := by have := r.un; omega

/-! ### argument lists and displays -/
def tNil : TA := fun _ H Q => Q [] H
def tCons (ta : TE) (tr : TA) : TA := fun σ H Q => ta σ H fun x H1 => tr σ H1 fun xs H2 => Q (x :: xs) H2
section
variable {X : Cx} {e : Expr} {es : List Expr} {te : TE} {t : TA} {pos : Pos}
theorem pa_nil : PA X [] tNil := fun _ _ _ _ H Q I h => Calls.spliced_nil ⟨[], H, I, .nil, h⟩
theorem pa_cons (ha : PE X e te) (hr : PA X es t) (hs : starEach (e :: es) X.env = (false, eval e X.env) :: starEach es X.env := by rfl) : PA X (e :: es) (tCons te t) := by
  intro pos pins s σ H Q I h
  rw [hs]
  show wpAny _ _ (spliced ((false, eval e X.env) :: backTo pos (starEach es X.env))) _ _ s
  refine Calls.spliced_cons (thn (ha pins s σ H _ I h) fun u s1 ⟨x, H1, I1, r1, q1⟩ => ?_)
  exact thn (hr pos pins s1 σ H1 _ I1 q1) fun us s2 ⟨xs, H2, I2, r2, q2⟩ => ⟨x :: xs, H2, I2, .cons r1 r2, q2⟩

/-- a tuple, a list of written items -/
def tTup (t : TA) : TE := fun σ H Q => t σ H fun xs H1 => xs.length ≤ sizeLine ∧ ∀ p, H1 p = none → Q (.ref p) (upd H1 p (.tup xs))
def tLst (t : TA) : TE := fun σ H Q => t σ H fun xs H1 => xs.length ≤ sizeLine ∧ ∀ p, H1 p = none → Q (.ref p) (upd H1 p (.lst xs))
theorem pe_tup {x1} (h : PA X es t) : PE X (.Tuple es x1 pos) (tTup t) := by
  intro pins s σ H Q I hq
  refine wpAny_Tuple_spliced (thn (h pos pins s σ H _ I hq) fun us s1 ⟨xs, H1, I1, r, z, q⟩ => ⟨by rw [← r.length]; exact z, ?_⟩)
  have hf : H1 s1.heap.objs.size = none := I1.hok.fresh (Nat.le_refl _)
  refine ⟨.ref s1.heap.objs.size, upd H1 s1.heap.objs.size (.tup xs), I1.laid (t' := s1.toks) (fun b u e => Heap.get?_push_of_some _ e) (Nat.le_refl _) ?_, rfl, q _ hf⟩
  exact ⟨⟨z, _, Heap.get?_push_size _ rfl, rfl⟩, us, r, ⟨_, Heap.get?_push_size _ rfl, rfl, _, rfl⟩⟩
theorem pe_lst (h : PA X es t) : PE X (.List es pos) (tLst t) := by
  intro pins s σ H Q I hq
  refine wpAny_List_spliced (thn (h pos pins s σ H _ I hq) fun us s1 ⟨xs, H1, I1, r, z, q⟩ => ⟨by rw [← r.length]; exact z, ?_⟩)
  have hf : H1 s1.heap.objs.size = none := I1.hok.fresh (Nat.le_refl _)
  refine ⟨.ref s1.heap.objs.size, upd H1 s1.heap.objs.size (.lst xs), I1.laid (t' := s1.toks) (fun b u e => Heap.get?_push_of_some _ e) (Nat.le_refl _) ?_, rfl, q _ hf⟩
  exact ⟨z, us, 0, r, Heap.get?_push_size _ rfl⟩
end

/-! ### what a def promises -/
/-- a def's promise: the bound arguments in the parameters' order, the heap, the wanted end, the wanted exception -/
abbrev Sp := List V → Hp → VK → XK → Prop
/-- how an exception lies behind a call (file 08 gives it): the callers' frames, abstract heap and state ahead of the call, the wish, the exception, the state -/
abbrev CXT := List Env → Hp → Shared → XK → Value → Shared → Prop

/-- the state at a call -/
structure Env0 (P : Program) (w : World) (K : PySem.W.Frag) (mg : Str → Option Value) (base : Heap) (A : Around) (outer : List Env) (s : Shared) (H : Hp) : Prop where
  frames : A.frames = some outer
  mod : Mod K mg base
  bs : ∀ b o, base.get? b = some o → s.heap.get? b = some o ∧ H b = none
  bsz : base.objs.size ≤ s.heap.objs.size
  funs : s.heap.FunFrames base outer
  frf : ∀ b ∈ frs outer, H b = none
  hok : HOk P w H s.heap
  bare : AllBare s.gens
/-- a call's end -/
def CE (outer : List Env) (P : Program) (w : World) (H : Hp) (s : Shared) (Q : VK) (u : Value) (s' : Shared) : Prop :=
  ∃ v H', s'.os = s.os ∧ AllBare s'.gens ∧ Un (frs outer) [] H H' s.heap s'.heap ∧ HOk P w H' s'.heap ∧ RelV v u ∧ Q v H'
def CR (CX : CXT) (outer : List Env) (P : Program) (w : World) (H : Hp) (s : Shared) (Q : VK) (E : XK) (r : Result) (s' : Shared) : Prop :=
  match r with
  | .ok (.ret u) => CE outer P w H s Q u s'
  | .ok _ => False
  | .error e => CX outer H s E e s'
structure FnOk (P : Program) (w : World) (K : PySem.W.Frag) (mg : Str → Option Value) (base : Heap) (CX : CXT) (k : Nat) (f : Addr) (fd : FuncData) (ps : List Str) (sp : Sp) : Prop where
  len : ∀ vs H Q E, sp vs H Q E → vs.length = ps.length
  run : ∀ (A : Around) (outer : List Env) (s : Shared) (H : Hp) (args : Args) (us : List Value) (vs : List V) (Q : VK) (E : XK), Room k A → Env0 P w K mg base A outer s H → BindsTo s fd args (ps.zip us) → Vals vs us → sp vs H Q E →
    codeAny (model P w) A (.call (.ref f) args) (CR CX outer P w H s Q E) s
theorem FnOk.mono {P : Program} {w : World} {K : PySem.W.Frag} {mg : Str → Option Value} {base : Heap} {CX : CXT} {j k : Nat} {f : Addr} {fd : FuncData} {ps : List Str} {sp : Sp} (F : FnOk P w K mg base CX j f fd ps sp) (h : j ≤ k) :
    FnOk P w K mg base CX k f fd ps sp := ⟨F.len, fun A outer s H args us vs Q E hr => F.run A outer s H args us vs Q E (hr.mono h)⟩
/-- a weaker promise -/
theorem FnOk.imp {P : Program} {w : World} {K : PySem.W.Frag} {mg : Str → Option Value} {base : Heap} {CX : CXT} {k : Nat} {f : Addr} {fd : FuncData} {ps : List Str} {sp sp' : Sp} (F : FnOk P w K mg base CX k f fd ps sp)
    (h : ∀ vs H Q E, sp' vs H Q E → sp vs H Q E) : FnOk P w K mg base CX k f fd ps sp' :=
  ⟨fun vs H Q E q => F.len vs H Q E (h _ _ _ _ q), fun A outer s H args us vs Q E hr he hb hv hs => F.run A outer s H args us vs Q E hr he hb hv (h _ _ _ _ hs)⟩

theorem Env0.in1 {P : Program} {w : World} {K : PySem.W.Frag} {mg : Str → Option Value} {base : Heap} {A : Around} {outer : List Env} {s : Shared} {H : Hp} (e : Env0 P w K mg base A outer s H) :
    Env0 P w K mg base A.in1 outer s H := ⟨e.frames, e.mod, e.bs, e.bsz, e.funs, e.frf, e.hok, e.bare⟩

section
variable {X : Cx} {pins : List (Addr × Obj)} {σ : St} {H : Hp} {s s' : Shared}
/-- from a body: what a callee wants -/
theorem Inv.env0 (I : Inv X pins σ H s) : Env0 X.prog X.w X.K X.mg X.base X.A X.stack s H :=
  ⟨I.ok.frames, I.ok.mod, I.bs, Nat.le_trans I.ok.bsz I.sz, I.stack, I.stkFree, I.hok, I.bare⟩
/-- behind a call -/
theorem Inv.after {Q : VK} {u : Value} (I : Inv X pins σ H s) (h : CE X.stack X.prog X.w H s Q u s') : EP X pins σ Q u s' := by
  obtain ⟨v, H', os, bare, un, hok, r, q⟩ := h
  obtain ⟨hh, g, d, t, os'⟩ := s'
  obtain rfl : os' = s.os := os
  exact ⟨v, H', I.call (h' := hh) (g' := g) (d' := d) (t' := t) (ch := []) un hok bare (fun b z => absurd z (by simp)), r, q⟩
end

/-! ### calls -/
/-- f(..): the written arguments, then the defaults dvs; E: what is wanted of an exception -/
def tCall (sp : Sp) (dvs : List V) (E : XK) (t : TA) : TE := fun σ H Q => t σ H fun vs H1 => sp (vs ++ dvs) H1 Q E
/-- how the parameters are bound: us the positional arguments, kw the keywords' values by name, ds the defaults that fill up -/
def Binds (K : PySem.W.Frag) (fd : FuncData) (ps : List Str) (ds : List Value) : Prop :=
  ∀ (s : Shared) (us : List Value), K.In s.heap → (us ++ ds).length = ps.length → BindsTo s fd ⟨us, []⟩ (ps.zip (us ++ ds))
/-- every parameter is given -/
theorem Binds.all {K : PySem.W.Frag} {fd : FuncData} {ps : List Str} (h : ∀ us : List Value, us.length = ps.length → bindArgs fd ⟨us, []⟩ = pure (ps.zip us)) : Binds K fd ps [] := fun s us _ hl => by
  rw [List.append_nil] at hl ⊢
  exact .of_eq (h us hl)

/-- an exception of a callee reaches what this body wants of exceptions -/
def Passes (CX : CXT) (X : Cx) (E : XK) : Prop := ∀ (pins : List (Addr × Obj)) (σ : St) (H : Hp) (s : Shared) (e : Value) (s' : Shared), Inv X pins σ H s → CX X.stack H s E e s' → X.xe e s'

section
variable {X : Cx} {CX : CXT} {k : Nat} {f C : Addr} {fd : FuncData} {ps : List Str} {sp : Sp} {dvs : List V} {ds : List Value} {E : XK} {x m : Str} {p pos apos : Pos} {e o : Expr} {es : List Expr} {ta : TE} {t : TA}

/-- the callee runs -/
theorem run_fn {pins : List (Addr × Obj)} {σ : St} {H : Hp} {s : Shared} {Q : VK} {us : List Value} {vs : List V} (F : FnOk X.prog X.w X.K X.mg X.base CX k f fd ps sp) (hr : Room k X.A) (hb : Binds X.K fd ps ds) (hd : Vals dvs ds) (hx : Passes CX X E)
    (I : Inv X pins σ H s) (r : Vals vs us) (h : sp (vs ++ dvs) H Q E) : wpAny (model X.prog X.w) X.A (call (.ref f) us) (EP X pins σ Q) X.xe s := by
  have r2 : Vals (vs ++ dvs) (us ++ ds) := r.append hd
  have hl : (us ++ ds).length = ps.length := by rw [← r2.length]; exact F.len _ _ _ _ h
  refine wpAny_call (codeAny_mono (F.run X.A X.stack s H ⟨us, []⟩ (us ++ ds) (vs ++ dvs) Q E hr I.env0 (hb s us I.kIn hl) r2 h) fun r s' hq => ?_)
  cases r with
  | error e => exact hx pins σ H s e s' I hq
  | ok fl =>
    cases fl with
    | ret u => exact I.after hq
    | next => exact False.elim hq
    | brk => exact False.elim hq
    | cont => exact False.elim hq

theorem pe_call (F : FnOk X.prog X.w X.K X.mg X.base CX k f fd ps sp) (hr : Room k X.A) (hg : Gl X x) (hm : X.mg x = some (.ref f)) (hk : PySem.W.keepIn X.K (.ref f) = true) (hb : Binds X.K fd ps ds) (hd : Vals dvs ds) (hx : Passes CX X E)
    (ha : PA X (e :: es) t) (hdb : (x == ("__debug__" : Str)) = false := by decide) (he : starEach (e :: es) X.env = (false, eval e X.env) :: starEach es X.env := by rfl) (hpl : (backTo pos (starEach es X.env)).any (·.1) = false := by rfl) :
    PE X (.Call (.Name x p) (e :: es) [] pos) (tCall sp dvs E t) := by
  intro pins s σ H Q I h
  refine wpAny_Call_Name_kw (ld_glob I hg hm ?_ hdb)
  refine PySem.W.callWith_K (h₀ := X.base) I.ok.mod.kin hk (thn (ha pos pins s σ H _ I h) fun us s1 ⟨vs, H1, I1, r, q⟩ => ⟨I1.kIn, ?_⟩) he hpl
  exact run_fn F hr hb hd hx I1 r q
/-- what a class must have to be made -/
structure Mk (K : PySem.W.Frag) (C f : Addr) : Prop where
  makes : PySem.W.makesIn K C = true
  init : PySem.W.findIn K (.ref C) "__init__" = some (some (.ref f))
  fn : PySem.W.isFn K (.ref f) = true
  kp : PySem.W.keepIn K (.ref C) = true

end

/-! ### keywords -/
section
variable {X : Cx} {CX : CXT} {k : Nat} {f C : Addr} {fd : FuncData} {ps ks : List Str} {sp : Sp} {E : XK} {x m : Str} {p pos apos kpos : Pos} {e o : Expr} {es : List Expr} {kws : List Keyword} {te ta : TE} {t tk : TA} {nm : Option Str}
/-- how a call with keywords binds: g puts the positional values us and the keywords' values ws (names ks) in the parameters' order, defaults among them -/
structure KBinds (K : PySem.W.Frag) (fd : FuncData) (ps ks : List Str) (g : List Value → List Value → List Value) (gV : List V → List V → List V) : Prop where
  to : ∀ (s : Shared) (us ws : List Value), K.In s.heap → (g us ws).length = ps.length → BindsTo s fd ⟨us, ks.zip ws⟩ (ps.zip (g us ws))
  rel : ∀ {vs : List V} {us : List Value} {zs : List V} {ws : List Value}, Vals vs us → Vals zs ws → Vals (gV vs zs) (g us ws)
variable {g : List Value → List Value → List Value} {gV : List V → List V → List V}
end

/-! ### a def's body keeps its promise -/
/-- names: the parameters first -/
structure FnScope (N P : List Str) (sc : Scope) : Prop where
  kind : sc.kind = .function
  co : sc.isCoroutine = false
  gen : sc.isGenerator = false
  nd : N.Nodup
  pre : N.take P.length = P
  par : ∀ x ∈ P, sc.names.lookup x = some .local ∨ sc.names.lookup x = some .cell
  nofree : ∀ y ∈ sc.names, y.2 ≠ .free

theorem bindL_out {kindOf : Str → Option NameKind} {x : Str} : ∀ {binds : List (Str × Value)} {m : Str → Option Value}, (∀ v, (x, v) ∉ binds) → bindL kindOf binds m x = m x
  | [], _, _ => rfl
  | (n, v) :: r, m, h => by
    unfold bindL
    rw [bindL_out fun w hw => h w (List.mem_cons_of_mem _ hw)]
    split
    · have : x ≠ n := by rintro rfl; exact h v List.mem_cons_self
      simp [this]
    · rfl
theorem bindC_out {kindOf : Str → Option NameKind} {x : Str} : ∀ {binds : List (Str × Value)} {m : Str → Option Value}, (∀ v, (x, v) ∉ binds) → bindC kindOf binds m x = m x
  | [], _, _ => rfl
  | (n, v) :: r, m, h => by
    unfold bindC
    rw [bindC_out fun w hw => h w (List.mem_cons_of_mem _ hw)]
    split
    · rfl
    · have : x ≠ n := by rintro rfl; exact h v List.mem_cons_self
      simp [this]
theorem bindL_get {kindOf : Str → Option NameKind} {x : Str} {v : Value} : ∀ {P : List Str} {vs : List Value} {i : Nat} {m : Str → Option Value}, P.Nodup → P[i]? = some x → vs[i]? = some v → kindOf x = some .local →
    bindL kindOf (P.zip vs) m x = some v
  | [], _, _, _, _, h, _, _ => by simp at h
  | _ :: _, [], _, _, _, _, h, _ => by simp at h
  | p :: P, w :: vs, 0, m, nd, h1, h2, hk => by
    simp at h1 h2; subst h1; subst h2
    show bindL kindOf ((p, w) :: P.zip vs) m p = _
    unfold bindL
    rw [bindL_out fun v hv => (List.nodup_cons.mp nd).1 (List.of_mem_zip hv).1, if_pos hk]
    simp
  | p :: P, w :: vs, i + 1, m, nd, h1, h2, hk => by
    show bindL kindOf ((p, w) :: P.zip vs) m x = _
    unfold bindL
    exact bindL_get (i := i) (List.nodup_cons.mp nd).2 (by simpa using h1) (by simpa using h2) hk
theorem bindC_get {kindOf : Str → Option NameKind} {x : Str} {v : Value} : ∀ {P : List Str} {vs : List Value} {i : Nat} {m : Str → Option Value}, P.Nodup → P[i]? = some x → vs[i]? = some v → kindOf x ≠ some .local →
    bindC kindOf (P.zip vs) m x = some v
  | [], _, _, _, _, h, _, _ => by simp at h
  | _ :: _, [], _, _, _, _, h, _ => by simp at h
  | p :: P, w :: vs, 0, m, nd, h1, h2, hk => by
    simp at h1 h2; subst h1; subst h2
    show bindC kindOf ((p, w) :: P.zip vs) m p = _
    unfold bindC
    rw [bindC_out fun v hv => (List.nodup_cons.mp nd).1 (List.of_mem_zip hv).1, if_neg hk]
    simp
  | p :: P, w :: vs, i + 1, m, nd, h1, h2, hk => by
    show bindC kindOf ((p, w) :: P.zip vs) m x = _
    unfold bindC
    exact bindC_get (i := i) (List.nodup_cons.mp nd).2 (by simpa using h1) (by simpa using h2) hk

/-- the names' values at the entry -/
def start (N : List Str) (vs : List V) : St := vs.map some ++ List.replicate (N.length - vs.length) none

/-- the context of a def's body, at its entry; an exception leaves the frame, then lies as CX says -/
def cxOf (CX : CXT) (P : Program) (w : World) (K : PySem.W.Frag) (mg : Str → Option Value) (base : Heap) (N : List Str) (qual : Str) (scope : Scope) (f : Addr) (cd : Value) (A : Around) (outer : List Env) (s : Shared) (H : Hp) (E : XK) : Cx where
  prog := P
  w := w
  K := K
  mg := mg
  base := base
  A := A.deeper (envOfC qual scope s.heap.objs.size f cd)
  N := N
  s₀ := s
  H₀ := H
  env := envOfC qual scope s.heap.objs.size f cd
  outer := outer
  stack := envOfC qual scope s.heap.objs.size f cd :: outer
  ex := []
  calm := true
  fn := fun _ => true
  pn := []
  xe := fun e s' => wpAny (model P w) (A.deeper (envOfC qual scope s.heap.objs.size f cd)) (leaving (envOfC qual scope s.heap.objs.size f cd) e) (fun _ s'' => CX outer H s E e s'') (fun e' s'' => CX outer H s E e' s'') s'

theorem cell_has {sc : Scope} {n : Nat} {x : Str} (h : sc.names.lookup x = some .cell) : ∃ c, (cellsFrom n sc.names []).lookup x = some c := by
  have q := PySem.W.cellsFrom_some sc.names n [] (.inl h)
  exact Option.isSome_iff_exists.mp q

theorem inv_start {CX : CXT} {P : Program} {w : World} {K : PySem.W.Frag} {mg : Str → Option Value} {base : Heap} {N ps : List Str} {qual : Str} {scope : Scope} {f : Addr} {cd : Value} {A : Around} {outer : List Env} {s s1 : Shared} {H : Hp} {E : XK} {us : List Value} {vs : List V}
    (S : FnScope N ps scope) (hd : A.handled = none) (e0 : Env0 P w K mg base A outer s H) (hl : vs.length = ps.length) (r : Vals vs us)
    (x : InCallC s s.heap.objs.size (bindL (envOfC qual scope s.heap.objs.size f cd).kindOf (ps.zip us) fun _ => none) (cellsFrom (s.heap.objs.size + 1) scope.names []) (bindC (envOfC qual scope s.heap.objs.size f cd).kindOf (ps.zip us) fun _ => none) s1) :
    Inv (cxOf CX P w K mg base N qual scope f cd A outer s H E) [] (start N vs) H s1 := by
  have hpl : ps.length ≤ N.length := by have := congrArg List.length S.pre; rw [List.length_take] at this; omega
  obtain ⟨h1, tk, rfl, hk⟩ := x.done
  have noA : ∀ b : Addr, b ∉ (cxOf CX P w K mg base N qual scope f cd A outer s H E).ex := fun b z => absurd (show b ∈ ([] : List Addr) from z) (by simp)
  refine ⟨⟨e0.mod, S.kind, rfl, rfl, Nat.le_refl _, fun y z c h1 h2 => ?_, fun y hy => ?_, fun y c _ h => ?_, fun _ => hd, Around.frames_deeper e0.frames, .inr ⟨rfl, rfl⟩, fun b z => absurd z (noA b), e0.bs, e0.bsz, fun b _ _ => noA b, fun b z => absurd z (noA b), e0.funs, e0.frf⟩,
    rfl, e0.bare, Un.kept hk, ⟨_, x.toInCall.ns, fun i y v h1 h2 h3 => ?_⟩, fun y c h => ⟨_, x.cell y c h⟩, e0.hok.fresh (Nat.le_refl _), fun y c h => ?_, fun p hp => absurd (show p ∈ ([] : List (Addr × Obj)) from hp) (by simp), e0.hok.kept hk, ?_⟩
  · exact name_of_addr x.apart (PySem.mem_of_lookup h1) (PySem.mem_of_lookup h2)
  · have hy : scope.names.lookup y = some .cell ∨ scope.names.lookup y = some .free := hy
    rcases hy with hy | hy
    · exact cell_has hy
    · exact absurd rfl (S.nofree _ (PySem.mem_of_lookup hy))
  · exact Nat.le_of_lt (x.above y c (PySem.mem_of_lookup h))
  · have hi : i < vs.length := by
      unfold start at h2
      by_cases hi : i < vs.length
      · exact hi
      · rw [List.getElem?_append_right (by simpa using hi)] at h2
        rw [List.getElem?_replicate] at h2
        split at h2 <;> cases h2
    have ha : vs[i]? = some v := by
      unfold start at h2
      rw [List.getElem?_append_left (by simpa using hi), List.getElem?_map] at h2
      cases e : vs[i]? with
      | none => rw [e] at h2; cases h2
      | some a => rw [e] at h2; cases h2; rfl
    obtain ⟨u, hu, rv⟩ := r.get ha
    have hp : ps[i]? = some y := by
      rw [← S.pre, List.getElem?_take_of_lt (by omega)]; exact h1
    have ndP : ps.Nodup := by rw [← S.pre]; exact S.nd.sublist (List.take_sublist _ _)
    refine ⟨u, rv, ?_⟩
    rcases S.par y (List.mem_of_getElem? hp) with k | k
    · exact .inl ⟨k, bindL_get ndP hp hu k⟩
    · obtain ⟨c, e⟩ := cell_has (n := s.heap.objs.size + 1) k
      refine .inr ⟨.inl k, c, e, ?_⟩
      have q := x.cell y c e
      rw [bindC_get ndP hp hu (by show scope.names.lookup y ≠ _; rw [k]; decide)] at q
      exact q
  · exact e0.hok.fresh (Nat.le_of_lt (x.above y c (PySem.mem_of_lookup h)))
  · unfold start
    show _ = N.length
    rw [List.length_append, List.length_map, List.length_replicate]
    omega

/-- THE RULE: a def (or a method) of the text, by its body. The body's reading t is chosen for each entry; it is run at the parameters' values -/
theorem fn_of {CX : CXT} {P : Program} {w : World} {K : PySem.W.Frag} {mg : Str → Option Value} {base : Heap} {k : Nat} {f : Addr} {name qual : Str} {params : Arguments} {body : List Stmt} {scope : Scope} {dV kV doc pm cdv ct oc : Value} {an od : Option Addr}
    {osl : Array (Option Value)} {N ps : List Str} {sp : Sp} (lk : K.lookup f = some ⟨oc, od, .func (PySem.W.fnOf name qual params body scope dV kV doc pm an cdv ct), osl⟩) (hcd : PySem.W.codeIn K cdv qual = true) (S : FnScope N ps scope)
    (len : ∀ vs H Q E, sp vs H Q E → vs.length = ps.length)
    (hbody : ∀ (A : Around) (outer : List Env) (s : Shared) (H : Hp) (vs : List V) (Q : VK) (E : XK), Room k (A.deeper (envOfC qual scope s.heap.objs.size f cdv)) → sp vs H Q E →
      ∃ t, PSs (cxOf CX P w K mg base N qual scope f cdv A outer s H E) body t ∧ t { nx := fun _ H' => Q .non H', rt := Q } (start N vs) H) :
    FnOk P w K mg base CX (k + 1) f (PySem.W.fnOf name qual params body scope dV kV doc pm an cdv ct) ps sp := by
  refine ⟨len, fun A outer s H args us vs Q E hr e0 hb r hsp => ?_⟩
  have hl := len _ _ _ _ hsp
  have KX : K.In s.heap := e0.mod.kin.keeps fun b o e => (e0.bs b o e).1
  have lim : s.heap.NoLimit := e0.mod.nolimit.keeps fun b o e => (e0.bs b o e).1
  have hkind : ∀ y ∈ ps.zip us, scope.names.lookup y.1 = some .local ∨ (scope.names.lookup y.1 = some .cell ∧ ((cellsFrom (s.heap.objs.size + 1) scope.names []).lookup y.1).isSome = true) := fun ⟨n, v⟩ hy => by
    rcases S.par n (List.of_mem_zip hy).1 with q | q
    · exact .inl q
    · exact .inr ⟨q, PySem.W.cellsFrom_some _ _ _ (.inl q)⟩
  refine codeAny_call_function hr.depth (KX _ _ lk) rfl S.co S.gen rfl (PySem.W.codeRec_of KX hcd) (hb _ _ _ _ ?_)
  refine wpAny_newFunctionEnv_cells S.kind hkind fun env he s1 x => ?_
  subst he
  refine ⟨lim.keeps x.toInCall.keep, codeAny_func ?_⟩
  obtain ⟨t, ht, hq⟩ := hbody A outer s H vs Q E (hr.deeper _) hsp
  have I : Inv (cxOf CX P w K mg base N qual scope f cdv A outer s H E) [] (start N vs) H s1 := inv_start S hr.hd e0 hl r x
  refine wpAny_mono (ht [] s1 (start N vs) H _ I hq) (fun fl s' hs => ?_) fun e s' hs => hs
  have fin : ∀ {σ' : St} {H' : Hp} {v : V} {u : Value}, Inv (cxOf CX P w K mg base N qual scope f cdv A outer s H E) [] σ' H' s' → RelV v u → Q v H' → CE outer P w H s Q u s' :=
    fun {σ' H' v u} J rv q => ⟨v, H', J.os, J.bare, J.base, J.hok, rv, q⟩
  cases fl with
  | ret u =>
    obtain ⟨v, σ', H', J, rv, q⟩ := hs
    exact fin J rv q
  | next =>
    obtain ⟨σ', H', J, q⟩ := hs
    exact fin (v := V.non) (u := Value.none) J rfl q
  | brk =>
    obtain ⟨_, _, _, q⟩ := hs
    exact False.elim q
  | cont =>
    obtain ⟨_, _, _, q⟩ := hs
    exact False.elim q
end L2

namespace L2
open PySem PySem.Spec PyProof.Rows
section
variable {X : Cx} {x : Str} {p pos : Pos} {e : Expr} {es : List Expr} {t : TA} {id T : String} {r : List V → Hp → VK → Prop}

def tCB (r : List V → Hp → VK → Prop) (t : TA) : TE := fun σ H Q => t σ H fun vs H1 => r vs H1 Q
/-- f(e, ..), f a built-in function -/
theorem pe_callB (hc : CallR X (.builtin id) r) (hg : Gl X x) (hm : X.mg x = none) (hv : bootBuiltins x = some (.builtin id)) (ha : PA X (e :: es) t) (hn : x ≠ "__name__" := by decide) (hdb : (x == ("__debug__" : Str)) = false := by decide)
    (he : starEach (e :: es) X.env = (false, eval e X.env) :: starEach es X.env := by rfl) (hpl : (backTo pos (starEach es X.env)).any (·.1) = false := by rfl) : PE X (.Call (.Name x p) (e :: es) [] pos) (tCB r t) := by
  intro pins s σ H Q I h
  refine wpAny_Call_Name_kw (ld_blt I hg hm hv ?_ hn hdb)
  exact PyProof.Rows.callWith_builtin1 (thn (ha pos pins s σ H _ I h) fun us s1 ⟨vs, H1, I1, r1, q1⟩ => hc pins s1 σ H1 vs us Q I1 r1 q1) he hpl
/-- T(e, ..), T a built-in type -/
theorem pe_callTy (hc : CallR X (.type T) r) (hg : Gl X x) (hm : X.mg x = none) (hv : bootBuiltins x = some (.type T)) (ha : PA X (e :: es) t) (hn : x ≠ "__name__" := by decide) (hdb : (x == ("__debug__" : Str)) = false := by decide)
    (he : starEach (e :: es) X.env = (false, eval e X.env) :: starEach es X.env := by rfl) (hpl : (backTo pos (starEach es X.env)).any (·.1) = false := by rfl) : PE X (.Call (.Name x p) (e :: es) [] pos) (tCB r t) := by
  intro pins s σ H Q I h
  refine wpAny_Call_Name_kw (ld_blt I hg hm hv ?_ hn hdb)
  exact PyProof.Rows.callWith_type1 (thn (ha pos pins s σ H _ I h) fun us s1 ⟨vs, H1, I1, r1, q1⟩ => hc pins s1 σ H1 vs us Q I1 r1 q1) he hpl
end
end L2

namespace HT
open PySem PyProof.Rows

section
open PySem.SeqAt
open PySem.AutoSeq1 (wpAny_loadPart')
open PySem.MeetsSeq PySem.MeetsSeq2 PySem.MeetsSeq3

end

section
variable {prog : Program} {w : World} {A : Around} {E : Value → Shared → Prop} {s : Shared}

/-! ### t[a:b], not the whole -/
/-- a slice's bound as a place among n (d where it is left out) -/
def sIx (n d : Nat) : Option Int → Nat
  | none => d
  | some v => if v < 0 then (v + (n : Int)).toNat else min v.toNat n
theorem sIx_none (n d : Nat) : sIx n d none = d := rfl
theorem sIx_nat (n d k : Nat) : sIx n d (some (k : Int)) = min k n := by
  show (if (k : Int) < 0 then ((k : Int) + (n : Int)).toNat else min (k : Int).toNat n) = min k n
  rw [if_neg (by omega), Int.toNat_natCast]
theorem sIx_le (n d : Nat) (hd : d ≤ n) (o : Option Int) : sIx n d o ≤ n := by
  cases o with
  | none => exact hd
  | some v =>
    show (if v < 0 then (v + (n : Int)).toNat else min v.toNat n) ≤ n
    by_cases hv : v < 0
    · rw [if_pos hv]; omega
    · rw [if_neg hv]; exact Nat.min_le_right _ _
end
end HT

namespace L2
open PySem PySem.Spec PyProof.Rows

/-! ### the parts of a slice -/
abbrev TO := St → Hp → (Option Int → Hp → Prop) → Prop
/-- a slice's part (left out, or an int) -/
def PO (X : Cx) (e : Option Expr) (t : TO) : Prop :=
  ∀ (pins : List (Addr × Obj)) (s : Shared) (σ : St) (H : Hp) (Q : Option Int → Hp → Prop), Inv X pins σ H s → t σ H Q →
    wpAny (model X.prog X.w) X.A (evalPart e X.env) (fun u s' => ∃ o H', Inv X pins σ H' s' ∧ IsPart u o ∧ Q o H') X.xe s
def tNoPart : TO := fun _ H Q => Q none H
def tPart (t : TE) : TO := fun σ H Q => t σ H fun x H1 => ∃ i, x = .int i ∧ Q (some i) H1

section
variable {X : Cx} {e : Expr} {te : TE} {lo hi : Option Expr} {tl th : TO} {pos p2 : Pos}

theorem po_none : PO X none tNoPart := by
  intro pins s σ H Q I h
  rw [evalPart_none]
  exact wpAny_pure ⟨none, H, I, .none, h⟩
theorem po_some (h : PE X e te) : PO X (some e) (tPart te) := by
  intro pins s σ H Q I hw
  rw [evalPart_some]
  refine thn (h pins s σ H _ I hw) fun u s1 ⟨x, H1, I1, r1, q1⟩ => ?_
  obtain ⟨i, rfl, q⟩ := q1
  obtain ⟨t, rfl⟩ := r1
  exact ⟨some i, H1, I1, .int i t, q⟩

/-- what a slice of a value is, by values: the slice object stands at sl -/
def SlR (X : Cx) (r : V → Option Int → Option Int → Hp → VK → Prop) : Prop :=
  ∀ (pins : List (Addr × Obj)) (s : Shared) (σ : St) (H : Hp) (x : V) (v vl vu : Value) (lo hi : Option Int) (sl : Addr) (Q : VK), Inv X pins σ H s → RelV x v → s.heap.IsSliceOf sl vl vu .none → IsPart vl lo → IsPart vu hi → r x lo hi H Q →
    ∃ T id, typeLookup (.type T) "__getitem__" = pure (some (.builtin id)) ∧ s.TypeIs v T ∧ wpAny (model X.prog X.w) X.A (getItem v (.ref sl)) (EP X pins σ Q) X.xe s
theorem SlR.or {r r' : V → Option Int → Option Int → Hp → VK → Prop} (h : SlR X r) (h' : SlR X r') : SlR X (fun x lo hi H Q => r x lo hi H Q ∨ r' x lo hi H Q) := by
  intro pins s σ H x v vl vu lo hi sl Q I rx hs pl pu q
  rcases q with q | q
  · exact h pins s σ H x v vl vu lo hi sl Q I rx hs pl pu q
  · exact h' pins s σ H x v vl vu lo hi sl Q I rx hs pl pu q
def tSl (r : V → Option Int → Option Int → Hp → VK → Prop) (te : TE) (tl th : TO) : TE := fun σ H Q => te σ H fun x H1 => tl σ H1 fun l H2 => th σ H2 fun u H3 => r x l u H3 Q
/-- a[lo:hi], any a -/
theorem pe_slice {r : V → Option Int → Option Int → Hp → VK → Prop} (hr : SlR X r) (he : PE X e te) (hl : PO X lo tl) (hu : PO X hi th) : PE X (.Subscript e (.Slice lo hi none p2) pos) (tSl r te tl th) := by
  intro pins s σ H Q I h
  refine Subscript_ (thn (he pins s σ H _ I h) fun v s1 ⟨x, H1, I1, r1, q1⟩ => ?_)
  refine wpAny_Slice (thn (hl pins s1 σ H1 _ I1 q1) fun vl s2 ⟨l, H2, I2, pl, q2⟩ => thn (hu pins s2 σ H2 _ I2 q2) fun vu s3 ⟨u, H3, I3, pu, q3⟩ => ?_)
  rw [evalPart_none]
  refine wpAny_pure ?_
  have I4 : Inv X pins σ H3 { s3 with heap := s3.heap.push { cls := .type "slice", data := .fields #[vl, vu, .none] } } := I3.kept (t' := s3.toks) fun b ob q => Heap.get?_push_of_some _ q
  obtain ⟨T, id, hT, ht, hg⟩ := hr pins { s3 with heap := s3.heap.push { cls := .type "slice", data := .fields #[vl, vu, .none] } } σ H3 x v vl vu l u s3.heap.objs.size Q I4 r1 (Heap.IsSliceOf.new ..) pl pu q3
  show wpAny (model X.prog X.w) X.A (subscriptTail e (.Slice lo hi none p2) v (.ref s3.heap.objs.size)) (EP X pins σ Q) X.xe { s3 with heap := s3.heap.push { cls := .type "slice", data := .fields #[vl, vu, .none] } }
  exact tail_any (ops := [.ref s3.heap.objs.size, v]) ht hT hg (by with_unfolding_all rfl)

/-- the items of xs[lo:hi] -/
def cutV (xs : List V) (lo hi : Option Int) : List V := (xs.drop (HT.sIx xs.length 0 lo)).take (HT.sIx xs.length xs.length hi - HT.sIx xs.length 0 lo)
theorem cutV_length (xs : List V) (lo hi : Option Int) : (cutV xs lo hi).length ≤ xs.length := by
  unfold cutV
  rw [List.length_take, List.length_drop]
  omega
/-! ### t < u, t + u -/
end
end L2

namespace L2
open PySem PySem.Spec PyProof.Rows

/-! ### places -/
/-- the place that an index of any sign means -/
def ixN (n : Nat) (i : Int) : Option Nat := if 0 ≤ i then (if i < n then some i.toNat else none) else if -(n : Int) ≤ i then some (i + n).toNat else none
def atI {α : Type} (xs : List α) (i : Int) : Option α := (ixN xs.length i).bind fun j => xs[j]?
theorem ixN_seq {n : Nat} {i : Int} {j : Nat} (h : ixN n i = some j) : seqIndex? i n = some j ∧ j < n ∧ -(n : Int) ≤ i ∧ i < n := by
  unfold ixN at h
  by_cases h0 : 0 ≤ i
  · rw [if_pos h0] at h
    by_cases h1 : i < n
    · rw [if_pos h1] at h
      have e : i.toNat = j := Option.some.inj h
      exact ⟨by rw [seqIndex_of h0 h1, e], by omega, by omega, h1⟩
    · rw [if_neg h1] at h; cases h
  · rw [if_neg h0] at h
    by_cases h1 : -(n : Int) ≤ i
    · rw [if_pos h1] at h
      have e : (i + n).toNat = j := Option.some.inj h
      exact ⟨by rw [seqIndex_neg (by omega) h1, e], by omega, h1, by omega⟩
    · rw [if_neg h1] at h; cases h
theorem atI_get {α : Type} {xs : List α} {i : Int} {v : α} (h : atI xs i = some v) : ∃ j, seqIndex? i xs.length = some j ∧ xs[j]? = some v ∧ j < xs.length ∧ -(xs.length : Int) ≤ i ∧ i < xs.length := by
  unfold atI at h
  cases e : ixN xs.length i with
  | none => rw [e] at h; cases h
  | some j =>
    rw [e] at h
    obtain ⟨h1, h2, h3, h4⟩ := ixN_seq e
    exact ⟨j, h1, h, h2, h3, h4⟩
theorem atI_nat {α : Type} {xs : List α} {j : Nat} {v : α} (h : xs[j]? = some v) : atI xs (j : Int) = some v := by
  have hj : j < xs.length := (List.getElem?_eq_some_iff.mp h).1
  have e : ixN xs.length (j : Int) = some j := by
    unfold ixN
    rw [if_pos (by omega), if_pos (by omega)]; simp
  unfold atI; rw [e]; exact h
/-! ### what may be subscripted -/
/-- what stands as an index of a plain subscript -/
def PlainIx (b : Expr) : Prop := ∀ o i, subscripted b false o i = operate [o, i] (getItem o i)
/-- a subscript by values -/
def IxR (X : Cx) (r : R2) : Prop :=
  ∀ (value slice : Expr) (pins : List (Addr × Obj)) (s : Shared) (σ : St) (H : Hp) (x y : V) (v u : Value) (Q : VK), Inv X pins σ H s → RelV x v → RelV y u → r x y H Q →
    subscripted slice false v u = operate [v, u] (getItem v u) → wpAny (model X.prog X.w) X.A (subscriptTail value slice v u) (EP X pins σ Q) X.xe s
/-- a call of a builtin's method by values: the receiver, the arguments -/
def MtR (X : Cx) (id : String) (r : V → List V → Hp → VK → Prop) : Prop :=
  ∀ (pins : List (Addr × Obj)) (s : Shared) (σ : St) (H : Hp) (x : V) (xs : List V) (v : Value) (us : List Value) (Q : VK), Inv X pins σ H s → RelV x v → Vals xs us → r x xs H Q →
    wpAny (model X.prog X.w) X.A (call (.builtin id) (v :: us)) (EP X pins σ Q) X.xe s
section
variable {X : Cx} {a b : Expr} {ta tb : TE} {pos : Pos}
theorem IxR.or {r r' : R2} (h : IxR X r) (h' : IxR X r') : IxR X (fun x y H Q => r x y H Q ∨ r' x y H Q) := by
  intro value slice pins s σ H x y v u Q I rx ry q hs
  rcases q with q | q
  · exact h value slice pins s σ H x y v u Q I rx ry q hs
  · exact h' value slice pins s σ H x y v u Q I rx ry q hs
theorem MtR.or {id : String} {r r' : V → List V → Hp → VK → Prop} (h : MtR X id r) (h' : MtR X id r') : MtR X id (fun x xs H Q => r x xs H Q ∨ r' x xs H Q) := by
  intro pins s σ H x xs v us Q I rx rs q
  rcases q with q | q
  · exact h pins s σ H x xs v us Q I rx rs q
  · exact h' pins s σ H x xs v us Q I rx rs q
/-- a[b] -/
theorem pe_ix {r : R2} (hr : IxR X r) (ha : PE X a ta) (hb : PE X b tb) (hs : PlainIx b) : PE X (.Subscript a b pos) (tOp r ta tb) := by
  intro pins s σ H Q I h
  exact Subscript_ (binT ha hb I h fun v u s2 x y H2 I2 rx ry q => hr a b pins s2 σ H2 x y v u Q I2 rx ry q (hs _ _))

def rIxL (K : PySem.W.Frag) : R2 := fun x y H Q => ∃ p xs i v, x = .ref p ∧ y = .int i ∧ SqL K H p xs ∧ atI xs i = some v ∧ Q v H
def rIxT (K : PySem.W.Frag) : R2 := fun x y H Q => ∃ p xs i v, x = .ref p ∧ y = .int i ∧ SqT K H p xs ∧ atI xs i = some v ∧ Q v H
def rIxS : R2 := fun x y H Q => ∃ z i c, x = .str z ∧ y = .int i ∧ z.length ≤ sizeLine ∧ atI z.cps.toList i = some c ∧ Q (.str ⟨#[c]⟩) H
theorem ix_list : IxR X (rIxL X.K) := by
  intro value slice pins s σ H x y v u Q I rx ry h hs
  obtain ⟨p, xs, i, z, rfl, rfl, hq, he, q⟩ := h
  cases rx
  obtain ⟨t, rfl⟩ := ry
  obtain ⟨its, r, pl, hz⟩ := I.list hq
  obtain ⟨j, h1, h2, h3, h4, h5⟩ := atI_get he
  obtain ⟨w, ew, rw'⟩ := r.get h2
  have hl := r.length
  have hn := line63
  have fin : EP X pins σ Q w s := ⟨z, H, I, rw', q⟩
  by_cases h0 : 0 ≤ i
  · have hj : i.toNat = j := by
      rw [seqIndex_of h0 h5] at h1
      exact Option.some.inj h1
    exact item_listR pl.isList h0 (by omega) (by rw [hj]; simpa using ew) fin hs
  · have hj : (i + (its.toArray.size : Int)).toNat = j := by
      rw [seqIndex_neg (by omega) h4] at h1
      rw [List.size_toArray, ← hl]
      exact Option.some.inj h1
    exact subscriptTail_builtinR (x := w) pl.isList.typeIs slot_list_getitem.lookup
      (wpAny_getItem_list_neg (Q := fun r s' => r = w ∧ EP X pins σ Q r s') pl.isList (by omega) (by rw [List.size_toArray] <;> omega) (by omega) (by rw [hj]; simpa using ew) ⟨rfl, fin⟩) hs
theorem ix_tup : IxR X (rIxT X.K) := by
  intro value slice pins s σ H x y v u Q I rx ry h hs
  obtain ⟨p, xs, i, z, rfl, rfl, hq, he, q⟩ := h
  cases rx
  obtain ⟨t, rfl⟩ := ry
  obtain ⟨its, r, pl, hz⟩ := I.tuple hq
  obtain ⟨j, h1, h2, h3, h4, h5⟩ := atI_get he
  obtain ⟨w, ew, rw'⟩ := r.get h2
  have hl := r.length
  have hn := line63
  have fin : EP X pins σ Q w s := ⟨z, H, I, rw', q⟩
  exact subscriptTail_builtinR (x := w) pl.typeIs slot_tuple_getitem.lookup
    (getItem_tuple (j := j) (Q := fun r s' => r = w ∧ EP X pins σ Q r s') pl (by omega) (by omega) (by rw [List.size_toArray, ← hl]; exact h1) (by simpa using ew) ⟨rfl, fin⟩) hs
theorem ix_str : IxR X rIxS := by
  intro value slice pins s σ H x y v u Q I rx ry h hs
  obtain ⟨z, i, c, rfl, rfl, hz, he, q⟩ := h
  obtain ⟨t, rfl⟩ := rx
  obtain ⟨t', rfl⟩ := ry
  obtain ⟨j, h1, h2, h3, h4, h5⟩ := atI_get he
  have hl : z.cps.toList.length = z.length := by simp [Str.length]
  rw [hl] at h1 h4 h5
  have hn := line63
  exact tail_any (typeIs_str s z t) slot_str_getitem.lookup (getItem_str (c := c) (by
    have e1 : decide (i < -(2 ^ 63 : Int)) = false := decide_eq_false (by omega)
    have e2 : decide (i ≥ 2 ^ 63) = false := decide_eq_false (by omega)
    rw [e1, e2, Bool.or_false]) (by rw [h1]; simpa using h2) ⟨.str ⟨#[c]⟩, H, I.tok _, ⟨_, rfl⟩, q⟩) hs
/-! ### xs[i] = v, any sign -/
/-- the list's object behind a store -/
theorem mapSeq_set (its : List Value) (n j : Nat) (u : Value) : Obj.mapSeq (·.setIfInBounds j u) { cls := .type "list", data := .seq its.toArray n } = { cls := .type "list", data := .seq (its.set j u).toArray n } := by
  simp [Obj.mapSeq]
theorem Inv.lst {pins : List (Addr × Obj)} {σ : St} {H : Hp} {s : Shared} {p : Addr} {xs : List V} (I : Inv X pins σ H s) (h : H p = some (.lst xs)) :
    ∃ (its : List Value) (n : Nat), Vals xs its ∧ s.heap.get? p = some { cls := .type "list", data := .seq its.toArray n } ∧ xs.length ≤ sizeLine := by
  obtain ⟨z, its, n, r, e⟩ := I.hok p _ h
  exact ⟨its, n, r, e, z⟩
/-- the list at p is written by an update of its object -/
theorem Inv.lstUpd {pins : List (Addr × Obj)} {σ : St} {H : Hp} {s : Shared} {p : Addr} {xs ys : List V} {its its' : List Value} {n n' : Nat} {f : Obj → Obj} (I : Inv X pins σ H s) (h : H p = some (.lst xs))
    (ho : s.heap.get? p = some { cls := .type "list", data := .seq its.toArray n }) (hf : f { cls := .type "list", data := .seq its.toArray n } = { cls := .type "list", data := .seq its'.toArray n' }) (r : Vals ys its') (hz : ys.length ≤ sizeLine) (t : Nat) :
    Inv X pins σ (upd H p (.lst ys)) { s with heap := s.heap.update p f, toks := t } := by
  have e : (s.heap.update p f).get? p = some { cls := .type "list", data := .seq its'.toArray n' } := by
    rw [Heap.get?_update_self f ho (by rw [hf] <;> rfl), hf]
  refine I.write (x := p) (e := p) (by rw [h]; trivial) (.inl rfl) (fun b u hb q => (Heap.get?_update_other _ _ (Ne.symm hb)).trans q) ⟨_, e⟩ ?_
  exact ⟨hz, its', n', r, e⟩
def rSetL : V → V → V → Hp → (Hp → Prop) → Prop := fun o i v H Q => ∃ p xs k j, o = .ref p ∧ i = .int k ∧ H p = some (.lst xs) ∧ ixN xs.length k = some j ∧ Q (upd H p (.lst (xs.set j v)))
theorem set_list : PSet X rSetL := by
  intro pins s σ H o i v ov iv u Q I ro ri rv h
  obtain ⟨p, xs, k, j, rfl, rfl, hp, hj, q⟩ := h
  cases ro
  obtain ⟨t, rfl⟩ := ri
  obtain ⟨its, n, r, ho, hz⟩ := I.lst hp
  obtain ⟨h1, h2, h3, h4⟩ := ixN_seq hj
  have hl := r.length
  have hn := line63
  have I' : Inv X pins σ (upd H p (.lst (xs.set j v))) { s with heap := s.heap.update p (Obj.mapSeq (·.setIfInBounds j u)) } :=
    I.lstUpd hp ho (mapSeq_set its n j u) (r.set rv j) (by rw [List.length_set]; exact hz) s.toks
  by_cases h0 : 0 ≤ k
  · have hk : k.toNat = j := by
      rw [seqIndex_of h0 h4] at h1
      exact Option.some.inj h1
    exact PySem.W.ki_setAt ho h0 (by omega) (by rw [List.size_toArray, ← hl]; exact h4) (by rw [hk]; exact ⟨_, I', q⟩)
  · have hk : (k + (its.toArray.size : Int)).toNat = j := by
      rw [seqIndex_neg (by omega) h3] at h1
      rw [List.size_toArray, ← hl]
      exact Option.some.inj h1
    exact PySem.W.ki_setBack ho (by omega) (by rw [List.size_toArray, ← hl]; exact h3) (by omega) (by rw [hk]; exact ⟨_, I', q⟩)

/-! ### slices -/
theorem slice_bounds (lo hi : Option Int) (n : Nat) : (sliceBounds lo hi none n).1 = ((HT.sIx n 0 lo : Nat) : Int) ∧ (sliceBounds lo hi none n).2.1 = ((HT.sIx n n hi : Nat) : Int) ∧ (sliceBounds lo hi none n).2.2 = 1 := by
  refine ⟨?_, ?_, rfl⟩
  · cases lo with
    | none => simp [sliceBounds, HT.sIx]
    | some i =>
      simp only [sliceBounds, HT.sIx, Option.getD_none, show (1 : Int) > 0 by decide, if_true]
      by_cases h : i < 0
      · simp only [h, if_true] <;> omega
      · simp only [h, if_false] <;> omega
  · cases hi with
    | none => simp [sliceBounds, HT.sIx]
    | some i =>
      simp only [sliceBounds, HT.sIx, Option.getD_none, show (1 : Int) > 0 by decide, if_true]
      by_cases h : i < 0
      · simp only [h, if_true] <;> omega
      · simp only [h, if_false] <;> omega
theorem slicePick_cut (its : List Value) (lo hi : Option Int) : slicePick its.toArray lo hi none = ((its.drop (HT.sIx its.length 0 lo)).take (HT.sIx its.length its.length hi - HT.sIx its.length 0 lo)).toArray := by
  obtain ⟨h1, h2, h3⟩ := slice_bounds lo hi its.toArray.size
  unfold slicePick
  rw [h1, h2, h3]
  simp only [sliceRange_one, pick_run, List.size_toArray] <;> rfl
/-- xs[lo:hi] of a list: a new list -/
def rSlL (K : PySem.W.Frag) : V → Option Int → Option Int → Hp → VK → Prop := fun x lo hi H Q => ∃ a xs, x = .ref a ∧ SqL K H a xs ∧ ∀ p, H p = none → Q (.ref p) (upd H p (.lst (cutV xs lo hi)))
theorem sl_list : SlR X (rSlL X.K) := by
  intro pins s σ H x v vl vu lo hi sl Q I rx hs pl pu h
  obtain ⟨a, xs, rfl, hx, q⟩ := h
  cases rx
  obtain ⟨its, r, ht, hz⟩ := I.list hx
  have hlen := r.length
  refine ⟨"list", _, slot_list_getitem.lookup, ht.isList.typeIs, ?_⟩
  refine wpAny_getItem_list_slice ht.isList hs pl pu .none (by simp) ?_ (by rw [List.size_toArray] <;> omega)
  rw [slicePick_cut, ← hlen]
  refine ⟨.ref s.heap.objs.size, _, I.laid (t' := s.toks) (o := .lst (cutV xs lo hi)) (fun b ob q => Heap.get?_push_of_some _ q) (Nat.le_refl _) ?_, rfl, q _ (I.hok.fresh (Nat.le_refl _))⟩
  exact ⟨Nat.le_trans (cutV_length xs lo hi) hz, _, 0, (r.drop (HT.sIx xs.length 0 lo)).take (HT.sIx xs.length xs.length hi - HT.sIx xs.length 0 lo), Heap.get?_push_size _ rfl⟩

/-! ### in, not in: flat items -/
def flatV : V → Bool
  | .non => true
  | .bl _ => true
  | .int _ => true
  | .str _ => true
  | _ => false
/-- == of flat values -/
def eqV : V → V → Bool
  | .non, .non => true
  | .bl a, .bl b => a == b
  | .bl a, .int b => (if a then 1 else 0) == b
  | .int a, .bl b => a == (if b then 1 else 0)
  | .int a, .int b => a == b
  | .str a, .str b => a == b
  | _, _ => false
theorem eqAt_V {A : Around} {s : Shared} {y x : V} {u v : Value} (ry : RelV y u) (rx : RelV x v) (fy : flatV y = true) (fx : flatV x = true) : SeqAt.EqAt A s u v (eqV y x) := by
  cases y with
  | non =>
    cases ry
    cases x with
    | non => cases rx; exact SeqAt.EqAt.same _
    | bl b => cases rx; exact SeqAt.EqAt.none_bool b
    | int b => obtain ⟨t, rfl⟩ := rx; exact SeqAt.EqAt.none_int b t
    | str b => obtain ⟨t, rfl⟩ := rx; exact SeqAt.EqAt.none_str b t
    | _ => exact absurd (show false = true from fx) Bool.false_ne_true
  | bl a =>
    cases ry
    cases x with
    | non => cases rx; exact SeqAt.EqAt.bool_none a
    | bl b => cases rx; exact SeqAt.EqAt.bool_bool a b
    | int b => obtain ⟨t, rfl⟩ := rx; exact SeqAt.EqAt.bool_int a b t
    | str b => obtain ⟨t, rfl⟩ := rx; exact SeqAt.EqAt.bool_str a b t
    | _ => exact absurd (show false = true from fx) Bool.false_ne_true
  | int a =>
    obtain ⟨t', rfl⟩ := ry
    cases x with
    | non => cases rx; exact SeqAt.EqAt.int_none a t'
    | bl b => cases rx; exact SeqAt.EqAt.int_bool a t' b
    | int b => obtain ⟨t, rfl⟩ := rx; exact SeqAt.EqAt.int_int a t' b t
    | str b => obtain ⟨t, rfl⟩ := rx; exact SeqAt.EqAt.int_str a t' b t
    | _ => exact absurd (show false = true from fx) Bool.false_ne_true
  | str a =>
    obtain ⟨t', rfl⟩ := ry
    cases x with
    | non => cases rx; exact SeqAt.EqAt.str_none a t'
    | bl b => cases rx; exact SeqAt.EqAt.str_bool a t' b
    | int b => obtain ⟨t, rfl⟩ := rx; exact SeqAt.EqAt.str_int a t' b t
    | str b => obtain ⟨t, rfl⟩ := rx; exact SeqAt.EqAt.str_str a t' b t
    | _ => exact absurd (show false = true from fx) Bool.false_ne_true
  | _ => exact absurd (show false = true from fy) Bool.false_ne_true
/-- the items' answers, read off the values (a value's own answer does not lean on its token) -/
def eqU (x : V) (u : Value) : Bool := match u with
  | .none => eqV .non x
  | .bool b => eqV (.bl b) x
  | .int i _ => eqV (.int i) x
  | .str z _ => eqV (.str z) x
  | _ => false
theorem eqU_of {x y : V} {u : Value} (r : RelV y u) (f : flatV y = true) : eqU x u = eqV y x := by
  cases y with
  | non => cases r; rfl
  | bl b => cases r; rfl
  | int i => obtain ⟨t, rfl⟩ := r; rfl
  | str z => obtain ⟨t, rfl⟩ := r; rfl
  | _ => exact absurd (show false = true from f) Bool.false_ne_true
theorem mem_eqAt {A : Around} {s : Shared} {x : V} {v : Value} (rx : RelV x v) (fx : flatV x = true) : ∀ {xs : List V} {us : List Value}, Vals xs us → xs.all flatV = true → ∀ u ∈ us, SeqAt.EqAt A s u v (eqU x u)
  | _, _, .nil, _ => fun u hu => by cases hu
  | y :: xs, u :: us, .cons r t, f => fun u' hu => by
    rw [List.all_cons, Bool.and_eq_true] at f
    rcases List.mem_cons.mp hu with rfl | hu
    · rw [eqU_of r f.1]; exact eqAt_V r rx f.1 fx
    · exact mem_eqAt rx fx t f.2 u' hu
/-! ### len, list(x), tuple(x) of any list or tuple that is read -/
theorem call_len_seq : CallR X (.builtin "len") (fun xs H Q => ∃ p ys, xs = [.ref p] ∧ (SqL X.K H p ys ∨ SqT X.K H p ys) ∧ Q (.int ys.length) H) := by
  intro pins s σ H xs us Q I r h
  obtain ⟨p, ys, rfl, hq, q⟩ := h
  obtain ⟨u, rfl, rx⟩ := vals1 r
  cases rx
  have hn := line63
  rcases hq with hq | hq
  · obtain ⟨its, r', pl, hz⟩ := I.list hq
    have hlen := r'.length
    exact Calls.call_len_list pl.isList (by simp only [List.size_toArray] <;> omega) ⟨.int ys.length, H, I.tok _, ⟨s.toks + 1, by rw [List.size_toArray, hlen]⟩, q⟩
  · obtain ⟨its, r', pl, hz⟩ := I.tuple hq
    have hlen := r'.length
    exact len_tuple pl (by simp only [List.size_toArray] <;> omega) ⟨.int ys.length, H, I.tok _, ⟨s.toks + 1, by rw [List.size_toArray, hlen]⟩, q⟩
theorem call_len_str : CallR X (.builtin "len") (fun xs H Q => ∃ z, xs = [.str z] ∧ z.length ≤ sizeLine ∧ Q (.int z.length) H) := by
  intro pins s σ H xs us Q I r h
  obtain ⟨z, rfl, hz, q⟩ := h
  obtain ⟨u, rfl, t, rfl⟩ := vals1 r
  have hn := line63
  exact len_str (by omega) ⟨.int z.length, H, I.tok _, ⟨_, rfl⟩, q⟩
theorem CallR.or {f : Value} {r r' : List V → Hp → VK → Prop} (h : CallR X f r) (h' : CallR X f r') : CallR X f (fun xs H Q => r xs H Q ∨ r' xs H Q) := by
  intro pins s σ H xs us Q I rs q
  rcases q with q | q
  · exact h pins s σ H xs us Q I rs q
  · exact h' pins s σ H xs us Q I rs q
theorem call_list_of : CallR X (.type "list") (fun xs H Q => ∃ p ys, xs = [.ref p] ∧ (SqL X.K H p ys ∨ SqT X.K H p ys) ∧ ∀ l, H l = none → Q (.ref l) (upd H l (.lst ys))) := by
  intro pins s σ H xs us Q I r h
  obtain ⟨p, ys, rfl, hq, q⟩ := h
  obtain ⟨u, rfl, rx⟩ := vals1 r
  cases rx
  have fin : ∀ (its : List Value), Vals ys its → ys.length ≤ sizeLine → ∀ (h' : Heap) (c' : Nat), (∀ b o', s.heap.get? b = some o' → h'.get? b = some o') →
      h'.get? s.heap.objs.size = some { cls := .type "list", dict := none, data := .seq its.toArray c', slots := #[] } → EP X pins σ Q (.ref s.heap.objs.size) { s with heap := h' } := fun its r' hz h' c' kp e =>
    ⟨.ref s.heap.objs.size, _, I.laid (t' := s.toks) kp (Nat.le_refl _) (show ObjOk X.prog X.w _ h' _ (.lst ys) from ⟨hz, its, c', r', e⟩), rfl, q _ (I.hok.fresh (Nat.le_refl _))⟩
  rcases hq with hq | hq
  · obtain ⟨its, r', pl, hz⟩ := I.list hq
    have hlen := r'.length
    obtain ⟨o, ho, hc, n, hd⟩ := pl.isList
    exact call_list_seq p (.inl rfl) ho hc hd (fun h' c' kp e => fin its r' hz h' c' kp e) (by simp only [List.size_toArray] <;> omega)
  · obtain ⟨its, r', pl, hz⟩ := I.tuple hq
    have hlen := r'.length
    obtain ⟨o, ho, hc, n, hd⟩ := pl
    exact call_list_seq p (.inr rfl) ho hc hd (fun h' c' kp e => fin its r' hz h' c' kp e) (by simp only [List.size_toArray] <;> omega)
theorem call_tuple_of : CallR X (.type "tuple") (fun xs H Q => ∃ p ys, xs = [.ref p] ∧ ((SqL X.K H p ys ∧ ∀ l, H l = none → Q (.ref l) (upd H l (.tup ys))) ∨ (SqT X.K H p ys ∧ Q (.ref p) H))) := by
  intro pins s σ H xs us Q I r h
  obtain ⟨p, ys, rfl, h⟩ := h
  obtain ⟨u, rfl, rx⟩ := vals1 r
  cases rx
  rcases h with ⟨hq, q⟩ | ⟨hq, q⟩
  · obtain ⟨its, r', pl, hz⟩ := I.list hq
    have hlen := r'.length
    refine call_tuple_list pl.isList (fun h' kp => ?_) (by simp only [List.size_toArray] <;> omega)
    have I1 : Inv X pins σ H { s with heap := h' } := I.kept (t' := s.toks) kp
    have I2 : Inv X pins σ (upd H h'.objs.size (.tup ys)) { s with heap := h'.push { cls := .type "tuple", data := .seq its.toArray } } :=
      I1.laid (t' := s.toks) (fun b o e => Heap.get?_push_of_some _ e) (Nat.le_refl _) (show ObjOk X.prog X.w _ _ _ (.tup ys) from ⟨⟨hz, _, Heap.get?_push_size _ rfl, rfl⟩, its, r', IsTup.new _ _⟩)
    exact ⟨.ref h'.objs.size, _, I2, rfl, q _ (I1.hok.fresh (Nat.le_refl _))⟩
  · obtain ⟨its, r', pl, hz⟩ := I.tuple hq
    exact call_tuple_same pl ⟨.ref p, H, I, rfl, q⟩

/-! ### the call of a builtin's method: o.m(..) -/
/-- the value is of that builtin type -/
def tyV (K : PySem.W.Frag) (T : String) (x : V) (H : Hp) : Prop := match x with
  | .str _ => T = "str"
  | .int _ => T = "int"
  | .ref p => (T = "list" ∧ ∃ xs, SqL K H p xs) ∨ (T = "tuple" ∧ ∃ o, K.lookup p = some o ∧ o.cls = .type "tuple" ∧ o.dict = none) ∨
      (T = "dict" ∧ ((∃ kvs, H p = some (.dK kvs)) ∨ ∃ kvs, H p = some (.dT kvs))) ∨ (T = "set" ∧ ∃ S n, H p = some (.set S n))
  | _ => False
theorem tyV_is {pins : List (Addr × Obj)} {σ : St} {H : Hp} {s : Shared} {T : String} {x : V} {v : Value} (I : Inv X pins σ H s) (r : RelV x v) (ty : tyV X.K T x H) :
    s.TypeIs v T ∧ ∀ a, v = .ref a → ∃ ob, s.heap.get? a = some ob ∧ ob.dict = none := by
  cases x with
  | str z =>
    obtain ⟨t, rfl⟩ := r
    cases (show T = "str" from ty)
    exact ⟨typeIs_str s z t, fun _ e => nomatch e⟩
  | int i =>
    obtain ⟨t, rfl⟩ := r
    cases (show T = "int" from ty)
    exact ⟨typeIs_int s i t, fun _ e => nomatch e⟩
  | ref p =>
    cases r
    rcases ty with ⟨rfl, xs, hq⟩ | ⟨rfl, o, hk, hc, hd⟩ | ⟨rfl, hk⟩ | ⟨rfl, S, n, hk⟩
    · obtain ⟨its, _, pl, _⟩ := I.list hq
      refine ⟨pl.isList.typeIs, fun a e => ?_⟩
      cases e
      obtain ⟨o, n, e, c, hd, _⟩ := pl
      exact ⟨o, e, hd⟩
    · refine ⟨⟨o, I.kIn p o hk, hc⟩, fun a e => ?_⟩
      cases e
      exact ⟨o, I.kIn _ o hk, hd⟩
    · have z : ∃ o, s.heap.get? p = some o ∧ o.ExactDict := by
        rcases hk with ⟨kvs, hk⟩ | ⟨kvs, hk⟩
        · obtain ⟨_, _, _, _, o, _, _, e, ex, _⟩ := I.hok p _ hk
          exact ⟨o, e, ex⟩
        · obtain ⟨_, _, _, _, o, _, _, e, ex, _⟩ := I.hok p _ hk
          exact ⟨o, e, ex⟩
      obtain ⟨o, e, ex⟩ := z
      refine ⟨⟨o, e, ex.1⟩, fun a e2 => ?_⟩
      cases e2
      exact ⟨o, e, ex.2.1⟩
    · obtain ⟨o, _, _, _, e, ex, _⟩ := I.hok p _ hk
      refine ⟨⟨o, e, ex.1⟩, fun a e2 => ?_⟩
      cases e2
      exact ⟨o, e, ex.2.1⟩
  | _ => exact False.elim ty
def tBM (K : PySem.W.Frag) (T : String) (r : V → List V → Hp → VK → Prop) (to : TE) (t : TA) : TE := fun σ H Q => to σ H fun x H1 => tyV K T x H1 ∧ t σ H1 fun xs H2 => r x xs H2 Q
variable {o e : Expr} {es : List Expr} {to : TE} {t : TA} {name : Str} {apos cpos : Pos} {T id : String} {r : V → List V → Hp → VK → Prop}
theorem pe_bm (pa : PlainAttrs T) (slot : Slot T name id) (hty : typeOf (.builtin id) = pure (.type "method_descriptor")) (hm : MtR X id r) (ho : PE X o to) (ha : PA X (e :: es) t)
    (hbase : attributeBase o name X.env (eval o X.env) = eval o X.env := by rfl)
    (hfew : ((backTo cpos (starEach (e :: es) X.env)).all (fun x => !x.1) && (backToKw cpos (keywordEach [] X.env)).all (fun x => x.1.isSome)
      && decide ((e :: es).length + ([] : List Keyword).length + (if ([] : List Keyword).isEmpty then 0 else 1) < 30)) = true := by rfl)
    (hline : (apos.endLine == cpos.line) = true := by rfl) (hs : starEach (e :: es) X.env = (false, eval e X.env) :: starEach es X.env := by rfl) (hplain : (backTo cpos (starEach es X.env)).any (·.1) = false := by rfl) :
    PE X (.Call (.Attribute o name apos) (e :: es) [] cpos) (tBM X.K T r to t) := by
  intro pins s σ H Q I h
  refine wpAny_Call_method_late hbase hfew hline rfl (thn (ho pins s σ H _ I h) fun v s1 ⟨x, H1, I1, r1, ty, q1⟩ => ?_)
  obtain ⟨h1, h2⟩ := tyV_is I1 r1 ty
  refine ⟨T, id, pa, slot, hty, h1, h2, ?_⟩
  have hA := ha cpos pins s1 σ H1 _ I1 q1
  rw [hs] at hA ⊢
  refine Calls.callWith_builtin (by show (false || (backTo cpos (starEach es X.env)).any (·.1)) = false; rw [hplain] <;> rfl) (Calls.evalArgs_plain ?_)
  exact thn hA fun us s2 ⟨vs, H2, I2, r2, q2⟩ => hm pins s2 σ H2 x vs v us Q I2 r1 r2 q2
/- xs.append(e), list.index on a module's tuple .. are MtR facts of 06m -/
end
end L2

namespace L2
open PySem PySem.Spec PyProof.Rows

def MtM (X : Cx) (id : String) (r : V → List V → Hp → VK → Prop) : Prop :=
  ∀ (pins : List (Addr × Obj)) (s : Shared) (σ : St) (H : Hp) (x : V) (xs : List V) (v : Value) (us : List Value) (Q : VK), Inv X pins σ H s → RelV x v → Vals xs us → r x xs H Q →
    wpAny (model X.prog X.w) X.A (call (.builtin id) (v :: us)) (EP X pins σ Q) X.xe s

/-! ### lists of values -/
theorem Vals.one : ∀ {x : V} {us : List Value}, Vals [x] us → ∃ u, us = [u] ∧ RelV x u
  | _, _, .cons r .nil => ⟨_, rfl, r⟩
theorem Vals.two : ∀ {x y : V} {us : List Value}, Vals [x, y] us → ∃ u v, us = [u, v] ∧ RelV x u ∧ RelV y v
  | _, _, _, .cons r (.cons q .nil) => ⟨_, _, rfl, r, q⟩
theorem Vals.zero : ∀ {us : List Value}, Vals [] us → us = []
  | _, .nil => rfl
theorem Vals.reverse {xs : List V} {us : List Value} (h : Vals xs us) : Vals xs.reverse us.reverse := by
  induction h with
  | nil => exact .nil
  | cons r t ih => rw [List.reverse_cons, List.reverse_cons]; exact Vals.append ih (.cons r .nil)
section
variable {X : Cx} {pins : List (Addr × Obj)} {σ : St} {H : Hp} {s : Shared} {l b : Addr} {xs ys zs : List V}

/-! ### the two steps: a tracked list is rewritten, a new list is laid -/
theorem Inv.lset {its its' : List Value} {n : Nat} {f : Array Value → Array Value} {t' : Nat} (I : Inv X pins σ H s) (hH : H l = some (.lst xs))
    (e : s.heap.get? l = some { cls := .type "list", data := .seq its.toArray n }) (hf : f its.toArray = its'.toArray) (hv : Vals ys its') (hz : ys.length ≤ sizeLine) :
    Inv X pins σ (upd H l (.lst ys)) { s with heap := s.heap.update l (Obj.mapSeq f), toks := t' } := by
  have q := PySem.IsL.update e f
  rw [hf] at q
  refine I.write (x := l) (e := l) (by rw [hH]; exact trivial) (.inl rfl) (fun b' u hb hu => (Heap.get?_update_other s.heap (Obj.mapSeq f) (Ne.symm hb)).trans hu) ⟨_, q⟩ ?_
  exact ⟨hz, its', _, hv, q⟩
theorem Inv.lnew {its : List Value} {t' : Nat} (I : Inv X pins σ H s) (hv : Vals ys its) (hz : ys.length ≤ sizeLine) :
    Inv X pins σ (upd H s.heap.objs.size (.lst ys)) { s with heap := s.heap.push { cls := .type "list", data := .seq its.toArray }, toks := t' } :=
  I.laid (fun _ _ q => Heap.get?_push_of_some _ q) (Nat.le_refl _) ⟨hz, its, 0, hv, Heap.get?_push_size _ rfl⟩
theorem Inv.fresh (I : Inv X pins σ H s) : H s.heap.objs.size = none := I.hok.fresh (Nat.le_refl _)
theorem Inv.lstM (I : Inv X pins σ H s) (hH : H l = some (.lst xs)) : xs.length ≤ sizeLine ∧ ∃ (its : List Value) (n : Nat), Vals xs its ∧ xs.length = its.length ∧ s.heap.get? l = some { cls := .type "list", data := .seq its.toArray n } := by
  obtain ⟨z, its, n, r, e⟩ := I.hok l _ hH
  exact ⟨z, its, n, r, r.length, e⟩

end

section
variable {X : Cx}

/-! ### methods -/
def rAppend : V → List V → Hp → VK → Prop := fun x vs H Q => ∃ l xs y, x = .ref l ∧ vs = [y] ∧ H l = some (.lst xs) ∧ xs.length < sizeLine ∧ Q .non (upd H l (.lst (xs ++ [y])))
theorem mt_append : MtM X "list.append" rAppend := by
  intro pins s σ H x vs v us Q I rx rv h
  obtain ⟨l, xs, y, rfl, rfl, hH, hz, q⟩ := h
  cases rx
  obtain ⟨u, rfl, ru⟩ := rv.one
  obtain ⟨z, its, n, r, hl, e⟩ := I.lstM hH
  refine call_meets F.slot_list_append ⟨_, e, rfl⟩ F.entry_list_append (F.args_list_append_2 _ _) (PySem.list_append l its.toArray n u (by rw [List.size_toArray]; omega)) ⟨e, ?_⟩
  refine ⟨.non, _, I.lset (its' := its ++ [u]) hH e (by simp) (r.append (.cons ru .nil)) ?_, rfl, q⟩
  rw [List.length_append, List.length_singleton]
  omega

/-! ### list + list, list += list, list * int -/
def rCat : R2 := fun x y H Q => ∃ l b xs zs, x = .ref l ∧ y = .ref b ∧ H l = some (.lst xs) ∧ H b = some (.lst zs) ∧ xs.length + zs.length ≤ sizeLine ∧ ∀ p, H p = none → Q (.ref p) (upd H p (.lst (xs ++ zs)))
theorem op_cat : OpR X (binaryOp .Add) rCat := by
  intro pins s σ H x y v u Q I rx ry h
  obtain ⟨l, b, xs, zs, rfl, rfl, hH, hB, hz, q⟩ := h
  cases rx
  cases ry
  obtain ⟨z, its, n, r, hl, e⟩ := I.lstM hH
  obtain ⟨z2, its2, n2, r2, hl2, e2⟩ := I.lstM hB
  refine PySem.P.add_list e e2 ?_ (by rw [List.size_toArray, List.size_toArray]; omega)
  have ea : its.toArray ++ its2.toArray = (its ++ its2).toArray := by simp
  rw [ea]
  exact ⟨.ref _, _, I.lnew (t' := s.toks) (r.append r2) (by rw [List.length_append]; omega), rfl, q _ I.fresh⟩
/-! ### del xs[i] -/
end

/-! ### xs[a:b] = ys -/
section
variable {prog : Program} {w : World} {A : Around} {E : Value → Shared → Prop} {s : Shared}
end

section
variable {X : Cx}
end
end L2

namespace Att
open PySem PySem.W PySem.Calls PyProof.Rows

/-! ### the script -/
theorem ints_of_wellAll {P : Params} {h : Heap} : ∀ (ns : List Int) (vs : List Value), WellAll P h vs (ns.map WData.int) → IntsAre vs ns := by
  intro ns
  induction ns with
  | nil =>
    intro vs w
    rw [List.map_nil] at w
    cases w
    exact .nil
  | cons n ns ih =>
    intro vs w
    rw [List.map_cons] at w
    cases w with
    | cons a b =>
      cases a
      exact .cons _ _ (ih _ b)

theorem script_of {l : OpenLaw} {n : Nat} (hn : l.most = some n) {P : Params} {h : Heap} {args : List WData} {vals : List Value}
    (hpre : l.row.toRowW.claim.pre args = true) (hwl : WellAll P h vals args) :
    ∃ a vs ns, vals = [Value.ref a] ∧ args = [WData.list (ns.map WData.int)] ∧ h.get? a = some { cls := .type "list", data := .seq vs.toArray } ∧ IntsAre vs ns ∧ ns.length ≤ n := by
  have hsh : WShape.hasAll [] args [.list .int] = true := (pre_splitW hpre).1
  have hc : l.pre.holds [] { args := args } = true := (pre_splitW hpre).2
  obtain ⟨d, r, rfl, h1, h2⟩ := hasAllW_cons hsh
  obtain rfl := hasAllW_nil h2
  obtain ⟨xs, rfl, h3⟩ := hasW_list h1
  obtain ⟨ns, rfl⟩ := items_int h3
  have hlen : ns.length ≤ n := by
    unfold OpenLaw.pre at hc
    have h4 : (WTm.not (.lt (.lit (.int (n : Int))) (.len (.arg 0)))).holds [] { args := [.list (ns.map .int)] } = true := by
      have h4 := (holds_andW hc).1
      rw [hn] at h4
      exact h4
    have h5 := condW_of h4 (w_not (w_lt w_lit (w_len_list (w_arg rfl))))
    rw [List.length_map] at h5
    refine Nat.le_of_not_lt fun q => ?_
    have q' : (n : Int) < ((ns.length : Nat) : Int) := by omega
    first
      | (rw [decide_eq_true q'] at h5; exact absurd h5 (by decide))
      | (simp at h5; omega)
  cases hwl with
  | cons w1 w2 =>
    cases w2
    cases w1 with
    | list ho hall => exact ⟨_, _, ns, rfl, rfl, ho, ints_of_wellAll ns _ hall, hlen⟩

theorem post_true (l : OpenLaw) (args : List WData) : l.row.toRowW.claim.post args (.bool true) args = true :=
  postW_of (r := l.row.toRowW) (X := (true == true))
    (show WShape.has [] (.bool true) .bool = true by first | rfl | decide | simp [WShape.has, WShape.arms, WShape.armsAll])
    (show (WTm.eq .res (.lit (.bool true))).value [] { args := args, res := some (.bool true), after := args } = some (.bool (true == true)) from w_eq_bool (w_res rfl) w_lit) rfl

/-! ### the attachment: holds_open's last premise (the goal 'hc' behind k_head) from a wpAny of the law's body -/
/-- the same from a codeAny of the CALL (for a layer whose function contracts speak of calls) -/
theorem attach_call {l : OpenLaw} {n : Nat} {q : Program} {loose : List Str} {XP : (Str → Option Value) → Heap → Prop} {YP : World → Heap → Prop} {d : DefRec}
    (hn : l.most = some n) (hdf : d.params.defaults = [])
    (call : ∀ (w : World) (s₀ s₁ : Shared) (mg mb : Str → Option Value) (fa : Addr) (o : Obj) (pm cd doc : Value) (a : Addr) (vs : List Value) (ns : List Int),
      Ground q loose [] XP w s₀ mg mb s₁.heap → YP w s₁.heap →
      s₁.heap.get? fa = some o → o.data = .func (docDef d.name d.params d.body d.scope pm cd doc) → s₁.heap.CodeRec cd d.name → mg d.name = some (.ref fa) →
      s₁.heap.get? a = some { cls := .type "list", data := .seq vs.toArray } → IntsAre vs ns → ns.length ≤ n → s₁.gens = #[] →
      codeAny (model l.prog w) callerA (.call (.ref fa) ⟨[.ref a], []⟩) (fun r s' => r = .ok (.ret (.bool true)) ∧ OldK s₁.heap s'.heap ∧ s'.os = s₁.os ∧ AllBare s'.gens) s₁) :
    WalkO q loose XP YP l.row.toRowW d [] (fun f vs => PySem.call f vs) := by
  intro w s₀ s₁ mg mb G Y fa o pm cd doc dV kV ho hd hcd hD hmg hg args vals as hpre hlay hrd hwl hlo
  obtain rfl : dV = .none := Dflts.none hD hdf
  obtain rfl : kV = .none := Dflts.noKw hD
  obtain ⟨a, vs, ns, rfl, rfl, hobj, hints, hlen⟩ := script_of hn hpre hwl
  refine enter_call (codeAny_mono (call w s₀ s₁ mg mb fa o pm cd doc a vs ns G Y ho (fd_plain hd) hcd hmg hobj hints hlen hg) fun r s' hq => ?_)
  obtain ⟨rfl, h2, h3, h4⟩ := hq
  exact ⟨.inl ⟨.bool true, .bool true, [], rfl, fun _ => rfl, .bool true, post_true l _, fun _ => ⟨List.Pairwise.nil, fun _ hm => (nomatch hm)⟩⟩, h2, h3, h4⟩

/-! ### rules over ANY heap (no ledger) from facts about the written part K: the library's own take a ledger (News) for what they write -/
section
variable {prog : Program} {w : World} {A : Around} {E : Value → Shared → Prop} {s : Shared} {K : Frag}

/-! the whole heap as the ledger: makes every rule that writes through a ledger a rule over any heap -/
def ledger (h : Heap) (L d : Addr) : List (Addr × Obj) := (List.range h.objs.size).filterMap fun a => if a = L ∨ a = d then none else (h.get? a).map fun o => (a, o)
end
end Att

namespace L2
open PySem PySem.Spec PyProof.Rows

theorem vals_ints : ∀ {vs : List Value} {ns : List Int}, IntsAre vs ns → Vals (ns.map V.int) vs
  | _, _, .nil => .nil
  | _, _, .cons n t h => .cons ⟨t, rfl⟩ (vals_ints h)

end L2

namespace L2
open PySem PySem.Spec PyProof.Rows

abbrev KOf {K : PySem.W.Frag} {h : Heap} (_ : K.In h) : PySem.W.Frag := K

end L2


/-! SHORT WORDS over the layer: a def of the text, its body, what a loop and a test want. -/
namespace L2
open PySem PySem.Spec PyProof.Rows

/-! ### the text by places -/
def defArgs (s : Stmt) : Arguments := match s with
  | .FunctionDef _ a _ _ _ _ _ _ _ _ => a
  | _ => { posonlyargs := [], args := [], vararg := none, kwonlyargs := [], kw_defaults := [], kwarg := none, defaults := [] }
def defBody (s : Stmt) : List Stmt := match s with
  | .FunctionDef _ _ b _ _ _ _ _ _ _ => b
  | _ => []
def defScope (s : Stmt) : Scope := match s with
  | .FunctionDef _ _ _ _ _ _ sc _ _ _ => sc
  | _ => { kind := .function, names := [], isGenerator := false, isCoroutine := false }

/-! ### no exception leaves a def -/
abbrev CX0 : CXT := fun _ _ _ _ _ _ => False
abbrev E0 : XK := fun _ _ _ => False
theorem pass0 {X : Cx} : Passes CX0 X E0 := fun _ _ _ _ _ _ _ h => h.elim

/-! ### a def (or method) of the text as it stands behind the top -/
structure Fun (K : PySem.W.Frag) (x qual : Str) (st : Stmt) (f : Addr) (fd : FuncData) : Prop where
  ex : ∃ (oc : Value) (od : Option Addr) (kV doc pm : Value) (an : Option Addr) (cdv ct : Value) (osl : Array (Option Value)),
    fd = PySem.W.fnOf x qual (defArgs st) (defBody st) (defScope st) .none kV doc pm an cdv ct ∧ K.lookup f = some ⟨oc, od, .func fd, osl⟩ ∧ PySem.W.codeIn K cdv qual = true
  kp : PySem.W.keepIn K (.ref f) = true
section
variable {P : Program} {w : World} {K : PySem.W.Frag} {mg : Str → Option Value} {base : Heap}
/-- THE RULE for a def: its body as a term of rules, and the reading of that term -/
theorem Fun.ok {x qual : Str} {st : Stmt} {f : Addr} {fd : FuncData} {N ps : List Str} {k : Nat} {sp : Sp} (F : Fun K x qual st f fd) (S : FnScope N ps (defScope st)) (len : ∀ vs H Q E, sp vs H Q E → vs.length = ps.length)
    (hbody : ∀ (cdv : Value) (A : Around) (outer : List Env) (s : Shared) (H : Hp) (vs : List V) (Q : VK) (E : XK), Room k (A.deeper (envOfC qual (defScope st) s.heap.objs.size f cdv)) → sp vs H Q E →
      ∃ t, PSs (cxOf CX0 P w K mg base N qual (defScope st) f cdv A outer s H E).nox (defBody st) t ∧ t { nx := fun _ H' => Q .non H', rt := Q } (start N vs) H) : FnOk P w K mg base CX0 (k + 1) f fd ps sp := by
  obtain ⟨oc, od, kV, doc, pm, an, cdv, ct, osl, rfl, lk, hcd⟩ := F.ex
  refine fn_of lk hcd S len fun A outer s H vs Q E hr hsp => ?_
  obtain ⟨t, h, q⟩ := hbody cdv A outer s H vs Q E hr hsp
  exact ⟨t, h.nox, q⟩
/-- how its arguments bind (no defaults): h is «fun _ _ _ _ _ _ us hl => match us, hl with | [_, _], _ => rfl», one _ a parameter -/
theorem Fun.binds {x qual : Str} {st : Stmt} {f : Addr} {fd : FuncData} {ps : List Str} (F : Fun K x qual st f fd)
    (h : ∀ (kV doc pm : Value) (an : Option Addr) (cdv ct : Value) (us : List Value), us.length = ps.length → bindArgs (PySem.W.fnOf x qual (defArgs st) (defBody st) (defScope st) .none kV doc pm an cdv ct) ⟨us, []⟩ = pure (ps.zip us)) : Binds K fd ps [] := by
  obtain ⟨oc, od, kV, doc, pm, an, cdv, ct, osl, rfl, lk, hcd⟩ := F.ex
  exact .all (h kV doc pm an cdv ct)
theorem fun_mk {x qual : Str} {st : Stmt} {f : Addr} {oc : Value} {od an : Option Addr} {osl : Array (Option Value)} {kV doc pm cdv ct : Value} (l : K.lookup f = some ⟨oc, od, .func (PySem.W.fnOf x qual (defArgs st) (defBody st) (defScope st) .none kV doc pm an cdv ct), osl⟩)
    (c : PySem.W.codeIn K cdv qual = true) (k : PySem.W.keepIn K (.ref f) = true) : Fun K x qual st f (PySem.W.fnOf x qual (defArgs st) (defBody st) (defScope st) .none kV doc pm an cdv ct) := ⟨⟨oc, od, kV, doc, pm, an, cdv, ct, osl, rfl, l, c⟩, k⟩
end
theorem hu_of {A : Around} {k : Nat} (hr : Room k A) : A.units + 1 < cLine := Nat.lt_of_le_of_lt (Nat.add_le_add_left (by decide : 1 ≤ 64) _) hr.units
theorem small1000 {n : Nat} (h : n ≤ 1000) : n < sizeLine := Nat.lt_of_le_of_lt h (by decide)

/-! ### expressions in short: the name that stands in the i-th slot -/
section
variable {X : Cx}
theorem pv (i : Nat) {x : Str} {pos : Pos} (hN : X.N[i]? = some x := by rfl) (hv : Vis X.env.scope x := by first | exact Or.inl rfl | exact Or.inr (Or.inl rfl) | exact Or.inr (Or.inr rfl)) (hd : (x == ("__debug__" : Str)) = false := by decide)
    (hcd : (x == ("__classdict__" : Str)) = false := by decide) : PE X (.Name x pos) (tVar i) := pe_var hN hv hd hcd
end

/-! ### tests -/
theorem iteF {A B : Prop} (h : B) : if false = true then A else B := by
  rw [if_neg Bool.false_ne_true]
  exact h
theorem iteT {A B : Prop} (h : A) : if true = true then A else B := by
  rw [if_pos rfl]
  exact h
theorem ite2 {c A B : Prop} [Decidable c] (h1 : c → A) (h2 : ¬ c → B) : if c then A else B := by
  by_cases h : c
  · rw [if_pos h]
    exact h1 h
  · rw [if_neg h]
    exact h2 h
/-! ### heaps -/
/-- all that was tracked is as it was -/
def Same (H H' : Hp) : Prop := ∀ b o, H b = some o → H' b = some o
theorem Same.refl (H : Hp) : Same H H := fun _ _ h => h
theorem Same.trans {H H1 H2 : Hp} (a : Same H H1) (b : Same H1 H2) : Same H H2 := fun c o h => b c o (a c o h)
theorem Same.free {H H' : Hp} (e : Same H H') {l : Addr} (h : H' l = Option.none) : H l = Option.none := by
  cases q : H l with
  | none => rfl
  | some o =>
    rw [e l o q] at h
    cases h
theorem Same.seq {K : PySem.W.Frag} {H H' : Hp} {a : Addr} {xs : List V} (e : Same H H') (h : SqL K H a xs) : SqL K H' a xs := by
  rcases h with (h | ⟨o, h⟩) | h
  · exact .inl (.inl (e _ _ h))
  · exact .inl (.inr ⟨o, e _ _ h⟩)
  · exact .inr h

end L2


set_option Elab.async false
set_option linter.all false
set_option maxRecDepth 100000
set_option maxHeartbeats 4000000
/-! a list comprehension: its block runs in a context of its own -/
namespace L2
open PySem PySem.Spec PyProof.Rows

theorem lookup_mem {α : Type} : ∀ {cl : List (Str × α)} {x : Str} {c : α}, cl.lookup x = some c → (x, c) ∈ cl
  | [], _, _, h => by simp at h
  | (y, d) :: r, x, c, h => by
    rw [List.lookup_cons] at h
    cases e : x == y with
    | true =>
      rw [e] at h
      have e' : x = y := eq_of_beq e
      cases h
      rw [e']; exact List.mem_cons_self
    | false =>
      rw [e] at h
      exact List.mem_cons_of_mem _ (lookup_mem h)
theorem lookup_of_mem {α : Type} : ∀ {cl : List (Str × α)} {x : Str} {c : α}, (x, c) ∈ cl → ∃ c', cl.lookup x = some c'
  | [], _, _, h => nomatch h
  | (y, d) :: r, x, c, h => by
    rw [List.lookup_cons]
    cases e : x == y with
    | true => exact ⟨d, rfl⟩
    | false =>
      rcases List.mem_cons.mp h with h | h
      · cases h
        simp at e
      · exact lookup_of_mem h
theorem closure_go {env : Env} {f : (Str × NameKind) → List (Str × Addr) → Sem (ForInStep (List (Str × Addr)))}
    (h1 : ∀ x k cs, k ≠ NameKind.free → f (x, k) cs = pure (.yield cs)) (h2 : ∀ x cs c, env.cells.lookup x = some c → f (x, NameKind.free) cs = pure (.yield ((x, c) :: cs))) :
    ∀ (names : List (Str × NameKind)) (acc : List (Str × Addr)), (∀ x, (x, NameKind.free) ∈ names → ∃ c, env.cells.lookup x = some c) →
      ∃ cl, forIn names acc f = pure cl ∧ (∀ p ∈ cl, p ∈ acc ∨ env.cells.lookup p.1 = some p.2) ∧ (∀ p ∈ acc, p ∈ cl) ∧ ∀ x, (x, NameKind.free) ∈ names → ∃ c, (x, c) ∈ cl
  | [], acc, _ => ⟨acc, rfl, fun _ h => .inl h, fun _ h => h, fun _ h => nomatch h⟩
  | (x, k) :: r, acc, h => by
    by_cases hk : k = NameKind.free
    · subst hk
      obtain ⟨c, hc⟩ := h x List.mem_cons_self
      obtain ⟨cl, e, a, b, d⟩ := closure_go h1 h2 r ((x, c) :: acc) fun y hy => h y (List.mem_cons_of_mem _ hy)
      refine ⟨cl, ?_, fun p hp => ?_, fun p hp => b p (List.mem_cons_of_mem _ hp), fun y hy => ?_⟩
      · rw [List.forIn_cons, h2 x acc c hc, pure_bind]; exact e
      · rcases a p hp with q | q
        · rcases List.mem_cons.mp q with q | q
          · subst q; exact .inr hc
          · exact .inl q
        · exact .inr q
      · rcases List.mem_cons.mp hy with q | q
        · cases q; exact ⟨c, b _ List.mem_cons_self⟩
        · exact d y q
    · obtain ⟨cl, e, a, b, d⟩ := closure_go h1 h2 r acc fun y hy => h y (List.mem_cons_of_mem _ hy)
      refine ⟨cl, ?_, a, b, fun y hy => ?_⟩
      · rw [List.forIn_cons, h1 x k acc hk, pure_bind]; exact e
      · rcases List.mem_cons.mp hy with q | q
        · cases q; exact absurd rfl hk
        · exact d y q
theorem closure_ok {scope : Scope} {env : Env} (h : ∀ x, (x, NameKind.free) ∈ scope.names → ∃ c, env.cells.lookup x = some c) :
    ∃ cl, closureFor scope env = pure cl ∧ (∀ x c, cl.lookup x = some c → env.cells.lookup x = some c) ∧ ∀ x, (x, NameKind.free) ∈ scope.names → ∃ c, cl.lookup x = some c := by
  have go := closure_go (env := env) (f := fun x cs => match x with | (name, kind) => if (kind == NameKind.free) = true then do let a ← cellOf env name; pure (.yield ((name, a) :: cs)) else pure (.yield cs))
    (fun x k cs hk => by
      have : (k == NameKind.free) = false := by simpa using hk
      simp only [this, Bool.false_eq_true, if_false])
    (fun x cs c hc => by
      simp only [beq_self_eq_true, if_true]
      unfold cellOf
      rw [hc, pure_bind])
    scope.names [] h
  obtain ⟨cl, e, a, _, d⟩ := go
  refine ⟨cl, ?_, fun x c hx => ?_, fun x hx => ?_⟩
  · unfold closureFor
    simp only [bind_pure]
    exact e
  · rcases a _ (lookup_mem hx) with q | q
    · exact nomatch q
    · exact q
  · obtain ⟨c, hc⟩ := d x hx
    exact lookup_of_mem hc

theorem relabel_lookup {env : Env} {x : Str} {k : NameKind} : ∀ {names : List (Str × NameKind)},
    (names.map fun (n, k) => if (k == NameKind.free && env.scope.kind == .function && env.kindOf n == some .cell) then (n, NameKind.cell) else (n, k)).lookup x = some k →
      names.lookup x = some k ∨ (k = .cell ∧ names.lookup x = some .free)
  | [], h => by simp at h
  | (n, j) :: r, h => by
    have ih := @relabel_lookup env x k r
    rw [List.lookup_cons]
    change List.lookup x ((if (j == NameKind.free && env.scope.kind == .function && env.kindOf n == some .cell) = true then (n, NameKind.cell) else (n, j)) :: _) = _ at h
    by_cases hc : (j == NameKind.free && env.scope.kind == .function && env.kindOf n == some .cell) = true
    · rw [if_pos hc, List.lookup_cons] at h
      have hj : j = NameKind.free := by
        simp only [Bool.and_eq_true] at hc
        exact eq_of_beq hc.1.1
      cases hx : x == n with
      | true => rw [hx] at h; cases h; exact .inr ⟨rfl, by rw [hj]⟩
      | false => rw [hx] at h; exact ih h
    · rw [if_neg hc, List.lookup_cons] at h
      cases hx : x == n with
      | true => rw [hx] at h; exact .inl h
      | false => rw [hx] at h; exact ih h

/-- the context of a comprehension's block. NL: its own names; ix: the slots of the names that it reads from the def -/
def cxComp (X : Cx) (scope : Scope) (NL : List Str) (ix : List Nat) (cl : List (Str × Addr)) (C : Addr) (s₃ : Shared) (H₃ : Hp) (fp : List Addr) (pins : List (Addr × Obj)) : Cx where
  prog := X.prog
  w := X.w
  K := X.K
  mg := X.mg
  base := X.base
  A := X.A
  N := NL ++ ix.map fun j => X.N.getD j ""
  s₀ := s₃
  H₀ := H₃
  env := compEnvC scope cl C X.env
  outer := X.stack
  stack := X.stack
  ex := fp
  fn := fun _ => false
  calm := X.calm
  pn := X.pn ++ pins
  xe := fun _ _ => False

/-- the values of the block's names at a turn's start -/
def comp0 (NL : List Str) (ix : List Nat) (σ : St) : St := NL.map (fun _ => none) ++ ix.map fun j => σ.getD j none

/-- the tests of a comprehension -/
def PIfs (X : Cx) (ifs : List Expr) (t : TT) : Prop :=
  ∀ (pins : List (Addr × Obj)) (s : Shared) (σ : St) (H : Hp) (Q : Bool → Hp → Prop), Inv X pins σ H s → t σ H Q →
    wpAny (model X.prog X.w) X.A (forIn ifs true fun c r => if r = true then do let ok ← isTrue c X.env (eval c X.env); pure (ForInStep.yield ok) else pure (ForInStep.yield r)) (TP X pins σ Q) X.xe s
def tYes : TT := fun _ H Q => Q true H
theorem pifs_nil {X : Cx} : PIfs X [] tYes := fun _ _ _ H _ I h => wpAny_tests_nil ⟨H, I, h⟩
theorem pifs_one {X : Cx} {c : Expr} {t : TT} (h : PT X c t) : PIfs X [c] t := fun pins s σ H Q I q => wpAny_tests_one (h pins s σ H Q I q)

/-- what a comprehension is worth: W: the invariant by the turn, a measure, what stands in the new list -/
def tComp (NL : List Str) (ix : List Nat) (wi : TI) (g : TG) (tt : TT) (te : TE) : TE := fun σ H Q =>
  wi σ H fun J H1 => ∀ acc, H1 acc = none → ∃ W : Nat → Nat → List V → Hp → Prop, (∃ m, W 0 m [] (upd H1 acc (.lst []))) ∧
    ∀ i m ys H2, W i m ys H2 → H2 acc = some (.lst ys) ∧ ys.length < sizeLine ∧
      ((J.stop i H2 ∧ Q (.ref acc) H2) ∨ (J.go i H2 ∧ ∃ N : List V → Hp → Prop, (∀ ys' H', N ys' H' → ∃ m', m' < m ∧ W (i + 1) m' ys' H') ∧
        ∀ x H3, J.yld i H2 x H3 → g x (comp0 NL ix σ) H3 fun σ' H4 => σ'.drop NL.length = ix.map (fun j => σ.getD j none) ∧ tt σ' H4 fun b H5 =>
          if b = true then te σ' H5 fun v H6 => H6 acc = some (.lst ys) ∧ N (ys ++ [v]) (upd H6 acc (.lst (ys ++ [v]))) else N ys H5))

section
variable {X : Cx} {pins : List (Addr × Obj)} {σ : St} {H : Hp} {s : Shared}

structure CompScope (X : Cx) (scope : Scope) (NL : List Str) (ix : List Nat) : Prop where
  kind : scope.kind = .function
  cell : ∀ y ∈ scope.names, y.2 ≠ .cell
  names : ∀ y ∈ scope.names, y.2 = .local → scope.names.lookup y.1 = some .local
  free : ∀ y ∈ scope.names, y.2 = .free → X.env.kindOf y.1 = some .cell ∨ X.env.kindOf y.1 = some .free
  cap : ∀ j ∈ ix, ∃ x, X.N[j]? = some x ∧ scope.names.lookup x = some .free

theorem comp_inv {scope : Scope} {NL : List Str} {ix : List Nat} {cl : List (Str × Addr)} {fp : List Addr} {tn : Nat → Heap → Prop} {s₃ : Shared} {h₁ : Heap} {m : Str → Option Value} {tk : Nat}
    (S : CompScope X scope NL ix) (I : Inv X pins σ H s₃) (c1 : ∀ x c, cl.lookup x = some c → X.env.cells.lookup x = some c) (c2 : ∀ x, (x, NameKind.free) ∈ scope.names → ∃ c, cl.lookup x = some c)
    (hf : ∀ b ∈ fp, FpOk X pins H b) (ho : ∀ b ∈ fp, ∃ o, s₃.heap.get? b = some o) (hn : h₁.Ns s₃.heap.objs.size m) (old : ∀ b o, s₃.heap.get? b = some o → h₁.get? b = some o) :
    Inv (cxComp X scope NL ix cl s₃.heap.objs.size s₃ H fp pins) [] (comp0 NL ix σ) H { s₃ with heap := h₁, toks := tk } := by
  have e0 := I.env0
  have lt : ∀ b o, s₃.heap.get? b = some o → b ≠ s₃.heap.objs.size := fun b o e => Nat.ne_of_lt (Heap.lt_size e)
  have nst : ∀ b, b ≠ X.env.locals → b ∉ X.fs → b ∉ frs X.stack := fun b h1 h2 h3 => (List.mem_cons.mp (I.stkSub b h3)).elim h1 h2
  have ok : (cxComp X scope NL ix cl s₃.heap.objs.size s₃ H fp pins).Ok :=
    { mod := I.ok.mod
      kind := S.kind
      glob := I.ok.glob
      blt := I.ok.blt
      above := Nat.le_refl _
      inj := fun x y c h1 h2 => I.ok.inj x y c (c1 x c h1) (c1 y c h2)
      has := fun x hx => by
        have hfree : scope.names.lookup x = some .free := by
          rcases hx with hx | hx
          · rcases relabel_lookup hx with q | ⟨_, q⟩
            · exact absurd rfl (S.cell _ (lookup_mem q))
            · exact q
          · rcases relabel_lookup hx with q | ⟨z, _⟩
            · exact q
            · cases z
        exact c2 x (lookup_mem hfree)
      cab := fun _ _ z => nomatch z
      hd := I.ok.hd
      frames := I.ok.frames
      stk := .inl rfl
      exf := fun b hb => ⟨let ⟨o, e⟩ := ho b hb; lt b o e, fun x c hx => (hf b hb).2.2.2.2.1 x c (c1 x c hx)⟩
      bs := I.bs
      bsz := e0.bsz
      noex := fun b o e hb => by
        rcases (hf b hb).2.2.2.1 with z | z
        · exact I.ok.noex b o e z
        · exact absurd (Nat.lt_of_lt_of_le (Heap.lt_size e) (Nat.le_trans I.ok.bsz z)) (Nat.lt_irrefl _)
      exfs := fun b hb => nst b (hf b hb).2.1 (hf b hb).2.2.1
      funs := e0.funs
      frf := e0.frf }
  refine ⟨ok, rfl, I.bare, Un.kept old, ⟨m, hn, fun i x v e1 e2 e3 => ?_⟩, fun x c e => ?_, I.hok.fresh (Nat.le_refl _), fun x c e => I.freeC x c (c1 x c e), fun p hp => ?_, I.hok.kept old, ?_⟩
  · have hl : NL.length ≤ i := by
      rcases Nat.lt_or_ge i NL.length with z | z
      · exfalso
        unfold comp0 at e2
        rw [List.getElem?_append_left (by simpa using z), List.getElem?_map] at e2
        cases q : NL[i]? with
        | none => rw [q] at e2; cases e2
        | some y => rw [q] at e2; cases e2
      · exact z
    unfold comp0 at e2
    rw [List.getElem?_append_right (by simpa using hl), List.length_map, List.getElem?_map] at e2
    change (NL ++ ix.map fun j => X.N.getD j "")[i]? = some x at e1
    rw [List.getElem?_append_right hl, List.getElem?_map] at e1
    cases q : ix[i - NL.length]? with
    | none => rw [q] at e1; cases e1
    | some j =>
      rw [q] at e1 e2
      have e1' : X.N.getD j "" = x := Option.some.inj e1
      have e2' : σ.getD j none = some v := Option.some.inj e2
      obtain ⟨x', hx', hfr⟩ := S.cap j (List.mem_of_getElem? q)
      have exx : x' = x := by
        rw [← e1', List.getD_eq_getElem?_getD, hx']; rfl
      subst exx
      have hσ : σ[j]? = some (some v) := by
        rw [List.getD_eq_getElem?_getD] at e2'
        cases z : σ[j]? with
        | none => rw [z] at e2'; cases e2'
        | some o => rw [z] at e2'; exact congrArg some e2'
      have kd := S.free _ (lookup_mem hfr) rfl
      have vis : Vis X.env.scope x' := by
        rcases kd with z | z
        · exact .inr (.inl z)
        · exact .inr (.inr z)
      obtain ⟨m', hn', hl'⟩ := I.loc
      obtain ⟨u, r, l⟩ := hl' j x' v hx' hσ vis
      refine ⟨u, r, .inr ?_⟩
      have hk' : (compEnvC scope cl s₃.heap.objs.size X.env).kindOf x' = some .cell ∨ (compEnvC scope cl s₃.heap.objs.size X.env).kindOf x' = some .free := by
        rcases e3 with z | z | z
        · rcases relabel_lookup z with w | ⟨w, _⟩
          · rw [hfr] at w; cases w
          · cases w
        · exact .inl z
        · exact .inr z
      refine ⟨hk', ?_⟩
      obtain ⟨c, hc⟩ := c2 x' (lookup_mem hfr)
      rcases l with ⟨k, _⟩ | ⟨k, c', ec, o, ho', hd⟩
      · rcases kd with z | z
        · rw [k] at z; cases z
        · rw [k] at z; cases z
      · have : c' = c := by
          have := c1 x' c hc
          rw [ec] at this
          exact Option.some.inj this
        subst this
        exact ⟨c', hc, o, old _ _ ho', hd⟩
  · obtain ⟨v, o, ho', hd⟩ := I.cell x c (c1 x c e)
    exact ⟨v, o, old _ _ ho', hd⟩
  · have hp' : p ∈ X.pn ++ pins := by
      rcases List.mem_append.mp hp with z | z
      · exact z
      · exact nomatch z
    obtain ⟨e, n, ne, nf, d⟩ := I.pin p hp'
    exact ⟨old _ _ e, n, lt _ _ e, nst _ ne nf, d⟩
  · show (NL.map (fun _ => (none : Option V)) ++ ix.map fun j => σ.getD j none).length = (NL ++ ix.map fun j => X.N.getD j "").length
    simp
/-- the block of a comprehension, from the iterator on -/
theorem comp_run {scope : Scope} {NL : List Str} {ix : List Nat} {elt tg iter : Expr} {ifs : List Expr} {pos : Pos} {g : TG} {tt : TT} {te : TE} {cl : List (Str × Addr)} {fp : List Addr} {it : Addr} {tn : Nat → Heap → Prop} {J : It} {Q : VK}
    {E : Value → Shared → Prop} {RR : Value → Addr → Result → Shared → Prop}
    (hc : X.calm = true) (S : CompScope X scope NL ix) (c1 : ∀ x c, cl.lookup x = some c → X.env.cells.lookup x = some c) (c2 : ∀ x, (x, NameKind.free) ∈ scope.names → ∃ c, cl.lookup x = some c)
    (hb : ∀ (cl : List (Str × Addr)) (C : Addr) (s₃ : Shared) (H₃ : Hp) (fp : List Addr) (pins : List (Addr × Obj)), PG (cxComp X scope NL ix cl C s₃ H₃ fp pins) tg g ∧ PIfs (cxComp X scope NL ix cl C s₃ H₃ fp pins) ifs tt ∧ PE (cxComp X scope NL ix cl C s₃ H₃ fp pins) elt te)
    (I : Inv X pins σ H s) (T : Turn X.prog X.w X.K tg J fp it tn) (st : tn 0 s.heap) (hf : ∀ b ∈ fp, FpOk X pins H b)
    (q : ∀ acc, H acc = none → ∃ W : Nat → Nat → List V → Hp → Prop, (∃ m, W 0 m [] (upd H acc (.lst []))) ∧
      ∀ i m ys H2, W i m ys H2 → H2 acc = some (.lst ys) ∧ ys.length < sizeLine ∧
      ((J.stop i H2 ∧ Q (.ref acc) H2) ∨ (J.go i H2 ∧ ∃ N : List V → Hp → Prop, (∀ ys' H', N ys' H' → ∃ m', m' < m ∧ W (i + 1) m' ys' H') ∧
        ∀ x H3, J.yld i H2 x H3 → g x (comp0 NL ix σ) H3 fun σ' H4 => σ'.drop NL.length = ix.map (fun j => σ.getD j none) ∧ tt σ' H4 fun b H5 =>
          if b = true then te σ' H5 fun v H6 => H6 acc = some (.lst ys) ∧ N (ys ++ [v]) (upd H6 acc (.lst (ys ++ [v]))) else N ys H5)))
    (hRR : ∀ (acc C : Addr) (H' : Hp) (s' : Shared) (m' : Str → Option Value), Inv X pins σ H' s' → s'.heap.Ns C m' → FpOk X pins H' C → Q (.ref acc) H' → RR (.ref acc) C (.ok .next) s') :
    wpAny (model X.prog X.w) X.A (newList []) (fun acc s₃ => wpAny (model X.prog X.w) X.A (newFunctionEnv scope X.env.globals cl [] X.env.qual none .none (some X.env)) (fun cenv s₄ =>
      codeAny (model X.prog X.w) X.A (.compStart (.ListComp elt [⟨tg, iter, ifs, 0⟩] scope pos) 0 (.ref it) acc { cenv with scope := relabel scope X.env }) (RR acc cenv.locals) s₄) E s₃) E s := by
  refine wpAny_newObj_type (wpAny_newFunctionEnv S.cell (by intro y hy; simp at hy) (fun h₁ hns₁ hsb₁ => ?_) S.kind)
  have I3 : Inv X pins σ (upd H s.heap.objs.size (.lst [])) { s with heap := s.heap.push { cls := .type "list", data := .seq ([] : List Value).toArray }, toks := s.toks } := I.lnew (its := []) .nil (Nat.zero_le _)
  have hfr : H s.heap.objs.size = none := I.hok.fresh (Nat.le_refl _)
  generalize hs3 : ({ s with heap := s.heap.push { cls := .type "list", data := .seq ([] : List Value).toArray }, toks := s.toks } : Shared) = s₃ at I3
  have hsz : s₃.heap.objs.size = s.heap.objs.size + 1 := by rw [← hs3]; exact Heap.size_push ..
  have old1 : ∀ b o, s.heap.get? b = some o → s₃.heap.get? b = some o := fun b o e => by rw [← hs3]; exact Heap.get?_push_of_some _ e
  have key : codeAny (model X.prog X.w) X.A (.compStart (.ListComp elt [⟨tg, iter, ifs, 0⟩] scope pos) 0 (.ref it) (.ref s.heap.objs.size) (compEnvC scope cl s₃.heap.objs.size X.env))
      (RR (.ref s.heap.objs.size) s₃.heap.objs.size) { s₃ with heap := h₁, toks := s₃.toks + 0 } := by
    have hns : h₁.Ns s₃.heap.objs.size (fun _ => none) := by
      have := hns₁
      rw [← hs3]
      exact this
    have hsb : Heap.SameBut s₃.heap.objs.size (s₃.heap.push { cls := .type "dict", data := .dict #[] }) h₁ := by
      have := hsb₁
      rw [← hs3]
      exact this
    have old : ∀ b o, s₃.heap.get? b = some o → h₁.get? b = some o := fun b o e => hsb.extBut b o (Nat.ne_of_lt (Heap.lt_size e)) (Heap.get?_push_of_some _ e)
    have hf3 : ∀ b ∈ fp, FpOk X pins (upd H s.heap.objs.size (.lst [])) b := fun b hb' => by
      obtain ⟨o, e, _⟩ := T.obj 0 _ st b hb'
      have ne : b ≠ s.heap.objs.size := Nat.ne_of_lt (Heap.lt_size e)
      exact ⟨by rw [upd_ne ne]; exact (hf b hb').1, (hf b hb').2⟩
    have ho3 : ∀ b ∈ fp, ∃ o, s₃.heap.get? b = some o := fun b hb' => by
      obtain ⟨o, e, _⟩ := T.obj 0 _ st b hb'
      exact ⟨o, old1 b o e⟩
    have st1 : tn 0 h₁ := T.keep 0 _ _ st fun b hb' o e => old b o (old1 b o e)
    have I4 := comp_inv (tn := tn) (tk := s₃.toks + 0) S I3 c1 c2 hf3 ho3 hns old
    obtain ⟨W, ⟨m0, w0⟩, turn⟩ := q s.heap.objs.size hfr
    obtain ⟨hg, ht, he⟩ := hb cl s₃.heap.objs.size s₃ (upd H s.heap.objs.size (.lst [])) fp pins
    generalize hX' : cxComp X scope NL ix cl s₃.heap.objs.size s₃ (upd H s.heap.objs.size (.lst [])) fp pins = X' at I4 hg ht he
    have p1 : X'.prog = X.prog := by rw [← hX']; rfl
    have p2 : X'.w = X.w := by rw [← hX']; rfl
    have p3 : X'.K = X.K := by rw [← hX']; rfl
    have p4 : X'.A = X.A := by rw [← hX']; rfl
    have p5 : X'.env = compEnvC scope cl s₃.heap.objs.size X.env := by rw [← hX']; rfl
    have p6 : X'.calm = true := by rw [← hX']; exact hc
    have p7 : X'.xe = fun _ _ => False := by rw [← hX']; rfl
    have stat : ∀ {H' : Hp}, (∀ b ∈ fp, H' b = none) → ∀ b ∈ fp, FpOk X' [] H' b := fun {H'} hn b hb' => by
      have z := hf3 b hb'
      obtain ⟨o, eo⟩ := ho3 b hb'
      rw [← hX']
      refine ⟨hn b hb', Nat.ne_of_lt (Heap.lt_size eo), fun q => (List.mem_cons.mp (I3.stkSub b q)).elim z.2.1 z.2.2.1, .inl hb', fun x c hx => z.2.2.2.2.1 x c (c1 x c hx), fun p hp => ?_⟩
      rcases List.mem_append.mp hp with w | w
      · exact z.2.2.2.2.2 p w
      · exact nomatch w
    have fin : ∀ i n ys H' s', Inv X' [] (comp0 NL ix σ) H' s' → W i n ys H' → Q (.ref s.heap.objs.size) H' → RR (.ref s.heap.objs.size) s₃.heap.objs.size (.ok .next) s' := fun i n ys H' s' I' w' q' => by
      obtain ⟨m', hn', _⟩ := I'.loc
      have hos : s'.os = s₃.os := by have := I'.os; rw [← hX'] at this; exact this
      have hu : Un (frs X.stack) fp (upd H s.heap.objs.size (.lst [])) H' s₃.heap s'.heap := by have := I'.base; rw [← hX'] at this; exact this
      have hk : HOk X.prog X.w H' s'.heap := by have := I'.hok; rw [← hX'] at this; exact this
      have hfC : H' s₃.heap.objs.size = none := by have := I'.free; rw [← hX'] at this; exact this
      have hnC : s'.heap.Ns s₃.heap.objs.size m' := by rw [p5] at hn'; exact hn'
      exact hRR _ _ H' s' m' (I3.call' hos hu hk I'.bare fun b hb' => ⟨(hf3 b hb').2.2.2.1, (hf3 b hb').2.1, (hf3 b hb').2.2.2.2.1, (hf3 b hb').2.2.2.2.2⟩) hnC (I3.fpOk (Nat.le_refl _) hfC) q'
    have loop : ∀ s₄ : Shared, Inv X' [] (comp0 NL ix σ) (upd H s.heap.objs.size (.lst [])) s₄ → tn 0 s₄.heap → codeAny (model X.prog X.w) X.A (.compLoop (.ListComp elt [⟨tg, iter, ifs, 0⟩] scope pos) 0 (.ref it) (.ref s.heap.objs.size) (compEnvC scope cl s₃.heap.objs.size X.env))
        (RR (.ref s.heap.objs.size) s₃.heap.objs.size) s₄ := fun s₄ I4 st1 => by
      refine codeAny_loop rfl (fun n s' => ∃ i ys H', Inv X' [] (comp0 NL ix σ) H' s' ∧ tn i s'.heap ∧ (∀ b ∈ fp, H' b = none) ∧ W i n ys H') (fun n s' hI => ?_) m0 ⟨0, [], _, I4, st1, fun b hb' => (hf3 b hb').1, w0⟩
      obtain ⟨i, ys, H', I', st', fr', w'⟩ := hI
      show wpAny _ X.A ((compTurn (.ListComp elt [⟨tg, iter, ifs, 0⟩] scope pos) 0 (.ref it) (.ref s.heap.objs.size) (compEnvC scope cl s₃.heap.objs.size X.env)).onRaise (fun x => do noteFrame x (compEnvC scope cl s₃.heap.objs.size X.env); theTreesLotGoes x)) _ _ s'
      refine wpAny_noted ?_
      rw [compTurn_list]
      obtain ⟨hacc, hz8, alt⟩ := turn i n ys H' w'
      rcases alt with ⟨stop, qn⟩ | ⟨go, N, hN, step⟩
      · have d := T.done X' p1 p2 p3 p6 i [] s' (comp0 NL ix σ) H' (notedBy (model X.prog X.w) X.A (compEnvC scope cl s₃.heap.objs.size X.env) fun e s' => RR (.ref s.heap.objs.size) s₃.heap.objs.size (.error e) s') I' (stat fr') st' stop
        rw [p4] at d
        refine wpAny_bind (wpAny_standAt (wpAny_bind (thn d fun r s1 ⟨hr, I1⟩ => ?_)))
        subst hr
        exact wpAny_pure (fin i n ys H' s1 I1 w' qn)
      · have d := T.item X' p1 p2 p3 p6 i [] s' (comp0 NL ix σ) H' (notedBy (model X.prog X.w) X.A (compEnvC scope cl s₃.heap.objs.size X.env) fun e s' => RR (.ref s.heap.objs.size) s₃.heap.objs.size (.error e) s') I' (stat fr') st' go
        rw [p4] at d
        refine wpAny_bind (wpAny_standAt (wpAny_bind (thn d fun r s1 ⟨u, hr, h4⟩ => ?_)))
        subst hr
        refine wpAny_bind (thn h4 fun _ s5 ⟨x, H5, I5, r5, y5, st5, fr5⟩ => ?_)
        have I5' := I5.pinned (stat fr5) (T.obj _ _ st5)
        have nofail : ∀ {α : Type} {t : Sem α} {R : α → Shared → Prop} {sx : Shared}, wpAny (model X'.prog X'.w) X'.A t R X'.xe sx → wpAny (model X.prog X.w) X.A t R (notedBy (model X.prog X.w) X.A (compEnvC scope cl s₃.heap.objs.size X.env) fun e s' => RR (.ref s.heap.objs.size) s₃.heap.objs.size (.error e) s') sx := fun {α t R sx} hh => by
          rw [p1, p2, p4, p7] at hh
          exact wpAny_mono hh (fun _ _ z => z) fun _ _ z => z.elim
        have again : ∀ {σ7 : St} {H7 : Hp} {s7 : Shared} {ys' : List V}, σ7.drop NL.length = ix.map (fun j => σ.getD j none) → Inv X' ([] ++ pinsAt fp s5.heap) σ7 H7 s7 → (∃ m', m' < n ∧ W (i + 1) m' ys' H7) → ∃ m, m < n ∧ ∃ i ys H', Inv X' [] (comp0 NL ix σ) H' s7 ∧ tn i s7.heap ∧ (∀ b ∈ fp, H' b = none) ∧ W i m ys H' := fun {σ7 H7 s7 ys'} hσ I7 n7 => by
          obtain ⟨m', hm, w7⟩ := n7
          have Iw : Inv X' ([] ++ pinsAt fp s5.heap) (comp0 NL ix σ) H7 s7 := I7.weak (by rw [I7.len, I'.len]) fun j v hj => by
            have hlj : NL.length ≤ j := by
              rcases Nat.lt_or_ge j NL.length with z | z
              · exfalso
                unfold comp0 at hj
                rw [List.getElem?_append_left (by simpa using z), List.getElem?_map] at hj
                cases q : NL[j]? with
                | none => rw [q] at hj; cases hj
                | some y => rw [q] at hj; cases hj
              · exact z
            unfold comp0 at hj
            rw [List.getElem?_append_right (by simpa using hlj), List.length_map, ← hσ, List.getElem?_drop] at hj
            rw [← hj]
            congr 1
            omega
          refine ⟨m', hm, i + 1, ys', H7, Iw.unpinned, T.keep _ _ _ st5 fun b hb' o e => (I7.pin (b, o) (List.mem_append_right _ (List.mem_append_right _ (mem_pinsAt hb' e)))).1, fun b hb' => ?_, w7⟩
          obtain ⟨o, e, d⟩ := T.obj _ _ st5 b hb'
          exact (I7.pin (b, o) (List.mem_append_right _ (List.mem_append_right _ (mem_pinsAt hb' e)))).2.1
        have hg' := nofail (hg _ s5 (comp0 NL ix σ) H5 x u _ I5' r5 (step x H5 y5))
        rw [p5] at hg'
        refine wpAny_bind (thn hg' fun _ s6 ⟨σ6, H6, I6, hσ6, q6⟩ => ?_)
        have ht' := nofail (ht _ s6 σ6 H6 _ I6 q6)
        rw [p5] at ht'
        refine wpAny_bind (thn ht' fun ok s7 ⟨H7, I7, q7⟩ => ?_)
        cases ok with
        | false =>
          have q7' : N ys H7 := by simpa using q7
          exact wpAny_pure ⟨rfl, again hσ6 I7 (hN _ _ q7')⟩
        | true =>
          have q7' := (if_pos rfl).mp q7
          have he' := nofail (he _ s7 σ6 H7 _ I7 q7')
          rw [p5] at he'
          refine wpAny_bind (wpAny_bind (thn he' fun v s8 ⟨y, H8, I8, r8, ha8, q8⟩ => ?_))
          have ap := nofail (mt_append _ s8 σ6 H8 (.ref s.heap.objs.size) [y] (.ref s.heap.objs.size) [v] (fun _ H9 => H9 = upd H8 s.heap.objs.size (.lst (ys ++ [y]))) I8 rfl (.cons r8 .nil) ⟨_, ys, y, rfl, rfl, ha8, hz8, rfl⟩)
          refine wpAny_bind (thn ap fun _ s9 ⟨z, H9, I9, r9, e9⟩ => wpAny_pure (wpAny_pure ⟨rfl, ?_⟩))
          subst e9
          exact again hσ6 I9 (hN _ _ q8)
    exact codeAny_compStart_list (loop _ I4 st1) (T.self X.A 0 _ _ _ st1 (loop _ I4 st1))
  exact key

/-- [elt for target in iter if ..] -/
theorem pe_comp {scope : Scope} {NL : List Str} {ix : List Nat} {elt tg iter : Expr} {ifs : List Expr} {pos : Pos} {wi : TI} {g : TG} {tt : TT} {te : TE}
    (hc : X.calm = true) (hi : PI X tg iter wi) (S : CompScope X scope NL ix)
    (hb : ∀ (cl : List (Str × Addr)) (C : Addr) (s₃ : Shared) (H₃ : Hp) (fp : List Addr) (pins : List (Addr × Obj)), PG (cxComp X scope NL ix cl C s₃ H₃ fp pins) tg g ∧ PIfs (cxComp X scope NL ix cl C s₃ H₃ fp pins) ifs tt ∧ PE (cxComp X scope NL ix cl C s₃ H₃ fp pins) elt te)
    (hs : ∀ x, foldedSetIterable iter X.env x = pure x := by intro _; rfl) : PE X (.ListComp elt [⟨tg, iter, ifs, 0⟩] scope pos) (tComp NL ix wi g tt te) := by
  intro pins s σ H Q I h
  obtain ⟨cl, hcl, c1, c2⟩ := closure_ok (scope := scope) (env := X.env) fun x hx => by
    rcases S.free _ hx rfl with z | z
    · exact I.ok.has x (.inl z)
    · exact I.ok.has x (.inr z)
  rw [eval_ListComp]
  refine wpAny_comprehension_free (use := none) rfl hs hcl S.kind S.names (thn (hi pins s σ H _ I h) fun xv s1 h1 => thn h1 fun itv s2 h2 => ?_)
  obtain ⟨it, fp, tn, J, H2, rfl, I2, T, st2, f2, q⟩ := h2
  refine comp_run (RR := fun acc C => compPost (model X.prog X.w) X.A X.xe none (EP X pins σ Q) acc C) hc S c1 c2 hb I2 T st2 f2 q ?_
  intro acc C H' s' m' I' hn fC q'
  refine ⟨m', hn, fun h' sb => ⟨.ref acc, H', ?_, rfl, q'⟩⟩
  exact I'.turned (t' := s'.toks) (fun b o hb e => sb.extBut b o hb e) fC.1 fC.2.1 fC.2.2.2.1 fC.2.2.2.2.1 fC.2.2.2.2.2

/-- name = [elt for target in iter if ..]: the store is done within -/
theorem ps_comp {i : Nat} {y : Str} {py spos : Pos} {scope : Scope} {NL : List Str} {ix : List Nat} {elt tg iter : Expr} {ifs : List Expr} {pos : Pos} {wi : TI} {g : TG} {tt : TT} {te : TE}
    (hN : X.N.Nodup) (hiy : X.N[i]? = some y) (hy : Loc X.env.scope y)
    (hc : X.calm = true) (hi : PI X tg iter wi) (S : CompScope X scope NL ix)
    (hb : ∀ (cl : List (Str × Addr)) (C : Addr) (s₃ : Shared) (H₃ : Hp) (fp : List Addr) (pins : List (Addr × Obj)), PG (cxComp X scope NL ix cl C s₃ H₃ fp pins) tg g ∧ PIfs (cxComp X scope NL ix cl C s₃ H₃ fp pins) ifs tt ∧ PE (cxComp X scope NL ix cl C s₃ H₃ fp pins) elt te)
    (hsw : swapsWith (.ListComp elt [⟨tg, iter, ifs, 0⟩] scope pos) (some (.Name y py)) spos.line X.env = pure true := by rfl)
    (hs : ∀ x, foldedSetIterable iter X.env x = pure x := by intro _; rfl)
    (hf : X.fn y = true ∨ X.env.scope.names.lookup y = some .local := by first | exact .inl rfl | exact .inr rfl | assumption) :
    PS X (.Assign [.Name y py] (.ListComp elt [⟨tg, iter, ifs, 0⟩] scope pos) spos) (tAsg (tComp NL ix wi g tt te) (gName i)) := by
  intro pins s σ H D I h
  obtain ⟨cl, hcl, c1, c2⟩ := closure_ok (scope := scope) (env := X.env) fun x hx => by
    rcases S.free _ hx rfl with z | z
    · exact I.ok.has x (.inl z)
    · exact I.ok.has x (.inr z)
  rw [exec_Assign_Name_used _ _ _ _ hsw]
  refine wpAny_bind (wpAny_standAt (wpAny_bind ?_))
  show wpAny _ X.A (do let _ ← comprehension (.ListComp elt [⟨tg, iter, ifs, 0⟩] scope pos) scope X.env _ (newList []) false (eval iter X.env) (some (assign (.Name y py) X.env))) _ _ s
  refine wpAny_bind (thn (wpAny_comprehension_free (use := some (assign (.Name y py) X.env)) (Q := fun _ s' => SP X pins D .next s') rfl hs hcl S.kind S.names
    (thn (hi pins s σ H _ I h) fun xv s1 h1 => thn h1 fun itv s2 h2 => ?_)) fun _ s' hq => wpAny_pure (wpAny_pure hq))
  obtain ⟨it, fp, tn, J, H2, rfl, I2, T, st2, f2, q⟩ := h2
  refine comp_run (RR := fun acc C => compPost (model X.prog X.w) X.A X.xe (some (assign (.Name y py) X.env)) (fun _ s' => SP X pins D .next s') acc C) (Q := fun x H1 => gName i x σ H1 D.nx) hc S c1 c2 hb I2 T st2 f2 q ?_
  intro acc C H' s' m' I' hn fC q'
  show wpAny _ X.A (assign (.Name y py) X.env (.ref acc)) _ _ _
  refine wpAny_assign_Name (store_ok2 I' hN hiy hy (v := .ref acc) rfl (fun s'' I'' hsb => ?_) hf)
  obtain ⟨a, sb, ha⟩ := hsb
  have hne : C ≠ a := by
    rcases ha with z | z
    · rw [z]; exact fC.2.1
    · exact fun w => fC.2.2.2.2.1 y a z w.symm
  refine ⟨m', hn.sameBut sb hne, fun h' sb' => ⟨_, H', ?_, q'⟩⟩
  exact I''.turned (t' := s''.toks) (fun b o hb e => sb'.extBut b o hb e) fC.1 fC.2.1 fC.2.2.2.1 fC.2.2.2.2.1 fC.2.2.2.2.2
/-- a comprehension of n turns, by what holds between two of them -/
theorem comp_by {J : It} {NL : List Str} {ix : List Nat} {g : TG} {tt : TT} {te : TE} {σ : St} {H1 : Hp} {Qs : Hp → Prop} {acc : Addr} (n : Nat) (hn : n < 1000) (Pv : Nat → List V → Hp → Prop)
    (hacc : ∀ i ys H2, Pv i ys H2 → H2 acc = some (.lst ys) ∧ ys.length ≤ i) (h0 : Pv 0 [] (upd H1 acc (.lst []))) (hstop : ∀ ys H2, Pv n ys H2 → J.stop n H2 ∧ Qs H2)
    (hturn : ∀ i ys H2, i < n → Pv i ys H2 → J.go i H2 ∧ ∀ x H3, J.yld i H2 x H3 → g x (comp0 NL ix σ) H3 fun σ' H4 => σ'.drop NL.length = ix.map (fun j => σ.getD j none) ∧ tt σ' H4 fun b H5 =>
      if b = true then te σ' H5 fun v H6 => H6 acc = some (.lst ys) ∧ Pv (i + 1) (ys ++ [v]) (upd H6 acc (.lst (ys ++ [v]))) else Pv (i + 1) ys H5) :
    ∃ W : Nat → Nat → List V → Hp → Prop, (∃ m, W 0 m [] (upd H1 acc (.lst []))) ∧
    ∀ i m ys H2, W i m ys H2 → H2 acc = some (.lst ys) ∧ ys.length < sizeLine ∧
      ((J.stop i H2 ∧ Qs H2) ∨ (J.go i H2 ∧ ∃ N : List V → Hp → Prop, (∀ ys' H', N ys' H' → ∃ m', m' < m ∧ W (i + 1) m' ys' H') ∧
        ∀ x H3, J.yld i H2 x H3 → g x (comp0 NL ix σ) H3 fun σ' H4 => σ'.drop NL.length = ix.map (fun j => σ.getD j none) ∧ tt σ' H4 fun b H5 =>
          if b = true then te σ' H5 fun v H6 => H6 acc = some (.lst ys) ∧ N (ys ++ [v]) (upd H6 acc (.lst (ys ++ [v]))) else N ys H5)) := by
  refine ⟨fun i m ys H2 => i ≤ n ∧ m = n - i ∧ Pv i ys H2, ⟨n, Nat.zero_le _, rfl, h0⟩, fun i m ys H2 ⟨hi, hm, hp⟩ => ?_⟩
  obtain ⟨a1, a2⟩ := hacc i ys H2 hp
  refine ⟨a1, small1000 (by omega), ?_⟩
  rcases Nat.lt_or_ge i n with lt | ge
  · obtain ⟨go, tn⟩ := hturn i ys H2 lt hp
    exact .inr ⟨go, Pv (i + 1), fun ys' H' hN => ⟨n - (i + 1), by omega, by omega, rfl, hN⟩, tn⟩
  · have e : i = n := by omega
    subst e
    exact .inl (hstop ys H2 hp)
end
end L2


set_option Elab.async false
set_option linter.all false
set_option maxRecDepth 100000
set_option maxHeartbeats 4000000
/-! what is walked: a text's signs, zip, enumerate; slices of texts; isinstance -/
namespace L2
open PySem PySem.Spec PyProof.Rows

section
variable {prog : Program} {w : World} {A : Around} {E : Value → Shared → Prop} {s : Shared}
theorem nextOf_tuple_item {it t : Addr} {i : Nat} {items : Array Value} {x : Value} {Q : Value → Shared → Prop} (hit : s.heap.IsTupleIter it t i)
    (ht : s.heap.IsTuple t items) (hx : items[i]? = some x)
    (hQ : ∀ h', h'.IsTupleIter it t (i + 1) → Heap.SameBut it s.heap h' → Q x { s with heap := h' }) :
    wpAny (model prog w) A (Builtin.SmallTypes.nextOf (.ref it)) Q E s := by
  obtain ⟨o, ho, hc, hd⟩ := id hit
  obtain ⟨ol, hol, _, nl, hdl⟩ := ht
  unfold Builtin.SmallTypes.nextOf
  refine wpAny_bind (wpAny_callSpecial?_slot (name := Str.ofString "__next__") hit.typeIs F.slot_tuple_iterator_next
    (wpAny_call_entry F.slot_tuple_iterator_next hit.typeIs F.entry_tuple_iterator_next ?_ (F.args_tuple_iterator_next_1 _)))
  show wpAny _ _ (field (.ref it) 0 >>= _) _ _ s
  refine wpAny_bind (wpAny_field ho hd (x := .ref t) rfl ?_)
  show wpAny _ _ (if (Value.ref t == Value.none) = true then _ else _) _ _ s
  rw [if_neg (show ¬ ((Value.ref t == Value.none) = true) from Bool.false_ne_true)]
  show wpAny _ _ (field (.ref it) 1 >>= _) _ _ s
  refine wpAny_bind (wpAny_field ho hd (x := .int i 0) rfl ?_)
  show wpAny _ _ (seqItems? (.ref t) >>= _) _ _ s
  refine wpAny_bind (wpAny_seqItems hol hdl ?_)
  simp only [Int.toNat_natCast, hx]
  refine wpAny_bind (wpAny_setField ho hd (by simp) (wpAny_pure ⟨x, rfl, wpAny_pure (hQ _ ?_ (Heap.SameBut.update ..))⟩))
  exact ⟨_, Heap.get?_update_self _ ho (Obj.isFreed_of_fields (Obj.data_mapFields hd _)), (Obj.cls_mapFields ..).trans hc, by
    rw [Obj.data_mapFields hd]; simp [rawInt]⟩
theorem nextOf_tuple_end {it t : Addr} {i : Nat} {items : Array Value} {Q : Value → Shared → Prop} (hh : A.handled = none)
    (hit : s.heap.IsTupleIter it t i) (ht : s.heap.IsTuple t items) (hx : items[i]? = none)
    (hE : ∀ h' e, Heap.ExtBut it s.heap h' → (∃ o, h'.get? e = some o ∧ o.cls = .type "StopIteration") → E (.ref e) { s with heap := h' }) :
    wpAny (model prog w) A (Builtin.SmallTypes.nextOf (.ref it)) Q E s := by
  obtain ⟨o, ho, hc, hd⟩ := id hit
  obtain ⟨ol, hol, _, nl, hdl⟩ := ht
  unfold Builtin.SmallTypes.nextOf
  refine wpAny_bind (wpAny_callSpecial?_slot (name := Str.ofString "__next__") hit.typeIs F.slot_tuple_iterator_next
    (wpAny_call_entry F.slot_tuple_iterator_next hit.typeIs F.entry_tuple_iterator_next ?_ (F.args_tuple_iterator_next_1 _)))
  show wpAny _ _ (field (.ref it) 0 >>= _) _ _ s
  refine wpAny_bind (wpAny_field ho hd (x := .ref t) rfl ?_)
  show wpAny _ _ (if (Value.ref t == Value.none) = true then _ else _) _ _ s
  rw [if_neg (show ¬ ((Value.ref t == Value.none) = true) from Bool.false_ne_true)]
  show wpAny _ _ (field (.ref it) 1 >>= _) _ _ s
  refine wpAny_bind (wpAny_field ho hd (x := .int i 0) rfl ?_)
  show wpAny _ _ (seqItems? (.ref t) >>= _) _ _ s
  refine wpAny_bind (wpAny_seqItems hol hdl ?_)
  simp only [Int.toNat_natCast, hx]
  refine wpAny_bind (wpAny_rule (wpAny_bind (wpAny_setField ho hd (by simp) ?_)))
  show wpAny _ _ (newExc (.type "StopIteration") [] >>= _) _ _ _
  refine wpAny_bind ?_
  simp only [newExc, newTuple]
  refine wpAny_bind (wpAny_newObj_type ?_ (by size_fits))
  refine wpAny_bind (m := firstArgMember _ _) (wpAny_of_eq (a := Value.none) (by first | rfl | (simp only [firstArgMember]; rfl)) ?_)
  refine wpAny_newObj_type ?_ (by size_fits)
  simp only [raiseNew]
  refine wpAny_bind (wpAny_handled ?_)
  first | rw [show A.in1.handled = none from hh] | rw [hh]
  refine wpAny_bind (wpAny_pure (wpAny_throw ?_))
  exact hE _ _ (((Heap.SameBut.update ..).extBut.push _).push _) ⟨_, Heap.get?_push_size _ rfl, rfl⟩
end
theorem draws_tuple {prog : Program} {w : World} {A : Around} (hh : A.handled = none) (it l : Addr) (hne : l ≠ it) (items : Array Value) :
    Draws prog w A it [it, l] items.size (fun i v => items[i]? = some v) (fun i h => h.IsTupleIter it l i ∧ h.IsTuple l items) where
  live := fun _ _ st => let ⟨o, ho, _⟩ := st.1; ⟨o, ho⟩
  frame := fun _ _ _ st hk => ⟨st.1.at fun o e => hk it (by simp) o e, let ⟨o, ho, r⟩ := st.2; ⟨o, hk l (by simp) o ho, r⟩⟩
  item := fun i s Q E hi st hQ => by
    refine nextOf_tuple_item st.1 st.2 (x := items[i]) (by simp [hi]) fun h' hit' hs' => ?_
    exact hQ _ h' s.toks (by simp [hi]) ⟨hit', st.2.extBut hs'.extBut hne⟩ hs'
  done := fun s Q E st hE => nextOf_tuple_end hh st.1 st.2 (by simp) hE
theorem draws_str {prog : Program} {w : World} {A : Around} (hh : A.handled = none) (it : Addr) (x : Str) (t : Tok) :
    Draws prog w A it [it] x.cps.size (fun i v => ∃ c u, x.cps[i]? = some c ∧ v = .str ⟨#[c]⟩ u) (fun i h => h.IsStrIter it (strIterType x) x t i) := by
  unfold strIterType
  cases x.cps.all (· < 128) with
  | true => exact Draws.strAscii hh it x t
  | false => exact Draws.strWide hh it x t

/-- what may be walked within zip and enumerate: a list, a tuple, a text -/
inductive SK where
  | lst (a : Addr) | tup (a : Addr) | str (x : Str)
def SK.val : SK → V
  | .lst a => .ref a
  | .tup a => .ref a
  | .str x => .str x
def signs (x : Str) : List V := x.cps.toList.map fun c => .str ⟨#[c]⟩
def SK.has (H : Hp) : SK → List V → Prop
  | .lst a, xs => Rd H a (.lst xs)
  | .tup a, xs => Rd H a (.tup xs)
  | .str x, xs => xs = signs x
/-- its iterator's record -/
def SK.own (it : Addr) (k : Nat) (h : Heap) : SK → Prop
  | .lst a => h.IsListIter it a k
  | .tup a => h.IsTupleIter it a k
  | .str x => ∃ t, h.IsStrIter it (strIterType x) x t k
theorem SK.own_at {it : Addr} {k : Nat} {h h' : Heap} {κ : SK} (x : κ.own it k h) (e : ∀ o, h.get? it = some o → h'.get? it = some o) : κ.own it k h' := by
  cases κ with
  | lst a => exact Heap.IsListIter.at x e
  | tup a => exact Heap.IsTupleIter.at x e
  | str y => obtain ⟨t, o, ho, r⟩ := x; exact ⟨t, o, e o ho, r⟩
theorem SK.own_obj {it : Addr} {k : Nat} {h : Heap} {κ : SK} (x : κ.own it k h) : ∃ o, h.get? it = some o ∧ (∀ v, o.data ≠ .cell v) ∧ o.cls ≠ .type "tuple" ∧ o.cls ≠ .type "zip" ∧ o.cls ≠ .type "enumerate" := by
  cases κ with
  | lst a => obtain ⟨o, ho, c, d⟩ := x; exact ⟨o, ho, (fun v z => by rw [d] at z; cases z), (fun z => by rw [c] at z; simp at z), (fun z => by rw [c] at z; simp at z), (fun z => by rw [c] at z; simp at z)⟩
  | tup a => obtain ⟨o, ho, c, d⟩ := x; exact ⟨o, ho, (fun v z => by rw [d] at z; cases z), (fun z => by rw [c] at z; simp at z), (fun z => by rw [c] at z; simp at z), (fun z => by rw [c] at z; simp at z)⟩
  | str y =>
    obtain ⟨t, o, ho, c, d⟩ := x
    refine ⟨o, ho, (fun v z => by rw [d] at z; cases z), ?_, ?_, ?_⟩ <;>
    · intro z
      rw [c] at z
      unfold strIterType at z
      split at z <;> simp at z
theorem Rd.inj {H : Hp} {a : Addr} {u v : HO} (hu : ∀ o w, u ≠ .frz o w) (hv : ∀ o w, v ≠ .frz o w) (x : Rd H a u) (y : Rd H a v) : u = v := by
  rcases x with x | ⟨o, x⟩ <;> rcases y with y | ⟨p, y⟩ <;> rw [x] at y
  · exact Option.some.inj y
  · exact absurd (Option.some.inj y) (hu p v)
  · exact absurd (Option.some.inj y).symm (hv o u)
  · have := Option.some.inj y
    injection this
theorem SK.inj {H : Hp} {κ : SK} {xs ys : List V} (x : κ.has H xs) (y : κ.has H ys) : xs = ys := by
  cases κ with
  | lst a => have := Rd.inj (u := .lst xs) (v := .lst ys) (fun _ _ z => nomatch z) (fun _ _ z => nomatch z) x y; injection this
  | tup a => have := Rd.inj (u := .tup xs) (v := .tup ys) (fun _ _ z => nomatch z) (fun _ _ z => nomatch z) x y; injection this
  | str z => exact Eq.trans x (Eq.symm y)

/-- what stays apart from all records: the container -/
def SK.box : SK → List Addr
  | .lst a => [a]
  | .tup a => [a]
  | .str _ => []
theorem SK.box_some {H : Hp} {κ : SK} {xs : List V} (x : κ.has H xs) {b : Addr} (hb : b ∈ κ.box) : H b ≠ none := by
  cases κ with
  | lst a => have e : b = a := by simpa [SK.box] using hb
             subst e; intro z; rcases x with q | ⟨o, q⟩ <;> (rw [z] at q; cases q)
  | tup a => have e : b = a := by simpa [SK.box] using hb
             subst e; intro z; rcases x with q | ⟨o, q⟩ <;> (rw [z] at q; cases q)
  | str z => simp [SK.box] at hb

section
variable {X : Cx} {pins : List (Addr × Obj)} {σ : St} {H : Hp} {s : Shared}
theorem sk_draws {κ : SK} {it : Addr} {k : Nat} {xs : List V} {A : Around} (I : Inv X pins σ H s) (hv : κ.has H xs) (hit : κ.own it k s.heap) (hn : H it = none) (hh : A.handled = none) :
    ∃ (P : Nat → Value → Prop) (St : Nat → Heap → Prop), Draws X.prog X.w A it (it :: κ.box) xs.length P St ∧ St k s.heap ∧ (∀ i u, P i u → ∃ x, xs[i]? = some x ∧ RelV x u) ∧ (∀ i h, St i h → κ.own it i h) := by
  have ne : ∀ b ∈ κ.box, b ≠ it := fun b hb z => SK.box_some hv hb (by rw [z]; exact hn)
  cases κ with
  | lst a =>
    obtain ⟨_, its, n, r, e⟩ := Rd.ok hv I.hok
    have hl : s.heap.IsList a its.toArray := ⟨_, e, rfl, n, rfl⟩
    have D := Draws.list (prog := X.prog) (w := X.w) hh it a (ne a (by simp [SK.box])) its.toArray
    rw [List.size_toArray, ← r.length] at D
    refine ⟨_, _, D, ⟨hit, hl⟩, fun i u hu => ?_, fun i h st => st.1⟩
    · have hu' : its[i]? = some u := by simpa using hu
      have hlt : i < xs.length := by rw [r.length]; exact (List.getElem?_eq_some_iff.mp hu').1
      obtain ⟨u', e1, e2⟩ := r.get (List.getElem?_eq_getElem hlt)
      rw [hu'] at e1; cases e1
      exact ⟨_, List.getElem?_eq_getElem hlt, e2⟩
  | tup a =>
    obtain ⟨_, its, r, ht⟩ := Rd.ok hv I.hok
    have hl : s.heap.IsTuple a its.toArray := ht
    have D := draws_tuple (prog := X.prog) (w := X.w) hh it a (ne a (by simp [SK.box])) its.toArray
    rw [List.size_toArray, ← r.length] at D
    refine ⟨_, _, D, ⟨hit, hl⟩, fun i u hu => ?_, fun i h st => st.1⟩
    · have hu' : its[i]? = some u := by simpa using hu
      have hlt : i < xs.length := by rw [r.length]; exact (List.getElem?_eq_some_iff.mp hu').1
      obtain ⟨u', e1, e2⟩ := r.get (List.getElem?_eq_getElem hlt)
      rw [hu'] at e1; cases e1
      exact ⟨_, List.getElem?_eq_getElem hlt, e2⟩
  | str z =>
    obtain ⟨t, hit⟩ := hit
    have hv' : xs = signs z := hv
    subst hv'
    have D := draws_str (prog := X.prog) (w := X.w) hh it z t
    have e : (signs z).length = z.cps.size := by simp [signs]
    rw [← e] at D
    refine ⟨_, _, D, hit, fun i u hu => ?_, fun i h st => ⟨t, st⟩⟩
    · obtain ⟨c, u', hc, rfl⟩ := hu
      refine ⟨.str ⟨#[c]⟩, ?_, ⟨u', rfl⟩⟩
      simp only [signs, List.getElem?_map, Array.getElem?_toList, hc, Option.map_some]

/-- the records at ch have turned, a new object is laid and tracked -/
theorem Inv.turnedNew {ch : List Addr} {p : Addr} {o : HO} {h' : Heap} {tk : Nat} (I : Inv X pins σ H s)
    (hch : ∀ b ∈ ch, FpOk X pins H b) (k : ∀ b ob, b ∉ ch → s.heap.get? b = some ob → h'.get? b = some ob) (hp : s.heap.objs.size ≤ p) (new : ObjOk X.prog X.w (upd H p o) h' p o) :
    Inv X pins σ (upd H p o) { s with heap := h', toks := tk } := by
  have hn : H p = none := I.hok.fresh hp
  refine I.call (g' := s.gens) (d' := s.drawn) (ch := ch) ⟨fun b u q _ _ hx => k b u hx q, fun b u q _ _ hx => ⟨u.slots, k b u hx q⟩, fun b u q n _ => ?_, fun b u q hx => ⟨u, k b u hx q⟩, fun b xs q => ?_, fun b u xs q => ?_, fun b ps q => ⟨#[], ?_⟩⟩ (fun b u e => ?_) I.bare
    fun b hb => ⟨(hch b hb).2.2.2.1, (hch b hb).2.1, (hch b hb).2.2.2.2.1, (hch b hb).2.2.2.2.2⟩
  · rw [upd_ne (Nat.ne_of_lt (Nat.lt_of_lt_of_le (Heap.lt_size q) hp))]; exact n
  · rw [upd_ne (ne_of_none q hn)]; exact q
  · rw [upd_ne (ne_of_none q hn)]; exact q
  · rw [upd_ne (ne_of_none q hn), q]; simp
  · by_cases hb : b = p
    · subst hb; rw [upd_same] at e; cases e; exact new
    · rw [upd_ne hb] at e
      refine (I.hok b u e).stay (fun c v hc q => k c v (fun hm => ?_) q) (fun c q => by rw [upd_ne (ne_of_none q hn)]; exact q) fun c xs q => by rw [upd_ne (ne_of_none q hn)]; exact q
      have z := (hch c hm).1
      rcases hc with hc | hc
      · rw [hc, e] at z; cases z
      · rw [hc] at z; cases z
theorem Inv.turnedMany {ch : List Addr} {h' : Heap} {tk : Nat} (I : Inv X pins σ H s)
    (hch : ∀ b ∈ ch, FpOk X pins H b) (k : ∀ b ob, b ∉ ch → s.heap.get? b = some ob → h'.get? b = some ob) : Inv X pins σ H { s with heap := h', toks := tk } := by
  refine I.call (g' := s.gens) (d' := s.drawn) (ch := ch) ⟨fun b u q _ _ hx => k b u hx q, fun b u q _ _ hx => ⟨u.slots, k b u hx q⟩, fun b u q n _ => n, fun b u q hx => ⟨u, k b u hx q⟩, fun b xs q => q, fun b u xs q => q, fun b ps q => ⟨#[], by rw [q]; simp⟩⟩ (fun b u e => ?_) I.bare
    fun b hb => ⟨(hch b hb).2.2.2.1, (hch b hb).2.1, (hch b hb).2.2.2.2.1, (hch b hb).2.2.2.2.2⟩
  refine (I.hok b u e).stay (fun c v hc q => k c v (fun hm => ?_) q) (fun _ q => q) fun _ _ q => q
  have z := (hch c hm).1
  rcases hc with hc | hc
  · rw [hc, e] at z; cases z
  · rw [hc] at z; cases z
end

/-! ### enumerate -/
def Ite (κ : SK) : It :=
  ⟨fun i H => ∃ xs x, κ.has H xs ∧ xs[i]? = some x, fun i H v H' => ∃ p x, v = .ref p ∧ H p = none ∧ H' = upd H p (.tup [.int i, x]) ∧ ∀ xs, κ.has H xs → xs[i]? = some x, fun i H => ∃ xs, κ.has H xs ∧ xs.length = i⟩
theorem turn_enum {P : Program} {w : World} {K : PySem.W.Frag} {elts : List Expr} {x1 : Nat} {tpos : Pos} (κ : SK) (e it : Addr) (hei : e ≠ it) :
    Turn P w K (.Tuple elts x1 tpos) (Ite κ) [e, it] e (fun i h => (∃ old, IsEnum h e it i old) ∧ κ.own it i h) where
  mem := by simp
  obj := fun i h st b hb => by
    obtain ⟨⟨old, he⟩, ho⟩ := st
    simp only [List.mem_cons, List.not_mem_nil, or_false] at hb
    rcases hb with rfl | rfl
    · exact ⟨_, he, fun v z => by
        have z' : Data.fields _ = Data.cell v := z
        cases z'⟩
    · obtain ⟨o, h1, h2, _⟩ := SK.own_obj ho
      exact ⟨o, h1, h2⟩
  keep := fun i h h' st k => by
    obtain ⟨⟨old, he⟩, ho⟩ := st
    exact ⟨⟨old, k e (by simp) _ he⟩, SK.own_at ho fun o q => k it (by simp) o q⟩
  item := by
    intro X hP hw hK hc i pins s σ H E I hf st hg
    subst hP hw hK
    obtain ⟨⟨old, he⟩, ho⟩ := st
    obtain ⟨xs, x, hx, hxi⟩ := hg
    have hlt : i < xs.length := (List.getElem?_eq_some_iff.mp hxi).1
    have hh : X.A.in1.handled = none := I.ok.hd hc
    obtain ⟨Pp, St, D, hst, hrel, hown⟩ := sk_draws (A := X.A.in1) I hx ho (hf it (by simp)).1 hh
    have hef : e ∉ it :: κ.box := fun z => by
      rcases List.mem_cons.mp z with z | z
      · exact hei z
      · exact SK.box_some hx z (hf e (by simp)).1
    refine wpAny_pyNext_enum_itemD D he hst hlt hei hef fun y h' tk hy ho' hst' hT hsz hk => ⟨_, rfl, ?_⟩
    refine wpAny_letOwnedTupleGo_enum ho' fun h'' he'' hs'' => ?_
    obtain ⟨x', hx', rx⟩ := hrel i y hy
    have exx : x' = x := Option.some.inj (hx'.symm.trans hxi)
    subst exx
    have kk : ∀ b ob, b ∉ [e, it] → s.heap.get? b = some ob → h''.get? b = some ob := fun b ob hb q =>
      (hs''.2 b (fun z => hb (by simp [z]))).trans (hk b ob (fun z => hb (by simp [z])) (fun z => hb (by simp [z])) q)
    have ne : s.heap.objs.size ≠ e := Nat.ne_of_gt (Heap.lt_size he)
    have hT' : h''.get? s.heap.objs.size = some { cls := .type "tuple", data := .seq #[.int i tk, y] } := (hs''.2 _ ne).trans hT
    refine ⟨.ref s.heap.objs.size, upd H s.heap.objs.size (.tup [.int i, x']), I.turnedNew (tk := tk + 1) hf kk (Nat.le_refl _) ⟨⟨(by show 2 ≤ sizeLine; decide), _, hT', rfl⟩, [.int i tk, y], .cons ⟨tk, rfl⟩ (.cons rx .nil), _, hT', rfl, 0, rfl⟩, rfl,
      ⟨_, x', rfl, I.hok.fresh (Nat.le_refl _), rfl, fun ys hy' => by rw [SK.inj hy' hx]; exact hxi⟩, ⟨⟨y, by simpa using he''⟩, SK.own_at (hown _ _ hst') fun o q => (hs''.2 it (Ne.symm hei)).trans q⟩, fun b hb => ?_⟩
    obtain ⟨o, hob, _⟩ : ∃ o, s.heap.get? b = some o ∧ True := by
      simp only [List.mem_cons, List.not_mem_nil, or_false] at hb
      rcases hb with rfl | rfl
      · exact ⟨_, he, trivial⟩
      · obtain ⟨o, h1, _⟩ := SK.own_obj ho; exact ⟨o, h1, trivial⟩
    rw [upd_ne (Nat.ne_of_lt (Heap.lt_size hob))]
    exact (hf b hb).1
  done := by
    intro X hP hw hK hc i pins s σ H E I hf st hg
    subst hP hw hK
    obtain ⟨⟨old, he⟩, ho⟩ := st
    obtain ⟨xs, hx, hlen⟩ := hg
    have hh : X.A.in1.handled = none := I.ok.hd hc
    obtain ⟨Pp, St, D, hst, hrel, hown⟩ := sk_draws (A := X.A.in1) I hx ho (hf it (by simp)).1 hh
    have hst' : St xs.length s.heap := by rw [hlen]; exact hst
    refine wpAny_pyNext_enum_endD D he hst' fun h' hx' => ⟨rfl, ?_⟩
    have f := hf it (by simp)
    exact I.turned (t' := s.toks) (fun b o hb q => hx' b o hb q) f.1 f.2.1 f.2.2.2.1 f.2.2.2.2.1 f.2.2.2.2.2
  self := fun _ _ _ _ _ st h => let ⟨⟨_, he⟩, _⟩ := st; wpAny_pyIter_enum he h
open AutoSeq1 (wpAny_loadPart') in
set_option maxHeartbeats 4000000 in
theorem meets_enumerate_newT (l : Addr) (items : Array Value) (n : Nat) (dct : Option Addr) (sl : Array (Option Value)) :
    Meets (Builtin.«enumerate.__new__» ⟨[.type "enumerate", .ref l], []⟩) (fun _ R s => s.heap.get? l = some { cls := .type "tuple", dict := dct, data := .seq items n, slots := sl } ∧
      R (.ok (.ret (.ref (s.heap.push { cls := .type "tuple_iterator", data := .fields #[.ref l, .int 0 0] }).objs.size)))
        { s with heap := (s.heap.push { cls := .type "tuple_iterator", data := .fields #[.ref l, .int 0 0] }).push { cls := .type "enumerate", data := .fields #[.none, .bool false, .ref s.heap.objs.size, rawInt 0, .none, .none] } }) :=
  .of_wp fun prog w A R s h => by
    obtain ⟨hp, g, d, tk, os⟩ := s; obtain ⟨hl, h⟩ := h
    have hsub := sub_enumerate
    have hL : Heap.IsTuple (Shared.heap ⟨hp, g, d, tk, os⟩) l items := ⟨_, hl, rfl, n, rfl⟩
    wp_walk using wpAny_loadPart' hl
    refine wpAny_stack_any fun st => wpAny_pure ?_
    split
    · rename_i c _ _ _ _ _
      cases (c == Value.type "enumerate")
      · wp_walk using wpAny_loadPart' hl, wpAny_pyIter_tuple hL
        exact ⟨_, rfl, h⟩
      · wp_walk using wpAny_loadPart' hl, wpAny_pyIter_tuple hL
        exact ⟨_, rfl, h⟩
    · wp_walk using wpAny_loadPart' hl, wpAny_pyIter_tuple hL
      exact ⟨_, rfl, h⟩
theorem call_enumerate_tuple {prog : Program} {w : World} {A : Around} {E : Value → Shared → Prop} {s : Shared} {l : Addr} {items : Array Value} {Q : Value → Shared → Prop} (hL : s.heap.IsTuple l items)
    (h : ∀ h', IsEnum h' (s.heap.objs.size + 1) s.heap.objs.size 0 .none → h'.IsTupleIter s.heap.objs.size l 0 → h'.objs.size = s.heap.objs.size + 2 →
      (∀ b o, s.heap.get? b = some o → h'.get? b = some o) → Q (.ref (s.heap.objs.size + 1)) { s with heap := h' }) :
    wpAny (model prog w) A (call (.type "enumerate") [.ref l]) Q E s := by
  obtain ⟨⟨c, dct, dt, sl⟩, hl, hc, n, hd⟩ := hL
  replace hc : c = .type "tuple" := hc
  replace hd : dt = .seq items n := hd
  subst hc hd
  refine callType_new F.called_enumerate (by decide) (F.typeCall_enumerate_1 _) (F.newCall_enumerate_1 _) (fun obj => F.args_object_init_2 obj _) F.entry_enumerate_new
    (meets_enumerate_newT l items n dct sl) ⟨hl, ?_⟩
  have hz : (s.heap.push { cls := .type "tuple_iterator", data := .fields #[.ref l, .int 0 0] }).objs.size = s.heap.objs.size + 1 := Heap.size_push ..
  show _ ∧ _
  rw [hz]
  have he : IsEnum ((s.heap.push { cls := .type "tuple_iterator", data := .fields #[.ref l, .int 0 0] }).push
      { cls := .type "enumerate", data := .fields #[.none, .bool false, .ref s.heap.objs.size, rawInt 0, .none, .none] }) (s.heap.objs.size + 1) s.heap.objs.size 0 .none := by
    have := Heap.get?_push_size (s.heap.push { cls := .type "tuple_iterator", data := .fields #[.ref l, .int 0 0] })
      (o := { cls := .type "enumerate", data := .fields #[.none, .bool false, .ref s.heap.objs.size, rawInt 0, .none, .none] }) rfl
    rw [hz] at this; exact this
  refine ⟨⟨_, he, rfl⟩, h _ he ⟨_, Heap.get?_push_of_some _ (Heap.get?_push_size _ rfl), rfl, rfl⟩ (by rw [Heap.size_push, hz]) fun b o x => Heap.get?_push_of_some _ (Heap.get?_push_of_some _ x)⟩

section
variable {X : Cx} {pins : List (Addr × Obj)} {σ : St} {H : Hp} {s : Shared}
/-- enumerate(..) of a list, a tuple, a text -/
theorem call_enum {κ : SK} {xs : List V} {u : Value} {E : Value → Shared → Prop} {Q : Value → Shared → Prop} (I : Inv X pins σ H s) (hv : κ.has H xs) (r : RelV κ.val u)
    (h : ∀ h', IsEnum h' (s.heap.objs.size + 1) s.heap.objs.size 0 .none → κ.own s.heap.objs.size 0 h' → (∀ b o, s.heap.get? b = some o → h'.get? b = some o) → Q (.ref (s.heap.objs.size + 1)) { s with heap := h' }) :
    wpAny (model X.prog X.w) X.A (call (.type "enumerate") [u]) Q E s := by
  cases κ with
  | lst a =>
    cases (show u = Value.ref a from r)
    obtain ⟨_, its, n, rr, e⟩ := Rd.ok hv I.hok
    exact call_enumerate_list ⟨_, e, rfl, n, rfl⟩ fun h' a1 a2 _ a4 => h h' a1 a2 a4
  | tup a =>
    cases (show u = Value.ref a from r)
    obtain ⟨_, its, rr, e⟩ := Rd.ok hv I.hok
    exact call_enumerate_tuple e fun h' a1 a2 _ a4 => h h' a1 a2 a4
  | str x =>
    obtain ⟨t, q⟩ := (show ∃ t, u = Value.str x t from r)
    subst q
    exact call_enumerate_str fun h' a1 a2 _ a4 => h h' a1 ⟨t, a2⟩ a4
def iEnum (ta : TA) : TI := fun σ H R => ta σ H fun vs H1 => ∃ κ : SK, vs = [κ.val] ∧ (∃ xs, κ.has H1 xs) ∧ R (Ite κ) H1
theorem pi_enum {a : Expr} {ta : TA} {p pos : Pos} {elts : List Expr} {x1 : Nat} {tpos : Pos} (hg : Gl X "enumerate") (hm : X.mg "enumerate" = none) (ha : PA X [a] ta)
    (hs : starEach [a] X.env = [(false, eval a X.env)] := by rfl) : PI X (.Tuple elts x1 tpos) (.Call (.Name "enumerate" p) [a] [] pos) (iEnum ta) := by
  intro pins s σ H R I h
  refine Call_ (ld_blt I hg hm boot_enumerate (PyProof.Rows.callWith_type1 (thn (ha pos pins s σ H _ I h) fun us s1 ⟨vs, H1, I1, r1, q1⟩ => ?_) hs rfl))
  obtain ⟨κ, e, ⟨xs, hx⟩, q⟩ := q1
  subst e
  obtain ⟨u, rfl, ru⟩ := vals1 r1
  refine call_enum I1 hx ru fun h' he hi hk => ?_
  refine wpAny_pyIter_enum he ⟨s1.heap.objs.size + 1, [s1.heap.objs.size + 1, s1.heap.objs.size], _, _, H1, rfl, I1.kept (t' := s1.toks) hk, turn_enum κ _ _ (Nat.ne_of_gt (Nat.lt_succ_self _)), ⟨⟨_, he⟩, hi⟩, fun b hb => ?_, q⟩
  have hge : s1.heap.objs.size ≤ b := by
    simp only [List.mem_cons, List.not_mem_nil, or_false] at hb
    rcases hb with rfl | rfl
    · exact Nat.le_succ _
    · exact Nat.le_refl _
  exact I1.fpOk hge (I1.hok.fresh hge)
end

/-! ### zip of two -/
structure ZA (z TI TO i1 i2 : Addr) (fp1 fp2 : List Addr) : Prop where
  TIz : TI ≠ z
  TOz : TO ≠ z
  i1z : i1 ≠ z
  i2z : i2 ≠ z
  TITO : TI ≠ TO
  TIi1 : TI ≠ i1
  TIi2 : TI ≠ i2
  TOi1 : TO ≠ i1
  TOi2 : TO ≠ i2
  i12 : i1 ≠ i2
  z1 : z ∉ fp1
  z2 : z ∉ fp2
  o1 : TO ∉ fp1
  o2 : TO ∉ fp2
  a1 : i2 ∉ fp1
  a2 : i1 ∉ fp2
section
variable {prog : Program} {w : World} {A : Around} {E : Value → Shared → Prop} {s : Shared}
theorem zip_next_itemD {z TI TO i1 i2 : Addr} {fp1 fp2 : List Addr} {n1 n2 k : Nat} {P1 P2 : Nat → Value → Prop} {S1 S2 : Nat → Heap → Prop} {a b : Value} {Q : Value → Shared → Prop} (Z : ZA z TI TO i1 i2 fp1 fp2)
    (D1 : Draws prog w A i1 fp1 n1 P1 S1) (D2 : Draws prog w A i2 fp2 n2 P2 S2)
    (hz : IsZip s.heap z TI TO .none) (hTI : IsPair s.heap TI (.ref i1) (.ref i2)) (hTO : IsPair s.heap TO a b) (h1 : S1 k s.heap) (h2 : S2 k s.heap) (l1 : k < n1) (l2 : k < n2)
    (hQ : ∀ x y h' tk, P1 k x → P2 k y → IsZip h' z TI TO (rawInt s.heap.objs.size) → IsPair h' TO x y → S1 (k + 1) h' → S2 (k + 1) h' → IsPair h' s.heap.objs.size x y → h'.objs.size = s.heap.objs.size + 1 →
      (∀ c o, c ≠ z → c ≠ TO → c ≠ i1 → c ≠ i2 → s.heap.get? c = some o → h'.get? c = some o) → Q (.ref s.heap.objs.size) { s with heap := h', toks := tk }) :
    wpAny (model prog w) A (Builtin.«zip.__next__» ⟨[.ref z], []⟩) (fun fin s' => ∃ v, fin = .done (.ret v) ∧ Q v s') E s := by
  obtain ⟨hp, g, d, tk₀, os⟩ := s
  show wpAny _ _ (field (.ref z) 2 >>= _) _ _ _
  refine wpAny_bind (wpAny_field hz rfl (x := .bool false) rfl ?_)
  show wpAny _ _ (field (.ref z) 3 >>= _) _ _ _
  refine wpAny_bind (wpAny_field hz rfl (x := .ref TI) rfl ?_)
  refine wpAny_bind (wpAny_seqItems hTI rfl ?_)
  show wpAny _ _ (Builtin.SmallTypes.ownedTupleIsFree (.ref z) >>= _) _ _ _
  refine wpAny_bind ?_
  unfold Builtin.SmallTypes.ownedTupleIsFree
  refine wpAny_bind (wpAny_field hz rfl (x := .none) rfl (wpAny_pure ?_))
  simp only [if_true]
  refine wpAny_bind (wpAny_rule ?_)
  refine wpAny_bind (wpAny_field hz rfl (x := .ref TO) rfl ?_)
  refine wpAny_bind (wpAny_setField_rec hz (by simp) fun h₁ hz₁ hs₁ => ?_)
  replace hz₁ : IsZip h₁ z TI TO .ellipsis := hz₁
  replace hs₁ : Heap.SameBut z hp h₁ := hs₁
  refine wpAny_bind ?_
  simp only [List.zipIdx_cons, List.zipIdx_nil, List.forIn_cons, List.forIn_nil]
  refine wpAny_bind (wpAny_bind (wpAny_onRaise ?_))
  show wpAny _ _ (Builtin.SmallTypes.nextOf (.ref i1) >>= _) _ _ _
  have h1₁ : S1 k h₁ := D1.frame _ _ _ h1 fun c hc o e => hs₁.extBut _ _ (fun q => Z.z1 (q ▸ hc)) e
  refine wpAny_bind (D1.item k _ _ _ l1 h1₁ fun x h₂ tk₂ hx h1₂ hs₂ => wpAny_pure ?_)
  replace hs₂ : Heap.SameBut i1 h₁ h₂ := hs₂
  have hTO₂ : IsPair h₂ TO a b := hs₂.extBut _ _ Z.TOi1 (hs₁.extBut _ _ Z.TOz hTO)
  refine wpAny_bind (wpAny_seqItems (s := ⟨h₂, g, d, tk₂, os⟩) hTO₂ rfl ?_)
  refine wpAny_bind (wpAny_updateSeq_pair (s := ⟨h₂, g, d, tk₂, os⟩) hTO₂ fun h₃ hTO₃ hs₃ => ?_)
  replace hTO₃ : IsPair h₃ TO x b := hTO₃
  replace hs₃ : Heap.SameBut TO h₂ h₃ := hs₃
  refine wpAny_bind (wpAny_letGo (wpAny_pure ?_))
  refine wpAny_bind (wpAny_bind (wpAny_onRaise ?_))
  show wpAny _ _ (Builtin.SmallTypes.nextOf (.ref i2) >>= _) _ _ _
  have h2₃ : S2 k h₃ := D2.frame _ _ _ h2 fun c hc o e => hs₃.extBut _ _ (fun q => Z.o2 (q ▸ hc)) (hs₂.extBut _ _ (fun q => Z.a2 (q ▸ hc)) (hs₁.extBut _ _ (fun q => Z.z2 (q ▸ hc)) e))
  refine wpAny_bind (D2.item k _ _ _ l2 h2₃ fun y h₄ tk₄ hy h2₄ hs₄ => wpAny_pure ?_)
  replace hs₄ : Heap.SameBut i2 h₃ h₄ := hs₄
  have hTO₄ : IsPair h₄ TO x b := hs₄.extBut _ _ Z.TOi2 hTO₃
  refine wpAny_bind (wpAny_seqItems (s := ⟨h₄, g, d, tk₄, os⟩) hTO₄ rfl ?_)
  refine wpAny_bind (wpAny_updateSeq_pair (s := ⟨h₄, g, d, tk₄, os⟩) hTO₄ fun h₅ hTO₅ hs₅ => ?_)
  replace hTO₅ : IsPair h₅ TO x y := hTO₅
  replace hs₅ : Heap.SameBut TO h₄ h₅ := hs₅
  refine wpAny_bind (wpAny_letGo (wpAny_pure (wpAny_pure ?_)))
  refine wpAny_bind (wpAny_seqItems (s := ⟨h₅, g, d, tk₄, os⟩) hTO₅ rfl ?_)
  refine wpAny_bind (wpAny_newTuple ?_)
  have hsz : h₅.objs.size = hp.objs.size := by rw [hs₅.1, hs₄.1, hs₃.1, hs₂.1, hs₁.1]
  have hz₅ : IsZip h₅ z TI TO .ellipsis := hs₅.extBut _ _ Z.TOz.symm (hs₄.extBut _ _ Z.i2z.symm (hs₃.extBut _ _ Z.TOz.symm (hs₂.extBut _ _ Z.i1z.symm hz₁)))
  have hk₅ : ∀ c o, c ≠ z → c ≠ TO → c ≠ i1 → c ≠ i2 → hp.get? c = some o → h₅.get? c = some o := fun c o c1 c2 c3 c4 e =>
    hs₅.extBut _ _ c2 (hs₄.extBut _ _ c4 (hs₃.extBut _ _ c2 (hs₂.extBut _ _ c3 (hs₁.extBut _ _ c1 e))))
  have h1₅ : S1 (k + 1) h₅ := D1.frame _ _ _ h1₂ fun c hc o e => hs₅.extBut _ _ (fun q => Z.o1 (q ▸ hc)) (hs₄.extBut _ _ (fun q => Z.a1 (q ▸ hc)) (hs₃.extBut _ _ (fun q => Z.o1 (q ▸ hc)) e))
  have h2₅ : S2 (k + 1) h₅ := D2.frame _ _ _ h2₄ fun c hc o e => hs₅.extBut _ _ (fun q => Z.o2 (q ▸ hc)) e
  have hzlt : z < h₅.objs.size := Heap.lt_size hz₅
  show wpAny _ _ (Builtin.SmallTypes.ownedTupleHandOut (.ref z) (.ref h₅.objs.size) >>= _) _ _ _
  refine wpAny_bind ?_
  unfold Builtin.SmallTypes.ownedTupleHandOut
  have hz₆ : IsZip (h₅.push { cls := .type "tuple", data := .seq #[x, y] }) z TI TO .ellipsis := Heap.get?_push_of_some _ hz₅
  refine wpAny_bind (wpAny_setField_rec hz₆ (by simp) fun h₇ hz₇ hs₇ => ?_)
  replace hz₇ : IsZip h₇ z TI TO (rawInt h₅.objs.size) := hz₇
  replace hs₇ : Heap.SameBut z (h₅.push { cls := .type "tuple", data := .seq #[x, y] }) h₇ := hs₇
  refine wpAny_setField_rec hz₇ (by simp) fun h₈ hz₈ hs₈ => ?_
  replace hz₈ : IsZip h₈ z TI TO (rawInt h₅.objs.size) := hz₈
  replace hs₈ : Heap.SameBut z h₇ h₈ := hs₈
  have up : ∀ c o, c ≠ z → h₅.get? c = some o → h₈.get? c = some o := fun c o c1 e => hs₈.extBut _ _ c1 (hs₇.extBut _ _ c1 (Heap.get?_push_of_some _ e))
  have hT₈ : IsPair h₈ h₅.objs.size x y := hs₈.extBut _ _ (Nat.ne_of_gt hzlt) (hs₇.extBut _ _ (Nat.ne_of_gt hzlt) (Heap.get?_push_size _ rfl))
  have hz8 : h₈.objs.size = h₅.objs.size + 1 := by rw [hs₈.1, hs₇.1, Heap.size_push]
  rw [hsz] at hz₈ hT₈ hz8
  refine wpAny_pure ⟨_, rfl, ?_⟩
  show Q (.ref h₅.objs.size) _
  rw [hsz]
  exact hQ x y h₈ tk₄ hx hy hz₈ (up _ _ Z.TOz hTO₅) (D1.frame _ _ _ h1₅ fun c hc o e => up c o (fun q => Z.z1 (q ▸ hc)) e) (D2.frame _ _ _ h2₅ fun c hc o e => up c o (fun q => Z.z2 (q ▸ hc)) e) hT₈ hz8 fun c o c1 c2 c3 c4 e => up c o c1 (hk₅ c o c1 c2 c3 c4 e)
theorem zip_next_endD {z TI TO i1 i2 : Addr} {fp1 fp2 : List Addr} {n1 n2 k : Nat} {P1 P2 : Nat → Value → Prop} {S1 S2 : Nat → Heap → Prop} {a b : Value} {Q : Fin → Shared → Prop} (Z : ZA z TI TO i1 i2 fp1 fp2)
    (D1 : Draws prog w A i1 fp1 n1 P1 S1) (D2 : Draws prog w A i2 fp2 n2 P2 S2)
    (hz : IsZip s.heap z TI TO .none) (hTI : IsPair s.heap TI (.ref i1) (.ref i2)) (hTO : IsPair s.heap TO a b) (h1 : S1 k s.heap) (h2 : S2 k s.heap) (hend : n1 = k ∨ (k < n1 ∧ n2 = k))
    (hE : ∀ h' e tk, (∀ c o, c ≠ z → c ≠ TO → c ≠ i1 → c ≠ i2 → s.heap.get? c = some o → h'.get? c = some o) → (∃ o, h'.get? e = some o ∧ o.cls = .type "StopIteration") → E (.ref e) { s with heap := h', toks := tk }) :
    wpAny (model prog w) A (Builtin.«zip.__next__» ⟨[.ref z], []⟩) Q E s := by
  obtain ⟨hp, g, d, tk₀, os⟩ := s
  show wpAny _ _ (field (.ref z) 2 >>= _) _ _ _
  refine wpAny_bind (wpAny_field hz rfl (x := .bool false) rfl ?_)
  show wpAny _ _ (field (.ref z) 3 >>= _) _ _ _
  refine wpAny_bind (wpAny_field hz rfl (x := .ref TI) rfl ?_)
  refine wpAny_bind (wpAny_seqItems hTI rfl ?_)
  show wpAny _ _ (Builtin.SmallTypes.ownedTupleIsFree (.ref z) >>= _) _ _ _
  refine wpAny_bind ?_
  unfold Builtin.SmallTypes.ownedTupleIsFree
  refine wpAny_bind (wpAny_field hz rfl (x := .none) rfl (wpAny_pure ?_))
  simp only [if_true]
  refine wpAny_bind (wpAny_rule ?_)
  refine wpAny_bind (wpAny_field hz rfl (x := .ref TO) rfl ?_)
  refine wpAny_bind (wpAny_setField_rec hz (by simp) fun h₁ hz₁ hs₁ => ?_)
  replace hz₁ : IsZip h₁ z TI TO .ellipsis := hz₁
  replace hs₁ : Heap.SameBut z hp h₁ := hs₁
  refine wpAny_bind ?_
  simp only [List.zipIdx_cons, List.zipIdx_nil, List.forIn_cons, List.forIn_nil]
  refine wpAny_bind (wpAny_bind (wpAny_onRaise ?_))
  show wpAny _ _ (Builtin.SmallTypes.nextOf (.ref i1) >>= _) _ _ _
  have h1₁ : S1 k h₁ := D1.frame _ _ _ h1 fun c hc o e => hs₁.extBut _ _ (fun q => Z.z1 (q ▸ hc)) e
  rcases hend with hn | ⟨l1, hn⟩
  · subst hn
    refine wpAny_bind (D1.done _ _ _ h1₁ fun h₂ e hs₂ he => ?_)
    obtain ⟨oe, hoe, hce⟩ := he
    replace hs₂ : Heap.ExtBut i1 h₁ h₂ := hs₂
    have hz₂ : IsZip h₂ z TI TO .ellipsis := hs₂ _ _ Z.i1z.symm hz₁
    have hez : e ≠ z := fun x => by subst x; rw [hz₂] at hoe; cases hoe; simp at hce
    exact wpAny_setField_rec hz₂ (by simp) fun h₃ _ hs₃ => hE h₃ e _ (fun c o c1 _ c3 _ x => hs₃.extBut _ _ c1 (hs₂ _ _ c3 (hs₁.extBut _ _ c1 x))) ⟨oe, hs₃.extBut _ _ hez hoe, hce⟩
  · subst hn
    refine wpAny_bind (D1.item _ _ _ _ l1 h1₁ fun x h₂ tk₂ hx h1₂ hs₂ => wpAny_pure ?_)
    replace hs₂ : Heap.SameBut i1 h₁ h₂ := hs₂
    have hTO₂ : IsPair h₂ TO a b := hs₂.extBut _ _ Z.TOi1 (hs₁.extBut _ _ Z.TOz hTO)
    refine wpAny_bind (wpAny_seqItems (s := ⟨h₂, g, d, tk₂, os⟩) hTO₂ rfl ?_)
    refine wpAny_bind (wpAny_updateSeq_pair (s := ⟨h₂, g, d, tk₂, os⟩) hTO₂ fun h₃ hTO₃ hs₃ => ?_)
    replace hs₃ : Heap.SameBut TO h₂ h₃ := hs₃
    refine wpAny_bind (wpAny_letGo (wpAny_pure ?_))
    refine wpAny_bind (wpAny_bind (wpAny_onRaise ?_))
    show wpAny _ _ (Builtin.SmallTypes.nextOf (.ref i2) >>= _) _ _ _
    have h2₃ := D2.frame _ _ h₃ h2 fun c hc o e => hs₃.extBut _ _ (fun q => Z.o2 (q ▸ hc)) (hs₂.extBut _ _ (fun q => Z.a2 (q ▸ hc)) (hs₁.extBut _ _ (fun q => Z.z2 (q ▸ hc)) e))
    refine wpAny_bind (D2.done _ _ _ h2₃ fun h₄ e hs₄ he => ?_)
    obtain ⟨oe, hoe, hce⟩ := he
    replace hs₄ : Heap.ExtBut i2 h₃ h₄ := hs₄
    have hz₄ : IsZip h₄ z TI TO .ellipsis := hs₄ _ _ Z.i2z.symm (hs₃.extBut _ _ Z.TOz.symm (hs₂.extBut _ _ Z.i1z.symm hz₁))
    have hez : e ≠ z := fun x => by subst x; rw [hz₄] at hoe; cases hoe; simp at hce
    exact wpAny_setField_rec hz₄ (by simp) fun h₅ _ hs₅ => hE h₅ e _ (fun c o c1 c2 c3 c4 x => hs₅.extBut _ _ c1 (hs₄ _ _ c4 (hs₃.extBut _ _ c2 (hs₂.extBut _ _ c3 (hs₁.extBut _ _ c1 x))))) ⟨oe, hs₅.extBut _ _ hez hoe, hce⟩
end
def Itz (κ1 κ2 : SK) : It :=
  ⟨fun i H => ∃ xs ys x y, κ1.has H xs ∧ κ2.has H ys ∧ xs[i]? = some x ∧ ys[i]? = some y,
   fun i H v H' => ∃ p x y, v = .ref p ∧ H p = none ∧ H' = upd H p (.tup [x, y]) ∧ (∀ xs, κ1.has H xs → xs[i]? = some x) ∧ ∀ ys, κ2.has H ys → ys[i]? = some y,
   fun i H => ∃ xs ys, κ1.has H xs ∧ κ2.has H ys ∧ (xs.length = i ∨ (i < xs.length ∧ ys.length = i))⟩
theorem turn_zip {P : Program} {w : World} {K : PySem.W.Frag} {elts : List Expr} {x1 : Nat} {tpos : Pos} (κ1 κ2 : SK) (z TI TO i1 i2 : Addr) (hnd : [z, TI, TO, i1, i2].Nodup) :
    Turn P w K (.Tuple elts x1 tpos) (Itz κ1 κ2) [z, TI, TO, i1, i2] z (fun i h => IsZip h z TI TO .none ∧ IsPair h TI (.ref i1) (.ref i2) ∧ (∃ a b, IsPair h TO a b) ∧ κ1.own i1 i h ∧ κ2.own i2 i h) where
  mem := by simp
  obj := fun i h st b hb => by
    obtain ⟨hz, hTI, ⟨a, c, hTO⟩, h1, h2⟩ := st
    simp only [List.mem_cons, List.not_mem_nil, or_false] at hb
    rcases hb with rfl | rfl | rfl | rfl | rfl
    · exact ⟨_, hz, fun v y => by have y' : Data.fields _ = Data.cell v := y; cases y'⟩
    · exact ⟨_, hTI, fun v y => by have y' : Data.seq _ _ = Data.cell v := y; cases y'⟩
    · exact ⟨_, hTO, fun v y => by have y' : Data.seq _ _ = Data.cell v := y; cases y'⟩
    · obtain ⟨o, e1, e2, _⟩ := SK.own_obj h1; exact ⟨o, e1, e2⟩
    · obtain ⟨o, e1, e2, _⟩ := SK.own_obj h2; exact ⟨o, e1, e2⟩
  keep := fun i h h' st k => by
    obtain ⟨hz, hTI, ⟨a, c, hTO⟩, h1, h2⟩ := st
    exact ⟨k z (by simp) _ hz, k TI (by simp) _ hTI, ⟨a, c, k TO (by simp) _ hTO⟩, SK.own_at h1 fun o q => k i1 (by simp) o q, SK.own_at h2 fun o q => k i2 (by simp) o q⟩
  item := by
    intro X hP hw hK hc i pins s σ H E I hf st hg
    subst hP hw hK
    obtain ⟨hz, hTI, ⟨a, c, hTO⟩, h1, h2⟩ := st
    obtain ⟨xs, ys, x, y, hx, hy, hxi, hyi⟩ := hg
    have l1 : i < xs.length := (List.getElem?_eq_some_iff.mp hxi).1
    have l2 : i < ys.length := (List.getElem?_eq_some_iff.mp hyi).1
    have hh : X.A.in1.handled = none := I.ok.hd hc
    obtain ⟨P1, S1, D1, s1, r1, w1⟩ := sk_draws (A := X.A.in1) I hx h1 (hf i1 (by simp)).1 hh
    obtain ⟨P2, S2, D2, s2, r2, w2⟩ := sk_draws (A := X.A.in1) I hy h2 (hf i2 (by simp)).1 hh
    simp only [List.nodup_cons, List.mem_cons, List.not_mem_nil, or_false, not_or] at hnd
    obtain ⟨⟨n1, n2, n3, n4⟩, ⟨n5, n6, n7⟩, ⟨n8, n9⟩, n10, _⟩ := hnd
    have nb : ∀ {κ : SK} {zs : List V} {b it : Addr}, κ.has H zs → H b = none → b ≠ it → b ∉ it :: κ.box := fun {κ zs b it} hκ hb hne q => by
      rcases List.mem_cons.mp q with q | q
      · exact hne q
      · exact SK.box_some hκ q hb
    have Z : ZA z TI TO i1 i2 (i1 :: κ1.box) (i2 :: κ2.box) :=
      { TIz := Ne.symm n1, TOz := Ne.symm n2, i1z := Ne.symm n3, i2z := Ne.symm n4, TITO := n5, TIi1 := n6, TIi2 := n7, TOi1 := n8, TOi2 := n9, i12 := n10
        z1 := nb hx (hf z (by simp)).1 n3, z2 := nb hy (hf z (by simp)).1 n4, o1 := nb hx (hf TO (by simp)).1 n8, o2 := nb hy (hf TO (by simp)).1 n9, a1 := nb hx (hf i2 (by simp)).1 (Ne.symm n10), a2 := nb hy (hf i1 (by simp)).1 n10 }
    have hT : s.TypeIs (.ref z) "zip" := ⟨_, hz, rfl⟩
    unfold pyNext
    refine wpAny_bind (wpAny_attempt (wpAny_callSpecial?_slot (name := Str.ofString "__next__") hT F.slot_zip_next
      (wpAny_call_entry F.slot_zip_next hT F.entry_zip_next
        (zip_next_itemD Z D1 D2 hz hTI hTO s1 s2 l1 l2 fun u v h' tk hu hv hz' hTO' s1' s2' hT' hsz hk => wpAny_pure ⟨_, rfl, ?_⟩) (F.args_zip_next_1 _))))
    refine wpAny_letOwnedTupleGo_zip hz' fun h'' hz'' hs'' => ?_
    obtain ⟨x', hx', rx⟩ := r1 i u hu
    obtain ⟨y', hy', ry⟩ := r2 i v hv
    have ex : x' = x := Option.some.inj (hx'.symm.trans hxi)
    have ey : y' = y := Option.some.inj (hy'.symm.trans hyi)
    subst ex ey
    have kk : ∀ b ob, b ∉ [z, TI, TO, i1, i2] → s.heap.get? b = some ob → h''.get? b = some ob := fun b ob hb q =>
      (hs''.2 b (fun e => hb (by simp [e]))).trans (hk b ob (fun e => hb (by simp [e])) (fun e => hb (by simp [e])) (fun e => hb (by simp [e])) (fun e => hb (by simp [e])) q)
    have ne : s.heap.objs.size ≠ z := Nat.ne_of_gt (Heap.lt_size hz)
    have hT'' : h''.get? s.heap.objs.size = some { cls := .type "tuple", data := .seq #[u, v] } := (hs''.2 _ ne).trans hT'
    refine ⟨.ref s.heap.objs.size, upd H s.heap.objs.size (.tup [x', y']), I.turnedNew (tk := tk) hf kk (Nat.le_refl _) ⟨⟨(by show 2 ≤ sizeLine; decide), _, hT'', rfl⟩, [u, v], .cons rx (.cons ry .nil), _, hT'', rfl, 0, rfl⟩, rfl,
      ⟨_, x', y', rfl, I.hok.fresh (Nat.le_refl _), rfl, fun zs hzs => by rw [SK.inj hzs hx]; exact hxi, fun zs hzs => by rw [SK.inj hzs hy]; exact hyi⟩,
      ⟨hz'', hs''.extBut _ _ (Ne.symm n1) (hk _ _ (Ne.symm n1) n5 n6 n7 hTI), ⟨_, _, hs''.extBut _ _ (Ne.symm n2) hTO'⟩, SK.own_at (w1 _ _ s1') fun o q => (hs''.2 i1 (Ne.symm n3)).trans q, SK.own_at (w2 _ _ s2') fun o q => (hs''.2 i2 (Ne.symm n4)).trans q⟩, fun b hb => ?_⟩
    have hob : ∃ o, s.heap.get? b = some o := by
      simp only [List.mem_cons, List.not_mem_nil, or_false] at hb
      rcases hb with rfl | rfl | rfl | rfl | rfl
      · exact ⟨_, hz⟩
      · exact ⟨_, hTI⟩
      · exact ⟨_, hTO⟩
      · obtain ⟨o, e1, _⟩ := SK.own_obj h1; exact ⟨o, e1⟩
      · obtain ⟨o, e1, _⟩ := SK.own_obj h2; exact ⟨o, e1⟩
    obtain ⟨o, hob⟩ := hob
    rw [upd_ne (Nat.ne_of_lt (Heap.lt_size hob))]
    exact (hf b hb).1
  done := by
    intro X hP hw hK hc i pins s σ H E I hf st hg
    subst hP hw hK
    obtain ⟨hz, hTI, ⟨a, c, hTO⟩, h1, h2⟩ := st
    obtain ⟨xs, ys, hx, hy, hend⟩ := hg
    have hh : X.A.in1.handled = none := I.ok.hd hc
    obtain ⟨P1, S1, D1, s1, r1, w1⟩ := sk_draws (A := X.A.in1) I hx h1 (hf i1 (by simp)).1 hh
    obtain ⟨P2, S2, D2, s2, r2, w2⟩ := sk_draws (A := X.A.in1) I hy h2 (hf i2 (by simp)).1 hh
    simp only [List.nodup_cons, List.mem_cons, List.not_mem_nil, or_false, not_or] at hnd
    obtain ⟨⟨n1, n2, n3, n4⟩, ⟨n5, n6, n7⟩, ⟨n8, n9⟩, n10, _⟩ := hnd
    have nb : ∀ {κ : SK} {zs : List V} {b it : Addr}, κ.has H zs → H b = none → b ≠ it → b ∉ it :: κ.box := fun {κ zs b it} hκ hb hne q => by
      rcases List.mem_cons.mp q with q | q
      · exact hne q
      · exact SK.box_some hκ q hb
    have Z : ZA z TI TO i1 i2 (i1 :: κ1.box) (i2 :: κ2.box) :=
      { TIz := Ne.symm n1, TOz := Ne.symm n2, i1z := Ne.symm n3, i2z := Ne.symm n4, TITO := n5, TIi1 := n6, TIi2 := n7, TOi1 := n8, TOi2 := n9, i12 := n10
        z1 := nb hx (hf z (by simp)).1 n3, z2 := nb hy (hf z (by simp)).1 n4, o1 := nb hx (hf TO (by simp)).1 n8, o2 := nb hy (hf TO (by simp)).1 n9, a1 := nb hx (hf i2 (by simp)).1 (Ne.symm n10), a2 := nb hy (hf i1 (by simp)).1 n10 }
    have hT : s.TypeIs (.ref z) "zip" := ⟨_, hz, rfl⟩
    unfold pyNext
    refine wpAny_bind (wpAny_attempt (wpAny_callSpecial?_slot (name := Str.ofString "__next__") hT F.slot_zip_next
      (wpAny_call_entry F.slot_zip_next hT F.entry_zip_next (zip_next_endD Z D1 D2 hz hTI hTO s1 s2 hend fun h' e tk hk he => ?_) (F.args_zip_next_1 _))))
    obtain ⟨o, ho, hcl⟩ := he
    refine wpAny_bind (wpAny_isInstance (T := "StopIteration") (b := true) ⟨o, ho, hcl⟩ isSubtype_stop ?_)
    exact wpAny_pure ⟨rfl, I.turnedMany hf fun b ob hb q => hk b ob (fun e => hb (by simp [e])) (fun e => hb (by simp [e])) (fun e => hb (by simp [e])) (fun e => hb (by simp [e])) q⟩
  self := fun _ _ _ _ _ st h => wpAny_pyIter_zip st.1 h

/-- the iterator's record that pyIter makes -/
def itObj (v : Value) : SK → Obj
  | .lst _ => { cls := .type "list_iterator", data := .fields #[v, .int 0 0] }
  | .tup _ => { cls := .type "tuple_iterator", data := .fields #[v, .int 0 0] }
  | .str x => { cls := .type (strIterType x), data := .fields #[v, .int 0 0] }
theorem itObj_live (v : Value) (κ : SK) : (itObj v κ).isFreed = false := by cases κ <;> rfl
/-- pyIter of it, at every heap that keeps what the first had -/
def Iters (h : Heap) (v : Value) (o : Obj) : Prop := ∀ (prog : Program) (w : World) (A : Around) (E : Value → Shared → Prop) (s : Shared) (Q : Value → Shared → Prop), (∀ b ob, h.get? b = some ob → s.heap.get? b = some ob) → Q (.ref s.heap.objs.size) { s with heap := s.heap.push o } → wpAny (model prog w) A (pyIter v) Q E s
theorem sk_iters {X : Cx} {pins : List (Addr × Obj)} {σ : St} {H : Hp} {s : Shared} {κ : SK} {xs : List V} {u : Value} (I : Inv X pins σ H s) (hv : κ.has H xs) (r : RelV κ.val u) : Iters s.heap u (itObj u κ) := by
  intro prog w A E s' Q k h
  cases κ with
  | lst a =>
    cases (show u = Value.ref a from r)
    obtain ⟨_, its, n, rr, e⟩ := Rd.ok hv I.hok
    exact wpAny_pyIter_list (items := its.toArray) ⟨_, k _ _ e, rfl, n, rfl⟩ h
  | tup a =>
    cases (show u = Value.ref a from r)
    obtain ⟨_, its, rr, o, e, c⟩ := Rd.ok hv I.hok
    exact wpAny_pyIter_tuple (items := its.toArray) ⟨o, k _ _ e, c⟩ h
  | str x =>
    obtain ⟨t, q⟩ := (show ∃ t, u = Value.str x t from r)
    subst q
    exact wpAny_pyIter_strU h
theorem sk_own0 {κ : SK} {u : Value} {h h' : Heap} {it : Addr} (r : RelV κ.val u) (e : h.get? it = some (itObj u κ)) : κ.own it 0 h := by
  cases κ with
  | lst a => cases (show u = Value.ref a from r); exact ⟨_, e, rfl, rfl⟩
  | tup a => cases (show u = Value.ref a from r); exact ⟨_, e, rfl, rfl⟩
  | str x => obtain ⟨t, q⟩ := (show ∃ t, u = Value.str x t from r); subst q; exact ⟨t, _, e, rfl, rfl⟩
abbrev zH1 (h : Heap) (o1 : Obj) : Heap := h.push o1
abbrev zH2 (h : Heap) (o1 o2 : Obj) : Heap := (zH1 h o1).push o2
abbrev zH3 (h : Heap) (o1 o2 : Obj) : Heap := (zH2 h o1 o2).push { cls := .type "tuple", data := .seq #[.ref h.objs.size, .ref (zH1 h o1).objs.size] }
abbrev zH4 (h : Heap) (o1 o2 : Obj) : Heap := (zH3 h o1 o2).push { cls := .type "tuple", data := .seq #[.none, .none] }
abbrev zH5 (h : Heap) (o1 o2 : Obj) : Heap := (zH4 h o1 o2).push { cls := .type "zip", data := .fields #[.none, .bool false, .bool false, .ref (zH2 h o1 o2).objs.size, .ref (zH3 h o1 o2).objs.size] }
set_option maxHeartbeats 4000000 in
theorem meets_zipG (v1 v2 : Value) (o1 o2 : Obj) :
    Meets (Builtin.«zip.__new__» ⟨[.type "zip", v1, v2], []⟩) (fun _ R s => Iters s.heap v1 o1 ∧ Iters s.heap v2 o2 ∧
      R (.ok (.ret (.ref (zH4 s.heap o1 o2).objs.size))) { s with heap := zH5 s.heap o1 o2 }) :=
  .of_wp fun prog w A R s h => by
    obtain ⟨hp, g, d, tk, os⟩ := s; obtain ⟨hl1, hl2, h⟩ := h
    have hsub := sub_zip
    have g1 : ∀ (A : Around) (E : Value → Shared → Prop) (Q : Value → Shared → Prop), Q (.ref hp.objs.size) ⟨hp.push o1, g, d, tk, os⟩ → wpAny (model prog w) A (pyIter v1) Q E ⟨hp, g, d, tk, os⟩ := fun A E Q q => hl1 prog w A E ⟨hp, g, d, tk, os⟩ Q (fun _ _ e => e) q
    have g2 : ∀ (A : Around) (E : Value → Shared → Prop) (Q : Value → Shared → Prop), Q (.ref (hp.push o1).objs.size) ⟨(hp.push o1).push o2, g, d, tk, os⟩ → wpAny (model prog w) A (pyIter v2) Q E ⟨hp.push o1, g, d, tk, os⟩ := fun A E Q q => hl2 prog w A E ⟨hp.push o1, g, d, tk, os⟩ Q (fun _ _ e => Heap.get?_push_of_some _ e) q
    wp_walk using g1 _ _ _, g2 _ _ _
    exact ⟨_, rfl, h⟩
theorem call_zipG {prog : Program} {w : World} {A : Around} {E : Value → Shared → Prop} {s : Shared} {v1 v2 : Value} {o1 o2 : Obj} {Q : Value → Shared → Prop} (f1 : o1.isFreed = false) (f2 : o2.isFreed = false) (hl1 : Iters s.heap v1 o1) (hl2 : Iters s.heap v2 o2)
    (h : ∀ h', IsZip h' (s.heap.objs.size + 4) (s.heap.objs.size + 2) (s.heap.objs.size + 3) .none → IsPair h' (s.heap.objs.size + 2) (.ref s.heap.objs.size) (.ref (s.heap.objs.size + 1)) →
      IsPair h' (s.heap.objs.size + 3) .none .none → h'.get? s.heap.objs.size = some o1 → h'.get? (s.heap.objs.size + 1) = some o2 →
      (∀ c o, s.heap.get? c = some o → h'.get? c = some o) → Q (.ref (s.heap.objs.size + 4)) { s with heap := h' }) :
    wpAny (model prog w) A (call (.type "zip") [v1, v2]) Q E s := by
  refine callType_new F.called_zip (by decide) (F.typeCall_zip_2 _ _) (F.newCall_zip_2 _ _) (fun obj => F.args_object_init_3 obj _ _) F.entry_zip_new
    (meets_zipG v1 v2 o1 o2) ⟨hl1, hl2, ?_⟩
  have z1 : (zH1 s.heap o1).objs.size = s.heap.objs.size + 1 := Heap.size_push ..
  have z2 : (zH2 s.heap o1 o2).objs.size = s.heap.objs.size + 2 := by rw [Heap.size_push, z1]
  have z3 : (zH3 s.heap o1 o2).objs.size = s.heap.objs.size + 3 := by rw [Heap.size_push, z2]
  have z4 : (zH4 s.heap o1 o2).objs.size = s.heap.objs.size + 4 := by rw [Heap.size_push, z3]
  have g5 : (zH5 s.heap o1 o2).get? (zH4 s.heap o1 o2).objs.size = some _ := Heap.get?_push_size _ rfl
  have g4 : (zH5 s.heap o1 o2).get? (zH3 s.heap o1 o2).objs.size = some _ := Heap.get?_push_of_some _ (Heap.get?_push_size _ rfl)
  have g3 : (zH5 s.heap o1 o2).get? (zH2 s.heap o1 o2).objs.size = some _ := Heap.get?_push_of_some _ (Heap.get?_push_of_some _ (Heap.get?_push_size _ rfl))
  have g2 : (zH5 s.heap o1 o2).get? (zH1 s.heap o1).objs.size = some _ := Heap.get?_push_of_some _ (Heap.get?_push_of_some _ (Heap.get?_push_of_some _ (Heap.get?_push_size _ f2)))
  have g1 : (zH5 s.heap o1 o2).get? s.heap.objs.size = some _ := Heap.get?_push_of_some _ (Heap.get?_push_of_some _ (Heap.get?_push_of_some _ (Heap.get?_push_of_some _ (Heap.get?_push_size _ f1))))
  show _ ∧ _
  rw [z2, z3, z4] at g5
  rw [z1, z2] at g3
  rw [z3] at g4
  rw [z1] at g2
  rw [z4]
  exact ⟨⟨_, g5, rfl⟩, h _ g5 g3 g4 g1 g2 fun c o x =>
    Heap.get?_push_of_some _ (Heap.get?_push_of_some _ (Heap.get?_push_of_some _ (Heap.get?_push_of_some _ (Heap.get?_push_of_some _ x))))⟩
section
variable {X : Cx}
def iZip (ta : TA) : TI := fun σ H R => ta σ H fun vs H1 => ∃ κ1 κ2 : SK, vs = [κ1.val, κ2.val] ∧ (∃ xs, κ1.has H1 xs) ∧ (∃ ys, κ2.has H1 ys) ∧ R (Itz κ1 κ2) H1
theorem pi_zip {a b : Expr} {ta : TA} {p pos : Pos} {elts : List Expr} {x1 : Nat} {tpos : Pos} (hg : Gl X "zip") (hm : X.mg "zip" = none) (ha : PA X [a, b] ta)
    (hs : starEach [a, b] X.env = [(false, eval a X.env), (false, eval b X.env)] := by rfl) (hs2 : starEach [b] X.env = [(false, eval b X.env)] := by rfl) : PI X (.Tuple elts x1 tpos) (.Call (.Name "zip" p) [a, b] [] pos) (iZip ta) := by
  intro pins s σ H R I h
  refine Call_ (ld_blt I hg hm boot_zip (PyProof.Rows.callWith_type1 (thn (ha pos pins s σ H _ I h) fun us s1 ⟨vs, H1, I1, r1, q1⟩ => ?_) (by rw [hs, hs2]) (by rw [hs2]; rfl)))
  obtain ⟨κ1, κ2, e, ⟨xs, hx⟩, ⟨ys, hy⟩, q⟩ := q1
  subst e
  obtain ⟨u, v, rfl, ru, rv⟩ := vals2 r1
  refine call_zipG (itObj_live u κ1) (itObj_live v κ2) (sk_iters I1 hx ru) (sk_iters I1 hy rv) fun h' hz hTI hTO h1 h2 hk => ?_
  refine wpAny_pyIter_zip hz ⟨s1.heap.objs.size + 4, [s1.heap.objs.size + 4, s1.heap.objs.size + 2, s1.heap.objs.size + 3, s1.heap.objs.size, s1.heap.objs.size + 1], _, _, H1, rfl, I1.kept (t' := s1.toks) hk,
    turn_zip κ1 κ2 _ _ _ _ _ (by simp), ⟨hz, hTI, ⟨_, _, hTO⟩, sk_own0 (h' := h') ru h1, sk_own0 (h' := h') rv h2⟩, fun b hb => ?_, q⟩
  have hge : s1.heap.objs.size ≤ b := by
    simp only [List.mem_cons, List.not_mem_nil, or_false] at hb
    rcases hb with rfl | rfl | rfl | rfl | rfl <;> first | exact Nat.le_add_right _ _ | exact Nat.le_refl _
  exact I1.fpOk hge (I1.hok.fresh hge)
end

/-! ### the forms one uses -/
theorem for_zip {κ1 κ2 : SK} {xs ys : List V} {g : TG} {tb : TS} {D : Ends} {σ : St} {H : Hp} (Pv : Nat → St → Hp → Prop) (h0 : Pv 0 σ H) (hlen : xs.length = ys.length) (hl : ∀ i σ H, i ≤ xs.length → Pv i σ H → κ1.has H xs ∧ κ2.has H ys)
    (hs : ∀ i x y σ H p, xs[i]? = some x → ys[i]? = some y → Pv i σ H → H p = none → g (.ref p) σ (upd H p (.tup [x, y])) fun σ2 H2 => tb { D with nx := Pv (i + 1), ct := Pv (i + 1), bk := D.nx } σ2 H2) (hd : ∀ σ H, Pv xs.length σ H → D.nx σ H) :
    ∃ W : Nat → Nat → St → Hp → Prop, (∃ m, W 0 m σ H) ∧ ∀ i m σ H, W i m σ H →
      ((Itz κ1 κ2).stop i H ∧ D.nx σ H) ∨ ((Itz κ1 κ2).go i H ∧ ∃ N : St → Hp → Prop, (∀ σ' H', N σ' H' → ∃ m', m' < m ∧ W (i + 1) m' σ' H') ∧ ∀ x H', (Itz κ1 κ2).yld i H x H' → g x σ H' fun σ2 H2 => tb { D with nx := N, ct := N, bk := D.nx } σ2 H2) := by
  refine ⟨fun i m σ H => i ≤ xs.length ∧ m = xs.length - i ∧ Pv i σ H, ⟨xs.length, Nat.zero_le _, rfl, h0⟩, fun i m σ H ⟨hi, hm, hp⟩ => ?_⟩
  obtain ⟨a1, a2⟩ := hl i σ H hi hp
  rcases Nat.lt_or_ge i xs.length with lt | ge
  · have lt2 : i < ys.length := by omega
    refine .inr ⟨⟨xs, ys, xs[i], ys[i], a1, a2, List.getElem?_eq_getElem lt, List.getElem?_eq_getElem lt2⟩, Pv (i + 1), fun σ' H' hn => ⟨xs.length - (i + 1), by omega, by omega, rfl, hn⟩, fun x H' hy => ?_⟩
    obtain ⟨p, x', y', rfl, hpn, rfl, e1, e2⟩ := hy
    exact hs i x' y' σ H p (e1 xs a1) (e2 ys a2) hp hpn
  · have e : i = xs.length := by omega
    subst e
    exact .inl ⟨⟨xs, ys, a1, a2, .inl rfl⟩, hd σ H hp⟩
/-! ### a slice of a text -/
def cutS (z : Str) (lo hi : Option Int) : Str := ⟨((z.cps.toList.drop (HT.sIx z.length 0 lo)).take (HT.sIx z.length z.length hi - HT.sIx z.length 0 lo)).toArray⟩
theorem clip_s (i : Int) (n d : Nat) : max 0 (min (if i < 0 then i + (n : Int) else i) (n : Int)) = ((HT.sIx n d (some i) : Nat) : Int) := by
  simp only [HT.sIx]
  split
  · omega
  · omega
theorem range_cut (a b : Nat) : sliceRange (a : Int) (b : Int) 1 = (List.range (b - a)).map fun k => a + k := by
  unfold sliceRange
  simp only [show ((1 : Int) > 0) = True from by simp, if_true]
  by_cases hlt : (a : Int) < b
  · have e3 : (((b : Int) - a + 1 - 1) / 1).toNat = b - a := by
      rw [Int.ediv_one]; omega
    simp only [hlt, if_true, e3]
    refine List.map_congr_left fun k _ => ?_
    omega
  · have : b - a = 0 := by omega
    simp [hlt, this]
theorem sliceIdx_cut (lo hi : Option Int) (n : Nat) : Builtin.Str.strSliceIndices lo hi 1 n = (List.range (HT.sIx n n hi - HT.sIx n 0 lo)).map fun k => HT.sIx n 0 lo + k := by
  unfold Builtin.Str.strSliceIndices
  simp only [show ((1 : Int) > 0) = True from by simp, if_true]
  cases lo with
  | none =>
    cases hi with
    | none => exact range_cut 0 n
    | some j => dsimp only; rw [clip_s j n n]; exact range_cut 0 _
  | some i =>
    cases hi with
    | none => dsimp only; rw [clip_s i n 0]; exact range_cut _ n
    | some j => dsimp only; rw [clip_s i n 0, clip_s j n n]; exact range_cut _ _
theorem slice_text (z : Str) (t : Tok) (l u : Option (Int × Tok)) : ∀ (Q : Value → Shared → Prop) (s : Shared), z.length ≤ sizeLine → (∀ t' s', s'.heap = s.heap → s'.gens = s.gens → s'.drawn = s.drawn → s'.os = s.os → Q (.str (cutS z (l.map (·.1)) (u.map (·.1))) t') s') → (sliceMade z t l u none).post Q s := by
  intro Q s hz h
  have hidx := sliceIdx_cut (l.map (·.1)) (u.map (·.1)) z.length
  have hle : HT.sIx z.length z.length (u.map (·.1)) ≤ z.length := HT.sIx_le _ _ (Nat.le_refl _) _
  have hlo : HT.sIx z.length 0 (l.map (·.1)) ≤ z.length := HT.sIx_le _ _ (Nat.zero_le _) _
  have hzl : z.length = z.cps.toList.length := by simp [Str.length]
  have cut : ((slicePicked z l u none).filterMap (z.cps[·]?)) = (z.cps.toList.drop (HT.sIx z.length 0 (l.map (·.1)))).take (HT.sIx z.length z.length (u.map (·.1)) - HT.sIx z.length 0 (l.map (·.1))) := by
    have p := StrLaws.picks z.cps.toList (HT.sIx z.length z.length (u.map (·.1)) - HT.sIx z.length 0 (l.map (·.1))) (HT.sIx z.length 0 (l.map (·.1))) (by omega)
    rw [← p]
    unfold slicePicked
    simp only [Option.map_none, Option.getD_none]
    rw [hidx]
    congr 1
    funext k
    simp
  unfold sliceMade
  split
  · rename_i c
    have whole : cutS z (l.map (·.1)) (u.map (·.1)) = z := by
      unfold cutS
      have e : (slicePicked z l u none).length = z.length := by
        simp only [Bool.and_eq_true, beq_iff_eq] at c
        exact c.2
      have e' : HT.sIx z.length z.length (u.map (·.1)) - HT.sIx z.length 0 (l.map (·.1)) = z.length := by
        unfold slicePicked at e
        simp only [Option.map_none, Option.getD_none] at e
        rw [hidx] at e
        simpa using e
      have e0 : HT.sIx z.length 0 (l.map (·.1)) = 0 := by omega
      rw [e', e0, List.drop_zero, hzl, List.take_length]
    have := h t s rfl rfl rfl rfl
    rw [whole] at this
    exact this
  · rw [cut]
    have hl' : (⟨((z.cps.toList.drop (HT.sIx z.length 0 (l.map (·.1)))).take (HT.sIx z.length z.length (u.map (·.1)) - HT.sIx z.length 0 (l.map (·.1)))).toArray⟩ : Str).length ≤ sizeLine := by
      have : (⟨((z.cps.toList.drop (HT.sIx z.length 0 (l.map (·.1)))).take (HT.sIx z.length z.length (u.map (·.1)) - HT.sIx z.length 0 (l.map (·.1)))).toArray⟩ : Str).length ≤ z.length := by
        simp only [Str.length, List.size_toArray, List.length_take, List.length_drop]
        have : z.cps.size = z.length := rfl
        omega
      omega
    first
      | exact ⟨hl', h _ _ rfl rfl rfl rfl⟩
      | exact h _ _ rfl rfl rfl rfl
def rSlS : V → Option Int → Option Int → Hp → VK → Prop := fun x lo hi H Q => ∃ z, x = .str z ∧ z.length ≤ sizeLine ∧ Q (.str (cutS z lo hi)) H
theorem sl_str {X : Cx} : SlR X rSlS := by
  intro pins s σ H x v vl vu lo hi sl Q I rx hs pl pu h
  obtain ⟨z, rfl, hz, q⟩ := h
  obtain ⟨t, rfl⟩ := rx
  refine ⟨"str", _, F.slot_str_getitem.lookup, typeIs_str s z t, ?_⟩
  have part : ∀ {v : Value} {o : Option Int}, IsPart v o → ∃ p : Option (Int × Tok), v = partValue p ∧ p.map (·.1) = o := fun {v o} p => by
    cases p with
    | none => exact ⟨none, rfl, rfl⟩
    | int i t => exact ⟨some (i, t), rfl, rfl⟩
  obtain ⟨l, rfl, rfl⟩ := part pl
  obtain ⟨u, rfl, rfl⟩ := part pu
  refine wpAny_getItem_str_slice (l := l) (u := u) (st := none) hs rfl (slice_text z t l u _ s hz fun t' s' e1 e2 e3 e4 => ⟨.str _, H, ?_, ⟨t', rfl⟩, q⟩)
  obtain ⟨hp, g, d, tk, os⟩ := s'
  cases e1; cases e2; cases e3; cases e4
  exact I.tok tk
theorem cutS_to (z : Str) (k : Nat) : (cutS z none (some (k : Int))).cps.toList = z.cps.toList.take k := by
  unfold cutS
  have hzl : z.length = z.cps.toList.length := by simp [Str.length]
  simp only [HT.sIx_nat, HT.sIx_none, List.drop_zero, Nat.sub_zero]
  rcases Nat.le_total k z.length with h | h
  · rw [Nat.min_eq_left h]
  · rw [Nat.min_eq_right h, hzl, List.take_length]
    exact (List.take_of_length_le (by omega)).symm

/-! ### isinstance of one class -/
theorem call_isinst {X : Cx} : CallR X (.builtin "isinstance") (fun vs H Q => ∃ x t T b, vs = [x, .ty T] ∧ TyOf X.K H x t ∧ PySem.W.kitOne X.K t (.type T) = some b ∧ Q (.bl b) H) := by
  intro pins s σ H xs us Q I r h
  obtain ⟨x, t, T, b, rfl, ty, e, q⟩ := h
  obtain ⟨u, v, rfl, ru, rv⟩ := vals2 r
  cases (show v = Value.type T from rv)
  exact isinst_ok I ru ty e fun tk => ⟨.bl b, H, I.tok tk, rfl, q⟩
end L2


set_option Elab.async false
set_option linter.all false
set_option maxRecDepth 100000
set_option maxHeartbeats 4000000
/-! defs of the text by name; a pool of two ints that is drawn from -/
namespace L2
open PySem PySem.Spec PyProof.Rows

theorem csc {X : Cx} {scope : Scope} {NL : List Str} {ix : List Nat} (esc : Scope) (N : List Str) (h1 : X.env.scope = esc := by rfl) (h2 : X.N = N := by rfl) (c1 : scope.kind = .function := by rfl)
    (c2 : ∀ y ∈ scope.names, y.2 ≠ .cell := by decide +kernel) (c3 : ∀ y ∈ scope.names, y.2 = .local → scope.names.lookup y.1 = some .local := by decide +kernel)
    (c4 : ∀ y ∈ scope.names, y.2 = .free → esc.names.lookup y.1 = some .cell ∨ esc.names.lookup y.1 = some .free := by decide +kernel)
    (c5 : ∀ j ∈ ix, (N[j]?).bind (fun x => scope.names.lookup x) = some .free := by decide +kernel) : CompScope X scope NL ix where
  kind := c1
  cell := c2
  names := c3
  free := fun y hy hf => by
    have := c4 y hy hf
    rw [← h1] at this
    exact this
  cap := fun j hj => by
    have := c5 j hj
    rw [h2]
    cases e : N[j]? with
    | none => rw [e] at this; cases this
    | some x => rw [e] at this; exact ⟨x, rfl, this⟩

/-- a def of the text keeps its promise -/
def Has (P : Program) (w : World) (K : PySem.W.Frag) (mg : Str → Option Value) (base : Heap) (x : Str) (k : Nat) (ps : List Str) (sp : Sp) : Prop :=
  ∃ f fd, FnOk P w K mg base CX0 k f fd ps sp ∧ Binds K fd ps [] ∧ PySem.W.keepIn K (.ref f) = true ∧ mg x = some (.ref f)
section
variable {P : Program} {w : World} {K : PySem.W.Frag} {mg : Str → Option Value} {base : Heap}
theorem Has.mono {x : Str} {j k : Nat} {ps : List Str} {sp : Sp} (G : Has P w K mg base x j ps sp) (h : j ≤ k) : Has P w K mg base x k ps sp :=
  let ⟨f, fd, F, r⟩ := G; ⟨f, fd, F.mono h, r⟩
/-- a def as it stands behind the top -/
def Df (K : PySem.W.Frag) (mg : Str → Option Value) (x : Str) (st : Stmt) : Prop := ∃ f fd, Fun K x x st f fd ∧ mg x = some (.ref f)
theorem Df.has {x : Str} {st : Stmt} {N ps : List Str} {k : Nat} {sp : Sp} (D : Df K mg x st) (S : FnScope N ps (defScope st))
    (hb : ∀ (kV doc pm : Value) (an : Option Addr) (cdv ct : Value) (us : List Value), us.length = ps.length → bindArgs (PySem.W.fnOf x x (defArgs st) (defBody st) (defScope st) .none kV doc pm an cdv ct) ⟨us, []⟩ = pure (ps.zip us))
    (len : ∀ vs H Q E, sp vs H Q E → vs.length = ps.length)
    (hbody : ∀ (f : Addr) (cdv : Value) (A : Around) (outer : List Env) (s : Shared) (H : Hp) (vs : List V) (Q : VK) (E : XK), Room k (A.deeper (envOfC x (defScope st) s.heap.objs.size f cdv)) → sp vs H Q E →
      ∃ t, PSs (cxOf CX0 P w K mg base N x (defScope st) f cdv A outer s H E).nox (defBody st) t ∧ t { nx := fun _ H' => Q .non H', rt := Q } (start N vs) H) : Has P w K mg base x (k + 1) ps sp := by
  obtain ⟨f, fd, F, m⟩ := D
  exact ⟨f, fd, F.ok S len fun cdv A outer s H vs Q E hr h => hbody f cdv A outer s H vs Q E hr h, F.binds hb, F.kp, m⟩
end
theorem pe_callH {X : Cx} {x : Str} {k : Nat} {ps : List Str} {sp : Sp} {p pos : Pos} {e : Expr} {es : List Expr} {t : TA} (G : Has X.prog X.w X.K X.mg X.base x k ps sp) (hr : Room k X.A) (hg : Gl X x) (ha : PA X (e :: es) t)
    (hdb : (x == ("__debug__" : Str)) = false := by decide) (he : starEach (e :: es) X.env = (false, eval e X.env) :: starEach es X.env := by rfl) (hpl : (backTo pos (starEach es X.env)).any (·.1) = false := by rfl) :
    PE X (.Call (.Name x p) (e :: es) [] pos) (tCall sp [] E0 t) := by
  obtain ⟨f, fd, F, b, kp, m⟩ := G
  exact pe_call F hr hg m kp b .nil pass0 ha hdb he hpl

/-- Python's own names mean what they mean -/
structure Blt (mg : Str → Option Value) : Prop where
  len : mg "len" = none
  range : mg "range" = none
  zip : mg "zip" = none
  enumerate : mg "enumerate" = none
  max : mg "max" = none
  min : mg "min" = none
  int_ : mg "int" = none
  str_ : mg "str" = none
  bool_ : mg "bool" = none
  list_ : mg "list" = none
  tuple_ : mg "tuple" = none
  isinstance : mg "isinstance" = none

abbrev Pool (H : Hp) (p : Addr) : Prop := ∃ x y : Int, H p = some (.lst [.int x, .int y])
structure Kp (p : Addr) (H H' : Hp) : Prop where
  pool : Pool H' p
  keep : ∀ b o, b ≠ p → H b = some o → H' b = some o
section
variable {p q : Addr} {H H1 H2 : Hp} {o : HO}
theorem Kp.refl (h : Pool H p) : Kp p H H := ⟨h, fun _ _ _ e => e⟩
theorem Kp.trans (a : Kp p H H1) (b : Kp p H1 H2) : Kp p H H2 := ⟨b.pool, fun c u hc e => b.keep c u hc (a.keep c u hc e)⟩
theorem Kp.new (a : Kp p H H1) (hq : H1 q = none) : Kp p H (upd H1 q o) := by
  obtain ⟨⟨x, y, e⟩, k⟩ := a
  refine ⟨⟨x, y, by rw [upd_ne (ne_of_none e hq)]; exact e⟩, fun c u hc h => ?_⟩
  have := k c u hc h
  rw [upd_ne (ne_of_none this hq)]; exact this
/-- what was made since may be changed -/
theorem Kp.write (a : Kp p H H1) (hq : H q = none) (hp : q ≠ p) : Kp p H (upd H1 q o) := by
  obtain ⟨⟨x, y, e⟩, k⟩ := a
  refine ⟨⟨x, y, by rw [upd_ne (Ne.symm hp)]; exact e⟩, fun c u hc h => ?_⟩
  rw [upd_ne (ne_of_none h hq)]; exact k c u hc h
theorem Pool.ne (h : Pool H p) (hq : H q = none) : q ≠ p := by
  obtain ⟨x, y, e⟩ := h
  exact Ne.symm (ne_of_none e hq)
end
theorem bt_len : bootBuiltins "len" = some (.builtin "len") := by decide +kernel
theorem bt_max : bootBuiltins "max" = some (.builtin "max") := by decide +kernel
theorem bt_min : bootBuiltins "min" = some (.builtin "min") := by decide +kernel
theorem bt_all : bootBuiltins "all" = some (.builtin "all") := by decide +kernel
theorem bt_sorted : bootBuiltins "sorted" = some (.builtin "sorted") := by decide +kernel
theorem bt_isinstance : bootBuiltins "isinstance" = some (.builtin "isinstance") := by decide +kernel
theorem bt_int : bootBuiltins "int" = some (.type "int") := by decide +kernel
theorem bt_str : bootBuiltins "str" = some (.type "str") := by decide +kernel
theorem bt_bool : bootBuiltins "bool" = some (.type "bool") := by decide +kernel
theorem bt_list : bootBuiltins "list" = some (.type "list") := by decide +kernel
theorem bt_tuple : bootBuiltins "tuple" = some (.type "tuple") := by decide +kernel
theorem Same.new {H0 H : Hp} {q : Addr} {o : HO} (h : Same H0 H) (hq : H q = none) : Same H0 (upd H q o) := fun b u e => by
  have := h b u e
  rw [upd_ne (ne_of_none this hq)]; exact this
theorem Same.write {H0 H : Hp} {q : Addr} {o : HO} (h : Same H0 H) (hq : H0 q = none) : Same H0 (upd H q o) := fun b u e => by
  rw [upd_ne (ne_of_none e hq)]; exact h b u e
theorem app_list (a y : Str) : (a ++ y).cps.toList = a.cps.toList ++ y.cps.toList := by
  show (a.cps ++ y.cps).toList = _
  simp
end L2


set_option Elab.async false
set_option linter.all false
set_option maxRecDepth 100000
set_option maxHeartbeats 4000000
/-! texts: startswith, join, a text times an int -/
namespace L2
open PySem PySem.Spec PyProof.Rows
section
variable {X : Cx}
theorem mt_startswith : MtR X "str.startswith" (fun x vs H Q => ∃ z p, x = .str z ∧ vs = [.str p] ∧ Q (.bl (Txt.startswith z p)) H) := by
  intro pins s σ H x xs v us Q I rx rv h
  obtain ⟨z, p, rfl, rfl, q⟩ := h
  obtain ⟨t, rfl⟩ := rx
  obtain ⟨u, rfl, t', rfl⟩ := rv.one
  exact SC.startswith ⟨.bl _, H, I, rfl, q⟩
theorem pe_starts {o e : Expr} {to te : TE} {apos cpos : Pos} (ho : PE X o to) (he : PE X e te) (hbase : attributeBase o "startswith" X.env (eval o X.env) = eval o X.env := by rfl)
    (h1 : starEach [e] X.env = [(false, eval e X.env)] := by rfl) (hl : (apos.endLine == cpos.line) = true := by rfl) :
    PE X (.Call (.Attribute o "startswith" apos) [e] [] cpos) (tBM X.K "str" (fun x vs H Q => ∃ z p, x = .str z ∧ vs = [.str p] ∧ Q (.bl (Txt.startswith z p)) H) to (tCons te tNil)) :=
  pe_bm PySem.F.plainAttrs_str PySem.F.slot_str_startswith PySem.F.type_str_startswith mt_startswith ho (pa_cons he pa_nil h1) hbase (by rw [h1]; rfl) hl h1 (by rfl)
theorem pifs_startsK (K : PySem.W.Frag) {o e : Expr} {to te : TE} {apos cpos : Pos} (ho : PE X o to) (he : PE X e te) (hK : X.K = K := by rfl) (hbase : attributeBase o "startswith" X.env (eval o X.env) = eval o X.env := by rfl)
    (h1 : starEach [e] X.env = [(false, eval e X.env)] := by rfl) (hl : (apos.endLine == cpos.line) = true := by rfl) :
    PIfs X [.Call (.Attribute o "startswith" apos) [e] [] cpos] (tB (tBM K "str" (fun x vs H Q => ∃ z p, x = .str z ∧ vs = [.str p] ∧ Q (.bl (Txt.startswith z p)) H) to (tCons te tNil))) := by
  subst hK
  exact pifs_one (pt_val (pe_starts ho he hbase h1 hl))
theorem pg_tupK (K : PySem.W.Frag) {es : List Expr} {k : Nat} {t : TGs} {n : Nat} {pos : Pos} (hc : X.calm = true) (h : PGs X es t) (hK : X.K = K := by rfl) (hn : (assignEach es X.env).length = n := by rfl)
    (hst : (assignEach es X.env).findIdx? (·.1) = none := by rfl) : PG X (.Tuple es k pos) (gTup K n t) := by
  subst hK
  exact pg_tup hc h hn hst
theorem strsAre_of : ∀ {ys : List Str} {us : List Value}, Vals (ys.map V.str) us → StrsAre us ys
  | [], [], _ => .nil
  | [], _ :: _, h => nomatch h
  | _ :: _, [], h => nomatch h
  | y :: r, u :: us, h => by
    cases h with
    | cons a b =>
      obtain ⟨t, rfl⟩ := a
      exact .cons y t (strsAre_of b)
/-! ### == of lists, of tuples: flat items -/
def eqAtJ (xs ys : List V) (j : Nat) : Bool := match xs[j]?, ys[j]? with
  | some x, some y => eqV x y
  | _, _ => false
def eqVs (xs ys : List V) : Bool := xs.length == ys.length && (List.range xs.length).all (eqAtJ xs ys)
theorem eqVs_strs (ns ms : List Str) : eqVs (ns.map V.str) (ms.map V.str) = decide (ns = ms) := by
  rw [Bool.eq_iff_iff]
  unfold eqVs
  simp only [Bool.and_eq_true, beq_iff_eq, List.length_map, List.all_eq_true, List.mem_range, decide_eq_true_eq]
  constructor
  · rintro ⟨h1, h2⟩
    apply List.ext_getElem h1
    intro j a b
    have := h2 j a
    unfold eqAtJ at this
    rw [List.getElem?_map, List.getElem?_map, List.getElem?_eq_getElem a, List.getElem?_eq_getElem b] at this
    simpa [eqV] using this
  · rintro rfl
    refine ⟨rfl, fun j hj => ?_⟩
    unfold eqAtJ
    rw [List.getElem?_map, List.getElem?_eq_getElem hj]
    simp [eqV]
theorem flat_ints (ns : List Int) : (ns.map V.int).all flatV = true := by
  rw [List.all_eq_true]; intro x hx; obtain ⟨n, _, rfl⟩ := List.mem_map.mp hx; rfl
theorem flat_strs (ns : List Str) : (ns.map V.str).all flatV = true := by
  rw [List.all_eq_true]; intro x hx; obtain ⟨n, _, rfl⟩ := List.mem_map.mp hx; rfl
theorem eqAt_items {A : Around} {s : Shared} {xs ys : List V} {us ws : List Value} (r1 : Vals xs us) (r2 : Vals ys ws) (f1 : xs.all flatV = true) (f2 : ys.all flatV = true) (j : Nat) (h1 : j < us.toArray.size) (h2 : j < ws.toArray.size) :
    SeqAt.EqAt A s us.toArray[j] ws.toArray[j] (eqAtJ xs ys j) := by
  have g1 : j < xs.length := by rw [r1.length]; simpa using h1
  have g2 : j < ys.length := by rw [r2.length]; simpa using h2
  obtain ⟨u, e1, q1⟩ := r1.get (List.getElem?_eq_getElem g1)
  obtain ⟨v, e2, q2⟩ := r2.get (List.getElem?_eq_getElem g2)
  have d1 : us.toArray[j] = u := by
    rw [List.getElem?_eq_getElem (by simpa using h1)] at e1
    simpa using Option.some.inj e1
  have d2 : ws.toArray[j] = v := by
    rw [List.getElem?_eq_getElem (by simpa using h2)] at e2
    simpa using Option.some.inj e2
  rw [d1, d2]
  unfold eqAtJ
  rw [List.getElem?_eq_getElem g1, List.getElem?_eq_getElem g2]
  exact eqAt_V q1 q2 (List.all_eq_true.mp f1 _ (List.getElem_mem g1)) (List.all_eq_true.mp f2 _ (List.getElem_mem g2))
theorem op_eq_lst (hu : X.A.units < cLine) : OpR X (compareOp .Eq) (fun x y H Q => ∃ a b xs ys, x = .ref a ∧ y = .ref b ∧ SqL X.K H a xs ∧ SqL X.K H b ys ∧ xs.all flatV = true ∧ ys.all flatV = true ∧ Q (.bl (eqVs xs ys)) H) := by
  intro pins s σ H x y v u Q I rx ry h
  obtain ⟨a, b, xs, ys, rfl, rfl, h1, h2, f1, f2, q⟩ := h
  cases (show v = Value.ref a from rx)
  cases (show u = Value.ref b from ry)
  obtain ⟨us, r1, l1, _⟩ := I.list h1
  obtain ⟨ws, r2, l2, _⟩ := I.list h2
  have e1 := r1.length
  have e2 := r2.length
  by_cases hl : xs.length = ys.length
  · refine SeqAt.eq_listAt (e := eqAtJ xs ys) l1.isList l2.isList (by simp; omega) hu (fun j g1 g2 => eqAt_items r1 r2 f1 f2 j g1 g2) ⟨.bl _, H, I, rfl, ?_⟩
    have : eqVs xs ys = (List.range us.toArray.size).all (eqAtJ xs ys) := by
      unfold eqVs
      rw [List.size_toArray, ← e1, beq_iff_eq.mpr hl, Bool.true_and]
    rw [← this]; exact q
  · refine SeqAt.eq_list_lengthsAt l1.isList l2.isList (by simp; omega) hu ⟨.bl _, H, I, rfl, ?_⟩
    have : eqVs xs ys = false := by
      unfold eqVs
      have : (xs.length == ys.length) = false := by simpa using hl
      rw [this]; rfl
    rw [this] at q; exact q
end
/-! ### comprehensions over a list, enumerate, zip -/
section
variable {NL : List Str} {ix : List Nat} {g : TG} {tt : TT} {te : TE} {σ : St} {H1 : Hp} {Qs : Hp → Prop} {acc : Addr}
theorem comp_lst {K : PySem.W.Frag} {a : Addr} {xs : List V} (hn : xs.length < 1000) (Pv : Nat → List V → Hp → Prop)
    (hl : ∀ i ys H2, Pv i ys H2 → SqL K H2 a xs) (hacc : ∀ i ys H2, Pv i ys H2 → H2 acc = some (.lst ys) ∧ ys.length ≤ i) (h0 : Pv 0 [] (upd H1 acc (.lst []))) (hstop : ∀ ys H2, Pv xs.length ys H2 → Qs H2)
    (hturn : ∀ i x ys H2, xs[i]? = some x → Pv i ys H2 → g x (comp0 NL ix σ) H2 fun σ' H4 => σ'.drop NL.length = ix.map (fun j => σ.getD j none) ∧ tt σ' H4 fun b H5 =>
      if b = true then te σ' H5 fun v H6 => H6 acc = some (.lst ys) ∧ Pv (i + 1) (ys ++ [v]) (upd H6 acc (.lst (ys ++ [v]))) else Pv (i + 1) ys H5) :
    ∃ W : Nat → Nat → List V → Hp → Prop, (∃ m, W 0 m [] (upd H1 acc (.lst []))) ∧
    ∀ i m ys H2, W i m ys H2 → H2 acc = some (.lst ys) ∧ ys.length < sizeLine ∧
      (((Itl K a).stop i H2 ∧ Qs H2) ∨ ((Itl K a).go i H2 ∧ ∃ N : List V → Hp → Prop, (∀ ys' H', N ys' H' → ∃ m', m' < m ∧ W (i + 1) m' ys' H') ∧
        ∀ x H3, (Itl K a).yld i H2 x H3 → g x (comp0 NL ix σ) H3 fun σ' H4 => σ'.drop NL.length = ix.map (fun j => σ.getD j none) ∧ tt σ' H4 fun b H5 =>
          if b = true then te σ' H5 fun v H6 => H6 acc = some (.lst ys) ∧ N (ys ++ [v]) (upd H6 acc (.lst (ys ++ [v]))) else N ys H5)) := by
  refine comp_by xs.length hn Pv hacc h0 (fun ys H2 hp => ⟨⟨xs, hl _ _ _ hp, Nat.le_refl _⟩, hstop ys H2 hp⟩) fun i ys H2 hi hp => ?_
  have hs := hl _ _ _ hp
  refine ⟨⟨xs, xs[i], hs, List.getElem?_eq_getElem hi⟩, ?_⟩
  rintro x H3 ⟨rfl, hx⟩
  exact hturn i x ys H3 (hx xs hs) hp
theorem comp_enum {κ : SK} {xs : List V} (hn : xs.length < 1000) (Pv : Nat → List V → Hp → Prop)
    (hl : ∀ i ys H2, Pv i ys H2 → κ.has H2 xs) (hacc : ∀ i ys H2, Pv i ys H2 → H2 acc = some (.lst ys) ∧ ys.length ≤ i) (h0 : Pv 0 [] (upd H1 acc (.lst []))) (hstop : ∀ ys H2, Pv xs.length ys H2 → Qs H2)
    (hturn : ∀ (i : Nat) x ys H2 p, xs[i]? = some x → Pv i ys H2 → H2 p = none → g (.ref p) (comp0 NL ix σ) (upd H2 p (.tup [.int i, x])) fun σ' H4 => σ'.drop NL.length = ix.map (fun j => σ.getD j none) ∧ tt σ' H4 fun b H5 =>
      if b = true then te σ' H5 fun v H6 => H6 acc = some (.lst ys) ∧ Pv (i + 1) (ys ++ [v]) (upd H6 acc (.lst (ys ++ [v]))) else Pv (i + 1) ys H5) :
    ∃ W : Nat → Nat → List V → Hp → Prop, (∃ m, W 0 m [] (upd H1 acc (.lst []))) ∧
    ∀ i m ys H2, W i m ys H2 → H2 acc = some (.lst ys) ∧ ys.length < sizeLine ∧
      (((Ite κ).stop i H2 ∧ Qs H2) ∨ ((Ite κ).go i H2 ∧ ∃ N : List V → Hp → Prop, (∀ ys' H', N ys' H' → ∃ m', m' < m ∧ W (i + 1) m' ys' H') ∧
        ∀ x H3, (Ite κ).yld i H2 x H3 → g x (comp0 NL ix σ) H3 fun σ' H4 => σ'.drop NL.length = ix.map (fun j => σ.getD j none) ∧ tt σ' H4 fun b H5 =>
          if b = true then te σ' H5 fun v H6 => H6 acc = some (.lst ys) ∧ N (ys ++ [v]) (upd H6 acc (.lst (ys ++ [v]))) else N ys H5)) := by
  refine comp_by xs.length hn Pv hacc h0 (fun ys H2 hp => ⟨⟨xs, hl _ _ _ hp, rfl⟩, hstop ys H2 hp⟩) fun i ys H2 hi hp => ?_
  have hs := hl _ _ _ hp
  refine ⟨⟨xs, xs[i], hs, List.getElem?_eq_getElem hi⟩, ?_⟩
  rintro x H3 ⟨p, x', rfl, hpn, rfl, hx⟩
  exact hturn i x' ys H2 p (hx xs hs) hp hpn
end
theorem kit_int_bool (K : PySem.W.Frag) : PySem.W.kitOne K (.type "int") (.type "bool") = some false := by rfl
theorem kit_same (K : PySem.W.Frag) (T : String) : PySem.W.kitOne K (.type T) (.type T) = some true := by
  unfold PySem.W.kitOne
  rw [if_pos (beq_self_eq_true _)]
/-! ### a deck of three ints that is drawn from; the third counts -/
abbrev Deck (H : Hp) (p : Addr) (c : Int) : Prop := ∃ x y z : Int, H p = some (.lst [.int x, .int y, .int z]) ∧ 0 ≤ z ∧ z ≤ c
structure Kd (p : Addr) (c : Int) (H H' : Hp) : Prop where
  deck : Deck H' p c
  keep : ∀ b o, b ≠ p → H b = some o → H' b = some o
section
variable {p q : Addr} {H H1 H2 : Hp} {o : HO} {c d : Int}
theorem Deck.mono (h : Deck H p c) (e : c ≤ d) : Deck H p d := let ⟨x, y, z, a, b, f⟩ := h; ⟨x, y, z, a, b, Int.le_trans f e⟩
theorem Kd.mono (h : Kd p c H H1) (e : c ≤ d) : Kd p d H H1 := ⟨h.deck.mono e, h.keep⟩
theorem Kd.refl (h : Deck H p c) : Kd p c H H := ⟨h, fun _ _ _ e => e⟩
theorem Kd.trans (a : Kd p c H H1) (b : Kd p d H1 H2) : Kd p d H H2 := ⟨b.deck, fun k u hc e => b.keep k u hc (a.keep k u hc e)⟩
theorem Kd.new (a : Kd p c H H1) (hq : H1 q = none) : Kd p c H (upd H1 q o) := by
  obtain ⟨⟨x, y, z, e, r⟩, k⟩ := a
  refine ⟨⟨x, y, z, by rw [upd_ne (ne_of_none e hq)]; exact e, r⟩, fun b u hc h => ?_⟩
  have := k b u hc h
  rw [upd_ne (ne_of_none this hq)]; exact this
theorem Kd.write (a : Kd p c H H1) (hq : H q = none) (hp : q ≠ p) : Kd p c H (upd H1 q o) := by
  obtain ⟨⟨x, y, z, e, r⟩, k⟩ := a
  refine ⟨⟨x, y, z, by rw [upd_ne (Ne.symm hp)]; exact e, r⟩, fun b u hc h => ?_⟩
  rw [upd_ne (ne_of_none h hq)]; exact k b u hc h
theorem Deck.ne (h : Deck H p c) (hq : H q = none) : q ≠ p := by
  obtain ⟨x, y, z, e, _⟩ := h
  exact Ne.symm (ne_of_none e hq)
theorem Kd.same (a : Kd p c H H1) (s : Same H1 H2) : Kd p c H H2 := by
  obtain ⟨⟨x, y, z, e, r⟩, k⟩ := a
  exact ⟨⟨x, y, z, s _ _ e, r⟩, fun b u hc h => s _ _ (k b u hc h)⟩
theorem Kd.fresh (a : Kd p c H H1) (hq : H1 q = none) : H q = none := by
  cases e : H q with
  | none => rfl
  | some u =>
    have := a.keep q u (a.deck.ne hq) e
    rw [hq] at this; cases this
end
end L2


set_option Elab.async false
set_option linter.all false
set_option maxRecDepth 100000
set_option maxHeartbeats 4000000
namespace L2
open PySem PySem.Spec PyProof.Rows
section
variable {X : Cx}
theorem best_le (f : Nat → Int) : ∀ n, argBest (fun i j => decide (f i > f j)) n ≤ n ∧ ∀ i, i ≤ n → f i ≤ f (argBest (fun i j => decide (f i > f j)) n)
  | 0 => ⟨Nat.le_refl _, fun i h => by have : i = 0 := by omega
                                       subst this; exact Int.le_refl _⟩
  | n + 1 => by
    obtain ⟨a, b⟩ := best_le f n
    unfold argBest
    by_cases h : f (n + 1) > f (argBest (fun i j => decide (f i > f j)) n)
    · rw [decide_eq_true h, if_pos rfl]
      refine ⟨Nat.le_refl _, fun i hi => ?_⟩
      rcases Nat.lt_or_ge i (n + 1) with c | c
      · have := b i (by omega); omega
      · have : i = n + 1 := by omega
        rw [this]; exact Int.le_refl _
    · rw [decide_eq_false h, if_neg Bool.false_ne_true]
      refine ⟨by omega, fun i hi => ?_⟩
      rcases Nat.lt_or_ge i (n + 1) with c | c
      · exact b i (by omega)
      · have : i = n + 1 := by omega
        rw [this]; omega
/-- the greatest of a list of numbers -/
theorem call_max1 (hc : X.calm = true) : CallR X (.builtin "max") (fun vs H Q => ∃ (a : Addr) (ns : List Int), vs = [.ref a] ∧ SqL X.K H a (ns.map V.int) ∧ ns ≠ [] ∧ ∀ m : Int, m ∈ ns → (∀ x ∈ ns, x ≤ m) → Q (.int m) H) := by
  intro pins s σ H xs us Q I r h
  obtain ⟨a, ns, rfl, hl, hne, q⟩ := h
  obtain ⟨u, rfl, ru⟩ := vals1 r
  cases (show u = Value.ref a from ru)
  obtain ⟨its, rv, ht, hz⟩ := I.list hl
  have hlen := rv.length
  rw [List.length_map] at hlen
  have hh : X.A.in1.handled = none := I.ok.hd hc
  have hlt : a < s.heap.objs.size := by obtain ⟨o, e, _⟩ := ht.isList; exact Heap.lt_size e
  have hpos : 0 < ns.length := List.length_pos_iff.mpr hne
  refine call_max_walk (wpAny_pyIter_list ht.isList ⟨s.heap.objs.size, _, _, _, _, _, _, rfl, Walks.list hh s.heap.objs.size a (Nat.ne_of_lt hlt) its.toArray, ?_, ?_, ?_, CmpOf.ints_gt (fun i => ns.getD i 0) ?_, ?_⟩)
  · exact ⟨⟨_, Heap.get?_push_size _ rfl, rfl, rfl⟩, Heap.IsList.push ht.isList _⟩
  · intro b hb
    have : b = s.heap.objs.size ∨ b = a := by simpa using hb
    show b < (s.heap.objs.push _).size
    rw [Array.size_push]
    rcases this with rfl | rfl
    · exact Nat.lt_succ_self _
    · exact Nat.lt_succ_of_lt hlt
  · rw [List.size_toArray, ← hlen]; exact hpos
  · intro i v hv
    have hv' : its[i]? = some v := by simpa using hv
    have hi : i < (ns.map V.int).length := by rw [List.length_map, hlen]; exact (List.getElem?_eq_some_iff.mp hv').1
    obtain ⟨u', e1, e2⟩ := rv.get (List.getElem?_eq_getElem hi)
    rw [hv'] at e1
    cases e1
    rw [List.getElem_map] at e2
    obtain ⟨t, e2⟩ : ∃ t, v = Value.int _ t := e2
    have hb : ns.getD i 0 = ns[i]'(by simpa using hi) := by rw [List.getD_eq_getElem?_getD, List.getElem?_eq_getElem (by simpa using hi)]; rfl
    exact ⟨t, by rw [hb]; exact e2⟩
  · intro v h' tk hv hk
    rw [List.size_toArray, ← hlen] at hv
    obtain ⟨b1, b2⟩ := best_le (fun i => ns.getD i 0) (ns.length - 1)
    generalize argBest (fun i j => decide (ns.getD i 0 > ns.getD j 0)) (ns.length - 1) = m at hv b1 b2
    have hv' : its[m]? = some v := by simpa using hv
    have hi : m < (ns.map V.int).length := by rw [List.length_map]; omega
    obtain ⟨u', e1, e2⟩ := rv.get (List.getElem?_eq_getElem hi)
    rw [hv'] at e1
    cases e1
    rw [List.getElem_map] at e2
    have hb : ns.getD m 0 = ns[m]'(by omega) := by rw [List.getD_eq_getElem?_getD, List.getElem?_eq_getElem (by omega)]; rfl
    refine ⟨.int (ns[m]'(by omega)), H, ?_, e2, q _ (List.getElem_mem _) fun x hx => ?_⟩
    · exact I.kept (t' := tk) fun b o e => hk b o (by simp; exact Nat.ne_of_lt (Heap.lt_size e)) (Heap.get?_push_of_some _ e)
    · obtain ⟨j, hj, rfl⟩ := List.getElem_of_mem hx
      have g := b2 j (by omega)
      have hb2 : ns.getD j 0 = ns[j] := by rw [List.getD_eq_getElem?_getD, List.getElem?_eq_getElem hj]; rfl
      show ns[j] ≤ _
      rw [← hb, ← hb2]; exact g
/-! ### != of lists of flat things -/
end
end L2


set_option Elab.async false
set_option linter.all false
set_option maxRecDepth 100000
set_option maxHeartbeats 4000000
namespace L2
open PySem PySem.Spec PyProof.Rows
section
variable {X : Cx}
theorem strsAre_get {vs : List Value} {ss : List Str} (h : StrsAre vs ss) : Vals (ss.map V.str) vs := by
  induction h with
  | nil => exact .nil
  | cons y t _ ih => exact .cons ⟨t, rfl⟩ ih
/-- a list of texts sorted: one with the same texts, in order -/
theorem call_sorted_strs : CallR X (.builtin "sorted") (fun vs H Q => ∃ (a : Addr) (ss : List Str), vs = [.ref a] ∧ SqL X.K H a (ss.map V.str) ∧ ss.length < 64 ∧
    ∀ (ss' : List Str) (l : Addr), ss'.Perm ss → sortedS ss' = true → H l = none → Q (.ref l) (upd H l (.lst (ss'.map V.str)))) := by
  intro pins s σ H xs us Q I r h
  obtain ⟨a, ss, rfl, hl, h64, q⟩ := h
  obtain ⟨u, rfl, ru⟩ := vals1 r
  cases (show u = Value.ref a from ru)
  obtain ⟨its, rv, ht, hz⟩ := I.list hl
  have hlen := rv.length
  rw [List.length_map] at hlen
  refine sorted_strs ht.isList (strsAre_of rv) (by omega) fun out ss' a1 a2 a3 => ?_
  obtain ⟨e, he⟩ := sortedAll_at s.heap its out
  have l2 := a2.length_eq
  refine ⟨.ref (s.heap.objs.size + 1), _, I.laid (t' := s.toks) (fun _ _ => sortedAll_old) (Nat.le_succ _) (show ObjOk X.prog X.w _ _ _ (.lst (ss'.map V.str)) from ⟨?_, out.toList, e, strsAre_get a1, he⟩), rfl, q ss' _ a2 a3 (I.hok.fresh (Nat.le_succ _))⟩
  rw [List.length_map]
  exact Nat.le_of_lt (small1000 (by omega))
theorem range_all (bs : List Bool) : (List.range bs.length).all (fun i => bs.getD i true) = bs.all id := by
  rw [Bool.eq_iff_iff, List.all_eq_true, List.all_eq_true]
  constructor
  · intro h b hb
    obtain ⟨i, hi, rfl⟩ := List.getElem_of_mem hb
    have := h i (List.mem_range.mpr hi)
    rw [List.getD_eq_getElem?_getD, List.getElem?_eq_getElem hi] at this
    exact this
  · intro h i hi
    have hi' := List.mem_range.mp hi
    rw [List.getD_eq_getElem?_getD, List.getElem?_eq_getElem hi']
    exact h _ (List.getElem_mem hi')
theorem call_all (hc : X.calm = true) : CallR X (.builtin "all") (fun vs H Q => ∃ (a : Addr) (bs : List Bool), vs = [.ref a] ∧ SqL X.K H a (bs.map V.bl) ∧ Q (.bl (bs.all id)) H) := by
  intro pins s σ H xs us Q I r h
  obtain ⟨a, bs, rfl, hl, q⟩ := h
  obtain ⟨u, rfl, ru⟩ := vals1 r
  cases (show u = Value.ref a from ru)
  obtain ⟨its, rv, ht, hz⟩ := I.list hl
  have hlen := rv.length
  rw [List.length_map] at hlen
  have hh : X.A.in1.handled = none := I.ok.hd hc
  have hlt : a < s.heap.objs.size := by obtain ⟨o, e, _⟩ := ht.isList; exact Heap.lt_size e
  refine call_all_walk (wpAny_pyIter_list ht.isList ⟨s.heap.objs.size, _, _, _, _, _, fun i => bs.getD i true, rfl, Walks.list hh s.heap.objs.size a (Nat.ne_of_lt hlt) its.toArray, ?_, ?_, ?_⟩)
  · exact ⟨⟨_, Heap.get?_push_size _ rfl, rfl, rfl⟩, Heap.IsList.push ht.isList _⟩
  · intro i v s' Q' E' hv hQ
    have hv' : its[i]? = some v := by simpa using hv
    have hi : i < (bs.map V.bl).length := by rw [List.length_map, hlen]; exact (List.getElem?_eq_some_iff.mp hv').1
    obtain ⟨u', e1, e2⟩ := rv.get (List.getElem?_eq_getElem hi)
    rw [hv'] at e1
    cases e1
    rw [List.getElem_map] at e2
    cases (show v = Value.bool _ from e2)
    refine wpAny_truthy_bool ?_
    have hb : bs.getD i true = bs[i]'(by simpa using hi) := by rw [List.getD_eq_getElem?_getD, List.getElem?_eq_getElem (by simpa using hi)]; rfl
    rw [← hb]
    exact hQ
  · intro h' tk hk
    refine ⟨.bl (bs.all id), H, ?_, ?_, q⟩
    · exact I.kept (t' := tk) fun b o e => hk b o (by simp; exact Nat.ne_of_lt (Heap.lt_size e)) (Heap.get?_push_of_some _ e)
    · show Value.bool _ = Value.bool _
      rw [← range_all, hlen, List.size_toArray]
end
end L2


set_option Elab.async false
set_option linter.all false
set_option maxRecDepth 100000
set_option maxHeartbeats 4000000
/-! sorting, as the questions that it asks: of things told apart by a pure order the answer is the rising one -/
namespace L2
open PySem.W PyProof.Rows
section
variable {α β : Type} {n : Nat} {lt : Nat → Nat → Bool}
structure TotB (n : Nat) (lt : Nat → Nat → Bool) : Prop where
  asym : ∀ i j, lt i j = true → lt j i = false
  tr : ∀ i j k, lt j i = false → lt k j = false → lt k i = false
  tot : ∀ i j, i < n → j < n → lt i j = false → lt j i = false → i = j
def PermN (n : Nat) (p : Array Nat) : Prop := p.toList.Perm (List.range n)
theorem PermN.sz {p : Array Nat} (h : PermN n p) : p.size = n := by
  have := List.Perm.length_eq h
  simpa using this
theorem PermN.below {p : Array Nat} (h : PermN n p) (h0 : 0 < n) (k : Nat) : p.getD k 0 < n := by
  rw [Array.getD_eq_getD_getElem?]
  cases e : p[k]? with
  | none => exact h0
  | some x =>
    have : x ∈ p.toList := by
      have := Array.mem_of_getElem? e
      exact Array.mem_toList_iff.mpr this
    exact List.mem_range.mp ((List.Perm.mem_iff h).mp this)
theorem PermN.inj {p : Array Nat} (h : PermN n p) {i j : Nat} (hi : i < n) (hj : j < n) (e : p.getD i 0 = p.getD j 0) : i = j := by
  have nd : p.toList.Nodup := (List.Perm.nodup_iff h).mpr List.nodup_range
  have s := h.sz
  have hi' : i < p.toList.length := by rw [Array.length_toList, s]; exact hi
  have hj' : j < p.toList.length := by rw [Array.length_toList, s]; exact hj
  rw [Array.getD_eq_getD_getElem?, Array.getD_eq_getD_getElem?, Array.getElem?_eq_getElem (by omega), Array.getElem?_eq_getElem (by omega)] at e
  have e' : p.toList[i] = p.toList[j] := by simpa using e
  exact (List.getElem_inj nd).mp e'
variable (o : TotB n lt)
include o
end
open PySem PySem.Spec
/-! ### tuples of ints and texts, held against one another -/
def shV : V → Nat
  | .int _ => 1
  | .str _ => 2
  | _ => 0
def ltV : V → V → Bool
  | .int i, .int j => decide (i < j)
  | .str a, .str b => decide (a.cps.toList < b.cps.toList)
  | _, _ => false
def lexV : List V → List V → Bool
  | x :: xs, y :: ys => if x = y then lexV xs ys else ltV x y
  | [], _ :: _ => true
  | _, _ => false
theorem str_eq {a b : Str} (h : a.cps.toList = b.cps.toList) : a = b := by
  obtain ⟨x⟩ := a; obtain ⟨y⟩ := b
  have : x = y := Array.toList_inj.mp h
  rw [this]
theorem two_kinds {x y : V} (hs : shV x = shV y) (h0 : shV x ≠ 0) : (∃ i j, x = .int i ∧ y = .int j) ∨ ∃ a b, x = .str a ∧ y = .str b := by
  cases x <;> cases y <;> simp [shV] at hs h0 ⊢
theorem ltV_asym {x y : V} (h : ltV x y = true) : ltV y x = false := by
  cases x <;> cases y <;> simp [ltV] at h ⊢
  · omega
  · exact List.not_lt.mp (List.lt_asymm h)
theorem ltV_tot {x y : V} (hs : shV x = shV y) (h0 : shV x ≠ 0) (h1 : ltV x y = false) (h2 : ltV y x = false) : x = y := by
  rcases two_kinds hs h0 with ⟨i, j, rfl, rfl⟩ | ⟨a, b, rfl, rfl⟩
  · have h1' : ¬ i < j := of_decide_eq_false h1
    have h2' : ¬ j < i := of_decide_eq_false h2
    rw [show i = j by omega]
  · have h1' : ¬ a.cps.toList < b.cps.toList := of_decide_eq_false h1
    have h2' : ¬ b.cps.toList < a.cps.toList := of_decide_eq_false h2
    rw [str_eq (List.le_antisymm (List.not_lt.mp h2') (List.not_lt.mp h1'))]
theorem ltV_tr {x y z : V} (hs : shV x = shV y) (ht : shV y = shV z) (h0 : shV x ≠ 0) (h1 : ltV y x = false) (h2 : ltV z y = false) : ltV z x = false := by
  rcases two_kinds hs h0 with ⟨i, j, rfl, rfl⟩ | ⟨a, b, rfl, rfl⟩
  · rcases two_kinds ht (by simp [shV]) with ⟨_, k, e, rfl⟩ | ⟨_, _, e, _⟩
    · have h1' : ¬ j < i := of_decide_eq_false h1
      cases e
      have h2' : ¬ k < j := of_decide_eq_false h2
      exact decide_eq_false (by omega)
    · cases e
  · rcases two_kinds ht (by simp [shV]) with ⟨_, _, e, _⟩ | ⟨_, c, e, rfl⟩
    · cases e
    · cases e
      have h1' : ¬ b.cps.toList < a.cps.toList := of_decide_eq_false h1
      have h2' : ¬ c.cps.toList < b.cps.toList := of_decide_eq_false h2
      exact decide_eq_false (List.not_lt.mpr (List.le_trans (List.not_lt.mp h1') (List.not_lt.mp h2')))
theorem lexV_asym : ∀ (xs ys : List V), lexV xs ys = true → lexV ys xs = false
  | x :: xs, y :: ys, h => by
    unfold lexV at h ⊢
    by_cases e : x = y
    · rw [if_pos e] at h; rw [if_pos e.symm]; exact lexV_asym xs ys h
    · rw [if_neg e] at h; rw [if_neg (Ne.symm e)]; exact ltV_asym h
  | [], _ :: _, _ => rfl
  | [], [], h => by cases h
  | _ :: _, [], h => by cases h
theorem lexV_tot : ∀ (xs ys : List V), xs.map shV = ys.map shV → 0 ∉ xs.map shV → lexV xs ys = false → lexV ys xs = false → xs = ys
  | x :: xs, y :: ys, hs, h0, h1, h2 => by
    simp only [List.map_cons, List.cons.injEq] at hs
    simp only [List.map_cons, List.mem_cons, not_or] at h0
    unfold lexV at h1 h2
    by_cases e : x = y
    · rw [if_pos e] at h1; rw [if_pos e.symm] at h2
      rw [e, lexV_tot xs ys hs.2 h0.2 h1 h2]
    · rw [if_neg e] at h1; rw [if_neg (Ne.symm e)] at h2
      exact absurd (ltV_tot hs.1 (Ne.symm h0.1) h1 h2) e
  | [], [], _, _, _, _ => rfl
  | [], _ :: _, hs, _, _, _ => by cases hs
  | _ :: _, [], hs, _, _, _ => by cases hs
theorem lexV_tr : ∀ (xs ys zs : List V), xs.map shV = ys.map shV → ys.map shV = zs.map shV → 0 ∉ xs.map shV → lexV ys xs = false → lexV zs ys = false → lexV zs xs = false
  | x :: xs, y :: ys, z :: zs, hs, ht, h0, h1, h2 => by
    simp only [List.map_cons, List.cons.injEq] at hs ht
    simp only [List.map_cons, List.mem_cons, not_or] at h0
    unfold lexV at h1 h2 ⊢
    by_cases e : y = x
    · rw [if_pos e] at h1
      by_cases f : z = y
      · rw [if_pos f] at h2; rw [if_pos (f.trans e)]; exact lexV_tr xs ys zs hs.2 ht.2 h0.2 h1 h2
      · rw [if_neg f] at h2; rw [if_neg (fun q => f (q.trans e.symm)), ← e]; exact h2
    · rw [if_neg e] at h1
      by_cases f : z = y
      · rw [if_pos f] at h2; rw [if_neg (fun q => e (f.symm.trans q)), f]; exact h1
      · rw [if_neg f] at h2
        by_cases g : z = x
        · exact absurd (ltV_tot hs.1.symm (by rw [← hs.1]; exact Ne.symm h0.1) h1 (by rw [← g]; exact h2)) e
        · rw [if_neg g]; exact ltV_tr hs.1 ht.1 (Ne.symm h0.1) h1 h2
  | [], [], [], _, _, _, _, _ => rfl
  | [], _ :: _, _, hs, _, _, _, _ => by cases hs
  | _ :: _, [], _, hs, _, _, _, _ => by cases hs
  | [], [], _ :: _, _, ht, _, _, _ => by cases ht
  | _ :: _, _ :: _, [], _, ht, _, _, _ => by cases ht
/-- keys of one shape, told apart -/
structure Keys (n : Nat) (K : Nat → List V) (sh : List Nat) : Prop where
  shp : ∀ i, (K i).map shV = sh
  ne : sh ≠ []
  z : 0 ∉ sh
  inj : ∀ i j, i < n → j < n → K i = K j → i = j
theorem Keys.tot {n : Nat} {K : Nat → List V} {sh : List Nat} (k : Keys n K sh) : TotB n (fun i j => lexV (K i) (K j)) where
  asym := fun i j h => lexV_asym _ _ h
  tr := fun i j l h1 h2 => lexV_tr _ _ _ ((k.shp i).trans (k.shp j).symm) ((k.shp j).trans (k.shp l).symm) (by rw [k.shp]; exact k.z) h1 h2
  tot := fun i j hi hj h1 h2 => k.inj i j hi hj (lexV_tot _ _ ((k.shp i).trans (k.shp j).symm) (by rw [k.shp]; exact k.z) h1 h2)
section
variable {prog : Program} {w : World} {A : Around} {E : Value → Shared → Prop} {s : Shared} {Q : Bool → Shared → Prop}
/-- the keys lie on the heap as tuples -/
def KeysOn (h : Heap) (ks : List Value) (K : Nat → List V) : Prop := ∀ (i : Nat) (v : Value), ks[i]? = some v → ∃ a its, v = .ref a ∧ IsTup h a its.toArray ∧ Vals (K i) its
theorem KeysOn.keeps {h h' : Heap} {ks : List Value} {K : Nat → List V} (x : KeysOn h ks K) (k : ∀ b o, o.cls = .type "tuple" → h.get? b = some o → h'.get? b = some o) : KeysOn h' ks K := fun i v hv => by
  obtain ⟨a, its, rfl, ⟨o, ho, hc, r⟩, q⟩ := x i v hv
  exact ⟨a, its, rfl, ⟨o, k _ _ hc ho, hc, r⟩, q⟩
variable {n : Nat} {K : Nat → List V} {sh : List Nat} {ks : List Value}
end
end L2


set_option Elab.async false
set_option linter.all false
set_option maxRecDepth 100000
set_option maxHeartbeats 4000000
/-! sorted: of a list of tuples; of a range by a key that is a lambda -/
namespace L2
open PySem PySem.Spec PyProof.Rows PySem.W
section
variable {prog : Program} {w : World} {A : Around} {E : Value → Shared → Prop} {s : Shared} {K : Nat → List V} {sh : List Nat} {vs : List Value}
end
section
variable {X : Cx}
end
end L2


set_option Elab.async false
set_option linter.all false
set_option maxRecDepth 100000
set_option maxHeartbeats 4000000
namespace L2
open PySem PySem.Spec PyProof.Rows PySem.W
section
variable {X : Cx} {pins : List (Addr × Obj)} {σ : St} {H : Hp} {s : Shared}
end
end L2


set_option Elab.async false
set_option linter.all false
set_option maxRecDepth 100000
set_option maxHeartbeats 4000000
/-! a lambda of one parameter: made, called; a range as a thing; sorted(range(..), key=lambda ..) -/
namespace L2
open PySem PySem.Spec PyProof.Rows PySem.W

/-! ### the table of a def's code object, in which its lambda's code is kept from the first making on -/
def codeO (c : Addr) (qual : Str) : HO := .ext fun h => h.CodeRec (.ref c) qual
def LamAt (P : Addr) (lp : Pos) (qual : Str) (H : Hp) : Prop := ∃ ps, H P = some (.tbl ps) ∧ TriplesOk ps.toList ∧ (codeAmong lp ps.toList = none ∨ ∃ c, codeAmong lp ps.toList = some (.ref c) ∧ H c = some (codeO c qual))
abbrev Lm := Addr × Pos × Str
/-- every lambda of the list has its place -/
def Lams (ls : List Lm) (H : Hp) : Prop := ∀ l ∈ ls, LamAt l.1 l.2.1 l.2.2 H
/-- no two stand at one place of the text -/
def LmOk (ls : List Lm) : Prop := ∀ l ∈ ls, ∀ m ∈ ls, l = m ∨ ¬ (l.2.1.line = m.2.1.line ∧ l.2.1.col = m.2.1.col)
structure Kt (ls : List Lm) (H H' : Hp) : Prop where
  lam : Lams ls H'
  keep : ∀ b o, (∀ ps, o ≠ .tbl ps) → H b = some o → H' b = some o
  here : ∀ b, H' b = none → H b = none
theorem codeAmong_other {pos p2 : Pos} {c : Value} (hne : ¬ (p2.line = pos.line ∧ p2.col = pos.col)) (l : List Value) (h : TriplesOk l) : codeAmong pos (l ++ [rawInt p2.line, rawInt p2.col, c]) = codeAmong pos l := by
  fun_induction TriplesOk l with
  | case1 =>
    have e : ((p2.line : Int) == (pos.line : Int) && (p2.col : Int) == (pos.col : Int)) = false := by
      rw [Bool.eq_false_iff]
      intro z
      rw [Bool.and_eq_true, beq_iff_eq, beq_iff_eq] at z
      exact hne ⟨by have := z.1; omega, by have := z.2; omega⟩
    show (if ((p2.line : Int) == (pos.line : Int) && (p2.col : Int) == (pos.col : Int)) then some c else codeAmong pos []) = codeAmong pos []
    rw [e]; rfl
  | case2 a t b u x rest ih =>
    simp only [List.cons_append, codeAmong]
    rw [ih h]
  | case3 l h1 h2 => exact h.elim
section
variable {P q : Addr} {lp : Pos} {qual : Str} {H H1 H2 : Hp} {o : HO} {ls : List Lm} {xs : List V}
theorem LamAt.same (a : LamAt P lp qual H) (s : Same H H1) : LamAt P lp qual H1 := by
  obtain ⟨ps, a, b, c⟩ := a
  refine ⟨ps, s _ _ a, b, ?_⟩
  rcases c with c | ⟨d, c, e⟩
  · exact .inl c
  · exact .inr ⟨d, c, s _ _ e⟩
theorem LamAt.start (h : H P = some (.tbl #[])) : LamAt P lp qual H := ⟨#[], h, trivial, .inl rfl⟩
theorem Lams.same (a : Lams ls H) (s : Same H H1) : Lams ls H1 := fun l hl => (a l hl).same s
theorem LamAt.write (a : LamAt P lp qual H) (h : H q = some (.lst xs)) : LamAt P lp qual (upd H q o) := by
  obtain ⟨ps, a, b, c⟩ := a
  refine ⟨ps, by rw [upd_ne (ne_of a h (by intro z; cases z))]; exact a, b, ?_⟩
  rcases c with c | ⟨d, c, e⟩
  · exact .inl c
  · exact .inr ⟨d, c, by rw [upd_ne (ne_of e h (by intro z; cases z))]; exact e⟩
theorem Kt.refl (a : Lams ls H) : Kt ls H H := ⟨a, fun _ _ _ e => e, fun _ e => e⟩
theorem Kt.trans (a : Kt ls H H1) (b : Kt ls H1 H2) : Kt ls H H2 := ⟨b.lam, fun c u hc e => b.keep c u hc (a.keep c u hc e), fun c e => a.here c (b.here c e)⟩
theorem Kt.same (a : Kt ls H H1) (s : Same H1 H2) : Kt ls H H2 := ⟨a.lam.same s, fun c u hc e => s _ _ (a.keep c u hc e), fun c e => a.here c (s.free e)⟩
theorem Same.kt (s : Same H H1) (b : Kt ls H1 H2) : Kt ls H H2 := ⟨b.lam, fun c u hc e => b.keep c u hc (s _ _ e), fun c e => s.free (b.here c e)⟩
theorem Kt.of (s : Same H H1) (a : Lams ls H) : Kt ls H H1 := (Kt.refl a).same s
theorem Kt.write (a : Kt ls H H1) (hq : H q = none) (h : H1 q = some (.lst xs)) : Kt ls H (upd H1 q o) :=
  ⟨fun l hl => (a.lam l hl).write h, fun b u hb e => by rw [upd_ne (ne_of_none e hq)]; exact a.keep b u hb e, fun b e => by
    by_cases z : b = q
    · rw [z, upd_same] at e; cases e
    · rw [upd_ne z] at e; exact a.here b e⟩
theorem Kt.lst (a : Kt ls H H1) (h : H q = some (.lst xs)) : H1 q = some (.lst xs) := a.keep _ _ (fun _ z => by cases z) h
theorem Kt.tup (a : Kt ls H H1) (h : H q = some (.tup xs)) : H1 q = some (.tup xs) := a.keep _ _ (fun _ z => by cases z) h
theorem Kt.seq {K : PySem.W.Frag} (a : Kt ls H H1) (h : SqL K H q xs) : SqL K H1 q xs := by
  rcases h with (h | ⟨ob, h⟩) | h
  · exact .inl (.inl (a.lst h))
  · exact .inl (.inr ⟨ob, a.keep _ _ (fun _ z => by cases z) h⟩)
  · exact .inr h
end

/-! ### the context of a lambda's body -/
def cxLam (X : Cx) (scope : Scope) (NL : List Str) (ix : List Nat) (qual : Str) (cl : List (Str × Addr)) (fa : Addr) (cd : Value) (A1 : Around) (s₃ : Shared) (H₃ : Hp) (pins : List (Addr × Obj)) : Cx where
  prog := X.prog
  w := X.w
  K := X.K
  mg := X.mg
  base := X.base
  A := A1.deeper (envX qual scope s₃.heap.objs.size fa cd cl)
  N := NL ++ ix.map fun j => X.N.getD j ""
  s₀ := s₃
  H₀ := H₃
  env := envX qual scope s₃.heap.objs.size fa cd cl
  outer := X.stack
  stack := envX qual scope s₃.heap.objs.size fa cd cl :: X.stack
  ex := []
  fn := fun _ => false
  calm := X.calm
  pn := X.pn ++ pins
  xe := fun _ _ => False
def lam0 (v : V) (ix : List Nat) (σ : St) : St := some v :: ix.map fun j => σ.getD j none
section
variable {X : Cx} {pins : List (Addr × Obj)} {σ : St} {H : Hp} {s : Shared}
theorem lam_inv {scope : Scope} {x : Str} {ix : List Nat} {qual : Str} {cl : List (Str × Addr)} {fa : Addr} {cd : Value} {A1 : Around} {s₃ : Shared} {h₁ : Heap} {m : Str → Option Value} {tk : Nat} {v : V} {u : Value}
    (S : CompScope X scope [x] ix) (I : Inv X pins σ H s₃) (c1 : ∀ x c, cl.lookup x = some c → X.env.cells.lookup x = some c) (c2 : ∀ x, (x, NameKind.free) ∈ scope.names → ∃ c, cl.lookup x = some c)
    (hfr : A1.frames = some X.stack) (hh : A1.handled = none) (hx : scope.names.lookup x = some .local) (hmx : m x = some u) (ru : RelV v u)
    (hn : h₁.Ns s₃.heap.objs.size m) (old : ∀ b o, s₃.heap.get? b = some o → h₁.get? b = some o) :
    Inv (cxLam X scope [x] ix qual cl fa cd A1 s₃ H pins) [] (lam0 v ix σ) H { s₃ with heap := h₁, toks := tk } := by
  have e0 := I.env0
  have lt : ∀ b o, s₃.heap.get? b = some o → b ≠ s₃.heap.objs.size := fun b o e => Nat.ne_of_lt (Heap.lt_size e)
  have noA : ∀ b : Addr, b ∉ (cxLam X scope [x] ix qual cl fa cd A1 s₃ H pins).ex := fun b z => absurd (show b ∈ ([] : List Addr) from z) (by simp)
  have nst : ∀ b, b ≠ X.env.locals → b ∉ X.fs → b ∉ frs X.stack := fun b h1 h2 h3 => (List.mem_cons.mp (I.stkSub b h3)).elim h1 h2
  have ok : (cxLam X scope [x] ix qual cl fa cd A1 s₃ H pins).Ok :=
    { mod := I.ok.mod
      kind := S.kind
      glob := rfl
      blt := rfl
      above := Nat.le_refl _
      inj := fun x y c h1 h2 => I.ok.inj x y c (c1 x c h1) (c1 y c h2)
      has := fun y hy => by
        have hy' : scope.names.lookup y = some .cell ∨ scope.names.lookup y = some .free := hy
        rcases hy' with q | q
        · exact absurd rfl (S.cell _ (lookup_mem q))
        · exact c2 y (lookup_mem q)
      cab := fun _ _ z => nomatch z
      hd := fun _ => hh
      frames := Around.frames_deeper hfr
      stk := .inr ⟨rfl, rfl⟩
      exf := fun b hb => absurd hb (noA b)
      bs := I.bs
      bsz := e0.bsz
      noex := fun b _ _ => noA b
      exfs := fun b hb => absurd hb (noA b)
      funs := e0.funs
      frf := e0.frf }
  refine ⟨ok, rfl, I.bare, Un.kept old, ⟨m, hn, fun i y w e1 e2 e3 => ?_⟩, fun y c e => ?_, I.hok.fresh (Nat.le_refl _), fun y c e => I.freeC y c (c1 y c e), fun p hp => ?_, I.hok.kept old, ?_⟩
  · cases i with
    | zero =>
      have ey : x = y := by simpa [cxLam] using e1
      have ev : v = w := by simpa [lam0] using e2
      subst ey; subst ev
      exact ⟨u, ru, .inl ⟨hx, hmx⟩⟩
    | succ i =>
      have e1' : (ix.map fun j => X.N.getD j "")[i]? = some y := by simpa [cxLam] using e1
      have e2' : (ix.map fun j => σ.getD j none)[i]? = some (some w) := by simpa [lam0] using e2
      rw [List.getElem?_map] at e1' e2'
      cases q : ix[i]? with
      | none => rw [q] at e1'; cases e1'
      | some j =>
        rw [q] at e1' e2'
        have e1'' : X.N.getD j "" = y := Option.some.inj e1'
        have e2'' : σ.getD j none = some w := Option.some.inj e2'
        obtain ⟨x', hx', hfr'⟩ := S.cap j (List.mem_of_getElem? q)
        have exx : x' = y := by
          rw [← e1'', List.getD_eq_getElem?_getD, hx']; rfl
        subst exx
        have hσ : σ[j]? = some (some w) := by
          rw [List.getD_eq_getElem?_getD] at e2''
          cases z : σ[j]? with
          | none => rw [z] at e2''; cases e2''
          | some o => rw [z] at e2''; exact congrArg some e2''
        have kd := S.free _ (lookup_mem hfr') rfl
        have vis : Vis X.env.scope x' := by
          rcases kd with z | z
          · exact .inr (.inl z)
          · exact .inr (.inr z)
        obtain ⟨m', hn', hl'⟩ := I.loc
        obtain ⟨u', r, l⟩ := hl' j x' w hx' hσ vis
        refine ⟨u', r, .inr ⟨.inr hfr', ?_⟩⟩
        obtain ⟨c, hc⟩ := c2 x' (lookup_mem hfr')
        rcases l with ⟨k, _⟩ | ⟨k, c', ec, o, ho', hd⟩
        · rcases kd with z | z
          · rw [k] at z; cases z
          · rw [k] at z; cases z
        · have : c' = c := by
            have := c1 x' c hc
            rw [ec] at this
            exact Option.some.inj this
          subst this
          exact ⟨c', hc, o, old _ _ ho', hd⟩
  · obtain ⟨v', o, ho', hd⟩ := I.cell y c (c1 y c e)
    exact ⟨v', o, old _ _ ho', hd⟩
  · have hp' : p ∈ X.pn ++ pins := by
      rcases List.mem_append.mp hp with z | z
      · exact z
      · exact nomatch z
    obtain ⟨e, n, ne, nf, d⟩ := I.pin p hp'
    exact ⟨old _ _ e, n, lt _ _ e, nst _ ne nf, d⟩
  · show (some v :: ix.map fun j => σ.getD j none).length = ([x] ++ ix.map fun j => X.N.getD j "").length
    simp
/-- a lambda is called -/
theorem lam_call {scope : Scope} {x : Str} {ix : List Nat} {nm qual : Str} {params : Arguments} {body : Expr} {cl : List (Str × Addr)} {fa c : Addr} {pm ctv : Value} {A1 : Around} {te : TE} {v : V} {u : Value} {Q : VK}
    (S : CompScope X scope [x] ix) (I : Inv X pins σ H s) (c1 : ∀ x c, cl.lookup x = some c → X.env.cells.lookup x = some c) (c2 : ∀ x, (x, NameKind.free) ∈ scope.names → ∃ c, cl.lookup x = some c)
    (ho : s.heap.get? fa = some (kla_obj nm qual params body scope cl pm c ctv)) (hcd : s.heap.CodeRec (.ref c) qual) (hfr : A1.frames = some X.stack) (hh : A1.handled = none) (hroom : A1.depth < recursionLimit)
    (hbind : ∀ u : Value, bindArgs (kla_fn nm qual params body scope cl pm (.ref c) ctv) ⟨[u], []⟩ = pure [(x, u)]) (hx : scope.names.lookup x = some .local) (hco : scope.isCoroutine = false) (hgen : scope.isGenerator = false)
    (hb : ∀ (s₃ : Shared) (H₃ : Hp), PE (cxLam X scope [x] ix qual cl fa (.ref c) A1 s₃ H₃ pins) body te) (ru : RelV v u) (q : te (lam0 v ix σ) H Q) :
    wpAny (model X.prog X.w) A1 (call (.ref fa) [u]) (EP X pins σ Q) (fun _ _ => False) s := by
  refine wpAny_call (kla_callFunE hroom ho rfl hco hgen rfl hcd ?_)
  rw [hbind u]
  refine wpAny_pure (wpAny_newFunctionEnv S.cell (fun y hy => ?_) (fun h₁ hns hsb => ⟨(I.nolimit).fresh _ hsb, ?_⟩) S.kind)
  · obtain rfl : y = (x, u) := by simpa using hy
    exact hx
  show codeAny _ _ (.expr body (envX qual scope s.heap.objs.size fa (.ref c) cl)) _ _
  have hk₁ : ∀ b o, s.heap.get? b = some o → h₁.get? b = some o := fun b o e => hsb.extBut b o (Nat.ne_of_lt (Heap.lt_size e)) (Heap.get?_push_of_some _ e)
  have I1 := lam_inv (qual := qual) (fa := fa) (cd := .ref c) (A1 := A1) (tk := s.toks + [(x, u)].length) S I c1 c2 hfr hh hx (show (fun y => [(x, u)].reverse.lookup y) x = some u by simp) ru hns hk₁
  refine kla_codeExpr (wpAny_mono (hb s H [] _ (lam0 v ix σ) H Q I1 q) (fun v' s' hv => ?_) fun _ _ z => z.elim)
  obtain ⟨v2, H', J, rv, q'⟩ := hv
  exact I.after ⟨v2, H', J.os, J.bare, J.base, J.hok, rv, q'⟩

/-- a lambda is made: its code is kept in the table P of the def's code object -/
theorem lam_make {scope : Scope} {params : Arguments} {body : Expr} {lp : Pos} {cl : List (Str × Addr)} {c0 P : Addr} {ls : List Lm} {E : Value → Shared → Prop} {Q : Value → Shared → Prop} (I : Inv X pins σ H s) (hcl : closureFor scope X.env = pure cl) (hcode : X.env.code = .ref c0) (CH : CodeHd X.base c0 P)
    (hb : X.base.BuiltinsAt X.mg P) (lo : LmOk ls) (li : (P, lp, X.env.qual ++ "<lambda>") ∈ ls) (LL : Lams ls H) (hdef : defaultsOf params X.env = ([], []))
    (h : ∀ (fa c : Addr) (pm ctv : Value) (H' : Hp) (s' : Shared), Kt ls H H' → H' c = some (codeO c (X.env.qual ++ "<lambda>")) → Inv X (pins ++ [(fa, kla_obj "<lambda>" (X.env.qual ++ "<lambda>") params body scope cl pm c ctv)]) σ H' s' → Q (.ref fa) s') :
    wpAny (model X.prog X.w) X.A (eval (.Lambda params body scope lp) X.env) Q E s := by
  refine kla_eval hdef ?_
  have hgs : s.heap.Ns mainGlobals X.mg := I.mod.glob.keeps I.bk
  have C := CH.keeps I.bk
  have pinIt : ∀ {fa c : Addr} {pm ctv : Value} {H' : Hp} {h' : Heap} {tk : Nat}, Inv X pins σ H' { s with heap := h', toks := tk } → fa = h'.objs.size →
      Inv X (pins ++ [(fa, kla_obj "<lambda>" (X.env.qual ++ "<lambda>") params body scope cl pm c ctv)]) σ H' { s with heap := h'.push (kla_obj "<lambda>" (X.env.qual ++ "<lambda>") params body scope cl pm c ctv), toks := tk } := fun {fa c pm ctv H' h' tk} J e => by
    subst e
    have J2 := J.kept (t' := tk) (h' := h'.push (kla_obj "<lambda>" (X.env.qual ++ "<lambda>") params body scope cl pm c ctv)) fun b o e => Heap.get?_push_of_some _ e
    have f := J.fpOk (Nat.le_refl _) (J.hok.fresh (Nat.le_refl _))
    refine J2.pins_of fun p hp => ?_
    rcases List.mem_append.mp hp with z | z
    · exact J2.pin p (List.mem_append_right _ z)
    · obtain rfl := List.mem_singleton.mp z
      exact ⟨Heap.get?_push_size _ rfl, f.1, f.2.1, f.2.2.1, fun v z => by cases z⟩
  obtain ⟨bm, ob, b1, b2, b3, b4, b5, b6⟩ := hb
  have hbs : s.heap.BuiltinsAt X.mg P := ⟨bm, ob, b1, b2, b3, b4, I.bk _ _ b5, b6⟩
  obtain ⟨ps, L, tok, Lc⟩ := LL _ li
  dsimp only at L Lc
  rcases Lc with Lno | ⟨c, Lc, Hc⟩
  · have hP : s.heap.get? P = some (tabObj ps) := I.hok P _ L
    have hgP : mainGlobals ≠ P := fun q => by
      obtain ⟨o, es, ep, e, hd, _⟩ := hgs
      rw [q, hP] at e; cases e; cases hd
    refine kla_makeFunction (mg := X.mg) hcl I.ok.glob hgs hcode C hP tok Lno hgP hbs fun c ctv h' tk hx hge hlt hrec htb => ?_
    have hc0 : H c = none := I.hok.fresh hge
    have ncP : c ≠ P := fun e => by rw [e, L] at hc0; cases hc0
    have nP : ∀ b, H b = none → b ≠ P := fun b e z => by rw [z, L] at e; cases e
    have htb' : h'.get? P = some (tabObj (ps ++ #[rawInt lp.line, rawInt lp.col, .ref c])) := htb
    have hc1 : ∃ oc, h'.get? c = some oc := by
      obtain ⟨_, oc, _, _, e, ho, _⟩ := id hrec
      cases e; exact ⟨oc, ho⟩
    have J : Inv X pins σ (upd (upd H P (.tbl (ps ++ #[rawInt lp.line, rawInt lp.col, .ref c]))) c (codeO c (X.env.qual ++ "<lambda>"))) { s with heap := h', toks := tk } := by
      have at1 : ∀ b, b ≠ P → b ≠ c → upd (upd H P (.tbl (ps ++ #[rawInt lp.line, rawInt lp.col, .ref c]))) c (codeO c (X.env.qual ++ "<lambda>")) b = H b := fun b h1 h2 => by rw [upd_ne h2, upd_ne h1]
      have atP : upd (upd H P (.tbl (ps ++ #[rawInt lp.line, rawInt lp.col, .ref c]))) c (codeO c (X.env.qual ++ "<lambda>")) P = some (.tbl (ps ++ #[rawInt lp.line, rawInt lp.col, .ref c])) := by rw [upd_ne (Ne.symm ncP), upd_same]
      have old : ∀ b o, s.heap.get? b = some o → b ≠ c := fun b o e z => absurd (Heap.lt_size e) (by rw [z]; exact Nat.not_lt.mpr hge)
      have trk : ∀ b o, H b = some o → b ≠ c := fun b o e => ne_of_none e hc0
      refine I.step (g' := s.gens) (d' := s.drawn) (ch := []) (fun _ z => nomatch z) (fun b o _ _ _ e n => hx b o (nP b n) e) (fun b o _ _ _ e n => ⟨o.slots, hx b o (nP b n) e⟩) (fun b o _ e n => by rw [at1 b (nP b n) (old b o e)]; exact n) (fun b o _ e => ?_)
        (fun b xs e => by rw [at1 b (fun z => by rw [z, L] at e; cases e) (trk b _ e)]; exact e) (fun b ob u e => by rw [at1 b (fun z => by rw [z, L] at e; cases e) (trk b _ e)]; exact e) (fun b ps e => ?_) (fun m hm => ?_) (fun b u e => ?_) I.bare
      · by_cases z : b = P
        · exact ⟨_, by rw [z]; exact htb'⟩
        · exact ⟨o, hx b o z e⟩
      · by_cases z : b = P
        · subst z
          rw [L] at e; cases e
          exact ⟨_, atP⟩
        · exact ⟨#[], by rw [at1 b z (trk b _ e), e]; simp⟩
      · obtain ⟨o, es, ep, e, r⟩ := hm
        exact ⟨o, es, ep, hx _ o (nP _ I.free) e, r⟩
      · by_cases z1 : b = c
        · subst z1
          rw [upd_same] at e; cases e
          refine ⟨hrec, hc1, fun h1 h2 p k => ?_⟩
          obtain ⟨c2, o2, vs2, t2, e2, g2, r2⟩ := p
          cases e2
          exact ⟨b, o2, vs2, t2, rfl, k _ g2, r2⟩
        · by_cases z2 : b = P
          · subst z2
            rw [atP] at e; cases e
            exact htb'
          · rw [at1 b z2 z1] at e
            refine (I.hok b u e).stay (fun d v hd q => hx d v ?_ q) (fun d q => by rw [at1 d (fun z => by rw [z, L] at q; cases q) (trk d _ q)]; exact q) fun d xs q => by rw [at1 d (fun z => by rw [z, L] at q; cases q) (trk d _ q)]; exact q
            rcases hd with z | z
            · rw [z]; exact z2
            · exact fun y => by rw [y, L] at z; cases z
    refine h h'.objs.size c _ ctv _ _ ⟨fun l hl => ?_, fun b o hb e => ?_, fun b e => ?_⟩ upd_same (pinIt J rfl)
    · obtain ⟨qs, q1, q2, q3⟩ := LL l hl
      by_cases z : l.1 = P
      · rw [z] at q1 ⊢
        rw [L] at q1
        cases q1
        refine ⟨_, by rw [upd_ne (Ne.symm ncP), upd_same], by rw [Array.toList_append]; exact TriplesOk_snoc _ _ _ _ q2, ?_⟩
        rw [Array.toList_append]
        rcases lo _ li l hl with y | y
        · subst y
          exact .inr ⟨c, codeAmong_snoc _ tok Lno, upd_same⟩
        · show codeAmong l.2.1 (ps.toList ++ [rawInt lp.line, rawInt lp.col, .ref c]) = none ∨ _
          have eo := codeAmong_other (c := .ref c) y ps.toList tok
          dsimp only at eo
          rcases q3 with q3 | ⟨d, q3, q4⟩
          · exact .inl (eo.trans q3)
          · exact .inr ⟨d, eo.trans q3, by rw [upd_ne (ne_of_none q4 hc0), upd_ne (fun y => by rw [y, L] at q4; cases q4)]; exact q4⟩
      · refine ⟨qs, by rw [upd_ne (ne_of_none q1 hc0), upd_ne z]; exact q1, q2, ?_⟩
        rcases q3 with q3 | ⟨d, q3, q4⟩
        · exact .inl q3
        · exact .inr ⟨d, q3, by rw [upd_ne (ne_of_none q4 hc0), upd_ne (fun y => by rw [y, L] at q4; cases q4)]; exact q4⟩
    · rw [upd_ne (ne_of_none e hc0), upd_ne (fun z => by rw [z, L] at e; cases e; exact hb _ rfl)]; exact e
    · by_cases z1 : b = c
      · rw [z1]; exact hc0
      · rw [upd_ne z1] at e
        by_cases z2 : b = P
        · rw [z2, upd_same] at e; cases e
        · rw [upd_ne z2] at e; exact e
  · have hP : s.heap.get? P = some (tabObj ps) := I.hok P _ L
    refine kla_makeFunctionHit (mg := X.mg) (cv := .ref c) hcl I.ok.glob hgs hcode C hP tok Lc hbs fun ctv h' tk hk hsz => ?_
    exact h h'.objs.size c _ ctv H _ (Kt.refl LL) Hc (pinIt (I.kept (t' := tk) hk) rfl)
end
end L2


set_option Elab.async false
set_option linter.all false
set_option maxRecDepth 100000
set_option maxHeartbeats 4000000
namespace L2
open PySem PySem.Spec PyProof.Rows PySem.W
section
variable {prog : Program} {w : World} {A : Around} {E : Value → Shared → Prop} {s : Shared}
end
section
variable {X : Cx}
end
end L2


set_option Elab.async false
set_option linter.all false
set_option maxRecDepth 100000
set_option maxHeartbeats 4000000
/-! the head, where one def of the text makes a lambda: its table is tracked -/
namespace L2
open PySem PySem.Spec PyProof.Rows PySem.W
theorem noTabs_none {K : Frag} {h : Heap} {P : Addr} {ps : Array Value} (X : K.In h) (hK : noTabs K = true) (hP : h.get? P = some (tabObj ps)) : K.lookup P = none := by
  cases e : K.lookup P with
  | none => rfl
  | some o =>
    have e1 := X P o e
    rw [hP] at e1
    cases e1
    have h2 := List.all_eq_true.mp hK (P, tabObj ps) (mem_of_lookupK e)
    exact absurd (show false = true from h2) Bool.false_ne_true
/-- what the promise of the law's def may use of the def named nm, whose lambda's code is kept in the table at T -/
structure TabAt (base : Heap) (mg : Str → Option Value) (nm : Str) (T : Addr) : Prop where
  fn : ∃ a o fd c, mg nm = some (.ref a) ∧ base.get? a = some o ∧ o.data = .func fd ∧ fd.code = .ref c ∧ CodeHd base c T
  blt : base.BuiltinsAt mg T
inductive Two {α β : Type} (R : α → β → Prop) : List α → List β → Prop
  | nil : Two R [] []
  | cons {a b xs ys} : R a b → Two R xs ys → Two R (a :: xs) (b :: ys)
theorem forall2_imp {α β : Type} {R S : α → β → Prop} (h : ∀ a b, R a b → S a b) : ∀ {xs : List α} {ys : List β}, Two R xs ys → Two S xs ys
  | [], [], _ => .nil
  | _ :: _, _ :: _, .cons a b => .cons (h _ _ a) (forall2_imp h b)
theorem law_callT {P : Program} {w : World} {K : Frag} {mg mb : Str → Option Value} {CX : CXT} {k : Nat} {fa a : Addr} {Ts : List Addr} {nms : List Str} {fd : FuncData} {x : Str} {sp : Sp} {s₁ : Shared} {vs : List Value} {ns : List Int}
    (KX : K.In s₁.heap) (hns : s₁.heap.Ns mainGlobals mg) (hb : s₁.heap.Ns builtinsNs mb) (hbb : ∀ x : Str, x ≠ "__name__" → mb x = bootBuiltins x) (hlim : s₁.heap.NoLimit) (hg : s₁.gens = #[])
    (ha : s₁.heap.get? a = some { cls := .type "list", data := .seq vs.toArray }) (hi : IntsAre vs ns) (hl : ns.length ≤ sizeLine) (hr : Room k callerA)
    (hT : ∀ T ∈ Ts, s₁.heap.get? T = some (tabObj #[])) (hTc : ∀ T ∈ Ts, isCodeTable s₁.heap T) (hTA : Two (TabAt s₁.heap mg) nms Ts) (hnt : noTabs K = true)
    (F : ∀ base : Heap, K.In base → base.Ns mainGlobals mg → Two (TabAt base mg) nms Ts → FnOk P w K mg base CX k fa fd [x] sp) (hbind : ∀ (s : Shared) (u : Value), BindsTo s fd ⟨[u], []⟩ [(x, u)])
    (hsp : ∀ H : Hp, (∀ T ∈ Ts, H T = some (.tbl #[])) → SqL K H a (ns.map V.int) → sp [.ref a] H (fun v _ => v = .bl true) fun _ _ _ => False)
    (hCX : ∀ H e s', CX [] H s₁ (fun _ _ _ => False) e s' → False) :
    codeAny (model P w) callerA (.call (.ref fa) ⟨[.ref a], []⟩) (fun r s' => r = .ok (.ret (.bool true)) ∧ OldK s₁.heap s'.heap ∧ s'.os = s₁.os ∧ AllBare s'.gens) s₁ := by
  have rv := vals_ints hi
  have lenV := hi.length
  have aT : a ∉ Ts := fun e => by rw [hT a e] at ha; cases ha
  have core : ∀ H : Hp, (∀ T ∈ Ts, H T = some (.tbl #[])) → SqL K H a (ns.map V.int) → HOk P w H s₁.heap → (∀ b, H b ≠ none → b = a ∨ b ∈ Ts) → (H a ≠ none → K.lookup a = none) → (∀ u, H a = some u → ∃ xs, u = .frz { cls := .type "list", data := .seq vs.toArray } (.lst xs)) →
      codeAny (model P w) callerA (.call (.ref fa) ⟨[.ref a], []⟩) (fun r s' => r = .ok (.ret (.bool true)) ∧ OldK s₁.heap s'.heap ∧ s'.os = s₁.os ∧ AllBare s'.gens) s₁ := by
    intro H hHT hS hok hA hK hF
    have base_of : ∀ {b : Addr} {o : Obj}, s₁.heap.get? b = some o → H b = none → (hidT s₁.heap H).get? b = some o := fun e n => hidT_get e n
    have free : ∀ {b : Addr} {o : Obj}, s₁.heap.get? b = some o → o.cls ≠ .type "list" → o.cls ≠ .none → H b = none := fun {b o} e c1 c2 => by
      cases q : H b with
      | none => rfl
      | some u =>
        rcases hA b (by rw [q]; simp) with z | z
        · subst z; rw [ha] at e; cases e; exact absurd rfl c1
        · rw [hT b z] at e; cases e; exact absurd rfl c2
    have noA : ∀ {b : Addr} {o : Obj} {es : Array DictEntry} {ep : Nat}, s₁.heap.get? b = some o → o.data = .dict es ep → H b = none := fun {b o es ep} e d => by
      cases q : H b with
      | none => rfl
      | some u =>
        rcases hA b (by rw [q]; simp) with z | z
        · subst z; rw [ha] at e; cases e; cases d
        · rw [hT b z] at e; cases e; cases d
    have nsK : ∀ {b : Addr} {m : Str → Option Value}, s₁.heap.Ns b m → (hidT s₁.heap H).Ns b m := fun {b m} ⟨o, es, ep, e, d, r⟩ => ⟨o, es, ep, base_of e (noA e d), d, r⟩
    have hKb : K.In (hidT s₁.heap H) := fun b o e => base_of (KX b o e) (by
      cases q : H b with
      | none => rfl
      | some u =>
        rcases hA b (by rw [q]; simp) with z | z
        · subst z; rw [hK (by rw [q]; simp)] at e; cases e
        · rw [noTabs_none KX hnt (hT b z)] at e; cases e)
    have hM : Mod K mg (hidT s₁.heap H) := ⟨hKb, nsK hns, ⟨mb, nsK hb, hbb⟩, let ⟨mc, h1, h2⟩ := hlim; ⟨mc, nsK h1, h2⟩⟩
    have hTb : Two (TabAt (hidT s₁.heap H) mg) nms Ts := forall2_imp (fun nm T hTA => by
      obtain ⟨⟨f, o, fd', c, e1, e2, e3, e4, o5, vs5, file, tf, flags, tg, inF, text, tt, f1, f2, r5⟩, bm, ob, b1, b2, b3, b4, b5, b6, b7⟩ := hTA
      refine ⟨⟨f, o, fd', c, e1, base_of e2 ?_, e3, e4, o5, vs5, file, tf, flags, tg, inF, text, tt, base_of f1 (free f1 (by rw [f2]; intro z; exact absurd (Value.type.inj z) (by decide)) (by rw [f2]; intro z; cases z)), f2, r5⟩, bm, ob, b1, b2, b3, b4, base_of b5 (free b5 (by rw [b6]; intro z; exact absurd (Value.type.inj z) (by decide)) (by rw [b6]; intro z; cases z)), b6, b7⟩
      cases q : H f with
      | none => rfl
      | some u =>
        rcases hA f (by rw [q]; simp) with z | z
        · subst z; rw [ha] at e2; cases e2; cases e3
        · rw [hT f z] at e2; cases e2; cases e3) hTA
    have e0 : Env0 P w K mg (hidT s₁.heap H) callerA [] s₁ H := ⟨rfl, hM, fun b o e => of_hidT e, Nat.le_of_eq (hidT_size _ _), trivial, fun b hb => absurd (show b ∈ ([] : List Addr) from hb) (by simp), hok, .of_eq hg⟩
    refine codeAny_mono ((F _ hKb (nsK hns) hTb).run callerA [] s₁ H ⟨[.ref a], []⟩ [.ref a] [.ref a] _ _ hr e0 (hbind s₁ (.ref a)) (.cons rfl .nil) (hsp H hHT hS)) fun r s' h => ?_
    cases r with
    | error e => exact (hCX H e s' h).elim
    | ok fl =>
      cases fl with
      | next => exact False.elim h
      | brk => exact False.elim h
      | cont => exact False.elim h
      | ret u =>
        obtain ⟨v, H', os, bare, un, hok', r', q⟩ := h
        have q' : v = .bl true := q
        subst q'
        obtain rfl : u = Value.bool true := r'
        have kept : ∀ b o, b ∉ Ts → s₁.heap.get? b = some o → s'.heap.get? b = some o := fun b o hbT e => by
          cases q : H b with
          | none => exact un.keep b o e q (by intro z; exact absurd (show b ∈ ([] : List Addr) from z) (by simp)) (by simp)
          | some u =>
            rcases hA b (by rw [q]; simp) with z | z
            · subst z
              obtain ⟨xs, z⟩ := hF u q
              subst z
              obtain ⟨e2, _⟩ := hok' b _ (un.frzs b _ _ q)
              rw [ha] at e; cases e
              exact e2
            · exact absurd z hbT
        have hT' : ∀ T ∈ Ts, ∃ more, s'.heap.get? T = some (tabObj (#[] ++ more)) := fun T hTm => by
          obtain ⟨more, eT⟩ := un.tbls T _ (hHT T hTm)
          exact ⟨more, hok' T _ eT⟩
        refine ⟨rfl, ⟨fun b o e => ?_, fun b o e => ?_⟩, os, bare⟩
        · by_cases z : b ∈ Ts
          · rw [hT b z] at e; cases e
            obtain ⟨more, hT''⟩ := hT' b z
            exact .inr (.inl ⟨hTc b z, rfl, #[], more, rfl, hT''⟩)
          · exact .inl (kept b o z e)
        · by_cases z : b ∈ Ts
          · obtain ⟨more, hT''⟩ := hT' b z
            exact ⟨_, hT''⟩
          · exact ⟨o, kept b o z e⟩
  cases hk : K.lookup a with
  | some o =>
    have e := KX a o hk
    rw [ha] at e
    cases e
    refine core (fun b => if b ∈ Ts then some (.tbl #[]) else none) (fun T hTm => if_pos hTm) (.inr ⟨_, vs.toArray, _, hk, rfl, rfl, rfl, by rw [List.size_toArray, lenV]; exact hl, by simpa using rv⟩) (fun b u z => ?_) (fun b z => ?_) (fun z => absurd (if_neg aT) z) (fun u z => by rw [if_neg aT] at z; cases z)
    · dsimp only at z
      by_cases hb : b ∈ Ts
      · rw [if_pos hb] at z; cases z; exact hT b hb
      · rw [if_neg hb] at z; cases z
    · by_cases hb : b ∈ Ts
      · exact .inr hb
      · exact absurd (if_neg hb) z
  | none =>
    refine core (fun b => if b ∈ Ts then some (.tbl #[]) else if b = a then some (.frz { cls := .type "list", data := .seq vs.toArray } (.lst (ns.map V.int))) else none) (fun T hTm => if_pos hTm)
      (.inl (.inr ⟨{ cls := .type "list", data := .seq vs.toArray }, by show (if a ∈ Ts then _ else _) = _; rw [if_neg aT, if_pos rfl]⟩)) (fun b u z => ?_) (fun b z => ?_) (fun _ => hk) (fun u z => ?_)
    · dsimp only at z
      by_cases hb : b ∈ Ts
      · rw [if_pos hb] at z; cases z; exact hT b hb
      · rw [if_neg hb] at z
        by_cases hb2 : b = a
        · rw [if_pos hb2] at z; cases z; subst hb2
          exact ⟨ha, by rw [List.length_map]; exact hl, vs, _, rv, ha⟩
        · rw [if_neg hb2] at z; cases z
    · by_cases hb : b ∈ Ts
      · exact .inr hb
      · by_cases hb2 : b = a
        · exact .inl hb2
        · exact absurd (show (if b ∈ Ts then _ else if b = a then _ else none) = none by rw [if_neg hb, if_neg hb2]) z
    · have z' : (if a ∈ Ts then some (HO.tbl #[]) else if a = a then some (.frz { cls := .type "list", data := .seq vs.toArray } (.lst (ns.map V.int))) else none) = some u := z
      rw [if_neg aT, if_pos rfl] at z'
      cases z'
      exact ⟨_, rfl⟩
theorem walk_ofT {l : PySem.W.OpenLaw} {n k : Nat} {q : Program} {loose : List Str} {XP : (Str → Option Value) → Heap → Prop} {YP : World → Heap → Prop} {d : DefRec} {dns : List DefRec} {K : Params → PySem.W.Frag} {CX : CXT} {sp : List Addr → PySem.W.Frag → Sp} {x : Str} {nms : List Str}
    (hn : l.most = some n) (hn2 : n ≤ sizeLine) (hdf : d.params.defaults = []) (hr : Room k callerA)
    (hY : ∀ (w : World) (h : Heap), YP w h → (K w.params).In h) (hfind : Two (fun nm dn => (recsOf q).find? (fun e => e.name == nm) = some dn) nms dns) (hnt : ∀ w : World, noTabs (K w.params) = true)
    (F : ∀ (w : World) (mg : Str → Option Value) (fa : Addr) (h : Heap), (K w.params).In h → h.Ns mainGlobals mg → mg d.name = some (.ref fa) →
      ∃ fd : FuncData, (∀ (s : Shared) (u : Value), BindsTo s fd ⟨[u], []⟩ [(x, u)]) ∧
        ∀ (Ts : List Addr) (base : Heap), (K w.params).In base → base.Ns mainGlobals mg → Two (TabAt base mg) nms Ts → FnOk l.prog w (K w.params) mg base CX k fa fd [x] (sp Ts (K w.params)))
    (hsp : ∀ (K : PySem.W.Frag) (Ts : List Addr) (H : Hp) (a : Addr) (ns : List Int), ns.length ≤ n → Ts.length = nms.length → (∀ T ∈ Ts, H T = some (.tbl #[])) → SqL K H a (ns.map V.int) → sp Ts K [.ref a] H (fun v _ => v = .bl true) fun _ _ _ => False)
    (hCX : ∀ (H : Hp) (s : Shared) (e : Value) (s' : Shared), CX [] H s (fun _ _ _ => False) e s' → False) :
    PySem.W.WalkO q loose XP YP l.row.toRowW d [] (fun f vs => PySem.call f vs) := by
  refine Att.attach_call hn hdf fun w s₀ s₁ mg mb fa o pm cd doc a vs ns G Y ho hd hcd hmg hobj hints hlen hg => ?_
  have KX := hY w _ Y
  obtain ⟨fd, hb, hF⟩ := F w mg fa _ KX G.T.g hmg
  have all : ∀ {nms : List Str} {dns : List DefRec}, Two (fun nm dn => (recsOf q).find? (fun e => e.name == nm) = some dn) nms dns → ∃ Ts : List Addr, Two (TabAt s₁.heap mg) nms Ts ∧ Ts.length = nms.length ∧ (∀ T ∈ Ts, s₁.heap.get? T = some (tabObj #[])) ∧ ∀ T ∈ Ts, isCodeTable s₁.heap T := by
    intro nms dns hf
    induction hf with
    | nil => exact ⟨[], .nil, rfl, fun T h => (by simp at h), fun T h => (by simp at h)⟩
    | @cons nm dn _ _ hfind _ ih =>
      obtain ⟨Ts, i1, i2, i3, i4⟩ := ih
      have en : dn.name = nm := beq_iff_eq.mp (List.find?_some (p := fun e : DefRec => e.name == nm) hfind)
      obtain ⟨f, o', fd', c, T, t1, t2, t3, t4, t5, t6⟩ := G.T.tab dn (List.mem_of_find?_eq_some hfind)
      rw [en] at t1
      obtain ⟨bm, ob, b1, b2, b3, b4, b5, b6⟩ := G.T.bmain
      have hbP : bm ≠ T := fun q => by
        have e := b3
        rw [q, t6.2] at e; cases e; cases b4
      have hbG : bm ≠ mainGlobals := fun q => by
        obtain ⟨o, es, ep, e, hd, _⟩ := G.T.g
        rw [q, e] at b3; cases b3; rw [hd] at b6; cases b6
      refine ⟨T :: Ts, .cons ⟨⟨f, o', fd', c, t1, t2, t3, t4, CodeHd.of t5 t6⟩, bm, ob, b1, b2, hbG, hbP, b3, b4, b5, b6⟩ i1, by simp [i2], fun T' h => ?_, fun T' h => ?_⟩
      · rcases List.mem_cons.mp h with z | z
        · rw [z]; exact t6.2
        · exact i3 T' z
      · rcases List.mem_cons.mp h with z | z
        · rw [z]; exact t6.isCodeTable
        · exact i4 T' z
  obtain ⟨Ts, i1, i2, i3, i4⟩ := all hfind
  exact law_callT (nms := nms) (Ts := Ts) KX G.T.g G.T.b G.T.builtins G.T.nolimit hg hobj hints (Nat.le_trans hlen hn2) hr i3 i4 i1 (hnt w)
    (fun base h1 h2 h3 => hF Ts base h1 h2 h3) hb (fun H hH hS => hsp (K w.params) Ts H a ns hlen i2 hH hS) fun H e s' => hCX H s₁ e s'
end L2
namespace L2
open PySem PySem.Spec PyProof.Rows PySem.W
/-- a def that makes a lambda: its code object and the table -/
theorem Df.hasT {P : Program} {w : World} {K : PySem.W.Frag} {mg : Str → Option Value} {base : Heap} {T : Addr} {x : Str} {st : Stmt} {N ps : List Str} {k : Nat} {sp : Sp} (D : Df K mg x st) (kb : K.In base) (TA : TabAt base mg x T) (S : FnScope N ps (defScope st))
    (hb : ∀ (kV doc pm : Value) (an : Option Addr) (cdv ct : Value) (us : List Value), us.length = ps.length → bindArgs (PySem.W.fnOf x x (defArgs st) (defBody st) (defScope st) .none kV doc pm an cdv ct) ⟨us, []⟩ = pure (ps.zip us))
    (len : ∀ vs H Q E, sp vs H Q E → vs.length = ps.length)
    (hbody : ∀ (f c : Addr) (A : Around) (outer : List Env) (s : Shared) (H : Hp) (vs : List V) (Q : VK) (E : XK), CodeHd base c T → Room k (A.deeper (envOfC x (defScope st) s.heap.objs.size f (.ref c))) → sp vs H Q E →
      ∃ t, PSs (cxOf CX0 P w K mg base N x (defScope st) f (.ref c) A outer s H E).nox (defBody st) t ∧ t { nx := fun _ H' => Q .non H', rt := Q } (start N vs) H) : Has P w K mg base x (k + 1) ps sp := by
  obtain ⟨f, fd, F, m⟩ := D
  have bd := F.binds hb
  have kp := F.kp
  obtain ⟨oc, od, kV, doc, pm, an, cdv, ct, osl, e, lk, hcd⟩ := F.ex
  obtain ⟨a, o, fd', c, t1, t2, t3, t4, t5⟩ := TA.fn
  have ea := m.symm.trans t1
  cases ea
  have eo := kb f _ lk
  rw [t2] at eo
  cases eo
  cases t3
  subst e
  have ec : cdv = .ref c := t4
  subst ec
  refine ⟨f, _, fn_of lk hcd S len fun A outer s H vs Q E hr hsp => ?_, bd, kp, m⟩
  obtain ⟨t, h, q⟩ := hbody f c A outer s H vs Q E t5 hr hsp
  exact ⟨t, h.nox, q⟩
theorem ix_listK {X : Cx} (K : PySem.W.Frag) (hK : X.K = K := by rfl) : IxR X (rIxL K) := by
  subst hK; exact ix_list
end L2


set_option Elab.async false
set_option linter.all false
set_option maxRecDepth 100000
set_option maxHeartbeats 4000000
/-! t < u of tuples of ints and texts of one shape -/
namespace L2
open PySem PySem.Spec PyProof.Rows
theorem eqAt_VV (A : Around) (s : Shared) {x y : V} {u v : Value} (hx : RelV x u) (hy : RelV y v) (hs : shV x = shV y) (h0 : shV x ≠ 0) : ∃ e, SeqAt.EqAt A s u v e ∧ (e = true ↔ x = y) := by
  rcases two_kinds hs h0 with ⟨i, j, rfl, rfl⟩ | ⟨a, b, rfl, rfl⟩
  · obtain ⟨t, rfl⟩ := hx
    obtain ⟨t', rfl⟩ := hy
    exact ⟨_, SeqAt.EqAt.int_int i t j t', by simp⟩
  · obtain ⟨t, rfl⟩ := hx
    obtain ⟨t', rfl⟩ := hy
    exact ⟨_, SeqAt.EqAt.str_str a t b t', by simp⟩
theorem rcLt_VV (A : Around) (s : Shared) {x y : V} {u v : Value} (hx : RelV x u) (hy : RelV y v) (hs : shV x = shV y) (h0 : shV x ≠ 0) (prog : Program) (w : World) (E : Value → Shared → Prop) (Q : Value → Shared → Prop) (h : Q (.bool (ltV x y)) s) :
    wpAny (model prog w) A (richCompare .Lt u v) Q E s := by
  rcases two_kinds hs h0 with ⟨i, j, rfl, rfl⟩ | ⟨a, b, rfl, rfl⟩
  · obtain ⟨t, rfl⟩ := hx
    obtain ⟨t', rfl⟩ := hy
    exact (PyProof.Rows.lt_int h : wpAny (model prog w) A (compareOp .Lt _ _) Q E s)
  · obtain ⟨t, rfl⟩ := hx
    obtain ⟨t', rfl⟩ := hy
    exact (PyProof.Rows.lt_str h : wpAny (model prog w) A (compareOp .Lt _ _) Q E s)
section
open PySem.SeqAt
open PySem.AutoSeq1 (wpAny_loadPart')
open PySem.MeetsSeq PySem.MeetsSeq2 PySem.MeetsSeq3
theorem tuple_lt_V (l b : Addr) (items items2 : Array Value) (n n2 : Nat) (dd dd2 : Option Addr) (sl sl2 : Array (Option Value)) (xs ys : List V) (hi : Vals xs items.toList) (hj : Vals ys items2.toList) (hs : xs.map shV = ys.map shV) (h0 : 0 ∉ xs.map shV) :
    Meets (Builtin.«tuple.__lt__» ⟨[.ref l, .ref b], []⟩)
      (fun _ R s => s.heap.get? l = some { cls := .type "tuple", dict := dd, data := .seq items n, slots := sl } ∧ s.heap.get? b = some { cls := .type "tuple", dict := dd2, data := .seq items2 n2, slots := sl2 } ∧
        R (.ok (.ret (.bool (lexV xs ys)))) s) :=
  .of_wp fun prog w A R s h => by
    obtain ⟨hp, g, d, tk, os⟩ := s; obtain ⟨hl, hb, h⟩ := h
    have f2 := AutoSeq1.sub_tuple_tuple
    have z1 : items.size = xs.length := by rw [hi.length]; simp
    have z2 : items2.size = ys.length := by rw [hj.length]; simp
    have z3 : xs.length = ys.length := by have := congrArg List.length hs; simpa using this
    wp_walk using wpAny_loadPart' hl, wpAny_loadPart' hb, wpAny_forIn_list _ (fun rest b s' => b.1 = none ∧ s' = ⟨hp, g, d, tk, os⟩ ∧ ∃ (vs ws : List Value) (xs' ys' : List V), rest = vs.zip ws ∧
      Vals xs' vs ∧ Vals ys' ws ∧ xs'.map shV = ys'.map shV ∧ 0 ∉ xs'.map shV ∧ R (.ok (.ret (.bool (lexV xs' ys')))) ⟨hp, g, d, tk, os⟩) _
    case turn =>
      rintro ⟨y, x⟩ rest b s' ⟨hb', rfl, vs, ws, xs', ys', hz, hvi, hwi, hsh, hz0, hR⟩
      cases hvi with
      | nil => rw [List.zip_nil_left] at hz; cases hz
      | cons ra hvi' =>
        cases hwi with
        | nil => rw [List.zip_nil_right] at hz; cases hz
        | cons rc hwi' =>
          rw [List.zip_cons_cons] at hz
          injection hz with hyx hrest
          injection hyx with hy hx
          subst hy hx
          simp only [List.map_cons, List.cons.injEq] at hsh
          simp only [List.map_cons, List.mem_cons, not_or] at hz0
          unfold lexV at hR
          obtain ⟨e, he, hiff⟩ := eqAt_VV A.in1 ⟨hp, g, d, tk, os⟩ ra rc hsh.1 (Ne.symm hz0.1)
          refine wpAny_bind (he prog w _ _ ?_)
          cases e with
          | true =>
            rw [if_pos (hiff.mp rfl)] at hR
            wp_walk
            exact ⟨rfl, rfl, _, _, _, _, hrest, hvi', hwi', hsh.2, hz0.2, hR⟩
          | false =>
            rw [if_neg (fun q => absurd (hiff.mpr q) Bool.false_ne_true)] at hR
            have hri := rcLt_VV A.in1 ⟨hp, g, d, tk, os⟩ ra rc hsh.1 (Ne.symm hz0.1) prog w
            wp_walk using hri
            exact ⟨_, rfl, by simpa using hR⟩
    case fin =>
      rintro ⟨b1, b2⟩ s' ⟨hb', rfl, vs, ws, xs', ys', hz, hvi, hwi, hsh, hz0, hR⟩
      simp only at hb'
      subst hb'
      have hv : lexV xs' ys' = decide (items.size < items2.size) := by
        rw [decide_eq_false (by omega)]
        cases hvi with
        | nil =>
          cases hwi with
          | nil => rfl
          | cons rc hw => cases hsh
        | cons ra hv =>
          cases hwi with
          | nil => cases hsh
          | cons rc hw =>
            rw [List.zip_cons_cons] at hz
            cases hz
      rw [hv] at hR
      wp_walk
      exact ⟨_, rfl, by simpa [Builtin.Tuple.tupleCompareSizes] using hR⟩
    case h =>
      exact ⟨rfl, rfl, items.toList, items2.toList, xs, ys, rfl, hi, hj, hs, h0, h⟩
end
section
variable {X : Cx}
end
end L2


set_option Elab.async false
set_option linter.all false
set_option maxRecDepth 100000
set_option maxHeartbeats 4000000
/-! repr of a list of whole numbers -/
namespace L2
open PySem PySem.Spec PyProof.Rows PySem.W
section
variable {X : Cx} {k : Nat}
end
end L2
namespace L2
open PySem PySem.Spec PyProof.Rows PySem.W
end L2


set_option Elab.async false
set_option linter.all false
set_option maxRecDepth 100000
set_option maxHeartbeats 4000000
/-! repr of a tree (a tuple of whole numbers and a text), of rows (a text, two tuples of truths) -/
namespace L2
open PySem PySem.Spec PyProof.Rows PySem.W
section
variable {X : Cx} {k : Nat}
end
end L2


set_option Elab.async false
set_option linter.all false
set_option maxRecDepth 100000
set_option maxHeartbeats 4000000
/-! repr of rows (a text, two tuples of truths); not in, max within a comprehension -/
namespace L2
open PySem PySem.Spec PyProof.Rows PySem.W
section
variable {X : Cx} {k : Nat}
theorem call_len_seqK (K : PySem.W.Frag) (hK : X.K = K := by rfl) : CallR X (.builtin "len") (fun xs H Q => ∃ p ys, xs = [.ref p] ∧ (SqL K H p ys ∨ SqT K H p ys) ∧ Q (.int (ys.length : Nat)) H) := by
  subst hK; exact call_len_seq
end
end L2


set_option Elab.async false
set_option linter.all false
set_option maxRecDepth 100000
set_option maxHeartbeats 4000000
/-! sets of texts -/
namespace L2
open PySem PySem.Spec PyProof.Rows PySem.W
def keyOf (e : Int × Value) : Str := match e.2 with | .str x _ => x | _ => Str.empty
/-- the entries and the table of a set of the texts S -/
structure SetS (w : World) (led : Bool) (es : Array (Int × Value)) (t : SetTable) (S : List Str) : Prop where
  ent : ∀ e ∈ es.toList, ∃ x tk, e = (hashStr w x, Value.str x tk)
  nd : (es.toList.map keyOf).Nodup
  mem : ∀ x, x ∈ es.toList.map keyOf ↔ x ∈ S
  fit : t.fits es.size = true
  led : t.led = led
  pl : es.size = 0 ∨ t.plain = false
theorem keyOf_perm {a b : List (Int × Value)} (p : a.Perm b) : (a.map keyOf).Perm (b.map keyOf) := p.map _
theorem SetS.grow {w : World} {led : Bool} {es es' : Array (Int × Value)} {t t' : SetTable} {S : List Str} {x : Str} {tk : Tok} (h : SetS w led es t S) (nx : x ∉ S) (p : es'.toList.Perm (es.push (hashStr w x, .str x tk)).toList) (f : t'.fits es'.size = true) (l : t'.led = led) (q : t'.plain = false) : SetS w led es' t' (S ++ [x]) where
  ent := fun e he => by
    have := p.mem_iff.mp he
    rw [Array.toList_push] at this
    rcases List.mem_append.mp this with z | z
    · exact h.ent e z
    · exact ⟨x, tk, List.mem_singleton.mp z⟩
  nd := by
    rw [(keyOf_perm p).nodup_iff, Array.toList_push, List.map_append, List.nodup_append]
    refine ⟨h.nd, by simp, fun a ha b hb => ?_⟩
    have hb' : b = x := by simpa [keyOf] using hb
    subst hb'
    exact fun e => nx (by rw [← e]; exact (h.mem a).mp ha)
  mem := fun y => by
    rw [(keyOf_perm p).mem_iff, Array.toList_push, List.map_append, List.mem_append, List.mem_append, h.mem y]
    simp [keyOf]
  fit := f
  led := l
  pl := .inr q
/-- a set of texts stands at a -/
structure SetA (w : World) (led : Bool) (h : Heap) (a : Addr) (S : List Str) (n : Nat) : Prop where
  ex : ∃ es ep t, h.get? a = some { cls := .type "set", data := .set es ep t } ∧ SetS w led es t S ∧ es.size ≤ n
section
variable {prog : Program} {w : World} {A : Around} {E : Value → Shared → Prop} {s : Shared}
end
end L2


set_option Elab.async false
set_option linter.all false
set_option maxRecDepth 100000
set_option maxHeartbeats 4000000
/-! set(a list of texts) -/
namespace L2
open PySem PySem.Spec PyProof.Rows PySem.W
section
variable {prog : Program} {w : World} {A : Around} {E : Value → Shared → Prop} {s : Shared}
theorem SetA.keeps {led : Bool} {h h' : Heap} {a : Addr} {S : List Str} {n : Nat} (x : SetA w led h a S n) (k : ∀ o, h.get? a = some o → h'.get? a = some o) : SetA w led h' a S n := by
  obtain ⟨es, ep, t, e, r⟩ := x
  exact ⟨es, ep, t, k _ e, r⟩
theorem SetA.start {h : Heap} {a : Addr} {led : Bool} (e : h.get? a = some { cls := .type "set", data := .set #[] 0 (SetTable.fresh 0 0 led) }) : SetA w led h a [] 0 :=
  ⟨#[], 0, _, e, ⟨fun x hx => by simp at hx, by simp, fun x => by simp, by rfl, rfl, .inl rfl⟩, Nat.le_refl _⟩
theorem SetA.typeIs {led : Bool} {a : Addr} {S : List Str} {n : Nat} (x : SetA w led s.heap a S n) : s.TypeIs (.ref a) "set" := by
  obtain ⟨es, ep, t, e, r⟩ := x
  exact ⟨_, e, rfl⟩
end
end L2


set_option Elab.async false
set_option linter.all false
set_option maxRecDepth 100000
set_option maxHeartbeats 4000000
/-! set(a list of texts): the call -/
namespace L2
open PySem PySem.Spec PyProof.Rows PySem.W
section
variable {prog : Program} {w : World} {A : Around} {E : Value → Shared → Prop} {s : Shared}
end
end L2


set_option Elab.async false
set_option linter.all false
set_option maxRecDepth 100000
set_option maxHeartbeats 4000000
/-! a set of texts is walked: in some order -/
namespace L2
open PySem PySem.Spec PyProof.Rows PySem.W
section
variable {prog : Program} {w : World} {A : Around} {E : Value → Shared → Prop}
variable {s : Shared}
end
end L2


set_option Elab.async false
set_option linter.all false
set_option maxRecDepth 100000
set_option maxHeartbeats 4000000
/-! a set of texts as a list, sorted -/
namespace L2
open PySem PySem.Spec PyProof.Rows PySem.W
section
variable {prog : Program} {w : World} {A : Around}
end
end L2


set_option Elab.async false
set_option linter.all false
set_option maxRecDepth 100000
set_option maxHeartbeats 4000000
/-! a set of texts as a list; sorted(set(a list of texts)) -/
namespace L2
open PySem PySem.Spec PyProof.Rows PySem.W
section
variable {prog : Program} {w : World} {A : Around} {E : Value → Shared → Prop} {s : Shared}
end
end L2


set_option Elab.async false
set_option linter.all false
set_option maxRecDepth 100000
set_option maxHeartbeats 4000000
/-! a set of texts as a list -/
namespace L2
open PySem PySem.Spec PyProof.Rows PySem.W
section
variable {prog : Program} {w : World} {A : Around} {E : Value → Shared → Prop} {s : Shared}
end
end L2


set_option Elab.async false
set_option linter.all false
set_option maxRecDepth 100000
set_option maxHeartbeats 4000000
/-! sorted(set(e)), e a list of texts; x.index(y) of a list of texts -/
namespace L2
open PySem PySem.Spec PyProof.Rows PySem.W
theorem Inv.drawn {X : Cx} {pins : List (Addr × Obj)} {σ : St} {H : Hp} {s : Shared} (I : Inv X pins σ H s) (d : Drawn) : Inv X pins σ H { s with drawn := d } :=
  ⟨I.ok, I.os, I.bare, I.base, I.loc, I.cell, I.free, I.freeC, I.pin, I.hok, I.len⟩
section
variable {X : Cx} {a : Expr} {ta : TA} {p p2 pos pos2 : Pos}
end
end L2


set_option Elab.async false
set_option linter.all false
set_option maxRecDepth 100000
set_option maxHeartbeats 4000000
/-! isinstance(x, (A, B)) -/
namespace L2
open PySem PySem.Spec PyProof.Rows PySem.W
section
variable {X : Cx}
theorem vals_ty : ∀ {Ts : List String} {its : List Value}, Vals (Ts.map V.ty) its → its = Ts.map Value.type
  | [], _, .nil => rfl
  | T :: Ts, _ :: _, .cons r h => by rw [vals_ty h]; cases (show _ = Value.type T from r); rfl
theorem kitx_any {x : V} {u t : Value} {pins : _} {σ : St} {H : Hp} {s : Shared} (I : Inv X pins σ H s) (rx : RelV x u) (ty : TyOf X.K H x t) : ∃ Hh : Heap → Prop, KitX X.K u t Hh ∧ Hh s.heap ∧ u ≠ .builtin "__main__.__loader__#opaque" := by
  cases ty with
  | non => cases (show u = Value.none from rx); exact ⟨_, kitx_none, True.intro, fun z => nomatch z⟩
  | bl y => cases (show u = Value.bool y from rx); exact ⟨_, kitx_bool, True.intro, fun z => nomatch z⟩
  | int i => obtain ⟨t, q⟩ := (show ∃ t, u = Value.int i t from rx); cases q; exact ⟨_, kitx_int, True.intro, fun z => nomatch z⟩
  | str y => obtain ⟨t, q⟩ := (show ∃ t, u = Value.str y t from rx); cases q; exact ⟨_, kitx_str, True.intro, fun z => nomatch z⟩
  | flt y => obtain ⟨t, q⟩ := (show ∃ t, u = Value.float y t from rx); cases q; exact ⟨_, kitx_float, True.intro, fun z => nomatch z⟩
  | @lst a xs ea =>
    cases (show u = Value.ref a from rx)
    obtain ⟨_, _, n, _, h1⟩ := (show ObjOk X.prog X.w H s.heap a (.lst xs) from I.hok a _ ea)
    exact ⟨_, kitx_list, ⟨_, h1, rfl⟩, fun z => nomatch z⟩
  | @frz a ob xs ea =>
    cases (show u = Value.ref a from rx)
    obtain ⟨_, _, _, n, _, h1⟩ := (show ObjOk X.prog X.w H s.heap a (.frz ob (.lst xs)) from I.hok a _ ea)
    exact ⟨_, kitx_list, ⟨_, h1, rfl⟩, fun z => nomatch z⟩
  | @tup a xs ea =>
    cases (show u = Value.ref a from rx)
    obtain ⟨_, _, _, p⟩ := (show ObjOk X.prog X.w H s.heap a (.tup xs) from I.hok a _ ea)
    obtain ⟨o, h1, h2, _⟩ := p
    exact ⟨_, kitx_tuple, ⟨o, h1, h2⟩, fun z => nomatch z⟩
  | @dK a kvs ea =>
    cases (show u = Value.ref a from rx)
    obtain ⟨_, _, vs, _, p⟩ := (show ObjOk X.prog X.w H s.heap a (.dK kvs) from I.hok a _ ea)
    obtain ⟨o, es, ep, h1, h2, _⟩ := p
    exact ⟨_, kitx_dict, ⟨o, h1, h2.1⟩, fun z => nomatch z⟩
  | @dT a kvs ea =>
    cases (show u = Value.ref a from rx)
    obtain ⟨_, _, xs, _, o, es, ep, h1, h2, _⟩ := (show ObjOk X.prog X.w H s.heap a (.dT kvs) from I.hok a _ ea)
    exact ⟨_, kitx_dict, ⟨o, h1, h2.1⟩, fun z => nomatch z⟩
  | @ins a C dx fs ea cl ha hn htk hm =>
    cases (show u = Value.ref a from rx)
    obtain ⟨mA, O, _⟩ := ins_get I.hok ea
    obtain ⟨od, J, _⟩ := O.look
    exact ⟨_, kitx_own (cl.get _) cl.hd ha hn htk hm, J, fun z => nomatch z⟩
theorem call_isinstT (K : PySem.W.Frag) (hK : X.K = K := by rfl) : CallR X (.builtin "isinstance") (fun vs H Q => ∃ (x : V) (t : Value) (c : Addr) (Ts : List String) (b : Bool), vs = [x, .ref c] ∧ H c = some (.tup (Ts.map V.ty)) ∧ TyOf K H x t ∧ kitAny K t (Ts.map Value.type) = some b ∧ Q (.bl b) H) := by
  subst hK
  intro pins s σ H xs us Q I r h
  obtain ⟨x, t, c, Ts, b, rfl, hc, ty, e, q⟩ := h
  obtain ⟨u, v, rfl, ru, rv⟩ := vals2 r
  cases (show v = Value.ref c from rv)
  obtain ⟨Hh, Z, p, hx⟩ := kitx_any I ru ty
  obtain ⟨_, its, rv2, ⟨o, h1, h2, n, h3⟩⟩ := (show ObjOk X.prog X.w H s.heap c (.tup (Ts.map V.ty)) from I.hok c _ hc)
  cases vals_ty rv2
  obtain ⟨cls, dd, dat, sl⟩ := o
  cases h2; cases h3
  exact kia_tup Z I.kIn p h1 e hx fun tk => ⟨.bl b, H, I.tok tk, rfl, q⟩
end
end L2


set_option Elab.async false
set_option linter.all false
set_option maxRecDepth 100000
set_option maxHeartbeats 4000000
namespace L2
open PySem PySem.Spec PyProof.Rows
/-! ### lists of pairs as tables -/
section
variable {κ : Type} [DecidableEq κ]
def valV (kvs : List (κ × V)) (k : κ) : Option V := (kvs.find? fun kv => decide (kv.1 = k)).map (·.2)
/-- in its place, or at the end -/
def putK (kvs : List (κ × V)) (k : κ) (v : V) : List (κ × V) :=
  if (kvs.any fun kv => decide (kv.1 = k)) = true then kvs.map (fun kv => if kv.1 = k then (kv.1, v) else kv) else kvs ++ [(k, v)]
def dropK (kvs : List (κ × V)) (k : κ) : List (κ × V) := kvs.filter fun kv => decide (kv.1 ≠ k)

theorem valV_pos {p : κ × V} {r : List (κ × V)} {k : κ} (e : p.1 = k) : valV (p :: r) k = some p.2 := by simp [valV, List.find?_cons, e]
theorem valV_neg {p : κ × V} {r : List (κ × V)} {k : κ} (e : ¬ p.1 = k) : valV (p :: r) k = valV r k := by simp [valV, List.find?_cons, e]
theorem valV_any (k : κ) : ∀ kvs : List (κ × V), (kvs.any fun kv => decide (kv.1 = k)) = (valV kvs k).isSome
  | [] => rfl
  | p :: r => by
    rw [List.any_cons]
    by_cases e : p.1 = k
    · simp only [valV_pos e, decide_eq_true e, Bool.true_or, Option.isSome_some]
    · rw [valV_neg e, decide_eq_false e, Bool.false_or]; exact valV_any k r
theorem valV_map (k j : κ) (y : V) : ∀ kvs : List (κ × V), valV (kvs.map fun kv => if kv.1 = k then (kv.1, y) else kv) j = (valV kvs j).map fun x => if j = k then y else x
  | [] => rfl
  | p :: r => by
    have ih := valV_map k j y r
    rw [List.map_cons]
    by_cases h : p.1 = k
    · rw [if_pos h]
      by_cases e : p.1 = j
      · rw [valV_pos (p := (p.1, y)) e, valV_pos e, Option.map_some, if_pos (e.symm.trans h)]
      · rw [valV_neg (p := (p.1, y)) e, valV_neg e, ih]
    · rw [if_neg h]
      by_cases e : p.1 = j
      · rw [valV_pos (p := p) e, valV_pos e, Option.map_some, if_neg (fun z => h (e.trans z))]
      · rw [valV_neg (p := p) e, valV_neg e, ih]
theorem valV_snoc (k j : κ) (y : V) : ∀ kvs : List (κ × V), valV kvs k = none → valV (kvs ++ [(k, y)]) j = if j = k then some y else valV kvs j
  | [], _ => by
    by_cases e : k = j
    · rw [if_pos e.symm]; exact valV_pos (p := (k, y)) e
    · rw [if_neg (fun z => e z.symm)]; exact valV_neg (p := (k, y)) e
  | p :: r, hn => by
    rw [List.cons_append]
    have hk : ¬ p.1 = k := fun z => by rw [valV_pos z] at hn; cases hn
    rw [valV_neg hk] at hn
    have ih := valV_snoc k j y r hn
    by_cases e : p.1 = j
    · rw [valV_pos e, valV_pos e, if_neg (fun z => hk (e.trans z))]
    · rw [valV_neg e, valV_neg e, ih]
theorem valV_put (kvs : List (κ × V)) (k j : κ) (y : V) : valV (putK kvs k y) j = if j = k then some y else valV kvs j := by
  unfold putK
  by_cases a : (kvs.any fun kv => decide (kv.1 = k)) = true
  · rw [if_pos a, valV_map]
    rw [valV_any] at a
    by_cases e : j = k
    · obtain ⟨x, hx⟩ := Option.isSome_iff_exists.mp a
      rw [if_pos e, e, hx, Option.map_some, if_pos rfl]
    · rw [if_neg e]
      cases valV kvs j with
      | none => rfl
      | some x => rw [Option.map_some, if_neg e]
  · rw [if_neg a]
    refine valV_snoc k j y kvs ?_
    rw [valV_any] at a
    cases q : valV kvs k with
    | none => rfl
    | some x => rw [q] at a; exact (a rfl).elim
theorem length_putK (kvs : List (κ × V)) (k : κ) (v : V) : (putK kvs k v).length ≤ kvs.length + 1 := by
  unfold putK
  split
  · rw [List.length_map]; omega
  · rw [List.length_append, List.length_cons, List.length_nil]; omega
theorem RelO.isSome_eq {o : Option V} {u : Option Value} (r : RelO o u) : o.isSome = u.isSome := by
  cases o with
  | none => cases u with
    | none => rfl
    | some _ => exact (show False from r).elim
  | some _ => cases u with
    | none => exact (show False from r).elim
    | some _ => rfl
theorem RelO.getD {o : Option V} {u : Option Value} {d : V} {d' : Value} (r : RelO o u) (rd : RelV d d') : RelV (o.getD d) (u.getD d') := by
  cases o with
  | none => cases u with
    | none => exact rd
    | some _ => exact (show False from r).elim
  | some _ => cases u with
    | none => exact (show False from r).elim
    | some _ => exact r

/-- raw tables of the same keys -/
theorem KV.val {kvs : List (κ × V)} {vs : List (κ × Value)} (r : KV kvs vs) (k : κ) : RelO (valV kvs k) (valueAt vs k) := by
  unfold KV at r
  induction r with
  | nil => exact True.intro
  | @cons p q ps qs h t ih =>
    obtain ⟨h1, h2⟩ := h
    by_cases e : p.1 = k
    · have e' : q.1 = k := h1.symm.trans e
      have b : valueAt (q :: qs) k = some q.2 := by simp [valueAt, List.find?_cons, e']
      rw [valV_pos e, b]; exact h2
    · have e' : ¬ q.1 = k := fun z => e (h1.trans z)
      have b : valueAt (q :: qs) k = valueAt qs k := by simp [valueAt, List.find?_cons, e']
      rw [valV_neg e, b]; exact ih
theorem KV.any {kvs : List (κ × V)} {vs : List (κ × Value)} (r : KV kvs vs) (k : κ) : (kvs.any fun kv => decide (kv.1 = k)) = vs.any fun kv => decide (kv.1 = k) := by
  unfold KV at r
  induction r with
  | nil => rfl
  | cons h t ih => rw [List.any_cons, List.any_cons, ih, h.1]
theorem KV.repl {kvs : List (κ × V)} {vs : List (κ × Value)} (r : KV kvs vs) (k : κ) {y : V} {u : Value} (ry : RelV y u) :
    KV (kvs.map fun kv => if kv.1 = k then (kv.1, y) else kv) (vs.map fun kv => if kv.1 = k then (kv.1, u) else kv) := by
  unfold KV at r ⊢
  induction r with
  | nil => exact .nil
  | @cons p q ps qs h t ih =>
    rw [List.map_cons, List.map_cons]
    refine .cons ?_ ih
    obtain ⟨h1, h2⟩ := h
    by_cases e : p.1 = k
    · rw [if_pos e, if_pos (h1.symm.trans e)]; exact ⟨h1, ry⟩
    · rw [if_neg e, if_neg (fun z => e (h1.trans z))]; exact ⟨h1, h2⟩
theorem KV.put {kvs : List (κ × V)} {vs : List (κ × Value)} (r : KV kvs vs) (k : κ) {y : V} {u : Value} (ry : RelV y u) : KV (putK kvs k y) (stored vs k u) := by
  unfold putK stored
  rw [r.any k]
  by_cases e : (vs.any fun kv => decide (kv.1 = k)) = true
  · rw [if_pos e, if_pos e]; exact r.repl k ry
  · rw [if_neg e, if_neg e]; exact Paired.snoc r ⟨rfl, ry⟩
theorem KV.drop {kvs : List (κ × V)} {vs : List (κ × Value)} (r : KV kvs vs) (k : κ) : KV (dropK kvs k) (without vs k) := by
  unfold KV at r ⊢
  unfold dropK without
  induction r with
  | nil => exact .nil
  | @cons p q ps qs h t ih =>
    obtain ⟨h1, h2⟩ := h
    rw [List.filter_cons, List.filter_cons]
    by_cases e : p.1 = k
    · have a : ¬ decide (p.1 ≠ k) = true := by simp [e]
      have b : ¬ decide (q.1 ≠ k) = true := by simp [h1.symm.trans e]
      rw [if_neg a, if_neg b]; exact ih
    · have e' : ¬ q.1 = k := fun z => e (h1.trans z)
      have a : decide (p.1 ≠ k) = true := by simp [e]
      have b : decide (q.1 ≠ k) = true := by simp [e']
      rw [if_pos a, if_pos b]; exact .cons ⟨h1, h2⟩ ih
theorem KV.keys {kvs : List (κ × V)} {vs : List (κ × Value)} (r : KV kvs vs) : kvs.map (·.1) = vs.map (·.1) := by
  unfold KV at r
  induction r with
  | nil => rfl
  | cons h t ih => rw [List.map_cons, List.map_cons, ih, h.1]
theorem KV.length {kvs : List (κ × V)} {vs : List (κ × Value)} (r : KV kvs vs) : kvs.length = vs.length := Paired.length r
end


/-! ### a tracked dict, its keys ints and texts or tuples of these -/
theorem kV_is {P : Program} {w : World} {k : Key} {u : Value} (r : RelV (kV k) u) : (mixKind P w).is k u = true := by
  cases k with
  | inl i => obtain ⟨t, e⟩ := (show ∃ t, u = Value.int i t from r); subst e; exact mixKind_int P w i t
  | inr x => obtain ⟨t, e⟩ := (show ∃ t, u = Value.str x t from r); subst e; exact mixKind_str P w x t
theorem items_are {P : Program} {w : World} : ∀ {ks : List Key} {us : List Value}, Vals (ks.map kV) us → ItemsAre (mixKind P w) ks us
  | [], _, r => by rw [List.map_nil] at r; cases r; exact .nil
  | k :: ks, _, r => by
    rw [List.map_cons] at r
    cases r with
    | cons h t => exact .cons (kV_is h) (items_are t)

/-- raw entries of a dict with tuple keys -/
abbrev KT (H : Hp) : List (List Key × V) → List (List Key × Addr × Value) → Prop := Paired fun p q => p.1 = q.1 ∧ H q.2.1 = some (.tup (p.1.map kV)) ∧ RelV p.2 q.2.2
theorem KT.val {H : Hp} {kvs : List (List Key × V)} {xs : List (List Key × Addr × Value)} (r : KT H kvs xs) (k : List Key) : RelO (valV kvs k) ((atKey xs k).map (·.2)) := by
  induction r with
  | nil => exact True.intro
  | @cons p q ps qs h t ih =>
    obtain ⟨h1, _, h2⟩ := h
    by_cases e : p.1 = k
    · have e' : q.1 = k := h1.symm.trans e
      have b : atKey (q :: qs) k = some q.2 := by simp [atKey, List.find?_cons, e']
      rw [valV_pos e, b]; exact h2
    · have e' : ¬ q.1 = k := fun z => e (h1.trans z)
      have b : atKey (q :: qs) k = atKey qs k := by simp [atKey, List.find?_cons, e']
      rw [valV_neg e, b]; exact ih
theorem KT.repl {H : Hp} {kvs : List (List Key × V)} {xs : List (List Key × Addr × Value)} (r : KT H kvs xs) (k : List Key) {y : V} {u : Value} (ry : RelV y u) :
    KT H (kvs.map fun kv => if kv.1 = k then (kv.1, y) else kv) (xs.map (putAt k u)) := by
  induction r with
  | nil => exact .nil
  | @cons p q ps qs h t ih =>
    rw [List.map_cons, List.map_cons]
    refine .cons ?_ ih
    obtain ⟨h1, h2, h3⟩ := h
    unfold putAt
    by_cases e : p.1 = k
    · rw [if_pos e, if_pos (h1.symm.trans e)]; exact ⟨h1, h2, ry⟩
    · rw [if_neg e, if_neg (fun z => e (h1.trans z))]; exact ⟨h1, h2, h3⟩
theorem KT.put {H : Hp} {kvs : List (List Key × V)} {xs : List (List Key × Addr × Value)} (r : KT H kvs xs) (k : List Key) {b : Addr} {y : V} {u : Value} (hb : H b = some (.tup (k.map kV))) (ry : RelV y u) :
    KT H (putK kvs k y) (storedH xs k b u) := by
  have e : (kvs.any fun kv => decide (kv.1 = k)) = (atKey xs k).isSome := by
    rw [valV_any, (r.val k).isSome_eq, Option.isSome_map]
  unfold putK storedH
  rw [e]
  by_cases q : (atKey xs k).isSome = true
  · rw [if_pos q, if_pos q]; exact r.repl k ry
  · rw [if_neg q, if_neg q]; exact Paired.snoc r ⟨rfl, hb, ry⟩
theorem KT.keeps {H H' : Hp} {kvs : List (List Key × V)} {xs : List (List Key × Addr × Value)} (r : KT H kvs xs) (ht : ∀ b ys, H b = some (.tup ys) → H' b = some (.tup ys)) : KT H' kvs xs :=
  Paired.mapP r fun _ _ z => ⟨z.1, ht _ _ z.2.1, z.2.2⟩

section
variable {P : Program} {w : World} {H : Hp} {h : Heap} {a : Addr}
theorem rd_of {u : HO} (ok : HOk P w H h) (e : Rd H a u) : ObjOk P w H h a u := e.ok ok
theorem dk_rd {kvs : List (Key × V)} (ok : HOk P w H h) (e : Rd H a (.dK kvs)) : kvs.length ≤ sizeLine ∧ (a == sysModules) = false ∧ ∃ vs, KV kvs vs ∧ h.DictOf (mixKind P w) a vs :=
  show ObjOk P w H h a (.dK kvs) from rd_of ok e
theorem dk_of {kvs : List (Key × V)} (ok : HOk P w H h) (e : H a = some (.dK kvs)) : kvs.length ≤ sizeLine ∧ (a == sysModules) = false ∧ ∃ vs, KV kvs vs ∧ h.DictOf (mixKind P w) a vs := dk_rd ok (.inl e)
/-- a tracked tuple of ints and texts is a key -/
theorem key_of {ks : List Key} (ok : HOk P w H h) (e : H a = some (.tup (ks.map kV))) : (tupleKind (mixKind P w)).is h ks a := by
  obtain ⟨_, its, r, o, h1, h2, n, h3⟩ := (show ObjOk P w H h a (.tup (ks.map kV)) from ok a _ e)
  exact ⟨o, its.toArray, n, h1, h2, h3, by simpa using items_are r⟩
theorem dt_rd {kvs : List (List Key × V)} (ok : HOk P w H h) (e : Rd H a (.dT kvs)) : kvs.length ≤ sizeLine ∧ (a == sysModules) = false ∧
    ∃ xs, KT H kvs xs ∧ h.DictOfH (tupleKind (mixKind P w)) a xs := by
  obtain ⟨z, y, xs, r, o, es, ep, h1, h2, h3, h4, h5⟩ := (show ObjOk P w H h a (.dT kvs) from rd_of ok e)
  refine ⟨z, y, xs, r, o, es, ep, h1, h2, h3, h4, fun x hx => ?_, h5⟩
  have all : ∀ {l : List (List Key × V)} {m : List (List Key × Addr × Value)}, KT H l m → ∀ x ∈ m, (tupleKind (mixKind P w)).is h x.1 x.2.1 := by
    intro l m q
    induction q with
    | nil => intro x hx; exact nomatch hx
    | @cons p q ps qs hq t ih =>
      intro x hx
      rcases List.mem_cons.mp hx with e | hx
      · subst e
        exact key_of ok (by rw [← hq.1]; exact hq.2.1)
      · exact ih x hx
  exact all r x hx
theorem dt_of {kvs : List (List Key × V)} (ok : HOk P w H h) (e : H a = some (.dT kvs)) : kvs.length ≤ sizeLine ∧ (a == sysModules) = false ∧
    ∃ xs, KT H kvs xs ∧ h.DictOfH (tupleKind (mixKind P w)) a xs := dt_rd ok (.inl e)
end

/-- what the dict at a holds at the key y -/
def DGet (H : Hp) (a : Addr) (y : V) (r : Option V) : Prop :=
  (∃ kvs k, Rd H a (.dK kvs) ∧ y = kV k ∧ r = valV kvs k) ∨ ∃ kvs k b, Rd H a (.dT kvs) ∧ y = .ref b ∧ H b = some (.tup (k.map kV)) ∧ r = valV kvs k
/-- the heap behind a[y] = v -/
def DPut (H : Hp) (a : Addr) (y v : V) (H' : Hp) : Prop :=
  (∃ kvs k, H a = some (.dK kvs) ∧ y = kV k ∧ kvs.length < sizeLine ∧ H' = upd H a (.dK (putK kvs k v))) ∨
  ∃ kvs k b, H a = some (.dT kvs) ∧ y = .ref b ∧ H b = some (.tup (k.map kV)) ∧ kvs.length < sizeLine ∧ H' = upd H a (.dT (putK kvs k v))
theorem DGet.k {H : Hp} {a : Addr} {kvs : List (Key × V)} {k : Key} (e : H a = some (.dK kvs)) : DGet H a (kV k) (valV kvs k) := .inl ⟨kvs, k, .inl e, rfl, rfl⟩
theorem DGet.t {H : Hp} {a b : Addr} {kvs : List (List Key × V)} {k : List Key} (e : H a = some (.dT kvs)) (eb : H b = some (.tup (k.map kV))) : DGet H a (.ref b) (valV kvs k) := .inr ⟨kvs, k, b, .inl e, rfl, eb, rfl⟩
theorem DPut.k {H : Hp} {a : Addr} {kvs : List (Key × V)} {k : Key} {v : V} (e : H a = some (.dK kvs)) (hl : kvs.length < sizeLine) : DPut H a (kV k) v (upd H a (.dK (putK kvs k v))) := .inl ⟨kvs, k, e, rfl, hl, rfl⟩
theorem DPut.t {H : Hp} {a b : Addr} {kvs : List (List Key × V)} {k : List Key} {v : V} (e : H a = some (.dT kvs)) (eb : H b = some (.tup (k.map kV))) (hl : kvs.length < sizeLine) :
    DPut H a (.ref b) v (upd H a (.dT (putK kvs k v))) := .inr ⟨kvs, k, b, e, rfl, eb, hl, rfl⟩


section
variable {X : Cx} {pins : List (Addr × Obj)} {σ : St} {H : Hp} {s : Shared} {a : Addr} {y v : V} {u r : Value} {o : Option V} {A : Around} {E : Value → Shared → Prop}

theorem Inv.big (I : Inv X pins σ H s) : sysModules < s.heap.objs.size := by
  have h : mainGlobals < s.heap.objs.size := (I.mod.glob.keeps I.bk).lt
  exact Nat.lt_trans (by decide) h

/-- d[y], there -/
theorem d_getItem {Q : Value → Shared → Prop} (hu : A.units + 1 < cLine) (I : Inv X pins σ H s) (g : DGet H a y (some v)) (ry : RelV y u) (h : ∀ w' s', Inv X pins σ H s' → RelV v w' → Q w' s') :
    wpAny (model X.prog X.w) A (getItem (.ref a) u) Q E s := by
  rcases g with ⟨kvs, k, e, ey, l⟩ | ⟨kvs, k, b, e, ey, eb, l⟩
  · subst ey
    obtain ⟨z, hd, vs, rel, dd⟩ := dk_rd I.hok e
    obtain ⟨w', hw, rw'⟩ := RelO.some_of (v := v) (o := valueAt vs k) (by rw [l]; exact rel.val k)
    exact wpAny_getItem_of (kV_is ry) dd.mapOf hw (h w' _ (I.tok _) rw')
  · subst ey
    cases (show u = Value.ref b from ry)
    obtain ⟨z, hd, xs, rel, dd⟩ := dt_rd I.hok e
    obtain ⟨w', hw, rw'⟩ := RelO.some_of (v := v) (o := (atKey xs k).map (·.2)) (by rw [l]; exact rel.val k)
    obtain ⟨p, hp, hp2⟩ := Option.map_eq_some_iff.mp hw
    refine wpAny_getItem_heap (tupleKind_room_in1 hu) (key_of I.hok eb) dd hp ?_
    rw [hp2]
    exact h w' _ (I.tok _) rw'
/-- a dict's object is replaced -/
theorem d_write {h' : Heap} {t' : Nat} {ob : HO} (I : Inv X pins σ H s) (mu : Mut (H a)) (hs : Heap.SameBut a s.heap h') (he : ∃ q, h'.get? a = some q) (new : ObjOk X.prog X.w (upd H a ob) h' a ob) :
    Inv X pins σ (upd H a ob) { s with heap := h', toks := t' } :=
  I.write (x := a) (e := a) mu (.inl rfl) (fun b q hb z => (hs.2 b hb).trans z) he new
theorem dk_new {P : Program} {w : World} {H' : Hp} {h' : Heap} {kvs : List (Key × V)} {vs : List (Key × Value)} (z : kvs.length ≤ sizeLine) (hd : (a == sysModules) = false) (rel : KV kvs vs) (dd : h'.DictOf (mixKind P w) a vs) :
    ObjOk P w H' h' a (.dK kvs) := ⟨z, hd, vs, rel, dd⟩
/-- d[y] = v -/
theorem d_setItem {H' : Hp} {Q : Unit → Shared → Prop} (hu : A.units + 1 < cLine) (I : Inv X pins σ H s) (g : DPut H a y v H') (ry : RelV y u) (rv : RelV v r) (h : ∀ s', Inv X pins σ H' s' → Q () s') :
    wpAny (model X.prog X.w) A (setItem (.ref a) u r) Q E s := by
  rcases g with ⟨kvs, k, e, ey, l, eH⟩ | ⟨kvs, k, b, e, ey, eb, l, eH⟩
  · subst ey eH
    obtain ⟨z, hd, vs, rel, dd⟩ := dk_of I.hok e
    have hz : vs.length ≤ sizeLine := by rw [← rel.length]; exact z
    have hl : (putK kvs k v).length ≤ sizeLine := by have := length_putK kvs k v; omega
    refine wpAny_setItem_pairs (hsz := hz) (kV_is ry) dd fun h' dd' hs => h _ ?_
    have he : ∃ q, h'.get? a = some q := let ⟨q, _, _, hq, _⟩ := dd'; ⟨q, hq⟩
    exact d_write I (by rw [e]; exact True.intro) hs he (dk_new hl hd (rel.put k rv) dd')
  · subst ey eH
    cases (show u = Value.ref b from ry)
    obtain ⟨z, hd, xs, rel, dd⟩ := dt_of I.hok e
    have hz : xs.length ≤ sizeLine := by rw [← Paired.length rel]; exact z
    have hl : (putK kvs k v).length ≤ sizeLine := by have := length_putK kvs k v; omega
    refine wpAny_setItem_heap (hsz := hz) (tupleKind_room_in1 hu) (key_of I.hok eb) dd fun h' dd' hs => h _ ?_
    obtain ⟨q, es, ep, hq, h2, h3, h4, _, h5⟩ := dd'
    refine d_write I (by rw [e]; exact True.intro) hs ⟨q, hq⟩ ⟨hl, hd, _, (rel.put k eb rv).keeps fun c ys ec => ?_, q, es, ep, hq, h2, h3, h4, h5⟩
    rw [upd_ne (ne_of ec e (fun z => nomatch z))]
    exact ec
end

section
variable {X : Cx} {pins : List (Addr × Obj)} {σ : St} {H : Hp} {s : Shared} {a : Addr} {kvs : List (Key × V)} {k : Key} {u : Value} {A : Around} {E : Value → Shared → Prop}
end


/-! ### readings and rules -/
/-- the element of a subscription, not a slice -/
def NoSl (i : Expr) : Prop := ∀ ov iv, subscripted i false ov iv = operate [ov, iv] (getItem ov iv)
theorem subD_of {prog : Program} {w : World} {A : Around} {E : Value → Shared → Prop} {s : Shared} {env : Env} {value slice : Expr} {pos : Pos} {T id : String} {Q : Value → Shared → Prop}
    (hl : typeLookup (.type T) "__getitem__" = pure (some (.builtin id))) (hs : NoSl slice)
    (h : wpAny (model prog w) A (eval value env) (fun o s₁ => wpAny (model prog w) A (eval slice env) (fun i s₂ => s₂.TypeIs o T ∧ wpAny (model prog w) A (getItem o i) Q E s₂) E s₁) E s) :
    wpAny (model prog w) A (eval (.Subscript value slice pos) env) Q E s := by
  refine Subscript_ (wpAny_mono h (fun o s₁ h₁ => wpAny_mono h₁ (fun i s₂ h₂ => ?_) fun _ _ x => x) fun _ _ x => x)
  obtain ⟨hT, h₂⟩ := h₂
  unfold subscriptTail
  refine wpAny_bind ?_
  rw [getitemInPython_of_ne hT.not_modules]
  refine wpAny_bind (wpAny_specialOf hT hl ?_)
  have fin : wpAny (model prog w) A (subscripted slice false o i) (fun r s₃ => wpAny (model prog w) A (letTemporaryGo value o r >>= fun _ => pure r) Q E s₃) E s₂ := by
    rw [hs o i]
    exact wpAny_operating (wpAny_mono h₂ (fun r s₃ h₃ => wpAny_bind (wpAny_letTemporaryGo (wpAny_pure h₃))) fun _ _ x => x)
  first
    | exact wpAny_pure (wpAny_bind fin)
    | exact wpAny_bind (wpAny_pure (wpAny_bind fin))
    | exact wpAny_bind fin

theorem dict_typeIs {X : Cx} {pins : List (Addr × Obj)} {σ : St} {H : Hp} {s : Shared} {a : Addr} {y : V} {o : Option V} (I : Inv X pins σ H s) (g : DGet H a y o) : s.TypeIs (.ref a) "dict" := by
  rcases g with ⟨kvs, k, e, _, _⟩ | ⟨kvs, k, b, e, _, _, _⟩
  · obtain ⟨_, _, vs, _, dd⟩ := dk_rd I.hok e
    exact dd.typeIs
  · obtain ⟨_, _, xs, _, dd⟩ := dt_rd I.hok e
    exact dd.typeIs
/-- d[y] -/
def tDGet (td ty : TE) : TE := fun σ H Q => td σ H fun x H1 => ty σ H1 fun y H2 => ∃ a v, x = .ref a ∧ DGet H2 a y (some v) ∧ Q v H2
/-- d[y] = v -/
def sDPut (td ty tv : TE) : TS := fun D σ H => tv σ H fun v H1 => td σ H1 fun x H2 => ty σ H2 fun y H3 => ∃ a H4, x = .ref a ∧ DPut H3 a y v H4 ∧ D.nx σ H4
section
variable {X : Cx} {o i e value : Expr} {pos pos' tpos : Pos} {td ty tv : TE}
theorem pe_dget (hu : X.A.units + 1 < cLine) (ho : PE X o td) (hi : PE X i ty) (hs : NoSl i) : PE X (.Subscript o i pos) (tDGet td ty) := by
  intro pins s σ H Q I h
  refine subD_of PySem.F.slot_dict_getitem.lookup hs (thn (ho pins s σ H _ I h) fun u s1 ⟨x, H1, I1, rx, q1⟩ => thn (hi pins s1 σ H1 _ I1 q1) fun iv s2 ⟨y, H2, I2, ry, a, v, ex, g, q2⟩ => ?_)
  subst ex
  obtain rfl : u = Value.ref a := rx
  exact ⟨dict_typeIs I2 g, d_getItem hu I2 g ry fun w' s3 I3 rw' => ⟨v, H2, I3, rw', q2⟩⟩
theorem ps_dput (hu : X.A.units + 1 < cLine) (ho : PE X o td) (hi : PE X i ty) (hv : PE X value tv) (hs : swapsWith value (some (.Subscript o i pos')) pos.line X.env = pure false) :
    PS X (.Assign [.Subscript o i pos'] value pos) (sDPut td ty tv) := by
  intro pins s σ H D I h
  refine wpAny_Assign_Subscript (thn (hv pins s σ H _ I h) fun r s1 ⟨v, H1, I1, rv, q1⟩ => thn (ho pins s1 σ H1 _ I1 q1) fun u s2 ⟨x, H2, I2, rx, q2⟩ => thn (hi pins s2 σ H2 _ I2 q2) fun iv s3 ⟨y, H3, I3, ry, a, H4, ex, g, q3⟩ => ?_) hs
  subst ex
  obtain rfl : u = Value.ref a := rx
  exact d_setItem hu I3 g ry rv fun s4 I4 => ⟨σ, H4, I4, q3⟩
end


/-! ### displays -/
theorem dk_empty {P : Program} {w : World} {H : Hp} (h : Heap) (hb : sysModules < h.objs.size) : ObjOk P w H (h.push { cls := .type "dict", data := .dict #[] }) h.objs.size (.dK []) :=
  ⟨Nat.zero_le _, beq_eq_false_iff_ne.mpr (Ne.symm (Nat.ne_of_lt hb)), [], .nil, Heap.DictOf.new h⟩
/-- {}, to be a dict of the kind that is wanted -/
def tDNewK : TE := fun _ H Q => ∀ p, H p = none → Q (.ref p) (upd H p (.dK []))
section
variable {X : Cx} {pos : Pos}
theorem pe_dnewK : PE X (.Dict [] [] pos) tDNewK := fun pins s σ H Q I h =>
  wpAny_Dict_empty ⟨.ref s.heap.objs.size, _, I.laid (a := s.heap.objs.size) (o := .dK []) (t' := s.toks) (fun _ _ q => Heap.get?_push_of_some _ q) (Nat.le_refl _) (dk_empty s.heap I.big), rfl, h _ (I.hok.fresh (Nat.le_refl _))⟩
end

/-! ### methods -/
/-- a method call o.m(e) of a built-in, with one argument: what must be seen of the text -/
structure M1 (X : Cx) (o : Expr) (m : Str) (apos : Pos) (e : Expr) (cpos : Pos) : Prop where
  base : attributeBase o m X.env (eval o X.env) = eval o X.env
  few : ((backTo cpos (starEach [e] X.env)).all (fun x => !x.1) && (backToKw cpos (keywordEach [] X.env)).all (fun x => x.1.isSome)
    && decide (([e] : List Expr).length + ([] : List Keyword).length + (if ([] : List Keyword).isEmpty then 0 else 1) < 30)) = true
  line : (apos.endLine == cpos.line) = true
  trees : backTo cpos (starEach [e] X.env) = [(false, eval e X.env)]
structure M2 (X : Cx) (o : Expr) (m : Str) (apos : Pos) (e f : Expr) (cpos : Pos) : Prop where
  base : attributeBase o m X.env (eval o X.env) = eval o X.env
  few : ((backTo cpos (starEach [e, f] X.env)).all (fun x => !x.1) && (backToKw cpos (keywordEach [] X.env)).all (fun x => x.1.isSome)
    && decide (([e, f] : List Expr).length + ([] : List Keyword).length + (if ([] : List Keyword).isEmpty then 0 else 1) < 30)) = true
  line : (apos.endLine == cpos.line) = true
  trees : backTo cpos (starEach [e, f] X.env) = [(false, eval e X.env), (false, eval f X.env)]

/-- a is a dict, whatever its keys -/
def IsD (H : Hp) (a : Addr) : Prop := (∃ kvs, Rd H a (.dK kvs)) ∨ ∃ kvs, Rd H a (.dT kvs)
theorem isD_at {X : Cx} {pins : List (Addr × Obj)} {σ : St} {H : Hp} {s : Shared} {a : Addr} (I : Inv X pins σ H s) (d : IsD H a) :
    s.TypeIs (.ref a) "dict" ∧ (∀ b, Value.ref a = .ref b → ∃ ob, s.heap.get? b = some ob ∧ ob.dict = none) ∧ (a == sysModules) = false := by
  rcases d with ⟨kvs, e⟩ | ⟨kvs, e⟩
  · obtain ⟨_, hd, vs, _, dd⟩ := dk_rd I.hok e
    refine ⟨dd.typeIs, fun b q => ?_, hd⟩
    cases q
    obtain ⟨ob, _, _, h1, h2, _⟩ := dd
    exact ⟨ob, h1, h2.2.1⟩
  · obtain ⟨_, hd, xs, _, dd⟩ := dt_rd I.hok e
    refine ⟨dd.typeIs, fun b q => ?_, hd⟩
    cases q
    obtain ⟨ob, _, _, h1, h2, _⟩ := dd
    exact ⟨ob, h1, h2.2.1⟩

section
variable {X : Cx} {pins : List (Addr × Obj)} {σ : St} {H : Hp} {s : Shared} {a : Addr} {y d : V} {u r : Value} {o : Option V} {A : Around} {E : Value → Shared → Prop}
/-- d.get(y, x) -/
theorem d_get2 {Q : Value → Shared → Prop} (hu : A.units + 1 < cLine) (I : Inv X pins σ H s) (g : DGet H a y o) (ry : RelV y u) (rd : RelV d r) (h : ∀ w' s', Inv X pins σ H s' → RelV (o.getD d) w' → Q w' s') :
    wpAny (model X.prog X.w) A (call (.builtin "dict.get") [.ref a, u, r]) Q E s := by
  rcases g with ⟨kvs, k, e, ey, l⟩ | ⟨kvs, k, b, e, ey, eb, l⟩
  · subst ey
    obtain ⟨z, hd, vs, rel, dd⟩ := dk_rd I.hok e
    refine call_meetsIn PySem.F.slot_dict_get dd.typeIs PySem.F.entry_dict_get (PySem.F.args_dict_get_3 _ _ _) (meets_dict_get_default (mixKind X.prog X.w) a (kV_is ry) hd r) ⟨_, dd.mapOf, h _ _ (I.tok _) ?_⟩
    rw [l]
    exact (rel.val k).getD rd
  · subst ey
    cases (show u = Value.ref b from ry)
    obtain ⟨z, hd, xs, rel, dd⟩ := dt_rd I.hok e
    refine call_meetsIn PySem.F.slot_dict_get dd.typeIs PySem.F.entry_dict_get (PySem.F.args_dict_get_3 _ _ _) (meetsH_dict_get_default (tupleKind (mixKind X.prog X.w)) a b hd r) ⟨tupleKind_room_in1 hu, k, xs, key_of I.hok eb, dd, h _ _ (I.tok _) ?_⟩
    rw [l]
    exact (rel.val k).getD rd
end

def tDGet2 (td ty tx : TE) : TE := fun σ H Q => td σ H fun x H1 => ∃ a, x = .ref a ∧ IsD H1 a ∧ ty σ H1 fun y H2 => tx σ H2 fun z H3 => ∃ o, DGet H3 a y o ∧ Q (o.getD z) H3
section
variable {X : Cx} {o e f : Expr} {apos cpos : Pos} {td ty tx : TE}
theorem pe_dget2 (hu : X.A.units + 1 < cLine) (ho : PE X o td) (he : PE X e ty) (hf : PE X f tx) (m : M2 X o "get" apos e f cpos) : PE X (.Call (.Attribute o "get" apos) [e, f] [] cpos) (tDGet2 td ty tx) := by
  intro pins s σ H Q I h
  refine wpAny_Call_method m.base m.few m.line PySem.F.plainAttrs_dict PySem.F.slot_dict_get PySem.F.type_dict_get (thn (ho pins s σ H _ I h) fun u s1 ⟨x, H1, I1, rx, a, ex, d, q1⟩ => ?_)
  subst ex
  obtain rfl : u = Value.ref a := rx
  obtain ⟨t1, t2, _⟩ := isD_at I1 d
  refine ⟨t1, t2, ?_⟩
  rw [m.trees]
  refine Calls.callWith_builtin rfl (Calls.evalArgs_plain (Calls.spliced_cons (thn (he pins s1 σ H1 _ I1 q1) fun iv s2 ⟨y, H2, I2, ry, q2⟩ =>
    Calls.spliced_cons (thn (hf pins s2 σ H2 _ I2 q2) fun fv s3 ⟨z, H3, I3, rz, ov, g, q3⟩ => Calls.spliced_nil ?_))))
  exact d_get2 hu I3 g ry rz fun w' s4 I4 rw' => ⟨_, H3, I4, rw', q3⟩
end

/-! ### dict(d): a copy -/
section
variable {X : Cx} {pins : List (Addr × Obj)} {σ : St} {H : Hp} {s : Shared} {a : Addr} {kvs : List (Key × V)} {A : Around} {E : Value → Shared → Prop}
end


section
variable {X : Cx} {pins : List (Addr × Obj)} {σ : St} {H : Hp} {s : Shared} {a : Addr} {y : V} {u : Value} {A : Around} {E : Value → Shared → Prop}
end
end L2


set_option Elab.async false
set_option linter.all false
set_option maxRecDepth 100000
set_option maxHeartbeats 4000000
/-! a dict walked: it is frozen from then on; len(d); l.count(i) of whole numbers -/
namespace L2
open PySem PySem.Spec PyProof.Rows PySem.W
open MeetsSeq MeetsSeq2 MeetsSeq3 SeqRoads2 SeqAt
/-- the keys of the dict at a, whose object is o -/
def Itd (a : Addr) (o : Obj) (kvs : List (Key × V)) : It :=
  ⟨fun i H => H a = some (.frz o (.dK kvs)) ∧ i < kvs.length, fun i H x H' => H' = H ∧ ∃ k v, kvs[i]? = some (k, v) ∧ x = kV k, fun i H => H a = some (.frz o (.dK kvs)) ∧ kvs.length ≤ i⟩
theorem is_kV {P : Program} {w : World} {k : Key} {u : Value} (h : (mixKind P w).is k u = true) : RelV (kV k) u := by
  cases k with
  | inl i => obtain ⟨t, e⟩ := PySem.Value.isInt_shape (show Value.isInt i u = true from h); exact ⟨t, e⟩
  | inr x => obtain ⟨t, e⟩ := PySem.Value.isStrOf_shape (show Value.isStrOf x u = true from h); exact ⟨t, e⟩
theorem kv_get {kvs : List (Key × V)} {vs : List (Key × Value)} (r : KV kvs vs) : ∀ {i : Nat} {k : Key} {v : V}, kvs[i]? = some (k, v) → ∃ x, vs[i]? = some (k, x) ∧ RelV v x := by
  unfold KV at r
  induction r with
  | nil => intro i k v h; simp at h
  | @cons p q _ _ h t ih =>
    intro i k v e
    cases i with
    | zero =>
      have e' : p = (k, v) := by simpa using e
      subst e'
      obtain ⟨k', x⟩ := q
      obtain ⟨rfl, h2⟩ := h
      exact ⟨x, rfl, h2⟩
    | succ i => exact ih (by simpa using e)
theorem frz_at {X : Cx} {pins : List (Addr × Obj)} {σ : St} {H : Hp} {s : Shared} {a : Addr} {o : Obj} {kvs : List (Key × V)} {es : Array DictEntry} {ep : Nat} (I : Inv X pins σ H s) (h : H a = some (.frz o (.dK kvs))) (hd : o.data = .dict es ep) :
    ∃ vs, KV kvs vs ∧ s.heap.DictAt (mixKind X.prog X.w) a vs ep := by
  obtain ⟨e, z, y, vs, r, o', es', ep', e', hx, hd', rest⟩ := (show ObjOk X.prog X.w H s.heap a (.frz o (.dK kvs)) from I.hok a _ h)
  have : o = o' := Option.some.inj (e.symm.trans e')
  subst this
  rw [hd] at hd'
  cases hd'
  exact ⟨vs, r, o, es, e, hx, hd, rest⟩
theorem turn_dict {P : Program} {w : World} {K : PySem.W.Frag} {tg : Expr} (a it : Addr) (o : Obj) (kvs : List (Key × V)) (es : Array DictEntry) (ep : Nat) (hd : o.data = .dict es ep) : Turn P w K tg (Itd a o kvs) [it] it (fun i h => h.IsKeyIter it a i kvs.length ep) where
  mem := by simp
  obj := fun i h st b hb => by
    have e : b = it := by simpa using hb
    subst e
    obtain ⟨o, e, c, d⟩ := st
    exact ⟨o, e, fun v z => by rw [d] at z; cases z⟩
  keep := fun i h h' st k => by
    obtain ⟨o, e, c, d⟩ := st
    exact ⟨o, k it (by simp) o e, c, d⟩
  item := by
    intro X hP hw hK hc i pins s σ H E I hf st hg
    subst hP hw hK
    obtain ⟨hz, hi⟩ := hg
    obtain ⟨vs, rv, dd⟩ := frz_at I hz hd
    have hx : kvs[i]? = some (kvs[i].1, kvs[i].2) := List.getElem?_eq_getElem hi
    obtain ⟨u, hu, ru⟩ := kv_get rv hx
    obtain ⟨f0, f1, f2, f3, f4, f5⟩ := hf it (by simp)
    rw [rv.length] at st
    refine wpAny_pyNext_dict_item st dd hu fun key h' hk st' sb => ?_
    have I1 : Inv X pins σ H { s with heap := h' } := I.turned (t' := s.toks) (fun b o hb e => (sb.2 b hb).trans e) f0 f1 f3 f4 f5
    rw [← rv.length] at st'
    obtain ⟨o', e, c, d⟩ := id st'
    exact ⟨key, rfl, go_of (s := { s with heap := h' }) e c d (by decide) ⟨_, H, I1, is_kV hk, ⟨rfl, _, _, hx, rfl⟩, st', fun b hb => (hf b hb).1⟩⟩
  done := by
    intro X hP hw hK hc i pins s σ H E I hf st hg
    subst hP hw hK
    obtain ⟨hz, hi⟩ := hg
    obtain ⟨vs, rv, dd⟩ := frz_at I hz hd
    obtain ⟨f0, f1, f2, f3, f4, f5⟩ := hf it (by simp)
    have hl := rv.length
    rw [rv.length] at st
    exact wpAny_pyNext_dict_end (I.ok.hd hc) st dd (List.getElem?_eq_none (by omega)) fun h' eb => ⟨rfl, I.turned (t' := s.toks) (fun b o hb e => eb b o hb e) f0 f1 f3 f4 f5⟩
  self := fun _ _ _ _ _ st h => wpAny_pyIter_keyiter st h
section
variable {X : Cx} {tg : Expr}
/-- for k in d: d is frozen -/
def iDict (tl : TE) : TI := fun σ H R => tl σ H fun x H1 => ∃ a kvs, x = .ref a ∧ Rd H1 a (.dK kvs) ∧ ∀ o, (∀ H2, H2 = upd H1 a (.frz o (.dK kvs)) → (∀ o', H1 a = some (.frz o' (.dK kvs)) → H2 = H1) → R (Itd a o kvs) H2)
theorem pi_dict {l : Expr} {tl : TE} (hl : PE X l tl) : PI X tg l (iDict tl) := by
  intro pins s σ H R I h
  refine thn (hl pins s σ H _ I h) fun v s1 ⟨x, H1, I1, r1, q1⟩ => ?_
  obtain ⟨a, kvs, e, hq, q⟩ := q1
  subst e
  cases r1
  obtain ⟨z, hy, vs, rv, dd⟩ := dk_rd I1.hok hq
  obtain ⟨o, es, ep, ho, hrest⟩ := id dd
  have I2 : Inv X pins σ (upd H1 a (.frz o (.dK kvs))) s1 := by
    rcases hq with h1 | ⟨o', h1⟩
    · exact I1.write (x := a) (e := a) (h' := s1.heap) (t' := s1.toks) (by rw [h1]; trivial) (.inl rfl) (fun b u _ e => e) ⟨o, ho⟩ ⟨ho, z, hy, vs, rv, dd⟩
    · have e1 : o' = o := by
        have := (show ObjOk X.prog X.w H1 s1.heap a (.frz o' (.dK kvs)) from I1.hok a _ h1).1
        exact Option.some.inj (this.symm.trans ho)
      have e2 : upd H1 a (.frz o (.dK kvs)) = H1 := by
        funext b
        by_cases hb : b = a
        · subst hb; rw [upd_same, h1, e1]
        · rw [upd_ne hb]
      rw [e2]; exact I1
  have q := q o _ rfl fun o' h1 => by
    have e1 : o' = o := by
      have := (show ObjOk X.prog X.w H1 s1.heap a (.frz o' (.dK kvs)) from I1.hok a _ h1).1
      exact Option.some.inj (this.symm.trans ho)
    funext b
    by_cases hb : b = a
    · subst hb; rw [upd_same, h1, e1]
    · rw [upd_ne hb]
  generalize upd H1 a (.frz o (.dK kvs)) = H2 at I2 q
  refine wpAny_pyIter_dict (ep := ep) hy ⟨o, es, ho, hrest⟩ ?_
  refine ⟨s1.heap.objs.size, [s1.heap.objs.size], _, _, H2, rfl, I2.kept (t' := s1.toks) fun b o e => Heap.get?_push_of_some _ e, turn_dict a _ o kvs es ep hrest.2.1, ?_, fun b hb => ?_, q⟩
  · rw [rv.length]; exact ⟨_, Heap.get?_push_size _ rfl, rfl, rfl⟩
  · have e : b = s1.heap.objs.size := by simpa using hb
    subst e
    exact I2.fpOk (Nat.le_refl _) (I2.hok.fresh (Nat.le_refl _))
end
section
theorem small10000 {n : Nat} (h : n < 10000) : n < sizeLine := by
  rw [sizeLine_eq]; omega
theorem comp_big {J : It} {NL : List Str} {ix : List Nat} {g : TG} {tt : TT} {te : TE} {σ : St} {H1 : Hp} {Qs : Hp → Prop} {acc : Addr} (n : Nat) (hn : n < 10000) (Pv : Nat → List V → Hp → Prop)
    (hacc : ∀ i ys H2, Pv i ys H2 → H2 acc = some (.lst ys) ∧ ys.length ≤ i) (h0 : Pv 0 [] (upd H1 acc (.lst []))) (hstop : ∀ ys H2, Pv n ys H2 → J.stop n H2 ∧ Qs H2)
    (hturn : ∀ i ys H2, i < n → Pv i ys H2 → J.go i H2 ∧ ∀ x H3, J.yld i H2 x H3 → g x (comp0 NL ix σ) H3 fun σ' H4 => σ'.drop NL.length = ix.map (fun j => σ.getD j none) ∧ tt σ' H4 fun b H5 =>
      if b = true then te σ' H5 fun v H6 => H6 acc = some (.lst ys) ∧ Pv (i + 1) (ys ++ [v]) (upd H6 acc (.lst (ys ++ [v]))) else Pv (i + 1) ys H5) :
    ∃ W : Nat → Nat → List V → Hp → Prop, (∃ m, W 0 m [] (upd H1 acc (.lst []))) ∧
    ∀ i m ys H2, W i m ys H2 → H2 acc = some (.lst ys) ∧ ys.length < sizeLine ∧
      ((J.stop i H2 ∧ Qs H2) ∨ (J.go i H2 ∧ ∃ N : List V → Hp → Prop, (∀ ys' H', N ys' H' → ∃ m', m' < m ∧ W (i + 1) m' ys' H') ∧
        ∀ x H3, J.yld i H2 x H3 → g x (comp0 NL ix σ) H3 fun σ' H4 => σ'.drop NL.length = ix.map (fun j => σ.getD j none) ∧ tt σ' H4 fun b H5 =>
          if b = true then te σ' H5 fun v H6 => H6 acc = some (.lst ys) ∧ N (ys ++ [v]) (upd H6 acc (.lst (ys ++ [v]))) else N ys H5)) := by
  refine ⟨fun i m ys H2 => i ≤ n ∧ m = n - i ∧ Pv i ys H2, ⟨n, Nat.zero_le _, rfl, h0⟩, fun i m ys H2 ⟨hi, hm, hp⟩ => ?_⟩
  obtain ⟨a1, a2⟩ := hacc i ys H2 hp
  refine ⟨a1, small10000 (by omega), ?_⟩
  rcases Nat.lt_or_ge i n with lt | ge
  · obtain ⟨go, tn⟩ := hturn i ys H2 lt hp
    exact .inr ⟨go, Pv (i + 1), fun ys' H' hN => ⟨n - (i + 1), by omega, by omega, rfl, hN⟩, tn⟩
  · have e : i = n := by omega
    subst e
    exact .inl (hstop ys H2 hp)
end
section
variable {NL : List Str} {ix : List Nat} {g : TG} {tt : TT} {te : TE} {σ : St} {H1 : Hp} {Qs : Hp → Prop} {acc : Addr}
theorem comp_dict {a : Addr} {o : Obj} {kvs : List (Key × V)} (hn : kvs.length < 10000) (Pv : Nat → List V → Hp → Prop)
    (hl : ∀ i ys H2, Pv i ys H2 → H2 a = some (.frz o (.dK kvs))) (hacc : ∀ i ys H2, Pv i ys H2 → H2 acc = some (.lst ys) ∧ ys.length ≤ i) (h0 : Pv 0 [] (upd H1 acc (.lst []))) (hstop : ∀ ys H2, Pv kvs.length ys H2 → Qs H2)
    (hturn : ∀ i k v ys H2, kvs[i]? = some (k, v) → Pv i ys H2 → g (kV k) (comp0 NL ix σ) H2 fun σ' H4 => σ'.drop NL.length = ix.map (fun j => σ.getD j none) ∧ tt σ' H4 fun b H5 =>
      if b = true then te σ' H5 fun v H6 => H6 acc = some (.lst ys) ∧ Pv (i + 1) (ys ++ [v]) (upd H6 acc (.lst (ys ++ [v]))) else Pv (i + 1) ys H5) :
    ∃ W : Nat → Nat → List V → Hp → Prop, (∃ m, W 0 m [] (upd H1 acc (.lst []))) ∧
    ∀ i m ys H2, W i m ys H2 → H2 acc = some (.lst ys) ∧ ys.length < sizeLine ∧
      (((Itd a o kvs).stop i H2 ∧ Qs H2) ∨ ((Itd a o kvs).go i H2 ∧ ∃ N : List V → Hp → Prop, (∀ ys' H', N ys' H' → ∃ m', m' < m ∧ W (i + 1) m' ys' H') ∧
        ∀ x H3, (Itd a o kvs).yld i H2 x H3 → g x (comp0 NL ix σ) H3 fun σ' H4 => σ'.drop NL.length = ix.map (fun j => σ.getD j none) ∧ tt σ' H4 fun b H5 =>
          if b = true then te σ' H5 fun v H6 => H6 acc = some (.lst ys) ∧ N (ys ++ [v]) (upd H6 acc (.lst (ys ++ [v]))) else N ys H5)) := by
  refine comp_big kvs.length hn Pv hacc h0 (fun ys H2 hp => ⟨⟨hl _ _ _ hp, Nat.le_refl _⟩, hstop ys H2 hp⟩) fun i ys H2 hi hp => ?_
  have hs := hl _ _ _ hp
  refine ⟨⟨hs, hi⟩, ?_⟩
  rintro x H3 ⟨rfl, k, v, e, rfl⟩
  exact hturn i k v ys H3 e hp
end
section
variable {X : Cx}
end
end L2
namespace L2
open PySem PySem.Spec PyProof.Rows PySem.W
end L2


set_option Elab.async false
set_option linter.all false
set_option maxRecDepth 100000
set_option maxHeartbeats 4000000
/-! dict(a list of pairs) -/
namespace L2
open PySem PySem.Spec PyProof.Rows PySem.W
end L2
namespace L2
open PySem PySem.Spec PyProof.Rows PySem.W
section
variable {prog : Program} {w : World} {A : Around} {E : Value → Shared → Prop}
/-- the pairs that a list of tuples holds -/
def DPrs (h : Heap) (D : Addr) (items : Array Value) (ps : List (Key × Value)) : Prop :=
  ps.length = items.size ∧ ∀ (j : Nat) (k : Key) (v : Value), ps[j]? = some (k, v) → ∃ (a : Addr) (ku : Value), items[j]? = some (Value.ref a) ∧ a ≠ D ∧ RelV (kV k) ku ∧ IsTup h a #[ku, v]
theorem DPrs.keeps {h h' : Heap} {D I : Addr} {items : Array Value} {ps : List (Key × Value)} (p : DPrs h D items ps) (nI : ∀ a : Addr, Value.ref a ∈ items → a ≠ I) (k : ∀ b o, b ≠ I → b ≠ D → h.get? b = some o → h'.get? b = some o) : DPrs h' D items ps := by
  refine ⟨p.1, fun j kk v e => ?_⟩
  obtain ⟨a, ku, ha, hD, hk, o, e1, e2⟩ := p.2 j kk v e
  exact ⟨a, ku, ha, hD, hk, o, k a o (nI a (Array.mem_of_getElem? ha)) hD e1, e2⟩
end
end L2
namespace L2
open PySem PySem.Spec PyProof.Rows PySem.W
section
variable {prog : Program} {w : World} {A : Around} {E : Value → Shared → Prop} {s : Shared}
end
end L2
namespace L2
open PySem PySem.Spec PyProof.Rows PySem.W
section
variable {X : Cx}
end
end L2


set_option Elab.async false
set_option linter.all false
set_option maxRecDepth 100000
set_option maxHeartbeats 4000000
/-! the model's sort of any length: what its parts do -/
namespace Tim
open PySem PyProof.Rows
abbrev setG (st : SortSt) (g : Nat) : SortSt := SortSt.mk' (kindOf st) (arrOf st) (pendingOf st) g (failedOf st)
end Tim


set_option Elab.async false
set_option linter.all false
set_option maxRecDepth 100000
set_option maxHeartbeats 4000000
namespace Tim
open PySem PyProof.Rows
section
variable {prog : Program} {w : World} {A : Around} {E : Value → Shared → Prop} {s : Shared} {a₀ : Array Keyed} {κ : SortKind} {O : KeyOrd} {key : Keyed → O.α}
/-! ### two rising rows laid together -/
def mrg (key : Keyed → O.α) : List Keyed → List Keyed → List Keyed
  | [], ys => ys
  | x :: xs, [] => x :: xs
  | x :: xs, y :: ys => if O.blt (key y) (key x) = true then y :: mrg key (x :: xs) ys else x :: mrg key xs (y :: ys)
termination_by xs ys => xs.length + ys.length
abbrev Srt (key : Keyed → O.α) (l : List Keyed) : Prop := l.Pairwise fun x y => O.blt (key y) (key x) = false
end
end Tim


set_option Elab.async false
set_option linter.all false
set_option maxRecDepth 100000
set_option maxHeartbeats 4000000
namespace Tim
open PySem PyProof.Rows
section
variable {prog : Program} {w : World} {A : Around} {E : Value → Shared → Prop} {s : Shared} {a₀ : Array Keyed} {κ : SortKind} {O : KeyOrd} {key : Keyed → O.α}
/-- two rows that are laid together -/
structure Two (key : Keyed → O.α) (a₀ a b : Array Keyed) : Prop where
  ma : ∀ x ∈ a, x ∈ a₀
  mb : ∀ x ∈ b, x ∈ a₀
  na : 1 ≤ a.size
  nb : 1 ≤ b.size
  sa : Srt key a.toList
  sb : Srt key b.toList
  fst : ∀ x ∈ a, ∀ y, b[0]? = some y → O.blt (key y) (key x) = true
  lst : ∀ y ∈ b, ∀ x, a[a.size - 1]? = some x → O.blt (key y) (key x) = true
def LoI (key : Keyed → O.α) (a b o : Array Keyed) (p q : Nat) : Prop := o.toList ++ mrg key (a.toList.drop p) (b.toList.drop q) = mrg key a.toList b.toList
section
variable {a b o : Array Keyed} {p q k : Nat} {x y : Keyed}
end
abbrev LSt := Option (Array Keyed) × Array Keyed × Nat × Nat × Nat × Nat × Nat
structure GoesOn (key : Keyed → O.α) (a b : Array Keyed) (st : SortSt) (m : Nat) (R : ForInStep LSt → SortSt → Prop) : Prop where
  fin : ∀ (out : Array Keyed) c g, out.toList = mrg key a.toList b.toList → R (.done (some out, c)) (setG st g)
  brk : ∀ o p q g c d g', LoI key a b o p q → p + 1 < a.size → q < b.size → m ≤ p + q → R (.done (none, o, p, q, g, c, d)) (setG st g')
  yld : ∀ o p q g c d g', LoI key a b o p q → p + 1 < a.size → q < b.size → m ≤ p + q → R (.yield (none, o, p, q, g, c, d)) (setG st g')
section
variable {a b o : Array Keyed} {p q k g c d m g' : Nat} {x y : Keyed} {st : SortSt} {R : ForInStep LSt → SortSt → Prop}
end
end
end Tim


set_option Elab.async false
set_option linter.all false
set_option maxRecDepth 100000
set_option maxHeartbeats 4000000
namespace Tim
open PySem PyProof.Rows
section
variable {prog : Program} {w : World} {A : Around} {E : Value → Shared → Prop} {s : Shared} {a₀ : Array Keyed} {κ : SortKind} {O : KeyOrd} {key : Keyed → O.α}
def HiI (key : Keyed → O.α) (a b o : Array Keyed) (p q : Nat) : Prop := mrg key (a.toList.take p) (b.toList.take q) ++ o.toList.reverse = mrg key a.toList b.toList
section
variable {a b o : Array Keyed} {p q f : Nat} {x y : Keyed}
end
abbrev HSt := Option (Array Keyed) × Nat × Nat × Array Keyed × Nat × Nat × Nat
structure GoesHi (key : Keyed → O.α) (a b : Array Keyed) (st : SortSt) (m : Nat) (R : ForInStep HSt → SortSt → Prop) : Prop where
  fin : ∀ (out : Array Keyed) c g, out.toList = mrg key a.toList b.toList → R (.done (some out, c)) (setG st g)
  brk : ∀ o p q g c d g', HiI key a b o p q → 0 < p → p ≤ a.size → 1 < q → q ≤ b.size → p + q ≤ m → R (.done (none, p, q, o, g, c, d)) (setG st g')
  yld : ∀ o p q g c d g', HiI key a b o p q → 0 < p → p ≤ a.size → 1 < q → q ≤ b.size → p + q ≤ m → R (.yield (none, p, q, o, g, c, d)) (setG st g')
section
variable {a b o : Array Keyed} {p q k g c d m g' : Nat} {x y : Keyed} {st : SortSt} {R : ForInStep HSt → SortSt → Prop}
end
end
end Tim


set_option Elab.async false
set_option linter.all false
set_option maxRecDepth 100000
set_option maxHeartbeats 4000000
namespace Tim
open PySem PyProof.Rows
section
variable {prog : Program} {w : World} {A : Around} {E : Value → Shared → Prop} {s : Shared} {a₀ : Array Keyed} {κ : SortKind} {O : KeyOrd} {key : Keyed → O.α}
theorem three (L : List Keyed) {u v : Nat} (h : u ≤ v) : L = L.take u ++ (L.drop u).take (v - u) ++ L.drop v := by
  have e : L.drop v = (L.drop u).drop (v - u) := by rw [List.drop_drop]; congr 1; omega
  rw [e, List.append_assoc, List.take_append_drop, List.take_append_drop]
end
end Tim


set_option Elab.async false
set_option linter.all false
set_option maxRecDepth 100000
set_option maxHeartbeats 4000000
namespace Tim
open PySem PyProof.Rows
section
variable {prog : Program} {w : World} {A : Around} {E : Value → Shared → Prop} {s : Shared} {a₀ : Array Keyed} {κ : SortKind} {O : KeyOrd} {key : Keyed → O.α}
def Dist (key : Keyed → O.α) (a₀ : Array Keyed) : Prop := (a₀.toList.map key).Nodup
theorem Dist.inj (D : Dist key a₀) {xs : Array Keyed} (h : xs.Perm a₀) {i j : Nat} {x y : Keyed} (ex : xs[i]? = some x) (ey : xs[j]? = some y) (h1 : O.blt (key x) (key y) = false) (h2 : O.blt (key y) (key x) = false) : i = j := by
  have nd : (xs.toList.map key).Nodup := (List.Perm.nodup_iff ((Array.perm_iff_toList_perm.mp h).map key)).mpr D
  obtain ⟨g1, rfl⟩ := Array.getElem?_eq_some_iff.mp ex
  obtain ⟨g2, rfl⟩ := Array.getElem?_eq_some_iff.mp ey
  refine (List.getElem_inj (h₀ := by simpa using g1) (h₁ := by simpa using g2) nd).mp ?_
  rw [List.getElem_map, List.getElem_map, Array.getElem_toList, Array.getElem_toList]
  exact O.total _ _ h1 h2
end
end Tim


set_option Elab.async false
set_option linter.all false
set_option maxRecDepth 100000
set_option maxHeartbeats 4000000
namespace Tim
open PySem PyProof.Rows
section
variable {prog : Program} {w : World} {A : Around} {E : Value → Shared → Prop} {s : Shared} {a₀ : Array Keyed} {κ : SortKind} {O : KeyOrd} {key : Keyed → O.α}
end
end Tim


set_option Elab.async false
set_option linter.all false
set_option maxRecDepth 100000
set_option maxHeartbeats 4000000
/-! sorted of many texts, sorted of a dict's keys; what is never raised; l.index of many texts -/
namespace L2
open PySem PySem.Spec PyProof.Rows PySem.W Tim
section
variable {prog : Program} {w : World} {A : Around} {E : Value → Shared → Prop} {s : Shared}
end
section
variable {prog : Program} {w : World} {A : Around} {E : Value → Shared → Prop} {s : Shared} {T : String} {r d : Addr} {n : Nat} {P : Nat → Value → Prop} {OK : Heap → Prop}
end
section
variable {X : Cx}
end
end L2


set_option Elab.async false
set_option linter.all false
set_option maxRecDepth 100000
set_option maxHeartbeats 4000000
/-! comprehensions over many pairs -/
namespace L2
open PySem PySem.Spec PyProof.Rows PySem.W
section
variable {NL : List Str} {ix : List Nat} {g : TG} {tt : TT} {te : TE} {σ : St} {H1 : Hp} {Qs : Hp → Prop} {acc : Addr}
theorem comp_zipB {κ1 κ2 : SK} {xs zs : List V} (hn : xs.length < 10000) (hlen : xs.length = zs.length) (Pv : Nat → List V → Hp → Prop)
    (hl : ∀ i ys H2, Pv i ys H2 → κ1.has H2 xs ∧ κ2.has H2 zs) (hacc : ∀ i ys H2, Pv i ys H2 → H2 acc = some (.lst ys) ∧ ys.length ≤ i) (h0 : Pv 0 [] (upd H1 acc (.lst []))) (hstop : ∀ ys H2, Pv xs.length ys H2 → Qs H2)
    (hturn : ∀ (i : Nat) x z ys H2 p, xs[i]? = some x → zs[i]? = some z → Pv i ys H2 → H2 p = none → g (.ref p) (comp0 NL ix σ) (upd H2 p (.tup [x, z])) fun σ' H4 => σ'.drop NL.length = ix.map (fun j => σ.getD j none) ∧ tt σ' H4 fun b H5 =>
      if b = true then te σ' H5 fun v H6 => H6 acc = some (.lst ys) ∧ Pv (i + 1) (ys ++ [v]) (upd H6 acc (.lst (ys ++ [v]))) else Pv (i + 1) ys H5) :
    ∃ W : Nat → Nat → List V → Hp → Prop, (∃ m, W 0 m [] (upd H1 acc (.lst []))) ∧
    ∀ i m ys H2, W i m ys H2 → H2 acc = some (.lst ys) ∧ ys.length < sizeLine ∧
      (((Itz κ1 κ2).stop i H2 ∧ Qs H2) ∨ ((Itz κ1 κ2).go i H2 ∧ ∃ N : List V → Hp → Prop, (∀ ys' H', N ys' H' → ∃ m', m' < m ∧ W (i + 1) m' ys' H') ∧
        ∀ x H3, (Itz κ1 κ2).yld i H2 x H3 → g x (comp0 NL ix σ) H3 fun σ' H4 => σ'.drop NL.length = ix.map (fun j => σ.getD j none) ∧ tt σ' H4 fun b H5 =>
          if b = true then te σ' H5 fun v H6 => H6 acc = some (.lst ys) ∧ N (ys ++ [v]) (upd H6 acc (.lst (ys ++ [v]))) else N ys H5)) := by
  refine comp_big xs.length hn Pv hacc h0 (fun ys H2 hp => ⟨⟨xs, zs, (hl _ _ _ hp).1, (hl _ _ _ hp).2, .inl rfl⟩, hstop ys H2 hp⟩) fun i ys H2 hi hp => ?_
  have hs := hl _ _ _ hp
  refine ⟨⟨xs, zs, xs[i], zs[i], hs.1, hs.2, List.getElem?_eq_getElem hi, List.getElem?_eq_getElem (by omega)⟩, ?_⟩
  rintro x H3 ⟨p, x', z', rfl, hpn, rfl, hx, hz⟩
  exact hturn i x' z' ys H2 p (hx xs hs.1) (hz zs hs.2) hp hpn
end
end L2


set_option Elab.async false
set_option linter.all false
set_option maxRecDepth 100000
set_option maxHeartbeats 4000000
/-! list.count of texts; l[::n]; a text walked; startswith as a test -/
namespace L2
open PySem PySem.Spec PyProof.Rows PySem.W
section
variable {X : Cx}
def rCountS : V → List V → Hp → VK → Prop := fun x vs H Q => ∃ (l : Addr) (ss : List Str) (y : Str), x = .ref l ∧ vs = [.str y] ∧ H l = some (.lst (ss.map V.str)) ∧ Q (.int ((ss.count y : Nat) : Int)) H
theorem mt_countS : MtM X "list.count" rCountS := by
  intro pins s σ H x vs v us Q I rx rv h
  obtain ⟨l, ss, y, rfl, rfl, hH, q⟩ := h
  cases rx
  obtain ⟨u, rfl, ru⟩ := rv.one
  have ru0 := ru
  obtain ⟨ty, rfl⟩ := ru
  obtain ⟨z, its, n, r, hz, e⟩ := I.lstM hH
  refine call_meets F.slot_list_count ⟨_, e, rfl⟩ F.entry_list_count (F.args_list_count_2 _ _) (SeqAt.list_countAt l its.toArray n none #[] (.str y ty) (eqU (V.str y))) ⟨e, fun u hu => mem_eqAt (x := V.str y) ru0 rfl r (flat_strs ss) u (by simpa using hu), ?_⟩
  have key : ∀ (ms : List Str) (us : List Value), Vals (ms.map V.str) us → us.countP (eqU (V.str y)) = ms.count y := by
    intro ms
    induction ms with
    | nil => intro us hv; cases hv; rfl
    | cons m ms ih =>
      intro us hv
      cases hv with
      | cons h t =>
        obtain ⟨tk, rfl⟩ := h
        rw [List.countP_cons, List.count_cons, ih _ t]
        rfl
  have ek : its.toArray.toList.countP (eqU (V.str y)) = ss.count y := by rw [List.toList_toArray]; exact key ss its r
  exact ⟨.int _, H, I.tok _, ⟨_, by rw [ek]⟩, q⟩
theorem pe_countS (K : PySem.W.Frag) {o e : Expr} {to te : TE} {apos cpos : Pos} (ho : PE X o to) (he : PE X e te) (hK : X.K = K := by rfl) (hbase : attributeBase o "count" X.env (eval o X.env) = eval o X.env := by rfl)
    (h1 : starEach [e] X.env = [(false, eval e X.env)] := by rfl) (hl : (apos.endLine == cpos.line) = true := by rfl) :
    PE X (.Call (.Attribute o "count" apos) [e] [] cpos) (tBM K "list" rCountS to (tCons te tNil)) := by
  subst hK
  exact pe_bm PySem.F.plainAttrs_list PySem.F.slot_list_count PySem.F.type_list_count mt_countS ho (pa_cons he pa_nil h1) hbase (by rw [h1]; rfl) hl h1 (by rfl)
/-! ### l[::n] -/
variable {e st : Expr} {te : TE} {ts : TO} {pos p2 : Pos}
end
/-! ### a text walked -/
section
variable {X : Cx} {tg : Expr}
end
section
variable {NL : List Str} {ix : List Nat} {g : TG} {tt : TT} {te : TE} {σ : St} {H1 : Hp} {Qs : Hp → Prop} {acc : Addr}
end
section
variable {X : Cx}
end
end L2


set_option Elab.async false
set_option linter.all false
set_option maxRecDepth 100000
set_option maxHeartbeats 4000000
/-! dict(a list of pairs) whose keys are tuples -/
namespace L2
open PySem PySem.Spec PyProof.Rows PySem.W
def DPrsT (P : Program) (w : World) (h : Heap) (D : Addr) (items : Array Value) (ps : List (List Key × Addr × Value)) : Prop :=
  ps.length = items.size ∧ ∀ (j : Nat) (k : List Key) (b : Addr) (v : Value), ps[j]? = some (k, b, v) → ∃ a : Addr, items[j]? = some (Value.ref a) ∧ a ≠ D ∧ b ≠ D ∧ IsTup h a #[.ref b, v] ∧ (tupleKind (mixKind P w)).is h k b
theorem DPrsT.keeps {P : Program} {w : World} {h h' : Heap} {D I : Addr} {items : Array Value} {ps : List (List Key × Addr × Value)} (p : DPrsT P w h D items ps) (nI : ∀ a : Addr, Value.ref a ∈ items → a ≠ I) (nIb : ∀ (j : Nat) k b v, ps[j]? = some (k, b, v) → b ≠ I)
    (k : ∀ b o, b ≠ I → b ≠ D → h.get? b = some o → h'.get? b = some o) : DPrsT P w h' D items ps := by
  refine ⟨p.1, fun j kk b v e => ?_⟩
  obtain ⟨a, ha, hD, hbD, ⟨o, e1, e2⟩, o2, its, n, e3, r⟩ := p.2 j kk b v e
  exact ⟨a, ha, hD, hbD, ⟨o, k a o (nI a (Array.mem_of_getElem? ha)) hD e1, e2⟩, o2, its, n, k b o2 (nIb j kk b v e) hbD e3, r⟩
section
variable {prog : Program} {w : World} {A : Around} {E : Value → Shared → Prop}
end
section
variable {prog : Program} {w : World} {A : Around} {E : Value → Shared → Prop} {s : Shared}
end
/-! the rule -/
section
variable {X : Cx}
end
end L2


set_option Elab.async false
set_option linter.all false
set_option maxRecDepth 100000
set_option maxHeartbeats 4000000
/-! exceptions: raised, passed on -/
namespace L2
open PySem PySem.Spec PyProof.Rows

theorem ObjOk.obj {P : Program} {w : World} {H : Hp} {h : Heap} {a : Addr} {o : HO} (x : ObjOk P w H h a o) : ∃ u, h.get? a = some u := by
  cases o with
  | lst xs => obtain ⟨_, _, _, _, e⟩ := x; exact ⟨_, e⟩
  | tup xs => obtain ⟨⟨_, o, e, _⟩, _⟩ := x; exact ⟨_, e⟩
  | dK kvs => obtain ⟨_, _, _, _, o, _, _, e, _⟩ := x; exact ⟨_, e⟩
  | dT kvs => obtain ⟨_, _, _, _, o, _, _, e, _⟩ := x; exact ⟨_, e⟩
  | set S n => obtain ⟨o, _, _, _, e, _⟩ := x; exact ⟨_, e⟩
  | ins C dx fs => obtain ⟨_, _, _, e, _⟩ := x; exact ⟨_, e⟩
  | own y => exact x
  | xd fs => obtain ⟨_, ⟨_, _, _, e, _⟩, _⟩ := x; exact ⟨_, e⟩
  | rng lo hi => obtain ⟨_, _, _, e⟩ := x; exact ⟨_, e⟩
  | frz ob u => exact ⟨_, x.1⟩
  | tbl ps => exact ⟨_, x⟩
  | met f y => exact ⟨_, x⟩
  | ext φ => exact x.2.1

/-- an exception under way below the frames l: B is what it can't touch: all that stood at the entry but the frames, and all that is tracked -/
def FlyS (l : List Env) (H₀ : Hp) (h₀ : Heap) (H' : Hp) (a C : Addr) (h : Heap) : Prop :=
  ∃ B a0, Heap.FlyingW B l a (.ref C) a0 h ∧ (∀ b o, h₀.get? b = some o → b ∉ frs l → ∃ o', B.get? b = some o' ∧ (H₀ b = none → o' = o)) ∧ ∀ b u, H' b = some u → ∃ o, B.get? b = some o

def CXE (P : Program) (w : World) : CXT := fun outer H s E e s' => ∃ a C H', e = .ref a ∧ s'.os = s.os ∧ AllBare s'.gens ∧ Un (frs outer) [] H H' s.heap s'.heap ∧ HOk P w H' s'.heap ∧ FlyS outer H s.heap H' a C s'.heap ∧ H' a = none ∧ E e (some C) H'

section
variable {P : Program} {w : World} {K : PySem.W.Frag} {mg : Str → Option Value} {base : Heap} {N : List Str} {qual : Str} {scope : Scope} {f : Addr} {cd : Value} {A : Around} {outer : List Env} {s : Shared} {H : Hp} {E : XK}
end
end L2


set_option Elab.async false
set_option linter.all false
set_option maxRecDepth 100000
set_option maxHeartbeats 4000000
/-! exceptions caught: try / except -/
namespace L2
open PySem PySem.Spec PyProof.Rows

/-- an exception has come up to this frame -/
def Up (X : Cx) (pins : List (Addr × Obj)) (σ : St) (a C : Addr) (H2 : Hp) (s : Shared) : Prop :=
  ∃ H1 s1, Inv X pins σ H1 s1 ∧ s.os = s1.os ∧ AllBare s.gens ∧ Un (frs X.stack) [] H1 H2 s1.heap s.heap ∧ HOk X.prog X.w H2 s.heap ∧ FlyS X.stack H1 s1.heap H2 a C s.heap ∧ H2 a = none

section
variable {X : Cx} {pins : List (Addr × Obj)} {σ : St} {a C : Addr} {H1 H2 : Hp} {s s1 : Shared} {B h h' : Heap} {a0 : Value}
/-- the context of a handler's suite: nothing may be raised there -/
abbrev Cx.caught (X : Cx) (a : Addr) : Cx := { X with A := X.A.mark (some (.ref a)), calm := false, xe := fun _ _ => False }
theorem Inv.caught {H : Hp} (I : Inv X pins σ H s) (a : Addr) : Inv (X.caught a) pins σ H s :=
  ⟨⟨I.ok.mod, I.ok.kind, I.ok.glob, I.ok.blt, I.ok.above, I.ok.inj, I.ok.has, I.ok.cab, (fun z => nomatch z), I.ok.frames, I.ok.stk, I.ok.exf, I.ok.bs, I.ok.bsz, I.ok.noex, I.ok.exfs, I.ok.funs, I.ok.frf⟩, I.os, I.bare, I.base, I.loc, I.cell, I.free, I.freeC, I.pin, I.hok, I.len⟩
end

/-! ### handlers -/
section
variable {X : Cx} {x n : Str} {i : Nat} {np pos : Pos} {b₀ : Stmt} {suite : List Stmt} {rest : List ExceptHandler} {Cl : Addr} {th : Addr → TS} {tr : Addr → Addr → TS}
end

/-! ### the statement -/
def PassesAt (CX : CXT) (X : Cx) (E : XK) (σ : St) : Prop := ∀ (pins : List (Addr × Obj)) (H : Hp) (s : Shared) (e : Value) (s' : Shared), Inv X pins σ H s → CX X.stack H s E e s' → X.xe e s'
theorem Passes.at {CX : CXT} {X : Cx} {E : XK} {σ : St} (h : Passes CX X E) : PassesAt CX X E σ := fun pins H s e s' I q => h pins σ H s e s' I q
end L2


set_option Elab.async false
set_option linter.all false
set_option maxRecDepth 100000
set_option maxHeartbeats 4000000
/-! isinstance of an exception of one's own -/
namespace L2
open PySem PySem.Spec PyProof.Rows PySem.W PySem.Calls PySem.Builtin PySem.Builtin.ObjectAttr PySem.Builtin.Getset_descriptor
/-- what isinstance asks of a class of errors -/
structure ExK (K : Frag) (C : Addr) : Prop where
  ga : findIn K (.ref C) "__getattribute__" = some (some (.builtin "BaseException.__getattribute__"))
  gn : findIn K (.ref C) "__getattr__" = some none
  cl : findIn K (.ref C) "__class__" = some (some (.builtin "object.__class__"))
  gt : specialIn K (.builtin "object.__class__") "__get__" = some (some (.builtin "getset_descriptor.__get__"))
  tk : takesIn K (.builtin "object.__class__") = some true
  ob : mroIn K C (.type "object") = some true
  be : mroIn K C (.type "BaseException") = some true
  cd : (clsIn K C).isSome = true
section
variable {prog : Program} {w : World} {A : Around} {E : Value → Shared → Prop} {s : Shared} {K : Frag} {x C : Addr} {R : Result → Shared → Prop}
end
end L2


set_option Elab.async false
set_option linter.all false
set_option maxRecDepth 100000
set_option maxHeartbeats 4000000
/-! raise; defs that raise, called; isinstance of an exception -/
namespace L2
open PySem PySem.Spec PyProof.Rows PySem.W

/-! ### isinstance -/
section
variable {X : Cx}
end

/-! ### raise -/
/-! ### defs that raise -/
def HasX (P : Program) (w : World) (K : Frag) (mg : Str → Option Value) (base : Heap) (x : Str) (k : Nat) (ps : List Str) (sp : Sp) : Prop :=
  ∃ f fd, FnOk P w K mg base (CXE P w) k f fd ps sp ∧ Binds K fd ps [] ∧ keepIn K (.ref f) = true ∧ mg x = some (.ref f)
section
variable {P : Program} {w : World} {K : Frag} {mg : Str → Option Value} {base : Heap}
theorem HasX.mono {x : Str} {j k : Nat} {ps : List Str} {sp : Sp} (G : HasX P w K mg base x j ps sp) (h : j ≤ k) : HasX P w K mg base x k ps sp :=
  let ⟨f, fd, F, r⟩ := G; ⟨f, fd, F.mono h, r⟩
end
section
variable {X : Cx} {x : Str} {k : Nat} {ps : List Str} {sp : Sp} {p pos : Pos} {e : Expr} {es : List Expr} {t : TA} {E : XK} {σ0 : St}
end
end L2


set_option Elab.async false
set_option linter.all false
set_option maxRecDepth 100000
set_option maxHeartbeats 4000000
/-! // by a great number; count and index of truths; a call of a def out of a list -/
namespace L2
open PySem PySem.Spec PyProof.Rows PySem.W
/-- a bound for great divisors; never unfolded -/
@[irreducible] def bigL : Int := 2 ^ 1000
section
variable {X : Cx}
theorem op_fdivL : OpR X (binaryOp .FloorDiv) (rI (fun _ j => 0 < j ∧ j < bigL) fun i j => .int (i / j)) := opI fun i j _ _ _ _ _ hc q => by
  have h1 : (0 : Int) < j := hc.1
  have h2 : j < 2 ^ 1000 := by have := hc.2; unfold bigL at this; exact this
  refine floordiv_int (by omega) (by rw [Int.fdiv_eq_ediv_of_nonneg i (by omega)]; exact q) (.inl (PyProof.noPylong_of_log2 ?_))
  have h3 : j.natAbs < 2 ^ 1000 := by
    have : (j.natAbs : Int) < ((2 ^ 1000 : Nat) : Int) := by
      rw [Int.natAbs_of_nonneg (by omega)]
      exact_mod_cast h2
    exact_mod_cast this
  have h4 := (Nat.log2_lt (by omega)).mpr h3
  omega
end
end L2


set_option Elab.async false
set_option linter.all false
set_option maxRecDepth 100000
set_option maxHeartbeats 4000000
/-! l.index of ints; a comprehension over a tuple -/
namespace L2
open PySem PySem.Spec PyProof.Rows PySem.W
section
variable {X : Cx}
def rIndexI : V → List V → Hp → VK → Prop := fun x vs H Q => ∃ (l : Addr) (ss : List Int) (y : Int), x = .ref l ∧ vs = [.int y] ∧ H l = some (.lst (ss.map V.int)) ∧ y ∈ ss ∧ ss.length ≤ 10000 ∧ Q (.int ((ss.idxOf y : Nat) : Int)) H
theorem mt_indexI : MtM X "list.index" rIndexI := by
  intro pins s σ H x vs v us Q I rx rv h
  obtain ⟨l, ss, y, rfl, rfl, hH, hm, hl, q⟩ := h
  cases rx
  obtain ⟨u, rfl, ru⟩ := rv.one
  have ru0 := ru
  obtain ⟨ty, rfl⟩ := ru
  obtain ⟨z, its, n, r, hz, e⟩ := I.lstM hH
  have rl := r.length
  rw [List.length_map] at rl
  have jl : ss.idxOf y < ss.length := List.idxOf_lt_length_of_mem hm
  have key : ∀ (j : Nat) (hj : j < its.toArray.size), eqU (V.int y) its.toArray[j] = (ss[j]'(by rw [rl]; simpa using hj) == y) := fun j hj => by
    have hj' : j < ss.length := by rw [rl]; simpa using hj
    obtain ⟨w', e1, e2⟩ := r.get (i := j) (x := V.int (ss[j])) (by rw [List.getElem?_map, List.getElem?_eq_getElem hj']; rfl)
    obtain ⟨t', rfl⟩ := e2
    have : its.toArray[j] = Value.int ss[j] t' := by
      rw [List.getElem?_eq_getElem (by omega)] at e1
      simpa using Option.some.inj e1
    rw [this]
    rfl
  refine call_meets F.slot_list_index ⟨_, e, rfl⟩ F.entry_list_index (F.args_list_index_2 _ _) (SeqAt.list_indexAt l its.toArray n none #[] (.int y ty) (eqU (V.int y)) (ss.idxOf y) (by rw [List.size_toArray]; omega) (by omega) ?_ ?_) ⟨e, fun u hu => mem_eqAt (x := V.int y) ru0 rfl r (flat_ints ss) u (by simpa using hu), ?_⟩
  · rw [key _ (by rw [List.size_toArray]; omega), List.getElem_idxOf jl]; exact beq_self_eq_true y
  · intro m hm' hlt
    rw [key m hm']
    have := List.not_of_lt_findIdx (p := (· == y)) (xs := ss) (i := m) hlt
    simpa using this
  · exact ⟨.int _, H, I.tok _, ⟨_, rfl⟩, q⟩
theorem pe_indexI (K : PySem.W.Frag) {o e : Expr} {to te : TE} {apos cpos : Pos} (ho : PE X o to) (he : PE X e te) (hK : X.K = K := by rfl) (hbase : attributeBase o "index" X.env (eval o X.env) = eval o X.env := by rfl)
    (h1 : starEach [e] X.env = [(false, eval e X.env)] := by rfl) (hl : (apos.endLine == cpos.line) = true := by rfl) :
    PE X (.Call (.Attribute o "index" apos) [e] [] cpos) (tBM K "list" rIndexI to (tCons te tNil)) := by
  subst hK
  exact pe_bm PySem.F.plainAttrs_list PySem.F.slot_list_index PySem.F.type_list_index mt_indexI ho (pa_cons he pa_nil h1) hbase (by rw [h1]; rfl) hl h1 (by rfl)
end
end L2
namespace L2
section
variable {NL : List PySem.Str} {ix : List Nat} {g : TG} {tt : TT} {te : TE} {σ : St} {H1 : Hp} {Qs : Hp → Prop} {acc : PySem.Addr}
end
end L2


set_option Elab.async false
set_option linter.all false
set_option maxRecDepth 100000
set_option maxHeartbeats 4000000
/-! == and != of a list of whatever and [] -/
namespace L2
open PySem PySem.Spec PyProof.Rows PySem.W
section
variable {X : Cx}
theorem op_eq_nil (hu : X.A.units < cLine) : OpR X (compareOp .Eq) (fun x y H Q => ∃ a b xs, x = .ref a ∧ y = .ref b ∧ SqL X.K H a xs ∧ SqL X.K H b [] ∧ Q (.bl xs.isEmpty) H) := by
  intro pins s σ H x y v u Q I rx ry h
  obtain ⟨a, b, xs, rfl, rfl, h1, h2, q⟩ := h
  cases xs with
  | nil => exact op_eq_lst hu pins s σ H _ _ v u Q I rx ry ⟨a, b, [], [], rfl, rfl, h1, h2, rfl, rfl, q⟩
  | cons z zs =>
    cases (show v = Value.ref a from rx)
    cases (show u = Value.ref b from ry)
    obtain ⟨us, r1, l1, _⟩ := I.list h1
    obtain ⟨ws, r2, l2, _⟩ := I.list h2
    have e1 := r1.length
    have e2 := r2.length
    rw [List.length_cons] at e1
    rw [List.length_nil] at e2
    exact SeqAt.eq_list_lengthsAt l1.isList l2.isList (by simp; omega) hu ⟨.bl _, H, I, rfl, q⟩
end
end L2


set_option Elab.async false
set_option linter.all false
set_option maxRecDepth 100000
set_option maxHeartbeats 4000000
/-! all that a zip brings, as a list: its tuples are new each -/
namespace L2
open PySem PySem.Spec PyProof.Rows PySem.W
abbrev IsZipB (h : Heap) (z TI TO p : Addr) (b : Bool) : Prop := h.get? z = some { cls := .type "zip", data := .fields #[rawInt (p : Int), .bool b, .bool false, .ref TI, .ref TO] }
section
variable {prog : Program} {w : World} {A : Around} {E : Value → Shared → Prop} {s : Shared}
end
/-- the zip's records -/
def ZSt (κ1 κ2 : SK) (z TI TO i1 i2 : Addr) (k : Nat) (h : Heap) : Prop :=
  ((IsZip h z TI TO .none) ∨ ∃ p b, IsZipB h z TI TO p b ∧ (∃ o, h.get? p = some o)) ∧ IsPair h TI (.ref i1) (.ref i2) ∧ (∃ a b, IsPair h TO a b) ∧ κ1.own i1 k h ∧ κ2.own i2 k h
theorem ZSt.keep {κ1 κ2 : SK} {z TI TO i1 i2 : Addr} {k : Nat} {h h' : Heap} (x : ZSt κ1 κ2 z TI TO i1 i2 k h) (k1 : ∀ b ∈ [z, TI, TO, i1, i2], ∀ o, h.get? b = some o → h'.get? b = some o) (k2 : ∀ b o, h.get? b = some o → ∃ o', h'.get? b = some o') : ZSt κ1 κ2 z TI TO i1 i2 k h' := by
  obtain ⟨hz, hTI, ⟨a, c, hTO⟩, h1, h2⟩ := x
  refine ⟨?_, k1 TI (by simp) _ hTI, ⟨a, c, k1 TO (by simp) _ hTO⟩, SK.own_at h1 fun o q => k1 i1 (by simp) o q, SK.own_at h2 fun o q => k1 i2 (by simp) o q⟩
  rcases hz with hz | ⟨p, b, hz, o, hp⟩
  · exact .inl (k1 z (by simp) _ hz)
  · exact .inr ⟨p, b, k1 z (by simp) _ hz, k2 _ _ hp⟩
section
variable {X : Cx} {pins : List (Addr × Obj)} {σ : St} {H : Hp} {s : Shared} {A : Around} {E : Value → Shared → Prop} {κ1 κ2 : SK} {z TI TO i1 i2 : Addr}
end
/-- what was made: as many tuples as were walked, all new, all else as it was -/
def NewTups (H0 H : Hp) (as : List Addr) (xs ys : List V) : Prop :=
  as.Nodup ∧ (∀ b, b ∉ as → H b = H0 b) ∧ ∀ (i : Nat) (a : Addr), as[i]? = some a → H0 a = none ∧ ∃ x y, xs[i]? = some x ∧ ys[i]? = some y ∧ H a = some (.tup [x, y])
theorem NewTups.nil {H : Hp} {xs ys : List V} : NewTups H H [] xs ys := ⟨List.nodup_nil, fun _ _ => rfl, fun i a e => by simp at e⟩
theorem NewTups.same {H0 H : Hp} {as : List Addr} {xs ys : List V} (n : NewTups H0 H as xs ys) : Same H0 H := fun b u e => by
  have nb : b ∉ as := fun hb => by
    obtain ⟨i, hi⟩ := List.getElem?_of_mem hb
    rw [(n.2.2 i b hi).1] at e; cases e
  exact (n.2.1 b nb).trans e
theorem NewTups.push {H0 H : Hp} {as : List Addr} {xs ys : List V} {p : Addr} {x y : V} (n : NewTups H0 H as xs ys) (hp : H p = none) (hx : xs[as.length]? = some x) (hy : ys[as.length]? = some y) : NewTups H0 (upd H p (.tup [x, y])) (as ++ [p]) xs ys := by
  have np : p ∉ as := fun hm => by
    obtain ⟨i, hi⟩ := List.getElem?_of_mem hm
    obtain ⟨_, x, y, _, _, e⟩ := n.2.2 i p hi
    rw [hp] at e; cases e
  refine ⟨List.nodup_append.mpr ⟨n.1, by simp, fun a ha b hb => by simp at hb; subst hb; exact fun e => np (e ▸ ha)⟩, fun b hb => ?_, fun i a e => ?_⟩
  · have h1 : b ∉ as := fun q => hb (by simp [q])
    have h2 : b ≠ p := fun q => hb (by simp [q])
    rw [upd_ne h2]; exact n.2.1 b h1
  · rcases Nat.lt_or_ge i as.length with q | q
    · rw [List.getElem?_append_left q] at e
      obtain ⟨e1, x, y, e2, e3, e4⟩ := n.2.2 i a e
      exact ⟨e1, x, y, e2, e3, by rw [upd_ne (fun z => np (by rw [← z]; exact List.mem_of_getElem? e))]; exact e4⟩
    · have q0 : i = as.length := by
        have := (List.getElem?_eq_some_iff.mp e).1
        simp at this; omega
      subst q0
      have ea : p = a := by simpa using e
      subst ea
      exact ⟨by rw [← n.2.1 p np]; exact hp, x, y, hx, hy, upd_same⟩
section
variable {X : Cx} {pins : List (Addr × Obj)} {σ : St} {A : Around} {κ1 κ2 : SK} {z TI TO i1 i2 S : Addr} {xs ys : List V} {H0 : Hp} {res : Value} {R : Result → Shared → Prop} {g0 : Array GenState} {d0 : Drawn} {o0 : OsState}
end
end L2


set_option Elab.async false
set_option linter.all false
set_option maxRecDepth 100000
set_option maxHeartbeats 4000000
/-! sorted of any number of tuples that are told apart -/
namespace L2
open PySem PySem.Spec PyProof.Rows PySem.W Tim
section
variable {prog : Program} {w : World} {A : Around} {E : Value → Shared → Prop} {s : Shared}
end
section
variable {X : Cx}
end
end L2


set_option Elab.async false
set_option linter.all false
set_option maxRecDepth 100000
set_option maxHeartbeats 4000000
/-! sorted(zip(texts, tuples)), list(zip(.., ..)) -/
namespace L2
open PySem PySem.Spec PyProof.Rows PySem.W Tim
section
variable {prog : Program} {w : World} {A : Around} {E : Value → Shared → Prop} {s : Shared}
end
section
variable {X : Cx} {pins : List (Addr × Obj)} {σ : St} {H : Hp} {s : Shared} {A : Around} {E : Value → Shared → Prop} {κ1 κ2 : SK} {z TI TO i1 i2 : Addr} {xs ys : List V}
theorem ZSt.zip {k : Nat} {h : Heap} (x : ZSt κ1 κ2 z TI TO i1 i2 k h) : ∃ o, h.get? z = some o ∧ o.cls = .type "zip" := by
  rcases x.1 with e | ⟨_, _, e, _⟩
  · exact ⟨_, e, rfl⟩
  · exact ⟨_, e, rfl⟩
end
end L2


set_option Elab.async false
set_option linter.all false
set_option maxRecDepth 100000
set_option maxHeartbeats 4000000
/-! sorted(zip(texts, pairs of ints)) -/
namespace L2
open PySem PySem.Spec PyProof.Rows PySem.W Tim
section
variable {prog : Program} {w : World} {A : Around} {E : Value → Shared → Prop} {s : Shared}
theorem lexV_self (xs : List V) : lexV xs xs = false := by
  induction xs with
  | nil => rfl
  | cons x xs ih => unfold lexV; rw [if_pos rfl]; exact ih
end
section
variable {X : Cx}
end
end L2


set_option Elab.async false
set_option linter.all false
set_option maxRecDepth 100000
set_option maxHeartbeats 4000000
/-! max(a list, key=lambda x: ..) -/
namespace L2
open PySem PySem.Spec PyProof.Rows PySem.W
theorem entry_maxLoop : entryFor table "max.loop" = some Builtin.«max.loop» := by kernel_rfl
theorem plain_maxLoop : plainId "max.loop" = true := by kernel_rfl
theorem kind_max : builtinKind "max" = none := by kernel_rfl
theorem plain_max : plainId "max" = true := by kernel_rfl
theorem entry_max : entryFor table "max" = some Builtin.«max» := by kernel_rfl
/-- the first of the greatest among the first j -/
def Best (kf : Nat → Int) (b j : Nat) : Prop := b < j ∧ ∀ i, i < j → kf i ≤ kf b ∧ (i < b → kf i < kf b)
theorem Best.one (kf : Nat → Int) : Best kf 0 1 := ⟨by omega, fun i hi => ⟨by rw [show i = 0 by omega]; exact Int.le_refl _, fun h => by omega⟩⟩
theorem Best.stay {kf : Nat → Int} {b j : Nat} (h : Best kf b j) (hn : ¬ kf b < kf j) : Best kf b (j + 1) := ⟨by have := h.1; omega, fun i hi => by
  rcases Nat.lt_or_ge i j with q | q
  · exact h.2 i q
  · have : i = j := by omega
    subst this
    exact ⟨by omega, fun z => by have := h.1; omega⟩⟩
theorem Best.new {kf : Nat → Int} {b j : Nat} (h : Best kf b j) (hn : kf b < kf j) : Best kf j (j + 1) := ⟨by omega, fun i hi => by
  rcases Nat.lt_or_ge i j with q | q
  · have := (h.2 i q).1
    exact ⟨by omega, fun _ => by omega⟩
  · have : i = j := by omega
    subst this
    exact ⟨Int.le_refl _, fun z => by omega⟩⟩
section
variable {X : Cx} {pins : List (Addr × Obj)} {σ : St}
/-- what the key function does -/
def KeyI (X : Cx) (A1 : Around) (pins0 : List (Addr × Obj)) (σ : St) (H0 : Hp) (fv : Value) (xs : List V) (kf : Nat → Int) : Prop :=
  ∀ (i : Nat) (x : V) (v : Value) (pins : List (Addr × Obj)) (H : Hp) (s : Shared), xs[i]? = some x → RelV x v → (∀ p ∈ pins0, p ∈ pins) → Inv X pins σ H s → Same H0 H →
    wpAny (model X.prog X.w) A1 (call fv [v]) (EP X pins σ fun k H' => k = .int (kf i) ∧ Same H H') (fun _ _ => False) s
variable {A : Around} {R : Result → Shared → Prop} {H0 : Hp} {a fa S It : Addr} {xs : List V} {kf : Nat → Int}
theorem Inv.rePin {pl : List (Addr × Obj)} {H : Hp} {s : Shared} (I : Inv X pins σ H s) (h : ∀ p ∈ pl, s.heap.get? p.1 = some p.2 ∧ FpOk X pins H p.1 ∧ ∀ v, p.2.data ≠ Data.cell v) : Inv X (pins ++ pl) σ H s := I.pins_of fun p hp => by
  rcases List.mem_append.mp hp with q | q
  · exact I.pin p (List.mem_append_right _ q)
  · obtain ⟨h1, h2, h3⟩ := h p q
    exact ⟨h1, h2.1, h2.2.1, h2.2.2.1, h3⟩
theorem sq_ne {H : Hp} {s : Shared} {j : Nat} (I : Inv X pins σ H s) (sl : SqL X.K H a xs) (fI : FpOk X pins H It) (hit : s.heap.IsListIter It a j) : a ≠ It := fun e => by
  rcases sl with q | q
  · rcases q with q | ⟨o, q⟩ <;> (rw [e, fI.1] at q; cases q)
  · obtain ⟨o, _, _, q, hc, _⟩ := q
    have e1 := I.kIn a o q
    obtain ⟨o2, e2, hc2, _⟩ := hit
    rw [e, e2] at e1
    cases e1
    rw [hc2] at hc
    exact absurd (Value.type.inj hc) (by decide)
theorem mm_next {H : Hp} {s : Shared} {j : Nat} {x : V} {sv : Array Value} {c : Nat} {Q : Option Value → Shared → Prop} {E : Value → Shared → Prop} {g0 : Value → Sem (Option Value)} (I : Inv X pins σ H s) (fI : FpOk X pins H It) (SI : S ≠ It) (sl : SqL X.K H a xs) (hh : A.handled = none)
    (hit : s.heap.IsListIter It a j) (hS : s.heap.get? S = some (seqObj "list" sv c)) (hx : xs[j]? = some x)
    (h : ∀ (v : Value) (s' : Shared), RelV x v → Inv X pins σ H s' → s'.heap.IsListIter It a (j + 1) → s'.heap.get? S = some (seqObj "list" sv c) → Q (some v) s') :
    wpAny (model X.prog X.w) A ((pyNext (.ref It)).tryCatch g0) Q E s := by
  obtain ⟨its, rv, ht, hz⟩ := I.list sl
  have aI := sq_ne I sl fI hit
  have jl : j < xs.length := (List.getElem?_eq_some_iff.mp hx).1
  have il : j < its.toArray.size := by rw [List.size_toArray, ← rv.length]; exact jl
  refine wpAny_tryCatch ((Walks.list (prog := X.prog) (w := X.w) hh It a aI its.toArray).item j s _ _ il ⟨hit, ht.isList⟩ fun v h' tk hv st' kp => ?_)
  have I1 : Inv X pins σ H { s with heap := h', toks := tk } := I.turnedMany (tk := tk) (ch := [It]) (fun b hb => by rw [List.mem_singleton.mp hb]; exact fI) fun b ob hb q => kp b ob hb q
  refine h v _ ?_ I1 st'.1 (kp S _ (by simpa using SI) hS)
  obtain ⟨u', e1, e2⟩ := rv.get hx
  have hv' : its[j]? = some v := by simpa using hv
  rw [hv'] at e1
  cases e1
  exact e2
theorem mm_key {H : Hp} {s : Shared} {j j' : Nat} {x : V} {v : Value} {sv : Array Value} {c : Nat} {Q : Value → Shared → Prop} {E : Value → Shared → Prop} {g0 : Value → Sem Value} (I : Inv X pins σ H s) (s0 : Same H0 H) (fS : FpOk X pins H S) (fI : FpOk X pins H It)
    (F : KeyI X A pins σ H0 (.ref fa) xs kf) (hit : s.heap.IsListIter It a j') (hS : s.heap.get? S = some (seqObj "list" sv c)) (hx : xs[j]? = some x) (rx : RelV x v)
    (h : ∀ (t : Tok) (H' : Hp) (s' : Shared), Inv X pins σ H' s' → Same H0 H' → FpOk X pins H' S → FpOk X pins H' It → s'.heap.IsListIter It a j' → s'.heap.get? S = some (seqObj "list" sv c) → Q (.int (kf j) t) s') :
    wpAny (model X.prog X.w) A ((holding [v] (call (.ref fa) [v])).tryCatch g0) Q E s := by
  obtain ⟨oI, hoI, cI, dI⟩ := id hit
  have I2 : Inv X (pins ++ [(S, seqObj "list" sv c), (It, oI)]) σ H s := I.rePin fun p hp => by
    simp only [List.mem_cons, List.not_mem_nil, or_false] at hp
    rcases hp with rfl | rfl
    · exact ⟨hS, fS, fun v z => by cases z⟩
    · exact ⟨hoI, fI, fun v z => by rw [dI] at z; cases z⟩
  refine wpAny_tryCatch (wpAny_holding (wpAny_mono (F j x v _ H _ hx rx (fun p hp => List.mem_append_left _ hp) I2 s0) (fun u s'' hu => ?_) fun _ _ z => z.elim))
  obtain ⟨kv, H', I', ru, rfl, S'⟩ := hu
  obtain ⟨t, rfl⟩ := ru
  have p1 := I'.pin (S, seqObj "list" sv c) (List.mem_append_right _ (List.mem_append_right _ (by simp)))
  have p2 := I'.pin (It, oI) (List.mem_append_right _ (List.mem_append_right _ (by simp)))
  exact h t H' s'' I'.unpinned (s0.trans S') ⟨p1.2.1, fS.2⟩ ⟨p2.2.1, fI.2⟩ ⟨oI, p2.1, cI, dI⟩ p1.1
theorem maxk_loop (SI : S ≠ It) (hl : SqL X.K H0 a xs) (hh : A.in1.handled = none) (F : KeyI X A.in1 pins σ H0 (.ref fa) xs kf)
    (fin : ∀ (H' : Hp) (s' : Shared) (b : Nat) (x : V) (v : Value), Inv X pins σ H' s' → Same H0 H' → xs[b]? = some x → RelV x v → Best kf b xs.length → R (.ok (.ret v)) s') :
    ∀ (m j b : Nat) (H : Hp) (s : Shared) (x : V) (vb : Value) (tb : Tok) (c : Nat), xs.length - j = m → 1 ≤ j → j ≤ xs.length → Inv X pins σ H s → Same H0 H → FpOk X pins H S → FpOk X pins H It → s.heap.IsListIter It a j → s.heap.get? S = some (seqObj "list" #[vb, .int (kf b) tb] c) →
      xs[b]? = some x → RelV x vb → Best kf b j → codeAny (model X.prog X.w) A (.builtin "max.loop" ⟨[.ref It, .ref fa, .ref S], []⟩) R s
  | 0, j, b, H, s, x, vb, tb, c, hm, h1, hj, I, s0, fS, fI, hit, hS, hb, rb, best => by
    have ej : j = xs.length := by omega
    subst ej
    refine codeAny_builtin entry_maxLoop ?_
    rw [Around.under_plainId plain_maxLoop _]
    show wpAny _ _ (seqItems? (.ref S) >>= _) _ _ _
    refine wpAny_bind (wpAny_seqItems hS rfl ?_)
    have sl := s0.seq hl
    obtain ⟨its, rv, ht, hz⟩ := I.list sl
    have aI := sq_ne I sl fI hit
    have il : xs.length = its.toArray.size := by rw [List.size_toArray, ← rv.length]
    refine wpAny_bind (wpAny_tryCatch ((Walks.list (prog := X.prog) (w := X.w) hh It a aI its.toArray).done s _ _ ⟨by rw [← il]; exact hit, ht.isList⟩ fun h' tk kp => ?_))
    have I1 : Inv X pins σ H { s with heap := h', toks := tk } := I.turnedMany (tk := tk) (ch := [It]) (fun b hb => by rw [List.mem_singleton.mp hb]; exact fI) fun b ob hb q => kp b ob hb q
    have hS1 : h'.get? S = some (seqObj "list" #[vb, .int (kf b) tb] c) := kp S _ (by simpa using SI) hS
    show wpAny _ _ (updateSeq S (fun _ => #[]) >>= _) _ _ _
    refine wpAny_bind (wpAny_updateSeq (s := { s with heap := h', toks := tk }) hS1 rfl ?_ (by show 2 ≤ _; decide) (Nat.zero_le _))
    refine wpAny_bind (wpAny_letGo (wpAny_pure ?_))
    exact fin H _ b x vb (I1.turnedMany (tk := tk) (ch := [S]) (fun b hb => by rw [List.mem_singleton.mp hb]; exact fS) fun b ob hb q => (Heap.get?_update_ne _ _ _ _ (by simpa using hb)).trans q) s0 hb rb best
  | m + 1, j, b, H, s, x, vb, tb, c, hm, h1, hj, I, s0, fS, fI, hit, hS, hb, rb, best => by
    have lj : j < xs.length := by omega
    refine codeAny_builtin entry_maxLoop ?_
    rw [Around.under_plainId plain_maxLoop _]
    show wpAny _ _ (seqItems? (.ref S) >>= _) _ _ _
    refine wpAny_bind (wpAny_seqItems hS rfl ?_)
    refine wpAny_bind (mm_next (A := A.in1) I fI SI (s0.seq hl) hh hit hS (List.getElem?_eq_getElem lj) fun v s1 rv I1 hit1 hS1 => ?_)
    show wpAny _ _ (Sem.tryCatch (holding [v] (call (.ref fa) [v])) _ >>= _) _ _ _
    refine wpAny_bind (mm_key I1 s0 fS fI F hit1 hS1 (List.getElem?_eq_getElem lj) rv fun t H' s' I' s0' fS' fI' hit' hS' => ?_)
    refine wpAny_bind (wpAny_tryCatch (wpAny_holding ?_))
    refine wpAny_bind ((CmpOf.ints_gt (prog := X.prog) (w := X.w) (A := A.in1) (P := fun i v => ∃ t, v = Value.int (kf i) t) kf fun i v h => h) j b _ _ s' _ _ ⟨t, rfl⟩ ⟨tb, rfl⟩ ?_)
    refine wpAny_bind (wpAny_holding (wpAny_truthy_bool ?_))
    refine wpAny_bind (wpAny_letGo (wpAny_pure ?_))
    by_cases cnd : kf j > kf b
    · simp only [decide_eq_true cnd, if_true]
      refine wpAny_bind (wpAny_updateSeq hS' rfl ?_ (by show 2 ≤ _; decide) (by show 2 ≤ _; decide))
      refine wpAny_bind (wpAny_letGo (wpAny_pure ⟨plainId_quiet plain_maxLoop _, ?_⟩))
      obtain ⟨c', hS2⟩ : ∃ c', (s'.heap.update S (Obj.mapSeq fun _ => #[v, .int (kf j) t])).get? S = some (seqObj "list" #[v, .int (kf j) t] c') := ⟨_, get?_update_seq hS' fun _ => #[v, .int (kf j) t]⟩
      have ku : ∀ b o, b ≠ S → s'.heap.get? b = some o → (s'.heap.update S (Obj.mapSeq fun _ => #[v, .int (kf j) t])).get? b = some o := fun b o hb e => (Heap.get?_update_ne _ _ _ _ hb).trans e
      exact maxk_loop SI hl hh F fin m (j + 1) j H' { s' with heap := s'.heap.update S (Obj.mapSeq fun _ => #[v, .int (kf j) t]), toks := s'.toks } _ v t c' (by omega) (by omega) lj (I'.turnedMany (tk := s'.toks) (ch := [S]) (fun b hb => by rw [List.mem_singleton.mp hb]; exact fS') fun b ob hb q => ku b ob (by simpa using hb) q) s0' fS' fI'
        (Heap.IsListIter.at hit' fun o e => ku _ o (Ne.symm SI) e) hS2 (List.getElem?_eq_getElem lj) rv (best.new cnd)
    · simp only [decide_eq_false cnd, Bool.false_eq_true, if_false]
      refine wpAny_bind (wpAny_letGo (wpAny_pure ⟨plainId_quiet plain_maxLoop _, ?_⟩))
      exact maxk_loop SI hl hh F fin m (j + 1) b H' s' x vb tb c (by omega) (by omega) lj I' s0' fS' fI' hit' hS' hb rb (best.stay cnd)
theorem maxk_call {E : Value → Shared → Prop} {H : Hp} {s : Shared} {Q : Value → Shared → Prop} (I : Inv X pins σ H s) (hl : SqL X.K H a xs) (ne : xs ≠ []) (hh : A.in1.handled = none) (F : KeyI X A.in1 pins σ H (.ref fa) xs kf)
    (fin : ∀ (H' : Hp) (s' : Shared) (b : Nat) (x : V) (v : Value), Inv X pins σ H' s' → Same H H' → xs[b]? = some x → RelV x v → Best kf b xs.length → Q v s') :
    wpAny (model X.prog X.w) A (call (.builtin "max") [.ref a] [(Str.ofString "key", .ref fa)]) Q E s := by
  have l0 : 0 < xs.length := List.length_pos_iff.mpr ne
  obtain ⟨its, rv, ht, hz⟩ := I.list hl
  refine kmk_tree kind_max plain_max entry_max (kmk_max_key _ _) ?_
  show wpAny _ _ (pyIter (.ref a) >>= _) _ _ _
  refine wpAny_bind (wpAny_pyIter_list ht.isList ?_)
  refine wpAny_bind (wpAny_newList ?_ (Nat.zero_le _))
  refine wpAny_pure ⟨plainId_quiet plain_maxLoop _, ?_⟩
  generalize hg : (s.heap.push { cls := .type "list_iterator", data := .fields #[.ref a, .int 0 0] }) = g
  have zg : g.objs.size = s.heap.objs.size + 1 := by rw [← hg]; exact Heap.size_push ..
  have kg : ∀ b o, s.heap.get? b = some o → g.get? b = some o := fun b o e => by rw [← hg]; exact Heap.get?_push_of_some _ e
  have hi : g.IsListIter s.heap.objs.size a 0 := ⟨_, by rw [← hg]; exact Heap.get?_push_size _ rfl, rfl, rfl⟩
  have hS : (g.push (seqObj "list" #[] 0)).get? g.objs.size = some (seqObj "list" #[] 0) := Heap.get?_push_size _ rfl
  have k1 : ∀ b o, g.get? b = some o → (g.push (seqObj "list" #[] 0)).get? b = some o := fun b o e => Heap.get?_push_of_some _ e
  have I1 : Inv X pins σ H { s with heap := g.push (seqObj "list" #[] 0), toks := s.toks } := I.kept (t' := s.toks) fun b o e => k1 b o (kg b o e)
  have fI : FpOk X pins H s.heap.objs.size := I.fpOk (Nat.le_refl _) (I.hok.fresh (Nat.le_refl _))
  have fS : FpOk X pins H g.objs.size := I.fpOk (by omega) (I.hok.fresh (by omega))
  have SI : g.objs.size ≠ s.heap.objs.size := by omega
  show codeAny _ A (.builtin "max.loop" ⟨[.ref s.heap.objs.size, .ref fa, .ref g.objs.size], []⟩) _ { s with heap := g.push (seqObj "list" #[] 0), toks := s.toks }
  refine codeAny_builtin entry_maxLoop ?_
  rw [Around.under_plainId plain_maxLoop _]
  show wpAny _ _ (seqItems? (.ref g.objs.size) >>= _) _ _ { s with heap := g.push (seqObj "list" #[] 0), toks := s.toks }
  refine wpAny_bind (wpAny_seqItems hS rfl ?_)
  refine wpAny_bind (mm_next (A := A.in1) I1 fI SI hl hh (Heap.IsListIter.at hi fun o e => k1 _ o e) hS (List.getElem?_eq_getElem l0) fun v s1 rv I1 hit1 hS1 => ?_)
  show wpAny _ _ (Sem.tryCatch (holding [v] (call (.ref fa) [v])) _ >>= _) _ _ _
  refine wpAny_bind (mm_key I1 (Same.refl H) fS fI F hit1 hS1 (List.getElem?_eq_getElem l0) rv fun t H' s' I' s0' fS' fI' hit' hS' => ?_)
  show wpAny _ _ (updateSeq g.objs.size _ >>= _) _ _ _
  refine wpAny_bind (wpAny_updateSeq hS' rfl ?_ (Nat.zero_le _) (by show 2 ≤ _; decide))
  refine wpAny_pure ⟨plainId_quiet plain_maxLoop _, ?_⟩
  obtain ⟨c', hS2⟩ : ∃ c', (s'.heap.update g.objs.size (Obj.mapSeq fun _ => #[v, .int (kf 0) t])).get? g.objs.size = some (seqObj "list" #[v, .int (kf 0) t] c') := ⟨_, get?_update_seq hS' fun _ => #[v, .int (kf 0) t]⟩
  have ku : ∀ b o, b ≠ g.objs.size → s'.heap.get? b = some o → (s'.heap.update g.objs.size (Obj.mapSeq fun _ => #[v, .int (kf 0) t])).get? b = some o := fun b o hb e => (Heap.get?_update_ne _ _ _ _ hb).trans e
  exact maxk_loop SI hl hh F (fun H' s' b x v a1 a2 a3 a4 a5 => fin H' s' b x v a1 a2 a3 a4 a5) (xs.length - 1) 1 0 H' { s' with heap := s'.heap.update g.objs.size (Obj.mapSeq fun _ => #[v, .int (kf 0) t]), toks := s'.toks } _ v t c' rfl (Nat.le_refl _) l0
    (I'.turnedMany (tk := s'.toks) (ch := [g.objs.size]) (fun b hb => by rw [List.mem_singleton.mp hb]; exact fS') fun b ob hb q => ku b ob (by simpa using hb) q) s0' fS' fI' (Heap.IsListIter.at hit' fun o e => ku _ o (Ne.symm SI) e) hS2 (List.getElem?_eq_getElem l0) rv (Best.one kf)
end
section
variable {X : Cx}
def tMaxEnd (K : PySem.W.Frag) (ls : List Lm) (ix : List Nat) (tb : TE) (σ : St) (Q : VK) (x : V) (H1 : Hp) : Prop := ∃ (a : Addr) (xs : List V) (kf : Nat → Int), x = .ref a ∧ SqL K H1 a xs ∧ xs ≠ [] ∧ Lams ls H1 ∧
  (∀ (i : Nat) (x : V) (H2 : Hp), xs[i]? = some x → Kt ls H1 H2 → tb (lam0 x ix σ) H2 fun k H3 => k = .int (kf i) ∧ Same H2 H3) ∧ ∀ (b : Nat) (x : V) (H2 : Hp), xs[b]? = some x → Best kf b xs.length → Kt ls H1 H2 → Q x H2
def tMaxLam (K : PySem.W.Frag) (ls : List Lm) (ix : List Nat) (te tb : TE) : TE := fun σ H Q => te σ H (tMaxEnd K ls ix tb σ Q)
theorem bt_max' : bootBuiltins "max" = some (.builtin "max") := by kernel_rfl
theorem pe_maxLam (K : PySem.W.Frag) {k : Nat} {P c0 : Addr} {ls : List Lm} {x : Str} {ix : List Nat} {e : Expr} {params : Arguments} {body : Expr} {scope : Scope} {lp kpos p pos : Pos} {te tb : TE}
    (hr : Room k X.A) (hcalm : X.calm = true) (hg : Gl X "max") (hm : X.mg "max" = none) (he : PE X e te) (hcode : X.env.code = .ref c0) (CH : CodeHd X.base c0 P) (hb : X.base.BuiltinsAt X.mg P) (lk : LmOk ls) (li : (P, lp, X.env.qual ++ "<lambda>") ∈ ls) (S : CompScope X scope [x] ix)
    (ht : ∀ (qual : Str) (cl : List (Str × Addr)) (fa : Addr) (cd : Value) (A1 : Around) (s₃ : Shared) (H₃ : Hp) (pins : List (Addr × Obj)), PE (cxLam X scope [x] ix qual cl fa cd A1 s₃ H₃ pins) body tb)
    (hx : scope.names.lookup x = some .local := by rfl) (hco : scope.isCoroutine = false := by rfl) (hgen : scope.isGenerator = false := by rfl) (hdef : defaultsOf params X.env = ([], []) := by rfl)
    (hbind : ∀ (qual : Str) (cl : List (Str × Addr)) (pm : Value) (c : Addr) (ctv u : Value), bindArgs (kla_fn "<lambda>" qual params body scope cl pm (.ref c) ctv) ⟨[u], []⟩ = pure [(x, u)] := by intros; rfl)
    (hs : starEach [e] X.env = [(false, eval e X.env)] := by rfl) (hK : X.K = K := by rfl) :
    PE X (.Call (.Name "max" p) [e] [⟨some "key", .Lambda params body scope lp, kpos⟩] pos) (tMaxLam K ls ix te tb) := by
  subst hK
  intro pins s σ H Q I h
  obtain ⟨cl, hcl, c1, c2⟩ := closure_ok (scope := scope) (env := X.env) fun y hy => by
    rcases S.free _ hy rfl with z | z
    · exact I.ok.has y (.inl z)
    · exact I.ok.has y (.inr z)
  refine wpAny_Call_Name_kw (ld_blt I hg hm bt_max' ?_)
  refine callWith_kw (thn ((pa_cons he pa_nil hs) pos pins s σ H (fun xs H1 => match xs with | [x] => tMaxEnd X.K ls ix tb σ Q x H1 | _ => False) I h) fun us s1 ⟨xs, H1, I1, r1, q1⟩ => ?_) (by rw [hs]; rfl) (by rw [hs]; rfl)
  obtain ⟨x0, ex0, q1⟩ : ∃ x0, xs = [x0] ∧ tMaxEnd X.K ls ix tb σ Q x0 H1 := by
    cases xs with
    | nil => exact False.elim q1
    | cons x0 rest =>
      cases rest with
      | nil => exact ⟨x0, rfl, q1⟩
      | cons _ _ => exact False.elim q1
  subst ex0
  obtain ⟨a, xs, kf, rfl, hl, ne, L, hbody, hend⟩ := q1
  obtain ⟨u, rfl, ru⟩ := vals1 r1
  cases (show u = Value.ref a from ru)
  show wpAny _ _ (evalAll [do let v ← eval (.Lambda params body scope lp) X.env; standAt pos; pure v]) _ _ s1
  refine wpAny_evalAll_cons (wpAny_bind (lam_make (P := P) (c0 := c0) I1 hcl hcode CH hb lk li L hdef fun fa c pm ctv H2 s2 kt hc I2 => wpAny_bind (wpAny_standAt (wpAny_pure (wpAny_evalAll_nil ?_)))))
  show wpAny _ _ (call (.builtin "max") [.ref a] [(Str.ofString "key", .ref fa)]) _ _ s2
  have hA : X.A.handled = none := I.ok.hd hcalm
  refine maxk_call (kf := kf) I2 (kt.seq hl) ne hA (fun i x v pins' H' s' hxi rv hsub I' S' => ?_) fun H' s' b x v I' S' hb rx best => ?_
  · have pf := (I'.pin (fa, kla_obj "<lambda>" (X.env.qual ++ "<lambda>") params body scope cl pm c ctv) (List.mem_append_right _ (hsub _ (List.mem_append_right _ List.mem_cons_self)))).1
    have hcd := (I'.hok c _ (S' _ _ hc)).1
    exact lam_call (te := tb) S I' c1 c2 pf hcd I.ok.frames hA hr.depth (hbind _ _ _ _ _) hx hco hgen (fun s₃ H₃ => ht _ _ _ _ _ s₃ H₃ pins') rv (hbody i x H' hxi (kt.same S'))
  · exact ⟨x, H', I'.unpinned, rx, hend b x H' hb best (kt.same S')⟩
end
end L2


set_option Elab.async false
set_option linter.all false
set_option maxRecDepth 100000
set_option maxHeartbeats 4000000
/-! min(a list of tuples of ints and texts) -/
namespace L2
open PySem PySem.Spec PyProof.Rows PySem.W
theorem entry_minLoop : entryFor table "min.loop" = some Builtin.«min.loop» := by kernel_rfl
theorem plain_minLoop : plainId "min.loop" = true := by kernel_rfl
theorem kind_min : builtinKind "min" = none := by kernel_rfl
theorem plain_min : plainId "min" = true := by kernel_rfl
theorem entry_min : entryFor table "min" = some Builtin.«min» := by kernel_rfl
/-- the least among the first j -/
def Least (lt : Nat → Nat → Bool) (b j : Nat) : Prop := b < j ∧ ∀ i, i < j → lt i b = false
section
variable {X : Cx} {pins : List (Addr × Obj)} {σ : St} {A : Around} {R : Result → Shared → Prop} {H : Hp} {a S It : Addr} {as : List Addr} {K : Nat → List V} {sh : List Nat}
theorem lt_tups {s : Shared} {E : Value → Shared → Prop} {Q : Value → Shared → Prop} {i j : Nat} {p q : Addr} (I : Inv X pins σ H s) (hT : ∀ i b, as[i]? = some b → SqT X.K H b (K i)) (k : Keys as.length K sh) (hu : A.units < cLine) (hi : as[i]? = some p) (hj : as[j]? = some q)
    (h : Q (.bool (lexV (K i) (K j))) s) : wpAny (model X.prog X.w) A (richCompare .Lt (.ref p) (.ref q)) Q E s := by
  obtain ⟨its, r1, p1, _⟩ := I.tuple (hT i p hi)
  obtain ⟨its2, r2, p2, _⟩ := I.tuple (hT j q hj)
  obtain ⟨⟨cls, dd, data, sl⟩, ho, hc, n, hd⟩ := id p1
  obtain ⟨⟨cls2, dd2, data2, sl2⟩, ho2, hc2, n2, hd2⟩ := id p2
  simp only at hc hd hc2 hd2
  subst hc hd hc2 hd2
  exact richCompare_meets_room (op := .Lt) ⟨_, ho, rfl⟩ ⟨_, ho2, rfl⟩ PySem.F.slot_tuple_lt PySem.F.entry_tuple_lt (PySem.F.args_tuple_lt_2 _ _) (tuple_lt_V p q its.toArray its2.toArray n n2 dd dd2 sl sl2 (K i) (K j) (by simpa using r1) (by simpa using r2) ((k.shp i).trans (k.shp j).symm) (by rw [k.shp]; exact k.z))
    ⟨ho, ho2, ⟨(fun x => nomatch x), h⟩⟩ hu
theorem mint_loop (SI : S ≠ It) (hl : SqL X.K H a (as.map V.ref)) (hh : A.in1.handled = none) (hu : A.in1.units < cLine) (hT : ∀ i b, as[i]? = some b → SqT X.K H b (K i)) (k : Keys as.length K sh)
    (fin : ∀ (s' : Shared) (b : Nat) (p : Addr), Inv X pins σ H s' → as[b]? = some p → Least (fun i j => lexV (K i) (K j)) b as.length → R (.ok (.ret (.ref p))) s') (fS : FpOk X pins H S) (fI : FpOk X pins H It) :
    ∀ (m j b : Nat) (s : Shared) (p : Addr) (c : Nat), as.length - j = m → 1 ≤ j → j ≤ as.length → Inv X pins σ H s → s.heap.IsListIter It a j → s.heap.get? S = some (seqObj "list" #[.ref p, .ref p] c) →
      as[b]? = some p → Least (fun i j => lexV (K i) (K j)) b j → codeAny (model X.prog X.w) A (.builtin "min.loop" ⟨[.ref It, .none, .ref S], []⟩) R s
  | 0, j, b, s, p, c, hm, h1, hj, I, hit, hS, hb, best => by
    have ej : j = as.length := by omega
    subst ej
    refine codeAny_builtin entry_minLoop ?_
    rw [Around.under_plainId plain_minLoop _]
    show wpAny _ _ (seqItems? (.ref S) >>= _) _ _ _
    refine wpAny_bind (wpAny_seqItems hS rfl ?_)
    obtain ⟨its, rv, ht, hz⟩ := I.list hl
    have aI := sq_ne I hl fI hit
    have il : as.length = its.toArray.size := by rw [List.size_toArray, ← rv.length, List.length_map]
    refine wpAny_bind (wpAny_tryCatch ((Walks.list (prog := X.prog) (w := X.w) hh It a aI its.toArray).done s _ _ ⟨by rw [← il]; exact hit, ht.isList⟩ fun h' tk kp => ?_))
    have I1 : Inv X pins σ H { s with heap := h', toks := tk } := I.turnedMany (tk := tk) (ch := [It]) (fun b hb => by rw [List.mem_singleton.mp hb]; exact fI) fun b ob hb q => kp b ob hb q
    have hS1 : h'.get? S = some (seqObj "list" #[.ref p, .ref p] c) := kp S _ (by simpa using SI) hS
    show wpAny _ _ (updateSeq S (fun _ => #[]) >>= _) _ _ _
    refine wpAny_bind (wpAny_updateSeq (s := { s with heap := h', toks := tk }) hS1 rfl ?_ (by show 2 ≤ _; decide) (Nat.zero_le _))
    refine wpAny_bind (wpAny_letGo (wpAny_pure ?_))
    exact fin _ b p (I1.turnedMany (tk := tk) (ch := [S]) (fun b hb => by rw [List.mem_singleton.mp hb]; exact fS) fun b ob hb q => (Heap.get?_update_ne _ _ _ _ (by simpa using hb)).trans q) hb best
  | m + 1, j, b, s, p, c, hm, h1, hj, I, hit, hS, hb, best => by
    have lj : j < as.length := by omega
    refine codeAny_builtin entry_minLoop ?_
    rw [Around.under_plainId plain_minLoop _]
    show wpAny _ _ (seqItems? (.ref S) >>= _) _ _ _
    refine wpAny_bind (wpAny_seqItems hS rfl ?_)
    refine wpAny_bind (mm_next (A := A.in1) (x := V.ref as[j]) I fI SI hl hh hit hS (by rw [List.getElem?_map, List.getElem?_eq_getElem lj]; rfl) fun v s' rv I' hit' hS' => ?_)
    cases (show v = Value.ref as[j] from rv)
    refine wpAny_bind (wpAny_pure ?_)
    refine wpAny_bind (wpAny_tryCatch (wpAny_holding ?_))
    refine wpAny_bind (lt_tups (A := A.in1) I' hT k hu (List.getElem?_eq_getElem lj) hb ?_)
    refine wpAny_bind (wpAny_holding (wpAny_truthy_bool ?_))
    refine wpAny_bind (wpAny_letGo (wpAny_pure ?_))
    have tot := k.tot
    by_cases cnd : lexV (K j) (K b) = true
    · simp only [cnd, if_true]
      refine wpAny_bind (wpAny_updateSeq hS' rfl ?_ (by show 2 ≤ _; decide) (by show 2 ≤ _; decide))
      refine wpAny_bind (wpAny_letGo (wpAny_pure ⟨plainId_quiet plain_minLoop _, ?_⟩))
      obtain ⟨c', hS2⟩ : ∃ c', (s'.heap.update S (Obj.mapSeq fun _ => #[.ref as[j], .ref as[j]])).get? S = some (seqObj "list" #[.ref as[j], .ref as[j]] c') := ⟨_, get?_update_seq hS' fun _ => #[.ref as[j], .ref as[j]]⟩
      have ku : ∀ b o, b ≠ S → s'.heap.get? b = some o → (s'.heap.update S (Obj.mapSeq fun _ => #[.ref as[j], .ref as[j]])).get? b = some o := fun b o hb e => (Heap.get?_update_ne _ _ _ _ hb).trans e
      refine mint_loop SI hl hh hu hT k fin fS fI m (j + 1) j { s' with heap := s'.heap.update S (Obj.mapSeq fun _ => #[.ref as[j], .ref as[j]]), toks := s'.toks } as[j] c' (by omega) (by omega) lj (I'.turnedMany (tk := s'.toks) (ch := [S]) (fun b hb => by rw [List.mem_singleton.mp hb]; exact fS) fun b ob hb q => ku b ob (by simpa using hb) q)
        (Heap.IsListIter.at hit' fun o e => ku _ o (Ne.symm SI) e) hS2 (List.getElem?_eq_getElem lj) ⟨by omega, fun i hi => ?_⟩
      rcases Nat.lt_or_ge i j with q | q
      · exact tot.tr j b i (tot.asym j b cnd) (best.2 i q)
      · rw [show i = j by omega]
        exact lexV_self _
    · have cnd' : lexV (K j) (K b) = false := by simpa using cnd
      simp only [cnd', Bool.false_eq_true, if_false]
      refine wpAny_bind (wpAny_letGo (wpAny_pure ⟨plainId_quiet plain_minLoop _, ?_⟩))
      refine mint_loop SI hl hh hu hT k fin fS fI m (j + 1) b s' p c (by omega) (by omega) lj I' hit' hS' hb ⟨by have := best.1; omega, fun i hi => ?_⟩
      rcases Nat.lt_or_ge i j with q | q
      · exact best.2 i q
      · rw [show i = j by omega]; exact cnd'
end
section
variable {X : Cx}
theorem call_min_tups {kr : Nat} (hr : Room kr X.A) (hc : X.calm = true) : CallR X (.builtin "min") (fun vs H Q => ∃ (a : Addr) (as : List Addr) (K : Nat → List V) (sh : List Nat), vs = [.ref a] ∧ SqL X.K H a (as.map V.ref) ∧ as ≠ [] ∧ (∀ i b, as[i]? = some b → SqT X.K H b (K i)) ∧ Keys as.length K sh ∧
    ∀ (b : Nat) (p : Addr), as[b]? = some p → Least (fun i j => lexV (K i) (K j)) b as.length → Q (.ref p) H) := by
  intro pins s σ H xs us Q I r h
  obtain ⟨a, as, K, sh, rfl, hl, ne, hT, k, q⟩ := h
  obtain ⟨u, rfl, ru⟩ := vals1 r
  cases (show u = Value.ref a from ru)
  have l0 : 0 < as.length := List.length_pos_iff.mpr ne
  have hh : X.A.in1.handled = none := I.ok.hd hc
  have hu : X.A.in1.units < cLine := by have := hr.units; show X.A.units + 1 < _; omega
  obtain ⟨its, rv, ht, hz⟩ := I.list hl
  refine kmk_tree (kw := []) kind_min plain_min entry_min (PySem.F.args_min1 _) ?_
  show wpAny _ _ (pyIter (.ref a) >>= _) _ _ _
  refine wpAny_bind (wpAny_pyIter_list ht.isList ?_)
  refine wpAny_bind (wpAny_newList ?_ (Nat.zero_le _))
  refine wpAny_pure ⟨plainId_quiet plain_minLoop _, ?_⟩
  generalize hg : (s.heap.push { cls := .type "list_iterator", data := .fields #[.ref a, .int 0 0] }) = g
  have zg : g.objs.size = s.heap.objs.size + 1 := by rw [← hg]; exact Heap.size_push ..
  have kg : ∀ b o, s.heap.get? b = some o → g.get? b = some o := fun b o e => by rw [← hg]; exact Heap.get?_push_of_some _ e
  have hi : g.IsListIter s.heap.objs.size a 0 := ⟨_, by rw [← hg]; exact Heap.get?_push_size _ rfl, rfl, rfl⟩
  have hS : (g.push (seqObj "list" #[] 0)).get? g.objs.size = some (seqObj "list" #[] 0) := Heap.get?_push_size _ rfl
  have k1 : ∀ b o, g.get? b = some o → (g.push (seqObj "list" #[] 0)).get? b = some o := fun b o e => Heap.get?_push_of_some _ e
  have I1 : Inv X pins σ H { s with heap := g.push (seqObj "list" #[] 0), toks := s.toks } := I.kept (t' := s.toks) fun b o e => k1 b o (kg b o e)
  have fI : FpOk X pins H s.heap.objs.size := I.fpOk (Nat.le_refl _) (I.hok.fresh (Nat.le_refl _))
  have fS : FpOk X pins H g.objs.size := I.fpOk (by omega) (I.hok.fresh (by omega))
  have SI : g.objs.size ≠ s.heap.objs.size := by omega
  show codeAny _ X.A (.builtin "min.loop" ⟨[.ref s.heap.objs.size, .none, .ref g.objs.size], []⟩) _ { s with heap := g.push (seqObj "list" #[] 0), toks := s.toks }
  refine codeAny_builtin entry_minLoop ?_
  rw [Around.under_plainId plain_minLoop _]
  show wpAny _ _ (seqItems? (.ref g.objs.size) >>= _) _ _ { s with heap := g.push (seqObj "list" #[] 0), toks := s.toks }
  refine wpAny_bind (wpAny_seqItems hS rfl ?_)
  refine wpAny_bind (mm_next (A := X.A.in1) (x := V.ref as[0]) I1 fI SI hl hh (Heap.IsListIter.at hi fun o e => k1 _ o e) hS (by rw [List.getElem?_map, List.getElem?_eq_getElem l0]; rfl) fun v s' rv I' hit' hS' => ?_)
  cases (show v = Value.ref as[0] from rv)
  show wpAny _ _ (updateSeq g.objs.size _ >>= _) _ _ _
  refine wpAny_bind (wpAny_updateSeq hS' rfl ?_ (Nat.zero_le _) (by show 2 ≤ _; decide))
  refine wpAny_pure ⟨plainId_quiet plain_minLoop _, ?_⟩
  obtain ⟨c', hS2⟩ : ∃ c', (s'.heap.update g.objs.size (Obj.mapSeq fun _ => #[.ref as[0], .ref as[0]])).get? g.objs.size = some (seqObj "list" #[.ref as[0], .ref as[0]] c') := ⟨_, get?_update_seq hS' fun _ => #[.ref as[0], .ref as[0]]⟩
  have ku : ∀ b o, b ≠ g.objs.size → s'.heap.get? b = some o → (s'.heap.update g.objs.size (Obj.mapSeq fun _ => #[.ref as[0], .ref as[0]])).get? b = some o := fun b o hb e => (Heap.get?_update_ne _ _ _ _ hb).trans e
  refine mint_loop SI hl hh hu hT k (fun s' b p a1 a2 a3 => ⟨.ref p, H, a1, rfl, q b p a2 a3⟩) fS fI (as.length - 1) 1 0 { s' with heap := s'.heap.update g.objs.size (Obj.mapSeq fun _ => #[.ref as[0], .ref as[0]]), toks := s'.toks } as[0] c' rfl (Nat.le_refl _) l0
    (I'.turnedMany (tk := s'.toks) (ch := [g.objs.size]) (fun b hb => by rw [List.mem_singleton.mp hb]; exact fS) fun b ob hb q => ku b ob (by simpa using hb) q) (Heap.IsListIter.at hit' fun o e => ku _ o (Ne.symm SI) e) hS2 (List.getElem?_eq_getElem l0) ⟨by omega, fun i hi => ?_⟩
  rw [show i = 0 by omega]
  exact lexV_self _
end
end L2


set_option Elab.async false
set_option linter.all false
namespace W16
open PySem
/-! the letters at the beginning that two words have in common -/
def lcp : List Nat → List Nat → Nat
  | a :: x, b :: y => if a = b then lcp x y + 1 else 0
  | _, _ => 0
theorem lcp_cons (a b : Nat) (x y : List Nat) : lcp (a :: x) (b :: y) = if a = b then lcp x y + 1 else 0 := rfl
theorem lcp_nil (x : List Nat) : lcp x [] = 0 := by cases x <;> rfl
theorem lcp_le : ∀ x y : List Nat, lcp x y ≤ x.length ∧ lcp x y ≤ y.length
  | [], y => ⟨Nat.zero_le _, Nat.zero_le _⟩
  | a :: x, [] => ⟨Nat.zero_le _, Nat.zero_le _⟩
  | a :: x, b :: y => by
    have h := lcp_le x y
    unfold lcp
    by_cases e : a = b
    · rw [if_pos e, List.length_cons, List.length_cons]; omega
    · rw [if_neg e]; exact ⟨Nat.zero_le _, Nat.zero_le _⟩
/-- n letters of x begin y just where n is no more than what is alike -/
theorem take_pre : ∀ (x y : List Nat) (n : Nat), n ≤ x.length → (x.take n <+: y ↔ n ≤ lcp x y)
  | x, y, 0, _ => ⟨fun _ => Nat.zero_le _, fun _ => by rw [List.take_zero]; exact List.nil_prefix⟩
  | [], y, n + 1, h => by cases h
  | a :: x, [], n + 1, h => by
    rw [lcp_nil, List.take_succ_cons]
    exact ⟨fun p => absurd (List.prefix_nil.mp p) (List.cons_ne_nil _ _), fun p => by omega⟩
  | a :: x, b :: y, n + 1, h => by
    have ih := take_pre x y n (by rw [List.length_cons] at h; omega)
    rw [List.take_succ_cons, List.cons_prefix_cons, ih, lcp_cons]
    by_cases e : a = b
    · rw [if_pos e]; exact ⟨fun p => by omega, fun p => ⟨e, by omega⟩⟩
    · rw [if_neg e]; exact ⟨fun p => absurd p.1 e, fun p => by omega⟩
/-- where the next letters are unlike, or one word ends, so many are alike -/
theorem lcp_stop : ∀ (x y : List Nat) (n : Nat), n ≤ x.length → n ≤ y.length → (∀ j, j < n → x[j]? = y[j]?) → (n < x.length → n < y.length → x[n]? ≠ y[n]?) → lcp x y = n
  | [], y, n, h, _, _, _ => by have : n = 0 := by simpa using h
                               subst this; rfl
  | a :: x, [], n, _, h, _, _ => by have : n = 0 := by simpa using h
                                    subst this; rfl
  | a :: x, b :: y, 0, _, _, _, s => by
    have := s (by rw [List.length_cons]; omega) (by rw [List.length_cons]; omega)
    unfold lcp
    rw [if_neg (fun e => this (by rw [e]; rfl))]
  | a :: x, b :: y, n + 1, h1, h2, h, s => by
    have e : a = b := by simpa using h 0 (by omega)
    unfold lcp
    rw [if_pos e, lcp_stop x y n (by rw [List.length_cons] at h1; omega) (by rw [List.length_cons] at h2; omega) (fun j hj => by simpa using h (j + 1) (by omega))
      (fun k1 k2 => by simpa using s (by rw [List.length_cons]; omega) (by rw [List.length_cons]; omega))]
/-- the greatest of those that are alike -/
def mx (ss : List (List Nat)) (x : List Nat) : Nat := ss.foldr (fun z m => max (lcp x z) m) 0
/-- the beginnings that are read, by their lengths: all up to the greatest -/
theorem begs (f : Nat → Bool) (m : Nat) : ∀ n, m < n → (∀ j, j < n → (f j = true ↔ j ≤ m)) → (List.range n).filter f = List.range (m + 1)
  | 0, h, _ => by omega
  | n + 1, h, p => by
    rw [List.range_succ, List.filter_append]
    by_cases e : m = n
    · subst e
      have a : (List.range m).filter f = List.range m := List.filter_eq_self.mpr fun j hj => (p j (by have := List.mem_range.mp hj; omega)).mpr (by have := List.mem_range.mp hj; omega)
      have b : f m = true := (p m (by omega)).mpr (Nat.le_refl _)
      rw [a, List.filter_cons, b, List.filter_nil, List.range_succ]; rfl
    · have b : f n = false := by
        cases c : f n with
        | false => rfl
        | true => have := (p n (by omega)).mp c; omega
      rw [begs f m n (by omega) fun j hj => p j (by omega), List.filter_cons, b, List.filter_nil]
      simp
/-- a text begins with another: by their signs -/
theorem starts_iff (z p : Str) : Txt.startswith z p = true ↔ p.cps.toList <+: z.cps.toList := by
  unfold Txt.startswith
  rw [StrLaws.subAt_eq, List.drop_zero]
  have lp : p.length = p.cps.toList.length := by first | rfl | simp [Str.length]
  have lz : z.length = z.cps.toList.length := by first | rfl | simp [Str.length]
  rw [lp, lz, Bool.and_eq_true, decide_eq_true_iff, beq_iff_eq, List.prefix_iff_eq_take]
  constructor
  · rintro ⟨_, h⟩; exact h.symm
  · intro h
    refine ⟨?_, h.symm⟩
    have := congrArg List.length h
    rw [List.length_take] at this
    omega
end W16


/-! words of a tree, as plain lists of codes -/
namespace W7
/-- the word read from place k, with fuel -/
def wd (ups : List Int) (lab : List Nat) : Nat → Nat → List Nat
  | 0, _ => []
  | f + 1, k => lab.getD k 0 :: (if ups.getD k 0 < 0 then [] else wd ups lab f (ups.getD k 0).toNat)
structure TreeOk (ups : List Int) (lab : List Nat) : Prop where
  len : ups.length = lab.length
  pos : 0 < ups.length
  most : ups.length ≤ 60
  root : ups.getD 0 0 = -1
  up : ∀ k, 0 < k → k < ups.length → 0 ≤ ups.getD k 0 ∧ ups.getD k 0 < (k : Int)
theorem TreeOk.lt {ups : List Int} {lab : List Nat} (t : TreeOk ups lab) {k : Nat} (h : k < ups.length) (h0 : ¬ ups.getD k 0 < 0) : (ups.getD k 0).toNat < k := by
  rcases Nat.eq_zero_or_pos k with e | e
  · subst e; have := t.root; omega
  · have := t.up k e h; omega
theorem TreeOk.neg {ups : List Int} {lab : List Nat} (t : TreeOk ups lab) {k : Nat} (h : k < ups.length) : ups.getD k 0 < 0 ↔ ups.getD k 0 = -1 := by
  rcases Nat.eq_zero_or_pos k with e | e
  · subst e; have := t.root; omega
  · have := t.up k e h; omega
theorem wd_fuel {ups : List Int} {lab : List Nat} (t : TreeOk ups lab) : ∀ (f g k : Nat), k < ups.length → k < f → k < g → wd ups lab f k = wd ups lab g k
  | 0, _, _, _, h, _ => absurd h (Nat.not_lt_zero _)
  | _ + 1, 0, _, _, _, h => absurd h (Nat.not_lt_zero _)
  | f + 1, g + 1, k, hk, hf, hg => by
    simp only [wd]
    congr 1
    split
    · rfl
    · rename_i h0
      have := t.lt hk h0
      exact wd_fuel t f g _ (by omega) (by omega) (by omega)
/-- the word read from place k -/
def W (ups : List Int) (lab : List Nat) (k : Nat) : List Nat := wd ups lab (k + 1) k
theorem W_eq {ups : List Int} {lab : List Nat} (t : TreeOk ups lab) {k : Nat} (hk : k < ups.length) : W ups lab k = lab.getD k 0 :: (if ups.getD k 0 < 0 then [] else W ups lab (ups.getD k 0).toNat) := by
  unfold W
  rw [wd]
  congr 1
  split
  · rfl
  · rename_i h0
    have := t.lt hk h0
    exact wd_fuel t _ _ _ (by omega) (by omega) (by omega)
theorem W_len {ups : List Int} {lab : List Nat} (t : TreeOk ups lab) : ∀ (n k : Nat), k < n → k < ups.length → (W ups lab k).length ≤ k + 1
  | 0, _, h, _ => absurd h (Nat.not_lt_zero _)
  | n + 1, k, hn, hk => by
    rw [W_eq t hk]
    split
    · simp
    · rename_i h0
      have := t.lt hk h0
      have ih := W_len t n (ups.getD k 0).toNat (by omega) (by omega)
      simp only [List.length_cons]
      omega
/-- what is left to read from place k (an int, below 0 behind the root) -/
def R (ups : List Int) (lab : List Nat) (k : Int) : List Nat := if k < 0 then [] else W ups lab k.toNat
theorem R_step {ups : List Int} {lab : List Nat} (t : TreeOk ups lab) {k : Int} (h0 : 0 ≤ k) (hk : k < (ups.length : Int)) : R ups lab k = lab.getD k.toNat 0 :: R ups lab (ups.getD k.toNat 0) := by
  unfold R
  rw [if_neg (by omega), W_eq t (by omega)]
end W7


set_option linter.all false
/-! the unlike beginnings of sorted words, told by how much neighbours are alike -/
namespace W18
open W16
theorem btw : ∀ p a b c : List Nat, p <+: a → p <+: c → ¬ b < a → ¬ c < b → p <+: b
  | [], _, b, _, _, _, _, _ => List.nil_prefix
  | x :: p, a, b, c, ha, hc, h1, h2 => by
    obtain ⟨a', rfl⟩ := ha
    obtain ⟨c', rfl⟩ := hc
    cases b with
    | nil => exact absurd (List.nil_lt_cons _ _) h1
    | cons y b =>
      rw [List.cons_append, List.cons_lt_cons_iff] at h1 h2
      have e : y = x := by
        have n1 : ¬ y < x := fun h => h1 (.inl h)
        have n2 : ¬ x < y := fun h => h2 (.inl h)
        omega
      subst e
      obtain ⟨r, hr⟩ := btw p (p ++ a') b (p ++ c') (List.prefix_append _ _) (List.prefix_append _ _) (fun h => h1 (.inr ⟨rfl, h⟩)) (fun h => h2 (.inr ⟨rfl, h⟩))
      exact ⟨r, by rw [List.cons_append, hr]⟩
def lc (ss : List (List Nat)) (i : Nat) : Nat := if i = 0 then 0 else lcp (ss.getD (i - 1) []) (ss.getD i [])
end W18


set_option Elab.async false
set_option linter.all false
set_option maxRecDepth 100000
set_option maxHeartbeats 4000000
namespace S21
open PySem L2 W7
def top (i : Nat) : Stmt := PySem.Challenge.pw_upwords_k21_most_read_and_again.main.body.getD i (.Pass ⟨0, 0, 0, 0⟩)
abbrev s_words_of : Stmt := top 1
abbrev N_words_of : List Str := ["tree", "words", "letter", "up"]
theorem sc_words_of : FnScope N_words_of ["tree"] (defScope s_words_of) := ⟨rfl, rfl, rfl, by decide +kernel, rfl, by decide +kernel, by decide +kernel⟩
abbrev s_alike_of : Stmt := top 3
abbrev N_alike_of : List Str := ["tree", "words"]
theorem sc_alike_of : FnScope N_alike_of ["tree"] (defScope s_alike_of) := ⟨rfl, rfl, rfl, by decide +kernel, rfl, by decide +kernel, by decide +kernel⟩
abbrev s_many_alike : Stmt := top 4
abbrev N_many_alike : List Str := ["one", "other", "many"]
theorem sc_many_alike : FnScope N_many_alike ["one", "other"] (defScope s_many_alike) := ⟨rfl, rfl, rfl, by decide +kernel, rfl, by decide +kernel, by decide +kernel⟩
abbrev s_places_of : Stmt := top 6
abbrev N_places_of : List Str := ["tree", "word"]
theorem sc_places_of : FnScope N_places_of ["tree", "word"] (defScope s_places_of) := ⟨rfl, rfl, rfl, by decide +kernel, rfl, by decide +kernel, by decide +kernel⟩
abbrev s_most_read : Stmt := top 8
abbrev N_most_read : List Str := ["tree", "length", "beginnings", "word"]
theorem sc_most_read : FnScope N_most_read ["tree", "length"] (defScope s_most_read) := ⟨rfl, rfl, rfl, by decide +kernel, rfl, by decide +kernel, by decide +kernel⟩
abbrev s_longest_again : Stmt := top 9
abbrev N_longest_again : List Str := ["tree", "alike", "longest", "word"]
theorem sc_longest_again : FnScope N_longest_again ["tree"] (defScope s_longest_again) := ⟨rfl, rfl, rfl, by decide +kernel, rfl, by decide +kernel, by decide +kernel⟩
abbrev s_law_prime : Stmt := top 11
abbrev N_law_prime : List Str := ["at", "some"]
theorem sc_law_prime : FnScope N_law_prime ["at"] (defScope s_law_prime) := ⟨rfl, rfl, rfl, by decide +kernel, rfl, by decide +kernel, by decide +kernel⟩
abbrev s_law_pool : Stmt := top 12
abbrev N_law_pool : List Str := ["cell"]
theorem sc_law_pool : FnScope N_law_pool ["cell"] (defScope s_law_pool) := ⟨rfl, rfl, rfl, by decide +kernel, rfl, by decide +kernel, by decide +kernel⟩
abbrev s_law_take : Stmt := top 13
abbrev N_law_take : List Str := ["pool", "many", "found", "at", "one", "two"]
theorem sc_law_take : FnScope N_law_take ["pool", "many"] (defScope s_law_take) := ⟨rfl, rfl, rfl, by decide +kernel, rfl, by decide +kernel, by decide +kernel⟩
abbrev s_law_cells : Stmt := top 14
abbrev N_law_cells : List Str := ["script", "most", "found", "k"]
theorem sc_law_cells : FnScope N_law_cells ["script", "most"] (defScope s_law_cells) := ⟨rfl, rfl, rfl, by decide +kernel, rfl, by decide +kernel, by decide +kernel⟩
abbrev s_law_letter : Stmt := top 15
abbrev N_law_letter : List Str := ["pool", "base"]
theorem sc_law_letter : FnScope N_law_letter ["pool", "base"] (defScope s_law_letter) := ⟨rfl, rfl, rfl, by decide +kernel, rfl, by decide +kernel, by decide +kernel⟩
abbrev s_law_tree : Stmt := top 16
abbrev N_law_tree : List Str := ["pool", "most", "many", "base", "way", "turns", "climbs", "signs", "ups", "labels", "k", "some", "place", "step"]
theorem sc_law_tree : FnScope N_law_tree ["pool", "most"] (defScope s_law_tree) := ⟨rfl, rfl, rfl, by decide +kernel, rfl, by decide +kernel, by decide +kernel⟩
abbrev s_law_word : Stmt := top 17
abbrev N_law_word : List Str := ["tree", "place", "found"]
theorem sc_law_word : FnScope N_law_word ["tree", "place"] (defScope s_law_word) := ⟨rfl, rfl, rfl, by decide +kernel, rfl, by decide +kernel, by decide +kernel⟩
abbrev s_law_reads : Stmt := top 18
abbrev N_law_reads : List Str := ["tree", "found", "place", "word", "length"]
theorem sc_law_reads : FnScope N_law_reads ["tree"] (defScope s_law_reads) := ⟨rfl, rfl, rfl, by decide +kernel, rfl, by decide +kernel, by decide +kernel⟩
abbrev s_law_same : Stmt := top 19
abbrev N_law_same : List Str := ["found", "due"]
theorem sc_law_same : FnScope N_law_same ["found", "due"] (defScope s_law_same) := ⟨rfl, rfl, rfl, by decide +kernel, rfl, by decide +kernel, by decide +kernel⟩
abbrev s_law_most : Stmt := top 20
abbrev N_law_most : List Str := ["reads", "length", "some"]
theorem sc_law_most : FnScope N_law_most ["reads", "length"] (defScope s_law_most) := ⟨rfl, rfl, rfl, by decide +kernel, rfl, by decide +kernel, by decide +kernel⟩
abbrev s_law_again : Stmt := top 21
abbrev N_law_again : List Str := ["reads", "some"]
theorem sc_law_again : FnScope N_law_again ["reads"] (defScope s_law_again) := ⟨rfl, rfl, rfl, by decide +kernel, rfl, by decide +kernel, by decide +kernel⟩
abbrev s_law : Stmt := top 22
abbrev N_law : List Str := ["script", "cell", "pool", "tree", "reads", "longest", "lengths", "length", "due", "found"]
theorem sc_law : FnScope N_law ["script"] (defScope s_law) := ⟨rfl, rfl, rfl, by decide +kernel, rfl, by decide +kernel, by decide +kernel⟩
section
variable {P : Program} {w : World} {K : PySem.W.Frag} {mg : Str → Option Value} {base : Heap} {k : Nat}

def mk (l : List Nat) : Str := ⟨l.toArray⟩
theorem mk_cps (l : List Nat) : (mk l).cps.toList = l := rfl
theorem mk_len (l : List Nat) : (mk l).length = l.length := by simp [mk, Str.length]
theorem str_ext {a b : Str} (h : a.cps.toList = b.cps.toList) : a = b := by
  obtain ⟨x⟩ := a; obtain ⟨y⟩ := b
  have : x = y := Array.toList_inj.mp h
  rw [this]
theorem mk_app (c : Nat) (l : List Nat) : (⟨#[c]⟩ : Str) ++ mk l = mk (c :: l) := by
  apply str_ext
  rw [app_list]
  rfl
def TreeAt (H : Hp) (t : Addr) (ups : List Int) (lab : Str) : Prop := ∃ u, H t = some (.tup [.ref u, .str lab]) ∧ H u = some (.tup (ups.map V.int)) ∧ TreeOk ups lab.cps.toList
theorem TreeAt.same {H H' : Hp} {t : Addr} {ups : List Int} {lab : Str} (h : TreeAt H t ups lab) (s : Same H H') : TreeAt H' t ups lab := by
  obtain ⟨u, a, b, c⟩ := h
  exact ⟨u, s _ _ a, s _ _ b, c⟩

/-- a list of texts of one sign -/
def oneV (cs : List Nat) : List V := cs.map fun c => .str ⟨#[c]⟩
theorem oneV_len (cs : List Nat) : (oneV cs).length = cs.length := List.length_map _
theorem oneV_at {cs : List Nat} {i : Int} (h0 : 0 ≤ i) (h1 : i < (cs.length : Int)) : ∃ c, atI (oneV cs) i = some (.str ⟨#[c]⟩) ∧ c ∈ cs := by
  have hk : i.toNat < cs.length := by omega
  refine ⟨cs[i.toNat], ?_, List.getElem_mem hk⟩
  have e := atI_nat (xs := oneV cs) (j := i.toNat) (v := .str ⟨#[cs[i.toNat]]⟩) (by unfold oneV; rw [List.getElem?_map, List.getElem?_eq_getElem hk]; rfl)
  rw [show ((i.toNat : Nat) : Int) = i by omega] at e
  exact e
theorem ints_at {us : List Int} {i : Int} (h0 : 0 ≤ i) (h1 : i < (us.length : Int)) : atI (us.map V.int) i = some (.int (us.getD i.toNat 0)) := by
  have hk : i.toNat < us.length := by omega
  have e := atI_nat (xs := us.map V.int) (j := i.toNat) (v := .int (us.getD i.toNat 0)) (by rw [List.getElem?_map, List.getElem?_eq_getElem hk, List.getD_eq_getElem?_getD, List.getElem?_eq_getElem hk]; rfl)
  rw [show ((i.toNat : Nat) : Int) = i by omega] at e
  exact e
abbrev Lw (c : Nat) : Prop := 97 ≤ c ∧ c < 123
theorem alph_at {i : Int} (h0 : 0 ≤ i) (h1 : i < 26) : ∃ c, atI (Str.ofString "abcdefghijklmnopqrstuvwxyz").cps.toList i = some c ∧ Lw c := by
  have hl : (Str.ofString "abcdefghijklmnopqrstuvwxyz").cps.toList.length = 26 := by decide +kernel
  have hk : i.toNat < (Str.ofString "abcdefghijklmnopqrstuvwxyz").cps.toList.length := by omega
  have e := atI_nat (xs := (Str.ofString "abcdefghijklmnopqrstuvwxyz").cps.toList) (j := i.toNat) (List.getElem?_eq_getElem hk)
  rw [show ((i.toNat : Nat) : Int) = i by omega] at e
  have all : ∀ c ∈ (Str.ofString "abcdefghijklmnopqrstuvwxyz").cps.toList, Lw c := by decide +kernel
  exact ⟨_, e, all _ (List.getElem_mem hk)⟩
theorem menu {us : List Int} {n lo hi : Int} (h0 : 0 ≤ n) (h1 : n < (us.length : Int)) (hb : ∀ v ∈ us, lo ≤ v ∧ v ≤ hi) : ∃ v : Int, atI (us.map V.int) n = some (.int v) ∧ lo ≤ v ∧ v ≤ hi := by
  refine ⟨_, ints_at h0 h1, ?_⟩
  have hk : n.toNat < us.length := by omega
  rw [List.getD_eq_getElem?_getD, List.getElem?_eq_getElem hk]
  exact hb _ (List.getElem_mem hk)
/-! ### _law_prime -/
def sp_prime : Sp := fun vs H Q _ => ∃ z : Int, vs = [.int z] ∧ ∀ (n : Int) (H' : Hp), 0 < n → n < 2147483648 → Same H H' → Q (.int n) H'
theorem has_prime (D : Df K mg "_law_prime" s_law_prime) (B : Blt mg) : Has P w K mg base "_law_prime" (k + 1) ["at"] sp_prime := by
  refine D.has sc_law_prime (fun _ _ _ _ _ _ us hl => match us, hl with | [_], _ => rfl) (fun vs H Q E h => by obtain ⟨z, rfl, _⟩ := h; rfl) (fun f cdv A outer s H vs Q E hr h => ?_)
  obtain ⟨z, rfl, q⟩ := h
  refine ⟨_, (pss_cons (ps_set (i := 1) sc_law_prime.nd rfl (by first | exact Or.inl rfl | exact Or.inr rfl) (pe_lst (pa_cons pe_int (pa_cons pe_int (pa_cons pe_int (pa_cons pe_int (pa_cons pe_int (pa_cons pe_int (pa_cons pe_int pa_nil)))))))))
  (pss_one (ps_ret (pe_ix ix_list (pe_op op_cat (pv 1) (pe_lst (pa_cons pe_int (pa_cons pe_int (pa_cons pe_int (pa_cons pe_int pa_nil)))))) (pe_op op_mod (pv 0) pe_int) (fun _ _ => rfl))))), ?_⟩
  refine ⟨(by show 7 ≤ sizeLine; decide), fun r1 hr1 => ?_⟩
  refine ⟨_, rfl, (by show 4 ≤ sizeLine; decide), fun r2 hr2 => ?_⟩
  have n12 : r1 ≠ r2 := ne_of_none upd_same hr2
  refine ⟨r1, r2, _, _, rfl, rfl, by rw [upd_ne n12]; exact upd_same, upd_same, (by show 11 ≤ sizeLine; decide), fun r3 hr3 => ?_⟩
  refine ⟨_, rfl, _, _, rfl, rfl, (by decide : (0 : Int) < 11), ?_⟩
  obtain ⟨v, hv, v0, v1⟩ := menu (us := [2147483647, 2147483629, 2147483587, 2147483579, 2147483563, 2147483549, 2147483543, 2147483497, 2147483489, 2147483477, 2147483423]) (n := z % 11) (lo := 1) (hi := 2147483647) (Int.emod_nonneg _ (by decide)) (Int.emod_lt_of_pos _ (by decide)) (by decide)
  refine ⟨r3, _, _, _, rfl, rfl, SqL.of upd_same, hv, q v _ (by omega) (by omega) ?_⟩
  exact (((Same.refl H).new hr1).new hr2).new hr3
/-! ### _law_pool -/
def sp_pool : Sp := fun vs H Q _ => ∃ cell : Int, vs = [.int cell] ∧ ∀ (p : Addr) (x y : Int), H p = none → Q (.ref p) (upd H p (.lst [.int x, .int y, .int 0]))
theorem has_pool (D : Df K mg "_law_pool" s_law_pool) (B : Blt mg) : Has P w K mg base "_law_pool" (k + 1) ["cell"] sp_pool := by
  refine D.has sc_law_pool (fun _ _ _ _ _ _ us hl => match us, hl with | [_], _ => rfl) (fun vs H Q E h => by obtain ⟨z, rfl, _⟩ := h; rfl) (fun f cdv A outer s H vs Q E hr h => ?_)
  obtain ⟨cell, rfl, q⟩ := h
  refine ⟨_, (pss_one (ps_ret (pe_lst (pa_cons (pe_callB (call_max2 rfl) rfl B.max bt_max (pa_cons pe_int (pa_cons (pe_op op_sub (pv 0) (pe_op op_pow pe_int pe_int)) pa_nil))) (pa_cons (pv 0) (pa_cons pe_int pa_nil)))))), ?_⟩
  refine ⟨_, rfl, _, _, rfl, rfl, ⟨by decide, by decide, by decide⟩, _, _, rfl, rfl, _, _, rfl, ?_⟩
  exact ⟨_, rfl, (by show 3 ≤ sizeLine; decide), fun p hp => q p _ _ hp⟩
theorem pow_ok (u n z y : Int) (hn : 0 < n) (hn2 : n < 2147483648) (z0 : 0 ≤ z) (z1 : z < 1000000) : (u % n * (u % n) + 69621 * z + y % 65537 + 1).natAbs < 2 ^ 64 := by
  have o1 := Int.emod_nonneg u (show n ≠ 0 by omega)
  have o2 := Int.emod_lt_of_pos u hn
  generalize u % n = one at o1 o2
  have oo : one * one ≤ 2147483648 * 2147483648 := Int.mul_le_mul (by omega) (by omega) o1 (by decide)
  have oo0 : 0 ≤ one * one := Int.mul_nonneg o1 o1
  have w1 := Int.emod_nonneg y (by decide : (65537 : Int) ≠ 0)
  have w2 := Int.emod_lt_of_pos y (by decide : (0 : Int) < 65537)
  generalize one * one = q1 at oo oo0
  omega
theorem mod_in (u n : Int) (hn : 0 < n) (hn2 : n < 2147483648) : -(2 ^ 64) < u % n ∧ u % n < 2 ^ 64 := by
  have o1 := Int.emod_nonneg u (show n ≠ 0 by omega)
  have o2 := Int.emod_lt_of_pos u hn
  omega
/-! ### _law_take -/
def sp_take : Sp := fun vs H Q _ => ∃ (p : Addr) (m c : Int), vs = [.ref p, .int m] ∧ Deck H p c ∧ c < 1000000 ∧ 0 < m ∧ m < 1073741824 ∧ ∀ (n : Int) (H' : Hp), 0 ≤ n → n < m → Kd p (c + 1) H H' → Q (.int n) H'
theorem has_take (D : Df K mg "_law_take" s_law_take) (B : Blt mg) (G_law_prime : Has P w K mg base "_law_prime" k ["at"] sp_prime) : Has P w K mg base "_law_take" (k + 1) ["pool", "many"] sp_take := by
  refine D.has sc_law_take (fun _ _ _ _ _ _ us hl => match us, hl with | [_, _], _ => rfl) (fun vs H Q E h => by obtain ⟨p, m, c, rfl, _⟩ := h; rfl) (fun f cdv A outer s H vs Q E hr h => ?_)
  obtain ⟨p, m, c, rfl, ⟨x, y, z, hp, z0, z1⟩, c6, m0, m1, q⟩ := h
  refine ⟨_, (pss_cons (ps_if (pt_cmpR op_gt (pe_ix ix_list (pv 0) pe_int (fun _ _ => rfl)) pe_int (nomark _))
  (pss_cons (ps_set (i := 2) sc_law_take.nd rfl (by first | exact Or.inl rfl | exact Or.inr rfl) (pe_op op_mod (pe_ix ix_list (pv 0) pe_int (fun _ _ => rfl)) (pv 1)))
  (pss_cons (ps_asg (pe_op op_fdiv (pe_ix ix_list (pv 0) pe_int (fun _ _ => rfl)) (pv 1)) (pg_sub (pv 0) pe_int set_list))
  (pss_one (ps_ret (pv 2)))))
  pss_nil)
  (pss_cons (ps_set (i := 3) sc_law_take.nd rfl (by first | exact Or.inl rfl | exact Or.inr rfl) (pe_ix ix_list (pv 0) pe_int (fun _ _ => rfl)))
  (pss_cons (ps_asg (pe_op op_add (pv 3) pe_int) (pg_sub (pv 0) pe_int set_list))
  (pss_cons (ps_set (i := 4) sc_law_take.nd rfl (by first | exact Or.inl rfl | exact Or.inr rfl) (pe_op op_mod (pe_op op_pow (pe_op op_add (pe_op op_add (pe_op op_mod (pe_ix ix_list (pv 0) pe_int (fun _ _ => rfl)) pe_int) (pe_op op_mul pe_int (pv 3))) pe_int) pe_int) (pe_callH G_law_prime hr rfl (pa_cons (pv 3) pa_nil))))
  (pss_cons (ps_set (i := 5) sc_law_take.nd rfl (by first | exact Or.inl rfl | exact Or.inr rfl) (pe_op op_mod (pe_op op_pow (pe_op op_add (pe_op op_add (pe_op op_add (pe_op op_mul (pv 4) (pv 4)) (pe_op op_mul pe_int (pv 3))) (pe_op op_mod (pe_ix ix_list (pv 0) pe_int (fun _ _ => rfl)) pe_int)) pe_int) pe_int) (pe_callH G_law_prime hr rfl (pa_cons (pe_op op_add (pv 3) pe_int) pa_nil))))
  (pss_one (ps_ret (pe_op op_mod (pe_op op_fdiv (pe_op op_mod (pe_op op_add (pe_op op_mul (pv 5) pe_int) (pv 4)) (pe_callH G_law_prime hr rfl (pa_cons (pe_op op_add (pv 3) pe_int) pa_nil))) pe_int) (pv 1))))))))), ?_⟩
  refine ⟨_, rfl, p, _, _, _, rfl, rfl, SqL.of hp, rfl, _, _, rfl, rfl, _, rfl, ite2 (fun cnd => ?_) (fun cnd => ?_)⟩
  · refine ⟨_, rfl, p, _, _, _, rfl, rfl, SqL.of hp, rfl, _, rfl, _, _, rfl, rfl, m0, ?_⟩
    refine ⟨_, rfl, p, _, _, _, rfl, rfl, SqL.of hp, rfl, _, rfl, _, _, rfl, rfl, ⟨m0, m1⟩, ?_⟩
    refine ⟨_, rfl, p, _, _, 0, rfl, rfl, hp, rfl, _, rfl, ?_⟩
    exact q _ _ (Int.emod_nonneg _ (by omega)) (Int.emod_lt_of_pos _ m0) ⟨⟨_, y, z, upd_same, z0, by omega⟩, fun b o hb e => by rw [upd_ne hb]; exact e⟩
  · refine ⟨_, rfl, p, _, _, _, rfl, rfl, SqL.of hp, rfl, _, rfl, _, _, rfl, rfl, ?_⟩
    refine ⟨_, rfl, p, _, _, 2, rfl, rfl, hp, rfl, ?_⟩
    have hp' : upd H p (.lst [.int x, .int y, .int (z + 1)]) p = some (.lst [.int x, .int y, .int (z + 1)]) := upd_same
    have kd : Kd p (c + 1) H (upd H p (.lst [.int x, .int y, .int (z + 1)])) := ⟨⟨x, y, z + 1, upd_same, by omega, by omega⟩, fun b o hb e => by rw [upd_ne hb]; exact e⟩
    have y1 := Int.emod_nonneg y (by decide : (2147483399 : Int) ≠ 0)
    have y2 := Int.emod_lt_of_pos y (by decide : (0 : Int) < 2147483399)
    refine ⟨_, rfl, p, _, _, _, rfl, rfl, SqL.of hp', rfl, _, _, rfl, rfl, (by decide : (0 : Int) < 2147483399), _, rfl, _, _, rfl, rfl, .inl ⟨by decide, by decide⟩, _, _, rfl, rfl, _, _, rfl, rfl, _, _, rfl, rfl, ⟨by decide, by decide, by omega⟩, ?_⟩
    refine ⟨_, rfl, z, rfl, fun n1 H1 a0 a1 s1 => ⟨_, _, rfl, rfl, a0, ?_⟩⟩
    have hp1 := s1 _ _ hp'
    refine ⟨_, rfl, _, rfl, _, _, rfl, rfl, .inl (mod_in _ _ a0 a1), _, rfl, _, _, rfl, rfl, .inl ⟨by decide, by decide⟩, _, _, rfl, rfl, _, rfl, p, _, _, _, rfl, rfl, SqL.of hp1, rfl, _, _, rfl, rfl, (by decide : (0 : Int) < 65537), _, _, rfl, rfl, _, _, rfl, rfl, _, _, rfl, rfl, ⟨by decide, by decide, pow_ok _ _ _ _ a0 a1 z0 (by omega)⟩, ?_⟩
    refine ⟨_, rfl, _, _, rfl, rfl, z + 4, rfl, fun n2 H2 b0 b1 s2 => ⟨_, _, rfl, rfl, b0, ?_⟩⟩
    refine ⟨_, rfl, _, _, rfl, rfl, .inr ⟨by decide, by decide⟩, _, rfl, _, _, rfl, rfl, _, rfl, _, _, rfl, rfl, z + 7, rfl, fun n3 H3 d0 d1 s3 => ⟨_, _, rfl, rfl, d0, ?_⟩⟩
    refine ⟨_, _, rfl, rfl, ⟨by decide, by decide⟩, _, rfl, _, _, rfl, rfl, m0, ?_⟩
    exact q _ _ (Int.emod_nonneg _ (by omega)) (Int.emod_lt_of_pos _ m0) (((kd.same s1).same s2).same s3)
/-! ### _law_letter -/
def sp_letter : Sp := fun vs H Q _ => ∃ (p b : Addr) (c b0 b1 : Int), vs = [.ref p, .ref b] ∧ Deck H p c ∧ c < 1000000 ∧ H b = some (.tup [.int b0, .int b1]) ∧ 0 < b1 ∧ b1 ≤ 26 ∧ ∀ (ch : Nat) (H' : Hp), Lw ch → Kd p (c + 1) H H' → Q (.str ⟨#[ch]⟩) H'
theorem has_letter (D : Df K mg "_law_letter" s_law_letter) (B : Blt mg) (G_law_take : Has P w K mg base "_law_take" k ["pool", "many"] sp_take) : Has P w K mg base "_law_letter" (k + 1) ["pool", "base"] sp_letter := by
  refine D.has sc_law_letter (fun _ _ _ _ _ _ us hl => match us, hl with | [_, _], _ => rfl) (fun vs H Q E h => by obtain ⟨p, b, c, b0, b1, rfl, _⟩ := h; rfl) (fun f cdv A outer s H vs Q E hr h => ?_)
  obtain ⟨p, b, c, b0, b1, rfl, hd, c6, hb, p0, p1, q⟩ := h
  refine ⟨_, (pss_one (ps_ret (pe_ix ix_str pe_str (pe_op op_mod (pe_op op_add (pe_ix ix_tup (pv 1) pe_int (fun _ _ => rfl)) (pe_op op_mul pe_int (pe_callH G_law_take hr rfl (pa_cons (pv 0) (pa_cons (pe_ix ix_tup (pv 1) pe_int (fun _ _ => rfl)) pa_nil))))) pe_int) (fun _ _ => rfl)))), ?_⟩
  have hl : (Str.ofString "abcdefghijklmnopqrstuvwxyz").length = 26 := by decide +kernel
  refine ⟨_, rfl, b, _, _, _, rfl, rfl, SqT.of hb, rfl, _, rfl, _, rfl, b, _, _, _, rfl, rfl, SqT.of hb, rfl, p, b1, c, rfl, hd, c6, p0, by omega, fun n H1 n0 n1 kd => ?_⟩
  obtain ⟨ch, hch, chl⟩ := alph_at (i := (b0 + 5 * n) % 26) (Int.emod_nonneg _ (by decide)) (Int.emod_lt_of_pos _ (by decide))
  refine ⟨_, _, rfl, rfl, .inl ⟨by decide, by decide⟩, _, _, rfl, rfl, _, _, rfl, rfl, (by decide : (0 : Int) < 26), _, _, _, rfl, rfl, by rw [hl]; exact Nat.le_of_lt (small1000 (by decide)), hch, q ch H1 chl kd⟩
/-! ### words_of -/
def wordsV (ups : List Int) (lab : Str) (n : Nat) : List V := (List.range n).map fun j => .str (mk (W ups lab.cps.toList j))
def sp_words : Sp := fun vs H Q _ => ∃ (t : Addr) (ups : List Int) (lab : Str), vs = [.ref t] ∧ TreeAt H t ups lab ∧ ∀ (q : Addr) (H' : Hp), Same H H' → H' q = some (.lst (wordsV ups lab ups.length)) → Q (.ref q) H'
theorem has_words (D : Df K mg "words_of" s_words_of) (B : Blt mg) : Has P w K mg base "words_of" (k + 1) ["tree"] sp_words := by
  refine D.has sc_words_of (fun _ _ _ _ _ _ us hl => match us, hl with | [_], _ => rfl) (fun vs H Q E h => by obtain ⟨t, ups, lab, rfl, _⟩ := h; rfl) (fun f cdv A outer s H vs Q E hr h => ?_)
  obtain ⟨t, ups, lab, rfl, ⟨u, ht, hu, ok⟩, q⟩ := h
  refine ⟨_, (pss_cons (ps_set (i := 1) sc_words_of.nd rfl (by first | exact Or.inl rfl | exact Or.inr rfl) (pe_lst pa_nil))
  (pss_cons (ps_for PassesOwn.never rfl (pi_zip rfl B.zip (pa_cons (pe_ix ix_tup (pv 0) pe_int (fun _ _ => rfl)) (pa_cons (pe_ix ix_tup (pv 0) pe_int (fun _ _ => rfl)) pa_nil))) (pg_tup rfl (pgs_cons (pg_name (i := 2) sc_words_of.nd rfl (by first | exact Or.inl rfl | exact Or.inr rfl)) (pgs_cons (pg_name (i := 3) sc_words_of.nd rfl (by first | exact Or.inl rfl | exact Or.inr rfl)) pgs_nil)))
  (pss_one (ps_expr (pe_bm PySem.F.plainAttrs_list PySem.F.slot_list_append PySem.F.type_list_append mt_append (pv 1) (pa_cons (pe_ifExp (pt_cmpR op_eq (pv 3) (pe_un un_neg pe_int) (nomark _)) (pv 2) (pe_op op_add_str (pv 2) (pe_ix ix_list (pv 1) (pv 3) (fun _ _ => rfl)))) pa_nil)))))
  (pss_one (ps_ret (pv 1))))), ?_⟩
  have hlen : (signs lab).length = (ups.map V.int).length := by rw [List.length_map, ok.len]; simp [signs]
  refine ⟨(by show 0 ≤ sizeLine; decide), fun r hr0 => ?_⟩
  have s0 : Same H (upd H r (.lst [])) := (Same.refl H).new hr0
  refine ⟨_, rfl, t, _, _, _, rfl, rfl, SqT.of (s0 _ _ ht), rfl, _, rfl, t, _, _, _, rfl, rfl, SqT.of (s0 _ _ ht), rfl, .str lab, .tup u, rfl, ⟨_, rfl⟩, ⟨_, .inl (s0 _ _ hu)⟩, ?_⟩
  refine for_zip (xs := signs lab) (ys := ups.map V.int) (fun i σ H' => ∃ o1 o2 : Option V, σ = [some (.ref t), some (.ref r), o1, o2] ∧ Same H H' ∧ H' r = some (.lst (wordsV ups lab i))) ⟨none, none, rfl, s0, upd_same⟩ hlen
    (fun i σ H' hi h => by obtain ⟨o1, o2, _, s1, _⟩ := h; exact ⟨rfl, .inl (s1 _ _ hu)⟩) ?_ ?_
  · rintro i x y σ H' p hx hy ⟨o1, o2, rfl, s1, hr1⟩ hp
    obtain ⟨c, hc, rfl⟩ : ∃ c, lab.cps.toList[i]? = some c ∧ x = .str ⟨#[c]⟩ := by
      simp only [signs, List.getElem?_map] at hx
      cases e : lab.cps.toList[i]? with
      | none => rw [e] at hx; cases hx
      | some c => rw [e] at hx; exact ⟨c, rfl, (Option.some.inj hx).symm⟩
    obtain ⟨v, hv, rfl⟩ : ∃ v, ups[i]? = some v ∧ y = .int v := by
      simp only [List.getElem?_map] at hy
      cases e : ups[i]? with
      | none => rw [e] at hy; cases hy
      | some v => rw [e] at hy; exact ⟨v, rfl, (Option.some.inj hy).symm⟩
    have hi : i < ups.length := (List.getElem?_eq_some_iff.mp hv).1
    have ev : ups.getD i 0 = v := by rw [List.getD_eq_getElem?_getD, hv]; rfl
    have ec : lab.cps.toList.getD i 0 = c := by rw [List.getD_eq_getElem?_getD, hc]; rfl
    have hm := ok.most
    have s2 : Same H (upd H' p (.tup [.str ⟨#[c]⟩, .int v])) := s1.new hp
    have hr2 : upd H' p (.tup [.str ⟨#[c]⟩, .int v]) r = some (.lst (wordsV ups lab i)) := by rw [upd_ne (ne_of_none hr1 hp)]; exact hr1
    have wl : (wordsV ups lab i).length = i := by simp [wordsV]
    have step : wordsV ups lab (i + 1) = wordsV ups lab i ++ [.str (mk (W ups lab.cps.toList i))] := by
      unfold wordsV
      rw [List.range_succ, List.map_append]; rfl
    refine ⟨p, _, rfl, SqT.of upd_same, rfl, _, _, rfl, _, _, rfl, rfl, ?_⟩
    refine ⟨_, rfl, .inl ⟨rfl, _, SqL.of hr2⟩, _, rfl, _, rfl, rfl, _, rfl, ite2 (fun cnd => ?_) (fun cnd => ?_)⟩
    · have e1 : V.int v = V.int (-1) := of_decide_eq_true cnd
      have e2 : v = -1 := by injection e1
      have ew : W ups lab.cps.toList i = [c] := by rw [W_eq ok hi, ev, ec, if_pos (by omega)]
      refine ⟨_, rfl, r, _, _, rfl, rfl, hr2, by rw [wl]; exact small1000 (by omega), ⟨_, _, rfl, s2.write hr0, ?_⟩⟩
      rw [upd_same, step, ew]
      rfl
    · have e1 : ¬ V.int v = V.int (-1) := of_decide_eq_false (Bool.eq_false_iff.mpr cnd)
      have e2 : v ≠ -1 := fun z => e1 (by rw [z])
      have e3 : ¬ v < 0 := by
        have := ok.neg hi
        rw [ev] at this
        omega
      have lt := ok.lt hi (by rw [ev]; exact e3)
      rw [ev] at lt
      have hat : atI (wordsV ups lab i) v = some (.str (mk (W ups lab.cps.toList v.toNat))) := by
        have e : atI (wordsV ups lab i) ((v.toNat : Nat) : Int) = some (.str (mk (W ups lab.cps.toList v.toNat))) := atI_nat (by
          unfold wordsV
          rw [List.getElem?_map, List.getElem?_range lt]; rfl)
        rw [show ((v.toNat : Nat) : Int) = v by omega] at e
        exact e
      have wle := W_len ok (v.toNat + 1) v.toNat (by omega) (by omega)
      have ew : W ups lab.cps.toList i = c :: W ups lab.cps.toList v.toNat := by rw [W_eq ok hi, ev, ec, if_neg e3]
      refine ⟨_, rfl, _, rfl, _, rfl, r, _, _, _, rfl, rfl, SqL.of hr2, hat, _, _, rfl, rfl, ?_, r, _, _, rfl, rfl, hr2, by rw [wl]; exact small1000 (by omega), ⟨_, _, rfl, s2.write hr0, ?_⟩⟩
      · rw [mk_len]
        have : (⟨#[c]⟩ : Str).length = 1 := rfl
        rw [this]
        exact Nat.le_of_lt (small1000 (by omega))
      · rw [upd_same, step, ew, mk_app]
  · rintro σ H' ⟨o1, o2, rfl, s1, hr1⟩
    refine ⟨_, rfl, q r H' s1 ?_⟩
    rw [hr1]
    congr 2
    simp [signs, ok.len]

/-! ### _law_word -/
def sp_lword : Sp := fun vs H Q _ => ∃ (t : Addr) (ups : List Int) (lab : Str) (i : Int), vs = [.ref t, .int i] ∧ TreeAt H t ups lab ∧ i < (ups.length : Int) ∧ Q (.str (mk (R ups lab.cps.toList i))) H
theorem has_lword (D : Df K mg "_law_word" s_law_word) (B : Blt mg) : Has P w K mg base "_law_word" (k + 1) ["tree", "place"] sp_lword := by
  refine D.has sc_law_word (fun _ _ _ _ _ _ us hl => match us, hl with | [_, _], _ => rfl) (fun vs H Q E h => by obtain ⟨t, ups, lab, i, rfl, _⟩ := h; rfl) (fun f cdv A outer s H vs Q E hr h => ?_)
  obtain ⟨t, ups, lab, i, rfl, ⟨u, ht, hu, ok⟩, hi, q⟩ := h
  refine ⟨_, (pss_cons (ps_set (i := 2) sc_law_word.nd rfl (by first | exact Or.inl rfl | exact Or.inr rfl) pe_str)
  (pss_cons (ps_while PassesOwn.never (pt_cmpR op_ge (pv 1) pe_int (nomark _))
  (pss_cons (ps_set (i := 2) sc_law_word.nd rfl (by first | exact Or.inl rfl | exact Or.inr rfl) (pe_op op_add_str (pv 2) (pe_ix ix_str (pe_ix ix_tup (pv 0) pe_int (fun _ _ => rfl)) (pv 1) (fun _ _ => rfl))))
  (pss_one (ps_set (i := 1) sc_law_word.nd rfl (by first | exact Or.inl rfl | exact Or.inr rfl) (pe_ix ix_tup (pe_ix ix_tup (pv 0) pe_int (fun _ _ => rfl)) (pv 1) (fun _ _ => rfl))))))
  (pss_one (ps_ret (pv 2))))), ?_⟩
  have hm := ok.most
  refine while_by (fun σ H' => H' = H ∧ ∃ (j : Int) (l : List Nat), σ = [some (.ref t), some (.int j), some (.str (mk l))] ∧ j < (ups.length : Int) ∧ l ++ R ups lab.cps.toList j = R ups lab.cps.toList i ∧ l.length + (j + 1).toNat ≤ 60)
    (fun σ _ => match σ with | [_, some (.int j), _] => (j + 1).toNat | _ => 0) ⟨rfl, i, [], rfl, hi, rfl, by simp; omega⟩ ?_ (fun σ H Q Q' h ⟨v, e, i, j, e1, e2, k, e3, q⟩ => ⟨v, e, i, j, e1, e2, k, e3, h _ _ q⟩)
  rintro σ H' ⟨rfl, j, l, rfl, hj, hl, hlen⟩
  refine ⟨_, rfl, _, _, rfl, rfl, _, rfl, ite2 (fun c => ?_) (fun c => ?_)⟩
  · have c' : 0 ≤ j := of_decide_eq_true c
    have hk : j.toNat < ups.length := by omega
    have hk2 : j.toNat < lab.cps.toList.length := by rw [← ok.len]; exact hk
    have e1 : atI lab.cps.toList j = some lab.cps.toList[j.toNat] := by
      have e := atI_nat (xs := lab.cps.toList) (j := j.toNat) (List.getElem?_eq_getElem hk2)
      rw [show ((j.toNat : Nat) : Int) = j by omega] at e
      exact e
    have e2 : atI (ups.map V.int) j = some (.int ups[j.toNat]) := by
      have e := atI_nat (xs := ups.map V.int) (j := j.toNat) (v := .int ups[j.toNat]) (by rw [List.getElem?_map, List.getElem?_eq_getElem hk]; rfl)
      rw [show ((j.toNat : Nat) : Int) = j by omega] at e
      exact e
    have g1 : lab.cps.toList.getD j.toNat 0 = lab.cps.toList[j.toNat] := by rw [List.getD_eq_getElem?_getD, List.getElem?_eq_getElem hk2]; rfl
    have g2 : ups.getD j.toNat 0 = ups[j.toNat] := by rw [List.getD_eq_getElem?_getD, List.getElem?_eq_getElem hk]; rfl
    have st := R_step ok c' hj
    rw [g1, g2] at st
    have lt : ups[j.toNat] < j := by
      rcases Nat.eq_zero_or_pos j.toNat with z | z
      · have := ok.root
        rw [← z, g2] at this
        omega
      · have := ok.up j.toNat z hk
        rw [g2] at this
        omega
    have hlab : lab.length = ups.length := by rw [ok.len]; simp [Str.length]
    refine ⟨_, rfl, _, rfl, t, _, _, _, rfl, rfl, SqT.of ht, rfl, _, rfl, _, _, _, rfl, rfl, by rw [hlab]; exact Nat.le_of_lt (small1000 (by omega)), e1, _, _, rfl, rfl, ?_, ?_⟩
    · rw [mk_len]
      have : (⟨#[lab.cps.toList[j.toNat]]⟩ : Str).length = 1 := rfl
      rw [this]
      exact Nat.le_of_lt (small1000 (by omega))
    · refine ⟨_, rfl, t, _, _, _, rfl, rfl, SqT.of ht, rfl, _, rfl, u, _, _, _, rfl, rfl, SqT.of hu, e2, ?_⟩
      refine ⟨⟨rfl, ups[j.toNat], l ++ [lab.cps.toList[j.toNat]], ?_, by omega, ?_, ?_⟩, ?_⟩
      · have : mk l ++ (⟨#[lab.cps.toList[j.toNat]]⟩ : Str) = mk (l ++ [lab.cps.toList[j.toNat]]) := by
          apply str_ext; rw [app_list]; rfl
        rw [this]; rfl
      · rw [List.append_assoc, ← hl, st]; rfl
      · simp only [List.length_append, List.length_singleton]; omega
      · show (ups[j.toNat] + 1).toNat < (j + 1).toNat
        omega
  · have c' : ¬ 0 ≤ j := of_decide_eq_false (Bool.eq_false_iff.mpr c)
    have e : l = R ups lab.cps.toList i := by
      rw [← hl]; unfold R; rw [if_pos (show j < 0 by omega), List.append_nil]
    refine ⟨_, rfl, ?_⟩
    rw [e]
    exact q

end
end S21


set_option Elab.async false
set_option linter.all false
set_option maxRecDepth 100000
set_option maxHeartbeats 8000000
namespace S21
open PySem L2 W7
section
variable {P : Program} {w : World} {K : PySem.W.Frag} {mg : Str → Option Value} {base : Heap} {k : Nat}
/-- the numbers of the places above, as they grow -/
def stepUp (us : List Int) (p : Int) : Int := if us.getD p.toNat 0 > 0 then us.getD p.toNat 0 else 0
/-- so many steps up from a place (the root stays) -/
def climb (us : List Int) : Nat → Int → Int
  | 0, p => p
  | n + 1, p => stepUp us (climb us n p)
structure GrOk (us : List Int) : Prop where
  road : ∀ k, 0 < k → k < us.length → ∃ n, climb us n ((k : Int) - 1) = us.getD k 0
  pos : 0 < us.length
  root : us.getD 0 0 = -1
  up : ∀ k, 0 < k → k < us.length → 0 ≤ us.getD k 0 ∧ us.getD k 0 < (k : Int)
theorem getD_app {us vs : List Int} {j : Nat} : (us ++ vs).getD j 0 = if j < us.length then us.getD j 0 else vs.getD (j - us.length) 0 := by
  simp only [List.getD_eq_getElem?_getD]
  split
  · rename_i h; rw [List.getElem?_append_left h]
  · rename_i h; rw [List.getElem?_append_right (by omega)]
theorem GrOk.climb {us : List Int} (g : GrOk us) (v : Int) {p : Int} (h0 : 0 ≤ p) (h1 : p < (us.length : Int)) : ∀ n, climb (us ++ [v]) n p = climb us n p ∧ 0 ≤ climb us n p ∧ climb us n p < (us.length : Int)
  | 0 => ⟨rfl, h0, h1⟩
  | n + 1 => by
    obtain ⟨a, b, c⟩ := g.climb v h0 h1 n
    have lt : (S21.climb us n p).toNat < us.length := by omega
    have e : (us ++ [v]).getD (S21.climb us n p).toNat 0 = us.getD (S21.climb us n p).toNat 0 := by rw [getD_app, if_pos lt]
    refine ⟨?_, ?_⟩
    · show stepUp (us ++ [v]) (S21.climb (us ++ [v]) n p) = stepUp us (S21.climb us n p)
      rw [a]; unfold stepUp; rw [e]
    · show 0 ≤ stepUp us (S21.climb us n p) ∧ stepUp us (S21.climb us n p) < (us.length : Int)
      have pos := g.pos
      unfold stepUp
      rcases Nat.eq_zero_or_pos (S21.climb us n p).toNat with z | z
      · rw [z, g.root]; exact ⟨by decide, by show (0 : Int) < _; omega⟩
      · have := g.up _ z lt
        split <;> omega
theorem GrOk.snoc {us : List Int} (g : GrOk us) {v : Int} (h0 : 0 ≤ v) (h1 : v < (us.length : Int)) (hr : ∃ n, S21.climb us n ((us.length : Int) - 1) = v) : GrOk (us ++ [v]) where
  road := fun j hj hl => by
    rw [List.length_append, List.length_singleton] at hl
    rw [getD_app]
    have pos := g.pos
    split
    · rename_i h
      obtain ⟨n, e⟩ := g.road j hj h
      exact ⟨n, ((g.climb v (by omega) (by omega) n).1).trans e⟩
    · rename_i h
      have e : j = us.length := by omega
      subst e
      obtain ⟨n, e⟩ := hr
      rw [Nat.sub_self]
      exact ⟨n, ((g.climb v (by omega) (by omega) n).1).trans e⟩
  pos := by rw [List.length_append]; have := g.pos; omega
  root := by rw [getD_app, if_pos g.pos]; exact g.root
  up := fun j hj hl => by
    rw [List.length_append, List.length_singleton] at hl
    rw [getD_app]
    split
    · rename_i h; exact g.up j hj h
    · rename_i h
      have e : j = us.length := by omega
      subst e
      rw [Nat.sub_self]
      exact ⟨h0, h1⟩
theorem GrOk.one : GrOk [-1] := ⟨fun j h0 h1 => by
  have : j < 1 := h1
  omega, by decide, rfl, fun j h0 h1 => by
  have : j < 1 := h1
  omega⟩
theorem gr_tree {us : List Int} {ls : List Nat} (g : GrOk us) (hl : us.length = ls.length) (h60 : us.length ≤ 60) : TreeOk us (mk ls).cps.toList := ⟨by rw [mk_cps]; exact hl, g.pos, h60, g.root, g.up⟩
/-- growing, from none on -/
structure Fine (ups : List Int) (lab : Str) : Prop where
  low : ∀ c ∈ lab.cps.toList, Lw c
  road : ∀ k, 0 < k → k < ups.length → ∃ n, climb ups n ((k : Int) - 1) = ups.getD k 0
theorem low_app {cs : List Nat} {c : Nat} (h : ∀ x ∈ cs, Lw x) (hc : Lw c) : ∀ x ∈ cs ++ [c], Lw x := fun x hx => by
  rcases List.mem_append.mp hx with z | z
  · exact h x z
  · obtain rfl := List.mem_singleton.mp z; exact hc
/-! ### _law_tree -/
def sp_tree : Sp := fun vs H Q _ => ∃ (p : Addr) (most c : Int), vs = [.ref p, .int most] ∧ Deck H p c ∧ 0 ≤ c ∧ c < 900000 ∧ 1 ≤ most ∧ most ≤ 60 ∧ ∀ (t : Addr) (ups : List Int) (lab : Str) (H' : Hp), Kd p (c + 400) H H' → TreeAt H' t ups lab → Fine ups lab → Q (.ref t) H'
theorem has_tree (D : Df K mg "_law_tree" s_law_tree) (B : Blt mg) (G_law_take : Has P w K mg base "_law_take" k ["pool", "many"] sp_take) (G_law_letter : Has P w K mg base "_law_letter" k ["pool", "base"] sp_letter) : Has P w K mg base "_law_tree" (k + 1) ["pool", "most"] sp_tree := by
  refine D.has sc_law_tree (fun _ _ _ _ _ _ us hl => match us, hl with | [_, _], _ => rfl) (fun vs H Q E h => by obtain ⟨p, m, c, rfl, _⟩ := h; rfl) (fun f cdv A outer s H vs Q E hr h => ?_)
  obtain ⟨p, most, c, rfl, hd, cc0, cc1, ms1, ms60, q⟩ := h
  refine ⟨_, (pss_cons (ps_set (i := 2) sc_law_tree.nd rfl (by first | exact Or.inl rfl | exact Or.inr rfl) (pe_ix ix_list (pe_lst (pa_cons (pe_op op_add pe_int (pe_callH G_law_take hr rfl (pa_cons (pv 0) (pa_cons (pv 1) pa_nil)))) (pa_cons (pv 1) (pa_cons (pe_op op_add pe_int (pe_callH G_law_take hr rfl (pa_cons (pv 0) (pa_cons (pe_callB (call_min2 rfl) rfl B.min bt_min (pa_cons (pv 1) (pa_cons pe_int pa_nil))) pa_nil)))) pa_nil)))) (pe_callH G_law_take hr rfl (pa_cons (pv 0) (pa_cons pe_int pa_nil))) (fun _ _ => rfl)))
  (pss_cons (ps_set (i := 3) sc_law_tree.nd rfl (by first | exact Or.inl rfl | exact Or.inr rfl) (pe_tup (pa_cons (pe_callH G_law_take hr rfl (pa_cons (pv 0) (pa_cons pe_int pa_nil))) (pa_cons (pe_ix ix_list (pe_lst (pa_cons pe_int (pa_cons pe_int (pa_cons pe_int (pa_cons pe_int pa_nil))))) (pe_callH G_law_take hr rfl (pa_cons (pv 0) (pa_cons pe_int pa_nil))) (fun _ _ => rfl)) pa_nil))))
  (pss_cons (ps_set (i := 4) sc_law_tree.nd rfl (by first | exact Or.inl rfl | exact Or.inr rfl) (pe_callH G_law_take hr rfl (pa_cons (pv 0) (pa_cons pe_int pa_nil))))
  (pss_cons (ps_set (i := 5) sc_law_tree.nd rfl (by first | exact Or.inl rfl | exact Or.inr rfl) (pe_op op_add pe_int (pe_callH G_law_take hr rfl (pa_cons (pv 0) (pa_cons pe_int pa_nil)))))
  (pss_cons (ps_comp (i := 6) sc_law_tree.nd rfl (by first | exact Or.inl rfl | exact Or.inr rfl) rfl (pi_range1 rfl B.range (pa_cons (pv 5) pa_nil)) (NL := ["k"]) (ix := [0]) (csc (defScope s_law_tree) N_law_tree) (fun cl C s₃ H₃ fp pins => ⟨(pg_name (i := 0) (show List.Nodup (["k", "pool"] : List Str) from by decide +kernel) rfl (by first | exact Or.inl rfl | exact Or.inr rfl)), pifs_nil, (pe_callH G_law_take hr rfl (pa_cons (pv 1) (pa_cons pe_int pa_nil)))⟩))
  (pss_cons (ps_comp (i := 7) sc_law_tree.nd rfl (by first | exact Or.inl rfl | exact Or.inr rfl) rfl (pi_range1 rfl B.range (pa_cons (pv 5) pa_nil)) (NL := ["k"]) (ix := [0, 3]) (csc (defScope s_law_tree) N_law_tree) (fun cl C s₃ H₃ fp pins => ⟨(pg_name (i := 0) (show List.Nodup (["k", "pool", "base"] : List Str) from by decide +kernel) rfl (by first | exact Or.inl rfl | exact Or.inr rfl)), pifs_nil, (pe_callH G_law_letter hr rfl (pa_cons (pv 1) (pa_cons (pv 2) pa_nil)))⟩))
  (pss_cons (ps_set (i := 8) sc_law_tree.nd rfl (by first | exact Or.inl rfl | exact Or.inr rfl) (pe_lst (pa_cons (pe_op op_sub pe_int pe_int) pa_nil)))
  (pss_cons (ps_set (i := 9) sc_law_tree.nd rfl (by first | exact Or.inl rfl | exact Or.inr rfl) (pe_callH G_law_letter hr rfl (pa_cons (pv 0) (pa_cons (pv 3) pa_nil))))
  (pss_cons (ps_for PassesOwn.never rfl (pi_range2 rfl B.range (pa_cons pe_int (pa_cons (pv 2) pa_nil))) (pg_name (i := 10) sc_law_tree.nd rfl (by first | exact Or.inl rfl | exact Or.inr rfl))
  (pss_cons (ps_set (i := 11) sc_law_tree.nd rfl (by first | exact Or.inl rfl | exact Or.inr rfl) (pe_lst (pa_cons pe_int (pa_cons pe_int (pa_cons (pe_op op_mod (pv 10) pe_int) (pa_cons (pe_callH G_law_take hr rfl (pa_cons (pv 0) (pa_cons pe_int pa_nil))) (pa_cons (pe_callH G_law_take hr rfl (pa_cons (pv 0) (pa_cons pe_int pa_nil))) pa_nil)))))))
  (pss_cons (ps_set (i := 11) sc_law_tree.nd rfl (by first | exact Or.inl rfl | exact Or.inr rfl) (pe_op op_cat (pv 11) (pe_lst (pa_cons (pe_ix ix_list (pv 6) (pe_op op_mod (pv 10) (pv 5)) (fun _ _ => rfl)) (pa_cons (pe_callH G_law_take hr rfl (pa_cons (pv 0) (pa_cons pe_int pa_nil))) (pa_cons (pe_op op_mul pe_int (pe_callH G_law_take hr rfl (pa_cons (pv 0) (pa_cons pe_int pa_nil)))) pa_nil))))))
  (pss_cons (ps_set (i := 12) sc_law_tree.nd rfl (by first | exact Or.inl rfl | exact Or.inr rfl) (pe_op op_sub (pv 10) pe_int))
  (pss_cons (ps_for PassesOwn.never rfl (pi_range1 rfl B.range (pa_cons (pe_ix ix_list (pv 11) (pv 4) (fun _ _ => rfl)) pa_nil)) (pg_name (i := 13) sc_law_tree.nd rfl (by first | exact Or.inl rfl | exact Or.inr rfl))
  (pss_one (ps_set (i := 12) sc_law_tree.nd rfl (by first | exact Or.inl rfl | exact Or.inr rfl) (pe_callB (call_max2 rfl) rfl B.max bt_max (pa_cons pe_int (pa_cons (pe_ix ix_list (pv 8) (pv 12) (fun _ _ => rfl)) pa_nil))))))
  (pss_cons (ps_expr (pe_bm PySem.F.plainAttrs_list PySem.F.slot_list_append PySem.F.type_list_append mt_append (pv 8) (pa_cons (pv 12) pa_nil)))
  (pss_one (ps_set (i := 9) sc_law_tree.nd rfl (by first | exact Or.inl rfl | exact Or.inr rfl) (pe_op op_add_str (pv 9) (pe_ix ix_list (pe_lst (pa_cons (pe_callH G_law_letter hr rfl (pa_cons (pv 0) (pa_cons (pv 3) pa_nil))) (pa_cons (pe_ix ix_list (pv 7) (pe_op op_mod (pv 10) (pv 5)) (fun _ _ => rfl)) pa_nil))) (pe_callTy call_int1 rfl B.int_ bt_int (pa_cons (pe_cmpR op_eq (pv 4) pe_int (nomark _)) pa_nil)) (fun _ _ => rfl)))))))))))
  (pss_one (ps_ret (pe_tup (pa_cons (pe_callTy call_tuple_of rfl B.tuple_ bt_tuple (pa_cons (pv 8) pa_nil)) (pa_cons (pv 9) pa_nil)))))))))))))), ?_⟩
  -- many
  refine ⟨_, rfl, _, rfl, p, most, c, rfl, hd, by omega, by omega, by omega, fun n1 H1 a0 a1 kd1 => ?_⟩
  refine ⟨_, _, rfl, rfl, _, rfl, _, rfl, _, rfl, _, _, rfl, p, _, c + 1, rfl, kd1.deck, by omega, ?_, ?_, fun n2 H2 b0 b1 kd2 => ?_⟩
  · split <;> omega
  · split <;> omega
  have b2 : n2 < 7 ∧ n2 < most := by
    revert b1; split <;> omega
  refine ⟨_, _, rfl, rfl, (by show 3 ≤ sizeLine; decide), fun r1 hr1 => ?_⟩
  have kq2 := ((kd1.trans kd2).new (o := .lst [.int (1 + n1), .int most, .int (1 + n2)]) hr1)
  refine ⟨_, rfl, p, 3, _, rfl, kq2.deck, by omega, by decide, by decide, fun n3 H3 d0 d1 kd3 => ?_⟩
  have ku3 := kq2.trans kd3
  obtain ⟨many, hmany, mn1, mn60⟩ : ∃ v : Int, atI [V.int (1 + n1), .int most, .int (1 + n2)] n3 = some (.int v) ∧ 1 ≤ v ∧ v ≤ 60 := by
    have : n3 = 0 ∨ n3 = 1 ∨ n3 = 2 := by omega
    rcases this with rfl | rfl | rfl
    · exact ⟨_, rfl, by omega, by omega⟩
    · exact ⟨_, rfl, by omega, by omega⟩
    · exact ⟨_, rfl, by omega, by omega⟩
  refine ⟨r1, _, _, _, rfl, rfl, SqL.of (kd3.keep _ _ (kd2.deck.ne hr1) upd_same), hmany, ?_⟩
  -- base
  refine ⟨_, rfl, p, 26, _, rfl, ku3.deck, by omega, by decide, by decide, fun b0' H4 e0 e1 kd4 => ?_⟩
  have ku4 := ku3.trans kd4
  refine ⟨(by show 4 ≤ sizeLine; decide), fun r2 hr2 => ?_⟩
  have kq4 := ku4.new (o := .lst [.int 1, .int 2, .int 3, .int 26]) hr2
  refine ⟨_, rfl, p, 4, _, rfl, kq4.deck, by omega, by decide, by decide, fun n5 H5 f0 f1 kd5 => ?_⟩
  have ku5 := kq4.trans kd5
  obtain ⟨bb, hbb, bb1, bb26⟩ := menu (us := [1, 2, 3, 26]) (n := n5) (lo := 1) (hi := 26) f0 f1 (by decide)
  refine ⟨r2, _, _, _, rfl, rfl, SqL.of (kd5.keep _ _ (ku4.deck.ne hr2) upd_same), hbb, (by show 2 ≤ sizeLine; decide), fun bs hbs => ?_⟩
  have hHbs : H bs = none := ku5.fresh hbs
  have bsp : bs ≠ p := ku5.deck.ne hbs
  have kq5 := (ku5.new (o := .tup [.int b0', .int bb]) hbs).mono (show _ ≤ c + 5 by omega)
  have hb5 : upd H5 bs (.tup [.int b0', .int bb]) bs = some (.tup [.int b0', .int bb]) := upd_same
  generalize upd H5 bs (.tup [.int b0', .int bb]) = Hb at kq5 hb5
  -- way
  refine ⟨_, rfl, p, 8, _, rfl, kq5.deck, by omega, by decide, by decide, fun way H6 g0 g1 kd6 => ?_⟩
  have ku6 := kq5.trans kd6
  have hb6 := kd6.keep _ _ bsp hb5
  -- turns
  refine ⟨_, rfl, p, 7, _, rfl, ku6.deck, by omega, by decide, by decide, fun n9 H9 k0 k1 kd9 => ?_⟩
  have ku9 := (ku6.trans kd9).mono (show _ ≤ c + 9 by omega)
  have hb9 := kd9.keep _ _ bsp hb6
  refine ⟨_, _, rfl, rfl, ?_⟩
  have per1 : 1 ≤ (1 + n9) := by omega
  have per7 : (1 + n9) ≤ 7 := by omega
  -- climbs
  refine ⟨_, rfl, _, rfl, by omega, by omega, fun cl0 hcl => ?_⟩
  have hHcl : H cl0 = none := ku9.fresh hcl
  have clp : cl0 ≠ p := ku9.deck.ne hcl
  have bcl : bs ≠ cl0 := ne_of_none hb9 hcl
  refine comp_by (1 + n9).toNat (by omega) (fun j ys H' => H' cl0 = some (.lst ys) ∧ ys.length = j ∧ Kd p (c + 9 + j) H H' ∧ H' bs = some (.tup [.int b0', .int bb]) ∧ ∃ us : List Int, ys = us.map V.int ∧ ∀ v ∈ us, 0 ≤ v ∧ v ≤ 3)
    (fun j ys H' h => ⟨h.1, by omega⟩) ⟨upd_same, rfl, (ku9.new hcl).mono (by omega), by rw [upd_ne bcl]; exact hb9, [], rfl, by simp⟩ ?_ ?_
  rotate_left
  · rintro j ys Ha hj ⟨x1, x2, x3, x4, us, rfl, x5⟩
    refine ⟨hj, ?_⟩
    rintro x H4' ⟨rfl, rfl⟩
    refine ⟨rfl, ?_⟩
    refine ⟨_, rfl, p, 4, _, rfl, x3.deck, by omega, by decide, by decide, fun n Hc y0 y1 kd => ?_⟩
    refine ⟨kd.keep _ _ clp x1, upd_same, by rw [List.length_append, x2]; rfl, ((x3.trans kd).write hHcl clp).mono (by omega), by rw [upd_ne bcl]; exact kd.keep _ _ bsp x4, us ++ [n], by rw [List.map_append]; rfl, fun v hv => ?_⟩
    rcases List.mem_append.mp hv with hv | hv
    · exact x5 v hv
    · have : v = n := by simpa using hv
      omega
  rintro ys Ha ⟨hc1, hc2, ku10, hb10, cls, rfl, hcls⟩
  refine ⟨Nat.le_refl _, ?_⟩
  rw [List.length_map] at hc2
  -- signs
  refine ⟨_, rfl, _, rfl, by omega, by omega, fun sg0 hsg => ?_⟩
  have hHsg : H sg0 = none := ku10.fresh hsg
  have sgp : sg0 ≠ p := ku10.deck.ne hsg
  have bsg : bs ≠ sg0 := ne_of_none hb10 hsg
  have csg : cl0 ≠ sg0 := ne_of_none hc1 hsg
  refine comp_by (1 + n9).toNat (by omega) (fun j ys H' => H' sg0 = some (.lst ys) ∧ ys.length = j ∧ Kd p (c + 9 + (1 + n9).toNat + j) H H' ∧ H' bs = some (.tup [.int b0', .int bb]) ∧ H' cl0 = some (.lst (cls.map V.int)) ∧ ∃ cs : List Nat, ys = oneV cs ∧ ∀ c ∈ cs, Lw c)
    (fun j ys H' h => ⟨h.1, by omega⟩) ⟨upd_same, rfl, (ku10.new hsg).mono (by omega), by rw [upd_ne bsg]; exact hb10, by rw [upd_ne csg]; exact hc1, [], rfl, by simp⟩ ?_ ?_
  rotate_left
  · rintro j ys Hb' hj ⟨x1, x2, x3, x4, x5, cs, rfl, x6⟩
    refine ⟨hj, ?_⟩
    rintro x H4' ⟨rfl, rfl⟩
    refine ⟨rfl, ?_⟩
    refine ⟨_, rfl, _, rfl, p, bs, _, b0', bb, rfl, x3.deck, by omega, x4, by omega, by omega, fun ch Hc chl kd => ?_⟩
    refine ⟨kd.keep _ _ sgp x1, upd_same, by rw [List.length_append, x2]; rfl, ((x3.trans kd).write hHsg sgp).mono (by omega), by rw [upd_ne bsg]; exact kd.keep _ _ bsp x4, by rw [upd_ne csg]; exact kd.keep _ _ clp x5, cs ++ [ch], by unfold oneV; rw [List.map_append]; rfl, low_app x6 chl⟩
  rintro ys Hb' ⟨hs1, hs2, ku11, hb11, hc11, cs, rfl, lowc⟩
  refine ⟨Nat.le_refl _, ?_⟩
  rw [oneV_len] at hs2
  have ku11' := ku11.mono (show _ ≤ c + 23 by omega)
  -- ups
  refine ⟨_, _, rfl, rfl, (by show 1 ≤ sizeLine; decide), fun u hu0 => ?_⟩
  have hup : u ≠ p := ku11'.deck.ne hu0
  have hHu : H u = none := ku11'.fresh hu0
  have ubs : bs ≠ u := ne_of_none hb11 hu0
  have ucl : cl0 ≠ u := ne_of_none hc11 hu0
  have usg : sg0 ≠ u := ne_of_none hs1 hu0
  have ku12 : Kd p (c + 23) H (upd Hb' u (.lst [.int (0 - 1)])) := ku11'.new hu0
  have hb12 : upd Hb' u (.lst [.int (0 - 1)]) bs = some (.tup [.int b0', .int bb]) := by rw [upd_ne ubs]; exact hb11
  have hc12 : upd Hb' u (.lst [.int (0 - 1)]) cl0 = some (.lst (cls.map V.int)) := by rw [upd_ne ucl]; exact hc11
  have hs12 : upd Hb' u (.lst [.int (0 - 1)]) sg0 = some (.lst (oneV cs)) := by rw [upd_ne usg]; exact hs1
  have hu12 : upd Hb' u (.lst [.int (0 - 1)]) u = some (.lst (([-1] : List Int).map V.int)) := upd_same
  generalize upd Hb' u (.lst [.int (0 - 1)]) = H12 at ku12 hb12 hc12 hs12 hu12
  -- labels
  refine ⟨_, rfl, _, rfl, p, bs, _, b0', bb, rfl, ku12.deck, by omega, hb12, by omega, by omega, fun lc0 H13 lcl0 kd13 => ?_⟩
  have ku13 := (ku12.trans kd13).mono (show _ ≤ c + 24 by omega)
  have hb13 := kd13.keep _ _ bsp hb12
  have hc13 := kd13.keep _ _ clp hc12
  have hs13 := kd13.keep _ _ sgp hs12
  have hu13 := kd13.keep _ _ hup hu12
  refine ⟨_, rfl, _, _, rfl, ⟨by omega, by omega, by omega, by omega⟩, ?_⟩
  refine for_range (lo := 1) (n := (many - 1).toNat) (fun i σ H' => ∃ (us : List Int) (ls : List Nat) (tx : Str) (o10 o11 o12 o13 : Option V),
      σ = [some (.ref p), some (.int most), some (.int many), some (.ref bs), some (.int way), some (.int (1 + n9)), some (.ref cl0), some (.ref sg0), some (.ref u), some (.str tx), o10, o11, o12, o13] ∧ tx = mk ls ∧
      Kd p (c + 24 + 6 * i) H H' ∧ H' bs = some (.tup [.int b0', .int bb]) ∧ H' cl0 = some (.lst (cls.map V.int)) ∧ H' sg0 = some (.lst (oneV cs)) ∧ H' u = some (.lst (us.map V.int)) ∧ us.length = i + 1 ∧ ls.length = i + 1 ∧ GrOk us ∧ ∀ c ∈ ls, Lw c)
    ⟨[-1], [lc0], _, none, none, none, none, rfl, rfl, ku13.mono (by omega), hb13, hc13, hs13, hu13, rfl, rfl, GrOk.one, fun x hx => by obtain rfl := List.mem_singleton.mp hx; exact lcl0⟩ ?_ ?_
  · rintro i σ H' hi ⟨us, ls, tx, o10, o11, o12, o13, rfl, rfl, kd, hb, hc, hs, hu, hlen, hls, gr, low⟩
    have hul : (us.map V.int).length = us.length := List.length_map _
    have im := Int.emod_nonneg (1 + (i : Int)) (show (1 + n9) ≠ 0 by omega)
    have im2 := Int.emod_lt_of_pos (1 + (i : Int)) (show 0 < (1 + n9) by omega)
    have i2 := Int.emod_nonneg (1 + (i : Int)) (by decide : (2 : Int) ≠ 0)
    have i22 := Int.emod_lt_of_pos (1 + (i : Int)) (by decide : (0 : Int) < 2)
    obtain ⟨cv, hcv, cv0, cv3⟩ := menu (us := cls) (n := (1 + (i : Int)) % (1 + n9)) (lo := 0) (hi := 3) im (by omega) hcls
    -- some
    refine ⟨_, rfl, _, _, rfl, rfl, (by decide : (0 : Int) < 2), _, rfl, p, 2, _, rfl, kd.deck, by omega, by decide, by decide, fun m1 G1 p0 p1 e1 => ?_⟩
    refine ⟨_, rfl, p, 3, _, rfl, e1.deck, by omega, by decide, by decide, fun m2 G2 p2 p3 e2 => ?_⟩
    refine ⟨(by show 5 ≤ sizeLine; decide), fun s1 hs1' => ?_⟩
    have kd3 := (((Kd.refl kd.deck).trans e1).trans e2).new (o := .lst [.int 0, .int 60, .int ((1 + (i : Int)) % 2), .int m1, .int m2]) hs1'
    have hsp1 : s1 ≠ p := e2.deck.ne hs1'
    have hss1 : upd G2 s1 (.lst [.int 0, .int 60, .int ((1 + (i : Int)) % 2), .int m1, .int m2]) s1 = some (.lst [.int 0, .int 60, .int ((1 + (i : Int)) % 2), .int m1, .int m2]) := upd_same
    generalize upd G2 s1 (.lst [.int 0, .int 60, .int ((1 + (i : Int)) % 2), .int m1, .int m2]) = G3' at kd3 hss1
    have hc2 := kd3.keep _ _ clp hc
    refine ⟨_, rfl, _, rfl, _, rfl, _, rfl, _, _, rfl, rfl, by omega, cl0, _, _, _, rfl, rfl, SqL.of hc2, hcv, ?_⟩
    refine ⟨_, rfl, p, 5, _, rfl, kd3.deck, by omega, by decide, by decide, fun m3 G4 p4 p5 e3 => ?_⟩
    refine ⟨_, rfl, p, 2, _, rfl, e3.deck, by omega, by decide, by decide, fun m4 G5 p6 p7 e4 => ?_⟩
    refine ⟨_, _, rfl, rfl, .inl ⟨by decide, by decide⟩, (by show 3 ≤ sizeLine; decide), fun s2 hs2' => ?_⟩
    have kd5 := ((kd3.trans e3).trans e4).new (o := .lst [.int cv, .int m3, .int (3 * m4)]) hs2'
    have hss2 : upd G5 s2 (.lst [.int cv, .int m3, .int (3 * m4)]) s1 = some (.lst [.int 0, .int 60, .int ((1 + (i : Int)) % 2), .int m1, .int m2]) := by
      have z := e4.keep _ _ hsp1 (e3.keep _ _ hsp1 hss1)
      rw [upd_ne (ne_of_none z hs2')]; exact z
    refine ⟨s1, s2, _, _, rfl, rfl, hss2, upd_same, (by show 8 ≤ sizeLine; decide), fun s3 hs3' => ?_⟩
    have kd6 := kd5.new (o := .lst ([.int 0, .int 60, .int ((1 + (i : Int)) % 2), .int m1, .int m2] ++ [.int cv, .int m3, .int (3 * m4)])) hs3'
    have hs3 : upd (upd G5 s2 (.lst [.int cv, .int m3, .int (3 * m4)])) s3 (.lst ([.int 0, .int 60, .int ((1 + (i : Int)) % 2), .int m1, .int m2] ++ [.int cv, .int m3, .int (3 * m4)])) s3 = some (.lst (([0, 60, (1 + (i : Int)) % 2, m1, m2, cv, m3, 3 * m4] : List Int).map V.int)) := upd_same
    generalize upd (upd G5 s2 (.lst [.int cv, .int m3, .int (3 * m4)])) s3 (.lst ([.int 0, .int 60, .int ((1 + (i : Int)) % 2), .int m1, .int m2] ++ [.int cv, .int m3, .int (3 * m4)])) = G6 at kd6 hs3
    have kk : Kd p (c + 24 + 6 * i + 5) H G6 := (kd.trans kd6).mono (by omega)
    have keep : ∀ b o, b ≠ p → H' b = some o → G6 b = some o := kd6.keep
    have hu6 := keep _ _ hup hu
    have hb6' := keep _ _ bsp hb
    have hs6 := keep _ _ sgp hs
    -- place
    refine ⟨_, rfl, _, _, rfl, rfl, ?_⟩
    obtain ⟨stp, hstp, st0, st60⟩ := menu (us := [0, 60, (1 + (i : Int)) % 2, m1, m2, cv, m3, 3 * m4]) (n := way) (lo := 0) (hi := 60) g0 (by show way < 8; exact g1) (by
      intro v hv
      simp only [List.mem_cons, List.not_mem_nil, or_false] at hv
      rcases hv with rfl | rfl | rfl | rfl | rfl | rfl | rfl | rfl <;> omega)
    refine ⟨_, rfl, _, rfl, s3, _, _, _, rfl, rfl, SqL.of hs3, hstp, _, rfl, by omega, by omega, ?_⟩
    have hn : stp.toNat ≤ 60 := by omega
    generalize stp.toNat = nst at hn
    refine for_range (lo := 0) (n := nst) (fun j σ H'' => ∃ (pl : Int) (o13' : Option V),
        σ = [some (.ref p), some (.int most), some (.int many), some (.ref bs), some (.int way), some (.int (1 + n9)), some (.ref cl0), some (.ref sg0), some (.ref u), some (.str (mk ls)), some (.int (1 + (i : Int))), some (.ref s3), some (.int pl), o13'] ∧ H'' = G6 ∧ 0 ≤ pl ∧ pl < (i : Int) + 1 ∧ ∃ n, climb us n (1 + (i : Int) - 1) = pl)
      ⟨1 + (i : Int) - 1, o13, rfl, rfl, by omega, by omega, 0, rfl⟩ ?_ ?_
    · rintro j σ H'' hj ⟨pl, o13', rfl, rfl, pl0, pl1, n0, hn0⟩
      have hat := ints_at (us := us) (i := pl) pl0 (by omega)
      have hv : us.getD pl.toNat 0 < pl ∨ (us.getD pl.toNat 0 = -1 ∧ pl = 0) := by
        rcases Nat.eq_zero_or_pos pl.toNat with e | e
        · right; rw [e]; exact ⟨gr.root, by omega⟩
        · left; have := gr.up pl.toNat e (by omega); omega
      refine ⟨_, rfl, _, rfl, u, _, _, _, rfl, rfl, SqL.of hu6, hat, _, _, rfl, ?_⟩
      refine ⟨_, _, rfl, rfl, ?_, ?_, n0 + 1, ?_⟩
      · split <;> omega
      · split <;> omega
      · show stepUp us (climb us n0 _) = _
        rw [hn0]; rfl
    rintro σ Gx ⟨pl, o13', rfl, rfl, pl0, pl1, n0, hn0⟩
    -- append
    refine ⟨_, rfl, .inl ⟨rfl, _, SqL.of hu6⟩, _, rfl, u, _, _, rfl, rfl, hu6, by rw [hul]; exact small1000 (by omega), ?_⟩
    have kk7 : Kd p (c + 24 + 6 * i + 5) H (upd Gx u (.lst (us.map V.int ++ [.int pl]))) := kk.write hHu hup
    have hu7 : upd Gx u (.lst (us.map V.int ++ [.int pl])) u = some (.lst ((us ++ [pl]).map V.int)) := by rw [upd_same, List.map_append]; rfl
    have hb7' : upd Gx u (.lst (us.map V.int ++ [.int pl])) bs = some (.tup [.int b0', .int bb]) := by rw [upd_ne ubs]; exact hb6'
    have hs7 : upd Gx u (.lst (us.map V.int ++ [.int pl])) sg0 = some (.lst (oneV cs)) := by rw [upd_ne usg]; exact hs6
    have hc7 : upd Gx u (.lst (us.map V.int ++ [.int pl])) cl0 = some (.lst (cls.map V.int)) := by rw [upd_ne ucl]; exact keep _ _ clp hc
    generalize upd Gx u (.lst (us.map V.int ++ [.int pl])) = G7 at kk7 hu7 hb7' hs7 hc7
    -- labels
    refine ⟨_, rfl, _, rfl, _, rfl, p, bs, _, b0', bb, rfl, kk7.deck, by omega, hb7', by omega, by omega, fun ch G8 chl e8 => ?_⟩
    have hs8 := e8.keep _ _ sgp hs7
    have hb8' := e8.keep _ _ bsp hb7'
    have hc8 := e8.keep _ _ clp hc7
    have hu8 := e8.keep _ _ hup hu7
    have kk8 := (kk7.trans e8).mono (show _ ≤ c + 24 + 6 * (i : Int) + 6 by omega)
    obtain ⟨sv, hsv, svm⟩ := oneV_at (cs := cs) (i := (1 + (i : Int)) % (1 + n9)) im (by omega)
    refine ⟨_, rfl, _, rfl, _, rfl, _, _, rfl, rfl, by omega, sg0, _, _, _, rfl, rfl, SqL.of hs8, hsv, (by show 2 ≤ sizeLine; decide), fun l1' hl1' => ?_⟩
    have kk9 := kk8.new (o := .lst [V.str ⟨#[ch]⟩, .str ⟨#[sv]⟩]) hl1'
    have kp : ∀ b o, G8 b = some o → upd G8 l1' (.lst [V.str ⟨#[ch]⟩, .str ⟨#[sv]⟩]) b = some o := fun b o e => (Same.refl G8).new hl1' b o e
    have hl9 : upd G8 l1' (.lst [V.str ⟨#[ch]⟩, .str ⟨#[sv]⟩]) l1' = some (.lst [V.str ⟨#[ch]⟩, .str ⟨#[sv]⟩]) := upd_same
    generalize upd G8 l1' (.lst [V.str ⟨#[ch]⟩, .str ⟨#[sv]⟩]) = G9 at kk9 kp hl9
    obtain ⟨lc, hlc, lcl⟩ : ∃ ov : Nat, atI [V.str ⟨#[ch]⟩, .str ⟨#[sv]⟩] (if decide (V.int way = V.int 5) = true then 1 else 0) = some (.str ⟨#[ov]⟩) ∧ Lw ov := by
      by_cases z : V.int way = V.int 5
      · rw [decide_eq_true z]; exact ⟨sv, rfl, lowc _ svm⟩
      · rw [decide_eq_false z]; exact ⟨ch, rfl, chl⟩
    have happ : mk ls ++ (⟨#[lc]⟩ : Str) = mk (ls ++ [lc]) := by
      apply str_ext; rw [app_list]; rfl
    refine ⟨_, rfl, rfl, .inr ⟨_, rfl, l1', _, _, _, rfl, rfl, SqL.of hl9, hlc, _, _, rfl, rfl, ?_, us ++ [pl], ls ++ [lc], _, _, _, _, _, rfl, happ, kk9.mono (by omega), kp _ _ hb8', kp _ _ hc8, kp _ _ hs8, kp _ _ hu8, by rw [List.length_append, hlen]; rfl, by rw [List.length_append, hls]; rfl, ?_, low_app low lcl⟩⟩
    · rw [mk_len]
      have : (⟨#[lc]⟩ : Str).length = 1 := rfl
      rw [this]
      exact Nat.le_of_lt (small1000 (by omega))
    · exact gr.snoc pl0 (by omega) ⟨n0, by rw [← hn0]; congr 1; omega⟩
  · rintro σ H' ⟨us, ls, tx, o10, o11, o12, o13, rfl, rfl, kd, hb, hc, hs, hu, hlen, hls, gr, low⟩
    refine ⟨_, rfl, u, _, rfl, .inl ⟨SqL.of hu, fun r7 hr7 => ?_⟩⟩
    refine ⟨_, rfl, (by show 2 ≤ sizeLine; decide), fun t ht => ?_⟩
    refine q t us (mk ls) _ (((kd.new hr7).new ht).mono (by omega)) ⟨r7, upd_same, ?_, gr_tree gr (by omega) (by omega)⟩ ⟨low, gr.road⟩
    rw [upd_ne (ne_of_none upd_same ht)]; exact upd_same
end
end S21


set_option Elab.async false
set_option linter.all false
set_option maxRecDepth 100000
set_option maxHeartbeats 8000000
namespace S21
open PySem L2 W7
structure Blt7 (mg : Str → Option Value) : Prop extends Blt mg where
  sorted : mg "sorted" = none
  all : mg "all" = none
  repr : mg "repr" = none
  set_ : mg "set" = none
section
variable {P : Program} {w : World} {K : PySem.W.Frag} {mg : Str → Option Value} {base : Heap} {k : Nat}
theorem bt_all : bootBuiltins "all" = some (.builtin "all") := by decide +kernel
theorem cut_to {xs : List V} {h : Int} (h0 : 0 ≤ h) : cutV xs none (some h) = xs.take h.toNat := by
  unfold cutV
  have e1 := HT.sIx_nat xs.length xs.length h.toNat
  rw [show ((h.toNat : Nat) : Int) = h by omega] at e1
  rw [e1, HT.sIx_none, List.drop_zero, Nat.sub_zero]
  rcases Nat.le_total h.toNat xs.length with z | z
  · rw [Nat.min_eq_left z]
  · rw [Nat.min_eq_right z, List.take_of_length_le (Nat.le_refl _), List.take_of_length_le z]
/-! ### _law_cells -/
def sp_cells : PySem.W.Frag → Sp := fun K vs H Q _ => ∃ (a : Addr) (ns : List Int) (most : Int), vs = [.ref a, .int most] ∧ SqL K H a (ns.map V.int) ∧ ns.length ≤ 63 ∧ 0 < most ∧ most ≤ 63 ∧
  ∀ (r : Addr) (ms : List Int) (H' : Hp), Same H H' → H r = none → H' r = some (.lst (ms.map V.int)) → ms.length ≤ 63 → Q (.ref r) H'
theorem has_cells (D : Df K mg "_law_cells" s_law_cells) (B : Blt mg) : Has P w K mg base "_law_cells" (k + 1) ["script", "most"] (sp_cells K) := by
  refine D.has sc_law_cells (fun _ _ _ _ _ _ us hl => match us, hl with | [_, _], _ => rfl) (fun vs H Q E h => by obtain ⟨a, ns, most, rfl, _⟩ := h; rfl) (fun f cdv A outer s H vs Q E hr h => ?_)
  obtain ⟨a, ns, most, rfl, hS, h63, m0, m63, q⟩ := h
  refine ⟨_, (pss_cons (ps_set (i := 2) sc_law_cells.nd rfl (by first | exact Or.inl rfl | exact Or.inr rfl) (pe_slice sl_list (pe_op op_cat (pe_callTy call_list_of rfl B.list_ bt_list (pa_cons (pe_slice sl_list (pv 0) po_none (po_some (pv 1))) pa_nil)) (pe_lst (pa_cons pe_int pa_nil))) po_none (po_some (pe_callB (call_max2 rfl) rfl B.max bt_max (pa_cons pe_int (pa_cons (pe_callB (call_min2 rfl) rfl B.min bt_min (pa_cons (pv 1) (pa_cons (pe_callB call_len_seq rfl B.len bt_len (pa_cons (pv 0) pa_nil)) pa_nil))) pa_nil))))))
  (pss_cons (ps_for PassesOwn.never rfl (pi_range2 rfl B.range (pa_cons (pv 1) (pa_cons (pe_callB call_len_seq rfl B.len bt_len (pa_cons (pv 0) pa_nil)) pa_nil))) (pg_name (i := 3) sc_law_cells.nd rfl (by first | exact Or.inl rfl | exact Or.inr rfl))
  (pss_one (ps_asg (pe_op op_add (pe_op op_mul (pe_ix ix_list (pv 2) (pe_op op_mod (pv 3) (pv 1)) (fun _ _ => rfl)) pe_int) (pe_ix ix_list (pv 0) (pv 3) (fun _ _ => rfl))) (pg_sub (pv 2) (pe_op op_mod (pv 3) (pv 1)) set_list))))
  (pss_one (ps_ret (pv 2))))), ?_⟩
  have hl : (ns.map V.int).length = ns.length := List.length_map _
  refine ⟨_, rfl, _, rfl, _, rfl, a, _, rfl, hS, fun p1 hp1 => ?_⟩
  rw [cut_to (by omega), ← List.map_take]
  have s1 : Same H (upd H p1 (.lst ((ns.take most.toNat).map V.int))) := (Same.refl H).new hp1
  have h1 : upd H p1 (.lst ((ns.take most.toNat).map V.int)) p1 = some (.lst ((ns.take most.toNat).map V.int)) := upd_same
  generalize upd H p1 (.lst ((ns.take most.toNat).map V.int)) = H1 at s1 h1
  refine ⟨p1, _, rfl, .inl (SqL.of h1), fun p2 hp2 => ?_⟩
  have s2 : Same H1 (upd H1 p2 (.lst ((ns.take most.toNat).map V.int))) := (Same.refl H1).new hp2
  have h2 : upd H1 p2 (.lst ((ns.take most.toNat).map V.int)) p2 = some (.lst ((ns.take most.toNat).map V.int)) := upd_same
  generalize upd H1 p2 (.lst ((ns.take most.toNat).map V.int)) = H2 at s2 h2
  refine ⟨(by show 1 ≤ sizeLine; decide), fun p3 hp3 => ?_⟩
  have s3 : Same H2 (upd H2 p3 (.lst [.int 23])) := (Same.refl H2).new hp3
  have h3 : upd H2 p3 (.lst [.int 23]) p3 = some (.lst [.int 23]) := upd_same
  generalize upd H2 p3 (.lst [.int 23]) = H3 at s3 h3
  have tl : (ns.take most.toNat).length ≤ 63 := by rw [List.length_take]; omega
  refine ⟨p2, p3, _, _, rfl, rfl, s3 _ _ h2, h3, by rw [List.length_map]; exact Nat.le_of_lt (small1000 (by show _ + 1 ≤ 1000; omega)), fun p4 hp4 => ?_⟩
  rw [show ((ns.take most.toNat).map V.int ++ [V.int 23]) = (ns.take most.toNat ++ [23]).map V.int by rw [List.map_append]; rfl]
  have s4 : Same H3 (upd H3 p4 (.lst ((ns.take most.toNat ++ [23]).map V.int))) := (Same.refl H3).new hp4
  have h4 : upd H3 p4 (.lst ((ns.take most.toNat ++ [23]).map V.int)) p4 = some (.lst ((ns.take most.toNat ++ [23]).map V.int)) := upd_same
  generalize upd H3 p4 (.lst ((ns.take most.toNat ++ [23]).map V.int)) = H4 at s4 h4
  have s04 : Same H H4 := ((s1.trans s2).trans s3).trans s4
  refine ⟨_, rfl, _, rfl, a, _, rfl, .inl (s04.seq hS), _, _, rfl, _, _, rfl, _, rfl, p4, _, rfl, SqL.of h4, fun p5 hp5 => ?_⟩
  obtain ⟨M, hM, hMm⟩ : ∃ M : Int, M = (if (if (((ns.map V.int).length : Nat) : Int) < most then (((ns.map V.int).length : Nat) : Int) else most) > 1 then (if (((ns.map V.int).length : Nat) : Int) < most then (((ns.map V.int).length : Nat) : Int) else most) else 1) ∧ 0 < M ∧ M ≤ 63 ∧ (most < (ns.length : Int) → M = most) := by
    refine ⟨_, rfl, ?_⟩
    rw [hl]
    split <;> (try split) <;> omega
  rw [← hM, cut_to (by omega), ← List.map_take]
  generalize hms : (ns.take most.toNat ++ [23]).take M.toNat = ms0
  have L63 : ms0.length ≤ 63 := by rw [← hms, List.length_take]; omega
  have Lm : most < (ns.length : Int) → (ms0.length : Int) = most := fun z => by
    have e := hMm.2.2 z
    rw [← hms, List.length_take, List.length_append, List.length_take]
    simp only [List.length_singleton]
    omega
  have s5 : Same H (upd H4 p5 (.lst (ms0.map V.int))) := s04.new hp5
  have h5 : upd H4 p5 (.lst (ms0.map V.int)) p5 = some (.lst (ms0.map V.int)) := upd_same
  have f5 : H p5 = none := s04.free hp5
  generalize upd H4 p5 (.lst (ms0.map V.int)) = H5 at s5 h5
  refine ⟨_, rfl, _, rfl, a, _, rfl, .inl (s5.seq hS), _, _, rfl, ⟨by omega, by omega, by omega, by rw [hl]; omega⟩, ?_⟩
  refine for_range (lo := most) (n := ((((ns.map V.int).length : Nat) : Int) - most).toNat) (fun i σ H' => ∃ (ms : List Int) (o3 : Option V), σ = [some (.ref a), some (.int most), some (.ref p5), o3] ∧ Same H H' ∧ H' p5 = some (.lst (ms.map V.int)) ∧ ms.length = ms0.length) ⟨ms0, none, rfl, s5, h5, rfl⟩ ?_ ?_
  · rintro i σ H' hi ⟨ms, o3, rfl, sX, hX, hlX⟩
    rw [hl] at hi
    have Lm' := Lm (by omega)
    have e0 := Int.emod_nonneg (most + (i : Int)) (show most ≠ 0 by omega)
    have e1 := Int.emod_lt_of_pos (most + (i : Int)) m0
    have at1 := ints_at (us := ms) (i := (most + (i : Int)) % most) e0 (by omega)
    have at2 := ints_at (us := ns) (i := most + (i : Int)) (by omega) (by omega)
    have hj : ixN (ms.map V.int).length ((most + (i : Int)) % most) = some ((most + (i : Int)) % most).toNat := by
      unfold ixN; rw [if_pos e0, List.length_map, if_pos (by omega)]
    refine ⟨_, rfl, _, rfl, _, rfl, _, _, rfl, rfl, m0, p5, _, _, _, rfl, rfl, SqL.of hX, at1, _, _, rfl, rfl, .inr ⟨by decide, by decide⟩, _, rfl, _, rfl, a, _, _, _, rfl, rfl, sX.seq hS, at2, _, _, rfl, rfl, ?_⟩
    refine ⟨_, rfl, _, rfl, _, rfl, _, _, rfl, rfl, m0, p5, _, _, _, rfl, rfl, hX, hj, ?_⟩
    refine ⟨ms.set ((most + (i : Int)) % most).toNat (ms.getD ((most + (i : Int)) % most).toNat 0 * 31 + ns.getD (most + (i : Int)).toNat 0), _, rfl, sX.write f5, ?_, by rw [List.length_set]; exact hlX⟩
    rw [upd_same, List.map_set]
  · rintro σ H' ⟨ms, o3, rfl, sX, hX, hlX⟩
    exact ⟨_, rfl, q p5 ms H' sX f5 hX (by omega)⟩
end
end S21


set_option Elab.async false
set_option linter.all false
set_option maxRecDepth 100000
set_option maxHeartbeats 8000000
namespace S21
open PySem L2 W7
section
variable {P : Program} {w : World} {K : PySem.W.Frag} {mg : Str → Option Value} {base : Heap} {k : Nat}
theorem lt_asymm' : ∀ x y : List Nat, ¬ y < x → ¬ x < y → x = y := fun x y h1 h2 => List.le_antisymm (List.not_lt.mp h1) (List.not_lt.mp h2)
theorem rising_pair : ∀ (l : List Str) (p : Str), PyProof.Rows.risingS p l = true → (p :: l).Pairwise (fun a b => ¬ b.cps.toList < a.cps.toList)
  | [], p, _ => List.pairwise_singleton _ _
  | x :: r, p, h => by
    have h' : (!PySem.Spec.ltCps x.cps.toList p.cps.toList && PyProof.Rows.risingS x r) = true := h
    obtain ⟨h1, h2⟩ := (Bool.and_eq_true _ _).mp h'
    have ih := rising_pair r x h2
    have px : ¬ x.cps.toList < p.cps.toList := by
      rw [PyProof.Rows.ltCps_eq] at h1
      simpa using h1
    refine List.pairwise_cons.mpr ⟨fun y hy => ?_, ih⟩
    rcases List.mem_cons.mp hy with rfl | hy
    · exact px
    · have xy := List.rel_of_pairwise_cons ih hy
      exact List.not_lt.mpr (List.le_trans (List.not_lt.mp px) (List.not_lt.mp xy))
theorem sorted_pair : ∀ ss : List Str, PyProof.Rows.sortedS ss = true → ss.Pairwise (fun a b => ¬ b.cps.toList < a.cps.toList)
  | [], _ => List.Pairwise.nil
  | x :: r, h => rising_pair r x h
theorem sorted_one {a b : List Str} (h1 : PyProof.Rows.sortedS a = true) (h2 : PyProof.Rows.sortedS b = true) (p : a.Perm b) : a = b :=
  p.eq_of_pairwise (fun x y _ _ l1 l2 => by
    have := lt_asymm' x.cps.toList y.cps.toList l1 l2
    exact str_ext this) (sorted_pair a h1) (sorted_pair b h2)
def wordsS (ups : List Int) (lab : Str) : List Str := (List.range ups.length).map fun j => mk (W ups lab.cps.toList j)
theorem wordsV_eq (ups : List Int) (lab : Str) : wordsV ups lab ups.length = (wordsS ups lab).map V.str := by
  unfold wordsV wordsS
  rw [List.map_map]; rfl
theorem wordsS_len (ups : List Int) (lab : Str) : (wordsS ups lab).length = ups.length := by simp [wordsS]
theorem wordsS_le {ups : List Int} {lab : Str} (ok : TreeOk ups lab.cps.toList) : ∀ z ∈ wordsS ups lab, z.length ≤ 60 := by
  intro z hz
  obtain ⟨j, hj, rfl⟩ := List.mem_map.mp hz
  have hj' := List.mem_range.mp hj
  have := W_len ok (j + 1) j (by omega) hj'
  have := ok.most
  rw [mk_len]; omega
theorem cps_len (z : Str) : z.cps.toList.length = z.length := by simp [Str.length]
/-! ### many_alike -/
def sp_alike : Sp := fun vs H Q _ => ∃ one other : Str, vs = [.str one, .str other] ∧ one.length ≤ 60 ∧ other.length ≤ 60 ∧ Q (.int ((W16.lcp one.cps.toList other.cps.toList : Nat) : Int)) H
theorem has_alike (D : Df K mg "many_alike" s_many_alike) (B : Blt7 mg) : Has P w K mg base "many_alike" (k + 1) ["one", "other"] sp_alike := by
  refine D.has sc_many_alike (fun _ _ _ _ _ _ us hl => match us, hl with | [_, _], _ => rfl) (fun vs H Q E h => by obtain ⟨one, other, rfl, _⟩ := h; rfl) (fun f cdv A outer s H vs Q E hr h => ?_)
  obtain ⟨one, other, rfl, l1, l2, q⟩ := h
  refine ⟨_, (pss_cons (ps_set (i := 2) sc_many_alike.nd rfl (by first | exact Or.inl rfl | exact Or.inr rfl) pe_int)
  (pss_cons (ps_while PassesOwn.never (PW.pt (pw_and (pt_cmpR op_lt (pv 2) (pe_callB (call_min2 rfl) rfl B.min bt_min (pa_cons (pe_callB call_len_str rfl B.len bt_len (pa_cons (pv 0) pa_nil)) (pa_cons (pe_callB call_len_str rfl B.len bt_len (pa_cons (pv 1) pa_nil)) pa_nil))) (nomark _)) (pw_and1 (pt_cmpR op_eq (pe_ix ix_str (pv 0) (pv 2) (fun _ _ => rfl)) (pe_ix ix_str (pv 1) (pv 2) (fun _ _ => rfl)) (nomark _)))))
  (pss_one (ps_aug (i := 2) sc_many_alike.nd rfl (by first | exact Or.inl rfl | exact Or.inr rfl) pe_int ip_add)))
  (pss_one (ps_ret (pv 2))))), ?_⟩
  have z1 : one.length ≤ sizeLine := Nat.le_of_lt (small1000 (by omega))
  have z2 : other.length ≤ sizeLine := Nat.le_of_lt (small1000 (by omega))
  have c1 := cps_len one
  have c2 := cps_len other
  refine ⟨fun m σ H' => H' = H ∧ ∃ n : Nat, σ = [some (.str one), some (.str other), some (.int n)] ∧ m = 60 - n ∧ n ≤ one.length ∧ n ≤ other.length ∧ ∀ j, j < n → one.cps.toList[j]? = other.cps.toList[j]?, ⟨_, rfl, 0, rfl, rfl, Nat.zero_le _, Nat.zero_le _, fun j hj => absurd hj (Nat.not_lt_zero _)⟩, ?_⟩
  rintro m σ H' ⟨rfl, n, rfl, rfl, n1, n2, ne⟩
  refine ⟨_, rfl, _, rfl, _, rfl, z1, _, rfl, _, rfl, z2, _, _, rfl, _, _, rfl, rfl, _, rfl, ite2 (fun c => ?_) (fun c => ?_)⟩
  · have c' := of_decide_eq_true c
    have lt1 : n < one.length := by split at c' <;> omega
    have lt2 : n < other.length := by split at c' <;> omega
    have g1 : one.cps.toList[n]? = some (one.cps.toList[n]'(by omega)) := List.getElem?_eq_getElem _
    have g2 : other.cps.toList[n]? = some (other.cps.toList[n]'(by omega)) := List.getElem?_eq_getElem _
    refine ⟨_, rfl, _, rfl, _, _, _, rfl, rfl, z1, atI_nat g1, _, rfl, _, rfl, _, _, _, rfl, rfl, z2, atI_nat g2, rfl, _, rfl, ?_⟩
    by_cases hc : V.str ⟨#[one.cps.toList[n]'(by omega)]⟩ = V.str ⟨#[other.cps.toList[n]'(by omega)]⟩
    · rw [decide_eq_true hc]
      refine iteT ?_
      refine ⟨_, fun σ' H3 h => h, ?_⟩
      refine ⟨_, rfl, _, _, rfl, rfl, ?_⟩
      have e : one.cps.toList[n]'(by omega) = other.cps.toList[n]'(by omega) := by
        injection hc with hc; injection hc with hc; injection hc with hc; injection hc
      refine ⟨60 - (n + 1), by omega, rfl, n + 1, rfl, rfl, by omega, by omega, fun j hj => ?_⟩
      rcases Nat.lt_or_ge j n with h | h
      · exact ne j h
      · have : j = n := by omega
        subst this
        rw [g1, g2, e]
    · rw [decide_eq_false hc]
      refine iteF ?_
      have e : W16.lcp one.cps.toList other.cps.toList = n := W16.lcp_stop _ _ n (by omega) (by omega) ne (fun _ _ he => hc (by rw [g1, g2] at he; rw [Option.some.inj he]))
      rw [e] at q
      exact ⟨_, rfl, q⟩
  · have c' := of_decide_eq_false (Bool.eq_false_iff.mpr c)
    have e : W16.lcp one.cps.toList other.cps.toList = n := W16.lcp_stop _ _ n (by omega) (by omega) ne (fun h1 h2 => by split at c' <;> omega)
    rw [e] at q
    exact ⟨_, rfl, q⟩


def alk (ss : List Str) (i : Nat) : Int := if i = 0 then 0 else ((W16.lcp (ss.getD (i - 1) Str.empty).cps.toList (ss.getD i Str.empty).cps.toList : Nat) : Int)
def als (ss : List Str) (n : Nat) : List Int := (List.range n).map (alk ss)
theorem strs_at {ss : List Str} {i : Nat} (h : i < ss.length) : atI (ss.map V.str) (i : Int) = some (.str (ss.getD i Str.empty)) := atI_nat (by rw [List.getElem?_map, List.getElem?_eq_getElem h, List.getD_eq_getElem?_getD, List.getElem?_eq_getElem h]; rfl)

/-! ### alike_of -/
def sp_alikes : Sp := fun vs H Q _ => ∃ (t : Addr) (ups : List Int) (lab : Str), vs = [.ref t] ∧ TreeAt H t ups lab ∧
  ∀ (ss : List Str) (r : Addr) (H' : Hp), ss.Perm (wordsS ups lab) → PyProof.Rows.sortedS ss = true → Same H H' → H r = none → H' r = some (.lst ((als ss ss.length).map V.int)) → Q (.ref r) H'
theorem has_alikes (D : Df K mg "alike_of" s_alike_of) (B : Blt7 mg) (G_words_of : Has P w K mg base "words_of" k ["tree"] sp_words) (G_many_alike : Has P w K mg base "many_alike" k ["one", "other"] sp_alike) : Has P w K mg base "alike_of" (k + 1) ["tree"] sp_alikes := by
  refine D.has sc_alike_of (fun _ _ _ _ _ _ us hl => match us, hl with | [_], _ => rfl) (fun vs H Q E h => by obtain ⟨t, ups, lab, rfl, _⟩ := h; rfl) (fun f cdv A outer s H vs Q E hr h => ?_)
  obtain ⟨t, ups, lab, rfl, tr, q⟩ := h
  refine ⟨_, (pss_cons (ps_set (i := 1) sc_alike_of.nd rfl (by first | exact Or.inl rfl | exact Or.inr rfl) (pe_callB call_sorted_strs rfl B.sorted bt_sorted (pa_cons (pe_callH G_words_of hr rfl (pa_cons (pv 0) pa_nil)) pa_nil)))
  (pss_one (ps_ret (pe_op op_cat (pe_lst (pa_cons pe_int pa_nil)) (pe_comp rfl (pi_range2 rfl B.range (pa_cons pe_int (pa_cons (pe_callB call_len_seq rfl B.len bt_len (pa_cons (pv 1) pa_nil)) pa_nil))) (NL := ["rank"]) (ix := [1]) (csc (defScope s_alike_of) N_alike_of) (fun cl C s₃ H₃ fp pins => ⟨(pg_name (i := 0) (show List.Nodup (["rank", "words"] : List Str) from by decide +kernel) rfl (by first | exact Or.inl rfl | exact Or.inr rfl)), pifs_nil, (pe_callH G_many_alike hr rfl (pa_cons (pe_ix (ix_listK K) (pv 1) (pe_op op_sub (pv 0) pe_int) (fun _ _ => rfl)) (pa_cons (pe_ix (ix_listK K) (pv 1) (pv 0) (fun _ _ => rfl)) pa_nil)))⟩)))))), ?_⟩
  obtain ⟨_, _, _, ok⟩ := id tr
  have m60 := ok.most
  have lpos := ok.pos
  have wl := wordsS_len ups lab
  have wle := wordsS_le ok
  refine ⟨_, rfl, t, ups, lab, rfl, tr, fun r H1 s1 hr1 => ?_⟩
  rw [wordsV_eq] at hr1
  refine ⟨r, _, rfl, SqL.of hr1, by omega, fun ss r2 hp hs hr2 => ?_⟩
  have sl := hp.length_eq
  have s2 : Same H (upd H1 r2 (.lst (ss.map V.str))) := s1.new hr2
  have h22 : upd H1 r2 (.lst (ss.map V.str)) r2 = some (.lst (ss.map V.str)) := upd_same
  generalize upd H1 r2 (.lst (ss.map V.str)) = H2 at s2 h22
  have sle : ∀ i, (ss.getD i Str.empty).length ≤ 60 := fun i => by
    rw [List.getD_eq_getElem?_getD]
    cases e : ss[i]? with
    | none => show Str.empty.length ≤ 60; decide
    | some z => exact wle z (hp.mem_iff.mp (List.mem_of_getElem? e))
  refine ⟨(by show 1 ≤ sizeLine; decide), fun r3 hr3 => ?_⟩
  have s3 : Same H2 (upd H2 r3 (.lst [.int 0])) := (Same.refl H2).new hr3
  have h33 : upd H2 r3 (.lst [.int 0]) r3 = some (.lst [.int 0]) := upd_same
  generalize upd H2 r3 (.lst [.int 0]) = H3 at s3 h33
  refine ⟨_, rfl, r2, _, rfl, .inl (SqL.of (s3 _ _ h22)), _, _, rfl, ?_, fun acc hacc => ?_⟩
  · rw [List.length_map]; omega
  have eN : ((((ss.map V.str).length : Nat) : Int) - 1).toNat = ss.length - 1 := by rw [List.length_map]; omega
  refine comp_by ((((ss.map V.str).length : Nat) : Int) - 1).toNat (by omega) (fun i ys H' => H' acc = some (.lst ys) ∧ ys = ((List.range i).map fun j => alk ss (j + 1)).map V.int ∧ Same H3 H')
    (fun i ys H' h => ⟨h.1, by rw [h.2.1, List.length_map, List.length_map, List.length_range]; exact Nat.le_refl _⟩) ⟨upd_same, rfl, (Same.refl H3).new hacc⟩ ?_ ?_
  · rintro ys H4 ⟨g1, rfl, g3⟩
    refine ⟨Nat.le_refl _, ?_⟩
    rw [eN] at g1
    refine ⟨r3, acc, _, _, rfl, rfl, g3 _ _ h33, g1, ?_, fun r4 hr4 => ?_⟩
    · rw [List.length_map, List.length_map, List.length_range]
      show 1 + _ ≤ sizeLine
      exact Nat.le_of_lt (small1000 (by omega))
    refine q ss r4 _ hp hs (((s2.trans s3).trans g3).new hr4) (((s2.trans s3).trans g3).free hr4) ?_
    rw [upd_same]
    have e : als ss ss.length = 0 :: ((List.range (ss.length - 1)).map fun j => alk ss (j + 1)) := by
      obtain ⟨m, em⟩ : ∃ m, ss.length = m + 1 := ⟨ss.length - 1, by omega⟩
      unfold als
      rw [em, List.range_succ_eq_map, List.map_cons, List.map_map]
      rfl
    rw [e]; rfl
  · rintro i ys H4 hi ⟨g1, rfl, g3⟩
    rw [eN] at hi
    refine ⟨by rw [eN]; exact hi, ?_⟩
    rintro x H5 ⟨rfl, rfl⟩
    refine ⟨rfl, ?_⟩
    have a1 : atI (ss.map V.str) (1 + (i : Int) - 1) = some (.str (ss.getD i Str.empty)) := by rw [show 1 + (i : Int) - 1 = (i : Int) by omega]; exact strs_at (by omega)
    have a2 : atI (ss.map V.str) (1 + (i : Int)) = some (.str (ss.getD (i + 1) Str.empty)) := by rw [show 1 + (i : Int) = ((i + 1 : Nat) : Int) by omega]; exact strs_at (by omega)
    have hl2 := g3 _ _ (s3 _ _ h22)
    refine ⟨_, rfl, _, rfl, _, _, rfl, rfl, r2, _, _, _, rfl, rfl, SqL.of hl2, a1, _, rfl, _, rfl, r2, _, _, _, rfl, rfl, SqL.of hl2, a2, _, _, rfl, sle i, sle (i + 1), g1, upd_same, ?_, g3.write hacc⟩
    rw [List.range_succ, List.map_append, List.map_append]; rfl

end
end S21


set_option Elab.async false
set_option linter.all false
set_option maxRecDepth 100000
set_option maxHeartbeats 8000000
namespace S21
open PySem L2 W7
section
variable {P : Program} {w : World} {K : PySem.W.Frag} {mg : Str → Option Value} {base : Heap} {k : Nat}
/-! ### what keys a dict has -/
structure Kp (kvs : List (Key × V)) (S : Str → Prop) : Prop where
  nd : (kvs.map (·.1)).Nodup
  is : ∀ k ∈ kvs.map (·.1), ∃ z, k = Sum.inr z ∧ S z
  all : ∀ z, S z → Sum.inr z ∈ kvs.map (·.1)
theorem putK_in {kvs : List (Key × V)} {k : Key} (v : V) (h : k ∈ kvs.map (·.1)) : (putK kvs k v).map (·.1) = kvs.map (·.1) := by
  have a : (kvs.any fun kv => decide (kv.1 = k)) = true := by
    obtain ⟨p, hp, e⟩ := List.mem_map.mp h
    exact List.any_eq_true.mpr ⟨p, hp, decide_eq_true e⟩
  unfold putK
  rw [if_pos a, List.map_map]
  refine List.map_congr_left fun p _ => ?_
  show (if p.1 = k then (p.1, v) else p).1 = p.1
  split <;> rfl
theorem putK_out {kvs : List (Key × V)} {k : Key} (v : V) (h : ¬ k ∈ kvs.map (·.1)) : (putK kvs k v).map (·.1) = kvs.map (·.1) ++ [k] := by
  have a : ¬ (kvs.any fun kv => decide (kv.1 = k)) = true := fun a => by
    obtain ⟨p, hp, e⟩ := List.any_eq_true.mp a
    exact h (List.mem_map.mpr ⟨p, hp, of_decide_eq_true e⟩)
  unfold putK
  rw [if_neg a, List.map_append]; rfl
theorem Kp.put {kvs : List (Key × V)} {S S' : Str → Prop} (h : Kp kvs S) (z : Str) (v : V) (e : ∀ y, S' y ↔ S y ∨ y = z) : Kp (putK kvs (.inr z) v) S' := by
  by_cases c : (Sum.inr z : Key) ∈ kvs.map (·.1)
  · refine ⟨?_, ?_, ?_⟩
    · rw [putK_in v c]; exact h.nd
    · rw [putK_in v c]
      intro k hk
      obtain ⟨y, e1, e2⟩ := h.is k hk
      exact ⟨y, e1, (e y).mpr (.inl e2)⟩
    · rw [putK_in v c]
      intro y hy
      rcases (e y).mp hy with hy | hy
      · exact h.all y hy
      · subst hy; exact c
  · refine ⟨?_, ?_, ?_⟩
    · rw [putK_out v c, List.nodup_append]
      exact ⟨h.nd, by simp, fun a ha b hb e => c (by rw [← List.mem_singleton.mp hb, ← e]; exact ha)⟩
    · rw [putK_out v c]
      intro k hk
      rcases List.mem_append.mp hk with hk | hk
      · obtain ⟨y, e1, e2⟩ := h.is k hk
        exact ⟨y, e1, (e y).mpr (.inl e2)⟩
      · exact ⟨z, List.mem_singleton.mp hk, (e z).mpr (.inr rfl)⟩
    · rw [putK_out v c]
      intro y hy
      rcases (e y).mp hy with hy | hy
      · exact List.mem_append_left _ (h.all y hy)
      · subst hy; exact List.mem_append_right _ (List.mem_singleton.mpr rfl)
theorem Kp.congr {kvs : List (Key × V)} {S S' : Str → Prop} (h : Kp kvs S) (e : ∀ y, S' y ↔ S y) : Kp kvs S' :=
  ⟨h.nd, fun k hk => let ⟨z, a, b⟩ := h.is k hk; ⟨z, a, (e z).mpr b⟩, fun z hz => h.all z ((e z).mp hz)⟩
/-- its values are the lists of places -/
def Lx (H : Hp) (kvs : List (Key × V)) (f : Str → List Int) : Prop := ∀ z v, valV kvs (.inr z) = some v → ∃ l, v = .ref l ∧ H l = some (.lst ((f z).map V.int))
theorem Lx.same {H H' : Hp} {kvs : List (Key × V)} {f : Str → List Int} (h : Lx H kvs f) (s : Same H H') : Lx H' kvs f := fun z v e => by
  obtain ⟨l, a, b⟩ := h z v e
  exact ⟨l, a, s _ _ b⟩
/-- .. and they are new -/
def Ly (H0 H : Hp) (kvs : List (Key × V)) (f : Str → List Int) : Prop := ∀ z v, valV kvs (.inr z) = some v → ∃ l, v = .ref l ∧ H0 l = none ∧ H l = some (.lst ((f z).map V.int))
theorem Ly.lx {H0 H : Hp} {kvs : List (Key × V)} {f : Str → List Int} (h : Ly H0 H kvs f) : Lx H kvs f := fun z v e => by
  obtain ⟨l, a, _, b⟩ := h z v e
  exact ⟨l, a, b⟩
def plc (ups : List Int) (lab : Str) (n : Nat) (z : Str) : List Int := ((List.range n).filter fun j => z.cps.toList.isPrefixOf (W ups lab.cps.toList j)).map fun j : Nat => (j : Int)
theorem plc_len (ups : List Int) (lab : Str) (n : Nat) (z : Str) : (plc ups lab n z).length ≤ n := by
  unfold plc
  rw [List.length_map]
  have := List.length_filter_le (fun j => z.cps.toList.isPrefixOf (W ups lab.cps.toList j)) (List.range n)
  rw [List.length_range] at this
  exact this
theorem plc_succ (ups : List Int) (lab : Str) (n : Nat) (z : Str) : plc ups lab (n + 1) z = plc ups lab n z ++ (if z.cps.toList <+: W ups lab.cps.toList n then [(n : Int)] else []) := by
  unfold plc
  rw [List.range_succ, List.filter_append, List.map_append]
  congr 1
  rw [List.filter_cons, List.filter_nil]
  by_cases c : z.cps.toList <+: W ups lab.cps.toList n
  · rw [if_pos c, if_pos (List.isPrefixOf_iff_prefix.mpr c)]; rfl
  · rw [if_neg c, if_neg fun k => c (List.isPrefixOf_iff_prefix.mp k)]; rfl
def prefN (ups : List Int) (lab : Str) (i : Nat) (z : Str) : Prop := z.cps.toList ≠ [] ∧ ∃ j, j < i ∧ z.cps.toList <+: W ups lab.cps.toList j
theorem valV_some {kvs : List (Key × V)} {k : Key} (h : k ∈ kvs.map (·.1)) : ∃ v, valV kvs k = some v := by
  have a : (kvs.any fun kv => decide (kv.1 = k)) = true := by
    obtain ⟨p, hp, e⟩ := List.mem_map.mp h
    exact List.any_eq_true.mpr ⟨p, hp, decide_eq_true e⟩
  rw [valV_any] at a
  exact Option.isSome_iff_exists.mp a
theorem valV_mem {kvs : List (Key × V)} {k : Key} {v : V} (h : valV kvs k = some v) : k ∈ kvs.map (·.1) := by
  have a : (kvs.any fun kv => decide (kv.1 = k)) = true := by rw [valV_any, h]; rfl
  obtain ⟨p, hp, e⟩ := List.any_eq_true.mp a
  exact List.mem_map.mpr ⟨p, hp, of_decide_eq_true e⟩
theorem plc_none {ups : List Int} {lab : Str} {n : Nat} {z : Str} (h0 : z.cps.toList ≠ []) (h : ¬ prefN ups lab n z) : plc ups lab n z = [] := by
  unfold plc
  rw [List.map_eq_nil_iff, List.filter_eq_nil_iff]
  intro j hj c
  exact h ⟨h0, j, List.mem_range.mp hj, List.isPrefixOf_iff_prefix.mp c⟩
/-! ### _law_reads -/
def sp_reads : Sp := fun vs H Q _ => ∃ (t : Addr) (ups : List Int) (lab : Str), vs = [.ref t] ∧ TreeAt H t ups lab ∧
  ∀ (d : Addr) (kvs : List (Key × V)) (H' : Hp), Same H H' → H d = none → H' d = some (.dK kvs) → Kp kvs (prefN ups lab ups.length) → kvs.length ≤ 3600 → Ly H H' kvs (plc ups lab ups.length) → Q (.ref d) H'
theorem has_reads (D : Df K mg "_law_reads" s_law_reads) (B : Blt7 mg) (G_law_word : Has P w K mg base "_law_word" k ["tree", "place"] sp_lword) : Has P w K mg base "_law_reads" (k + 1) ["tree"] sp_reads := by
  refine D.has sc_law_reads (fun _ _ _ _ _ _ us hl => match us, hl with | [_], _ => rfl) (fun vs H Q E h => by obtain ⟨t, ups, lab, rfl, _⟩ := h; rfl) (fun f cdv A outer s H vs Q E hr h => ?_)
  obtain ⟨t, ups, lab, rfl, tr, q⟩ := h
  refine ⟨_, (pss_cons (ps_set (i := 1) sc_law_reads.nd rfl (by first | exact Or.inl rfl | exact Or.inr rfl) pe_dnewK)
  (pss_cons (ps_for PassesOwn.never rfl (pi_range1 rfl B.range (pa_cons (pe_callB call_len_str rfl B.len bt_len (pa_cons (pe_ix ix_tup (pv 0) pe_int (fun _ _ => rfl)) pa_nil)) pa_nil)) (pg_name (i := 2) sc_law_reads.nd rfl (by first | exact Or.inl rfl | exact Or.inr rfl))
  (pss_cons (ps_set (i := 3) sc_law_reads.nd rfl (by first | exact Or.inl rfl | exact Or.inr rfl) (pe_callH G_law_word hr rfl (pa_cons (pv 0) (pa_cons (pv 2) pa_nil))))
  (pss_one (ps_for PassesOwn.never rfl (pi_range2 rfl B.range (pa_cons pe_int (pa_cons (pe_op op_add (pe_callB call_len_str rfl B.len bt_len (pa_cons (pv 3) pa_nil)) pe_int) pa_nil))) (pg_name (i := 4) sc_law_reads.nd rfl (by first | exact Or.inl rfl | exact Or.inr rfl))
  (pss_one (ps_dput (hu_of hr) (pv 1) (pe_slice sl_str (pv 3) po_none (po_some (pv 4))) (pe_op op_cat (pe_dget2 (hu_of hr) (pv 1) (pe_slice sl_str (pv 3) po_none (po_some (pv 4))) (pe_lst pa_nil) ⟨rfl, rfl, rfl, rfl⟩) (pe_lst (pa_cons (pv 2) pa_nil))) rfl))))))
  (pss_one (ps_ret (pv 1))))), ?_⟩
  obtain ⟨u, ht, hu, ok⟩ := id tr
  have m60 := ok.most
  have lpos := ok.pos
  have hlab : lab.length = ups.length := by rw [ok.len]; simp [Str.length]
  refine fun d hd => ?_
  have s0 : Same H (upd H d (.dK [])) := (Same.refl H).new hd
  have h0 : upd H d (.dK []) d = some (.dK []) := upd_same
  generalize upd H d (.dK []) = H0 at s0 h0
  refine ⟨_, rfl, t, _, _, _, rfl, rfl, SqT.of (s0 _ _ ht), rfl, lab, rfl, by rw [hlab]; exact Nat.le_of_lt (small1000 (by omega)), _, rfl, by omega, by omega, ?_⟩
  refine for_range (lo := 0) (n := ((lab.length : Nat) : Int).toNat) (fun i σ H' => ∃ (o2 o3 o4 : Option V) (kvs : List (Key × V)), σ = [some (.ref t), some (.ref d), o2, o3, o4] ∧ Same H H' ∧ H' d = some (.dK kvs) ∧ Kp kvs (prefN ups lab i) ∧ kvs.length ≤ 60 * i ∧ Ly H H' kvs (plc ups lab i))
    ⟨none, none, none, [], rfl, s0, h0, ⟨by simp, by simp, fun z hz => by obtain ⟨_, j, hj, _⟩ := hz; omega⟩, Nat.le_refl _, fun z v e => by cases e⟩ ?_ ?_
  · rintro i σ H' hi ⟨o2, o3, o4, kvs, rfl, s1, hd1, kp, kl, lv⟩
    have hi' : i < ups.length := by omega
    refine ⟨_, rfl, _, rfl, t, ups, lab, 0 + (i : Int), rfl, tr.same s1, by omega, ?_⟩
    have eR : R ups lab.cps.toList (0 + (i : Int)) = W ups lab.cps.toList i := by
      unfold R
      rw [if_neg (by omega), Int.zero_add, Int.toNat_natCast]
    rw [eR]
    have wlen := W_len ok (i + 1) i (by omega) hi'
    have eP : ∀ z, prefN ups lab (i + 1) z ↔ prefN ups lab i z ∨ (z.cps.toList ≠ [] ∧ z.cps.toList <+: W ups lab.cps.toList i) := fun z => by
      unfold prefN
      constructor
      · rintro ⟨a, j, hj, b⟩
        rcases Nat.lt_or_ge j i with h | h
        · exact .inl ⟨a, j, h, b⟩
        · have : j = i := by omega
          subst this; exact .inr ⟨a, b⟩
      · rintro (⟨a, j, hj, b⟩ | ⟨a, b⟩)
        · exact ⟨a, j, by omega, b⟩
        · exact ⟨a, i, by omega, b⟩
    generalize eW : W ups lab.cps.toList i = wd at wlen eP
    have z1 : (mk wd).length ≤ sizeLine := by rw [mk_len]; exact Nat.le_of_lt (small1000 (by omega))
    refine ⟨_, rfl, mk wd, rfl, z1, _, _, rfl, rfl, _, _, rfl, ⟨by omega, by omega, by rw [mk_len]; omega, by rw [mk_len]; omega⟩, ?_⟩
    have eN : (((mk wd).length : Int) + 1 - 1).toNat = wd.length := by rw [mk_len]; omega
    refine for_range (lo := 1) (n := (((mk wd).length : Int) + 1 - 1).toNat) (fun j σ H' => ∃ (o4 : Option V) (kvs : List (Key × V)), σ = [some (.ref t), some (.ref d), some (.int (0 + (i : Int))), some (.str (mk wd)), o4] ∧ Same H H' ∧ H' d = some (.dK kvs) ∧
        Kp kvs (fun z => prefN ups lab i z ∨ (z.cps.toList ≠ [] ∧ z.cps.toList <+: wd ∧ z.cps.toList.length ≤ j)) ∧ kvs.length ≤ 60 * i + j ∧ Ly H H' kvs (fun z => plc ups lab i z ++ (if z.cps.toList ≠ [] ∧ z.cps.toList <+: wd ∧ z.cps.toList.length ≤ j then [(i : Int)] else [])))
      ⟨_, kvs, rfl, s1, hd1, kp.congr (fun z => ⟨fun h => h.elim id fun ⟨a, _, b⟩ => absurd (List.length_pos_iff.mpr a) (by omega), .inl⟩), kl, fun z v e => by
        dsimp only
        rw [if_neg (fun ⟨a, _, b⟩ => absurd (List.length_pos_iff.mpr a) (by omega)), List.append_nil]
        exact lv z v e⟩ ?_ ?_
    · rintro j σ H2 hj ⟨o4', kvs2, rfl, s2, hd2, kp2, kl2, lv2⟩
      rw [eN] at hj
      have ce : cutS (mk wd) none (some (1 + (j : Int))) = mk (wd.take (j + 1)) := by
        apply str_ext
        rw [show 1 + (j : Int) = ((j + 1 : Nat) : Int) by omega, cutS_to]; rfl
      refine ⟨_, rfl, d, rfl, .inl ⟨kvs2, .inl hd2⟩, _, rfl, _, rfl, _, rfl, mk wd, rfl, z1, (by show 0 ≤ sizeLine; decide), fun e he => ?_⟩
      rw [ce]
      have s3 : Same H2 (upd H2 e (.lst [])) := (Same.refl H2).new he
      have h3 : upd H2 e (.lst []) e = some (.lst []) := upd_same
      generalize upd H2 e (.lst []) = H3 at s3 h3
      refine ⟨_, DGet.k (k := Sum.inr (mk (wd.take (j + 1)))) (s3 _ _ hd2), ?_⟩
      have zne : (mk (wd.take (j + 1))).cps.toList ≠ [] := fun z => by
        rw [mk_cps] at z
        have := congrArg List.length z
        rw [List.length_take, List.length_nil] at this
        omega
      have zlen : (mk (wd.take (j + 1))).cps.toList.length = j + 1 := by rw [mk_cps, List.length_take]; omega
      have pl60 := plc_len ups lab i (mk (wd.take (j + 1)))
      obtain ⟨l, el, hl⟩ : ∃ l, (valV kvs2 (Sum.inr (mk (wd.take (j + 1))))).getD (.ref e) = .ref l ∧ H3 l = some (.lst ((plc ups lab i (mk (wd.take (j + 1)))).map V.int)) := by
        cases c : valV kvs2 (Sum.inr (mk (wd.take (j + 1)))) with
        | none =>
          have np : ¬ prefN ups lab i (mk (wd.take (j + 1))) := fun hpn => by
            have := kp2.all _ (.inl hpn)
            obtain ⟨v, hv⟩ := valV_some this
            rw [c] at hv; cases hv
          exact ⟨e, rfl, by rw [plc_none zne np]; exact h3⟩
        | some v =>
          obtain ⟨l, rfl, _, a⟩ := lv2 _ _ c
          dsimp only at a
          rw [if_neg (fun ⟨_, _, b⟩ => by omega), List.append_nil] at a
          exact ⟨l, rfl, s3 _ _ a⟩
      rw [el]
      refine ⟨_, rfl, (by show 1 ≤ sizeLine; decide), fun e2 he2 => ?_⟩
      have s4 : Same H3 (upd H3 e2 (.lst [.int (0 + (i : Int))])) := (Same.refl H3).new he2
      have h4 : upd H3 e2 (.lst [.int (0 + (i : Int))]) e2 = some (.lst [.int (0 + (i : Int))]) := upd_same
      generalize upd H3 e2 (.lst [.int (0 + (i : Int))]) = H4 at s4 h4
      refine ⟨l, e2, _, _, rfl, rfl, s4 _ _ hl, h4, Nat.le_of_lt (small10000 (by rw [List.length_map]; show _ + 1 < 10000; omega)), fun r hr5 => ?_⟩
      have el2 : (plc ups lab i (mk (wd.take (j + 1)))).map V.int ++ [V.int (0 + (i : Int))] = (plc ups lab i (mk (wd.take (j + 1))) ++ [(i : Int)]).map V.int := by rw [List.map_append, Int.zero_add]; rfl
      rw [el2]
      have s5 : Same H4 (upd H4 r (.lst ((plc ups lab i (mk (wd.take (j + 1))) ++ [(i : Int)]).map V.int))) := (Same.refl H4).new hr5
      have h5 : upd H4 r (.lst ((plc ups lab i (mk (wd.take (j + 1))) ++ [(i : Int)]).map V.int)) r = some (.lst ((plc ups lab i (mk (wd.take (j + 1))) ++ [(i : Int)]).map V.int)) := upd_same
      generalize upd H4 r (.lst ((plc ups lab i (mk (wd.take (j + 1))) ++ [(i : Int)]).map V.int)) = H5 at s5 h5
      have s25 : Same H2 H5 := (s3.trans s4).trans s5
      have hd5 := s25 _ _ hd2
      have rd : r ≠ d := ne_of h5 hd5 (by intro z; cases z)
      refine ⟨_, rfl, _, rfl, _, rfl, _, rfl, mk wd, rfl, z1, ?_⟩
      rw [ce]
      refine ⟨d, _, rfl, DPut.k (k := Sum.inr (mk (wd.take (j + 1)))) hd5 (small10000 (by omega)), ?_⟩
      refine ⟨_, _, rfl, (s2.trans s25).write hd, upd_same, kp2.put _ _ (fun y => ?_), ?_, ?_⟩
      · constructor
        · rintro (h | ⟨a, b, c⟩)
          · exact .inl (.inl h)
          · rcases Nat.lt_or_ge j y.cps.toList.length with g | g
            · right
              apply str_ext
              rw [mk_cps]
              exact (List.prefix_iff_eq_take.mp b).trans (by rw [show y.cps.toList.length = j + 1 by omega])
            · exact .inl (.inr ⟨a, b, g⟩)
        · rintro ((h | ⟨a, b, c⟩) | h)
          · exact .inl h
          · exact .inr ⟨a, b, by omega⟩
          · subst h
            refine .inr ⟨?_, List.take_prefix _ _, ?_⟩
            · rw [mk_cps]
              intro z
              have := congrArg List.length z
              rw [List.length_take, List.length_nil] at this
              omega
            · rw [mk_cps, List.length_take]; omega
      · have := length_putK kvs2 (Sum.inr (mk (wd.take (j + 1)))) (.ref r); omega
      · intro k' v' e'
        rw [valV_put] at e'
        split at e'
        · rename_i ek
          cases e'
          cases ek
          refine ⟨r, rfl, s2.free (((s3.trans s4)).free hr5), ?_⟩
          dsimp only
          rw [upd_ne rd, if_pos ⟨zne, by rw [mk_cps]; exact List.take_prefix _ _, by omega⟩]
          exact h5
        · rename_i ek
          obtain ⟨l', rfl, fr, a⟩ := lv2 _ _ e'
          refine ⟨l', rfl, fr, ?_⟩
          rw [upd_ne (ne_of a hd2 (by intro z; cases z))]
          have same : (k'.cps.toList ≠ [] ∧ k'.cps.toList <+: wd ∧ k'.cps.toList.length ≤ j + 1) ↔ (k'.cps.toList ≠ [] ∧ k'.cps.toList <+: wd ∧ k'.cps.toList.length ≤ j) := by
            constructor
            · rintro ⟨a, b, c⟩
              refine ⟨a, b, ?_⟩
              rcases Nat.lt_or_ge j k'.cps.toList.length with g | g
              · exfalso
                apply ek
                congr 1
                apply str_ext
                rw [mk_cps]
                exact (List.prefix_iff_eq_take.mp b).trans (by rw [show k'.cps.toList.length = j + 1 by omega])
              · exact g
            · rintro ⟨a, b, c⟩
              exact ⟨a, b, by omega⟩
          dsimp only at a ⊢
          simp only [same]
          exact s25 _ _ a
    · rintro σ H2 ⟨o4', kvs2, rfl, s2, hd2, kp2, kl2, lv2⟩
      rw [eN] at kp2 kl2 lv2
      refine ⟨_, _, _, kvs2, rfl, s2, hd2, kp2.congr (fun z => ?_), by omega, fun z v e => ?_⟩
      · rw [eP]
        constructor
        · rintro (h | ⟨a, b⟩)
          · exact .inl h
          · exact .inr ⟨a, b, b.length_le⟩
        · rintro (h | ⟨a, b, _⟩)
          · exact .inl h
          · exact .inr ⟨a, b⟩
      · obtain ⟨l, a, fr, b⟩ := lv2 z v e
        refine ⟨l, a, fr, ?_⟩
        rw [plc_succ, eW]
        have zk : z.cps.toList ≠ [] := by
          obtain ⟨y, ey, hy⟩ := kp2.is _ (valV_mem e)
          cases ey
          rcases hy with hy | hy
          · exact hy.1
          · exact hy.1
        have same : (z.cps.toList ≠ [] ∧ z.cps.toList <+: wd ∧ z.cps.toList.length ≤ wd.length) ↔ z.cps.toList <+: wd := ⟨fun h => h.2.1, fun h => ⟨zk, h, h.length_le⟩⟩
        dsimp only at b
        simp only [same] at b
        exact b
  · rintro σ H' ⟨o2, o3, o4, kvs, rfl, s1, hd1, kp, kl, lv⟩
    rw [Int.toNat_natCast, hlab] at kp kl
    rw [Int.toNat_natCast, hlab] at lv
    exact ⟨_, rfl, q d kvs H' s1 hd hd1 kp (by omega) lv⟩
end
end S21


set_option Elab.async false
set_option linter.all false
set_option maxRecDepth 100000
set_option maxHeartbeats 8000000
namespace S21
open PySem L2 W7
/-! ### what is read most, and again -/
section
variable (ups : List Int) (lab : Str)
def cnt (z : Str) : Nat := (plc ups lab ups.length z).length
abbrev prf (z : Str) : Prop := prefN ups lab ups.length z
def MostZ (L : Int) (z : Str) : Prop := prf ups lab z ∧ (z.length : Int) = L ∧ ∀ y, prf ups lab y → (y.length : Int) = L → cnt ups lab y ≤ cnt ups lab z ∧ (cnt ups lab y = cnt ups lab z → ¬ y.cps.toList < z.cps.toList)
def NoneZ (L : Int) : Prop := ∀ z, prf ups lab z → (z.length : Int) ≠ L
def AgZ (z : Str) : Prop := prf ups lab z ∧ 1 < cnt ups lab z ∧ ∀ y, prf ups lab y → 1 < cnt ups lab y → y.length ≤ z.length ∧ (y.length = z.length → ¬ y.cps.toList < z.cps.toList)
def NoAg : Prop := ∀ z, prf ups lab z → ¬ 1 < cnt ups lab z
variable {ups lab}
theorem MostZ.one {L : Int} {z y : Str} (h : MostZ ups lab L z) (g : MostZ ups lab L y) : z = y := by
  obtain ⟨a1, a2⟩ := h.2.2 y g.1 g.2.1
  obtain ⟨b1, b2⟩ := g.2.2 z h.1 h.2.1
  have e : cnt ups lab y = cnt ups lab z := by omega
  exact str_ext (lt_asymm' _ _ (a2 e) (b2 e.symm))
theorem AgZ.one {z y : Str} (h : AgZ ups lab z) (g : AgZ ups lab y) : z = y := by
  obtain ⟨a1, a2⟩ := h.2.2 y g.1 g.2.1
  obtain ⟨b1, b2⟩ := g.2.2 z h.1 h.2.1
  have e : y.length = z.length := by omega
  exact str_ext (lt_asymm' _ _ (a2 e) (b2 e.symm))
theorem cnt_eq (z : Str) : cnt ups lab z = (wordsS ups lab).countP fun w => z.cps.toList.isPrefixOf w.cps.toList := by
  unfold cnt plc wordsS
  rw [List.length_map, List.countP_map, ← List.countP_eq_length_filter]
  rfl
theorem prf_iff {z : Str} : prf ups lab z ↔ z.cps.toList ≠ [] ∧ ∃ w ∈ wordsS ups lab, z.cps.toList <+: w.cps.toList := by
  unfold prf prefN wordsS
  constructor
  · rintro ⟨h, j, hj, p⟩
    exact ⟨h, _, List.mem_map.mpr ⟨j, List.mem_range.mpr hj, rfl⟩, p⟩
  · rintro ⟨h, w, hw, p⟩
    obtain ⟨j, hj, rfl⟩ := List.mem_map.mp hw
    exact ⟨h, j, List.mem_range.mp hj, p⟩
/-! the beginnings of one length -/
def begs (ups : List Int) (lab : Str) (l : Nat) : List Str := ((wordsS ups lab).filter fun w => decide (l ≤ w.length)).map fun w => mk (w.cps.toList.take l)
theorem begs_mem {l : Nat} (hl : 1 ≤ l) {z : Str} : z ∈ begs ups lab l ↔ prf ups lab z ∧ z.length = l := by
  rw [prf_iff]
  unfold begs
  rw [List.mem_map]
  constructor
  · rintro ⟨w, hw, rfl⟩
    obtain ⟨h1, h2⟩ := List.mem_filter.mp hw
    have h2' : l ≤ w.length := of_decide_eq_true h2
    have := cps_len w
    have hlen : (w.cps.toList.take l).length = l := by rw [List.length_take]; omega
    refine ⟨⟨fun e => ?_, w, h1, List.take_prefix _ _⟩, by rw [mk_len]; exact hlen⟩
    rw [mk_cps] at e
    rw [e] at hlen; simp at hlen; omega
  · rintro ⟨⟨h1, w, hw, p⟩, h2⟩
    have := cps_len w
    have := cps_len z
    have pl := p.length_le
    refine ⟨w, List.mem_filter.mpr ⟨hw, decide_eq_true (by omega)⟩, str_ext ?_⟩
    rw [mk_cps, ← show z.cps.toList.length = l by omega]
    exact (List.prefix_iff_eq_take.mp p).symm
theorem begs_count {l : Nat} {z : Str} (hz : z.length = l) : (begs ups lab l).count z = cnt ups lab z := by
  rw [cnt_eq]
  unfold begs List.count
  rw [List.countP_map, List.countP_filter]
  refine List.countP_congr fun w _ => ?_
  have := cps_len w
  have := cps_len z
  simp only [Function.comp, Bool.and_eq_true, beq_iff_eq, decide_eq_true_eq, List.isPrefixOf_iff_prefix]
  constructor
  · rintro ⟨e, h⟩
    rw [← e, mk_cps]; exact List.take_prefix _ _
  · intro p
    have pl := p.length_le
    refine ⟨str_ext ?_, by omega⟩
    rw [mk_cps, ← show z.cps.toList.length = l by omega]
    exact (List.prefix_iff_eq_take.mp p).symm
theorem most_of {l : Nat} (hl : 1 ≤ l) {bs : List Str} (hp : bs.Perm (begs ups lab l)) (hs : PyProof.Rows.sortedS bs = true) {b : Nat} (hb : b < bs.length) (best : Best (fun i => ((bs.count (bs.getD i Str.empty) : Nat) : Int)) b bs.length) : MostZ ups lab (l : Int) bs[b] ∧ bs.count bs[b] = cnt ups lab bs[b] := by
  have cn : ∀ z, z.length = l → bs.count z = cnt ups lab z := fun z hz => by rw [hp.count_eq, begs_count hz]
  have mb := (begs_mem hl).mp (hp.mem_iff.mp (List.getElem_mem hb))
  refine ⟨⟨mb.1, by rw [mb.2], fun y py ly => ?_⟩, cn _ mb.2⟩
  have ly' : y.length = l := by omega
  have my := hp.mem_iff.mpr ((begs_mem hl).mpr ⟨py, ly'⟩)
  obtain ⟨i, hi, ei⟩ := List.getElem_of_mem my
  have h2 := best.2 i hi
  have g : ∀ i (hi : i < bs.length), bs.getD i Str.empty = bs[i] := fun i hi => by rw [List.getD_eq_getElem?_getD, List.getElem?_eq_getElem hi]; rfl
  simp only [g i hi, g b hb] at h2
  rw [ei] at h2
  rw [← cn y ly', ← cn _ mb.2]
  refine ⟨by omega, fun e lt => ?_⟩
  rcases Nat.lt_trichotomy i b with q | q | q
  · have := h2.2 q; omega
  · subst q
    rw [ei] at lt
    exact absurd lt (List.lt_irrefl _)
  · have := List.pairwise_iff_getElem.mp (sorted_pair bs hs) b i hb hi q
    rw [ei] at this
    exact this lt
/-! ### the longest that stands twice -/
theorem two_near {ss : List Str} (hs : PyProof.Rows.sortedS ss = true) {z : Str} (h : 1 < ss.countP fun w => z.cps.toList.isPrefixOf w.cps.toList) : ∃ j, 1 ≤ j ∧ j < ss.length ∧ z.cps.toList <+: (ss.getD (j - 1) Str.empty).cps.toList ∧ z.cps.toList <+: (ss.getD j Str.empty).cps.toList := by
  have sp := sorted_pair ss hs
  have two : ∃ i j, i < j ∧ j < ss.length ∧ z.cps.toList <+: (ss.getD i Str.empty).cps.toList ∧ z.cps.toList <+: (ss.getD j Str.empty).cps.toList := by
    clear hs sp
    induction ss with
    | nil => simp at h
    | cons a l ih =>
      rw [List.countP_cons] at h
      by_cases c : 1 < l.countP fun w => z.cps.toList.isPrefixOf w.cps.toList
      · obtain ⟨i, j, h1, h2, h3, h4⟩ := ih c
        exact ⟨i + 1, j + 1, by omega, by simpa using h2, h3, h4⟩
      · have pa : z.cps.toList.isPrefixOf a.cps.toList = true := by
          cases e : z.cps.toList.isPrefixOf a.cps.toList with
          | true => rfl
          | false => rw [e, if_neg Bool.false_ne_true] at h; omega
        rw [pa] at h
        simp only [if_true] at h
        have pos : 0 < l.countP fun w => z.cps.toList.isPrefixOf w.cps.toList := by omega
        obtain ⟨w, hw, pw⟩ := List.countP_pos_iff.mp pos
        obtain ⟨j, hj, ej⟩ := List.getElem_of_mem hw
        refine ⟨0, j + 1, by omega, by simpa using hj, List.isPrefixOf_iff_prefix.mp pa, ?_⟩
        show z.cps.toList <+: (l.getD j Str.empty).cps.toList
        rw [List.getD_eq_getElem?_getD, List.getElem?_eq_getElem hj, Option.getD_some, ej]
        exact List.isPrefixOf_iff_prefix.mp pw
  obtain ⟨i, j, hij, hj, p1, p2⟩ := two
  have g : ∀ i (hi : i < ss.length), ss.getD i Str.empty = ss[i] := fun i hi => by rw [List.getD_eq_getElem?_getD, List.getElem?_eq_getElem hi]; rfl
  refine ⟨i + 1, by omega, by omega, by simpa using p1, ?_⟩
  rcases Nat.eq_or_lt_of_le (show i + 1 ≤ j by omega) with e | e
  · rw [e]; exact p2
  · rw [g _ (by omega)] at p1 p2 ⊢
    exact W18.btw _ _ _ _ p1 p2 (List.pairwise_iff_getElem.mp sp i (i + 1) (by omega) (by omega) (by omega)) (List.pairwise_iff_getElem.mp sp (i + 1) j (by omega) hj e)
theorem two_count {p : Str → Bool} : ∀ (ss : List Str) (i j : Nat), i < j → j < ss.length → p (ss.getD i Str.empty) = true → p (ss.getD j Str.empty) = true → 1 < ss.countP p
  | [], i, j, _, h, _, _ => by simp at h
  | a :: l, 0, j + 1, _, h, h1, h2 => by
    have hj : j < l.length := by simpa using h
    have pa : p a = true := h1
    rw [List.countP_cons, pa, if_pos rfl]
    have e : l.getD j Str.empty = l[j] := by rw [List.getD_eq_getElem?_getD, List.getElem?_eq_getElem hj]; rfl
    have h2' : p (l.getD j Str.empty) = true := h2
    rw [e] at h2'
    have := List.countP_pos_iff.mpr ⟨l[j], List.getElem_mem hj, h2'⟩
    omega
  | a :: l, i + 1, j + 1, hij, h, h1, h2 => by
    have := two_count l i j (by omega) (by simpa using h) h1 h2
    rw [List.countP_cons]; omega
theorem cnt_perm {ss : List Str} (hp : ss.Perm (wordsS ups lab)) (z : Str) : cnt ups lab z = ss.countP fun w => z.cps.toList.isPrefixOf w.cps.toList := by rw [cnt_eq, hp.countP_eq]
theorem le_alk {ss : List Str} {z : Str} {j : Nat} (h1 : 1 ≤ j) (p1 : z.cps.toList <+: (ss.getD (j - 1) Str.empty).cps.toList) (p2 : z.cps.toList <+: (ss.getD j Str.empty).cps.toList) : (z.length : Int) ≤ alk ss j := by
  unfold alk
  rw [if_neg (by omega)]
  have e : z.cps.toList = (ss.getD (j - 1) Str.empty).cps.toList.take z.length := by
    rw [← cps_len]; exact List.prefix_iff_eq_take.mp p1
  have pl := p1.length_le
  rw [cps_len] at pl
  rw [e] at p2
  have := (W16.take_pre _ _ z.length pl).mp p2
  omega
theorem noag_of {ss : List Str} (hp : ss.Perm (wordsS ups lab)) (hs : PyProof.Rows.sortedS ss = true) (h : ∀ x ∈ als ss ss.length, x ≤ 0) : NoAg ups lab := fun z pz c => by
  rw [cnt_perm hp] at c
  obtain ⟨j, h1, h2, p1, p2⟩ := two_near hs c
  have le := le_alk h1 p1 p2
  have := h (alk ss j) (List.mem_map.mpr ⟨j, List.mem_range.mpr h2, rfl⟩)
  have : z.length = 0 := by omega
  exact (prf_iff.mp pz).1 (by have := cps_len z; exact List.eq_nil_of_length_eq_zero (by omega))
theorem ag_of {ss : List Str} (hp : ss.Perm (wordsS ups lab)) (hs : PyProof.Rows.sortedS ss = true) {m : Nat} (hm : 1 ≤ m) (mem : (m : Int) ∈ als ss ss.length) (mx : ∀ x ∈ als ss ss.length, x ≤ (m : Int)) :
    AgZ ups lab (mk ((ss.getD ((als ss ss.length).idxOf (m : Int)) Str.empty).cps.toList.take m)) := by
  have hl : (als ss ss.length).idxOf (m : Int) < ss.length := by
    have := List.idxOf_lt_length_of_mem mem
    simpa [als] using this
  have at' : alk ss ((als ss ss.length).idxOf (m : Int)) = m := by
    have h0 := List.getElem_idxOf (List.idxOf_lt_length_of_mem mem)
    unfold als at h0
    rw [List.getElem_map, List.getElem_range] at h0
    exact h0
  have first : ∀ j, j < (als ss ss.length).idxOf (m : Int) → alk ss j ≠ m := fun j hj e => by
    have := List.not_of_lt_findIdx (p := (· == (m : Int))) (xs := als ss ss.length) hj
    have e2 : ((als ss ss.length)[j]'(by have := List.findIdx_le_length (p := (· == (m : Int))) (xs := als ss ss.length); have : j < (als ss ss.length).findIdx (· == (m : Int)) := hj; omega) == (m : Int)) = true := by
      unfold als
      rw [List.getElem_map, List.getElem_range]
      simpa using e
    rw [e2] at this
    cases this
  generalize (als ss ss.length).idxOf (m : Int) = i at hl at' first
  have g : ∀ i (hi : i < ss.length), ss.getD i Str.empty = ss[i] := fun i hi => by rw [List.getD_eq_getElem?_getD, List.getElem?_eq_getElem hi]; rfl
  have i1 : 1 ≤ i := by
    rcases Nat.eq_zero_or_pos i with e | e
    · subst e; unfold alk at at'; rw [if_pos rfl] at at'; omega
    · exact e
  have lc : W16.lcp (ss.getD (i - 1) Str.empty).cps.toList (ss.getD i Str.empty).cps.toList = m := by
    unfold alk at at'
    rw [if_neg (by omega)] at at'
    omega
  obtain ⟨le1, le2⟩ := W16.lcp_le (ss.getD (i - 1) Str.empty).cps.toList (ss.getD i Str.empty).cps.toList
  rw [lc] at le1 le2
  have p0 : (ss.getD (i - 1) Str.empty).cps.toList.take m <+: (ss.getD i Str.empty).cps.toList := (W16.take_pre _ _ m le1).mpr (by omega)
  have e0 : (ss.getD (i - 1) Str.empty).cps.toList.take m = (ss.getD i Str.empty).cps.toList.take m := by
    have := List.prefix_iff_eq_take.mp p0
    rw [List.length_take, Nat.min_eq_left le1] at this
    exact this
  have zl : (mk ((ss.getD i Str.empty).cps.toList.take m)).length = m := by rw [mk_len, List.length_take, Nat.min_eq_left le2]
  have q1 : (mk ((ss.getD i Str.empty).cps.toList.take m)).cps.toList <+: ss[i - 1].cps.toList := by
    rw [mk_cps, ← e0, ← g (i - 1) (by omega)]; exact List.take_prefix _ _
  have q2 : (mk ((ss.getD i Str.empty).cps.toList.take m)).cps.toList <+: ss[i].cps.toList := by
    rw [mk_cps, ← g i hl]; exact List.take_prefix _ _
  refine ⟨prf_iff.mpr ⟨fun e => ?_, ss[i], hp.mem_iff.mp (List.getElem_mem hl), q2⟩, ?_, fun y py cy => ?_⟩
  · have := cps_len (mk ((ss.getD i Str.empty).cps.toList.take m))
    rw [e, zl] at this; simp at this; omega
  · rw [cnt_perm hp]
    refine two_count ss (i - 1) i (by omega) hl ?_ ?_
    · rw [g (i - 1) (by omega)]; exact List.isPrefixOf_iff_prefix.mpr q1
    · refine List.isPrefixOf_iff_prefix.mpr ?_
      have := q2
      rw [← g i hl] at this
      exact this
  · rw [cnt_perm hp] at cy
    obtain ⟨j, h1, h2, p1, p2⟩ := two_near hs cy
    have le := le_alk h1 p1 p2
    have le' := mx (alk ss j) (List.mem_map.mpr ⟨j, List.mem_range.mpr h2, rfl⟩)
    refine ⟨by rw [zl]; omega, fun e lt => ?_⟩
    rw [zl] at e
    have ej : alk ss j = m := by omega
    have ij : i ≤ j := by
      rcases Nat.lt_or_ge j i with q | q
      · exact absurd ej (first j q)
      · exact q
    have ey : y.cps.toList = (ss[j].cps.toList).take m := by
      rw [g j h2] at p2
      have := List.prefix_iff_eq_take.mp p2
      rw [cps_len, e] at this
      exact this
    rw [mk_cps, g i hl, ey] at lt
    rcases Nat.eq_or_lt_of_le ij with q | q
    · subst q; exact absurd lt (List.lt_irrefl _)
    · exact absurd (take_lt m lt) (List.pairwise_iff_getElem.mp (sorted_pair ss hs) i j hl h2 q)
where
  take_lt : ∀ (m : Nat) {x y : List Nat}, x.take m < y.take m → x < y
    | 0, x, y, h => by simp at h
    | m + 1, [], y, h => by
      cases y with
      | nil => simp at h
      | cons b y => exact List.nil_lt_cons b y
    | m + 1, a :: x, [], h => by simp at h
    | m + 1, a :: x, b :: y, h => by
      rw [List.take_succ_cons, List.take_succ_cons, List.cons_lt_cons_iff] at h
      rw [List.cons_lt_cons_iff]
      rcases h with h | ⟨h1, h2⟩
      · exact .inl h
      · exact .inr ⟨h1, take_lt m h2⟩
end
end S21


set_option Elab.async false
set_option linter.all false
set_option maxRecDepth 100000
set_option maxHeartbeats 8000000
namespace S21
open PySem L2 W7
section
variable {P : Program} {w : World} {K : PySem.W.Frag} {mg : Str → Option Value} {base : Heap} {k : Nat}
/-! ### _law_same, of lists of pairs -/
def S1 (x y : V) : Prop := x = y ∧ ((∃ i, x = .int i) ∨ ∃ z, x = .str z)
def Up (S : Hp → V → V → Prop) (H : Hp) (x y : V) : Prop := S1 x y ∨ ∃ (p q : Addr) (xs ys : List V), x = .ref p ∧ y = .ref q ∧ xs.length = ys.length ∧ xs.length < 10000 ∧ ((H p = some (.lst xs) ∧ H q = some (.lst ys)) ∨ (H p = some (.tup xs) ∧ H q = some (.tup ys))) ∧ ∀ (i : Nat) a b, xs[i]? = some a → ys[i]? = some b → S H a b
def Mon (S : Hp → V → V → Prop) : Prop := ∀ H H' x y, Same H H' → S H x y → S H' x y
def S0 : Hp → V → V → Prop := fun _ _ _ => False
theorem mon0 : Mon S0 := fun _ _ _ _ _ h => h
theorem Mon.up {S : Hp → V → V → Prop} (m : Mon S) : Mon (Up S) := fun H H' x y s h => by
  rcases h with h | ⟨p, q, xs, ys, e1, e2, l1, l2, a, al⟩
  · exact .inl h
  · refine .inr ⟨p, q, xs, ys, e1, e2, l1, l2, ?_, fun i a b ha hb => m _ _ _ _ s (al i a b ha hb)⟩
    rcases a with ⟨a, b⟩ | ⟨a, b⟩
    · exact .inl ⟨s _ _ a, s _ _ b⟩
    · exact .inr ⟨s _ _ a, s _ _ b⟩
def sp_sm (S : Hp → V → V → Prop) : Sp := fun vs H Q _ => ∃ x y : V, vs = [x, y] ∧ S H x y ∧ ∀ H' : Hp, Same H H' → Q (.bl true) H'
theorem has_sm0 (D : Df K mg "_law_same" s_law_same) : Has P w K mg base "_law_same" (k + 1) ["found", "due"] (sp_sm S0) := by
  refine D.has sc_law_same (fun _ _ _ _ _ _ us hl => match us, hl with | [_, _], _ => rfl) (fun vs H Q E h => by obtain ⟨x, y, rfl, _⟩ := h; rfl) (fun f cdv A outer s H vs Q E hr h => ?_)
  obtain ⟨x, y, _, h, _⟩ := h
  exact h.elim
theorem has_sm {S : Hp → V → V → Prop} (m : Mon S) (D : Df K mg "_law_same" s_law_same) (B : Blt7 mg) (G_law_same : Has P w K mg base "_law_same" k ["found", "due"] (sp_sm S)) : Has P w K mg base "_law_same" (k + 1) ["found", "due"] (sp_sm (Up S)) := by
  refine D.has sc_law_same (fun _ _ _ _ _ _ us hl => match us, hl with | [_, _], _ => rfl) (fun vs H Q E h => by obtain ⟨x, y, rfl, _⟩ := h; rfl) (fun f cdv A outer s H vs Q E hr h => ?_)
  obtain ⟨x, y, rfl, h, q⟩ := h
  refine ⟨_, (pss_cons (ps_if (pt_val (pe_callB (call_isinstT K) rfl B.isinstance bt_isinstance (pa_cons (pv 1) (pa_cons (pe_tup (pa_cons (pe_bltn (v := .ty "list") rfl B.list_ bt_list rfl) (pa_cons (pe_bltn (v := .ty "tuple") rfl B.tuple_ bt_tuple rfl) pa_nil))) pa_nil))))
  (pss_cons (ps_if (PW.pt (pw_or (pt_not (pt_val (pe_callB (call_isinstT K) rfl B.isinstance bt_isinstance (pa_cons (pv 0) (pa_cons (pe_tup (pa_cons (pe_bltn (v := .ty "list") rfl B.list_ bt_list rfl) (pa_cons (pe_bltn (v := .ty "tuple") rfl B.tuple_ bt_tuple rfl) pa_nil))) pa_nil))))) (pw_or1 (pt_cmpR op_ne (pe_callB call_isinst rfl B.isinstance bt_isinstance (pa_cons (pv 0) (pa_cons (pe_bltn (v := .ty "list") rfl B.list_ bt_list rfl) pa_nil))) (pe_callB call_isinst rfl B.isinstance bt_isinstance (pa_cons (pv 1) (pa_cons (pe_bltn (v := .ty "list") rfl B.list_ bt_list rfl) pa_nil))) (nomark _)))))
  (pss_one (ps_ret pe_bl))
  pss_nil)
  (pss_cons (ps_if (pt_cmpR op_ne (pe_callB call_len_seq rfl B.len bt_len (pa_cons (pv 0) pa_nil)) (pe_callB call_len_seq rfl B.len bt_len (pa_cons (pv 1) pa_nil)) (nomark _))
  (pss_one (ps_ret pe_bl))
  pss_nil)
  (pss_one (ps_ret (pe_callB (call_all rfl) rfl B.all bt_all (pa_cons (pe_comp rfl (pi_zip rfl B.zip (pa_cons (pv 0) (pa_cons (pv 1) pa_nil))) (NL := ["one", "other"]) (ix := []) (csc (defScope s_law_same) N_law_same) (fun cl C s₃ H₃ fp pins => ⟨(pg_tupK K (n := 2) rfl (pgs_cons (pg_name (i := 0) (show List.Nodup (["one", "other"] : List Str) from by decide +kernel) rfl (by first | exact Or.inl rfl | exact Or.inr rfl)) (pgs_cons (pg_name (i := 1) (show List.Nodup (["one", "other"] : List Str) from by decide +kernel) rfl (by first | exact Or.inl rfl | exact Or.inr rfl)) pgs_nil))), pifs_nil, (pe_callH G_law_same hr rfl (pa_cons (pv 0) (pa_cons (pv 1) pa_nil)))⟩)) pa_nil))))))
  pss_nil)
  (pss_cons (ps_if (PW.pt (pw_or (pt_cmpR op_ne (pe_callB call_isinst rfl B.isinstance bt_isinstance (pa_cons (pv 0) (pa_cons (pe_bltn (v := .ty "bool") rfl B.bool_ bt_bool rfl) pa_nil))) (pe_callB call_isinst rfl B.isinstance bt_isinstance (pa_cons (pv 1) (pa_cons (pe_bltn (v := .ty "bool") rfl B.bool_ bt_bool rfl) pa_nil))) (nomark _)) (pw_or1 (pt_cmpR op_ne (pe_callB call_isinst rfl B.isinstance bt_isinstance (pa_cons (pv 0) (pa_cons (pe_bltn (v := .ty "int") rfl B.int_ bt_int rfl) pa_nil))) (pe_callB call_isinst rfl B.isinstance bt_isinstance (pa_cons (pv 1) (pa_cons (pe_bltn (v := .ty "int") rfl B.int_ bt_int rfl) pa_nil))) (nomark _)))))
  (pss_one (ps_ret pe_bl))
  pss_nil)
  (pss_one (ps_ret (pe_and (pe_cmpR op_eq (pe_callB call_isinst rfl B.isinstance bt_isinstance (pa_cons (pv 0) (pa_cons (pe_bltn (v := .ty "str") rfl B.str_ bt_str rfl) pa_nil))) (pe_callB call_isinst rfl B.isinstance bt_isinstance (pa_cons (pv 1) (pa_cons (pe_bltn (v := .ty "str") rfl B.str_ bt_str rfl) pa_nil))) (nomark _)) (pe_one (pe_cmpR op_eq (pv 0) (pv 1) (nomark _)))))))), ?_⟩
  refine ⟨_, rfl, (by show 2 ≤ sizeLine; decide), fun c hc => ?_⟩
  have s1 : Same H (upd H c (.tup [.ty "list", .ty "tuple"])) := (Same.refl H).new hc
  have h1 : upd H c (.tup [.ty "list", .ty "tuple"]) c = some (.tup [.ty "list", .ty "tuple"]) := upd_same
  generalize upd H c (.tup [.ty "list", .ty "tuple"]) = H1 at s1 h1
  rcases h with ⟨rfl, ⟨i, rfl⟩ | ⟨z, rfl⟩⟩ | ⟨p, p', xs, ys, rfl, rfl, l1, l2, hab, al⟩
  · have q := q H1 s1
    refine ⟨_, _, c, ["list", "tuple"], false, rfl, h1, .int _, rfl, _, rfl, iteF ?_⟩
    refine ⟨_, rfl, _, .type "int", "bool", false, rfl, .int _, kit_int_bool _, _, rfl, _, .type "int", "bool", false, rfl, .int _, kit_int_bool _, rfl, _, rfl, ?_⟩
    rw [decide_eq_true rfl]
    refine iteF ?_
    refine ⟨_, rfl, _, .type "int", "int", true, rfl, .int _, kit_same _ _, _, rfl, _, .type "int", "int", true, rfl, .int _, kit_same _ _, rfl, _, rfl, ?_⟩
    rw [decide_eq_true rfl]
    refine iteF ?_
    refine ⟨_, rfl, _, .type "int", "str", false, rfl, .int _, rfl, _, rfl, _, .type "int", "str", false, rfl, .int _, rfl, rfl, _, rfl, ?_⟩
    rw [decide_eq_true rfl]
    refine iteT ?_
    refine ⟨_, rfl, _, rfl, rfl, ?_⟩
    rw [decide_eq_true rfl]; exact q
  · have q := q H1 s1
    refine ⟨_, _, c, ["list", "tuple"], false, rfl, h1, .str _, rfl, _, rfl, iteF ?_⟩
    refine ⟨_, rfl, _, .type "str", "bool", false, rfl, .str _, rfl, _, rfl, _, .type "str", "bool", false, rfl, .str _, rfl, rfl, _, rfl, ?_⟩
    rw [decide_eq_true rfl]
    refine iteF ?_
    refine ⟨_, rfl, _, .type "str", "int", false, rfl, .str _, rfl, _, rfl, _, .type "str", "int", false, rfl, .str _, rfl, rfl, _, rfl, ?_⟩
    rw [decide_eq_true rfl]
    refine iteF ?_
    refine ⟨_, rfl, _, .type "str", "str", true, rfl, .str _, kit_same _ _, _, rfl, _, .type "str", "str", true, rfl, .str _, kit_same _ _, rfl, _, rfl, ?_⟩
    rw [decide_eq_true rfl]
    refine iteT ?_
    refine ⟨_, rfl, _, rfl, rfl, ?_⟩
    rw [decide_eq_true rfl]; exact q
  · rcases hab with ⟨ha, hb⟩ | ⟨ha, hb⟩
    · have ha := s1 _ _ ha
      have hb := s1 _ _ hb
      refine ⟨_, _, c, ["list", "tuple"], true, rfl, h1, .lst hb, rfl, _, rfl, iteT ?_⟩
      refine ⟨_, rfl, (by show 2 ≤ sizeLine; decide), fun c2 hc2 => ?_⟩
      have s2 : Same H1 (upd H1 c2 (.tup [.ty "list", .ty "tuple"])) := (Same.refl H1).new hc2
      have h2 : upd H1 c2 (.tup [.ty "list", .ty "tuple"]) c2 = some (.tup [.ty "list", .ty "tuple"]) := upd_same
      generalize upd H1 c2 (.tup [.ty "list", .ty "tuple"]) = H2 at s2 h2
      have ha := s2 _ _ ha
      have hb := s2 _ _ hb
      have s02 := s1.trans s2
      refine ⟨_, _, c2, ["list", "tuple"], true, rfl, h2, .lst ha, rfl, _, rfl, iteF ?_⟩
      refine ⟨_, rfl, _, .type "list", "list", _, rfl, .lst ha, rfl, _, rfl, _, .type "list", "list", _, rfl, .lst hb, rfl, rfl, _, rfl, ?_⟩
      rw [decide_eq_true rfl]
      refine iteF ?_
      refine ⟨_, rfl, p, _, rfl, .inl (SqL.of ha), _, rfl, p', _, rfl, .inl (SqL.of hb), rfl, _, rfl, ?_⟩
      rw [decide_eq_true (by rw [l1])]
      refine iteF ?_
      refine ⟨_, rfl, _, rfl, .lst p, .lst p', rfl, ⟨_, .inl ha⟩, ⟨_, .inl hb⟩, fun acc hacc => ?_⟩
      refine comp_zipB (xs := xs) (zs := ys) l2 l1 (fun i zs H3 => H3 acc = some (.lst zs) ∧ zs = (List.replicate i true).map V.bl ∧ Same H2 H3)
        (fun i zs H3 h => ⟨.inl (h.2.2 _ _ ha), .inl (h.2.2 _ _ hb)⟩) (fun i zs H3 h => ⟨h.1, by rw [h.2.1, List.length_map, List.length_replicate]; exact Nat.le_refl _⟩) ⟨upd_same, rfl, (Same.refl H2).new hacc⟩ ?_ ?_
      · rintro zs H3 ⟨g1, rfl, g3⟩
        refine ⟨acc, _, rfl, SqL.of g1, ?_⟩
        have e : (List.replicate xs.length true).all id = true := by simp
        rw [e]; exact q H3 (s02.trans g3)
      · rintro i x z zs H3 r hx hz ⟨g1, rfl, g3⟩ hr2
        have sX : Same H2 (upd H3 r (.tup [x, z])) := g3.new hr2
        have g1' : upd H3 r (.tup [x, z]) acc = some (.lst ((List.replicate i true).map V.bl)) := by rw [upd_ne (ne_of_none g1 hr2)]; exact g1
        refine ⟨r, _, rfl, SqT.of upd_same, rfl, _, _, rfl, _, _, rfl, rfl, rfl, ?_⟩
        refine ⟨_, rfl, _, rfl, x, z, rfl, m _ _ _ _ (s02.trans sX) (al i x z hx hz), fun H4 s4 => ⟨s4 _ _ g1', upd_same, ?_, (sX.trans s4).write hacc⟩⟩
        rw [List.replicate_succ', List.map_append]; rfl
    · have ha := s1 _ _ ha
      have hb := s1 _ _ hb
      refine ⟨_, _, c, ["list", "tuple"], true, rfl, h1, .tup hb, rfl, _, rfl, iteT ?_⟩
      refine ⟨_, rfl, (by show 2 ≤ sizeLine; decide), fun c2 hc2 => ?_⟩
      have s2 : Same H1 (upd H1 c2 (.tup [.ty "list", .ty "tuple"])) := (Same.refl H1).new hc2
      have h2 : upd H1 c2 (.tup [.ty "list", .ty "tuple"]) c2 = some (.tup [.ty "list", .ty "tuple"]) := upd_same
      generalize upd H1 c2 (.tup [.ty "list", .ty "tuple"]) = H2 at s2 h2
      have ha := s2 _ _ ha
      have hb := s2 _ _ hb
      have s02 := s1.trans s2
      refine ⟨_, _, c2, ["list", "tuple"], true, rfl, h2, .tup ha, rfl, _, rfl, iteF ?_⟩
      refine ⟨_, rfl, _, .type "tuple", "list", _, rfl, .tup ha, rfl, _, rfl, _, .type "tuple", "list", _, rfl, .tup hb, rfl, rfl, _, rfl, ?_⟩
      rw [decide_eq_true rfl]
      refine iteF ?_
      refine ⟨_, rfl, p, _, rfl, .inr (SqT.of ha), _, rfl, p', _, rfl, .inr (SqT.of hb), rfl, _, rfl, ?_⟩
      rw [decide_eq_true (by rw [l1])]
      refine iteF ?_
      refine ⟨_, rfl, _, rfl, .tup p, .tup p', rfl, ⟨_, .inl ha⟩, ⟨_, .inl hb⟩, fun acc hacc => ?_⟩
      refine comp_zipB (xs := xs) (zs := ys) l2 l1 (fun i zs H3 => H3 acc = some (.lst zs) ∧ zs = (List.replicate i true).map V.bl ∧ Same H2 H3)
        (fun i zs H3 h => ⟨.inl (h.2.2 _ _ ha), .inl (h.2.2 _ _ hb)⟩) (fun i zs H3 h => ⟨h.1, by rw [h.2.1, List.length_map, List.length_replicate]; exact Nat.le_refl _⟩) ⟨upd_same, rfl, (Same.refl H2).new hacc⟩ ?_ ?_
      · rintro zs H3 ⟨g1, rfl, g3⟩
        refine ⟨acc, _, rfl, SqL.of g1, ?_⟩
        have e : (List.replicate xs.length true).all id = true := by simp
        rw [e]; exact q H3 (s02.trans g3)
      · rintro i x z zs H3 r hx hz ⟨g1, rfl, g3⟩ hr2
        have sX : Same H2 (upd H3 r (.tup [x, z])) := g3.new hr2
        have g1' : upd H3 r (.tup [x, z]) acc = some (.lst ((List.replicate i true).map V.bl)) := by rw [upd_ne (ne_of_none g1 hr2)]; exact g1
        refine ⟨r, _, rfl, SqT.of upd_same, rfl, _, _, rfl, _, _, rfl, rfl, rfl, ?_⟩
        refine ⟨_, rfl, _, rfl, x, z, rfl, m _ _ _ _ (s02.trans sX) (al i x z hx hz), fun H4 s4 => ⟨s4 _ _ g1', upd_same, ?_, (sX.trans s4).write hacc⟩⟩
        rw [List.replicate_succ', List.map_append]; rfl
theorem strs_get {ss : List Str} {i : Nat} {x : V} (h : (ss.map V.str)[i]? = some x) : ∃ z, ss[i]? = some z ∧ x = .str z := by
  rw [List.getElem?_map] at h
  cases e : ss[i]? with
  | none => rw [e] at h; cases h
  | some z => rw [e] at h; exact ⟨z, rfl, (Option.some.inj h).symm⟩
/-! ### lists of pairs -/
def TupV (H : Hp) (vs : List V) (ps : List (V × V)) : Prop := vs.length = ps.length ∧ ∀ (i : Nat) v p, vs[i]? = some v → ps[i]? = some p → ∃ a, v = .ref a ∧ H a = some (.tup [p.1, p.2])
theorem TupV.nil (H : Hp) : TupV H [] [] := ⟨rfl, fun i v p e => by simp at e⟩
theorem TupV.same {H H' : Hp} {vs : List V} {ps : List (V × V)} (h : TupV H vs ps) (s : Same H H') : TupV H' vs ps := ⟨h.1, fun i v p a b => let ⟨x, e1, e2⟩ := h.2 i v p a b; ⟨x, e1, s _ _ e2⟩⟩
theorem TupV.snoc {H : Hp} {vs : List V} {ps : List (V × V)} {a : Addr} {p : V × V} (h : TupV H vs ps) (e : H a = some (.tup [p.1, p.2])) : TupV H (vs ++ [.ref a]) (ps ++ [p]) := by
  refine ⟨by rw [List.length_append, List.length_append, h.1]; rfl, fun i v q hv hq => ?_⟩
  rcases Nat.lt_or_ge i vs.length with l | l
  · rw [List.getElem?_append_left l] at hv
    rw [List.getElem?_append_left (by rw [← h.1]; exact l)] at hq
    exact h.2 i v q hv hq
  · rw [List.getElem?_append_right l] at hv
    rw [List.getElem?_append_right (by rw [← h.1]; exact l), ← h.1] at hq
    rcases Nat.eq_zero_or_pos (i - vs.length) with z | z
    · rw [z] at hv hq
      cases hv; cases hq
      exact ⟨a, rfl, e⟩
    · rw [List.getElem?_eq_none (by simp; omega)] at hv
      cases hv
end
end S21


set_option Elab.async false
set_option linter.all false
set_option maxRecDepth 100000
set_option maxHeartbeats 8000000
namespace S21
open PySem L2 W7
section
variable {P : Program} {w : World} {K : PySem.W.Frag} {mg : Str → Option Value} {base : Heap} {k : Nat}
/-! ### places_of -/
def sp_places : Sp := fun vs H Q _ => ∃ (t : Addr) (ups : List Int) (lab word : Str), vs = [.ref t, .str word] ∧ TreeAt H t ups lab ∧
  ∀ (r : Addr) (H' : Hp), Same H H' → H r = none → H' r = some (.lst ((plc ups lab ups.length word).map V.int)) → Q (.ref r) H'
theorem has_places (D : Df K mg "places_of" s_places_of) (B : Blt7 mg) (G_words_of : Has P w K mg base "words_of" k ["tree"] sp_words) : Has P w K mg base "places_of" (k + 1) ["tree", "word"] sp_places := by
  refine D.has sc_places_of (fun _ _ _ _ _ _ us hl => match us, hl with | [_, _], _ => rfl) (fun vs H Q E h => by obtain ⟨t, ups, lab, word, rfl, _⟩ := h; rfl) (fun f cdv A outer s H vs Q E hr h => ?_)
  obtain ⟨t, ups, lab, word, rfl, tr, q⟩ := h
  refine ⟨_, (pss_one (ps_ret (pe_comp rfl (pi_enum rfl B.enumerate (pa_cons (pe_callH G_words_of hr rfl (pa_cons (pv 0) pa_nil)) pa_nil)) (NL := ["place", "other"]) (ix := [1]) (csc (defScope s_places_of) N_places_of) (fun cl C s₃ H₃ fp pins => ⟨(pg_tupK K (n := 2) rfl (pgs_cons (pg_name (i := 0) (show List.Nodup (["place", "other", "word"] : List Str) from by decide +kernel) rfl (by first | exact Or.inl rfl | exact Or.inr rfl)) (pgs_cons (pg_name (i := 1) (show List.Nodup (["place", "other", "word"] : List Str) from by decide +kernel) rfl (by first | exact Or.inl rfl | exact Or.inr rfl)) pgs_nil))), (pifs_startsK K (pv 1) (pv 2)), (pv 0)⟩)))), ?_⟩
  obtain ⟨_, _, _, ok⟩ := id tr
  have m60 := ok.most
  have wl := wordsS_len ups lab
  refine ⟨_, rfl, t, ups, lab, rfl, tr, fun r H1 s1 hr1 => ?_⟩
  rw [wordsV_eq] at hr1
  refine ⟨.lst r, rfl, ⟨_, .inl hr1⟩, fun acc hacc => ?_⟩
  have hH : H acc = none := s1.free hacc
  refine comp_enum (xs := (wordsS ups lab).map V.str) (by rw [List.length_map]; omega) (fun i ys H2 => H2 acc = some (.lst ys) ∧ ys = (plc ups lab i word).map V.int ∧ Same H1 H2)
    (fun i ys H2 h => .inl (h.2.2 _ _ hr1)) (fun i ys H2 h => ⟨h.1, by rw [h.2.1, List.length_map]; exact plc_len _ _ _ _⟩) ⟨upd_same, rfl, (Same.refl H1).new hacc⟩ ?_ ?_
  · rintro ys H2 ⟨g1, rfl, g3⟩
    refine q acc H2 (s1.trans g3) hH ?_
    rw [g1, List.length_map, wl]
  · rintro i x ys H2 p hx ⟨g1, rfl, g3⟩ hp
    obtain ⟨z, hz, rfl⟩ := strs_get hx
    have il : i < ups.length := by rw [← wl]; exact (List.getElem?_eq_some_iff.mp hz).1
    have ez : z = mk (W ups lab.cps.toList i) := by
      unfold wordsS at hz
      rw [List.getElem?_map, List.getElem?_range il] at hz
      cases hz; rfl
    have ga : upd H2 p (.tup [.int i, .str z]) acc = some (.lst ((plc ups lab i word).map V.int)) := by rw [upd_ne (ne_of_none g1 hp)]; exact g1
    have gs : Same H1 (upd H2 p (.tup [.int i, .str z])) := g3.new hp
    refine ⟨p, _, rfl, SqT.of upd_same, rfl, _, _, rfl, _, _, rfl, rfl, rfl, _, rfl, rfl, _, rfl, _, _, rfl, rfl, _, rfl, ite2 (fun cnd => ?_) (fun cnd => ?_)⟩
    · have pz := (W16.starts_iff z word).mp cnd
      rw [ez, mk_cps] at pz
      exact ⟨_, rfl, ga, upd_same, by rw [plc_succ, if_pos pz, List.map_append]; rfl, gs.write hacc⟩
    · have pz : ¬ word.cps.toList <+: W ups lab.cps.toList i := fun c => cnd ((W16.starts_iff z word).mpr (by rw [ez, mk_cps]; exact c))
      exact ⟨ga, by rw [plc_succ, if_neg pz, List.append_nil], gs⟩
/-! ### longest_again -/
def AgAt (H : Hp) (r l : Addr) (ups : List Int) (lab : Str) : Prop := (NoAg ups lab ∧ H r = some (.tup [.str Str.empty, .ref l]) ∧ H l = some (.lst [])) ∨ ∃ z, AgZ ups lab z ∧ H r = some (.tup [.str z, .ref l]) ∧ H l = some (.lst ((plc ups lab ups.length z).map V.int))
def sp_lag : Sp := fun vs H Q _ => ∃ (t : Addr) (ups : List Int) (lab : Str), vs = [.ref t] ∧ TreeAt H t ups lab ∧
  ∀ (r l : Addr) (H' : Hp), Same H H' → H l = none → AgAt H' r l ups lab → Q (.ref r) H'
theorem has_lag (D : Df K mg "longest_again" s_longest_again) (B : Blt7 mg) (G_words_of : Has P w K mg base "words_of" k ["tree"] sp_words) (G_alike_of : Has P w K mg base "alike_of" k ["tree"] sp_alikes) (G_places_of : Has P w K mg base "places_of" k ["tree", "word"] sp_places) : Has P w K mg base "longest_again" (k + 1) ["tree"] sp_lag := by
  refine D.has sc_longest_again (fun _ _ _ _ _ _ us hl => match us, hl with | [_], _ => rfl) (fun vs H Q E h => by obtain ⟨t, ups, lab, rfl, _⟩ := h; rfl) (fun f cdv A outer s H vs Q E hr h => ?_)
  obtain ⟨t, ups, lab, rfl, tr, q⟩ := h
  refine ⟨_, (pss_cons (ps_set (i := 1) sc_longest_again.nd rfl (by first | exact Or.inl rfl | exact Or.inr rfl) (pe_callH G_alike_of hr rfl (pa_cons (pv 0) pa_nil)))
  (pss_cons (ps_set (i := 2) sc_longest_again.nd rfl (by first | exact Or.inl rfl | exact Or.inr rfl) (pe_callB (call_max1 rfl) rfl B.max bt_max (pa_cons (pv 1) pa_nil)))
  (pss_cons (ps_if (pt_cmpR op_eq (pv 2) pe_int (nomark _))
  (pss_one (ps_ret (pe_tup (pa_cons pe_str (pa_cons (pe_lst pa_nil) pa_nil)))))
  pss_nil)
  (pss_cons (ps_set (i := 3) sc_longest_again.nd rfl (by first | exact Or.inl rfl | exact Or.inr rfl) (pe_slice sl_str (pe_ix ix_list (pe_callB call_sorted_strs rfl B.sorted bt_sorted (pa_cons (pe_callH G_words_of hr rfl (pa_cons (pv 0) pa_nil)) pa_nil)) (pe_indexI K (pv 1) (pv 2)) (fun _ _ => rfl)) po_none (po_some (pv 2))))
  (pss_one (ps_ret (pe_tup (pa_cons (pv 3) (pa_cons (pe_callH G_places_of hr rfl (pa_cons (pv 0) (pa_cons (pv 3) pa_nil))) pa_nil))))))))), ?_⟩
  obtain ⟨_, _, _, ok⟩ := id tr
  have m60 := ok.most
  have lpos := ok.pos
  have wl := wordsS_len ups lab
  have wle := wordsS_le ok
  refine ⟨_, rfl, t, ups, lab, rfl, tr, fun ss r1 H1 hp hs s1 hf1 hr1 => ?_⟩
  have sl := hp.length_eq
  have al : (als ss ss.length).length = ss.length := by simp [als]
  refine ⟨_, rfl, r1, als ss ss.length, rfl, SqL.of hr1, fun e => by rw [e] at al; simp at al; omega, fun m hm mx => ?_⟩
  have m0 : 0 ≤ m := by
    obtain ⟨j, hj, e⟩ := List.mem_map.mp hm
    rw [← e]; unfold alk; split <;> omega
  refine ⟨_, rfl, rfl, _, rfl, ite2 (fun c => ?_) (fun c => ?_)⟩
  · have c' : m = 0 := by have := of_decide_eq_true c; injection this
    subst c'
    refine ⟨Nat.zero_le _, fun l hl => ⟨(by show 2 ≤ sizeLine; decide), fun r hr => ?_⟩⟩
    exact q r l _ ((s1.new hl).new hr) (s1.free hl) (.inl ⟨noag_of hp hs mx, upd_same, by rw [upd_ne (ne_of_none upd_same hr)]; exact upd_same⟩)
  · have c' : m ≠ 0 := fun e => c (by rw [e]; exact decide_eq_true rfl)
    obtain ⟨mm, rfl⟩ : ∃ n : Nat, m = (n : Int) := ⟨m.toNat, by omega⟩
    refine ⟨_, rfl, t, ups, lab, rfl, tr.same s1, fun q2 H2 s2 hq2 => ?_⟩
    rw [wordsV_eq] at hq2
    refine ⟨q2, _, rfl, SqL.of hq2, by omega, fun ss2 r2 hp2 hs2 hr2 => ?_⟩
    have e2 : ss2 = ss := sorted_one hs2 hs (hp2.trans hp.symm)
    subst e2
    have s3 : Same H2 (upd H2 r2 (.lst (ss2.map V.str))) := (Same.refl H2).new hr2
    have h3 : upd H2 r2 (.lst (ss2.map V.str)) r2 = some (.lst (ss2.map V.str)) := upd_same
    generalize upd H2 r2 (.lst (ss2.map V.str)) = H3 at s3 h3
    have hr3 := s3 _ _ (s2 _ _ hr1)
    have il : (als ss2 ss2.length).idxOf (mm : Int) < ss2.length := by have := List.idxOf_lt_length_of_mem hm; omega
    refine ⟨_, rfl, .inl ⟨rfl, _, SqL.of hr3⟩, _, rfl, r1, als ss2 ss2.length, _, rfl, rfl, hr3, hm, by omega, ?_⟩
    have ag := ag_of hp hs (show 1 ≤ mm by omega) hm mx
    have zb : (ss2.getD ((als ss2 ss2.length).idxOf (mm : Int)) Str.empty).length ≤ 60 := by
      rw [List.getD_eq_getElem?_getD, List.getElem?_eq_getElem il]
      exact wle _ (hp.mem_iff.mp (List.getElem_mem il))
    refine ⟨r2, _, _, _, rfl, rfl, SqL.of h3, strs_at il, _, rfl, _, rfl, _, rfl, Nat.le_of_lt (small1000 (by omega)), ?_⟩
    have ec : cutS (ss2.getD ((als ss2 ss2.length).idxOf (mm : Int)) Str.empty) none (some (mm : Int)) = mk ((ss2.getD ((als ss2 ss2.length).idxOf (mm : Int)) Str.empty).cps.toList.take mm) := str_ext (cutS_to _ mm)
    rw [ec]
    generalize mk ((ss2.getD ((als ss2 ss2.length).idxOf (mm : Int)) Str.empty).cps.toList.take mm) = z at ag
    have s03 := (s1.trans s2).trans s3
    refine ⟨_, rfl, _, rfl, _, rfl, t, ups, lab, z, rfl, tr.same s03, fun l H4 s4 hl hl4 => ?_⟩
    refine ⟨(by show 2 ≤ sizeLine; decide), fun r hr => ?_⟩
    exact q r l _ ((s03.trans s4).new hr) (s03.free hl) (.inr ⟨z, ag, upd_same, by rw [upd_ne (ne_of_none hl4 hr)]; exact hl4⟩)
end
end S21


set_option Elab.async false
set_option linter.all false
set_option maxRecDepth 100000
set_option maxHeartbeats 8000000
namespace S21
open PySem L2 W7
section
variable {P : Program} {w : World} {K : PySem.W.Frag} {mg : Str → Option Value} {base : Heap} {k : Nat}
/-! ### most_read -/
abbrev lpM : Pos := ⟨24, 31, 24, 76⟩
abbrev qM : Str := (("most_read" : Str) ++ ".<locals>.") ++ "<lambda>"
def begI (L : Int) (ws : List Str) : List Str := (ws.filter fun w => decide (L ≤ (w.length : Int))).map fun w => cutS w none (some L)
theorem begI_nat (ups : List Int) (lab : Str) (l : Nat) : begI (l : Int) (wordsS ups lab) = begs ups lab l := by
  unfold begI begs
  have e : ((wordsS ups lab).filter fun w => decide ((l : Int) ≤ (w.length : Int))) = (wordsS ups lab).filter fun w => decide (l ≤ w.length) := by
    refine List.filter_congr fun w _ => ?_
    simp
  rw [e]
  refine List.map_congr_left fun w _ => str_ext (cutS_to w l)
theorem begI_snoc (L : Int) (ws : List Str) (z : Str) : begI L (ws ++ [z]) = begI L ws ++ (if L ≤ (z.length : Int) then [cutS z none (some L)] else []) := by
  unfold begI
  rw [List.filter_append, List.map_append, List.filter_cons, List.filter_nil]
  congr 1
  by_cases c : L ≤ (z.length : Int)
  · rw [if_pos c, if_pos (decide_eq_true c)]; rfl
  · rw [if_neg c, if_neg (by simpa using c)]; rfl
theorem begI_len (L : Int) (ws : List Str) : (begI L ws).length ≤ ws.length := by
  unfold begI; rw [List.length_map]; exact List.length_filter_le _ _
def MoAt (H : Hp) (v : V) (ups : List Int) (lab : Str) (L : Int) : Prop := (NoneZ ups lab L ∧ v = .non) ∨ ∃ (z : Str) (r : Addr), MostZ ups lab L z ∧ v = .ref r ∧ H r = some (.tup [.str z, .int (cnt ups lab z : Nat)])
def sp_mr (ls : List Lm) : Sp := fun vs H Q _ => ∃ (t : Addr) (ups : List Int) (lab : Str) (L : Int), vs = [.ref t, .int L] ∧ TreeAt H t ups lab ∧ Lams ls H ∧ 1 ≤ L ∧ ∀ (v : V) (H' : Hp), Kt ls H H' → MoAt H' v ups lab L → Q v H'
theorem has_mr {T : Addr} {ls : List Lm} (D : Df K mg "most_read" s_most_read) (B : Blt7 mg) (kb : K.In base) (TA : TabAt base mg "most_read" T) (LK : LmOk ls) (LI : (T, lpM, qM) ∈ ls) (G_words_of : Has P w K mg base "words_of" k ["tree"] sp_words) : Has P w K mg base "most_read" (k + 1) ["tree", "length"] (sp_mr ls) := by
  refine D.hasT kb TA sc_most_read (fun _ _ _ _ _ _ us hl => match us, hl with | [_, _], _ => rfl) (fun vs H Q E h => by obtain ⟨t, ups, lab, L, rfl, _⟩ := h; rfl) (fun f c A outer s H vs Q E CH hr h => ?_)
  have BA := TA.blt
  obtain ⟨t, ups, lab, L, rfl, tr, LL, L1, q⟩ := h
  refine ⟨_, (pss_cons (ps_set (i := 2) sc_most_read.nd rfl (by first | exact Or.inl rfl | exact Or.inr rfl) (pe_callB call_sorted_strs rfl B.sorted bt_sorted (pa_cons (pe_comp rfl (pi_list (pe_callH G_words_of hr rfl (pa_cons (pv 0) pa_nil))) (NL := ["word"]) (ix := [1]) (csc (defScope s_most_read) N_most_read) (fun cl C s₃ H₃ fp pins => ⟨(pg_name (i := 0) (show List.Nodup (["word", "length"] : List Str) from by decide +kernel) rfl (by first | exact Or.inl rfl | exact Or.inr rfl)), (pifs_one (pt_cmpR op_ge (pe_callB call_len_str rfl B.len bt_len (pa_cons (pv 0) pa_nil)) (pv 1) (nomark _))), (pe_slice sl_str (pv 0) po_none (po_some (pv 1)))⟩)) pa_nil)))
  (pss_cons (ps_if (pt_cmpR (op_eq_lst hr.units0) (pv 2) (pe_lst pa_nil) (nomark _))
  (pss_one (ps_ret pe_non))
  pss_nil)
  (pss_cons (ps_set (i := 3) sc_most_read.nd rfl (by first | exact Or.inl rfl | exact Or.inr rfl) (pe_maxLam K (x := "beginning") (ix := [2]) hr rfl rfl B.max (pv 2) rfl CH BA LK LI (csc (defScope s_most_read) N_most_read) (fun qual cl fa cd A1 s₃ H₃ pins => (pe_countS K (pv 1) (pv 0)))))
  (pss_one (ps_ret (pe_tup (pa_cons (pv 3) (pa_cons (pe_countS K (pv 2) (pv 3)) pa_nil)))))))), ?_⟩
  obtain ⟨_, _, _, ok⟩ := id tr
  have m60 := ok.most
  have wl := wordsS_len ups lab
  have wle := wordsS_le ok
  refine ⟨_, rfl, t, ups, lab, rfl, tr, fun q1 H1 s1 hq1 => ?_⟩
  rw [wordsV_eq] at hq1
  refine ⟨q1, rfl, ⟨_, SqL.of hq1⟩, fun acc hacc => ?_⟩
  refine comp_lst (xs := (wordsS ups lab).map V.str) (by rw [List.length_map]; omega) (fun i ys H2 => H2 acc = some (.lst ys) ∧ ys = (begI L ((wordsS ups lab).take i)).map V.str ∧ Same H1 H2)
    (fun i ys H2 h => SqL.of (h.2.2 _ _ hq1)) (fun i ys H2 h => ⟨h.1, by rw [h.2.1, List.length_map]; exact Nat.le_trans (begI_len _ _) (by rw [List.length_take]; omega)⟩) ⟨upd_same, rfl, (Same.refl H1).new hacc⟩ ?_ ?_
  rotate_left
  · rintro i x ys H2 hx ⟨g1, rfl, g3⟩
    obtain ⟨z, hz, rfl⟩ := strs_get hx
    have zb := wle z (List.mem_of_getElem? hz)
    have zs : z.length ≤ sizeLine := Nat.le_of_lt (small1000 (by omega))
    have tk : (wordsS ups lab).take (i + 1) = (wordsS ups lab).take i ++ [z] := by rw [List.take_succ, hz]; rfl
    refine ⟨rfl, _, rfl, z, rfl, zs, _, rfl, _, _, rfl, rfl, _, rfl, ite2 (fun cnd => ?_) (fun cnd => ?_)⟩
    · have c' : L ≤ (z.length : Int) := of_decide_eq_true cnd
      refine ⟨_, rfl, _, rfl, _, rfl, _, rfl, zs, g1, upd_same, ?_, g3.write hacc⟩
      rw [tk, begI_snoc, if_pos c', List.map_append]; rfl
    · have c' : ¬ L ≤ (z.length : Int) := of_decide_eq_false (Bool.eq_false_iff.mpr cnd)
      exact ⟨g1, by rw [tk, begI_snoc, if_neg c', List.append_nil], g3⟩
  rintro ys H2 ⟨g1, rfl, g3⟩
  rw [List.length_map, wl, ← wl, List.take_length] at g1
  have bl := begI_len L (wordsS ups lab)
  refine ⟨acc, _, rfl, SqL.of g1, by omega, fun bs r2 hp hs hr2 => ?_⟩
  have s3 : Same H2 (upd H2 r2 (.lst (bs.map V.str))) := (Same.refl H2).new hr2
  have h3 : upd H2 r2 (.lst (bs.map V.str)) r2 = some (.lst (bs.map V.str)) := upd_same
  generalize upd H2 r2 (.lst (bs.map V.str)) = H3 at s3 h3
  have s03 := (s1.trans g3).trans s3
  refine ⟨_, rfl, Nat.zero_le _, fun e he => ?_⟩
  have s4 : Same H3 (upd H3 e (.lst [])) := (Same.refl H3).new he
  have h4 : upd H3 e (.lst []) e = some (.lst []) := upd_same
  generalize upd H3 e (.lst []) = H4 at s4 h4
  have s04 := s03.trans s4
  have hr4 := s4 _ _ h3
  refine ⟨r2, e, _, _, rfl, rfl, SqL.of hr4, SqL.of h4, flat_strs bs, rfl, _, rfl, ite2 (fun c => ?_) (fun c => ?_)⟩
  · have b0 : bs = [] := by
      have e1 : eqVs (bs.map V.str) (([] : List Str).map V.str) = true := c
      rw [eqVs_strs] at e1
      exact of_decide_eq_true e1
    refine q .non H4 (Kt.of s04 LL) (.inl ⟨fun z pz lz => ?_, rfl⟩)
    obtain ⟨_, w, hw, p⟩ := prf_iff.mp pz
    have pl := p.length_le
    rw [cps_len, cps_len] at pl
    have : cutS w none (some L) ∈ bs := hp.mem_iff.mpr (List.mem_map.mpr ⟨w, List.mem_filter.mpr ⟨hw, decide_eq_true (by omega)⟩, rfl⟩)
    rw [b0] at this; cases this
  · have bne : bs ≠ [] := fun e1 => c (by rw [e1]; rfl)
    have wit : ∃ w ∈ wordsS ups lab, L ≤ (w.length : Int) := by
      obtain ⟨x, hx⟩ := List.exists_mem_of_ne_nil bs bne
      obtain ⟨w, hw, _⟩ := List.mem_map.mp (hp.mem_iff.mp hx)
      exact ⟨w, (List.mem_filter.mp hw).1, of_decide_eq_true (List.mem_filter.mp hw).2⟩
    obtain ⟨l, rfl⟩ : ∃ l : Nat, L = (l : Int) := ⟨L.toNat, by omega⟩
    rw [begI_nat] at hp
    refine ⟨_, rfl, r2, bs.map V.str, (fun i => ((bs.count (bs.getD i Str.empty) : Nat) : Int)), rfl, SqL.of hr4, by simpa using bne, LL.same s04, fun i x H5 hx kt => ?_, fun b x H5 hx best kt => ?_⟩
    · obtain ⟨z, hz, rfl⟩ := strs_get hx
      have h5 := kt.lst hr4
      have ez : bs.getD i Str.empty = z := by rw [List.getD_eq_getElem?_getD, hz]; rfl
      refine ⟨_, rfl, .inl ⟨rfl, _, SqL.of h5⟩, _, rfl, r2, bs, z, rfl, rfl, h5, ?_, Same.refl H5⟩
      show V.int _ = V.int ((bs.count (bs.getD i Str.empty) : Nat) : Int)
      rw [ez]
    · obtain ⟨z, hz, rfl⟩ := strs_get hx
      obtain ⟨hb, ez⟩ := List.getElem?_eq_some_iff.mp hz
      rw [List.length_map] at best
      obtain ⟨mz, cz⟩ := most_of (by omega) hp hs hb best
      rw [ez] at mz cz
      have h5 := kt.lst hr4
      refine ⟨_, rfl, _, rfl, .inl ⟨rfl, _, SqL.of h5⟩, _, rfl, r2, bs, z, rfl, rfl, h5, (by show 2 ≤ sizeLine; decide), fun r hr => ?_⟩
      rw [cz]
      exact q (.ref r) _ ((Same.kt s04 kt).same ((Same.refl H5).new hr)) (.inr ⟨z, r, mz, rfl, upd_same⟩)
end
end S21


set_option Elab.async false
set_option linter.all false
set_option maxRecDepth 100000
set_option maxHeartbeats 8000000
namespace S21
open PySem L2 W7
section
variable {P : Program} {w : World} {K : PySem.W.Frag} {mg : Str → Option Value} {base : Heap} {k : Nat}
theorem prefN_len {ups : List Int} {lab : Str} (ok : TreeOk ups lab.cps.toList) {z : Str} (h : prefN ups lab ups.length z) : 1 ≤ z.length ∧ z.length ≤ 60 := by
  obtain ⟨a, j, hj, b⟩ := h
  have l1 := W_len ok (j + 1) j (by omega) hj
  have l2 := b.length_le
  have l3 := List.length_pos_iff.mpr a
  have m := ok.most
  rw [cps_len] at l2 l3
  omega
def kst : Key → Str
  | .inr z => z
  | .inl _ => Str.empty
def kzs (kvs : List (Key × V)) : List Str := kvs.map fun kv => kst kv.1
theorem kzs_keys {kvs : List (Key × V)} {S : Str → Prop} (h : Kp kvs S) : kvs.map (·.1) = (kzs kvs).map Sum.inr := by
  unfold kzs
  rw [List.map_map]
  refine List.map_congr_left fun p hp => ?_
  obtain ⟨z, e, _⟩ := h.is p.1 (List.mem_map.mpr ⟨p, hp, rfl⟩)
  show p.1 = Sum.inr (kst p.1)
  rw [e]; rfl
theorem kzs_mem {kvs : List (Key × V)} {S : Str → Prop} (h : Kp kvs S) (z : Str) : z ∈ kzs kvs ↔ S z := by
  constructor
  · intro m
    obtain ⟨p, hp, e⟩ := List.mem_map.mp m
    obtain ⟨y, e1, e2⟩ := h.is p.1 (List.mem_map.mpr ⟨p, hp, rfl⟩)
    rw [e1] at e
    rw [← e]; exact e2
  · intro s
    have := h.all z s
    rw [kzs_keys h] at this
    obtain ⟨y, hy, e⟩ := List.mem_map.mp this
    cases e; exact hy
theorem kzs_nodup {kvs : List (Key × V)} {S : Str → Prop} (h : Kp kvs S) : (kzs kvs).Nodup := by
  have := h.nd
  rw [kzs_keys h] at this
  unfold List.Nodup at this ⊢
  rw [List.pairwise_map] at this
  exact this.imp fun a b => a (by rw [b])
/-! ### what is read, frozen -/
def Rds (H : Hp) (d : Addr) (ups : List Int) (lab : Str) : Prop := ∃ (ob : Obj) (kvs : List (Key × V)), H d = some (.frz ob (.dK kvs)) ∧ Kp kvs (prefN ups lab ups.length) ∧ kvs.length ≤ 3600 ∧ Lx H kvs (plc ups lab ups.length)
theorem Rds.same {H H' : Hp} {d : Addr} {ups : List Int} {lab : Str} (h : Rds H d ups lab) (s : Same H H') : Rds H' d ups lab := by
  obtain ⟨ob, kvs, a, b, c, e⟩ := h
  exact ⟨ob, kvs, s _ _ a, b, c, e.same s⟩
theorem Rds.kt {ls : List Lm} {H H' : Hp} {d : Addr} {ups : List Int} {lab : Str} (h : Rds H d ups lab) (s : Kt ls H H') : Rds H' d ups lab := by
  obtain ⟨ob, kvs, a, b, c, e⟩ := h
  refine ⟨ob, kvs, s.keep _ _ (fun _ z => by cases z) a, b, c, fun z v ez => ?_⟩
  obtain ⟨l, e1, e2⟩ := e z v ez
  exact ⟨l, e1, s.lst e2⟩
/-! rows of the words that are chosen, with a number ahead -/
def FW (g : Str → Int) (zs : List Str) (j : Nat) : List V := [.int (g (zs.getD j Str.empty)), .str (zs.getD j Str.empty)]
def RowsW (H : Hp) (as : List Addr) (g : Str → Int) (zs : List Str) : Prop := as.length = zs.length ∧ ∀ (i : Nat) (b : Addr), as[i]? = some b → H b = some (.tup (FW g zs i))
theorem RowsW.nil {H : Hp} {g : Str → Int} : RowsW H [] g [] := ⟨rfl, fun i b e => by simp at e⟩
theorem RowsW.same {H H' : Hp} {as : List Addr} {g : Str → Int} {zs : List Str} (h : RowsW H as g zs) (s : Same H H') : RowsW H' as g zs := ⟨h.1, fun i b e => s _ _ (h.2 i b e)⟩
theorem RowsW.push {H : Hp} {as : List Addr} {g : Str → Int} {zs : List Str} {e acc : Addr} {z : Str} {ys : List V} {o : HO} (h : RowsW H as g zs) (hacc : H acc = some (.lst ys)) (he : H e = none) : RowsW (upd (upd H e (.tup [.int (g z), .str z])) acc o) (as ++ [e]) g (zs ++ [z]) := by
  refine ⟨by simp [h.1], fun i b hb => ?_⟩
  have ae : acc ≠ e := ne_of_none hacc he
  rcases Nat.lt_or_ge i as.length with q | q
  · rw [List.getElem?_append_left q] at hb
    have h1 := h.2 i b hb
    have e1 : FW g (zs ++ [z]) i = FW g zs i := by
      unfold FW
      rw [List.getD_eq_getElem?_getD, List.getD_eq_getElem?_getD, List.getElem?_append_left (by rw [← h.1]; exact q)]
    rw [upd_ne (ne_of h1 hacc (by intro z; cases z)), upd_ne (ne_of_none h1 he), e1]; exact h1
  · have q0 : i = as.length := by
      have := (List.getElem?_eq_some_iff.mp hb).1
      simp at this; omega
    subst q0
    have ea : e = b := by simpa using hb
    subst ea
    have e1 : FW g (zs ++ [z]) as.length = [.int (g z), .str z] := by
      unfold FW
      rw [List.getD_eq_getElem?_getD, List.getElem?_append_right (by rw [h.1]; exact Nat.le_refl _), h.1, Nat.sub_self]; rfl
    rw [upd_ne (Ne.symm ae), upd_same, e1]
theorem fw_keys {g : Str → Int} {zs : List Str} (nd : zs.Nodup) : Keys zs.length (FW g zs) [1, 2] where
  shp i := rfl
  ne := by decide
  z := by decide
  inj i j hi hj e := by
    unfold FW at e
    simp only [List.cons.injEq, V.str.injEq, and_true] at e
    have e2 := e.2
    rw [List.getD_eq_getElem?_getD, List.getD_eq_getElem?_getD, List.getElem?_eq_getElem hi, List.getElem?_eq_getElem hj, Option.getD_some, Option.getD_some] at e2
    exact (List.getElem_inj nd).mp e2
theorem fw_least {g : Str → Int} {zs : List Str} {b : Nat} (h : Least (fun i j => lexV (FW g zs i) (FW g zs j)) b zs.length) : zs.getD b Str.empty ∈ zs ∧ ∀ y ∈ zs, ¬ g y < g (zs.getD b Str.empty) ∧ (g y = g (zs.getD b Str.empty) → ¬ y.cps.toList < (zs.getD b Str.empty).cps.toList) := by
  have hb := h.1
  have g0 : ∀ i (hi : i < zs.length), zs.getD i Str.empty = zs[i] := fun i hi => by rw [List.getD_eq_getElem?_getD, List.getElem?_eq_getElem hi]; rfl
  refine ⟨by rw [g0 b hb]; exact List.getElem_mem hb, fun y hy => ?_⟩
  obtain ⟨i, hi, ei⟩ := List.getElem_of_mem hy
  have l := h.2 i hi
  have l' : lexV [V.int (g (zs.getD i Str.empty)), .str (zs.getD i Str.empty)] [V.int (g (zs.getD b Str.empty)), .str (zs.getD b Str.empty)] = false := l
  rw [g0 i hi, ei] at l'
  generalize zs.getD b Str.empty = z at l'
  unfold lexV at l'
  by_cases e : g y = g z
  · rw [if_pos (by rw [e])] at l'
    refine ⟨by omega, fun _ lt => ?_⟩
    unfold lexV at l'
    by_cases e2 : V.str y = V.str z
    · injection e2 with e2
      rw [e2] at lt; exact absurd lt (List.lt_irrefl _)
    · rw [if_neg e2] at l'
      have : decide (y.cps.toList < z.cps.toList) = false := l'
      exact of_decide_eq_false this lt
  · rw [if_neg (by intro c; injection c with c; exact e c)] at l'
    have : decide (g y < g z) = false := l'
    exact ⟨of_decide_eq_false this, fun c => absurd c e⟩
theorem kat_of {kvs : List (Key × V)} {S : Str → Prop} (kp : Kp kvs S) {i : Nat} {k : Key} {v : V} (e : kvs[i]? = some (k, v)) : ∃ z, k = Sum.inr z ∧ (kzs kvs)[i]? = some z := by
  obtain ⟨z, e1, _⟩ := kp.is k (List.mem_map.mpr ⟨(k, v), List.mem_of_getElem? e, rfl⟩)
  refine ⟨z, e1, ?_⟩
  unfold kzs
  rw [List.getElem?_map, e]
  show some (kst k) = _
  rw [e1]; rfl
theorem kzs_len (kvs : List (Key × V)) : (kzs kvs).length = kvs.length := by unfold kzs; rw [List.length_map]
/-! ### _law_most -/
def sp_lmost : Sp := fun vs H Q _ => ∃ (d : Addr) (ups : List Int) (lab : Str) (L : Int), vs = [.ref d, .int L] ∧ TreeOk ups lab.cps.toList ∧ Rds H d ups lab ∧ ∀ (v : V) (H' : Hp), Same H H' → MoAt H' v ups lab L → Q v H'
theorem has_lmost (D : Df K mg "_law_most" s_law_most) (B : Blt7 mg) : Has P w K mg base "_law_most" (k + 1) ["reads", "length"] sp_lmost := by
  refine D.has sc_law_most (fun _ _ _ _ _ _ us hl => match us, hl with | [_, _], _ => rfl) (fun vs H Q E h => by obtain ⟨d, ups, lab, L, rfl, _⟩ := h; rfl) (fun f cdv A outer s H vs Q E hr h => ?_)
  obtain ⟨d, ups, lab, L, rfl, ok, ⟨ob, kvs, hd, kp, kl, lx⟩, q⟩ := h
  refine ⟨_, (pss_cons (ps_comp (i := 2) sc_law_most.nd rfl (by first | exact Or.inl rfl | exact Or.inr rfl) rfl (pi_dict (pv 0)) (NL := ["word"]) (ix := [0, 1]) (csc (defScope s_law_most) N_law_most) (fun cl C s₃ H₃ fp pins => ⟨(pg_name (i := 0) (show List.Nodup (["word", "reads", "length"] : List Str) from by decide +kernel) rfl (by first | exact Or.inl rfl | exact Or.inr rfl)), (pifs_one (pt_cmpR op_eq (pe_callB call_len_str rfl B.len bt_len (pa_cons (pv 0) pa_nil)) (pv 2) (nomark _))), (pe_tup (pa_cons (pe_op op_sub pe_int (pe_callB (call_len_seqK K) rfl B.len bt_len (pa_cons (pe_dget (hu_of hr) (pv 1) (pv 0) (fun _ _ => rfl)) pa_nil))) (pa_cons (pv 0) pa_nil)))⟩))
  (pss_cons (ps_if (pt_cmpR (op_eq_nil hr.units0) (pv 2) (pe_lst pa_nil) (nomark _))
  (pss_one (ps_ret pe_non))
  pss_nil)
  (pss_one (ps_ret (pe_tup (pa_cons (pe_ix ix_tup (pe_callB (call_min_tups hr rfl) rfl B.min bt_min (pa_cons (pv 2) pa_nil)) pe_int (fun _ _ => rfl)) (pa_cons (pe_op op_sub pe_int (pe_ix ix_tup (pe_callB (call_min_tups hr rfl) rfl B.min bt_min (pa_cons (pv 2) pa_nil)) pe_int (fun _ _ => rfl))) pa_nil))))))), ?_⟩
  have zl : ∀ z ∈ kzs kvs, 1 ≤ z.length ∧ z.length ≤ 60 := fun z hz => prefN_len ok ((kzs_mem kp z).mp hz)
  have kzl := kzs_len kvs
  refine ⟨_, rfl, d, kvs, rfl, .inr ⟨ob, hd⟩, fun ob' H1 e1 e2 => ?_⟩
  have e3 := e2 ob hd
  have eo : ob' = ob := by
    have : H1 d = some (.frz ob' (.dK kvs)) := by rw [e1]; exact upd_same
    rw [e3, hd] at this
    injection this with this
    injection this with this
    exact this.symm
  subst eo
  subst e3
  clear e1 e2
  refine fun acc hacc => ?_
  refine comp_dict (a := d) (o := ob') (kvs := kvs) (by omega) (fun i ys HX => HX acc = some (.lst ys) ∧ Same H1 HX ∧ ∃ as : List Addr, ys = as.map V.ref ∧ RowsW HX as (fun z => 0 - (cnt ups lab z : Int)) (((kzs kvs).take i).filter fun z => decide ((z.length : Int) = L)))
    (fun i ys HX h => h.2.1 _ _ hd) (fun i ys HX h => ⟨h.1, by obtain ⟨as, e, r, _⟩ := h.2.2; rw [e, List.length_map, r]; exact Nat.le_trans (List.length_filter_le _ _) (by rw [List.length_take]; omega)⟩) ⟨upd_same, (Same.refl H1).new hacc, [], rfl, .nil⟩ ?_ ?_
  rotate_left
  · rintro i k v ys HX e ⟨g1, g2, as, rfl, rw'⟩
    obtain ⟨z, rfl, ez⟩ := kat_of kp e
    have zb := zl z (List.mem_of_getElem? ez)
    have z1 : z.length ≤ sizeLine := Nat.le_of_lt (small1000 (by omega))
    have tk : (kzs kvs).take (i + 1) = (kzs kvs).take i ++ [z] := by rw [List.take_succ, ez]; rfl
    obtain ⟨vz, hvz⟩ := valV_some (kp.all z ((kzs_mem kp z).mp (List.mem_of_getElem? ez)))
    obtain ⟨l, rfl, hl⟩ := (lx.same g2) z vz hvz
    have dg : DGet HX d (kV (Sum.inr z)) (some (.ref l)) := by rw [← hvz]; exact .inl ⟨kvs, Sum.inr z, .inr ⟨ob', g2 _ _ hd⟩, rfl, rfl⟩
    refine ⟨rfl, _, rfl, z, rfl, z1, _, rfl, rfl, _, rfl, ite2 (fun cnd => ?_) (fun cnd => ?_)⟩
    · have c' : (z.length : Int) = L := by have := of_decide_eq_true cnd; injection this
      refine ⟨_, rfl, _, rfl, d, _, rfl, dg, l, _, rfl, .inl (SqL.of hl), _, _, rfl, rfl, _, rfl, (by show 2 ≤ sizeLine; decide), fun r hr => ?_⟩
      have ae : acc ≠ r := ne_of_none g1 hr
      rw [List.length_map]
      refine ⟨by rw [upd_ne ae]; exact g1, upd_same, (g2.new hr).write hacc, as ++ [r], by rw [List.map_append]; rfl, ?_⟩
      rw [tk, List.filter_append, List.filter_cons, if_pos (decide_eq_true c'), List.filter_nil]
      exact rw'.push g1 hr
    · have c' : ¬ (z.length : Int) = L := fun e => cnd (by rw [e]; exact decide_eq_true rfl)
      refine ⟨g1, g2, as, rfl, ?_⟩
      rw [tk, List.filter_append, List.filter_cons, if_neg (by simpa using c'), List.filter_nil, List.append_nil]
      exact rw'
  rintro ys H2 ⟨g1, s2, as, rfl, rw'⟩
  rw [← kzl, List.take_length] at rw'
  have zmem : ∀ z, z ∈ (kzs kvs).filter (fun z => decide ((z.length : Int) = L)) ↔ prf ups lab z ∧ (z.length : Int) = L := fun z => by
    rw [List.mem_filter, kzs_mem kp z, decide_eq_true_eq]
  have znd : ((kzs kvs).filter fun z => decide ((z.length : Int) = L)).Nodup := (kzs_nodup kp).filter _
  generalize (kzs kvs).filter (fun z => decide ((z.length : Int) = L)) = zs at rw' zmem znd
  refine ⟨_, rfl, Nat.zero_le _, fun e he => ?_⟩
  have s3 : Same H2 (upd H2 e (.lst [])) := (Same.refl H2).new he
  have h3 : upd H2 e (.lst []) e = some (.lst []) := upd_same
  generalize upd H2 e (.lst []) = H3 at s3 h3
  have g3 := s3 _ _ g1
  have rw3 := rw'.same s3
  have s03 := s2.trans s3
  refine ⟨acc, e, _, rfl, rfl, SqL.of g3, SqL.of h3, _, rfl, ite2 (fun c => ?_) (fun c => ?_)⟩
  · have a0 : as = [] := by simpa using c
    have z0 : zs = [] := List.eq_nil_of_length_eq_zero (by rw [← rw3.1, a0]; rfl)
    refine q .non H3 s03 (.inl ⟨fun z pz lz => ?_, rfl⟩)
    have := (zmem z).mpr ⟨pz, lz⟩
    rw [z0] at this; cases this
  · have a0 : as ≠ [] := fun e => c (by rw [e]; rfl)
    have most : ∀ b, Least (fun i j => lexV (FW (fun z => 0 - (cnt ups lab z : Int)) zs i) (FW (fun z => 0 - (cnt ups lab z : Int)) zs j)) b as.length → MostZ ups lab L (zs.getD b Str.empty) := fun b lb => by
      rw [rw3.1] at lb
      obtain ⟨m1, m2⟩ := fw_least lb
      obtain ⟨p1, p2⟩ := (zmem _).mp m1
      refine ⟨p1, p2, fun y py ly => ?_⟩
      obtain ⟨a1, a2⟩ := m2 y ((zmem y).mpr ⟨py, ly⟩)
      exact ⟨by omega, fun e => a2 (by rw [e])⟩
    have ks := fw_keys (g := fun z => 0 - (cnt ups lab z : Int)) znd
    rw [← rw3.1] at ks
    refine ⟨_, rfl, acc, as, _, [1, 2], rfl, SqL.of g3, a0, fun i b hb => SqT.of (rw3.2 i b hb), ks, fun b p hb lb => ?_⟩
    refine ⟨p, _, _, _, rfl, rfl, SqT.of (rw3.2 b p hb), rfl, ?_⟩
    refine ⟨_, rfl, acc, as, _, [1, 2], rfl, SqL.of g3, a0, fun i b hb => SqT.of (rw3.2 i b hb), ks, fun b' p' hb' lb' => ?_⟩
    refine ⟨p', _, _, _, rfl, rfl, SqT.of (rw3.2 b' p' hb'), rfl, _, _, rfl, rfl, (by show 2 ≤ sizeLine; decide), fun r hr => ?_⟩
    have e1 := (most b' lb').one (most b lb)
    rw [e1]
    refine q (.ref r) _ (s03.new hr) (.inr ⟨zs.getD b Str.empty, r, most b lb, rfl, ?_⟩)
    rw [upd_same]
    show some (HO.tup [.str (zs.getD b Str.empty), .int ((0 : Int) - (0 - (cnt ups lab (zs.getD b Str.empty) : Int)))]) = _
    rw [show (0 : Int) - (0 - (cnt ups lab (zs.getD b Str.empty) : Int)) = (cnt ups lab (zs.getD b Str.empty) : Int) by omega]
/-! ### _law_again -/
def sp_lagn : Sp := fun vs H Q _ => ∃ (d : Addr) (ups : List Int) (lab : Str), vs = [.ref d] ∧ TreeOk ups lab.cps.toList ∧ Rds H d ups lab ∧ ∀ (r l : Addr) (H' : Hp), Same H H' → AgAt H' r l ups lab → Q (.ref r) H'
theorem has_lagn (D : Df K mg "_law_again" s_law_again) (B : Blt7 mg) : Has P w K mg base "_law_again" (k + 1) ["reads"] sp_lagn := by
  refine D.has sc_law_again (fun _ _ _ _ _ _ us hl => match us, hl with | [_], _ => rfl) (fun vs H Q E h => by obtain ⟨d, ups, lab, rfl, _⟩ := h; rfl) (fun f cdv A outer s H vs Q E hr h => ?_)
  obtain ⟨d, ups, lab, rfl, ok, ⟨ob, kvs, hd, kp, kl, lx⟩, q⟩ := h
  refine ⟨_, (pss_cons (ps_comp (i := 1) sc_law_again.nd rfl (by first | exact Or.inl rfl | exact Or.inr rfl) rfl (pi_dict (pv 0)) (NL := ["word"]) (ix := [0]) (csc (defScope s_law_again) N_law_again) (fun cl C s₃ H₃ fp pins => ⟨(pg_name (i := 0) (show List.Nodup (["word", "reads"] : List Str) from by decide +kernel) rfl (by first | exact Or.inl rfl | exact Or.inr rfl)), (pifs_one (pt_cmpR op_gt (pe_callB (call_len_seqK K) rfl B.len bt_len (pa_cons (pe_dget (hu_of hr) (pv 1) (pv 0) (fun _ _ => rfl)) pa_nil)) pe_int (nomark _))), (pe_tup (pa_cons (pe_op op_sub pe_int (pe_callB call_len_str rfl B.len bt_len (pa_cons (pv 0) pa_nil))) (pa_cons (pv 0) pa_nil)))⟩))
  (pss_cons (ps_if (pt_cmpR (op_eq_nil hr.units0) (pv 1) (pe_lst pa_nil) (nomark _))
  (pss_one (ps_ret (pe_tup (pa_cons pe_str (pa_cons (pe_lst pa_nil) pa_nil)))))
  pss_nil)
  (pss_one (ps_ret (pe_tup (pa_cons (pe_ix ix_tup (pe_callB (call_min_tups hr rfl) rfl B.min bt_min (pa_cons (pv 1) pa_nil)) pe_int (fun _ _ => rfl)) (pa_cons (pe_dget (hu_of hr) (pv 0) (pe_ix ix_tup (pe_callB (call_min_tups hr rfl) rfl B.min bt_min (pa_cons (pv 1) pa_nil)) pe_int (fun _ _ => rfl)) (fun _ _ => rfl)) pa_nil))))))), ?_⟩
  have zl : ∀ z ∈ kzs kvs, 1 ≤ z.length ∧ z.length ≤ 60 := fun z hz => prefN_len ok ((kzs_mem kp z).mp hz)
  have kzl := kzs_len kvs
  refine ⟨_, rfl, d, kvs, rfl, .inr ⟨ob, hd⟩, fun ob' H1 e1 e2 => ?_⟩
  have e3 := e2 ob hd
  have eo : ob' = ob := by
    have : H1 d = some (.frz ob' (.dK kvs)) := by rw [e1]; exact upd_same
    rw [e3, hd] at this
    injection this with this
    injection this with this
    exact this.symm
  subst eo
  subst e3
  clear e1 e2
  refine fun acc hacc => ?_
  refine comp_dict (a := d) (o := ob') (kvs := kvs) (by omega) (fun i ys HX => HX acc = some (.lst ys) ∧ Same H1 HX ∧ ∃ as : List Addr, ys = as.map V.ref ∧ RowsW HX as (fun z => 0 - (z.length : Int)) (((kzs kvs).take i).filter fun z => decide (1 < cnt ups lab z)))
    (fun i ys HX h => h.2.1 _ _ hd) (fun i ys HX h => ⟨h.1, by obtain ⟨as, e, r, _⟩ := h.2.2; rw [e, List.length_map, r]; exact Nat.le_trans (List.length_filter_le _ _) (by rw [List.length_take]; omega)⟩) ⟨upd_same, (Same.refl H1).new hacc, [], rfl, .nil⟩ ?_ ?_
  rotate_left
  · rintro i k v ys HX e ⟨g1, g2, as, rfl, rw'⟩
    obtain ⟨z, rfl, ez⟩ := kat_of kp e
    have zb := zl z (List.mem_of_getElem? ez)
    have z1 : z.length ≤ sizeLine := Nat.le_of_lt (small1000 (by omega))
    have tk : (kzs kvs).take (i + 1) = (kzs kvs).take i ++ [z] := by rw [List.take_succ, ez]; rfl
    obtain ⟨vz, hvz⟩ := valV_some (kp.all z ((kzs_mem kp z).mp (List.mem_of_getElem? ez)))
    obtain ⟨l, rfl, hl⟩ := (lx.same g2) z vz hvz
    have dg : DGet HX d (kV (Sum.inr z)) (some (.ref l)) := by rw [← hvz]; exact .inl ⟨kvs, Sum.inr z, .inr ⟨ob', g2 _ _ hd⟩, rfl, rfl⟩
    refine ⟨rfl, _, rfl, _, rfl, d, _, rfl, dg, l, _, rfl, .inl (SqL.of hl), _, _, rfl, rfl, _, rfl, ite2 (fun cnd => ?_) (fun cnd => ?_)⟩
    · have c' : 1 < cnt ups lab z := by have := of_decide_eq_true cnd; rw [List.length_map] at this; unfold cnt; omega
      refine ⟨_, rfl, z, rfl, z1, _, _, rfl, rfl, _, rfl, (by show 2 ≤ sizeLine; decide), fun r hr => ?_⟩
      have ae : acc ≠ r := ne_of_none g1 hr
      refine ⟨by rw [upd_ne ae]; exact g1, upd_same, (g2.new hr).write hacc, as ++ [r], by rw [List.map_append]; rfl, ?_⟩
      rw [tk, List.filter_append, List.filter_cons, if_pos (decide_eq_true c'), List.filter_nil]
      exact rw'.push g1 hr
    · have c' : ¬ 1 < cnt ups lab z := fun e => cnd (by refine decide_eq_true ?_; rw [List.length_map]; unfold cnt at e; omega)
      refine ⟨g1, g2, as, rfl, ?_⟩
      rw [tk, List.filter_append, List.filter_cons, if_neg (by simpa using c'), List.filter_nil, List.append_nil]
      exact rw'
  rintro ys H2 ⟨g1, s2, as, rfl, rw'⟩
  rw [← kzl, List.take_length] at rw'
  have zmem : ∀ z, z ∈ (kzs kvs).filter (fun z => decide (1 < cnt ups lab z)) ↔ prf ups lab z ∧ 1 < cnt ups lab z := fun z => by
    rw [List.mem_filter, kzs_mem kp z, decide_eq_true_eq]
  have znd : ((kzs kvs).filter fun z => decide (1 < cnt ups lab z)).Nodup := (kzs_nodup kp).filter _
  generalize (kzs kvs).filter (fun z => decide (1 < cnt ups lab z)) = zs at rw' zmem znd
  refine ⟨_, rfl, Nat.zero_le _, fun e he => ?_⟩
  have s3 : Same H2 (upd H2 e (.lst [])) := (Same.refl H2).new he
  have h3 : upd H2 e (.lst []) e = some (.lst []) := upd_same
  generalize upd H2 e (.lst []) = H3 at s3 h3
  have g3 := s3 _ _ g1
  have rw3 := rw'.same s3
  have s03 := s2.trans s3
  refine ⟨acc, e, _, rfl, rfl, SqL.of g3, SqL.of h3, _, rfl, ite2 (fun c => ?_) (fun c => ?_)⟩
  · have a0 : as = [] := by simpa using c
    have z0 : zs = [] := List.eq_nil_of_length_eq_zero (by rw [← rw3.1, a0]; rfl)
    refine ⟨Nat.zero_le _, fun l hl => ⟨(by show 2 ≤ sizeLine; decide), fun r hr => ?_⟩⟩
    refine q r l _ ((s03.new hl).new hr) (.inl ⟨fun z pz cz => ?_, upd_same, by rw [upd_ne (ne_of_none upd_same hr)]; exact upd_same⟩)
    have := (zmem z).mpr ⟨pz, cz⟩
    rw [z0] at this; cases this
  · have a0 : as ≠ [] := fun e => c (by rw [e]; rfl)
    have most : ∀ b, Least (fun i j => lexV (FW (fun z => 0 - (z.length : Int)) zs i) (FW (fun z => 0 - (z.length : Int)) zs j)) b as.length → AgZ ups lab (zs.getD b Str.empty) := fun b lb => by
      rw [rw3.1] at lb
      obtain ⟨m1, m2⟩ := fw_least lb
      obtain ⟨p1, p2⟩ := (zmem _).mp m1
      refine ⟨p1, p2, fun y py ly => ?_⟩
      obtain ⟨a1, a2⟩ := m2 y ((zmem y).mpr ⟨py, ly⟩)
      exact ⟨by omega, fun e => a2 (by rw [e])⟩
    have ks := fw_keys (g := fun z => 0 - (z.length : Int)) znd
    rw [← rw3.1] at ks
    refine ⟨_, rfl, acc, as, _, [1, 2], rfl, SqL.of g3, a0, fun i b hb => SqT.of (rw3.2 i b hb), ks, fun b p hb lb => ?_⟩
    refine ⟨p, _, _, _, rfl, rfl, SqT.of (rw3.2 b p hb), rfl, ?_⟩
    refine ⟨_, rfl, _, rfl, acc, as, _, [1, 2], rfl, SqL.of g3, a0, fun i b hb => SqT.of (rw3.2 i b hb), ks, fun b' p' hb' lb' => ?_⟩
    have e1 := (most b' lb').one (most b lb)
    have mz := most b lb
    obtain ⟨vz, hvz⟩ := valV_some (kp.all _ mz.1)
    obtain ⟨l, rfl, hl⟩ := (lx.same s03) _ vz hvz
    have dg : DGet H3 d (kV (Sum.inr (zs.getD b Str.empty))) (some (.ref l)) := by rw [← hvz]; exact .inl ⟨kvs, Sum.inr (zs.getD b Str.empty), .inr ⟨ob', s03 _ _ hd⟩, rfl, rfl⟩
    rw [← e1] at dg
    refine ⟨p', _, _, _, rfl, rfl, SqT.of (rw3.2 b' p' hb'), rfl, d, _, rfl, dg, (by show 2 ≤ sizeLine; decide), fun r hr => ?_⟩
    exact q r l _ (s03.new hr) (.inr ⟨zs.getD b Str.empty, mz, upd_same, by rw [upd_ne (ne_of_none hl hr)]; exact hl⟩)
end
end S21


set_option Elab.async false
set_option linter.all false
set_option maxRecDepth 100000
set_option maxHeartbeats 8000000
namespace S21
open PySem L2 W7
section
variable {P : Program} {w : World} {K : PySem.W.Frag} {mg : Str → Option Value} {base : Heap} {k : Nat}
theorem two16 : (16 : Int) < bigL := by unfold bigL; decide +kernel
theorem ten59 : (10 : Int) ^ (59 : Int).toNat < bigL := by unfold bigL; decide +kernel
theorem ten590 : (0 : Int) < (10 : Int) ^ (59 : Int).toNat := by decide +kernel
/-! ### _law_take of a great number -/
def sp_takeL : Sp := fun vs H Q _ => ∃ (p : Addr) (m c : Int), vs = [.ref p, .int m] ∧ Deck H p c ∧ c < 1000000 ∧ 0 < m ∧ m < bigL ∧ ∀ (n : Int) (H' : Hp), 0 ≤ n → n < m → Kd p (c + 1) H H' → Q (.int n) H'
theorem has_takeL (D : Df K mg "_law_take" s_law_take) (B : Blt mg) (G_law_prime : Has P w K mg base "_law_prime" k ["at"] sp_prime) : Has P w K mg base "_law_take" (k + 1) ["pool", "many"] sp_takeL := by
  refine D.has sc_law_take (fun _ _ _ _ _ _ us hl => match us, hl with | [_, _], _ => rfl) (fun vs H Q E h => by obtain ⟨p, m, c, rfl, _⟩ := h; rfl) (fun f cdv A outer s H vs Q E hr h => ?_)
  obtain ⟨p, m, c, rfl, ⟨x, y, z, hp, z0, z1⟩, c6, m0, m1, q⟩ := h
  refine ⟨_, (pss_cons (ps_if (pt_cmpR op_gt (pe_ix ix_list (pv 0) pe_int (fun _ _ => rfl)) pe_int (nomark _))
  (pss_cons (ps_set (i := 2) sc_law_take.nd rfl (by first | exact Or.inl rfl | exact Or.inr rfl) (pe_op op_mod (pe_ix ix_list (pv 0) pe_int (fun _ _ => rfl)) (pv 1)))
  (pss_cons (ps_asg (pe_op op_fdivL (pe_ix ix_list (pv 0) pe_int (fun _ _ => rfl)) (pv 1)) (pg_sub (pv 0) pe_int set_list))
  (pss_one (ps_ret (pv 2)))))
  pss_nil)
  (pss_cons (ps_set (i := 3) sc_law_take.nd rfl (by first | exact Or.inl rfl | exact Or.inr rfl) (pe_ix ix_list (pv 0) pe_int (fun _ _ => rfl)))
  (pss_cons (ps_asg (pe_op op_add (pv 3) pe_int) (pg_sub (pv 0) pe_int set_list))
  (pss_cons (ps_set (i := 4) sc_law_take.nd rfl (by first | exact Or.inl rfl | exact Or.inr rfl) (pe_op op_mod (pe_op op_pow (pe_op op_add (pe_op op_add (pe_op op_mod (pe_ix ix_list (pv 0) pe_int (fun _ _ => rfl)) pe_int) (pe_op op_mul pe_int (pv 3))) pe_int) pe_int) (pe_callH G_law_prime hr rfl (pa_cons (pv 3) pa_nil))))
  (pss_cons (ps_set (i := 5) sc_law_take.nd rfl (by first | exact Or.inl rfl | exact Or.inr rfl) (pe_op op_mod (pe_op op_pow (pe_op op_add (pe_op op_add (pe_op op_add (pe_op op_mul (pv 4) (pv 4)) (pe_op op_mul pe_int (pv 3))) (pe_op op_mod (pe_ix ix_list (pv 0) pe_int (fun _ _ => rfl)) pe_int)) pe_int) pe_int) (pe_callH G_law_prime hr rfl (pa_cons (pe_op op_add (pv 3) pe_int) pa_nil))))
  (pss_one (ps_ret (pe_op op_mod (pe_op op_fdivL (pe_op op_mod (pe_op op_add (pe_op op_mul (pv 5) pe_int) (pv 4)) (pe_callH G_law_prime hr rfl (pa_cons (pe_op op_add (pv 3) pe_int) pa_nil))) pe_int) (pv 1))))))))), ?_⟩
  have mne : m ≠ 0 := fun e => by rw [e] at m0; exact absurd m0 (by decide)
  refine ⟨_, rfl, p, _, _, _, rfl, rfl, SqL.of hp, rfl, _, _, rfl, rfl, _, rfl, ite2 (fun cnd => ?_) (fun cnd => ?_)⟩
  · refine ⟨_, rfl, p, _, _, _, rfl, rfl, SqL.of hp, rfl, _, rfl, _, _, rfl, rfl, m0, ?_⟩
    refine ⟨_, rfl, p, _, _, _, rfl, rfl, SqL.of hp, rfl, _, rfl, _, _, rfl, rfl, ⟨m0, m1⟩, ?_⟩
    refine ⟨_, rfl, p, _, _, 0, rfl, rfl, hp, rfl, _, rfl, ?_⟩
    exact q _ _ (Int.emod_nonneg _ mne) (Int.emod_lt_of_pos _ m0) ⟨⟨_, y, z, upd_same, z0, by clear m1; omega⟩, fun b o hb e => by rw [upd_ne hb]; exact e⟩
  · clear m1
    refine ⟨_, rfl, p, _, _, _, rfl, rfl, SqL.of hp, rfl, _, rfl, _, _, rfl, rfl, ?_⟩
    refine ⟨_, rfl, p, _, _, 2, rfl, rfl, hp, rfl, ?_⟩
    have hp' : upd H p (.lst [.int x, .int y, .int (z + 1)]) p = some (.lst [.int x, .int y, .int (z + 1)]) := upd_same
    have kd : Kd p (c + 1) H (upd H p (.lst [.int x, .int y, .int (z + 1)])) := ⟨⟨x, y, z + 1, upd_same, by omega, by omega⟩, fun b o hb e => by rw [upd_ne hb]; exact e⟩
    have y1 := Int.emod_nonneg y (by decide : (2147483399 : Int) ≠ 0)
    have y2 := Int.emod_lt_of_pos y (by decide : (0 : Int) < 2147483399)
    refine ⟨_, rfl, p, _, _, _, rfl, rfl, SqL.of hp', rfl, _, _, rfl, rfl, (by decide : (0 : Int) < 2147483399), _, rfl, _, _, rfl, rfl, .inl ⟨by decide, by decide⟩, _, _, rfl, rfl, _, _, rfl, rfl, _, _, rfl, rfl, ⟨by decide, by decide, by omega⟩, ?_⟩
    refine ⟨_, rfl, z, rfl, fun n1 H1 a0 a1 s1 => ⟨_, _, rfl, rfl, a0, ?_⟩⟩
    have hp1 := s1 _ _ hp'
    refine ⟨_, rfl, _, rfl, _, _, rfl, rfl, .inl (mod_in _ _ a0 a1), _, rfl, _, _, rfl, rfl, .inl ⟨by decide, by decide⟩, _, _, rfl, rfl, _, rfl, p, _, _, _, rfl, rfl, SqL.of hp1, rfl, _, _, rfl, rfl, (by decide : (0 : Int) < 65537), _, _, rfl, rfl, _, _, rfl, rfl, _, _, rfl, rfl, ⟨by decide, by decide, pow_ok _ _ _ _ a0 a1 z0 (by omega)⟩, ?_⟩
    refine ⟨_, rfl, _, _, rfl, rfl, z + 4, rfl, fun n2 H2 b0 b1 s2 => ⟨_, _, rfl, rfl, b0, ?_⟩⟩
    refine ⟨_, rfl, _, _, rfl, rfl, .inr ⟨by decide, by decide⟩, _, rfl, _, _, rfl, rfl, _, rfl, _, _, rfl, rfl, z + 7, rfl, fun n3 H3 d0 d1 s3 => ⟨_, _, rfl, rfl, d0, ?_⟩⟩
    refine ⟨_, _, rfl, rfl, ⟨by decide, two16⟩, _, rfl, _, _, rfl, rfl, m0, ?_⟩
    exact q _ _ (Int.emod_nonneg _ mne) (Int.emod_lt_of_pos _ m0) (((kd.same s1).same s2).same s3)
end
end S21


set_option Elab.async false
set_option linter.all false
set_option maxRecDepth 100000
set_option maxHeartbeats 8000000
namespace S21
open PySem L2 W7
def lamsOf (Ts : List Addr) : List Lm := [(Ts.getD 0 0, lpM, qM)]
theorem lm_ok (Ts : List Addr) : LmOk (lamsOf Ts) := by
  intro l hl m hm
  simp only [lamsOf, List.mem_cons, List.not_mem_nil, or_false] at hl hm
  rw [hl, hm]; exact .inl rfl
theorem lams_start {Ts : List Addr} {H : Hp} (hl : Ts.length = 1) (h : ∀ T ∈ Ts, H T = some (.tbl #[])) : Lams (lamsOf Ts) H := by
  match Ts, hl with
  | [T1], _ =>
    intro l hl
    simp only [lamsOf, List.mem_cons, List.not_mem_nil, or_false] at hl
    rw [hl]
    exact LamAt.start (h T1 (by simp))
/-- what is neither a table nor a code object may change -/
theorem Lams.but {ls : List Lm} {p : Addr} {o : HO} {H H' : Hp} (a : Lams ls H) (hp : H p = some o) (h1 : ∀ ps, o ≠ .tbl ps) (h2 : ∀ c q, o ≠ codeO c q) (k : ∀ b u, b ≠ p → H b = some u → H' b = some u) : Lams ls H' := fun m hm => by
  obtain ⟨ps, a, b, c⟩ := a m hm
  refine ⟨ps, k _ _ (fun e => h1 ps (by rw [e, hp] at a; exact Option.some.inj a)) a, b, ?_⟩
  rcases c with c | ⟨d, c, e⟩
  · exact .inl c
  · exact .inr ⟨d, c, k _ _ (fun z => h2 d _ (by rw [z, hp] at e; rw [z]; exact Option.some.inj e)) e⟩
theorem Lams.kd {ls : List Lm} {p : Addr} {c : Int} {H H' : Hp} (a : Lams ls H) (dk : ∃ c, Deck H p c) (k : Kd p c H H') : Lams ls H' := by
  obtain ⟨c0, x, y, z, e0, _⟩ := dk
  exact Lams.but a e0 (fun _ z => by cases z) (fun _ _ z => by cases z) k.keep
theorem Kt.kd {ls : List Lm} {p : Addr} {c : Int} {H0 H H' : Hp} (a : Kt ls H0 H) (dk : ∃ c, Deck H p c) (hp : H0 p = none) (k : Kd p c H H') : Kt ls H0 H' :=
  ⟨Lams.kd a.lam dk k, fun b o ho e => k.keep b o (ne_of_none e hp) (a.keep b o ho e), fun b e => a.here b (k.fresh e)⟩
theorem Kt.frz {ls : List Lm} {d : Addr} {kvs : List (Key × V)} {ob : Obj} {H0 H : Hp} (a : Kt ls H0 H) (hd : H0 d = none) (h : H d = some (.dK kvs)) : Kt ls H0 (upd H d (.frz ob (.dK kvs))) :=
  ⟨Lams.but a.lam h (fun _ z => by cases z) (fun _ _ z => by cases z) (fun b u n e => by rw [upd_ne n]; exact e), fun b o ho e => by rw [upd_ne (ne_of_none e hd)]; exact a.keep b o ho e, fun b e => by
    by_cases z : b = d
    · rw [z]; exact hd
    · rw [upd_ne z] at e; exact a.here b e⟩
theorem TreeAt.kt {ls : List Lm} {H H' : Hp} {t : Addr} {ups : List Int} {lab : Str} (h : TreeAt H t ups lab) (k : Kt ls H H') : TreeAt H' t ups lab := by
  obtain ⟨u, a, b, c⟩ := h
  exact ⟨u, k.tup a, k.tup b, c⟩
theorem TreeAt.kd {p : Addr} {c : Int} {H H' : Hp} {t : Addr} {ups : List Int} {lab : Str} (h : TreeAt H t ups lab) (dk : ∃ c, Deck H p c) (k : Kd p c H H') : TreeAt H' t ups lab := by
  obtain ⟨c0, x, y, z, e0, _⟩ := dk
  obtain ⟨u, a, b, c⟩ := h
  exact ⟨u, k.keep _ _ (ne_of a e0 (by intro z; cases z)) a, k.keep _ _ (ne_of b e0 (by intro z; cases z)) b, c⟩
theorem Deck.same {p : Addr} {c : Int} {H H' : Hp} (h : Deck H p c) (s : Same H H') : Deck H' p c := by
  obtain ⟨x, y, z, e, r⟩ := h
  exact ⟨x, y, z, s _ _ e, r⟩
theorem Deck.kt {ls : List Lm} {p : Addr} {c : Int} {H H' : Hp} (h : Deck H p c) (k : Kt ls H H') : Deck H' p c := by
  obtain ⟨x, y, z, e, r⟩ := h
  exact ⟨x, y, z, k.lst e, r⟩
/-- what is read, apart from the pool -/
def RdP (H : Hp) (d p : Addr) (ups : List Int) (lab : Str) : Prop := ∃ (ob : Obj) (kvs : List (Key × V)), H d = some (.frz ob (.dK kvs)) ∧ Kp kvs (prefN ups lab ups.length) ∧ kvs.length ≤ 3600 ∧ ∀ z v, valV kvs (.inr z) = some v → ∃ l, v = .ref l ∧ l ≠ p ∧ H l = some (.lst ((plc ups lab ups.length z).map V.int))
theorem RdP.rds {H : Hp} {d p : Addr} {ups : List Int} {lab : Str} (h : RdP H d p ups lab) : Rds H d ups lab := by
  obtain ⟨ob, kvs, a, b, c, e⟩ := h
  refine ⟨ob, kvs, a, b, c, fun z v ez => ?_⟩
  obtain ⟨l, e1, _, e2⟩ := e z v ez
  exact ⟨l, e1, e2⟩
theorem RdP.kt {ls : List Lm} {H H' : Hp} {d p : Addr} {ups : List Int} {lab : Str} (h : RdP H d p ups lab) (s : Kt ls H H') : RdP H' d p ups lab := by
  obtain ⟨ob, kvs, a, b, c, e⟩ := h
  refine ⟨ob, kvs, s.keep _ _ (fun _ z => by cases z) a, b, c, fun z v ez => ?_⟩
  obtain ⟨l, e1, n, e2⟩ := e z v ez
  exact ⟨l, e1, n, s.lst e2⟩
theorem RdP.kd {c : Int} {H H' : Hp} {d p : Addr} {ups : List Int} {lab : Str} (h : RdP H d p ups lab) (dk : ∃ c, Deck H p c) (s : Kd p c H H') : RdP H' d p ups lab := by
  obtain ⟨c0, x, y, z, e0, _⟩ := dk
  obtain ⟨ob, kvs, a, b, c, e⟩ := h
  refine ⟨ob, kvs, s.keep _ _ (ne_of a e0 (by intro z; cases z)) a, b, c, fun z v ez => ?_⟩
  obtain ⟨l, e1, n, e2⟩ := e z v ez
  exact ⟨l, e1, n, s.keep _ _ n e2⟩
theorem AgAt.same {H H' : Hp} {r l : Addr} {ups : List Int} {lab : Str} (h : AgAt H r l ups lab) (s : Same H H') : AgAt H' r l ups lab := by
  rcases h with ⟨a, b, c⟩ | ⟨z, a, b, c⟩
  · exact .inl ⟨a, s _ _ b, s _ _ c⟩
  · exact .inr ⟨z, a, s _ _ b, s _ _ c⟩
theorem sm_pair {H : Hp} {p q : Addr} {z : Str} {i : Int} (hp : H p = some (.tup [.str z, .int i])) (hq : H q = some (.tup [.str z, .int i])) : Up (Up (Up S0)) H (.ref p) (.ref q) := by
  refine .inr ⟨p, q, _, _, rfl, rfl, rfl, (by show 2 < 10000; decide), .inr ⟨hp, hq⟩, fun j c d hc hd => ?_⟩
  rw [hc] at hd; cases hd
  rcases j with _ | _ | j
  · cases hc; exact .inl ⟨rfl, .inr ⟨_, rfl⟩⟩
  · cases hc; exact .inl ⟨rfl, .inl ⟨_, rfl⟩⟩
  · simp at hc
theorem sm_pl {H : Hp} {p q l m : Addr} {z : Str} {ns : List Int} (hp : H p = some (.tup [.str z, .ref l])) (hq : H q = some (.tup [.str z, .ref m])) (hl : H l = some (.lst (ns.map V.int))) (hm : H m = some (.lst (ns.map V.int))) (hn : ns.length < 10000) : Up (Up (Up S0)) H (.ref p) (.ref q) := by
  refine .inr ⟨p, q, [.str z, .ref l], [.str z, .ref m], rfl, rfl, rfl, (by show 2 < 10000; decide), .inr ⟨hp, hq⟩, fun j c d hc hd => ?_⟩
  rcases j with _ | _ | j
  · cases hc; cases hd; exact .inl ⟨rfl, .inr ⟨_, rfl⟩⟩
  · cases hc; cases hd
    refine .inr ⟨l, m, _, _, rfl, rfl, rfl, by rw [List.length_map]; exact hn, .inl ⟨hl, hm⟩, fun j c d hc hd => ?_⟩
    rw [hc] at hd; cases hd
    obtain ⟨i, _, rfl⟩ := List.mem_map.mp (List.mem_of_getElem? hc)
    exact .inl ⟨rfl, .inl ⟨_, rfl⟩⟩
  · simp at hc
theorem sm_ag {H : Hp} {p q l m : Addr} {ups : List Int} {lab : Str} (hp : AgAt H p l ups lab) (hq : AgAt H q m ups lab) (hn : ups.length < 10000 := by omega) : Up (Up (Up S0)) H (.ref p) (.ref q) := by
  rcases hp with ⟨n1, a1, a2⟩ | ⟨z, g1, a1, a2⟩
  · rcases hq with ⟨n2, b1, b2⟩ | ⟨y, g2, b1, b2⟩
    · exact sm_pl (ns := []) a1 b1 a2 b2 (by decide)
    · exact absurd g2.2.1 (n1 y g2.1)
  · rcases hq with ⟨n2, b1, b2⟩ | ⟨y, g2, b1, b2⟩
    · exact absurd g1.2.1 (n2 z g1.1)
    · have e := g2.one g1
      subst e
      exact sm_pl a1 b1 a2 b2 (Nat.lt_of_le_of_lt (plc_len _ _ _ _) hn)
section
variable {P : Program} {w : World} {K : PySem.W.Frag} {mg : Str → Option Value} {base : Heap} {k : Nat}
def sp_law (ls : List Lm) : PySem.W.Frag → Sp := fun K vs H Q _ => ∃ (a : Addr) (ns : List Int), vs = [.ref a] ∧ SqL K H a (ns.map V.int) ∧ ns.length ≤ 63 ∧ Lams ls H ∧ ∀ H', Q (.bl true) H'
theorem ok_law {ls : List Lm} {f : Addr} {fd : FuncData} (F : Fun K "law" "law" s_law f fd) (B : Blt7 mg) (G_law_cells : Has P w K mg base "_law_cells" k ["script", "most"] (sp_cells K)) (G_law_pool : Has P w K mg base "_law_pool" k ["cell"] sp_pool) (G_law_tree : Has P w K mg base "_law_tree" k ["pool", "most"] sp_tree)
    (G_law_reads : Has P w K mg base "_law_reads" k ["tree"] sp_reads) (G_law_take : Has P w K mg base "_law_take" k ["pool", "many"] sp_takeL) (G_law_most : Has P w K mg base "_law_most" k ["reads", "length"] sp_lmost) (G_most_read : Has P w K mg base "most_read" k ["tree", "length"] (sp_mr ls))
    (G_law_again : Has P w K mg base "_law_again" k ["reads"] sp_lagn) (G_longest_again : Has P w K mg base "longest_again" k ["tree"] sp_lag) (G_law_same : Has P w K mg base "_law_same" k ["found", "due"] (sp_sm (Up (Up (Up S0))))) :
    FnOk P w K mg base CX0 (k + 1) f fd ["script"] (sp_law ls K) := by
  refine F.ok sc_law (fun vs H Q E h => by obtain ⟨a, ns, rfl, _⟩ := h; rfl) (fun cdv A outer s H vs Q E hr h => ?_)
  obtain ⟨a, ns, rfl, hS, h63, LL, q⟩ := h
  refine ⟨_, (pss_cons (ps_for PassesOwn.never rfl (pi_list (pe_callH G_law_cells hr rfl (pa_cons (pv 0) (pa_cons pe_int pa_nil)))) (pg_name (i := 1) sc_law.nd rfl (by first | exact Or.inl rfl | exact Or.inr rfl))
  (pss_cons (ps_set (i := 2) sc_law.nd rfl (by first | exact Or.inl rfl | exact Or.inr rfl) (pe_callH G_law_pool hr rfl (pa_cons (pv 1) pa_nil)))
  (pss_cons (ps_set (i := 3) sc_law.nd rfl (by first | exact Or.inl rfl | exact Or.inr rfl) (pe_callH G_law_tree hr rfl (pa_cons (pv 2) (pa_cons pe_int pa_nil))))
  (pss_cons (ps_set (i := 4) sc_law.nd rfl (by first | exact Or.inl rfl | exact Or.inr rfl) (pe_callH G_law_reads hr rfl (pa_cons (pv 3) pa_nil)))
  (pss_cons (ps_set (i := 5) sc_law.nd rfl (by first | exact Or.inl rfl | exact Or.inr rfl) (pe_callB (call_max1 rfl) rfl B.max bt_max (pa_cons (pe_comp rfl (pi_dict (pv 4)) (NL := ["word"]) (ix := []) (csc (defScope s_law) N_law) (fun cl C s₃ H₃ fp pins => ⟨(pg_name (i := 0) (show List.Nodup (["word"] : List Str) from by decide +kernel) rfl (by first | exact Or.inl rfl | exact Or.inr rfl)), pifs_nil, (pe_callB call_len_str rfl B.len bt_len (pa_cons (pv 0) pa_nil))⟩)) pa_nil)))
  (pss_cons (ps_set (i := 6) sc_law.nd rfl (by first | exact Or.inl rfl | exact Or.inr rfl) (pe_lst (pa_cons pe_int (pa_cons pe_int (pa_cons (pv 5) (pa_cons (pe_op op_add (pv 5) pe_int) (pa_cons (pe_op op_add (pe_op op_add (pv 5) pe_int) (pe_callH G_law_take hr rfl (pa_cons (pv 2) (pa_cons (pe_op op_pow pe_int pe_int) pa_nil)))) pa_nil)))))))
  (pss_cons (ps_for PassesOwn.never rfl (pi_list (pe_op op_cat (pv 6) (pe_comp rfl (pi_range1 rfl B.range (pa_cons pe_int pa_nil)) (NL := ["turn"]) (ix := [2, 5]) (csc (defScope s_law) N_law) (fun cl C s₃ H₃ fp pins => ⟨(pg_name (i := 0) (show List.Nodup (["turn", "pool", "longest"] : List Str) from by decide +kernel) rfl (by first | exact Or.inl rfl | exact Or.inr rfl)), pifs_nil, (pe_op op_add pe_int (pe_callH G_law_take hr rfl (pa_cons (pv 1) (pa_cons (pv 2) pa_nil))))⟩)))) (pg_name (i := 7) sc_law.nd rfl (by first | exact Or.inl rfl | exact Or.inr rfl))
  (pss_cons (ps_set (i := 8) sc_law.nd rfl (by first | exact Or.inl rfl | exact Or.inr rfl) (pe_callH G_law_most hr rfl (pa_cons (pv 4) (pa_cons (pv 7) pa_nil))))
  (pss_cons (ps_set (i := 9) sc_law.nd rfl (by first | exact Or.inl rfl | exact Or.inr rfl) (pe_callH G_most_read hr rfl (pa_cons (pv 3) (pa_cons (pv 7) pa_nil))))
  (pss_one (ps_if (PW.pt (pw_or (PW.pt (pw_and (pt_cmpR op_isN (pv 8) pe_non (nomark _)) (pw_and1 (pt_cmpR op_notN (pv 9) pe_non (nomark _))))) (pw_or1 (PW.pt (pw_and (pt_cmpR op_notN (pv 8) pe_non (nomark _)) (pw_and1 (pt_not (pt_val (pe_callH G_law_same hr rfl (pa_cons (pv 9) (pa_cons (pv 8) pa_nil)))))))))))
  (pss_one (ps_ret pe_bl))
  pss_nil)))))
  (pss_cons (ps_set (i := 8) sc_law.nd rfl (by first | exact Or.inl rfl | exact Or.inr rfl) (pe_callH G_law_again hr rfl (pa_cons (pv 4) pa_nil)))
  (pss_cons (ps_set (i := 9) sc_law.nd rfl (by first | exact Or.inl rfl | exact Or.inr rfl) (pe_callH G_longest_again hr rfl (pa_cons (pv 3) pa_nil)))
  (pss_cons (ps_if (pt_not (pt_val (pe_callH G_law_same hr rfl (pa_cons (pv 9) (pa_cons (pv 8) pa_nil)))))
  (pss_one (ps_ret pe_bl))
  pss_nil)
  (pss_cons (ps_expr (pe_bm PySem.F.plainAttrs_list PySem.F.slot_list_append PySem.F.type_list_append mt_append (pe_ix ix_tup (pv 9) pe_int (fun _ _ => rfl)) (pa_cons pe_int pa_nil)))
  (pss_one (ps_if (pt_not (pt_val (pe_callH G_law_same hr rfl (pa_cons (pe_callH G_longest_again hr rfl (pa_cons (pv 3) pa_nil)) (pa_cons (pe_callH G_law_again hr rfl (pa_cons (pv 4) pa_nil)) pa_nil)))))
  (pss_one (ps_ret pe_bl))
  pss_nil)))))))))))))
  (pss_one (ps_ret pe_bl))), ?_⟩
  refine ⟨_, rfl, a, ns, 4, rfl, hS, h63, by decide, by decide, fun r ms H1 s1 hf1 hr1 ml => ?_⟩
  refine ⟨r, rfl, ⟨_, SqL.of hr1⟩, ?_⟩
  refine for_list (xs := ms.map V.int) (fun i σ H' => ∃ o1 o2 o3 o4 o5 o6 o7 o8 o9 : Option V, σ = [some (.ref a), o1, o2, o3, o4, o5, o6, o7, o8, o9] ∧ Kt ls H1 H') ⟨none, none, none, none, none, none, none, none, none, rfl, Kt.refl (LL.same s1)⟩ (fun i σ H' _ h => by obtain ⟨_, _, _, _, _, _, _, _, _, _, kX⟩ := h; exact SqL.of (kX.lst hr1)) ?_ ?_
  rotate_left
  · rintro σ H' ⟨o1, o2, o3, o4, o5, o6, o7, o8, o9, rfl, kX⟩
    exact q H'
  rintro i x σ H0 hx ⟨o1, o2, o3, o4, o5, o6, o7, o8, o9, rfl, k1⟩
  obtain ⟨cell, _, rfl⟩ := List.mem_map.mp (List.mem_of_getElem? hx)
  refine ⟨_, rfl, cell, rfl, fun p x y hp => ?_⟩
  have dk0 : Deck (upd H0 p (.lst [.int x, .int y, .int 0])) p 0 := ⟨x, y, 0, upd_same, by decide, by decide⟩
  have kp0 : Kt ls H0 (upd H0 p (.lst [.int x, .int y, .int 0])) := (Kt.refl k1.lam).same ((Same.refl H0).new hp)
  show (fun HH => _) (upd H0 p (.lst [.int x, .int y, .int 0]))
  generalize upd H0 p (.lst [.int x, .int y, .int 0]) = HP at dk0 kp0
  refine ⟨_, rfl, p, 60, 0, rfl, dk0, by decide, by decide, by decide, by decide, fun t ups lab H2 kd2 tr2 fine => ?_⟩
  have kt2 := Kt.kd kp0 ⟨_, dk0⟩ hp kd2
  obtain ⟨_, _, _, ok⟩ := id tr2
  have m60 := ok.most
  refine ⟨_, rfl, t, ups, lab, rfl, tr2, fun d kvs H3 s3 hf3 hd3 kp kl ly => ?_⟩
  have kt3 := kt2.same s3
  have hd0 : H0 d = none := kt2.here d hf3
  have zl : ∀ z ∈ kzs kvs, 1 ≤ z.length ∧ z.length ≤ 60 := fun z hz => prefN_len ok ((kzs_mem kp z).mp hz)
  have kzl := kzs_len kvs
  -- longest
  refine ⟨_, rfl, d, kvs, rfl, .inl hd3, fun ob H4 e4 _ => ?_⟩
  have kt4 : Kt ls H0 H4 := by rw [e4]; exact Kt.frz kt3 hd0 hd3
  have hd4 : H4 d = some (.frz ob (.dK kvs)) := by rw [e4]; exact upd_same
  have k34 : ∀ b o, b ≠ d → H3 b = some o → H4 b = some o := fun b o n e => by rw [e4, upd_ne n]; exact e
  clear e4
  have dk4 : Deck H4 p 400 := by
    obtain ⟨a1, a2, a3, a4, a5⟩ := Deck.same kd2.deck s3
    exact ⟨a1, a2, a3, k34 _ _ (ne_of a4 hd3 (by intro z; cases z)) a4, by omega, by omega⟩
  have tr4 : TreeAt H4 t ups lab := by
    obtain ⟨u, b1, b2, b3⟩ := tr2.same s3
    exact ⟨u, k34 _ _ (ne_of b1 hd3 (by intro z; cases z)) b1, k34 _ _ (ne_of b2 hd3 (by intro z; cases z)) b2, b3⟩
  have rd4 : RdP H4 d p ups lab := by
    refine ⟨ob, kvs, hd4, kp, kl, fun z v ez => ?_⟩
    obtain ⟨l, e1, e2, e3⟩ := ly z v ez
    exact ⟨l, e1, kd2.deck.ne e2, k34 _ _ (ne_of e3 hd3 (by intro z; cases z)) e3⟩
  refine fun acc hacc => ?_
  refine comp_dict (a := d) (o := ob) (kvs := kvs) (by omega) (fun i ys HX => HX acc = some (.lst ys) ∧ Same H4 HX ∧ ys = (((kzs kvs).take i).map fun z => (z.length : Int)).map V.int)
    (fun i ys HX h => h.2.1 _ _ hd4) (fun i ys HX h => ⟨h.1, by rw [h.2.2, List.length_map, List.length_map, List.length_take]; omega⟩) ⟨upd_same, (Same.refl H4).new hacc, rfl⟩ ?_ ?_
  rotate_left
  · rintro i k v ys HX e ⟨g1, g2, rfl⟩
    obtain ⟨z, rfl, ez⟩ := kat_of kp e
    have zb := zl z (List.mem_of_getElem? ez)
    refine ⟨rfl, _, rfl, z, rfl, Nat.le_of_lt (small1000 (by omega)), g1, upd_same, g2.write hacc, ?_⟩
    rw [List.take_succ, ez, List.map_append, List.map_append]; rfl
  rintro ys H5 ⟨g5, s5, rfl⟩
  rw [← kzl, List.take_length] at g5
  have kne : kzs kvs ≠ [] := fun e => by
    have : mk (W ups lab.cps.toList 0) ∈ kzs kvs := (kzs_mem kp _).mpr ⟨fun c => ?_, 0, ok.pos, List.prefix_refl _⟩
    · rw [e] at this; cases this
    · rw [mk_cps, W_eq ok ok.pos] at c; cases c
  refine ⟨acc, (kzs kvs).map fun z => (z.length : Int), rfl, SqL.of g5, by simpa using kne, fun m hm mx => ?_⟩
  have mb : 1 ≤ m ∧ m ≤ 60 := by
    obtain ⟨z, hz, e⟩ := List.mem_map.mp hm
    have := zl z hz
    omega
  clear hm mx
  have dk5 := Deck.same dk4 s5
  refine ⟨_, rfl, _, rfl, _, _, rfl, rfl, _, rfl, _, _, rfl, rfl, _, rfl, _, _, rfl, rfl, ⟨by decide, by decide, by decide⟩, p, _, 400, rfl, dk5, by decide, ten590, ten59, fun n1 H6 a0 a1 kd6 => ?_⟩
  clear a1
  have kt5 := kt4.same s5
  have kt6 := Kt.kd kt5 ⟨_, dk5⟩ hp kd6
  have tr6 := TreeAt.kd (tr4.same s5) ⟨_, dk5⟩ kd6
  have rd6 := RdP.kd (RdP.kt rd4 (Kt.of s5 kt4.lam)) ⟨_, dk5⟩ kd6
  refine ⟨_, _, rfl, rfl, (by show 5 ≤ sizeLine; decide), fun ll hll => ?_⟩
  have s7 : Same H6 (upd H6 ll (.lst [.int 1, .int 2, .int m, .int (m + 1), .int (m + 2 + n1)])) := (Same.refl H6).new hll
  have h7 : upd H6 ll (.lst [.int 1, .int 2, .int m, .int (m + 1), .int (m + 2 + n1)]) ll = some (.lst ([1, 2, m, m + 1, m + 2 + n1].map V.int)) := upd_same
  have nll : ll ≠ p := kd6.deck.ne hll
  show gName 6 (V.ref ll) _ (upd H6 ll _) _
  generalize upd H6 ll (.lst [.int 1, .int 2, .int m, .int (m + 1), .int (m + 2 + n1)]) = H7 at s7 h7
  have kt7 := kt6.same s7
  have dk7 := Deck.same kd6.deck s7
  have tr7 := tr6.same s7
  have rd7 := RdP.kt rd6 (Kt.of s7 kt6.lam)
  refine ⟨_, rfl, 4, rfl, by decide, by decide, fun acc2 hacc2 => ?_⟩
  have na2 : acc2 ≠ p := dk7.ne hacc2
  refine comp_by 4 (by decide) (fun j ys HX => HX acc2 = some (.lst ys) ∧ Kd p (401 + j) H7 HX ∧ ∃ js : List Int, ys = js.map V.int ∧ js.length = j ∧ ∀ x ∈ js, 1 ≤ x)
    (fun j ys HX h => ⟨h.1, by obtain ⟨js, e, l, _⟩ := h.2.2; rw [e, List.length_map, l]; exact Nat.le_refl _⟩) ⟨upd_same, ((Kd.refl dk7).mono (by decide)).new hacc2, [], rfl, rfl, fun x h => nomatch h⟩ ?_ ?_
  rotate_left
  · rintro j ys HX hj ⟨g1, g2, js, rfl, jl, jb⟩
    refine ⟨hj, ?_⟩
    rintro x H8 ⟨rfl, rfl⟩
    refine ⟨rfl, ?_⟩
    refine ⟨_, rfl, _, rfl, p, m, _, rfl, g2.deck, by omega, by omega, Int.lt_trans (show m < 16 * 4 by omega) (Int.lt_trans (by decide : (16 * 4 : Int) < 10 ^ (59 : Int).toNat) ten59), fun n H9 b0 b1 kd9 => ⟨_, _, rfl, rfl, kd9.keep _ _ na2 g1, upd_same, ?_, js ++ [1 + n], by rw [List.map_append]; rfl, by simp [jl], fun x hx => ?_⟩⟩
    · exact ((g2.trans kd9).mono (by omega)).write hacc2 na2
    · rcases List.mem_append.mp hx with z | z
      · exact jb x z
      · rw [List.mem_singleton.mp z]; omega
  rintro ys H8 ⟨g8, kd8, js, rfl, jl, jb⟩
  refine ⟨Nat.le_refl _, ?_⟩
  have kt8 := Kt.kd kt7 ⟨_, dk7⟩ hp kd8
  have tr8 := TreeAt.kd tr7 ⟨_, dk7⟩ kd8
  have rd8 := RdP.kd rd7 ⟨_, dk7⟩ kd8
  refine ⟨ll, acc2, _, _, rfl, rfl, kd8.keep _ _ nll h7, g8, ?_, fun cc hcc => ?_⟩
  · rw [List.length_map, List.length_map, jl]; show 5 + 4 ≤ sizeLine; decide
  rw [← List.map_append]
  have lb : ∀ x ∈ [1, 2, m, m + 1, m + 2 + n1] ++ js, 1 ≤ x := fun x hx => by
    rcases List.mem_append.mp hx with z | z
    · simp only [List.mem_cons, List.not_mem_nil, or_false] at z
      rcases z with z | z | z | z | z <;> omega
    · exact jb x z
  generalize [1, 2, m, m + 1, m + 2 + n1] ++ js = Ls at lb
  have s9 : Same H8 (upd H8 cc (.lst (Ls.map V.int))) := (Same.refl H8).new hcc
  have h9 : upd H8 cc (.lst (Ls.map V.int)) cc = some (.lst (Ls.map V.int)) := upd_same
  generalize upd H8 cc (.lst (Ls.map V.int)) = H9 at s9 h9
  have kt9 := kt8.same s9
  have tr9 := tr8.same s9
  have rd9 := RdP.kt rd8 (Kt.of s9 kt8.lam)
  refine ⟨cc, rfl, ⟨_, SqL.of h9⟩, ?_⟩
  refine for_list (xs := Ls.map V.int) (fun i σ H' => ∃ o7 o8 o9 : Option V, σ = [some (.ref a), some (.int cell), some (.ref p), some (.ref t), some (.ref d), some (.int m), some (.ref ll), o7, o8, o9] ∧ Kt ls H9 H') ⟨_, _, _, rfl, Kt.refl kt9.lam⟩ (fun i σ H' _ h => by obtain ⟨_, _, _, _, kX⟩ := h; exact SqL.of (kX.lst h9)) ?_ ?_
  · rintro i x σ HA hx ⟨o7, o8, o9, rfl, kA⟩
    obtain ⟨L, hL, rfl⟩ := List.mem_map.mp (List.mem_of_getElem? hx)
    refine ⟨_, rfl, _, rfl, d, ups, lab, L, rfl, ok, (RdP.kt rd9 kA).rds, fun v HB sB mo => ?_⟩
    have kB := kA.same sB
    refine ⟨_, rfl, _, rfl, t, ups, lab, L, rfl, TreeAt.kt tr9 kB, kB.lam, lb L hL, fun v' HC kC mo' => ?_⟩
    have kAC := kB.trans kC
    rcases mo with ⟨nz, rfl⟩ | ⟨z, r1, mz, rfl, hr1⟩
    · rcases mo' with ⟨nz', rfl⟩ | ⟨z', r2, mz', rfl, hr2⟩
      · refine ⟨_, rfl, rfl, _, rfl, ite2 (fun _ => ⟨_, rfl, rfl, _, rfl, ite2 (fun c => by simp at c) (fun _ => ⟨_, rfl, rfl, _, rfl, ite2 (fun c => by simp at c) (fun _ => ?_)⟩)⟩) (fun c => by simp at c)⟩
        exact iteF ⟨_, _, _, rfl, kAC⟩
      · exact absurd mz'.2.1 (nz z' mz'.1)
    · rcases mo' with ⟨nz', rfl⟩ | ⟨z', r2, mz', rfl, hr2⟩
      · exact absurd mz.2.1 (nz' z mz.1)
      · have ez := mz'.one mz
        subst ez
        have hr1' := kC.tup hr1
        refine ⟨_, rfl, rfl, _, rfl, ite2 (fun c => by simp at c) (fun _ => ⟨_, rfl, rfl, _, rfl, ite2 (fun _ => ⟨_, rfl, _, rfl, _, _, rfl, ?_, fun HD sD => ⟨_, rfl, ?_⟩⟩) (fun c => by simp at c)⟩)⟩
        · exact sm_pair hr2 hr1'
        · exact iteF ⟨_, _, _, rfl, kAC.same sD⟩
  · rintro σ HA ⟨o7, o8, o9, rfl, kA⟩
    have rdA := RdP.kt rd9 kA
    have trA := TreeAt.kt tr9 kA
    refine ⟨_, rfl, d, ups, lab, rfl, ok, rdA.rds, fun r1 l1 HB sB ag1 => ?_⟩
    refine ⟨_, rfl, t, ups, lab, rfl, trA.same sB, fun r2 l2 HC sC nl2 ag2 => ?_⟩
    have ag1C := AgAt.same ag1 sC
    refine ⟨_, rfl, _, rfl, _, _, rfl, sm_ag ag2 ag1C, fun HD sD => ⟨_, rfl, iteF ?_⟩⟩
    have ag2D := AgAt.same ag2 sD
    obtain ⟨xs, z2, hr2, hl2, xl⟩ : ∃ (xs : List V) (z2 : Str), HD r2 = some (.tup [.str z2, .ref l2]) ∧ HD l2 = some (.lst xs) ∧ xs.length ≤ 60 := by
      rcases ag2D with ⟨_, a1, a2⟩ | ⟨z, _, a1, a2⟩
      · exact ⟨_, _, a1, a2, Nat.zero_le _⟩
      · exact ⟨_, _, a1, a2, by rw [List.length_map]; exact Nat.le_trans (plc_len _ _ _ _) ok.most⟩
    refine ⟨_, rfl, r2, _, _, _, rfl, rfl, SqT.of hr2, rfl, .inl ⟨rfl, _, SqL.of hl2⟩, l2, xs, _, rfl, rfl, hl2, small1000 (by omega), ?_⟩
    have sBE : Same HB (upd HD l2 (.lst (xs ++ [.int 0]))) := (sC.trans sD).write nl2
    generalize upd HD l2 (.lst (xs ++ [.int 0])) = HE at sBE
    refine ⟨_, rfl, t, ups, lab, rfl, (trA.same sB).same sBE, fun r3 l3 HF sF nl3 ag3 => ?_⟩
    refine ⟨_, rfl, d, ups, lab, rfl, ok, ((rdA.rds.same sB).same sBE).same sF, fun r4 l4 HG sG ag4 => ?_⟩
    refine ⟨_, _, rfl, sm_ag (AgAt.same ag3 sG) ag4, fun HI sI => ⟨_, rfl, iteF ?_⟩⟩
    exact ⟨_, _, _, _, _, _, _, _, _, rfl, k1.trans (kt9.trans (kA.same (((sB.trans sBE).trans (sF.trans sG)).trans sI)))⟩
end
end S21


set_option Elab.async false
set_option linter.all false
set_option maxRecDepth 100000
set_option maxHeartbeats 8000000
namespace S21
open PySem L2 W7
theorem df_mk {K : PySem.W.Frag} {h : Heap} {mg : Str → Option Value} {x : Str} {st : Stmt} {f : Addr} {oc : Value} {od an : Option Addr} {osl : Array (Option Value)} {kV doc pm cdv ct : Value} (X : K.In h) (G : h.Ns mainGlobals mg)
    (a : PySem.W.nsIn K mainGlobals x = some (some (.ref f))) (l : K.lookup f = some ⟨oc, od, .func (PySem.W.fnOf x x (defArgs st) (defBody st) (defScope st) .none kV doc pm an cdv ct), osl⟩) (c : PySem.W.codeIn K cdv x = true) (kk : PySem.W.keepIn K (.ref f) = true) : Df K mg x st :=
  ⟨f, _, fun_mk l c kk, PySem.W.mg_of X G a⟩
theorem blt_mk {K : PySem.W.Frag} {h : Heap} {mg : Str → Option Value} (X : K.In h) (G : h.Ns mainGlobals mg)
    (z1 : PySem.W.nsIn K mainGlobals "len" = some none) (z2 : PySem.W.nsIn K mainGlobals "range" = some none) (z3 : PySem.W.nsIn K mainGlobals "zip" = some none) (z4 : PySem.W.nsIn K mainGlobals "enumerate" = some none)
    (z5 : PySem.W.nsIn K mainGlobals "max" = some none) (z6 : PySem.W.nsIn K mainGlobals "min" = some none) (z7 : PySem.W.nsIn K mainGlobals "int" = some none) (z8 : PySem.W.nsIn K mainGlobals "str" = some none)
    (z9 : PySem.W.nsIn K mainGlobals "bool" = some none) (z10 : PySem.W.nsIn K mainGlobals "list" = some none) (z11 : PySem.W.nsIn K mainGlobals "tuple" = some none) (z12 : PySem.W.nsIn K mainGlobals "isinstance" = some none) : Blt mg :=
  ⟨PySem.W.mg_none_of X G z1, PySem.W.mg_none_of X G z2, PySem.W.mg_none_of X G z3, PySem.W.mg_none_of X G z4, PySem.W.mg_none_of X G z5, PySem.W.mg_none_of X G z6, PySem.W.mg_none_of X G z7, PySem.W.mg_none_of X G z8,
    PySem.W.mg_none_of X G z9, PySem.W.mg_none_of X G z10, PySem.W.mg_none_of X G z11, PySem.W.mg_none_of X G z12⟩
theorem all_ok {P : Program} {w : World} {K : PySem.W.Frag} {mg : Str → Option Value} {fa : Addr} (hfa : mg "law" = some (.ref fa)) (B : Blt7 mg)
    (d1 : Df K mg "words_of" s_words_of) (d2 : Df K mg "alike_of" s_alike_of) (d3 : Df K mg "many_alike" s_many_alike) (d4 : Df K mg "places_of" s_places_of) (d5 : Df K mg "most_read" s_most_read) (d6 : Df K mg "longest_again" s_longest_again) (d7 : Df K mg "_law_prime" s_law_prime) (d8 : Df K mg "_law_pool" s_law_pool) (d9 : Df K mg "_law_take" s_law_take) (d10 : Df K mg "_law_cells" s_law_cells) (d11 : Df K mg "_law_letter" s_law_letter) (d12 : Df K mg "_law_tree" s_law_tree) (d13 : Df K mg "_law_word" s_law_word) (d14 : Df K mg "_law_reads" s_law_reads) (d15 : Df K mg "_law_same" s_law_same) (d16 : Df K mg "_law_most" s_law_most) (d17 : Df K mg "_law_again" s_law_again) (d18 : Df K mg "law" s_law) :
    ∃ fd : FuncData, (∀ (s : Shared) (v : Value), BindsTo s fd ⟨[v], []⟩ [("script", v)]) ∧ ∀ (Ts : List Addr) (base : Heap), K.In base → Two (TabAt base mg) ["most_read"] Ts → FnOk P w K mg base CX0 12 fa fd ["script"] (sp_law (lamsOf Ts) K) := by
  obtain ⟨f, fd, F, m⟩ := d18
  have e := hfa.symm.trans m
  cases e
  refine ⟨fd, ?_, fun Ts base kb TT => ?_⟩
  · obtain ⟨oc, od, kV, doc, pm, an, cdv, ct, osl, rfl, _, _⟩ := F.ex
    exact fun s v => .of_eq rfl
  cases TT with
  | cons TA1 TT2 =>
    rename_i T1 _
    cases TT2
    have LK : LmOk (lamsOf [T1]) := lm_ok _
    have LI1 : (T1, lpM, qM) ∈ lamsOf [T1] := List.mem_cons_self ..
    have g_words := has_words (P := P) (w := w) (base := base) (k := 0) d1 B.toBlt
    have g_alike := has_alike (P := P) (w := w) (base := base) (k := 0) d3 B
    have g_alikes := has_alikes (k := 1) d2 B g_words g_alike
    have g_places := has_places (k := 1) d4 B g_words
    have g_mr := has_mr (k := 1) d5 B kb TA1 LK LI1 g_words
    have g_lag := has_lag (k := 2) d6 B (g_words.mono (by decide)) g_alikes g_places
    have g_prime := has_prime (P := P) (w := w) (base := base) (k := 0) d7 B.toBlt
    have g_pool := has_pool (P := P) (w := w) (base := base) (k := 0) d8 B.toBlt
    have g_take := has_take (k := 1) d9 B.toBlt g_prime
    have g_takeL := has_takeL (k := 1) d9 B.toBlt g_prime
    have g_letter := has_letter (k := 2) d11 B.toBlt g_take
    have g_tree := has_tree (k := 3) d12 B.toBlt (g_take.mono (by decide)) g_letter
    have g_cells := has_cells (P := P) (w := w) (base := base) (k := 0) d10 B.toBlt
    have g_lword := has_lword (P := P) (w := w) (base := base) (k := 0) d13 B.toBlt
    have g_reads := has_reads (k := 1) d14 B g_lword
    have g_lmost := has_lmost (P := P) (w := w) (base := base) (k := 0) d16 B
    have g_lagn := has_lagn (P := P) (w := w) (base := base) (k := 0) d17 B
    have g_sm0 := has_sm0 (P := P) (w := w) (base := base) (k := 0) d15
    have g_sm1 := has_sm (k := 1) mon0 d15 B g_sm0
    have g_sm2 := has_sm (k := 2) mon0.up d15 B g_sm1
    have g_sm3 := has_sm (k := 3) mon0.up.up d15 B g_sm2
    exact (ok_law (k := 4) F B (g_cells.mono (by decide)) (g_pool.mono (by decide)) g_tree (g_reads.mono (by decide)) (g_takeL.mono (by decide)) (g_lmost.mono (by decide)) (g_mr.mono (by decide)) (g_lagn.mono (by decide)) (g_lag.mono (by decide)) g_sm3).mono (by decide)
end S21
open PySem PySem.W PyProof.Rows
set_option maxRecDepth 100000 in
set_option maxHeartbeats 0 in
theorem PySem.Challenge.cw_upwords_k21_most_read_and_again_holds : PySem.Challenge.rw_upwords_k21_most_read_and_again.Holds := by
  w_on; o_law; k_head; (case hw => w_witness2)
  k_fill
  refine L2.walk_ofT (l := PySem.Challenge.rw_upwords_k21_most_read_and_again) (n := 63) (k := 12) (x := "script") (nms := ["most_read"]) (CX := L2.CX0) (sp := fun Ts => S21.sp_law (S21.lamsOf Ts)) rfl (by decide) rfl ⟨rfl, by decide, by decide, rfl⟩ (fun w h Y => PySem.W.km_in_of Y) (.cons rfl .nil) (fun w => by kernel_rfl) ?F
    (fun K Ts H a ns hl hlen hT hS => ⟨a, ns, rfl, hS, hl, S21.lams_start hlen hT, fun _ => rfl⟩) (fun _ _ _ _ z => z)
  case F =>
    intro w mg fa h KX G hmg
    have B : L2.Blt mg := by
      refine' S21.blt_mk KX G ?z1 ?z2 ?z3 ?z4 ?z5 ?z6 ?z7 ?z8 ?z9 ?z10 ?z11 ?z12
      (case z1 => k_is); (case z2 => k_is); (case z3 => k_is); (case z4 => k_is); (case z5 => k_is); (case z6 => k_is); (case z7 => k_is); (case z8 => k_is); (case z9 => k_is); (case z10 => k_is); (case z11 => k_is); (case z12 => k_is)
    have Bx0 : mg "sorted" = none := by
      refine' PySem.W.mg_none_of KX G ?z
      (case z => k_is)
    have Bx1 : mg "all" = none := by
      refine' PySem.W.mg_none_of KX G ?z
      (case z => k_is)
    have Bx2 : mg "repr" = none := by
      refine' PySem.W.mg_none_of KX G ?z
      (case z => k_is)
    have Bx3 : mg "set" = none := by
      refine' PySem.W.mg_none_of KX G ?z
      (case z => k_is)
    have d1 : L2.Df (L2.KOf KX) mg "words_of" S21.s_words_of := by
      dsimp only [L2.KOf]; refine' S21.df_mk KX G ?a ?l ?c ?k
      (case a => k_is); (case l => k_is); (case c => k_is); (case k => k_is)
    have d2 : L2.Df (L2.KOf KX) mg "alike_of" S21.s_alike_of := by
      dsimp only [L2.KOf]; refine' S21.df_mk KX G ?a ?l ?c ?k
      (case a => k_is); (case l => k_is); (case c => k_is); (case k => k_is)
    have d3 : L2.Df (L2.KOf KX) mg "many_alike" S21.s_many_alike := by
      dsimp only [L2.KOf]; refine' S21.df_mk KX G ?a ?l ?c ?k
      (case a => k_is); (case l => k_is); (case c => k_is); (case k => k_is)
    have d4 : L2.Df (L2.KOf KX) mg "places_of" S21.s_places_of := by
      dsimp only [L2.KOf]; refine' S21.df_mk KX G ?a ?l ?c ?k
      (case a => k_is); (case l => k_is); (case c => k_is); (case k => k_is)
    have d5 : L2.Df (L2.KOf KX) mg "most_read" S21.s_most_read := by
      dsimp only [L2.KOf]; refine' S21.df_mk KX G ?a ?l ?c ?k
      (case a => k_is); (case l => k_is); (case c => k_is); (case k => k_is)
    have d6 : L2.Df (L2.KOf KX) mg "longest_again" S21.s_longest_again := by
      dsimp only [L2.KOf]; refine' S21.df_mk KX G ?a ?l ?c ?k
      (case a => k_is); (case l => k_is); (case c => k_is); (case k => k_is)
    have d7 : L2.Df (L2.KOf KX) mg "_law_prime" S21.s_law_prime := by
      dsimp only [L2.KOf]; refine' S21.df_mk KX G ?a ?l ?c ?k
      (case a => k_is); (case l => k_is); (case c => k_is); (case k => k_is)
    have d8 : L2.Df (L2.KOf KX) mg "_law_pool" S21.s_law_pool := by
      dsimp only [L2.KOf]; refine' S21.df_mk KX G ?a ?l ?c ?k
      (case a => k_is); (case l => k_is); (case c => k_is); (case k => k_is)
    have d9 : L2.Df (L2.KOf KX) mg "_law_take" S21.s_law_take := by
      dsimp only [L2.KOf]; refine' S21.df_mk KX G ?a ?l ?c ?k
      (case a => k_is); (case l => k_is); (case c => k_is); (case k => k_is)
    have d10 : L2.Df (L2.KOf KX) mg "_law_cells" S21.s_law_cells := by
      dsimp only [L2.KOf]; refine' S21.df_mk KX G ?a ?l ?c ?k
      (case a => k_is); (case l => k_is); (case c => k_is); (case k => k_is)
    have d11 : L2.Df (L2.KOf KX) mg "_law_letter" S21.s_law_letter := by
      dsimp only [L2.KOf]; refine' S21.df_mk KX G ?a ?l ?c ?k
      (case a => k_is); (case l => k_is); (case c => k_is); (case k => k_is)
    have d12 : L2.Df (L2.KOf KX) mg "_law_tree" S21.s_law_tree := by
      dsimp only [L2.KOf]; refine' S21.df_mk KX G ?a ?l ?c ?k
      (case a => k_is); (case l => k_is); (case c => k_is); (case k => k_is)
    have d13 : L2.Df (L2.KOf KX) mg "_law_word" S21.s_law_word := by
      dsimp only [L2.KOf]; refine' S21.df_mk KX G ?a ?l ?c ?k
      (case a => k_is); (case l => k_is); (case c => k_is); (case k => k_is)
    have d14 : L2.Df (L2.KOf KX) mg "_law_reads" S21.s_law_reads := by
      dsimp only [L2.KOf]; refine' S21.df_mk KX G ?a ?l ?c ?k
      (case a => k_is); (case l => k_is); (case c => k_is); (case k => k_is)
    have d15 : L2.Df (L2.KOf KX) mg "_law_same" S21.s_law_same := by
      dsimp only [L2.KOf]; refine' S21.df_mk KX G ?a ?l ?c ?k
      (case a => k_is); (case l => k_is); (case c => k_is); (case k => k_is)
    have d16 : L2.Df (L2.KOf KX) mg "_law_most" S21.s_law_most := by
      dsimp only [L2.KOf]; refine' S21.df_mk KX G ?a ?l ?c ?k
      (case a => k_is); (case l => k_is); (case c => k_is); (case k => k_is)
    have d17 : L2.Df (L2.KOf KX) mg "_law_again" S21.s_law_again := by
      dsimp only [L2.KOf]; refine' S21.df_mk KX G ?a ?l ?c ?k
      (case a => k_is); (case l => k_is); (case c => k_is); (case k => k_is)
    have d18 : L2.Df (L2.KOf KX) mg "law" S21.s_law := by
      dsimp only [L2.KOf]; refine' S21.df_mk KX G ?a ?l ?c ?k
      (case a => k_is); (case l => k_is); (case c => k_is); (case k => k_is)
    obtain ⟨fd, h1, h2⟩ := S21.all_ok (P := PySem.Challenge.rw_upwords_k21_most_read_and_again.prog) (w := w) hmg ⟨B, Bx0, Bx1, Bx2, Bx3⟩ d1 d2 d3 d4 d5 d6 d7 d8 d9 d10 d11 d12 d13 d14 d15 d16 d17 d18
    exact ⟨fd, h1, fun Ts base kb _ TA => h2 Ts base kb TA⟩

