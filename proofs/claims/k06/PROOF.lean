import PyProof.Rows.All
import Wide.All
import OpenK.AllK
import Wide.FinOn
import Lean
import PyProof.EqAt
import PyProof.EqKinds
import PyProof.TupleCall
import PyProof.WalkInts
import PyProof.NeKinds
import KE.KSortTup
import KE.KLam
import PyProof.ListRange
import KE.KDictOf
import PyProof.DictWalks
import PyProof.AttrMissSeq
import KE.KDictSum
import PyProof.Rows.TupAdd
import PyProof.Rows.RuleIs
import KE.KTryOn
import PyProof.NsDelKeeps
import PySem.Challenge.RW_upwords_k06_forms_counted
set_option Elab.async false
set_option linter.all false
set_option maxRecDepth 100000
/-! THE HAND LAYER, for ints, bools, texts, own classes, LISTS and tuples (index, slices, in, append, pop ..), calls, loops. Paste it whole ahead of your own text; what your proof does not reach may be deleted. -/
namespace L2
open PySem PySem.Spec PyProof.Rows

/-- a key: an int or a str -/
abbrev Key := Sum Int Str
def keyIs : Key → Value → Bool
  | .inl k, v => Value.isInt k v
  | .inr x, v => Value.isStrOf x v
def keyH (w : World) : Key → Int
  | .inl k => hashInt k
  | .inr x => hashStr w x
theorem keyIs_shape : ∀ {k : Key} {v : Value}, keyIs k v = true → (∃ i t, k = Sum.inl i ∧ v = Value.int i t) ∨ (∃ x t, k = Sum.inr x ∧ v = Value.str x t)
  | .inl i, v, h => by
    obtain ⟨t, e⟩ := Value.isInt_shape (k := i) (v := v) h
    exact .inl ⟨i, t, rfl, e⟩
  | .inr x, v, h => by
    obtain ⟨t, e⟩ := Value.isStrOf_shape (x := x) (v := v) h
    exact .inr ⟨x, t, rfl, e⟩
theorem keyIs_int (i : Int) (t : Tok) : keyIs (.inl i) (.int i t) = true := by simp [keyIs, Value.isInt]
theorem keyIs_str (x : Str) (t : Tok) : keyIs (.inr x) (.str x t) = true := by simp [keyIs, Value.isStrOf]
theorem key_ll (a b : Int) : decide ((Sum.inl a : Key) = Sum.inl b) = (a == b) := by
  by_cases e : a = b
  · subst e; simp
  · have h : ¬ (Sum.inl a : Key) = Sum.inl b := fun q => e (Sum.inl.inj q)
    rw [decide_eq_false h]
    exact (beq_eq_false_iff_ne.mpr e).symm
theorem key_rr (a b : Str) : decide ((Sum.inr a : Key) = Sum.inr b) = decide (a = b) := by
  by_cases e : a = b
  · subst e; simp
  · have h : ¬ (Sum.inr a : Key) = Sum.inr b := fun q => e (Sum.inr.inj q)
    rw [decide_eq_false h, decide_eq_false e]
theorem key_lr (a : Int) (b : Str) : decide ((Sum.inl a : Key) = Sum.inr b) = false := decide_eq_false (fun q => nomatch q)
theorem key_rl (a : Str) (b : Int) : decide ((Sum.inr a : Key) = Sum.inl b) = false := decide_eq_false (fun q => nomatch q)

def mixKind (prog : Program) (w : World) : PySem.KeyKind prog w Key where
  is := keyIs
  hash := keyH w
  inj := fun v a b ha hb => by
    rcases keyIs_shape ha with ⟨i, t, rfl, rfl⟩ | ⟨x, t, rfl, rfl⟩
    · rcases keyIs_shape hb with ⟨j, u, rfl, e⟩ | ⟨y, u, rfl, e⟩
      · injection e with e1 _; rw [e1]
      · exact nomatch e
    · rcases keyIs_shape hb with ⟨j, u, rfl, e⟩ | ⟨y, u, rfl, e⟩
      · exact nomatch e
      · injection e with e1 _; rw [e1]
  byValue := fun k v h => by
    rcases keyIs_shape h with ⟨i, t, rfl, rfl⟩ | ⟨x, t, rfl, rfl⟩ <;> rfl
  pyHash := fun hv h => by
    rcases keyIs_shape hv with ⟨i, t, rfl, rfl⟩ | ⟨x, t, rfl, rfl⟩
    · exact wpAny_pyHash_int h
    · exact wpAny_pyHash_str h
  eqBool := fun hu hv h => by
    rcases keyIs_shape hu with ⟨i, t, rfl, rfl⟩ | ⟨x, t, rfl, rfl⟩
    · rcases keyIs_shape hv with ⟨j, u, rfl, rfl⟩ | ⟨y, u, rfl, rfl⟩
      · rw [key_ll] at h; exact wpAny_eqBool_int h
      · rw [key_lr] at h; exact SeqAt.EqAt.int_str i t y u _ _ _ _ h
    · rcases keyIs_shape hv with ⟨j, u, rfl, rfl⟩ | ⟨y, u, rfl, rfl⟩
      · rw [key_rl] at h; exact SeqAt.EqAt.str_int x t j u _ _ _ _ h
      · rw [key_rr] at h; exact wpAny_eqBool_str h
  «strs» := fun k x t v h => by
    rcases keyIs_shape h with ⟨i, u, rfl, e⟩ | ⟨y, u, rfl, e⟩
    · exact nomatch e
    · injection e with e1 _
      subst e1
      cases v <;> rfl

theorem mixKind_int (prog : Program) (w : World) (i : Int) (t : Tok) : (mixKind prog w).is (.inl i) (.int i t) = true := keyIs_int i t
theorem mixKind_str (prog : Program) (w : World) (x : Str) (t : Tok) : (mixKind prog w).is (.inr x) (.str x t) = true := keyIs_str x t
end L2

namespace L2
open PySem PySem.Spec PyProof.Rows

/-- a value, without the heap -/
inductive V where
  | non | bl (b : Bool) | int (i : Int) | str (x : Str) | byt (b : Array UInt8) | flt (b : UInt64) | ref (a : Addr) | ty (n : String)
  deriving DecidableEq

def RelV : V → Value → Prop
  | .non, u => u = Value.none
  | .bl b, u => u = Value.bool b
  | .int i, u => ∃ t, u = Value.int i t
  | .str x, u => ∃ t, u = Value.str x t
  | .byt b, u => ∃ t, u = Value.bytes b t
  | .flt b, u => ∃ t, u = Value.float b t
  | .ref a, u => u = Value.ref a
  | .ty n, u => u = Value.type n

abbrev Vals : List V → List Value → Prop := Paired RelV
theorem Vals.length {xs : List V} {us : List Value} (r : Vals xs us) : xs.length = us.length := Paired.length r
theorem Vals.get : ∀ {xs : List V} {us : List Value} {i : Nat} {x : V}, Vals xs us → xs[i]? = some x → ∃ u, us[i]? = some u ∧ RelV x u
  | _, _, _, _, .nil, e => by simp at e
  | _, _, 0, _, .cons r _, e => by simp at e; subst e; exact ⟨_, rfl, r⟩
  | _, _, i + 1, x, .cons _ t, e => by
    obtain ⟨u, h1, h2⟩ := Vals.get (i := i) (x := x) t (by simpa using e)
    exact ⟨u, by simpa using h1, h2⟩
theorem Vals.set {x : V} {u : Value} (r : RelV x u) : ∀ {xs : List V} {us : List Value} (i : Nat), Vals xs us → Vals (xs.set i x) (us.set i u)
  | _, _, _, .nil => .nil
  | _, _, 0, .cons _ t => .cons r t
  | _, _, i + 1, .cons q t => .cons q (Vals.set r i t)
theorem Vals.append : ∀ {xs ys : List V} {us ws : List Value}, Vals xs us → Vals ys ws → Vals (xs ++ ys) (us ++ ws)
  | _, _, _, _, .nil, s => s
  | _, _, _, _, .cons r t, s => .cons r (Vals.append t s)
theorem Vals.take : ∀ {xs : List V} {us : List Value} (n : Nat), Vals xs us → Vals (xs.take n) (us.take n)
  | _, _, 0, _ => .nil
  | _, _, _ + 1, .nil => .nil
  | _, _, n + 1, .cons r t => .cons r (Vals.take n t)
theorem Vals.drop : ∀ {xs : List V} {us : List Value} (n : Nat), Vals xs us → Vals (xs.drop n) (us.drop n)
  | _, _, 0, r => r
  | _, _, _ + 1, .nil => .nil
  | _, _, n + 1, .cons _ t => Vals.drop n t
theorem Vals.none_of : ∀ {xs : List V} {us : List Value} {i : Nat}, Vals xs us → xs[i]? = none → us[i]? = none := fun {xs us i} r e => by
  have h1 := r.length
  have h2 : xs.length ≤ i := List.getElem?_eq_none_iff.mp e
  exact List.getElem?_eq_none_iff.mpr (by omega)

def RelO : Option V → Option Value → Prop
  | some v, some u => RelV v u
  | none, none => True
  | _, _ => False
def KV {κ : Type} : List (κ × V) → List (κ × Value) → Prop := Paired fun (p : κ × V) (q : κ × Value) => p.1 = q.1 ∧ RelV p.2 q.2

/-- a key of a dict (00_mix): an int or a text -/
def kV : Key → V
  | .inl i => .int i
  | .inr x => .str x

/-- what stands at a tracked address -/
inductive HO where
  /-- a list -/
  | lst (xs : List V)
  /-- a tuple (never changes) -/
  | tup (xs : List V)
  /-- a dict whose keys are ints and texts; one whose keys are tuples of ints and texts (the empty one is both) -/
  | dK (kvs : List (Key × V)) | dT (kvs : List (List Key × V))
  /-- a set of ints: its members, its size -/
  | set (S : Int → Bool) (n : Nat)
  /-- an instance of the class at C, its dict at dx, its attributes -/
  | ins (C dx : Addr) (fs : List (Str × V))
  /-- the dict of the instance at x -/
  | own (x : Addr)
  /-- the dict of an exception -/
  | xd (fs : List (Str × V))
  /-- a bound method, f of x -/
  | met (f x : Addr)
  /-- a range object lo, lo + 1, .. below hi -/
  | rng (lo hi : Int)
  /-- a thing that is known to the object (the script; a dict while a loop walks it): read, never written while it is so -/
  | frz (o : Obj) (u : HO)
  /-- a code object's table -/
  | tbl (ps : Array Value)
  /-- any other thing, by what is true of its one object (a def of one's own: SetO a S n := HO.ext fun h => ..) -/
  | ext (φ : Heap → Prop)

abbrev Hp := Addr → Option HO
def upd (H : Hp) (a : Addr) (o : HO) : Hp := fun b => if b = a then some o else H b
theorem upd_same {H : Hp} {a : Addr} {o : HO} : upd H a o a = some o := by unfold upd; rw [if_pos rfl]
theorem upd_ne {H : Hp} {a b : Addr} {o : HO} (h : b ≠ a) : upd H a o b = H b := by unfold upd; rw [if_neg h]
theorem upd_upd {H : Hp} {a : Addr} {o u : HO} : upd (upd H a o) a u = upd H a u := by
  funext b; unfold upd; split <;> rfl
/-- two objects of different content stand apart -/
theorem ne_of {H : Hp} {a b : Addr} {o u : HO} (h : H a = some o) (h' : H b = some u) (d : o ≠ u) : a ≠ b := by
  intro e; subst e; rw [h] at h'; exact d (Option.some.inj h')
theorem ne_of_none {H : Hp} {a b : Addr} {o : HO} (h : H a = some o) (h' : H b = none) : a ≠ b := by
  intro e; subst e; rw [h] at h'; cases h'

section
variable (P : Program) (w : World)
def ObjOk (H : Hp) (h : Heap) (a : Addr) : HO → Prop
  | .lst xs => xs.length ≤ sizeLine ∧ ∃ (its : List Value) (n : Nat), Vals xs its ∧ h.get? a = some { cls := .type "list", data := .seq its.toArray n }
  | .tup xs => (xs.length ≤ sizeLine ∧ ∃ o, h.get? a = some o ∧ o.dict = none) ∧ ∃ its : List Value, Vals xs its ∧ IsTup h a its.toArray
  | .dK kvs => kvs.length ≤ sizeLine ∧ (a == sysModules) = false ∧ ∃ vs, KV kvs vs ∧ h.DictOf (mixKind P w) a vs
  | .dT kvs => kvs.length ≤ sizeLine ∧ (a == sysModules) = false ∧ ∃ xs : List (List Key × Addr × Value),
      Paired (fun (p : List Key × V) (q : List Key × Addr × Value) => p.1 = q.1 ∧ H q.2.1 = some (.tup (p.1.map kV)) ∧ RelV p.2 q.2.2) kvs xs ∧
      ∃ o es ep, h.get? a = some o ∧ o.ExactDict ∧ o.data = .dict es ep ∧ es.toList = xs.map (entryOfKey (tupleKind (mixKind P w))) ∧ (xs.map (·.1)).Nodup
  | .set S n => h.SetOf (intKind P w) a S n
  | .ins C dx fs => H dx = some (.own a) ∧ fs.length ≤ 1000 ∧ dx ≠ a ∧ h.get? a = some (PySem.W.instObj C dx) ∧
      ∃ mA, h.Ns1 dx mA ∧ (∀ f, RelO (fs.lookup f) (mA f)) ∧ PySem.Within mA (fs.map (·.1))
  | .own _ => ∃ o, h.get? a = some o
  | .xd fs => ∃ mA, h.Ns1 a mA ∧ ∀ f, RelO (fs.lookup f) (mA f)
  | .rng lo hi => ∃ t u v, h.get? a = some { cls := .type "range", data := .fields #[.int lo t, .int hi u, .int 1 v] }
  | .frz o u => h.get? a = some o ∧ ObjOk H h a u
  | .tbl ps => h.get? a = some { cls := .none, data := .fields ps }
  | .met f x => h.get? a = some (PySem.W.methodObj (.ref f) (.ref x))
  | .ext φ => φ h ∧ (∃ o, h.get? a = some o) ∧ ∀ h1 h2 : Heap, φ h1 → (∀ o, h1.get? a = some o → h2.get? a = some o) → φ h2
/-- the abstract heap is held -/
def HOk (H : Hp) (h : Heap) : Prop := ∀ a o, H a = some o → ObjOk P w H h a o
end

section
variable {P : Program} {w : World} {H H' : Hp} {h h' : Heap} {a : Addr} {o : HO}
theorem ObjOk.lt (x : ObjOk P w H h a o) : a < h.objs.size := by
  cases o with
  | lst xs => obtain ⟨_, _, _, _, e⟩ := x; exact Heap.lt_size e
  | tup xs => obtain ⟨_, _, _, p⟩ := x; exact p.lt
  | dK kvs => obtain ⟨_, _, _, _, o, _, _, e, _⟩ := x; exact Heap.lt_size e
  | dT kvs => obtain ⟨_, _, _, _, o, _, _, e, _⟩ := x; exact Heap.lt_size e
  | set S n => obtain ⟨o, _, _, _, e, _⟩ := x; exact Heap.lt_size e
  | ins C dx fs => obtain ⟨_, _, _, e, _⟩ := x; exact Heap.lt_size e
  | own y => obtain ⟨_, e⟩ := x; exact Heap.lt_size e
  | xd fs => obtain ⟨_, ⟨_, _, _, e, _⟩, _⟩ := x; exact Heap.lt_size e
  | rng lo hi => obtain ⟨_, _, _, e⟩ := x; exact Heap.lt_size e
  | frz ob u => obtain ⟨e, _⟩ := x; exact Heap.lt_size e
  | tbl ps => exact Heap.lt_size (show h.get? a = some _ from x)
  | met f y => exact Heap.lt_size (show h.get? a = some _ from x)
  | ext φ => obtain ⟨_, ⟨_, e⟩, _⟩ := x; exact Heap.lt_size e
theorem Paired.mapP {α β : Type} {F G : α → β → Prop} : ∀ {l₁ : List α} {l₂ : List β}, Paired F l₁ l₂ → (∀ a b, F a b → G a b) → Paired G l₁ l₂
  | _, _, .nil, _ => .nil
  | _, _, .cons r t, f => .cons (f _ _ r) (Paired.mapP t f)
/-- what an object's description leans on: its own object, its own dict, the tuples -/
theorem ObjOk.stay (x : ObjOk P w H h a o) (k : ∀ b u, (b = a ∨ H b = some (.own a)) → h.get? b = some u → h'.get? b = some u)
    (ho : ∀ b, H b = some (.own a) → H' b = some (.own a)) (ht : ∀ b xs, H b = some (.tup xs) → H' b = some (.tup xs)) : ObjOk P w H' h' a o := by
  induction o with
  | lst xs => obtain ⟨z, its, n, r, e⟩ := x; exact ⟨z, its, n, r, k _ _ (.inl rfl) e⟩
  | tup xs => obtain ⟨⟨z, o1, e1, c1⟩, its, r, ob, e, c⟩ := x; exact ⟨⟨z, o1, k _ _ (.inl rfl) e1, c1⟩, its, r, ob, k _ _ (.inl rfl) e, c⟩
  | dK kvs => obtain ⟨z, y, vs, r, ob, es, ep, e, c⟩ := x; exact ⟨z, y, vs, r, ob, es, ep, k _ _ (.inl rfl) e, c⟩
  | dT kvs =>
    obtain ⟨z, y, xs, r, ob, es, ep, e, c⟩ := x
    exact ⟨z, y, xs, Paired.mapP r fun p q z => ⟨z.1, ht _ _ z.2.1, z.2.2⟩, ob, es, ep, k _ _ (.inl rfl) e, c⟩
  | set S n => obtain ⟨ob, es, ep, t, e, c⟩ := x; exact ⟨ob, es, ep, t, k _ _ (.inl rfl) e, c⟩
  | ins C dx fs =>
    obtain ⟨d, z, ne, e, mA, ⟨od, es, ep, e2, c⟩, r⟩ := x
    exact ⟨ho _ d, z, ne, k _ _ (.inl rfl) e, mA, ⟨od, es, ep, k _ _ (.inr d) e2, c⟩, r⟩
  | own y => obtain ⟨ob, e⟩ := x; exact ⟨ob, k _ _ (.inl rfl) e⟩
  | xd fs => obtain ⟨mA, ⟨od, es, ep, e, c⟩, r⟩ := x; exact ⟨mA, ⟨od, es, ep, k _ _ (.inl rfl) e, c⟩, r⟩
  | rng lo hi => obtain ⟨t, u, v, e⟩ := x; exact ⟨t, u, v, k _ _ (.inl rfl) e⟩
  | frz ob u ih => obtain ⟨e, q⟩ := x; exact ⟨k _ _ (.inl rfl) e, ih q⟩
  | tbl ps =>
    have e : h.get? a = some { cls := .none, data := .fields ps } := x
    show h'.get? a = some { cls := .none, data := .fields ps }
    exact k a _ (.inl rfl) e
  | met f y =>
    have e : h.get? a = some (PySem.W.methodObj (.ref f) (.ref y)) := x
    show h'.get? a = some (PySem.W.methodObj (.ref f) (.ref y))
    exact k a _ (.inl rfl) e
  | ext φ => obtain ⟨p, ⟨o, e⟩, st⟩ := x; exact ⟨st _ _ p fun o q => k _ _ (.inl rfl) q, ⟨o, k _ _ (.inl rfl) e⟩, st⟩
theorem HOk.lt (x : HOk P w H h) (e : H a = some o) : a < h.objs.size := (x a o e).lt
theorem HOk.fresh (x : HOk P w H h) (e : h.objs.size ≤ a) : H a = none := by
  cases q : H a with
  | none => rfl
  | some u => exact absurd (Nat.lt_of_lt_of_le (x.lt q) e) (Nat.lt_irrefl _)
/-- every object of the heap is kept -/
theorem HOk.kept (x : HOk P w H h) (k : ∀ b u, h.get? b = some u → h'.get? b = some u) : HOk P w H h' := fun a o e =>
  (x a o e).stay (fun b u _ q => k b u q) (fun _ q => q) fun _ _ q => q
/-- a new object is laid and tracked -/
theorem HOk.laid (x : HOk P w H h) (k : ∀ b u, h.get? b = some u → h'.get? b = some u) (hp : h.objs.size ≤ a) (new : ObjOk P w (upd H a o) h' a o) : HOk P w (upd H a o) h' := fun b u e => by
  have hn := x.fresh hp
  by_cases hb : b = a
  · subst hb; rw [upd_same] at e; cases e; exact new
  · rw [upd_ne hb] at e
    exact (x b u e).stay (fun c v _ q => k c v q) (fun c q => by rw [upd_ne (ne_of_none q hn)]; exact q) fun c xs q => by rw [upd_ne (ne_of_none q hn)]; exact q
end

/-- what may be read as u: it is u, or a known u -/
def Rd (H : Hp) (a : Addr) (u : HO) : Prop := H a = some u ∨ ∃ o, H a = some (.frz o u)
theorem Rd.of {H : Hp} {a : Addr} {u : HO} (h : H a = some u) : Rd H a u := .inl h
theorem Rd.ok {P : Program} {w : World} {H : Hp} {h : Heap} {a : Addr} {u : HO} (r : Rd H a u) (x : HOk P w H h) : ObjOk P w H h a u := by
  rcases r with r | ⟨o, r⟩
  · exact x a u r
  · obtain ⟨_, q⟩ := x a _ r
    exact q
/-- what may be written -/
def Mut : Option HO → Prop
  | some (.lst _) => True
  | some (.dK _) => True
  | some (.dT _) => True
  | some (.set _ _) => True
  | some (.ins _ _ _) => True
  | some (.ext _) => True
  | _ => False
section
variable {P : Program} {w : World} {H : Hp} {h h' : Heap} {x e : Addr} {o' : HO}
/-- the object at e is changed: x itself, or the dict of the instance x -/
theorem HOk.write (ok : HOk P w H h) (mu : Mut (H x)) (he : e = x ∨ H e = some (.own x)) (k : ∀ b u, b ≠ e → h.get? b = some u → h'.get? b = some u) (heo : ∃ u, h'.get? e = some u)
    (new : ObjOk P w (upd H x o') h' x o') : HOk P w (upd H x o') h' := fun b u q => by
  have nown : ∀ c y, H c = some (.own y) → c ≠ x := fun c y r z => by subst z; rw [r] at mu; exact mu
  have ntup : ∀ c xs, H c = some (.tup xs) → c ≠ x := fun c xs r z => by subst z; rw [r] at mu; exact mu
  by_cases hb : b = x
  · subst hb; rw [upd_same] at q; cases q; exact new
  · rw [upd_ne hb] at q
    by_cases hbe : b = e
    · have q' : H b = some (.own x) := by
        rcases he with z | z
        · exact absurd (hbe.trans z) hb
        · rw [hbe]; exact z
      rw [q] at q'; cases q'
      obtain ⟨v, hv⟩ := heo
      exact ⟨v, by rw [hbe]; exact hv⟩
    · refine (ok b u q).stay (fun c v hc r => k c v ?_ r) (fun c r => by rw [upd_ne (nown c b r)]; exact r) fun c xs r => by rw [upd_ne (ntup c xs r)]; exact r
      rcases hc with rfl | hc
      · exact hbe
      · rintro rfl
        rcases he with z | z
        · exact nown c b hc z
        · rw [hc] at z; cases z; exact hb rfl
end

/-! ### kept unless tracked; of the frames at fs (the callers') the slots may change (an exception that passes writes there); of the records at ex (iterators) nothing is said -/
structure Un (fs ex : List Addr) (H H' : Hp) (h h' : Heap) : Prop where
  keep : ∀ b o, h.get? b = some o → H b = none → b ∉ fs → b ∉ ex → h'.get? b = some o
  slot : ∀ b o, h.get? b = some o → H b = none → b ∈ fs → b ∉ ex → ∃ sl, h'.get? b = some { o with slots := sl }
  free : ∀ b o, h.get? b = some o → H b = none → b ∉ ex → H' b = none
  there : ∀ b o, h.get? b = some o → b ∉ ex → ∃ o', h'.get? b = some o'
  tups : ∀ b xs, H b = some (.tup xs) → H' b = some (.tup xs)
  frzs : ∀ b o u, H b = some (.frz o u) → H' b = some (.frz o u)
  tbls : ∀ b ps, H b = some (.tbl ps) → ∃ more, H' b = some (.tbl (ps ++ more))
section
variable {fs fs' ex ex' : List Addr} {H H1 H2 : Hp} {h h1 h2 h' : Heap} {a x e : Addr} {o : HO}
theorem Un.any (u : Un fs ex H H1 h h1) {b : Addr} {ob : Obj} (q : h.get? b = some ob) (n : H b = none) (hx : b ∉ ex) : ∃ sl, h1.get? b = some { ob with slots := sl } := by
  by_cases hb : b ∈ fs
  · exact u.slot b ob q n hb hx
  · exact ⟨ob.slots, u.keep b ob q n hb hx⟩
theorem Un.trans (a : Un fs ex H H1 h h1) (b : Un fs ex H1 H2 h1 h2) : Un fs ex H H2 h h2 where
  keep := fun c ob q n hc hx => b.keep c ob (a.keep c ob q n hc hx) (a.free c ob q n hx) hc hx
  slot := fun c ob q n hc hx => by
    obtain ⟨sl, e1⟩ := a.slot c ob q n hc hx
    obtain ⟨sl', e2⟩ := b.slot c _ e1 (a.free c ob q n hx) hc hx
    exact ⟨sl', e2⟩
  free := fun c ob q n hx => by
    obtain ⟨o', e1⟩ := a.there c ob q hx
    exact b.free c o' e1 (a.free c ob q n hx) hx
  there := fun c ob q hx => by
    obtain ⟨o', e1⟩ := a.there c ob q hx
    exact b.there c o' e1 hx
  tups := fun c xs q => b.tups c xs (a.tups c xs q)
  frzs := fun c ob xs q => b.frzs c ob xs (a.frzs c ob xs q)
  tbls := fun c ps q => by
    obtain ⟨m1, e1⟩ := a.tbls c ps q
    obtain ⟨m2, e2⟩ := b.tbls c _ e1
    exact ⟨m1 ++ m2, by rw [e2, Array.append_assoc]⟩
theorem Un.kept (k : ∀ b u, h.get? b = some u → h'.get? b = some u) : Un fs ex H H h h' :=
  ⟨fun b ob q _ _ _ => k b ob q, fun b ob q _ _ _ => ⟨ob.slots, k b ob q⟩, fun _ _ _ n _ => n, fun b ob q _ => ⟨ob, k b ob q⟩, fun _ _ q => q, fun _ _ _ q => q, fun _ ps q => ⟨#[], by rw [q]; simp⟩⟩
theorem Un.refl : Un fs ex H H h h := Un.kept fun _ _ q => q
theorem Un.laid (k : ∀ b u, h.get? b = some u → h'.get? b = some u) (hp : h.objs.size ≤ a) (hn : H a = none) : Un fs ex H (upd H a o) h h' where
  keep := fun b u q _ _ _ => k b u q
  slot := fun b u q _ _ _ => ⟨u.slots, k b u q⟩
  free := fun b u q n _ => by rw [upd_ne (Nat.ne_of_lt (Nat.lt_of_lt_of_le (Heap.lt_size q) hp))]; exact n
  there := fun b u q _ => ⟨u, k b u q⟩
  tups := fun b xs q => by rw [upd_ne (ne_of_none q hn)]; exact q
  frzs := fun b u xs q => by rw [upd_ne (ne_of_none q hn)]; exact q
  tbls := fun b ps q => ⟨#[], by rw [upd_ne (ne_of_none q hn), q]; simp⟩
theorem Un.write (mu : Mut (H x)) (he : e = x ∨ H e = some (.own x)) (k : ∀ b u, b ≠ e → h.get? b = some u → h'.get? b = some u) (heo : ∃ u, h'.get? e = some u) : Un fs ex H (upd H x o) h h' := by
  have hx : ∀ b, H b = none → b ≠ x := fun b n z => by subst z; rw [n] at mu; exact mu
  have hb : ∀ b, H b = none → b ≠ e := fun b n z => by
    subst z
    rcases he with r | r
    · exact hx b n r
    · rw [n] at r; cases r
  have hm : ∀ b u, H b = some u → ¬ Mut (some u) → b ≠ x := fun b u q nm z => by subst z; rw [q] at mu; exact nm mu
  refine ⟨fun b u q n _ _ => k b u (hb b n) q, fun b u q n _ _ => ⟨u.slots, k b u (hb b n) q⟩, fun b u q n _ => by rw [upd_ne (hx b n)]; exact n, fun b u q _ => ?_,
    fun b xs q => by rw [upd_ne (hm b _ q fun z => z)]; exact q, fun b u xs q => by rw [upd_ne (hm b _ q fun z => z)]; exact q, fun b ps q => ⟨#[], by rw [upd_ne (hm b _ q fun z => z), q]; simp⟩⟩
  by_cases hbe : b = e
  · subst hbe; exact heo
  · exact ⟨u, k b u hbe q⟩
theorem Un.mono (u : Un fs ex H H1 h h1) (hs : ∀ b ∈ fs, b ∈ fs') (hx : ∀ b ∈ ex, b ∈ ex') : Un fs' ex' H H1 h h1 :=
  ⟨fun b ob q n hb he => u.keep b ob q n (fun z => hb (hs b z)) fun z => he (hx b z), fun _ _ q n _ he => u.any q n fun z => he (hx _ z), fun b ob q n he => u.free b ob q n fun z => he (hx b z), fun b ob q he => u.there b ob q fun z => he (hx b z), u.tups, u.frzs, u.tbls⟩
end

/-! ### the heap without what is tracked -/
def trk (h : Heap) (H : Hp) : List Addr := (List.range h.objs.size).filter fun a => (H a).isSome
def hidT (h : Heap) (H : Hp) : Heap := PySem.W.hideAll h (trk h H)
theorem hidT_size (h : Heap) (H : Hp) : (hidT h H).objs.size = h.objs.size := PySem.W.hideAll_size _ _
theorem hidT_get {h : Heap} {H : Hp} {b : Addr} {o : Obj} (e : h.get? b = some o) (n : H b = none) : (hidT h H).get? b = some o :=
  PySem.W.hideAll_get _ e fun hm => by
    have q : (H b).isSome = true := (List.mem_filter.mp hm).2
    rw [n] at q; simp at q
theorem of_hidT {h : Heap} {H : Hp} {b : Addr} {o : Obj} (e : (hidT h H).get? b = some o) : h.get? b = some o ∧ H b = none := by
  have e' : h.get? b = some o := PySem.W.of_hideAll (trk h H) e
  refine ⟨e', ?_⟩
  cases q : H b with
  | none => rfl
  | some x =>
    have hm : b ∈ trk h H := List.mem_filter.mpr ⟨List.mem_range.mpr (Heap.lt_size e'), by simp [q]⟩
    have z : (hidT h H).get? b = none := PySem.W.hideAll_none (trk h H) hm
    rw [z] at e; cases e

/-! ### OpenK's ledger, filled with every new object but one -/
def allNews (g h : Heap) (L : Addr) : List (Addr × Obj) := (List.range h.objs.size).filterMap fun a => if a = L ∨ (g.get? a).isSome = true then none else (h.get? a).map fun o => (a, o)
def rest (g h : Heap) (L d : Addr) : List (Addr × Obj) := (allNews g h L).filter fun p => decide (p.1 ≠ d)
end L2

namespace L2
open PySem PySem.Spec PyProof.Rows

/-- the module's facts, over the base: the heap at the law's entry without what is tracked there -/
structure Mod (K : PySem.W.Frag) (mg : Str → Option Value) (base : Heap) : Prop where
  kin : K.In base
  glob : base.Ns mainGlobals mg
  blt : ∃ mb, base.Ns builtinsNs mb ∧ ∀ x : Str, x ≠ "__name__" → mb x = bootBuiltins x
  nolimit : base.NoLimit

/-- the context: a def's body (or a comprehension's block) running. base: fixed through the whole law; s₀, H₀: the entry; outer: the frames whose slots others may change (a def's callers); stack: all frames that run;
   ex: iterators that were made ahead of the entry and are walked here (a comprehension's); fn: the names whose cells were made at the entry (a def: all; a comprehension's block: its own); calm: not within an except suite; pn: pins that every state bears; xe: what is wanted of an exception that leaves the code -/
structure Cx where
  prog : Program
  w : World
  K : PySem.W.Frag
  mg : Str → Option Value
  base : Heap
  A : Around
  N : List Str
  s₀ : Shared
  H₀ : Hp
  env : Env
  outer : List Env
  stack : List Env
  ex : List Addr
  fn : Str → Bool
  calm : Bool
  pn : List (Addr × Obj)
  xe : Value → Shared → Prop
/-- the callers' frames -/
def frs (l : List Env) : List Addr := l.filterMap (·.frame)
abbrev Cx.fs (X : Cx) : List Addr := frs X.outer

def Vis (sc : Scope) (x : Str) : Prop := sc.names.lookup x = some .local ∨ sc.names.lookup x = some .cell ∨ sc.names.lookup x = some .free
def Loc (sc : Scope) (x : Str) : Prop := sc.names.lookup x = some .local ∨ sc.names.lookup x = some .cell
def Look (env : Env) (h : Heap) (m : Str → Option Value) (x : Str) (u : Value) : Prop :=
  (env.kindOf x = some .local ∧ m x = some u) ∨ ((env.kindOf x = some .cell ∨ env.kindOf x = some .free) ∧ ∃ c, env.cells.lookup x = some c ∧ h.IsCell c (some u))

structure Cx.Ok (X : Cx) : Prop where
  mod : Mod X.K X.mg X.base
  kind : X.env.scope.kind = .function
  glob : X.env.globals = mainGlobals
  blt : X.env.builtins = builtinsNs
  above : X.s₀.heap.objs.size ≤ X.env.locals
  inj : ∀ x y c, X.env.cells.lookup x = some c → X.env.cells.lookup y = some c → x = y
  has : ∀ x, (X.env.kindOf x = some .cell ∨ X.env.kindOf x = some .free) → ∃ c, X.env.cells.lookup x = some c
  cab : ∀ x c, X.fn x = true → X.env.cells.lookup x = some c → X.s₀.heap.objs.size ≤ c
  hd : X.calm = true → X.A.handled = none
  frames : X.A.frames = some X.stack
  stk : X.stack = X.outer ∨ (X.stack = X.env :: X.outer ∧ X.env.frame = some X.env.locals)
  exf : ∀ b ∈ X.ex, b ≠ X.env.locals ∧ ∀ x c, X.env.cells.lookup x = some c → c ≠ b
  bs : ∀ b o, X.base.get? b = some o → X.s₀.heap.get? b = some o ∧ X.H₀ b = none
  bsz : X.base.objs.size ≤ X.s₀.heap.objs.size
  noex : ∀ b o, X.base.get? b = some o → b ∉ X.ex
  exfs : ∀ b ∈ X.ex, b ∉ X.fs
  funs : X.s₀.heap.FunFrames X.base X.outer
  frf : ∀ b ∈ X.fs, X.H₀ b = none

structure Inv (X : Cx) (pins : List (Addr × Obj)) (σ : List (Option V)) (H : Hp) (s : Shared) : Prop where
  ok : X.Ok
  os : s.os = X.s₀.os
  bare : AllBare s.gens
  base : Un X.fs X.ex X.H₀ H X.s₀.heap s.heap
  loc : ∃ m, s.heap.Ns X.env.locals m ∧ ∀ (i : Nat) (x : Str) (v : V), X.N[i]? = some x → σ[i]? = some (some v) → Vis X.env.scope x → ∃ u, RelV v u ∧ Look X.env s.heap m x u
  cell : ∀ x c, X.env.cells.lookup x = some c → ∃ v, s.heap.IsCell c v
  free : H X.env.locals = none
  freeC : ∀ x c, X.env.cells.lookup x = some c → H c = none
  pin : ∀ p ∈ X.pn ++ pins, s.heap.get? p.1 = some p.2 ∧ H p.1 = none ∧ p.1 ≠ X.env.locals ∧ p.1 ∉ X.fs ∧ ∀ v, p.2.data ≠ .cell v
  hok : HOk X.prog X.w H s.heap
  len : σ.length = X.N.length

section
variable {X : Cx} {pins : List (Addr × Obj)} {σ : List (Option V)} {H H' : Hp} {s : Shared} {h' : Heap}

theorem Cx.Ok.nofr (ok : X.Ok) {b : Addr} {o : Obj} (e : X.base.get? b = some o) : b ∉ X.fs := fun hb => by
  have := (ok.funs.mem hb).1
  rw [e] at this; cases this
theorem Inv.bs (I : Inv X pins σ H s) : ∀ b o, X.base.get? b = some o → s.heap.get? b = some o ∧ H b = none := fun b o e =>
  ⟨I.base.keep b o (I.ok.bs b o e).1 (I.ok.bs b o e).2 (I.ok.nofr e) (I.ok.noex b o e), I.base.free b o (I.ok.bs b o e).1 (I.ok.bs b o e).2 (I.ok.noex b o e)⟩
theorem Inv.bk (I : Inv X pins σ H s) : ∀ b o, X.base.get? b = some o → s.heap.get? b = some o := fun b o e => (I.bs b o e).1
theorem Inv.mod (I : Inv X pins σ H s) : Mod X.K X.mg X.base := I.ok.mod
theorem Inv.kIn (I : Inv X pins σ H s) : X.K.In s.heap := I.ok.mod.kin.keeps I.bk
theorem Inv.nolimit (I : Inv X pins σ H s) : s.heap.NoLimit := I.ok.mod.nolimit.keeps I.bk
/-- the frame over the base: for OpenK's rules (K.In X.base is I.mod.kin) -/
theorem Inv.fr (I : Inv X pins σ H s) : ∃ m, Fr X.base X.env.locals s.heap m :=
  let ⟨m, hn, _⟩ := I.loc
  ⟨m, hn, I.bk, Nat.le_trans I.ok.bsz I.ok.above⟩
theorem Inv.lt (I : Inv X pins σ H s) : X.env.locals < s.heap.objs.size := let ⟨_, hn, _⟩ := I.loc; hn.lt
theorem Inv.sz (I : Inv X pins σ H s) : X.s₀.heap.objs.size ≤ s.heap.objs.size := Nat.le_trans I.ok.above (Nat.le_of_lt I.lt)
theorem Inv.nofs (I : Inv X pins σ H s) {a : Addr} (h : s.heap.objs.size ≤ a) : a ∉ X.fs := fun hb => by
  obtain ⟨_, o, ho, _⟩ := I.ok.funs.mem hb
  exact absurd (Nat.lt_of_lt_of_le (Heap.lt_size ho) (Nat.le_trans I.sz h)) (Nat.lt_irrefl _)
theorem Inv.cne (I : Inv X pins σ H s) : ∀ x c, X.env.cells.lookup x = some c → c ≠ X.env.locals := fun x c e z => by
  obtain ⟨v, o, ho, hd⟩ := I.cell x c e
  obtain ⟨m, ⟨o', es, ep, ho', hd', _⟩, _⟩ := I.loc
  rw [z, ho'] at ho; cases ho; rw [hd'] at hd; cases hd
theorem Inv.funs (I : Inv X pins σ H s) : s.heap.FunFrames X.base X.outer := by
  have all : ∀ (l : List Env), (∀ b ∈ frs l, b ∈ X.fs) → X.s₀.heap.FunFrames X.base l → s.heap.FunFrames X.base l := by
    intro l
    induction l with
    | nil => intro _ _; trivial
    | cons env r ih =>
      intro hs hl
      obtain ⟨hk, ⟨L, o, hf, hn, ho, hd⟩, hr⟩ := hl
      have hL : L ∈ X.fs := hs L (by unfold frs; rw [List.filterMap_cons, hf]; exact List.mem_cons_self)
      obtain ⟨sl, e⟩ := I.base.slot L o ho (I.ok.frf L hL) hL fun z => I.ok.exfs L z hL
      exact ⟨hk, ⟨L, _, hf, hn, e, hd⟩, ih (fun b hb => hs b (by unfold frs; rw [List.filterMap_cons, hf]; exact List.mem_cons_of_mem _ hb)) hr⟩
  exact all X.outer (fun _ hb => hb) I.ok.funs

/-- the frames that run, for a call -/
theorem Inv.stack (I : Inv X pins σ H s) : s.heap.FunFrames X.base X.stack := by
  rcases I.ok.stk with e | ⟨e, hf⟩
  · rw [e]; exact I.funs
  · rw [e]
    obtain ⟨m, hn, _⟩ := I.loc
    refine .cons (by rw [I.ok.kind]; decide) hf hn ?_ I.funs
    exact Heap.get?_none_of_le (Nat.le_trans I.ok.bsz I.ok.above)
theorem Inv.stkSub (I : Inv X pins σ H s) : ∀ b ∈ frs X.stack, b ∈ X.env.locals :: X.fs := fun b hb => by
  rcases I.ok.stk with e | ⟨e, hf⟩
  · rw [e] at hb; exact List.mem_cons_of_mem _ hb
  · rw [e] at hb
    unfold frs at hb
    rw [List.filterMap_cons, hf] at hb
    exact hb
theorem Inv.stkFree (I : Inv X pins σ H s) : ∀ b ∈ frs X.stack, H b = none := fun b hb => by
  rcases List.mem_cons.mp (I.stkSub b hb) with e | hb
  · rw [e]; exact I.free
  · obtain ⟨_, o, ho, _⟩ := I.ok.funs.mem hb
    exact I.base.free b o ho (I.ok.frf b hb) fun z => I.ok.exfs b z hb

/-- THE STEP: the untracked objects but the frame and the records at ch are kept (the callers' frames up to slots), the frame's map is kept, the new abstract heap is held -/
theorem Inv.step {g' : Array GenState} {t' : Nat} {d' : Drawn} {ch : List Addr} (I : Inv X pins σ H s)
    (hch : ∀ b ∈ ch, (b ∈ X.ex ∨ X.s₀.heap.objs.size ≤ b) ∧ b ≠ X.env.locals ∧ (∀ x c, X.env.cells.lookup x = some c → c ≠ b) ∧ ∀ p ∈ X.pn ++ pins, p.1 ≠ b)
    (keep : ∀ b o, b ≠ X.env.locals → b ∉ X.fs → b ∉ ch → s.heap.get? b = some o → H b = none → h'.get? b = some o)
    (slot : ∀ b o, b ≠ X.env.locals → b ∈ X.fs → b ∉ ch → s.heap.get? b = some o → H b = none → ∃ sl, h'.get? b = some { o with slots := sl }) (free : ∀ b o, b ∉ ch → s.heap.get? b = some o → H b = none → H' b = none)
    (there : ∀ b o, b ∉ ch → s.heap.get? b = some o → ∃ o', h'.get? b = some o')
    (tups : ∀ b xs, H b = some (.tup xs) → H' b = some (.tup xs)) (frzs : ∀ b o u, H b = some (.frz o u) → H' b = some (.frz o u)) (tbls : ∀ b ps, H b = some (.tbl ps) → ∃ more, H' b = some (.tbl (ps ++ more)))
    (ns : ∀ m, s.heap.Ns X.env.locals m → h'.Ns X.env.locals m) (hok : HOk X.prog X.w H' h') (hg : AllBare g') :
    Inv X pins σ H' { s with heap := h', gens := g', drawn := d', toks := t' } := by
  have neL : ∀ b o, X.s₀.heap.get? b = some o → b ≠ X.env.locals := fun b o e => Nat.ne_of_lt (Nat.lt_of_lt_of_le (Heap.lt_size e) I.ok.above)
  have neC : ∀ b o, X.s₀.heap.get? b = some o → b ∉ X.ex → b ∉ ch := fun b o e hx hb => by
    rcases (hch b hb).1 with z | z
    · exact hx z
    · exact absurd (Nat.lt_of_lt_of_le (Heap.lt_size e) z) (Nat.lt_irrefl _)
  have cellK : ∀ x c, X.env.cells.lookup x = some c → ∀ v, s.heap.IsCell c v → h'.IsCell c v := fun x c e v ⟨o, ho, hd⟩ => by
    have nch : c ∉ ch := fun z => (hch c z).2.2.1 x c e rfl
    by_cases hc : c ∈ X.fs
    · obtain ⟨sl, q⟩ := slot c o (I.cne x c e) hc nch ho (I.freeC x c e)
      exact ⟨_, q, hd⟩
    · exact ⟨o, keep c o (I.cne x c e) hc nch ho (I.freeC x c e), hd⟩
  refine ⟨I.ok, I.os, hg, ⟨fun b o e n hb hx => ?_, fun b o e n hb hx => ?_, fun b o e n hx => ?_, fun b o e hx => ?_, fun b xs e => tups b xs (I.base.tups b xs e), fun b o xs e => frzs b o xs (I.base.frzs b o xs e), fun b ps e => ?_⟩, ?_, fun x c e => ?_, ?_, fun x c e => ?_, fun p hp => ?_, hok, I.len⟩
  · exact keep b o (neL b o e) hb (neC b o e hx) (I.base.keep b o e n hb hx) (I.base.free b o e n hx)
  · obtain ⟨sl, e1⟩ := I.base.slot b o e n hb hx
    obtain ⟨sl', e2⟩ := slot b _ (neL b o e) hb (neC b o e hx) e1 (I.base.free b o e n hx)
    exact ⟨sl', e2⟩
  · obtain ⟨o', e1⟩ := I.base.there b o e hx
    exact free b o' (neC b o e hx) e1 (I.base.free b o e n hx)
  · obtain ⟨o', e1⟩ := I.base.there b o e hx
    exact there b o' (neC b o e hx) e1
  · obtain ⟨m1, e1⟩ := I.base.tbls b ps e
    obtain ⟨m2, e2⟩ := tbls b _ e1
    exact ⟨m1 ++ m2, by rw [e2, Array.append_assoc]⟩
  · obtain ⟨m, hn, hl⟩ := I.loc
    refine ⟨m, ns m hn, fun i x v e1 e2 e3 => ?_⟩
    obtain ⟨u, r, l⟩ := hl i x v e1 e2 e3
    refine ⟨u, r, ?_⟩
    rcases l with l | ⟨k, c, e, z⟩
    · exact .inl l
    · exact .inr ⟨k, c, e, cellK x c e _ z⟩
  · obtain ⟨v, z⟩ := I.cell x c e
    exact ⟨v, cellK x c e v z⟩
  · obtain ⟨m, ⟨o, _, _, ho, _⟩, _⟩ := I.loc
    exact free _ o (fun z => (hch _ z).2.1 rfl) ho I.free
  · obtain ⟨v, o, ho, hd⟩ := I.cell x c e
    exact free c o (fun z => (hch c z).2.2.1 x c e rfl) ho (I.freeC x c e)
  · obtain ⟨e, n, ne, nf, d⟩ := I.pin p hp
    have nch : p.1 ∉ ch := fun z => (hch p.1 z).2.2.2 p hp rfl
    exact ⟨keep p.1 p.2 ne nf nch e n, free p.1 p.2 nch e n, ne, nf, d⟩
/-- .. where the frame's own object is kept too -/
theorem Inv.un {t' : Nat} (I : Inv X pins σ H s) (u : Un X.fs [] H H' s.heap h') (hok : HOk X.prog X.w H' h') : Inv X pins σ H' { s with heap := h', toks := t' } := by
  obtain ⟨m, ⟨o, es, ep, ho, r⟩, _⟩ := id I.loc
  obtain ⟨sl, hL⟩ := u.any ho I.free (by simp)
  exact I.step (g' := s.gens) (d' := s.drawn) (ch := []) (fun _ z => nomatch z) (fun b o _ hb _ e n => u.keep b o e n hb (by simp)) (fun b o _ hb _ e n => u.slot b o e n hb (by simp)) (fun b o _ e n => u.free b o e n (by simp)) (fun b o _ e => u.there b o e (by simp)) u.tups u.frzs u.tbls (fun m' hm => by
    obtain ⟨o', es', ep', ho', r'⟩ := hm
    rw [ho] at ho'; cases ho'
    exact ⟨_, es', ep', hL, r'⟩) hok I.bare
/-- behind a call (or a comprehension's block): the slots of this frame may have changed too, the records at ch may have turned -/
theorem Inv.call {g' : Array GenState} {t' : Nat} {d' : Drawn} {ch : List Addr} (I : Inv X pins σ H s) (u : Un (frs X.stack) ch H H' s.heap h') (hok : HOk X.prog X.w H' h') (hg : AllBare g')
    (hch : ∀ b ∈ ch, (b ∈ X.ex ∨ X.s₀.heap.objs.size ≤ b) ∧ b ≠ X.env.locals ∧ (∀ x c, X.env.cells.lookup x = some c → c ≠ b) ∧ ∀ p ∈ X.pn ++ pins, p.1 ≠ b) :
    Inv X pins σ H' { s with heap := h', gens := g', drawn := d', toks := t' } := by
  obtain ⟨m, ⟨o, es, ep, ho, r⟩, _⟩ := id I.loc
  obtain ⟨sl, hL⟩ := u.any ho I.free fun z => (hch _ z).2.1 rfl
  exact I.step (ch := ch) hch (fun b o hL hb hc e n => u.keep b o e n (fun z => (List.mem_cons.mp (I.stkSub b z)).elim hL hb) hc) (fun b o _ _ hc e n => u.any e n hc) (fun b o hc e n => u.free b o e n hc) (fun b o hc e => u.there b o e hc) u.tups u.frzs u.tbls (fun m' hm => by
    obtain ⟨o', es', ep', ho', r'⟩ := hm
    rw [ho] at ho'; cases ho'
    exact ⟨_, es', ep', hL, r'⟩) hok hg
/-- an untracked record of ours (an iterator) has turned -/
theorem Inv.turned {t' : Nat} {it : Addr} (I : Inv X pins σ H s) (k : ∀ b o, b ≠ it → s.heap.get? b = some o → h'.get? b = some o) (hn : H it = none) (hL : it ≠ X.env.locals)
    (h1 : it ∈ X.ex ∨ X.s₀.heap.objs.size ≤ it) (h2 : ∀ x c, X.env.cells.lookup x = some c → c ≠ it) (h3 : ∀ p ∈ X.pn ++ pins, p.1 ≠ it) : Inv X pins σ H { s with heap := h', toks := t' } := by
  have nit : ∀ b u, H b = some u → b ≠ it := fun b u e z => by rw [z, hn] at e; cases e
  refine I.step (g' := s.gens) (d' := s.drawn) (ch := [it]) (fun b hb => ?_) (fun b o _ _ hc e _ => k b o (fun z => hc (by simp [z])) e) (fun b o _ _ hc e _ => ⟨o.slots, k b o (fun z => hc (by simp [z])) e⟩) (fun _ _ _ _ n => n)
    (fun b o hc e => ⟨o, k b o (fun z => hc (by simp [z])) e⟩) (fun _ _ e => e) (fun _ _ _ e => e) (fun b ps e => ⟨#[], by rw [e]; simp⟩) (fun m hm => ?_) (fun b u e => ?_) I.bare
  · have e : b = it := by simpa using hb
    subst e
    exact ⟨h1, hL, h2, h3⟩
  · obtain ⟨o, es, ep, ho, r⟩ := hm
    exact ⟨o, es, ep, k _ o (Ne.symm hL) ho, r⟩
  · refine (I.hok b u e).stay (fun c v hc q => k c v ?_ q) (fun _ q => q) fun _ _ q => q
    rcases hc with z | z
    · rw [z]; exact nit b u e
    · exact nit c _ z
theorem Inv.tok (I : Inv X pins σ H s) (t : Nat) : Inv X pins σ H { s with toks := t } := I.un (h' := s.heap) (t' := t) Un.refl I.hok
/-- all objects kept -/
theorem Inv.kept {t' : Nat} (I : Inv X pins σ H s) (k : ∀ b u, s.heap.get? b = some u → h'.get? b = some u) : Inv X pins σ H { s with heap := h', toks := t' } := I.un (Un.kept k) (I.hok.kept k)
/-- a new object laid and tracked -/
theorem Inv.laid {a : Addr} {o : HO} {t' : Nat} (I : Inv X pins σ H s) (k : ∀ b u, s.heap.get? b = some u → h'.get? b = some u) (hp : s.heap.objs.size ≤ a) (new : ObjOk X.prog X.w (upd H a o) h' a o) :
    Inv X pins σ (upd H a o) { s with heap := h', toks := t' } := I.un (Un.laid k hp (I.hok.fresh hp)) (I.hok.laid k hp new)
/-- an object written -/
theorem Inv.write {x e : Addr} {o : HO} {t' : Nat} (I : Inv X pins σ H s) (mu : Mut (H x)) (he : e = x ∨ H e = some (.own x)) (k : ∀ b u, b ≠ e → s.heap.get? b = some u → h'.get? b = some u) (heo : ∃ u, h'.get? e = some u)
    (new : ObjOk X.prog X.w (upd H x o) h' x o) : Inv X pins σ (upd H x o) { s with heap := h', toks := t' } := I.un (Un.write mu he k heo) (I.hok.write mu he k heo new)
/-- forgetting slots, pins -/
theorem Inv.weak {σ' : List (Option V)} (I : Inv X pins σ H s) (hl : σ'.length = σ.length) (w : ∀ (i : Nat) v, σ'[i]? = some (some v) → σ[i]? = some (some v)) : Inv X pins σ' H s :=
  ⟨I.ok, I.os, I.bare, I.base, let ⟨m, hn, hl'⟩ := I.loc; ⟨m, hn, fun i x v e1 e2 e3 => hl' i x v e1 (w i v e2) e3⟩, I.cell, I.free, I.freeC, I.pin, I.hok, hl.trans I.len⟩
theorem Inv.pins_of {pins' : List (Addr × Obj)} (I : Inv X pins σ H s) (h : ∀ p ∈ pins', s.heap.get? p.1 = some p.2 ∧ H p.1 = none ∧ p.1 ≠ X.env.locals ∧ p.1 ∉ X.fs ∧ ∀ v, p.2.data ≠ .cell v) : Inv X pins' σ H s :=
  ⟨I.ok, I.os, I.bare, I.base, I.loc, I.cell, I.free, I.freeC, fun p hp => (List.mem_append.mp hp).elim (fun z => I.pin p (List.mem_append_left _ z)) (h p), I.hok, I.len⟩

theorem nodup_ix {N : List Str} (hN : N.Nodup) {i j : Nat} {x : Str} (a : N[i]? = some x) (b : N[j]? = some x) : i = j := by
  obtain ⟨h1, e1⟩ := List.getElem?_eq_some_iff.mp a
  obtain ⟨h2, e2⟩ := List.getElem?_eq_some_iff.mp b
  exact (List.getElem_inj hN).mp (e1.trans e2.symm)

/-- a name is stored; what changed -/
theorem store_ok2 {M : Model} {A : Around} {E : Value → Shared → Prop} {i : Nat} {x : Str} {v : V} {u : Value} {Q : Unit → Shared → Prop} (I : Inv X pins σ H s) (hN : X.N.Nodup) (hi : X.N[i]? = some x) (hx : Loc X.env.scope x) (r : RelV v u)
    (h : ∀ s', Inv X pins (σ.set i (some v)) H s' → (∃ a, Heap.SameBut a s.heap s'.heap ∧ (a = X.env.locals ∨ X.env.cells.lookup x = some a)) → Q () s') (hf : X.fn x = true ∨ X.env.scope.names.lookup x = some .local := by first | exact .inl rfl | exact .inr rfl | assumption) : wpAny M A (storeName X.env x u) Q E s := by
  obtain ⟨m, hn, hl⟩ := id I.loc
  have hcls : (X.env.scope.kind == .class || (X.env.scope.kind == .module && X.env.locals != X.env.globals)) = false := by rw [I.ok.kind]; rfl
  have hiσ : i < σ.length := by rw [I.len]; exact (List.getElem?_eq_some_iff.mp hi).1
  have cne := I.cne
  have tracked : ∀ {a : Addr} {h' : Heap}, (∃ o, s.heap.get? a = some o ∧ H a = none) → Heap.SameBut a s.heap h' → HOk X.prog X.w H h' := fun {a h'} ha hs b ob e => by
    obtain ⟨_, _, hfree⟩ := ha
    refine (I.hok b ob e).stay (fun c w' hc q => (hs.2 c ?_).trans q) (fun _ q => q) fun _ _ q => q
    rintro rfl
    rcases hc with rfl | hc
    · rw [hfree] at e; cases e
    · rw [hfree] at hc; cases hc
  rcases hx with hk | hk
  · refine wpAny_storeName_local hk hn (fun h' hn' hs => ?_) hcls
    obtain ⟨oL, _, _, hoL, _⟩ := id hn
    refine h _ ⟨I.ok, I.os, I.bare, ⟨fun b o e n hb hx => ?_, fun b o e n hb hx => ?_, I.base.free, fun b o e hx => ?_, I.base.tups, I.base.frzs, I.base.tbls⟩, ⟨_, hn', fun j y v' e1 e2 e3 => ?_⟩, fun y c e => ?_, I.free, I.freeC, fun p hp => ?_, tracked ⟨oL, hoL, I.free⟩ hs, by simpa using I.len⟩ ⟨_, hs, .inl rfl⟩
    · exact (hs.2 b (Nat.ne_of_lt (Nat.lt_of_lt_of_le (Heap.lt_size e) I.ok.above))).trans (I.base.keep b o e n hb hx)
    · obtain ⟨sl, e1⟩ := I.base.slot b o e n hb hx
      exact ⟨sl, (hs.2 b (Nat.ne_of_lt (Nat.lt_of_lt_of_le (Heap.lt_size e) I.ok.above))).trans e1⟩
    · obtain ⟨o', e1⟩ := I.base.there b o e hx
      exact ⟨o', (hs.2 b (Nat.ne_of_lt (Nat.lt_of_lt_of_le (Heap.lt_size e) I.ok.above))).trans e1⟩
    · by_cases hj : j = i
      · subst hj
        rw [hi] at e1; cases e1
        rw [List.getElem?_set_self hiσ] at e2
        cases e2
        exact ⟨u, r, .inl ⟨hk, by simp⟩⟩
      · rw [List.getElem?_set_ne (Ne.symm hj)] at e2
        obtain ⟨u', r', q⟩ := hl j y v' e1 e2 e3
        refine ⟨u', r', ?_⟩
        rcases q with ⟨k, e⟩ | ⟨k, c, e, z⟩
        · refine .inl ⟨k, ?_⟩
          have : y ≠ x := fun e => hj (nodup_ix hN e1 (e ▸ hi))
          simp [this, e]
        · exact .inr ⟨k, c, e, z.sameBut hs (cne y c e)⟩
    · obtain ⟨w', z⟩ := I.cell y c e
      exact ⟨w', z.sameBut hs (cne y c e)⟩
    · obtain ⟨e, n, ne, nf, d⟩ := I.pin p hp
      exact ⟨(hs.2 p.1 ne).trans e, n, ne, nf, d⟩
  · have hfn : X.fn x = true := by
      rcases hf with z | z
      · exact z
      · rw [z] at hk; cases hk
    obtain ⟨c, hc⟩ := I.ok.has x (.inl hk)
    obtain ⟨w', z⟩ := I.cell x c hc
    refine wpAny_storeName_cell I.ok.kind hk hc z (fun h' hc' hs => ?_)
    obtain ⟨oc, hoc, hocd⟩ := id z
    refine h { s with heap := h' } ⟨I.ok, I.os, I.bare, ⟨fun b o e n hb hx => ?_, fun b o e n hb hx => ?_, I.base.free, fun b o e hx => ?_, I.base.tups, I.base.frzs, I.base.tbls⟩, ⟨m, hn.sameBut hs (Ne.symm (cne x c hc)), fun j y v' e1 e2 e3 => ?_⟩, fun y c' e => ?_, I.free, I.freeC, fun p hp => ?_, tracked ⟨oc, hoc, I.freeC x c hc⟩ hs, by simpa using I.len⟩ ⟨c, hs, .inr hc⟩
    · exact (hs.2 b (Nat.ne_of_lt (Nat.lt_of_lt_of_le (Heap.lt_size e) (I.ok.cab x c hfn hc)))).trans (I.base.keep b o e n hb hx)
    · obtain ⟨sl, e1⟩ := I.base.slot b o e n hb hx
      exact ⟨sl, (hs.2 b (Nat.ne_of_lt (Nat.lt_of_lt_of_le (Heap.lt_size e) (I.ok.cab x c hfn hc)))).trans e1⟩
    · obtain ⟨o', e1⟩ := I.base.there b o e hx
      exact ⟨o', (hs.2 b (Nat.ne_of_lt (Nat.lt_of_lt_of_le (Heap.lt_size e) (I.ok.cab x c hfn hc)))).trans e1⟩
    · by_cases hj : j = i
      · subst hj
        rw [hi] at e1; cases e1
        rw [List.getElem?_set_self hiσ] at e2
        cases e2
        exact ⟨u, r, .inr ⟨.inl hk, c, hc, hc'⟩⟩
      · rw [List.getElem?_set_ne (Ne.symm hj)] at e2
        obtain ⟨u', r', q⟩ := hl j y v' e1 e2 e3
        refine ⟨u', r', ?_⟩
        rcases q with q | ⟨k, c', e, z'⟩
        · exact .inl q
        · refine .inr ⟨k, c', e, z'.sameBut hs ?_⟩
          rintro rfl
          exact hj (nodup_ix hN e1 (I.ok.inj _ _ _ e hc ▸ hi))
    · by_cases hcc : c' = c
      · subst hcc; exact ⟨_, hc'⟩
      · obtain ⟨w2, z2⟩ := I.cell y c' e
        exact ⟨w2, z2.sameBut hs hcc⟩
    · obtain ⟨e, n, ne, nf, d⟩ := I.pin p hp
      refine ⟨(hs.2 p.1 ?_).trans e, n, ne, nf, d⟩
      intro q
      rw [q, hoc] at e
      have q' : oc = p.2 := Option.some.inj e
      exact d w' (by rw [← q']; exact hocd)
theorem store_ok {M : Model} {A : Around} {E : Value → Shared → Prop} {i : Nat} {x : Str} {v : V} {u : Value} {Q : Unit → Shared → Prop} (I : Inv X pins σ H s) (hN : X.N.Nodup) (hi : X.N[i]? = some x) (hx : Loc X.env.scope x) (r : RelV v u)
    (h : ∀ s', Inv X pins (σ.set i (some v)) H s' → Q () s') (hf : X.fn x = true ∨ X.env.scope.names.lookup x = some .local := by first | exact .inl rfl | exact .inr rfl | assumption) : wpAny M A (storeName X.env x u) Q E s :=
  store_ok2 I hN hi hx r (fun s' I' _ => h s' I') hf
/-- behind a call or a block, the state as it is -/
theorem Inv.call' {s' : Shared} {ch : List Addr} (I : Inv X pins σ H s) (ho : s'.os = s.os) (u : Un (frs X.stack) ch H H' s.heap s'.heap) (hok : HOk X.prog X.w H' s'.heap) (hg : AllBare s'.gens)
    (hch : ∀ b ∈ ch, (b ∈ X.ex ∨ X.s₀.heap.objs.size ≤ b) ∧ b ≠ X.env.locals ∧ (∀ x c, X.env.cells.lookup x = some c → c ≠ b) ∧ ∀ p ∈ X.pn ++ pins, p.1 ≠ b) : Inv X pins σ H' s' := by
  obtain ⟨h', g', d', t', o'⟩ := s'
  have e : o' = s.os := ho
  subst e
  exact I.call (g' := g') (t' := t') (d' := d') u hok hg hch
end

/-! ### the judgements -/
/-- an exception: its class, its own dict's address (where it has one), the abstract heap behind it -/
abbrev XK := Value → Option Addr → Hp → Prop
abbrev St := List (Option V)
abbrev VK := V → Hp → Prop
/-- an expression's reading; a test's; an argument list's -/
abbrev TE := St → Hp → VK → Prop
abbrev TT := St → Hp → (Bool → Hp → Prop) → Prop
abbrev TA := St → Hp → (List V → Hp → Prop) → Prop
/-- what is wanted behind a statement -/
structure Ends where
  nx : St → Hp → Prop
  rt : VK
  bk : St → Hp → Prop := fun _ _ => False
  ct : St → Hp → Prop := fun _ _ => False
abbrev TS := Ends → St → Hp → Prop

def EP (X : Cx) (pins : List (Addr × Obj)) (σ : St) (Q : VK) (u : Value) (s' : Shared) : Prop := ∃ v H', Inv X pins σ H' s' ∧ RelV v u ∧ Q v H'
def TP (X : Cx) (pins : List (Addr × Obj)) (σ : St) (Q : Bool → Hp → Prop) (b : Bool) (s' : Shared) : Prop := ∃ H', Inv X pins σ H' s' ∧ Q b H'
def AP (X : Cx) (pins : List (Addr × Obj)) (σ : St) (Q : List V → Hp → Prop) (us : List Value) (s' : Shared) : Prop := ∃ vs H', Inv X pins σ H' s' ∧ Vals vs us ∧ Q vs H'
def SP (X : Cx) (pins : List (Addr × Obj)) (D : Ends) (f : Flow) (s' : Shared) : Prop :=
  match f with
  | .next => ∃ σ' H', Inv X pins σ' H' s' ∧ D.nx σ' H'
  | .brk => ∃ σ' H', Inv X pins σ' H' s' ∧ D.bk σ' H'
  | .cont => ∃ σ' H', Inv X pins σ' H' s' ∧ D.ct σ' H'
  | .ret u => ∃ v σ' H', Inv X pins σ' H' s' ∧ RelV v u ∧ D.rt v H'

def PE (X : Cx) (e : Expr) (t : TE) : Prop :=
  ∀ (pins : List (Addr × Obj)) (s : Shared) (σ : St) (H : Hp) (Q : VK), Inv X pins σ H s → t σ H Q → wpAny (model X.prog X.w) X.A (eval e X.env) (EP X pins σ Q) X.xe s
def PT (X : Cx) (e : Expr) (t : TT) : Prop :=
  ∀ (pins : List (Addr × Obj)) (s : Shared) (σ : St) (H : Hp) (Q : Bool → Hp → Prop), Inv X pins σ H s → t σ H Q → wpAny (model X.prog X.w) X.A (isTrue e X.env (eval e X.env)) (TP X pins σ Q) X.xe s
/-- a test whatever its 'whole' is (and, or) -/
def PW (X : Cx) (e : Expr) (t : TT) : Prop :=
  ∀ (whole : Sem Value) (pins : List (Addr × Obj)) (s : Shared) (σ : St) (H : Hp) (Q : Bool → Hp → Prop), Inv X pins σ H s → t σ H Q → wpAny (model X.prog X.w) X.A (isTrue e X.env whole) (TP X pins σ Q) X.xe s
theorem PW.pt {X : Cx} {e : Expr} {t : TT} (h : PW X e t) : PT X e t := h _
/-- an argument list (no star), from the left -/
def PA (X : Cx) (es : List Expr) (t : TA) : Prop :=
  ∀ (pos : Pos) (pins : List (Addr × Obj)) (s : Shared) (σ : St) (H : Hp) (Q : List V → Hp → Prop), Inv X pins σ H s → t σ H Q → wpAny (model X.prog X.w) X.A (spliced (backTo pos (starEach es X.env))) (AP X pins σ Q) X.xe s
def PS (X : Cx) (st : Stmt) (t : TS) : Prop :=
  ∀ (pins : List (Addr × Obj)) (s : Shared) (σ : St) (H : Hp) (D : Ends), Inv X pins σ H s → t D σ H → wpAny (model X.prog X.w) X.A (exec st X.env) (SP X pins D) X.xe s
def PSs (X : Cx) (st : List Stmt) (t : TS) : Prop :=
  ∀ (pins : List (Addr × Obj)) (s : Shared) (σ : St) (H : Hp) (D : Ends), Inv X pins σ H s → t D σ H → wpAny (model X.prog X.w) X.A (execs st X.env) (SP X pins D) X.xe s
/-- weaken the end -/
theorem thn {α : Type} {t : Sem α} {Q Q' : α → Shared → Prop} {M : Model} {A : Around} {E : Value → Shared → Prop} {s : Shared} (h : wpAny M A t Q E s) (hQ : ∀ a s, Q a s → Q' a s) : wpAny M A t Q' E s := wpAny_mono h hQ fun _ _ x => x
end L2

namespace L2
open PySem PySem.Spec PyProof.Rows
section
variable {X : Cx}

/-! ### names and constants -/
def tVar (i : Nat) : TE := fun σ H Q => ∃ v, σ[i]? = some (some v) ∧ Q v H
def tC (v : V) : TE := fun _ H Q => Q v H
theorem pe_var {i : Nat} {x : Str} {pos : Pos} (hN : X.N[i]? = some x) (hv : Vis X.env.scope x) (hd : (x == ("__debug__" : Str)) = false := by decide) (hcd : (x == ("__classdict__" : Str)) = false := by decide) : PE X (.Name x pos) (tVar i) := by
  intro pins s σ H Q I h
  obtain ⟨v, e, h⟩ := h
  obtain ⟨m, hn, hl⟩ := I.loc
  obtain ⟨u, r, l⟩ := hl i x v hN e hv
  have fin : EP X pins σ Q u s := ⟨v, H, I, r, h⟩
  rcases l with ⟨hk, hm⟩ | ⟨hk, c, hc, hcell⟩
  · exact wpAny_Name (wpAny_loadName_local I.ok.kind hk hn hm fin) hd
  · rcases hk with hk | hk
    · exact wpAny_Name (wpAny_loadName_cell I.ok.kind hk hc hcell fin) hd
    · exact wpAny_Name (wpAny_loadName_free I.ok.kind hk hc hcell fin hcd) hd
theorem pe_int {i j pos} : PE X (.Constant (.int i) j pos) (tC (.int i)) := fun _ _ _ H _ I h => wpAny_Constant_int ⟨.int i, H, I.tok _, ⟨_, rfl⟩, h⟩
theorem pe_bl {b j pos} : PE X (.Constant (.bool b) j pos) (tC (.bl b)) := fun _ _ _ H _ I h => Constant_bool ⟨.bl b, H, I, rfl, h⟩
theorem pe_str {x j pos} : PE X (.Constant (.str x) j pos) (tC (.str x)) := fun _ _ _ H _ I h => Calls.Constant_str ⟨.str x, H, I.tok _, ⟨_, rfl⟩, h⟩

/-- a global name of the def -/
def Gl (X : Cx) (x : Str) : Prop := X.env.kindOf x = some .globalImplicit
theorem ld_glob {E : Value → Shared → Prop} {pins : List (Addr × Obj)} {s : Shared} {σ : St} {H : Hp} {x : Str} {u : Value} {pos : Pos} {Q : Value → Shared → Prop} (I : Inv X pins σ H s) (hg : Gl X x) (hm : X.mg x = some u) (h : Q u s)
    (hd : (x == ("__debug__" : Str)) = false := by decide) : wpAny (model X.prog X.w) X.A (eval (.Name x pos) X.env) Q E s :=
  Calls.Name_function_global I.ok.kind hg (Calls.loadGlobal_global (by rw [I.ok.glob]; exact I.mod.glob.keeps I.bk) hm h) hd
theorem ld_blt {E : Value → Shared → Prop} {pins : List (Addr × Obj)} {s : Shared} {σ : St} {H : Hp} {x : Str} {u : Value} {pos : Pos} {Q : Value → Shared → Prop} (I : Inv X pins σ H s) (hg : Gl X x) (hm : X.mg x = none) (hv : bootBuiltins x = some u) (h : Q u s)
    (hn : x ≠ "__name__" := by decide) (hd : (x == ("__debug__" : Str)) = false := by decide) : wpAny (model X.prog X.w) X.A (eval (.Name x pos) X.env) Q E s := by
  obtain ⟨mb, h1, h2⟩ := I.mod.blt
  exact Calls.Name_function_global I.ok.kind hg (Calls.loadGlobal_builtin (by rw [I.ok.glob]; exact I.mod.glob.keeps I.bk) hm (by rw [I.ok.blt]; exact h1.keeps I.bk) ((h2 x hn).trans hv) h) hd
/-- a module's constant, a class, a function, as a value -/
theorem pe_glob {x : Str} {v : V} {u : Value} {pos : Pos} (hg : Gl X x) (hm : X.mg x = some u) (r : RelV v u) (hd : (x == ("__debug__" : Str)) = false := by decide) : PE X (.Name x pos) (tC v) :=
  fun _ _ _ H _ I h => ld_glob I hg hm ⟨v, H, I, r, h⟩ hd
theorem pe_bltn {x : Str} {v : V} {u : Value} {pos : Pos} (hg : Gl X x) (hm : X.mg x = none) (hv : bootBuiltins x = some u) (r : RelV v u) (hn : x ≠ "__name__" := by decide) (hd : (x == ("__debug__" : Str)) = false := by decide) : PE X (.Name x pos) (tC v) :=
  fun _ _ _ H _ I h => ld_blt I hg hm hv ⟨v, H, I, r, h⟩ hn hd

/-! ### arithmetic -/
variable {a b : Expr} {ta tb : TE} {pos : Pos}
/-! ### comparisons -/
def PC (X : Cx) (op : CmpOp) (a b : Expr) (t : TE) : Prop :=
  ∀ (pins : List (Addr × Obj)) (s : Shared) (σ : St) (H : Hp) (Q : VK), Inv X pins σ H s → t σ H Q →
    wpAny (model X.prog X.w) X.A (eval a X.env) (fun v s₁ => wpAny (model X.prog X.w) X.A (eval b X.env) (fun u s₂ => wpAny (model X.prog X.w) X.A (compareOp op v u) (EP X pins σ Q) X.xe s₂) X.xe s₁) X.xe s
theorem nobehind (b : Expr) {op : CmpOp} (h : op ≠ .In) (h2 : op ≠ .NotIn) : behindInMarks op b = false := by
  have e1 : (op == CmpOp.In) = false := by cases op <;> first | rfl | exact absurd rfl h
  have e2 : (op == CmpOp.NotIn) = false := by cases op <;> first | rfl | exact absurd rfl h2
  cases b <;> simp [behindInMarks, e1, e2]
/-- a comparison as a value, as a test -/
def tB (t : TE) : TT := fun σ H Q => t σ H fun x H1 => ∃ c, x = .bl c ∧ Q c H1
theorem pe_cmp {op : CmpOp} {t : TE} (h : PC X op a b t) (h1 : behindInMarks op b = false := by first | exact nobehind _ (by decide) (by decide) | rfl) : PE X (.Compare a [op] [b] pos) t := fun pins s σ H Q I hw => wpAny_Compare1 (h pins s σ H Q I hw) h1
theorem pt_cmp {op : CmpOp} {t : TE} (h : PC X op a b t) (h1 : behindInMarks op b = false := by first | exact nobehind _ (by decide) (by decide) | rfl) : PT X (.Compare a [op] [b] pos) (tB t) := by
  intro pins s σ H Q I hw
  refine wpAny_isTrue_Compare1 (thn (h pins s σ H _ I hw) fun v s1 h1 => thn h1 fun u s2 h2 => thn h2 fun c s3 ⟨x, H1, I1, r1, q1⟩ => ?_) h1
  obtain ⟨d, rfl, q⟩ := q1
  cases r1
  exact wpAny_truthy_bool ⟨H1, I1, q⟩
/-- an expression whose value is a bool, as a test -/
theorem pt_val {e : Expr} {t : TE} (h : PE X e t) (he : ∀ whole, isTrue e X.env whole = (do let v ← whole; standAt e.pos; holding [v] (truthy v)) := by intro _; rfl) : PT X e (tB t) := by
  intro pins s σ H Q I hw
  refine isTrue_plain (thn (h pins s σ H _ I hw) fun v s1 ⟨x, H1, I1, r1, q1⟩ => ?_) (he _)
  obtain ⟨d, rfl, q⟩ := q1
  cases r1
  exact wpAny_truthy_bool ⟨H1, I1, q⟩

/-! ### and, or, not -/
variable {tA tB' : TT} {rest : List Expr}
def tAnd (t u : TT) : TT := fun σ H Q => t σ H fun c H1 => if c = true then u σ H1 Q else Q false H1
def tOr (t u : TT) : TT := fun σ H Q => t σ H fun c H1 => if c = true then Q true H1 else u σ H1 Q
def tNot (t : TT) : TT := fun σ H Q => t σ H fun c H1 => Q (!c) H1
theorem pw_and1 (ha : PT X a tA) : PW X (.BoolOp .And [a] pos) tA := by
  intro wh pins s σ H Q I h
  refine isTrue_and (thn (ha pins s σ H Q I h) fun c s1 e => ?_)
  cases c with
  | true => exact isTrue_and_nil e
  | false => exact e
theorem pw_or1 (ha : PT X a tA) : PW X (.BoolOp .Or [a] pos) tA := by
  intro wh pins s σ H Q I h
  refine isTrue_or (thn (ha pins s σ H Q I h) fun c s1 e => ?_)
  cases c with
  | false => exact isTrue_or_nil e
  | true => exact e
theorem pw_and (ha : PT X a tA) (hb : PW X (.BoolOp .And (b :: rest) pos) tB') : PW X (.BoolOp .And (a :: b :: rest) pos) (tAnd tA tB') := by
  intro wh pins s σ H Q I h
  refine isTrue_and (thn (ha pins s σ H _ I h) fun c s1 ⟨H1, I1, q1⟩ => ?_)
  cases c with
  | true => exact hb wh pins s1 σ H1 Q I1 q1
  | false => exact ⟨H1, I1, q1⟩
theorem pw_or (ha : PT X a tA) (hb : PW X (.BoolOp .Or (b :: rest) pos) tB') : PW X (.BoolOp .Or (a :: b :: rest) pos) (tOr tA tB') := by
  intro wh pins s σ H Q I h
  refine isTrue_or (thn (ha pins s σ H _ I h) fun c s1 ⟨H1, I1, q1⟩ => ?_)
  cases c with
  | true => exact ⟨H1, I1, q1⟩
  | false => exact hb wh pins s1 σ H1 Q I1 q1
theorem pt_not (ha : PT X a tA) : PT X (.UnaryOp .Not a pos) (tNot tA) := by
  intro pins s σ H Q I h
  exact isTrue_not (ha pins s σ H (fun c H1 => Q (!c) H1) I h)
/-- .. as values (bools) -/
def tAndV (ta tb : TE) : TE := fun σ H Q => ta σ H fun x H1 => ∃ c, x = .bl c ∧ if c = true then tb σ H1 Q else Q (.bl false) H1
def tOrV (ta tb : TE) : TE := fun σ H Q => ta σ H fun x H1 => ∃ c, x = .bl c ∧ if c = true then Q (.bl true) H1 else tb σ H1 Q
def tNotV (ta : TE) : TE := fun σ H Q => ta σ H fun x H1 => ∃ c, x = .bl c ∧ Q (.bl (!c)) H1
theorem pe_one {op} {t : TE} (h : PE X a t) : PE X (.BoolOp op [a] pos) t := fun pins s σ H Q I hw => BoolOp_one (h pins s σ H Q I hw)
theorem pe_and (ha : PE X a ta) (hb : PE X (.BoolOp .And (b :: rest) pos) tb) : PE X (.BoolOp .And (a :: b :: rest) pos) (tAndV ta tb) := by
  intro pins s σ H Q I h
  refine BoolOp_and (thn (ha pins s σ H _ I h) fun v s1 ⟨x, H1, I1, r1, q1⟩ => ?_)
  obtain ⟨c, rfl, q1⟩ := q1
  cases r1
  refine wpAny_truthy_bool ?_
  cases c with
  | true => exact hb pins s1 σ H1 Q I1 q1
  | false => exact ⟨.bl false, H1, I1, rfl, q1⟩
theorem pe_or (ha : PE X a ta) (hb : PE X (.BoolOp .Or (b :: rest) pos) tb) : PE X (.BoolOp .Or (a :: b :: rest) pos) (tOrV ta tb) := by
  intro pins s σ H Q I h
  refine BoolOp_or (thn (ha pins s σ H _ I h) fun v s1 ⟨x, H1, I1, r1, q1⟩ => ?_)
  obtain ⟨c, rfl, q1⟩ := q1
  cases r1
  refine wpAny_truthy_bool ?_
  cases c with
  | false => exact hb pins s1 σ H1 Q I1 q1
  | true => exact ⟨.bl true, H1, I1, rfl, q1⟩
theorem pe_not (ha : PE X a ta) : PE X (.UnaryOp .Not a pos) (tNotV ta) := by
  intro pins s σ H Q I h
  refine UnaryOp_ (thn (ha pins s σ H _ I h) fun v s1 ⟨x, H1, I1, r1, q1⟩ => ?_)
  obtain ⟨c, rfl, q1⟩ := q1
  cases r1
  exact not_of (wpAny_truthy_bool ⟨.bl (!c), H1, I1, rfl, q1⟩)
/-- a if t else b -/
def tIf (t : TT) (ta tb : TE) : TE := fun σ H Q => t σ H fun c H1 => if c = true then ta σ H1 Q else tb σ H1 Q
theorem pe_ifExp {c : Expr} (hc : PT X c tA) (ha : PE X a ta) (hb : PE X b tb) : PE X (.IfExp c a b pos) (tIf tA ta tb) := by
  intro pins s σ H Q I h
  refine wpAny_IfExp (thn (hc pins s σ H _ I h) fun d s1 ⟨H1, I1, q1⟩ => ?_)
  cases d with
  | true => exact ha pins s1 σ H1 Q I1 q1
  | false => exact hb pins s1 σ H1 Q I1 q1
end
end L2

namespace L2
open PySem PySem.Spec PyProof.Rows

/-! ### a list, a tuple that is read: tracked, frozen, or an object of the module -/
def SqL (K : PySem.W.Frag) (H : Hp) (a : Addr) (xs : List V) : Prop :=
  Rd H a (.lst xs) ∨
    ∃ (o : Obj) (its : Array Value) (n : Nat), K.lookup a = some o ∧ o.cls = .type "list" ∧ o.dict = none ∧ o.data = .seq its n ∧ its.size ≤ sizeLine ∧ Vals xs its.toList
def SqT (K : PySem.W.Frag) (H : Hp) (a : Addr) (xs : List V) : Prop :=
  Rd H a (.tup xs) ∨
    ∃ (o : Obj) (its : Array Value) (n : Nat), K.lookup a = some o ∧ o.cls = .type "tuple" ∧ o.data = .seq its n ∧ its.size ≤ sizeLine ∧ Vals xs its.toList
def absV : Value → Option V
  | .none => some .non
  | .bool b => some (.bl b)
  | .int i _ => some (.int i)
  | .str x _ => some (.str x)
  | .bytes b _ => some (.byt b)
  | .float b _ => some (.flt b)
  | .ref a => some (.ref a)
  | .type n => some (.ty n)
  | _ => none
theorem RelV.abs {x : V} {u : Value} (r : RelV x u) : absV u = some x := by
  cases x with
  | non => cases r; rfl
  | bl _ => cases r; rfl
  | int _ => obtain ⟨t, rfl⟩ := r; rfl
  | str _ => obtain ⟨t, rfl⟩ := r; rfl
  | byt _ => obtain ⟨t, rfl⟩ := r; rfl
  | flt _ => obtain ⟨t, rfl⟩ := r; rfl
  | ref _ => cases r; rfl
  | ty _ => cases r; rfl
theorem RelV.inj {x y : V} {u : Value} (r : RelV x u) (q : RelV y u) : x = y := Option.some.inj (r.abs.symm.trans q.abs)
theorem Vals.inj : ∀ {xs ys : List V} {us : List Value}, Vals xs us → Vals ys us → xs = ys
  | _, _, _, .nil, .nil => rfl
  | _, _, _, .cons r t, .cons r' t' => by rw [r.inj r', Vals.inj t t']
section
variable {X : Cx} {pins : List (Addr × Obj)} {σ : St} {H : Hp} {s : Shared} {a : Addr} {xs ys : List V}
theorem SqL.of {K : PySem.W.Frag} (h : H a = some (.lst xs)) : SqL K H a xs := .inl (.inl h)
theorem SqT.of {K : PySem.W.Frag} (h : H a = some (.tup xs)) : SqT K H a xs := .inl (.inl h)
theorem Inv.list (I : Inv X pins σ H s) (h : SqL X.K H a xs) : ∃ its : List Value, Vals xs its ∧ PlainL s.heap a its.toArray ∧ xs.length ≤ sizeLine := by
  rcases h with h | ⟨o, its, n, hk, hc, hd, hs, hz, r⟩
  · obtain ⟨z, its, n, r, e⟩ := h.ok I.hok
    exact ⟨its, r, ⟨_, n, e, rfl, rfl, rfl⟩, z⟩
  · refine ⟨its.toList, r, ⟨o, n, I.kIn a o hk, hc, hd, by simpa using hs⟩, ?_⟩
    have e := r.length
    simp only [Array.length_toList] at e
    omega
theorem Inv.tuple (I : Inv X pins σ H s) (h : SqT X.K H a xs) : ∃ its : List Value, Vals xs its ∧ IsTup s.heap a its.toArray ∧ xs.length ≤ sizeLine := by
  rcases h with h | ⟨o, its, n, hk, hc, hs, hz, r⟩
  · obtain ⟨z, its, r, p⟩ := h.ok I.hok
    exact ⟨its, r, p, z.1⟩
  · refine ⟨its.toList, r, ⟨o, I.kIn a o hk, hc, n, by simpa using hs⟩, ?_⟩
    have e := r.length
    simp only [Array.length_toList] at e
    omega
theorem Inv.list_inj (I : Inv X pins σ H s) (h : SqL X.K H a xs) (h' : SqL X.K H a ys) : xs = ys := by
  obtain ⟨its, r, ⟨o, n, e, _, _, d⟩, _⟩ := I.list h
  obtain ⟨its', r', ⟨o', n', e', _, _, d'⟩, _⟩ := I.list h'
  rw [e] at e'; cases e'
  rw [d] at d'
  injection d' with d1 _
  have : its = its' := by simpa using congrArg Array.toList d1
  subst this
  exact r.inj r'
theorem Inv.tuple_inj (I : Inv X pins σ H s) (h : SqT X.K H a xs) (h' : SqT X.K H a ys) : xs = ys := by
  obtain ⟨its, r, ⟨o, e, _, n, d⟩, _⟩ := I.tuple h
  obtain ⟨its', r', ⟨o', e', _, n', d'⟩, _⟩ := I.tuple h'
  rw [e] at e'; cases e'
  rw [d] at d'
  injection d' with d1 _
  have : its = its' := by simpa using congrArg Array.toList d1
  subst this
  exact r.inj r'
end

/-! ### another wish about exceptions -/
abbrev Cx.wish (X : Cx) (E : Value → Shared → Prop) : Cx := { X with xe := E }
/-- no exception leaves -/
abbrev Cx.nox (X : Cx) : Cx := X.wish fun _ _ => False
theorem Cx.Ok.wish {X : Cx} (ok : X.Ok) (E : Value → Shared → Prop) : (X.wish E).Ok :=
  ⟨ok.mod, ok.kind, ok.glob, ok.blt, ok.above, ok.inj, ok.has, ok.cab, ok.hd, ok.frames, ok.stk, ok.exf, ok.bs, ok.bsz, ok.noex, ok.exfs, ok.funs, ok.frf⟩
theorem Cx.Ok.unwish {X : Cx} {E : Value → Shared → Prop} (ok : (X.wish E).Ok) : X.Ok :=
  ⟨ok.mod, ok.kind, ok.glob, ok.blt, ok.above, ok.inj, ok.has, ok.cab, ok.hd, ok.frames, ok.stk, ok.exf, ok.bs, ok.bsz, ok.noex, ok.exfs, ok.funs, ok.frf⟩
section
variable {X : Cx} {pins : List (Addr × Obj)} {σ : St} {H : Hp} {s : Shared} {E : Value → Shared → Prop}
theorem Inv.wish (I : Inv X pins σ H s) (E : Value → Shared → Prop) : Inv (X.wish E) pins σ H s := ⟨I.ok.wish E, I.os, I.bare, I.base, I.loc, I.cell, I.free, I.freeC, I.pin, I.hok, I.len⟩
theorem Inv.unwish (I : Inv (X.wish E) pins σ H s) : Inv X pins σ H s := ⟨I.ok.unwish, I.os, I.bare, I.base, I.loc, I.cell, I.free, I.freeC, I.pin, I.hok, I.len⟩
theorem SP.unwish {D : Ends} {f : Flow} {s' : Shared} (h : SP (X.wish E) pins D f s') : SP X pins D f s' := by
  cases f with
  | next => obtain ⟨σ', H', I, q⟩ := h; exact ⟨σ', H', I.unwish, q⟩
  | brk => obtain ⟨σ', H', I, q⟩ := h; exact ⟨σ', H', I.unwish, q⟩
  | cont => obtain ⟨σ', H', I, q⟩ := h; exact ⟨σ', H', I.unwish, q⟩
  | ret u => obtain ⟨v, σ', H', I, r, q⟩ := h; exact ⟨v, σ', H', I.unwish, r, q⟩
theorem PE.nox {e : Expr} {t : TE} (h : PE X.nox e t) : PE X e t := fun pins s σ H Q I hw =>
  wpAny_mono (h pins s σ H Q (I.wish _) hw) (fun _ _ ⟨v, H', I', r, q⟩ => ⟨v, H', I'.unwish, r, q⟩) fun _ _ z => False.elim z
theorem PT.nox {e : Expr} {t : TT} (h : PT X.nox e t) : PT X e t := fun pins s σ H Q I hw =>
  wpAny_mono (h pins s σ H Q (I.wish _) hw) (fun _ _ ⟨H', I', q⟩ => ⟨H', I'.unwish, q⟩) fun _ _ z => False.elim z
theorem PSs.nox {st : List Stmt} {t : TS} (h : PSs X.nox st t) : PSs X st t := fun pins s σ H D I hw =>
  wpAny_mono (h pins s σ H D (I.wish _) hw) (fun _ _ q => q.unwish) fun _ _ z => False.elim z
end

/-! ### blocks and small statements -/
section
variable {X : Cx} {st : Stmt} {rest : List Stmt} {t u : TS} {e : Expr} {te : TE} {pos : Pos}
def tNext : TS := fun D σ H => D.nx σ H
def tSeq (t u : TS) : TS := fun D σ H => t { D with nx := u D } σ H
theorem pss_nil : PSs X [] tNext := fun _ _ σ H _ I h => wpAny_execs_nil ⟨σ, H, I, h⟩
theorem pss_cons (h1 : PS X st t) (h2 : PSs X rest u) : PSs X (st :: rest) (tSeq t u) := by
  intro pins s σ H D I h
  refine wpAny_execs_cons (thn (h1 pins s σ H { D with nx := u D } I h) fun f s1 q => ?_)
  cases f with
  | next =>
    obtain ⟨σ', H', I', q⟩ := q
    exact h2 pins s1 σ' H' D I' q
  | ret v => exact q
  | brk => exact q
  | cont => exact q
theorem pss_one (h1 : PS X st t) : PSs X [st] t := by
  intro pins s σ H D I h
  refine wpAny_execs_cons (thn (h1 pins s σ H D I h) fun f s1 q => ?_)
  cases f with
  | next => exact wpAny_execs_nil q
  | ret v => exact q
  | brk => exact q
  | cont => exact q
/-- in a def's body nothing is shown -/
theorem Inv.quiet {pins : List (Addr × Obj)} {σ : St} {H : Hp} {s : Shared} (I : Inv X pins σ H s) : interactive X.env = false := by simp [interactive, I.ok.kind]
/-- an expression whose value is dropped -/
def tDrop (te : TE) : TS := fun D σ H => te σ H fun _ H1 => D.nx σ H1
theorem ps_expr (he : PE X e te) (hs : swapsWith e none pos.line X.env = pure false := by rfl) : PS X (.Expr e pos) (tDrop te) := by
  intro pins s σ H D I h
  exact wpAny_Expr_any (thn (he pins s σ H _ I h) fun v s1 ⟨x, H1, I1, r1, q1⟩ => ⟨σ, H1, I1, q1⟩) I.quiet hs
def tRet (te : TE) : TS := fun D σ H => te σ H D.rt
theorem ps_ret (he : PE X e te) : PS X (.Return (some e) pos) (tRet te) := by
  intro pins s σ H D I h
  exact wpAny_Return_some (thn (he pins s σ H _ I h) fun v s1 ⟨x, H1, I1, r1, q1⟩ => ⟨x, σ, H1, I1, r1, q1⟩)
def tIfS (c : TT) (t u : TS) : TS := fun D σ H => c σ H fun b H1 => if b = true then t D σ H1 else u D σ H1
theorem ps_if {c : Expr} {a b : List Stmt} {tc : TT} (hc : PT X c tc) (ha : PSs X a t) (hb : PSs X b u) : PS X (.If c a b pos) (tIfS tc t u) := by
  intro pins s σ H D I h
  refine wpAny_If (thn (hc pins s σ H _ I h) fun d s1 ⟨H1, I1, q1⟩ => ?_)
  cases d with
  | true => exact ha pins s1 σ H1 D I1 q1
  | false => exact hb pins s1 σ H1 D I1 q1
end

/-! ### targets -/
abbrev TG := V → St → Hp → (St → Hp → Prop) → Prop
abbrev TGs := List V → St → Hp → (St → Hp → Prop) → Prop
def PG (X : Cx) (target : Expr) (t : TG) : Prop :=
  ∀ (pins : List (Addr × Obj)) (s : Shared) (σ : St) (H : Hp) (v : V) (u : Value) (Q : St → Hp → Prop), Inv X pins σ H s → RelV v u → t v σ H Q →
    wpAny (model X.prog X.w) X.A (assign target X.env u) (fun _ s' => ∃ σ' H', Inv X pins σ' H' s' ∧ Q σ' H') X.xe s
/-- several targets, one after another -/
def PGs (X : Cx) (ts : List Expr) (t : TGs) : Prop :=
  ∀ (pins : List (Addr × Obj)) (s : Shared) (σ : St) (H : Hp) (vs : List V) (us : List Value) (Q : St → Hp → Prop), Inv X pins σ H s → Vals vs us → t vs σ H Q →
    wpAny (model X.prog X.w) X.A (assignInOrder ((assignEach ts X.env).map (·.2)) us) (fun _ s' => ∃ σ' H', Inv X pins σ' H' s' ∧ Q σ' H') X.xe s
/-- o[i] = v, by values -/
abbrev TSet := V → V → V → Hp → (Hp → Prop) → Prop
def PSet (X : Cx) (t : TSet) : Prop :=
  ∀ (pins : List (Addr × Obj)) (s : Shared) (σ : St) (H : Hp) (o i v : V) (ov iv u : Value) (Q : Hp → Prop), Inv X pins σ H s → RelV o ov → RelV i iv → RelV v u → t o i v H Q →
    wpAny (model X.prog X.w) X.A (setItem ov iv u) (fun _ s' => ∃ H', Inv X pins σ H' s' ∧ Q H') X.xe s
section
variable {X : Cx} {pos : Pos}
def gName (i : Nat) : TG := fun v σ H Q => Q (σ.set i (some v)) H
theorem pg_name {i : Nat} {x : Str} (hN : X.N.Nodup) (hi : X.N[i]? = some x) (hx : Loc X.env.scope x) (hf : X.fn x = true ∨ X.env.scope.names.lookup x = some .local := by first | exact .inl rfl | exact .inr rfl | assumption) : PG X (.Name x pos) (gName i) := by
  intro pins s σ H v u Q I r h
  exact wpAny_assign_Name (store_ok I hN hi hx r (fun s' I' => ⟨_, H, I', h⟩) hf)
def gNil : TGs := fun vs σ H Q => vs = [] ∧ Q σ H
def gCons (t : TG) (u : TGs) : TGs := fun vs σ H Q => ∃ v r, vs = v :: r ∧ t v σ H fun σ' H' => u r σ' H' Q
theorem pgs_nil : PGs X [] gNil := by
  intro pins s σ H vs us Q I r h
  obtain ⟨e, h⟩ := h
  subst e
  cases r
  exact assignInOrder_nil ⟨σ, H, I, h⟩
theorem pgs_cons {e : Expr} {es : List Expr} {t : TG} {u : TGs} (h1 : PG X e t) (h2 : PGs X es u)
    (hs : (assignEach (e :: es) X.env).map (·.2) = assign e X.env :: (assignEach es X.env).map (·.2) := by rfl) : PGs X (e :: es) (gCons t u) := by
  intro pins s σ H vs us Q I r h
  obtain ⟨v, vr, e1, h⟩ := h
  subst e1
  cases r with
  | cons r rr =>
    rw [hs]
    refine assignInOrder_cons (thn (h1 pins s σ H _ _ _ I r h) fun _ s1 ⟨σ1, H1, I1, q1⟩ => ?_)
    exact h2 pins s1 σ1 H1 _ _ Q I1 rr q1
/-- (a, b, ..) = a tuple of that length -/
def gTup (K : PySem.W.Frag) (n : Nat) (t : TGs) : TG := fun v σ H Q => ∃ a xs, v = .ref a ∧ SqT K H a xs ∧ xs.length = n ∧ t xs σ H Q
theorem pg_tup {es : List Expr} {k : Nat} {t : TGs} {n : Nat} (hc : X.calm = true) (h : PGs X es t)
    (hn : (assignEach es X.env).length = n := by rfl) (hst : (assignEach es X.env).findIdx? (·.1) = none := by rfl) : PG X (.Tuple es k pos) (gTup X.K n t) := by
  intro pins s σ H v u Q I r hw
  obtain ⟨a, xs, e1, hq, hl, hw⟩ := hw
  subst e1
  cases r
  obtain ⟨its, rv, ht, hz⟩ := I.tuple hq
  refine assign_Tuple_tuple (I.ok.hd hc) ht (by simp [hn, ← hl, rv.length]) hst fun h' hx => ?_
  have I1 : Inv X pins σ H { s with heap := h' } := I.kept (t' := s.toks) fun b o e => hx b o (Nat.ne_of_lt (Heap.lt_size e)) e
  exact h pins _ σ H xs _ Q I1 (by simpa using rv) hw
/-- o[i] = .. -/
def gSub (to ti : TE) (t : TSet) : TG := fun v σ H Q => to σ H fun o H1 => ti σ H1 fun i H2 => t o i v H2 fun H3 => Q σ H3
theorem pg_sub {o i : Expr} {to ti : TE} {t : TSet} (ho : PE X o to) (hi : PE X i ti) (hs : PSet X t)
    (ha : ∀ v, assign (.Subscript o i pos) X.env v = (do
      let ov ← holding [v] (eval o X.env)
      let iv ← holding [v, ov] (eval i X.env)
      standAt pos
      holding [v, ov, iv] (setItem ov iv v)
      release [v, ov, iv] []) := by intro _; rfl) : PG X (.Subscript o i pos) (gSub to ti t) := by
  intro pins s σ H v u Q I r h
  rw [ha]
  refine wpAny_bind (wpAny_holding (thn (ho pins s σ H _ I h) fun ov s1 ⟨x, H1, I1, r1, q1⟩ => ?_))
  refine wpAny_bind (wpAny_holding (thn (hi pins s1 σ H1 _ I1 q1) fun iv s2 ⟨y, H2, I2, r2, q2⟩ => ?_))
  refine wpAny_bind (wpAny_standAt (wpAny_bind (wpAny_holding (thn (hs pins s2 σ H2 x y v ov iv u _ I2 r1 r2 r q2) fun _ s3 ⟨H3, I3, q3⟩ => ?_))))
  exact wpAny_release ⟨σ, H3, I3, q3⟩
/-- target = value -/
def tAsg (te : TE) (g : TG) : TS := fun D σ H => te σ H fun x H1 => g x σ H1 D.nx
theorem ps_asg {tg e : Expr} {te : TE} {g : TG} (he : PE X e te) (hg : PG X tg g) (hs : swapsWithSole [tg] e pos.line X.env = pure false := by rfl) (hw : swappedStores [tg] e X.env = pure none := by rfl)
    (h1 : (assignEach [tg] X.env).map (·.2) = [assign tg X.env] := by rfl) : PS X (.Assign [tg] e pos) (tAsg te g) := by
  intro pins s σ H D I h
  refine wpAny_Assign_stores (thn (he pins s σ H _ I h) fun v s1 ⟨x, H1, I1, r1, q1⟩ => ?_) hs hw
  rw [h1]
  exact thn (hg pins s1 σ H1 x v _ I1 r1 q1) fun _ s2 q => q
/-- name = value -/
theorem ps_set {i : Nat} {x : Str} {e : Expr} {te : TE} {pos' : Pos} (hN : X.N.Nodup) (hi : X.N[i]? = some x) (hx : Loc X.env.scope x) (he : PE X e te) (hs : swapsWith e (some (.Name x pos')) pos.line X.env = pure false := by rfl) (hf : X.fn x = true ∨ X.env.scope.names.lookup x = some .local := by first | exact .inl rfl | exact .inr rfl | assumption) :
    PS X (.Assign [.Name x pos'] e pos) (tAsg te (gName i)) := by
  intro pins s σ H D I h
  refine wpAny_Assign_Name (thn (he pins s σ H _ I h) fun v s1 ⟨y, H1, I1, r1, q1⟩ => ?_) hs
  exact store_ok I1 hN hi hx r1 (fun s2 I2 => ⟨_, H1, I2, q1⟩) hf
end

/-! ### while -/
section
variable {X : Cx} {pos : Pos}
/-- the invariant W with its measure -/
def tWhile (c : TT) (tb : TS) : TS := fun D σ H => ∃ W : Nat → St → Hp → Prop, (∃ m, W m σ H) ∧ ∀ m σ H, W m σ H →
  c σ H fun b H1 => if b = true then ∃ N : St → Hp → Prop, (∀ σ' H', N σ' H' → ∃ m', m' < m ∧ W m' σ' H') ∧ tb { D with nx := N, ct := N, bk := D.nx } σ H1 else D.nx σ H1
theorem ps_while {c : Expr} {body : List Stmt} {tc : TT} {tb : TS} (hp : PassesOwn (model X.prog X.w) X.A X.env X.xe) (hc : PT X c tc) (hb : PSs X body tb) : PS X (.While c body [] pos) (tWhile tc tb) := by
  intro pins s σ H D I h
  obtain ⟨W, ⟨m0, w0⟩, turn⟩ := h
  refine wpAny_While (codeAny_whileLoop (fun n s' => ∃ σ' H', Inv X pins σ' H' s' ∧ W n σ' H') ?_ m0 ⟨σ, H, I, w0⟩)
  rintro n s1 ⟨σ1, H1, I1, w1⟩
  refine wpAny_passesOwn hp (thn (hc pins s1 σ1 H1 _ I1 (turn n σ1 H1 w1)) fun b s2 ⟨H2, I2, q2⟩ => ?_)
  cases b with
  | true =>
    obtain ⟨N, hN, q2⟩ := q2
    rw [if_pos rfl]
    refine wpAny_passesOwn hp (thn (hb pins s2 σ1 H2 _ I2 q2) fun f s3 q3 => ?_)
    cases f with
    | next =>
      obtain ⟨σ3, H3, I3, n3⟩ := q3
      obtain ⟨m', hm, w3⟩ := hN σ3 H3 n3
      exact ⟨m', hm, σ3, H3, I3, w3⟩
    | cont =>
      obtain ⟨σ3, H3, I3, n3⟩ := q3
      obtain ⟨m', hm, w3⟩ := hN σ3 H3 n3
      exact ⟨m', hm, σ3, H3, I3, w3⟩
    | brk => exact q3
    | ret v => exact q3
  | false =>
    rw [if_neg Bool.false_ne_true]
    exact wpAny_execs_nil ⟨σ1, H2, I2, q2⟩
end

/-! ### what a loop or a comprehension walks -/
/-- at turn i: it yields x (the heap may grow), or it stops -/
structure It where
  go : Nat → Hp → Prop
  yld : Nat → Hp → V → Hp → Prop
  stop : Nat → Hp → Prop
/-- the iterator's own objects may turn: they are not the frame's, not pinned, younger than the entry (or a comprehension's own) -/
def FpOk (X : Cx) (pins : List (Addr × Obj)) (H : Hp) (b : Addr) : Prop :=
  H b = none ∧ b ≠ X.env.locals ∧ b ∉ X.fs ∧ (b ∈ X.ex ∨ X.s₀.heap.objs.size ≤ b) ∧ (∀ x c, X.env.cells.lookup x = some c → c ≠ b) ∧ ∀ p ∈ X.pn ++ pins, p.1 ≠ b
theorem Inv.fpOk {X : Cx} {pins : List (Addr × Obj)} {σ : St} {H H' : Hp} {s : Shared} {b : Addr} (I : Inv X pins σ H s) (hb : s.heap.objs.size ≤ b) (hn : H' b = none) : FpOk X pins H' b := by
  refine ⟨hn, Nat.ne_of_gt (Nat.lt_of_lt_of_le I.lt hb), I.nofs hb, .inr (Nat.le_trans I.sz hb), fun x c e z => ?_, fun p hp z => ?_⟩
  · obtain ⟨v, q⟩ := I.cell x c e
    exact absurd (Nat.lt_of_lt_of_le q.lt (by rw [z]; exact hb)) (Nat.lt_irrefl _)
  · exact absurd (Nat.lt_of_lt_of_le (Heap.lt_size (I.pin p hp).1) (by rw [z]; exact hb)) (Nat.lt_irrefl _)
structure Turn (P : Program) (w : World) (K : PySem.W.Frag) (tg : Expr) (J : It) (fp : List Addr) (it : Addr) (tn : Nat → Heap → Prop) : Prop where
  mem : it ∈ fp
  obj : ∀ i h, tn i h → ∀ b ∈ fp, ∃ o, h.get? b = some o ∧ ∀ v, o.data ≠ .cell v
  keep : ∀ i h h', tn i h → (∀ b ∈ fp, ∀ o, h.get? b = some o → h'.get? b = some o) → tn i h'
  item : ∀ (X : Cx), X.prog = P → X.w = w → X.K = K → X.calm = true → ∀ (i : Nat) (pins : List (Addr × Obj)) (s : Shared) (σ : St) (H : Hp) (E : Value → Shared → Prop), Inv X pins σ H s → (∀ b ∈ fp, FpOk X pins H b) → tn i s.heap → J.go i H →
    wpAny (model P w) X.A (pyNext (.ref it)) (fun r s1 => ∃ u, r = some u ∧
      wpAny (model P w) X.A (letOwnedTupleGo tg (.ref it) u) (fun _ s2 => ∃ x H', Inv X pins σ H' s2 ∧ RelV x u ∧ J.yld i H x H' ∧ tn (i + 1) s2.heap ∧ ∀ b ∈ fp, H' b = none) E s1) E s
  done : ∀ (X : Cx), X.prog = P → X.w = w → X.K = K → X.calm = true → ∀ (i : Nat) (pins : List (Addr × Obj)) (s : Shared) (σ : St) (H : Hp) (E : Value → Shared → Prop), Inv X pins σ H s → (∀ b ∈ fp, FpOk X pins H b) → tn i s.heap → J.stop i H →
    wpAny (model P w) X.A (pyNext (.ref it)) (fun r s1 => r = none ∧ Inv X pins σ H s1) E s
  self : ∀ (A : Around) (i : Nat) (s : Shared) (Q : Value → Shared → Prop) (E : Value → Shared → Prop), tn i s.heap → Q (.ref it) s → wpAny (model P w) A (pyIter (.ref it)) Q E s
abbrev TI := St → Hp → (It → Hp → Prop) → Prop
/-- an iterator has come -/
def PIE (X : Cx) (pins : List (Addr × Obj)) (σ : St) (tg : Expr) (R : It → Hp → Prop) (itv : Value) (s2 : Shared) : Prop :=
  ∃ (it : Addr) (fp : List Addr) (tn : Nat → Heap → Prop) (J : It) (H' : Hp), itv = .ref it ∧ Inv X pins σ H' s2 ∧ Turn X.prog X.w X.K tg J fp it tn ∧ tn 0 s2.heap ∧ (∀ b ∈ fp, FpOk X pins H' b) ∧ R J H'
def PI (X : Cx) (tg iter : Expr) (wi : TI) : Prop :=
  ∀ (pins : List (Addr × Obj)) (s : Shared) (σ : St) (H : Hp) (R : It → Hp → Prop), Inv X pins σ H s → wi σ H R →
    wpAny (model X.prog X.w) X.A (eval iter X.env) (fun v s1 => wpAny (model X.prog X.w) X.A (pyIter v) (PIE X pins σ tg R) X.xe s1) X.xe s

/-- the step ahead of the store is nothing for an iterator that keeps no tuple -/
theorem go_of {M : Model} {A : Around} {E : Value → Shared → Prop} {s : Shared} {tg : Expr} {it : Addr} {u : Value} {o : Obj} {n : String} {vs : Array Value} {Q : Unit → Shared → Prop} (ho : s.heap.get? it = some o) (hc : o.cls = .type n) (hd : o.data = .fields vs)
    (hn : ["enumerate", "zip", "dict_itemiterator", "dict_reverseitemiterator", "odict_iterator", "itertools.zip_longest", "itertools.pairwise"].contains n = false) (hQ : Q () s) : wpAny M A (letOwnedTupleGo tg (.ref it) u) Q E s := by
  unfold letOwnedTupleGo
  cases tg <;> first
    | exact wpAny_pure hQ
    | (cases u <;> first
        | exact wpAny_pure hQ
        | (refine wpAny_bind (wpAny_load ho ?_)
           rw [hc, hd]
           show wpAny M A (if (["enumerate", "zip", "dict_itemiterator", "dict_reverseitemiterator", "odict_iterator", "itertools.zip_longest", "itertools.pairwise"].contains n && vs[0]? == some (rawInt _)) = true then _ else _) Q E s
           rw [if_neg (by intro h; rw [hn, Bool.false_and] at h; cases h)]
           exact wpAny_pure hQ))

/-- the list at a, as it stands at each turn (a loop may append to it) -/
def Itl (K : PySem.W.Frag) (a : Addr) : It :=
  ⟨fun i H => ∃ xs x, SqL K H a xs ∧ xs[i]? = some x, fun i H x H' => H' = H ∧ ∀ xs, SqL K H a xs → xs[i]? = some x, fun i H => ∃ xs, SqL K H a xs ∧ xs.length ≤ i⟩
def Itt (K : PySem.W.Frag) (a : Addr) : It :=
  ⟨fun i H => ∃ xs x, SqT K H a xs ∧ xs[i]? = some x, fun i H x H' => H' = H ∧ ∀ xs, SqT K H a xs → xs[i]? = some x, fun i H => ∃ xs, SqT K H a xs ∧ xs.length ≤ i⟩
/-- lo, lo + 1, .. (n of them) -/
def Itr (lo : Int) (n : Nat) : It := ⟨fun i _ => i < n, fun i H x H' => H' = H ∧ x = .int (lo + i), fun i _ => n ≤ i⟩
theorem turn_list {P : Program} {w : World} {K : PySem.W.Frag} {tg : Expr} (a it : Addr) : Turn P w K tg (Itl K a) [it] it (fun i h => h.IsListIter it a i) where
  mem := by simp
  obj := fun i h st b hb => by
    have e : b = it := by simpa using hb
    subst e
    obtain ⟨o, e, c, d⟩ := st
    exact ⟨o, e, fun v z => by rw [d] at z; cases z⟩
  keep := fun i h h' st k => st.at fun o e => k it (by simp) o e
  item := by
    intro X hP hw hK hc i pins s σ H E I hf st hg
    subst hP hw hK
    obtain ⟨xs, x, hq, hx⟩ := hg
    obtain ⟨its, rv, p, hz⟩ := I.list hq
    obtain ⟨u, hu, ru⟩ := rv.get hx
    obtain ⟨f0, f1, f2, f3, f4, f5⟩ := hf it (by simp)
    refine wpAny_pyNext_list_item st p.isList (x := u) (by simpa using hu) fun h' st' sb => ?_
    have I1 : Inv X pins σ H { s with heap := h' } := I.turned (t' := s.toks) (fun b o hb e => (sb.2 b hb).trans e) f0 f1 f3 f4 f5
    obtain ⟨o, e, c, d⟩ := id st'
    exact ⟨u, rfl, go_of (s := { s with heap := h' }) e c d (by decide) ⟨x, H, I1, ru, ⟨rfl, fun ys hy => by rw [I.list_inj hy hq]; exact hx⟩, st', fun b hb => (hf b hb).1⟩⟩
  done := by
    intro X hP hw hK hc i pins s σ H E I hf st hg
    subst hP hw hK
    obtain ⟨xs, hq, hx⟩ := hg
    obtain ⟨its, rv, p, hz⟩ := I.list hq
    obtain ⟨f0, f1, f2, f3, f4, f5⟩ := hf it (by simp)
    have hl := rv.length
    exact wpAny_pyNext_list_end (I.ok.hd hc) st p.isList (by simp; omega) fun h' eb => ⟨rfl, I.turned (t' := s.toks) (fun b o hb e => eb b o hb e) f0 f1 f3 f4 f5⟩
  self := fun _ _ _ _ _ st h => wpAny_pyIter_listiter st h
theorem turn_tuple {P : Program} {w : World} {K : PySem.W.Frag} {tg : Expr} (a it : Addr) : Turn P w K tg (Itt K a) [it] it (fun i h => h.IsTupleIter it a i) where
  mem := by simp
  obj := fun i h st b hb => by
    have e : b = it := by simpa using hb
    subst e
    obtain ⟨o, e, c, d⟩ := st
    exact ⟨o, e, fun v z => by rw [d] at z; cases z⟩
  keep := fun i h h' st k => st.at fun o e => k it (by simp) o e
  item := by
    intro X hP hw hK hc i pins s σ H E I hf st hg
    subst hP hw hK
    obtain ⟨xs, x, hq, hx⟩ := hg
    obtain ⟨its, rv, p, hz⟩ := I.tuple hq
    obtain ⟨u, hu, ru⟩ := rv.get hx
    obtain ⟨f0, f1, f2, f3, f4, f5⟩ := hf it (by simp)
    refine wpAny_pyNext_tuple_item st (show s.heap.IsTuple a its.toArray from p) (x := u) (by simpa using hu) fun h' st' sb => ?_
    have I1 : Inv X pins σ H { s with heap := h' } := I.turned (t' := s.toks) (fun b o hb e => (sb.2 b hb).trans e) f0 f1 f3 f4 f5
    obtain ⟨o, e, c, d⟩ := id st'
    exact ⟨u, rfl, go_of (s := { s with heap := h' }) e c d (by decide) ⟨x, H, I1, ru, ⟨rfl, fun ys hy => by rw [I.tuple_inj hy hq]; exact hx⟩, st', fun b hb => (hf b hb).1⟩⟩
  done := by
    intro X hP hw hK hc i pins s σ H E I hf st hg
    subst hP hw hK
    obtain ⟨xs, hq, hx⟩ := hg
    obtain ⟨its, rv, p, hz⟩ := I.tuple hq
    obtain ⟨f0, f1, f2, f3, f4, f5⟩ := hf it (by simp)
    have hl := rv.length
    exact wpAny_pyNext_tuple_end (I.ok.hd hc) st (show s.heap.IsTuple a its.toArray from p) (by simp; omega) fun h' eb => ⟨rfl, I.turned (t' := s.toks) (fun b o hb e => eb b o hb e) f0 f1 f3 f4 f5⟩
  self := fun _ _ _ _ _ st h => wpAny_pyIter_tupleiter st h
theorem turn_range {P : Program} {w : World} {K : PySem.W.Frag} {tg : Expr} (it : Addr) (lo : Int) (n : Nat) : Turn P w K tg (Itr lo n) [it] it (fun i h => IsRangeIter h it (lo + (i : Nat) * 1) ((n : Int) - (i : Nat)) 1) where
  mem := by simp
  obj := fun i h st b hb => by
    have e : b = it := by simpa using hb
    subst e
    exact ⟨_, st, fun v z => by
      have z' : Data.fields _ = Data.cell v := z
      cases z'⟩
  keep := fun i h h' st k => k it (by simp) _ st
  item := by
    intro X hP hw hK hc i pins s σ H E I hf st hg
    subst hP hw hK
    obtain ⟨f0, f1, f2, f3, f4, f5⟩ := hf it (by simp)
    have W := Walks.range (prog := X.prog) (w := X.w) (I.ok.hd hc) it lo 1 n
    refine W.item i s _ _ hg st fun v h' tk hv st' kk => ?_
    obtain ⟨t, rfl⟩ := hv
    have I1 : Inv X pins σ H { s with heap := h', toks := tk } := I.turned (fun b o hb e => kk b o (by simpa using hb) e) f0 f1 f3 f4 f5
    refine ⟨_, rfl, go_of (s := { s with heap := h', toks := tk }) (n := "range_iterator") st' rfl rfl (by decide) ⟨.int (lo + i), H, I1, ⟨t, ?_⟩, ⟨rfl, rfl⟩, st', fun b hb => (hf b hb).1⟩⟩
    rw [Int.mul_one]
  done := by
    intro X hP hw hK hc i pins s σ H E I hf st hg
    subst hP hw hK
    obtain ⟨f0, f1, f2, f3, f4, f5⟩ := hf it (by simp)
    exact wpAny_pyNext_range_end (I.ok.hd hc) st (by have : n ≤ i := hg; omega) fun h' eb => ⟨rfl, I.turned (t' := s.toks) (fun b o hb e => eb b o hb e) f0 f1 f3 f4 f5⟩
  self := fun _ _ _ _ _ st h => wpAny_pyIter_rangeiter st h
end L2

namespace L2
open PySem PySem.Spec PyProof.Rows
section
variable {X : Cx} {tg : Expr}
def iList (K : PySem.W.Frag) (tl : TE) : TI := fun σ H R => tl σ H fun x H1 => ∃ a, x = .ref a ∧ (∃ xs, SqL K H1 a xs) ∧ R (Itl K a) H1
def iTup (K : PySem.W.Frag) (tl : TE) : TI := fun σ H R => tl σ H fun x H1 => ∃ a, x = .ref a ∧ (∃ xs, SqT K H1 a xs) ∧ R (Itt K a) H1
theorem pi_list {l : Expr} {tl : TE} (hl : PE X l tl) : PI X tg l (iList X.K tl) := by
  intro pins s σ H R I h
  refine thn (hl pins s σ H _ I h) fun v s1 ⟨x, H1, I1, r1, q1⟩ => ?_
  obtain ⟨a, e, ⟨xs, hq⟩, q⟩ := q1
  subst e
  cases r1
  obtain ⟨its, rv, p, hz⟩ := I1.list hq
  refine wpAny_pyIter_list p.isList ?_
  refine ⟨s1.heap.objs.size, [s1.heap.objs.size], _, _, H1, rfl, I1.kept (t' := s1.toks) fun b o e => Heap.get?_push_of_some _ e, turn_list a _, ⟨_, Heap.get?_push_size _ rfl, rfl, rfl⟩, fun b hb => ?_, q⟩
  have e : b = s1.heap.objs.size := by simpa using hb
  subst e
  exact I1.fpOk (Nat.le_refl _) (I1.hok.fresh (Nat.le_refl _))
theorem pi_tup {l : Expr} {tl : TE} (hl : PE X l tl) : PI X tg l (iTup X.K tl) := by
  intro pins s σ H R I h
  refine thn (hl pins s σ H _ I h) fun v s1 ⟨x, H1, I1, r1, q1⟩ => ?_
  obtain ⟨a, e, ⟨xs, hq⟩, q⟩ := q1
  subst e
  cases r1
  obtain ⟨its, rv, p, hz⟩ := I1.tuple hq
  refine wpAny_pyIter_tuple (show s1.heap.IsTuple a its.toArray from p) ?_
  refine ⟨s1.heap.objs.size, [s1.heap.objs.size], _, _, H1, rfl, I1.kept (t' := s1.toks) fun b o e => Heap.get?_push_of_some _ e, turn_tuple a _, ⟨_, Heap.get?_push_size _ rfl, rfl, rfl⟩, fun b hb => ?_, q⟩
  have e : b = s1.heap.objs.size := by simpa using hb
  subst e
  exact I1.fpOk (Nat.le_refl _) (I1.hok.fresh (Nat.le_refl _))
/-- a range object just made, walked -/
theorem range_it {pins : List (Addr × Obj)} {σ : St} {H : Hp} {s : Shared} {R : It → Hp → Prop} {E : Value → Shared → Prop} {lo hi : Int} {t u v : Tok} {tk : Nat} (I : Inv X pins σ H s) (h1 : -(2 ^ 62) ≤ lo) (h2 : lo < 2 ^ 62) (h3 : -(2 ^ 62) ≤ hi) (h4 : hi < 2 ^ 62)
    (q : R (Itr lo (hi - lo).toNat) H) : wpAny (model X.prog X.w) X.A (pyIter (.ref s.heap.objs.size)) (PIE X pins σ tg R) E { s with heap := s.heap.push { cls := .type "range", data := .fields #[.int lo t, .int hi u, .int 1 v] }, toks := tk } := by
  refine wpAny_pyIter_range (IsRange.new ..) (small_one h1 h2 h3 h4) ?_
  have I1 : Inv X pins σ H { s with heap := s.heap.push { cls := .type "range", data := .fields #[.int lo t, .int hi u, .int 1 v] }, toks := tk } := I.kept fun b o e => Heap.get?_push_of_some _ e
  refine ⟨(s.heap.push { cls := .type "range", data := .fields #[.int lo t, .int hi u, .int 1 v] }).objs.size, [(s.heap.push { cls := .type "range", data := .fields #[.int lo t, .int hi u, .int 1 v] }).objs.size], _, _, H, rfl,
    I1.kept (t' := tk) fun b o e => Heap.get?_push_of_some _ e, turn_range _ lo (hi - lo).toNat, ?_, fun b hb => ?_, q⟩
  · have e1 : lo + ((0 : Nat) : Int) * 1 = lo := by simp
    have e2 : (((hi - lo).toNat : Nat) : Int) - ((0 : Nat) : Int) = Builtin.Range.rangeSize lo hi 1 := by rw [rangeSize_one]; split <;> omega
    show IsRangeIter _ _ (lo + ((0 : Nat) : Int) * 1) ((((hi - lo).toNat : Nat) : Int) - ((0 : Nat) : Int)) 1
    rw [e1, e2]
    exact Heap.get?_push_size _ rfl
  · have e : b = (s.heap.push { cls := .type "range", data := .fields #[.int lo t, .int hi u, .int 1 v] }).objs.size := by simpa using hb
    subst e
    exact I1.fpOk (Nat.le_refl _) (I1.hok.fresh (Nat.le_refl _))
def iRng1 (ta : TA) : TI := fun σ H R => ta σ H fun vs H1 => ∃ j : Int, vs = [.int j] ∧ -(2 ^ 62) ≤ j ∧ j < 2 ^ 62 ∧ R (Itr 0 j.toNat) H1
def iRng2 (ta : TA) : TI := fun σ H R => ta σ H fun vs H1 => ∃ i j : Int, vs = [.int i, .int j] ∧ (-(2 ^ 62) ≤ i ∧ i < 2 ^ 62 ∧ -(2 ^ 62) ≤ j ∧ j < 2 ^ 62) ∧ R (Itr i (j - i).toNat) H1
theorem pi_range1 {a : Expr} {ta : TA} {p pos : Pos} (hg : Gl X "range") (hm : X.mg "range" = none) (ha : PA X [a] ta) (hs : starEach [a] X.env = [(false, eval a X.env)] := by rfl) : PI X tg (.Call (.Name "range" p) [a] [] pos) (iRng1 ta) := by
  intro pins s σ H R I h
  refine Call_ (ld_blt I hg hm boot_range (PyProof.Rows.callWith_type1 (thn (ha pos pins s σ H _ I h) fun us s1 ⟨vs, H1, I1, r1, q1⟩ => ?_) hs rfl))
  obtain ⟨j, e, q1, q2, q⟩ := q1
  subst e
  cases r1 with
  | cons r rr =>
    cases rr
    obtain ⟨t, rfl⟩ := r
    exact call_range_1 (range_it I1 (by omega) (by omega) q1 q2 (by simpa using q))
theorem pi_range2 {a b : Expr} {ta : TA} {p pos : Pos} (hg : Gl X "range") (hm : X.mg "range" = none) (ha : PA X [a, b] ta) (hs : starEach [a, b] X.env = [(false, eval a X.env), (false, eval b X.env)] := by rfl) (hs2 : starEach [b] X.env = [(false, eval b X.env)] := by rfl) :
    PI X tg (.Call (.Name "range" p) [a, b] [] pos) (iRng2 ta) := by
  intro pins s σ H R I h
  refine Call_ (ld_blt I hg hm boot_range (PyProof.Rows.callWith_type1 (thn (ha pos pins s σ H _ I h) fun us s1 ⟨vs, H1, I1, r1, q1⟩ => ?_) (by rw [hs, hs2]) (by rw [hs2]; rfl)))
  obtain ⟨i, j, e, ⟨q1, q2, q3, q4⟩, q⟩ := q1
  subst e
  cases r1 with
  | cons r rr =>
    cases rr with
    | cons r' rr =>
      cases rr
      obtain ⟨t, rfl⟩ := r
      obtain ⟨t', rfl⟩ := r'
      exact call_range_2 (range_it I1 q1 q2 q3 q4 q)

/-! ### for -/
/-- W: the invariant by the turn and a measure; N: what the body is to reach -/
def tFor (wi : TI) (g : TG) (tb : TS) : TS := fun D σ H => wi σ H fun J H1 => ∃ W : Nat → Nat → St → Hp → Prop, (∃ m, W 0 m σ H1) ∧ ∀ i m σ H, W i m σ H →
  (J.stop i H ∧ D.nx σ H) ∨ (J.go i H ∧ ∃ N : St → Hp → Prop, (∀ σ' H', N σ' H' → ∃ m', m' < m ∧ W (i + 1) m' σ' H') ∧ ∀ x H', J.yld i H x H' → g x σ H' fun σ2 H2 => tb { D with nx := N, ct := N, bk := D.nx } σ2 H2)
/-- the records at fp as they stand -/
def pinsAt (fp : List Addr) (h : Heap) : List (Addr × Obj) := fp.filterMap fun b => (h.get? b).map fun o => (b, o)
theorem mem_pinsAt {fp : List Addr} {h : Heap} {b : Addr} {o : Obj} (hb : b ∈ fp) (e : h.get? b = some o) : (b, o) ∈ pinsAt fp h := List.mem_filterMap.mpr ⟨b, hb, by rw [e]; rfl⟩
theorem of_pinsAt {fp : List Addr} {h : Heap} {p : Addr × Obj} (hp : p ∈ pinsAt fp h) : p.1 ∈ fp ∧ h.get? p.1 = some p.2 := by
  obtain ⟨b, hb, e⟩ := List.mem_filterMap.mp hp
  cases q : h.get? b with
  | none => rw [q] at e; cases e
  | some o =>
    rw [q] at e
    have e' : (b, o) = p := Option.some.inj e
    subst e'
    exact ⟨hb, q⟩
theorem Inv.pinned {pins : List (Addr × Obj)} {σ : St} {H : Hp} {s : Shared} {fp : List Addr} (I : Inv X pins σ H s) (hf : ∀ b ∈ fp, FpOk X pins H b) (ho : ∀ b ∈ fp, ∃ o, s.heap.get? b = some o ∧ ∀ v, o.data ≠ .cell v) : Inv X (pins ++ pinsAt fp s.heap) σ H s :=
  I.pins_of fun p hp => (List.mem_append.mp hp).elim (fun z => I.pin p (List.mem_append_right _ z)) fun z => by
    obtain ⟨hb, e⟩ := of_pinsAt z
    obtain ⟨f0, f1, f2, _⟩ := hf p.1 hb
    obtain ⟨o, e', d⟩ := ho p.1 hb
    rw [e] at e'; cases e'
    exact ⟨e, f0, f1, f2, d⟩
theorem Inv.unpinned {pins pl : List (Addr × Obj)} {σ : St} {H : Hp} {s : Shared} (I : Inv X (pins ++ pl) σ H s) : Inv X pins σ H s := I.pins_of fun p hp => I.pin p (List.mem_append_right _ (List.mem_append_left _ hp))
theorem ps_for {iter : Expr} {body : List Stmt} {wi : TI} {g : TG} {tb : TS} {pos : Pos} (hp : PassesOwn (model X.prog X.w) X.A X.env X.xe) (hc : X.calm = true) (hi : PI X tg iter wi) (hg : PG X tg g) (hb : PSs X body tb)
    (hs : ∀ x, foldedSetIterable iter X.env x = pure x := by intro _; rfl) : PS X (.For tg iter body [] pos) (tFor wi g tb) := by
  intro pins s σ H D I h
  refine wpAny_For (thn (hi pins s σ H _ I h) fun v s1 h1 => thn h1 fun itv s2 h2 => ?_) hs
  obtain ⟨it, fp, tn, J, H2, e, I2, T, st2, f2, W, ⟨m0, w0⟩, turn⟩ := h2
  subst e
  -- what stays true of the iterator's objects through the loop
  have stat : ∀ {H' : Hp}, (∀ b ∈ fp, H' b = none) → ∀ b ∈ fp, FpOk X pins H' b := fun hn b hb => ⟨hn b hb, (f2 b hb).2⟩
  refine codeAny_forLoop_any (fun n s' => ∃ i σ' H', Inv X pins σ' H' s' ∧ tn i s'.heap ∧ (∀ b ∈ fp, H' b = none) ∧ W i n σ' H') ?_ m0 ⟨0, σ, H2, I2, st2, fun b hb => (f2 b hb).1, w0⟩
  rintro n s3 ⟨i, σ3, H3, I3, st3, fr3, w3⟩
  rcases turn i n σ3 H3 w3 with ⟨stop, qn⟩ | ⟨go, N, hN, step⟩
  · refine wpAny_passesOwn hp (thn (T.done X rfl rfl rfl hc i pins s3 σ3 H3 X.xe I3 (stat fr3) st3 stop) fun r s4 ⟨hr, I4⟩ => ?_)
    subst hr
    exact wpAny_execs_nil ⟨σ3, H3, I4, qn⟩
  · refine wpAny_passesOwn hp (thn (T.item X rfl rfl rfl hc i pins s3 σ3 H3 X.xe I3 (stat fr3) st3 go) fun r s4 ⟨u, hr, h4⟩ => ?_)
    subst hr
    refine wpAny_passesOwn hp (thn h4 fun _ s5 ⟨x, H5, I5, r5, y5, st5, fr5⟩ => ?_)
    have I5' := I5.pinned (stat fr5) (T.obj _ _ st5)
    refine wpAny_passesOwn hp (thn (hg _ s5 σ3 H5 x u _ I5' r5 (step x H5 y5)) fun _ s6 ⟨σ6, H6, I6, q6⟩ => ?_)
    refine wpAny_passesOwn hp (thn (hb _ s6 σ6 H6 _ I6 q6) fun f s7 q7 => ?_)
    have again : ∀ {σ7 : St} {H7 : Hp}, Inv X (pins ++ pinsAt fp s5.heap) σ7 H7 s7 → N σ7 H7 → ∃ m, m < n ∧ ∃ i σ' H', Inv X pins σ' H' s7 ∧ tn i s7.heap ∧ (∀ b ∈ fp, H' b = none) ∧ W i m σ' H' := fun {σ7 H7} I7 n7 => by
      obtain ⟨m', hm, w7⟩ := hN σ7 H7 n7
      refine ⟨m', hm, i + 1, σ7, H7, I7.unpinned, T.keep _ _ _ st5 fun b hb o e => (I7.pin (b, o) (List.mem_append_right _ (List.mem_append_right _ (mem_pinsAt hb e)))).1, fun b hb => ?_, w7⟩
      obtain ⟨o, e, d⟩ := T.obj _ _ st5 b hb
      exact (I7.pin (b, o) (List.mem_append_right _ (List.mem_append_right _ (mem_pinsAt hb e)))).2.1
    cases f with
    | next => obtain ⟨σ7, H7, I7, n7⟩ := q7; exact again I7 n7
    | cont => obtain ⟨σ7, H7, I7, n7⟩ := q7; exact again I7 n7
    | brk => obtain ⟨σ7, H7, I7, q7⟩ := q7; exact ⟨σ7, H7, I7.unpinned, q7⟩
    | ret v => obtain ⟨x7, σ7, H7, I7, r7, q7⟩ := q7; exact ⟨x7, σ7, H7, I7.unpinned, r7, q7⟩
end

/-! ### the forms one uses -/
/-- over a list that the body leaves as it is -/
theorem for_list {K : PySem.W.Frag} {a : Addr} {xs : List V} {g : TG} {tb : TS} {D : Ends} {σ : St} {H : Hp} (Pv : Nat → St → Hp → Prop) (h0 : Pv 0 σ H) (hl : ∀ i σ H, i ≤ xs.length → Pv i σ H → SqL K H a xs)
    (hs : ∀ i x σ H, xs[i]? = some x → Pv i σ H → g x σ H fun σ2 H2 => tb { D with nx := Pv (i + 1), ct := Pv (i + 1), bk := D.nx } σ2 H2) (hd : ∀ σ H, Pv xs.length σ H → D.nx σ H) :
    ∃ W : Nat → Nat → St → Hp → Prop, (∃ m, W 0 m σ H) ∧ ∀ i m σ H, W i m σ H →
      ((Itl K a).stop i H ∧ D.nx σ H) ∨ ((Itl K a).go i H ∧ ∃ N : St → Hp → Prop, (∀ σ' H', N σ' H' → ∃ m', m' < m ∧ W (i + 1) m' σ' H') ∧ ∀ x H', (Itl K a).yld i H x H' → g x σ H' fun σ2 H2 => tb { D with nx := N, ct := N, bk := D.nx } σ2 H2) := by
  refine ⟨fun i m σ H => m = xs.length - i ∧ i ≤ xs.length ∧ Pv i σ H, ⟨xs.length, by simp, Nat.zero_le _, h0⟩, ?_⟩
  rintro i m σ H ⟨rfl, hi, p⟩
  have q := hl i σ H hi p
  by_cases hlt : i < xs.length
  · refine .inr ⟨⟨xs, xs[i], q, by simp [hlt]⟩, Pv (i + 1), fun σ' H' p' => ⟨xs.length - (i + 1), by omega, rfl, hlt, p'⟩, fun x H' y => ?_⟩
    obtain ⟨e, y⟩ := y
    subst e
    exact hs i x σ _ (y xs q) p
  · have e : i = xs.length := by omega
    subst e
    exact .inl ⟨⟨xs, q, Nat.le_refl _⟩, hd σ H p⟩
theorem for_range {lo : Int} {n : Nat} {g : TG} {tb : TS} {D : Ends} {σ : St} {H : Hp} (Pv : Nat → St → Hp → Prop) (h0 : Pv 0 σ H)
    (hs : ∀ i σ H, i < n → Pv i σ H → g (.int (lo + i)) σ H fun σ2 H2 => tb { D with nx := Pv (i + 1), ct := Pv (i + 1), bk := D.nx } σ2 H2) (hd : ∀ σ H, Pv n σ H → D.nx σ H) :
    ∃ W : Nat → Nat → St → Hp → Prop, (∃ m, W 0 m σ H) ∧ ∀ i m σ H, W i m σ H →
      ((Itr lo n).stop i H ∧ D.nx σ H) ∨ ((Itr lo n).go i H ∧ ∃ N : St → Hp → Prop, (∀ σ' H', N σ' H' → ∃ m', m' < m ∧ W (i + 1) m' σ' H') ∧ ∀ x H', (Itr lo n).yld i H x H' → g x σ H' fun σ2 H2 => tb { D with nx := N, ct := N, bk := D.nx } σ2 H2) := by
  refine ⟨fun i m σ H => m = n - i ∧ i ≤ n ∧ Pv i σ H, ⟨n, by simp, Nat.zero_le _, h0⟩, ?_⟩
  rintro i m σ H ⟨rfl, hi, p⟩
  by_cases hlt : i < n
  · refine .inr ⟨hlt, Pv (i + 1), fun σ' H' p' => ⟨n - (i + 1), by omega, rfl, hlt, p'⟩, fun x H' y => ?_⟩
    obtain ⟨e, y⟩ := y
    subst e y
    exact hs i σ _ hlt p
  · have e : i = n := by omega
    subst e
    exact .inl ⟨Nat.le_refl _, hd σ H p⟩
end L2

namespace L2
open PySem PySem.Spec PyProof.Rows

abbrev R2 := V → V → Hp → VK → Prop
/-- a two-place operation on values: f is binaryOp op, inplaceOp op or compareOp op -/
def OpR (X : Cx) (f : Value → Value → Sem Value) (r : R2) : Prop :=
  ∀ (pins : List (Addr × Obj)) (s : Shared) (σ : St) (H : Hp) (x y : V) (v u : Value) (Q : VK), Inv X pins σ H s → RelV x v → RelV y u → r x y H Q →
    wpAny (model X.prog X.w) X.A (f v u) (EP X pins σ Q) X.xe s
/-- a one-place operation -/
def UnR (X : Cx) (f : Value → Sem Value) (r : V → Hp → VK → Prop) : Prop :=
  ∀ (pins : List (Addr × Obj)) (s : Shared) (σ : St) (H : Hp) (x : V) (v : Value) (Q : VK), Inv X pins σ H s → RelV x v → r x H Q →
    wpAny (model X.prog X.w) X.A (f v) (EP X pins σ Q) X.xe s
/-- a call of a value that is known (a builtin, a type) with values -/
def CallR (X : Cx) (f : Value) (r : List V → Hp → VK → Prop) : Prop :=
  ∀ (pins : List (Addr × Obj)) (s : Shared) (σ : St) (H : Hp) (xs : List V) (us : List Value) (Q : VK), Inv X pins σ H s → Vals xs us → r xs H Q →
    wpAny (model X.prog X.w) X.A (call f us) (EP X pins σ Q) X.xe s
/-- a value's truth -/
def TruR (X : Cx) (r : V → Hp → (Bool → Hp → Prop) → Prop) : Prop :=
  ∀ (pins : List (Addr × Obj)) (s : Shared) (σ : St) (H : Hp) (x : V) (v : Value) (Q : Bool → Hp → Prop), Inv X pins σ H s → RelV x v → r x H Q →
    wpAny (model X.prog X.w) X.A (truthy v) (TP X pins σ Q) X.xe s

def tOp (r : R2) (ta tb : TE) : TE := fun σ H Q => ta σ H fun x H1 => tb σ H1 fun y H2 => r x y H2 Q
def tUn (r : V → Hp → VK → Prop) (ta : TE) : TE := fun σ H Q => ta σ H fun x H1 => r x H1 Q
/-- ints in, under C, and a value out -/
def rI (C : Int → Int → Prop) (g : Int → Int → V) : R2 := fun x y H Q => ∃ i j, x = .int i ∧ y = .int j ∧ C i j ∧ Q (g i j) H
def rI0 (g : Int → Int → V) : R2 := fun x y H Q => ∃ i j, x = .int i ∧ y = .int j ∧ Q (g i j) H
def rU (g : Int → V) : V → Hp → VK → Prop := fun x H Q => ∃ i, x = .int i ∧ Q (g i) H

section
variable {X : Cx} {a b c : Expr} {ta tb tc : TE} {pos : Pos}

theorem binT (ha : PE X a ta) (hb : PE X b tb) {pins : List (Addr × Obj)} {s : Shared} {σ : St} {H : Hp} {R : V → V → Hp → Prop} (I : Inv X pins σ H s)
    (h : ta σ H fun x H1 => tb σ H1 fun y H2 => R x y H2) {Q : Value → Shared → Prop} {f : Value → Value → Sem Value}
    (hf : ∀ v u s2 x y H2, Inv X pins σ H2 s2 → RelV x v → RelV y u → R x y H2 → wpAny (model X.prog X.w) X.A (f v u) Q X.xe s2) :
    wpAny (model X.prog X.w) X.A (eval a X.env) (fun v s₁ => wpAny (model X.prog X.w) X.A (eval b X.env) (fun u s₂ => wpAny (model X.prog X.w) X.A (f v u) Q X.xe s₂) X.xe s₁) X.xe s := by
  refine thn (ha pins s σ H _ I h) fun v s1 ⟨x, H1, I1, r1, q1⟩ => ?_
  refine thn (hb pins s1 σ H1 _ I1 q1) fun u s2 ⟨y, H2, I2, r2, q2⟩ => ?_
  exact hf v u s2 x y H2 I2 r1 r2 q2

theorem pe_op {op : Operator} {r : R2} (ho : OpR X (binaryOp op) r) (ha : PE X a ta) (hb : PE X b tb) : PE X (.BinOp a op b pos) (tOp r ta tb) := by
  intro pins s σ H Q I h
  exact wpAny_BinOp (binT ha hb I h fun v u s2 x y H2 I2 rx ry q => ho pins s2 σ H2 x y v u Q I2 rx ry q)
theorem pe_un {op : UnaryOp} {r : V → Hp → VK → Prop} (ho : UnR X (unaryOp op) r) (ha : PE X a ta) : PE X (.UnaryOp op a pos) (tUn r ta) := by
  intro pins s σ H Q I h
  exact UnaryOp_ (thn (ha pins s σ H _ I h) fun v s1 ⟨x, H1, I1, r1, q1⟩ => ho pins s1 σ H1 x v Q I1 r1 q1)
/-! ### ints -/
theorem opI {f : Value → Value → Sem Value} {C : Int → Int → Prop} {g : Int → Int → Int}
    (rule : ∀ (i j : Int) (t u : Tok) (s : Shared) (Q : Value → Shared → Prop) (E : Value → Shared → Prop), C i j → Q (.int (g i j) s.toks) { s with toks := s.toks + 1 } → wpAny (model X.prog X.w) X.A (f (.int i t) (.int j u)) Q E s) :
    OpR X f (rI C fun i j => .int (g i j)) := by
  intro pins s σ H x y v u Q I rx ry h
  obtain ⟨i, j, rfl, rfl, hc, q⟩ := h
  obtain ⟨t, rfl⟩ := rx
  obtain ⟨t', rfl⟩ := ry
  exact rule i j t t' s _ _ hc ⟨.int (g i j), H, I.tok _, ⟨_, rfl⟩, q⟩
theorem opI0 {f : Value → Value → Sem Value} {g : Int → Int → Int}
    (rule : ∀ (i j : Int) (t u : Tok) (s : Shared) (Q : Value → Shared → Prop) (E : Value → Shared → Prop), Q (.int (g i j) s.toks) { s with toks := s.toks + 1 } → wpAny (model X.prog X.w) X.A (f (.int i t) (.int j u)) Q E s) :
    OpR X f (rI0 fun i j => .int (g i j)) := by
  intro pins s σ H x y v u Q I rx ry h
  obtain ⟨i, j, rfl, rfl, q⟩ := h
  obtain ⟨t, rfl⟩ := rx
  obtain ⟨t', rfl⟩ := ry
  exact rule i j t t' s _ _ ⟨.int (g i j), H, I.tok _, ⟨_, rfl⟩, q⟩
theorem opB0 {f : Value → Value → Sem Value} {g : Int → Int → Bool}
    (rule : ∀ (i j : Int) (t u : Tok) (s : Shared) (Q : Value → Shared → Prop) (E : Value → Shared → Prop), Q (.bool (g i j)) s → wpAny (model X.prog X.w) X.A (f (.int i t) (.int j u)) Q E s) :
    OpR X f (rI0 fun i j => .bl (g i j)) := by
  intro pins s σ H x y v u Q I rx ry h
  obtain ⟨i, j, rfl, rfl, q⟩ := h
  obtain ⟨t, rfl⟩ := rx
  obtain ⟨t', rfl⟩ := ry
  exact rule i j t t' s _ _ ⟨.bl (g i j), H, I, rfl, q⟩

def CDiv (i j : Int) : Prop := 0 < j ∧ j < 1073741824
def CPow (i j : Int) : Prop := 0 ≤ j ∧ j ≤ 1000000 ∧ i.natAbs < 2 ^ 64
def CMul (i j : Int) : Prop := (-(2 ^ 64) < i ∧ i < 2 ^ 64) ∨ (-(2 ^ 64) < j ∧ j < 2 ^ 64)
theorem CMul.ok {i j : Int} (h : CMul i j) : IntMulOk i j := by
  rcases h with ⟨h1, h2⟩ | ⟨h1, h2⟩
  · exact .of_left (intBits_le_64 h1 h2)
  · exact .of_right (intBits_le_64 h1 h2)
theorem op_add : OpR X (binaryOp .Add) (rI0 fun i j => .int (i + j)) := opI0 fun _ _ _ _ _ _ _ q => add_int q
theorem op_sub : OpR X (binaryOp .Sub) (rI0 fun i j => .int (i - j)) := opI0 fun _ _ _ _ _ _ _ q => sub_int q
theorem op_mul : OpR X (binaryOp .Mult) (rI CMul fun i j => .int (i * j)) := opI fun _ _ _ _ _ _ _ hc q => mul_int q hc.ok
/-- // by a positive divisor -/
theorem op_fdiv : OpR X (binaryOp .FloorDiv) (rI CDiv fun i j => .int (i / j)) := opI fun i j _ _ _ _ _ hc q => by
  have h1 : (0 : Int) < j := hc.1
  have h2 : j < 1073741824 := hc.2
  exact floordiv_int (by omega) (by rw [Int.fdiv_eq_ediv_of_nonneg i (by omega)]; exact q) (.inl (PyProof.noPylong_small (by omega)))
/-- % by a positive divisor of any size -/
theorem op_mod : OpR X (binaryOp .Mod) (rI (fun _ j => 0 < j) fun i j => .int (i % j)) := opI fun i j _ _ _ _ _ hc q => by
  have h1 : (0 : Int) < j := hc
  exact mod_int' (by omega) (by rw [Int.fmod_eq_emod_of_nonneg i (by omega)]; exact q)
theorem op_pow : OpR X (binaryOp .Pow) (rI CPow fun i j => .int (i ^ j.toNat)) := opI fun _ _ _ _ _ _ _ hc q => pow_int_small hc.1 hc.2.1 hc.2.2 q
theorem unI {f : Value → Sem Value} {g : Int → Int}
    (rule : ∀ (i : Int) (t : Tok) (s : Shared) (Q : Value → Shared → Prop) (E : Value → Shared → Prop), Q (.int (g i) s.toks) { s with toks := s.toks + 1 } → wpAny (model X.prog X.w) X.A (f (.int i t)) Q E s) :
    UnR X f (rU fun i => .int (g i)) := by
  intro pins s σ H x v Q I rx h
  obtain ⟨i, rfl, q⟩ := h
  obtain ⟨t, rfl⟩ := rx
  exact rule i t s _ _ ⟨.int (g i), H, I.tok _, ⟨_, rfl⟩, q⟩
theorem un_neg : UnR X (unaryOp .USub) (rU fun i => .int (-i)) := unI fun _ _ _ _ _ q => neg_int q
/-! ### bools among ints: n += (a < b) -/
end

/-! ### comparisons -/
/-- the scalars that == tells apart as data does -/
def scal : V → V → Bool
  | .non, .non => true | .non, .int _ => true | .int _, .non => true | .non, .bl _ => true | .bl _, .non => true | .non, .str _ => true | .str _, .non => true
  | .int _, .int _ => true | .bl _, .bl _ => true | .str _, .str _ => true | .byt _, .byt _ => true
  | .int _, .str _ => true | .str _, .int _ => true | .bl _, .str _ => true | .str _, .bl _ => true
  | _, _ => false
def rEq : R2 := fun x y H Q => scal x y = true ∧ Q (.bl (decide (x = y))) H
def rNe : R2 := fun x y H Q => scal x y = true ∧ Q (.bl (!decide (x = y))) H

theorem dec_int {i j : Int} : decide (V.int i = V.int j) = (i == j) := by
  rw [Bool.eq_iff_iff]
  simp
theorem dec_bl {i j : Bool} : decide (V.bl i = V.bl j) = (i == j) := by
  rw [Bool.eq_iff_iff]
  simp
theorem dec_str {i j : Str} : decide (V.str i = V.str j) = (i == j) := by
  rw [Bool.eq_iff_iff]
  simp
theorem dec_byt {i j : Array UInt8} : decide (V.byt i = V.byt j) = (i.toList == j.toList) := by
  rw [Bool.eq_iff_iff]
  cases i
  cases j
  simp

section
variable {X : Cx} {a b c : Expr} {ta tb tc : TE} {pos : Pos}
theorem fin_bl {pins : List (Addr × Obj)} {σ : St} {H : Hp} {s : Shared} {Q : VK} {k k' : Bool} (I : Inv X pins σ H s) (q : Q (.bl k) H) (e : k = k') : EP X pins σ Q (.bool k') s := by
  subst e
  exact ⟨.bl k, H, I, rfl, q⟩
theorem op_eq : OpR X (compareOp .Eq) rEq := by
  intro pins s σ H x y v u Q I rx ry h
  obtain ⟨hs, q⟩ := h
  cases x with
  | non =>
    cases rx
    cases y with
    | non => cases ry; exact PySem.EqNone.eq_none_none (fin_bl I q (by simp))
    | bl j => cases ry; exact PySem.EqNone.eq_none_bool (fin_bl I q (by simp))
    | int j => obtain ⟨t', rfl⟩ := ry; exact PySem.EqNone.eq_none_int (fin_bl I q (by simp))
    | str j => obtain ⟨t', rfl⟩ := ry; exact PySem.EqNone.eq_none_str (fin_bl I q (by simp))
    | _ => exact absurd (show false = true from hs) Bool.false_ne_true
  | bl i =>
    cases rx
    cases y with
    | non => cases ry; exact PySem.EqNone.eq_bool_none (fin_bl I q (by simp))
    | bl j => cases ry; exact eq_bool (fin_bl I q dec_bl)
    | str j => obtain ⟨t', rfl⟩ := ry; exact PySem.EqMixed.eq_bool_str (fin_bl I q (by simp))
    | _ => exact absurd (show false = true from hs) Bool.false_ne_true
  | int i =>
    obtain ⟨t, rfl⟩ := rx
    cases y with
    | non => cases ry; exact PySem.EqNone.eq_int_none (fin_bl I q (by simp))
    | int j => obtain ⟨t', rfl⟩ := ry; exact eq_int (fin_bl I q dec_int)
    | str j => obtain ⟨t', rfl⟩ := ry; exact PySem.EqMixed.eq_int_str (fin_bl I q (by simp))
    | _ => exact absurd (show false = true from hs) Bool.false_ne_true
  | str i =>
    obtain ⟨t, rfl⟩ := rx
    cases y with
    | non => cases ry; exact PySem.EqNone.eq_str_none (fin_bl I q (by simp))
    | bl j => cases ry; exact PySem.EqMixed.eq_str_bool (fin_bl I q (by simp))
    | int j => obtain ⟨t', rfl⟩ := ry; exact PySem.EqMixed.eq_str_int (fin_bl I q (by simp))
    | str j => obtain ⟨t', rfl⟩ := ry; exact eq_str (fin_bl I q dec_str)
    | _ => exact absurd (show false = true from hs) Bool.false_ne_true
  | byt i =>
    obtain ⟨t, rfl⟩ := rx
    cases y with
    | byt j => obtain ⟨t', rfl⟩ := ry; exact PySem.W.eq_bytes (fin_bl I q dec_byt)
    | _ => exact absurd (show false = true from hs) Bool.false_ne_true
  | _ => cases y <;> exact absurd (show false = true from hs) Bool.false_ne_true
theorem op_ne : OpR X (compareOp .NotEq) rNe := by
  intro pins s σ H x y v u Q I rx ry h
  obtain ⟨hs, q⟩ := h
  cases x with
  | non =>
    cases rx
    cases y with
    | non => cases ry; exact PySem.EqNone.ne_none_none (fin_bl I q (by simp))
    | bl j => cases ry; exact PySem.EqNone.ne_none_bool (fin_bl I q (by simp))
    | int j => obtain ⟨t', rfl⟩ := ry; exact PySem.EqNone.ne_none_int (fin_bl I q (by simp))
    | str j => obtain ⟨t', rfl⟩ := ry; exact PySem.EqNone.ne_none_str (fin_bl I q (by simp))
    | _ => exact absurd (show false = true from hs) Bool.false_ne_true
  | bl i =>
    cases rx
    cases y with
    | non => cases ry; exact PySem.EqNone.ne_bool_none (fin_bl I q (by simp))
    | bl j => cases ry; exact ne_bool (fin_bl I q (congrArg not dec_bl))
    | str j => obtain ⟨t', rfl⟩ := ry; exact PySem.EqMixed.ne_bool_str (fin_bl I q (by simp))
    | _ => exact absurd (show false = true from hs) Bool.false_ne_true
  | int i =>
    obtain ⟨t, rfl⟩ := rx
    cases y with
    | non => cases ry; exact PySem.EqNone.ne_int_none (fin_bl I q (by simp))
    | int j => obtain ⟨t', rfl⟩ := ry; exact ne_int (fin_bl I q (congrArg not dec_int))
    | str j => obtain ⟨t', rfl⟩ := ry; exact PySem.EqMixed.ne_int_str (fin_bl I q (by simp))
    | _ => exact absurd (show false = true from hs) Bool.false_ne_true
  | str i =>
    obtain ⟨t, rfl⟩ := rx
    cases y with
    | non => cases ry; exact PySem.EqNone.ne_str_none (fin_bl I q (by simp))
    | bl j => cases ry; exact PySem.EqMixed.ne_str_bool (fin_bl I q (by simp))
    | int j => obtain ⟨t', rfl⟩ := ry; exact PySem.EqMixed.ne_str_int (fin_bl I q (by simp))
    | str j => obtain ⟨t', rfl⟩ := ry; exact ne_str (fin_bl I q (congrArg not dec_str))
    | _ => exact absurd (show false = true from hs) Bool.false_ne_true
  | byt i =>
    obtain ⟨t, rfl⟩ := rx
    cases y with
    | byt j => obtain ⟨t', rfl⟩ := ry; exact PySem.W.ne_bytes (fin_bl I q (congrArg not dec_byt))
    | _ => exact absurd (show false = true from hs) Bool.false_ne_true
  | _ => cases y <;> exact absurd (show false = true from hs) Bool.false_ne_true

theorem op_le : OpR X (compareOp .LtE) (rI0 fun i j => .bl (decide (i ≤ j))) := opB0 fun _ _ _ _ _ _ _ q => le_int q
theorem op_gt : OpR X (compareOp .Gt) (rI0 fun i j => .bl (decide (j < i))) := opB0 fun _ _ _ _ _ _ _ q => gt_int q
theorem op_ge : OpR X (compareOp .GtE) (rI0 fun i j => .bl (decide (j ≤ i))) := opB0 fun _ _ _ _ _ _ _ q => ge_int q
/-- the one string within the other -/
theorem op_in_str : OpR X (compareOp .In) (fun x y H Q => ∃ i j, x = .str i ∧ y = .str j ∧ Q (.bl (!(Builtin.Str.occurrences j i 0 j.length 1).isEmpty)) H) := by
  intro pins s σ H x y v u Q I rx ry h
  obtain ⟨i, j, rfl, rfl, q⟩ := h
  obtain ⟨t, rfl⟩ := rx
  obtain ⟨t', rfl⟩ := ry
  exact in_str (fin_bl I q rfl)

/-- two rules for one operation: by cases -/
theorem OpR.or {f : Value → Value → Sem Value} {r r' : R2} (h : OpR X f r) (h' : OpR X f r') : OpR X f (fun x y H Q => r x y H Q ∨ r' x y H Q) := by
  intro pins s σ H x y v u Q I rx ry q
  rcases q with q | q
  · exact h pins s σ H x y v u Q I rx ry q
  · exact h' pins s σ H x y v u Q I rx ry q

theorem nomark (b : Expr) {op : CmpOp} (h : op ≠ .In := by decide) (h2 : op ≠ .NotIn := by decide) : behindInMarks op b = false := by
  have e1 : (op == CmpOp.In) = false := by cases op <;> first | rfl | exact absurd rfl h
  have e2 : (op == CmpOp.NotIn) = false := by cases op <;> first | rfl | exact absurd rfl h2
  cases b <;> simp [behindInMarks, e1, e2]
/-- a comparison as a value; hm: nomark b, or (for in, not in) by with_unfolding_all rfl -/
theorem pe_cmpR {op : CmpOp} {r : R2} (ho : OpR X (compareOp op) r) (ha : PE X a ta) (hb : PE X b tb) (hm : behindInMarks op b = false) : PE X (.Compare a [op] [b] pos) (tOp r ta tb) := by
  intro pins s σ H Q I h
  exact wpAny_Compare1 (binT ha hb I h fun v u s2 x y H2 I2 rx ry q => ho pins s2 σ H2 x y v u Q I2 rx ry q) hm
/-- a reading of a value as a test -/
def tTest (t : TE) : TT := fun σ H Q => t σ H fun x H' => ∃ k, x = .bl k ∧ Q k H'
theorem pt_cmpR {op : CmpOp} {r : R2} (ho : OpR X (compareOp op) r) (ha : PE X a ta) (hb : PE X b tb) (hm : behindInMarks op b = false) : PT X (.Compare a [op] [b] pos) (tTest (tOp r ta tb)) := by
  intro pins s σ H Q I h
  refine wpAny_isTrue_Compare1 (thn (ha pins s σ H _ I h) fun v s1 ⟨x, H1, I1, r1, q1⟩ => thn (hb pins s1 σ H1 _ I1 q1) fun u s2 ⟨y, H2, I2, r2, q2⟩ =>
    thn (ho pins s2 σ H2 x y v u _ I2 r1 r2 q2) fun c s3 ⟨z, H3, I3, r3, k, e, q3⟩ => ?_) hm
  subst e
  cases r3
  exact wpAny_truthy_bool ⟨H3, I3, q3⟩
/-- a op1 b op2 c -/
def tChain (r r' : R2) (ta tb tc : TE) : TE := fun σ H Q => ta σ H fun x H1 => tb σ H1 fun y H2 => r x y H2 fun z H3 => ∃ k, z = .bl k ∧
  (if k = true then tc σ H3 fun w' H4 => r' y w' H4 Q else Q (.bl false) H3)
theorem pe_chain {op op' : CmpOp} {r r' : R2} (ho : OpR X (compareOp op) r) (ho' : OpR X (compareOp op') r') (ha : PE X a ta) (hb : PE X b tb) (hc : PE X c tc)
    (hm : lastMarks [op, op'] [b, c] = false := by with_unfolding_all rfl) : PE X (.Compare a [op, op'] [b, c] pos) (tChain r r' ta tb tc) := by
  intro pins s σ H Q I h
  refine Compare_chain (thn (ha pins s σ H _ I h) fun v s1 ⟨x, H1, I1, r1, q1⟩ => chain_link (thn (hb pins s1 σ H1 _ I1 q1) fun u s2 ⟨y, H2, I2, r2, q2⟩ =>
    thn (ho pins s2 σ H2 x y v u _ I2 r1 r2 q2) fun d s3 ⟨z, H3, I3, r3, k, e, q3⟩ => ?_)) hm
  subst e
  cases r3
  refine wpAny_truthy_bool ?_
  cases k with
  | false => exact ite_ff ⟨.bl false, H3, I3, rfl, q3⟩
  | true => exact ite_tt (chain_last (thn (hc pins s3 σ H3 _ I3 q3) fun w' s4 ⟨z', H4, I4, r4, q4⟩ => ho' pins s4 σ H4 y z' u w' Q I4 r2 r4 q4))
/-! ### truth -/
/-- a value's truth by the abstract heap -/
def TruV (K : PySem.W.Frag) (x : V) (H : Hp) (k : Bool) : Prop :=
  match x with
  | .non => k = false
  | .bl b => k = b
  | .int i => k = (i != 0)
  | .str y => y.length ≤ sizeLine ∧ k = ((y.length : Int) != 0)
  | .byt y => y.size ≤ sizeLine ∧ k = ((y.size : Int) != 0)
  | .ref p => (∃ xs, SqL K H p xs ∧ k = !xs.isEmpty) ∨ (∃ xs, SqT K H p xs ∧ k = !xs.isEmpty) ∨ ∃ kvs, H p = some (.dK kvs) ∧ k = !kvs.isEmpty
  | _ => False
theorem isEmpty_kv {κ : Type} {kvs : List (κ × V)} {vs : List (κ × Value)} (r : KV kvs vs) : (!vs.isEmpty) = !kvs.isEmpty := by
  cases r <;> rfl
theorem isEmpty_of {xs : List V} {its : List Value} (r : Vals xs its) : (!its.toArray.isEmpty) = !xs.isEmpty := by
  cases r <;> simp
theorem line63 : (sizeLine : Nat) < 2 ^ 63 := by rw [sizeLine_eq]; decide
theorem tru_ok : TruR X (fun x H Q => ∃ k, TruV X.K x H k ∧ Q k H) := by
  intro pins s σ H x v Q I rx h
  obtain ⟨k, e, q⟩ := h
  have hl := line63
  have hs : sizeLine = 16777216 := sizeLine_eq
  cases x with
  | non =>
    cases rx
    have e' : k = false := e
    subst e'
    exact truthy_none ⟨H, I, q⟩
  | bl b =>
    cases rx
    have e' : k = b := e
    subst e'
    exact wpAny_truthy_bool ⟨H, I, q⟩
  | int i =>
    obtain ⟨t, rfl⟩ := rx
    have e' : k = (i != 0) := e
    subst e'
    exact PySem.P.truthy_int ⟨H, I, q⟩
  | str y =>
    obtain ⟨t, rfl⟩ := rx
    obtain ⟨hy, e'⟩ : y.length ≤ sizeLine ∧ k = ((y.length : Int) != 0) := e
    subst e'
    exact PySem.P.truthy_str (by omega) ⟨H, I.tok _, q⟩
  | byt y =>
    obtain ⟨t, rfl⟩ := rx
    obtain ⟨hy, e'⟩ : y.size ≤ sizeLine ∧ k = ((y.size : Int) != 0) := e
    subst e'
    exact PySem.W.truthy_bytes (by omega) ⟨H, I.tok _, q⟩
  | ref p =>
    cases rx
    have e' : (∃ xs, SqL X.K H p xs ∧ k = !xs.isEmpty) ∨ (∃ xs, SqT X.K H p xs ∧ k = !xs.isEmpty) ∨ ∃ kvs, H p = some (.dK kvs) ∧ k = !kvs.isEmpty := e
    rcases e' with ⟨xs, hx, e'⟩ | ⟨xs, hx, e'⟩ | ⟨kvs, hx, e'⟩
    · subst e'
      obtain ⟨its, r, pl, hz⟩ := I.list hx
      have hlen := r.length
      exact wpAny_truthy_list pl.isList (by simp only [List.size_toArray]; omega) ⟨H, I.tok _, by rw [isEmpty_of r]; exact q⟩
    · subst e'
      obtain ⟨its, r, pl, hz⟩ := I.tuple hx
      have hlen := r.length
      exact truthy_tuple pl (by simp only [List.size_toArray]; omega) ⟨H, I.tok _, by rw [isEmpty_of r]; exact q⟩
    · subst e'
      obtain ⟨hz, hS, vs, r, m⟩ : kvs.length ≤ sizeLine ∧ (p == sysModules) = false ∧ ∃ vs, KV kvs vs ∧ s.heap.DictOf (mixKind X.prog X.w) p vs := I.hok p _ hx
      have hlen : kvs.length = vs.length := Paired.length r
      exact wpAny_truthy_dict hS m (by omega) ⟨H, I.tok _, by rw [isEmpty_kv r]; exact q⟩
  | _ => exact (show False from e).elim
/-- any expression whose test is its value's truth (a name, a call, a subscript, a field ..: he by fun _ => rfl) -/
theorem pt_truth (ha : PE X a ta) (he : ∀ whole, isTrue a X.env whole = (do let v ← whole; standAt a.pos; holding [v] (truthy v))) :
    PT X a (fun σ H Q => ta σ H fun x H' => ∃ k, TruV X.K x H' k ∧ Q k H') := by
  intro pins s σ H Q I h
  exact isTrue_plain (thn (ha pins s σ H _ I h) fun v s1 ⟨x, H1, I1, r1, q1⟩ => tru_ok pins s1 σ H1 x v Q I1 r1 q1) (he _)

/-! ### strs and bytes -/
/-! ### scalar builtins, by CallR -/
theorem vals1 {x : V} {us : List Value} (r : Vals [x] us) : ∃ u, us = [u] ∧ RelV x u := by
  cases r with
  | cons r1 r2 => cases r2; exact ⟨_, rfl, r1⟩
theorem vals2 {x y : V} {us : List Value} (r : Vals [x, y] us) : ∃ u w', us = [u, w'] ∧ RelV x u ∧ RelV y w' := by
  cases r with
  | cons r1 r2 =>
    cases r2 with
    | cons r3 r4 => cases r4; exact ⟨_, _, rfl, r1, r3⟩
theorem call_max2 (hc : X.calm = true) : CallR X (.builtin "max") (fun xs H Q => ∃ i j, xs = [.int i, .int j] ∧ Q (.int (if j > i then j else i)) H) := by
  intro pins s σ H xs us Q I r h
  obtain ⟨i, j, rfl, q⟩ := h
  obtain ⟨u, w', rfl, ⟨t, rfl⟩, ⟨t', rfl⟩⟩ := vals2 r
  refine max_two_ints (I.ok.hd hc) fun h' tk k => ⟨_, H, I.kept k, ?_, q⟩
  by_cases hj : j > i
  · rw [if_pos hj, if_pos hj]; exact ⟨_, rfl⟩
  · rw [if_neg hj, if_neg hj]; exact ⟨_, rfl⟩
theorem call_min2 (hc : X.calm = true) : CallR X (.builtin "min") (fun xs H Q => ∃ i j, xs = [.int i, .int j] ∧ Q (.int (if j < i then j else i)) H) := by
  intro pins s σ H xs us Q I r h
  obtain ⟨i, j, rfl, q⟩ := h
  obtain ⟨u, w', rfl, ⟨t, rfl⟩, ⟨t', rfl⟩⟩ := vals2 r
  refine min_two_ints (I.ok.hd hc) fun h' tk k => ⟨_, H, I.kept k, ?_, q⟩
  by_cases hj : j < i
  · rw [if_pos hj, if_pos hj]; exact ⟨_, rfl⟩
  · rw [if_neg hj, if_neg hj]; exact ⟨_, rfl⟩
theorem call_int1 : CallR X (.type "int") (fun xs H Q => (∃ i, xs = [.int i] ∧ Q (.int i) H) ∨ ∃ k, xs = [.bl k] ∧ Q (.int (if k then 1 else 0)) H) := by
  intro pins s σ H xs us Q I r h
  rcases h with ⟨i, rfl, q⟩ | ⟨k, rfl, q⟩
  · obtain ⟨u, rfl, t, rfl⟩ := vals1 r
    exact call_int_int ⟨.int i, H, I, ⟨_, rfl⟩, q⟩
  · obtain ⟨u, rfl, r1⟩ := vals1 r
    cases r1
    exact call_int_bool ⟨.int (if k then 1 else 0), H, I.tok _, ⟨_, rfl⟩, q⟩
end
end L2

namespace L2
open PySem PySem.Spec PyProof.Rows

/-! ### an instance, its attributes a map -/
structure ObjM (h : Heap) (x dx C : Addr) (mA : Str → Option Value) : Prop where
  obj : h.get? x = some (PySem.W.instObj C dx)
  ns : h.Ns1 dx mA
  ne : dx ≠ x

theorem lookIn_ns {h : Heap} {dx : Addr} {mA : Str → Option Value} (n : h.Ns1 dx mA) : ∃ od, h.get? dx = some od ∧ ∀ name, PySem.W.lookIn name od = some (mA name) := by
  obtain ⟨o, es, ep, ho, hd, hk, _, hm⟩ := n
  refine ⟨o, ho, fun name => ?_⟩
  have e := hm name
  unfold nsFind findBy at e
  rw [← Array.find?_toList] at e
  unfold PySem.W.lookIn
  rw [hd]
  dsimp only
  split
  · rename_i y q
    rw [q] at e
    exact congrArg some e
  · rename_i q
    rw [q] at e
    have a : es.toList.any (·.refKey) = false := by
      rw [List.any_eq_false]
      intro y hy
      obtain ⟨z, t, hkey⟩ := hk y (Array.mem_toList_iff.mp hy)
      simp [DictEntry.refKey, hkey]
    have a' : ¬ es.toList.any (·.refKey) = true := by rw [a]; exact Bool.false_ne_true
    rw [if_neg a']
    exact congrArg some e

theorem ObjM.look {h : Heap} {x dx C : Addr} {mA : Str → Option Value} (I : ObjM h x dx C mA) : ∃ od, PySem.W.InstAt h x (PySem.W.instObj C dx) C (some od) ∧ ∀ name, PySem.W.lookIn name od = some (mA name) :=
  let ⟨od, ho, hl⟩ := lookIn_ns I.ns
  ⟨od, ⟨I.obj, rfl, rfl, ho⟩, hl⟩

section
variable {prog : Program} {w : World} {A : Around} {E : Value → Shared → Prop} {s : Shared} {K : PySem.W.Frag} {x dx C f : Addr} {mA : Str → Option Value} {name : Str} {v : Value}

theorem get_map {expr : Bool} {Q : Value → Shared → Prop} (X : K.In s.heap) (I : ObjM s.heap x dx C mA) (hg : PySem.W.plainGet K C name = true) (hh : PySem.W.hasDictIn K C = true)
    (ha : PySem.W.findIn K (.ref C) name = some none) (hv : mA name = some v) (hv' : PySem.W.handedIn v = true) (h : Q v { s with toks := s.toks + 1 }) :
    wpAny (model prog w) A (getAttr (.ref x) name expr) Q E s := by
  obtain ⟨od, J, hl⟩ := I.look
  exact PySem.W.get_value X J (PySem.W.plainGet_of hg).1 (PySem.W.findObj_own hh ha rfl (by rw [hl, hv])) hv' h

theorem get_meth {pl : Sem Bool} {Q : Value × List Value → Shared → Prop} (X : K.In s.heap) (I : ObjM s.heap x dx C mA) (hg : PySem.W.plainGet K C name = true)
    (hf : PySem.W.findIn K (.ref C) name = some (some (.ref f))) (ht : PySem.W.isFn K (.ref f) = true) (hv : mA name = none) (h : Q (.ref f, [.ref x]) s) :
    wpAny (model prog w) A (getMethod (.ref x) name pl) Q E s := by
  obtain ⟨od, J, hl⟩ := I.look
  exact PySem.W.method_fn X J (PySem.W.plainGet_of hg).1 (PySem.W.plainGet_of hg).2 hf (beq_iff_eq.mp ht) (by show (PySem.W.lookIn name od).map (·.isSome) = some false; rw [hl, hv]; rfl) h

theorem set_map {ns : List Str} {Q : Unit → Shared → Prop} (X : K.In s.heap) (I : ObjM s.heap x dx C mA)
    (hs : PySem.W.findIn K (.ref C) "__setattr__" = some (some (.builtin "object.__setattr__"))) (hp : PySem.W.plainOver K C = true) (ht : PySem.W.takerIn K C name = some none) (hh : PySem.W.hasDictIn K C = true)
    (hw : PySem.Within mA ns) (hsz : ns.length ≤ sizeLine)
    (h : ∀ h', ObjM h' x dx C (fun y => if y = name then some v else mA y) → Heap.SameBut dx s.heap h' → Q () { s with heap := h', toks := s.toks + 2 }) :
    wpAny (model prog w) A (setAttr (.ref x) name v) Q E s := by
  obtain ⟨od, J, hl⟩ := I.look
  refine PySem.W.set_plain X J hs (PySem.W.osa_open (s := { s with toks := s.toks + 1 }) (r := none) X J hp ht fun b => ?_)
  obtain ⟨cd, hc, hd'⟩ := PySem.W.any_some hh
  have hx : s.heap.get? x = some ⟨.ref C, some dx, .plain, #[]⟩ := I.obj
  refine wpAny_bind (wpAny_pure (wpAny_bind (wpAny_bind (wpAny_loadPart hx (wpAny_bind (PySem.W.Looks.here (s := { s with toks := s.toks + 1 }) (PySem.W.looks_clsIn X hc) ?_))))))
  rw [hd']
  refine wpAny_pure (a := some dx) (wpAny_bind (wpAny_pure (wpAny_bind ?_)))
  refine wpAny_nsSet1 (s := { s with toks := s.toks + 1 }) I.ns fun h' hn2 hs2 => ?_
  obtain ⟨oD, esD, epD, hoD, hdD, hcD⟩ := hn2.count (PySem.Within.cons name v hw)
  refine wpAny_bind (wpAny_lookBehind hoD (by rw [hdD]; exact pastItsLine_dict (Nat.le_trans hcD (by rw [List.length_cons]; omega))) ?_)
  exact wpAny_pure (h _ ⟨(hs2.2 _ (Ne.symm I.ne)).trans I.obj, hn2, I.ne⟩ hs2)

/-- C(..): the dict at the heap's end, the instance behind it; then its __init__ -/
theorem make_map {R : Result → Shared → Prop} {vs : List Value} {kw : List (Str × Value)} (X : K.In s.heap) (hm : PySem.W.makesIn K C = true)
    (hi : PySem.W.findIn K (.ref C) "__init__" = some (some (.ref f))) (hf : PySem.W.typeIn K (.ref f) = some (.type "function"))
    (h : codeAny (model prog w) (A.under (.builtin "type.__call__" ⟨.ref C :: vs, kw⟩)) (.call (.ref f) ⟨.ref (s.heap.objs.size + 1) :: vs, kw⟩) (PySem.W.InitBack (s.heap.objs.size + 1) R)
      { s with heap := (s.heap.push PySem.W.emptyDict).push (PySem.W.instObj C s.heap.objs.size) }) :
    codeAny (model prog w) A (.call (.ref C) ⟨vs, kw⟩) R s := by
  obtain ⟨hh, g, d, t, os⟩ := s
  exact PySem.W.make_core (PySem.W.makes_of X hm) (PySem.W.looks_findIn X hi) (fun self => PySem.W.bind_fn X self hf) (.inl rfl) h
end

/-! ### the attributes as a list of pairs -/
def putF (f : Str) (v : V) : List (Str × V) → List (Str × V)
  | [] => [(f, v)]
  | (g, x) :: r => if g = f then (g, v) :: r else (g, x) :: putF f v r
theorem lookup_putF (f g : Str) (v : V) : ∀ fs : List (Str × V), (putF f v fs).lookup g = if g = f then some v else fs.lookup g
  | [] => by
    show List.lookup g [(f, v)] = _
    by_cases h : g = f
    · have hb : (g == f) = true := beq_iff_eq.mpr h
      simp only [List.lookup, hb, if_pos h]
    · have hb : (g == f) = false := beq_eq_false_iff_ne.mpr h
      simp only [List.lookup, hb, if_neg h]
  | (k, x) :: r => by
    have ih := lookup_putF f g v r
    rw [show putF f v ((k, x) :: r) = (if k = f then (k, v) :: r else (k, x) :: putF f v r) from rfl]
    by_cases hk : k = f
    · rw [if_pos hk]
      by_cases h : g = k
      · have hb : (g == k) = true := beq_iff_eq.mpr h
        simp only [List.lookup, hb, if_pos (h.trans hk)]
      · have hb : (g == k) = false := beq_eq_false_iff_ne.mpr h
        simp only [List.lookup, hb, if_neg (fun e : g = f => h (e.trans hk.symm))]
    · rw [if_neg hk]
      by_cases h : g = k
      · have hb : (g == k) = true := beq_iff_eq.mpr h
        simp only [List.lookup, hb, if_neg (fun e : g = f => hk (h.symm.trans e))]
      · have hb : (g == k) = false := beq_eq_false_iff_ne.mpr h
        simp only [List.lookup, hb]
        exact ih
theorem keys_putF (f : Str) (v : V) : ∀ fs : List (Str × V), f ∈ (putF f v fs).map (·.1) ∧ ∀ g, g ∈ fs.map (·.1) → g ∈ (putF f v fs).map (·.1)
  | [] => ⟨by simp [putF], fun g h => by simp at h⟩
  | (k, x) :: r => by
    obtain ⟨i1, i2⟩ := keys_putF f v r
    rw [show putF f v ((k, x) :: r) = (if k = f then (k, v) :: r else (k, x) :: putF f v r) from rfl]
    by_cases hk : k = f
    · rw [if_pos hk]
      subst hk
      exact ⟨by simp, fun g h => by simpa using h⟩
    · rw [if_neg hk]
      refine ⟨?_, fun g h => ?_⟩
      · rw [List.map_cons]
        exact List.mem_cons_of_mem _ i1
      · rw [List.map_cons] at h ⊢
        rcases List.mem_cons.mp h with e | e
        · exact List.mem_cons.mpr (.inl e)
        · exact List.mem_cons_of_mem _ (i2 g e)
theorem length_putF (f : Str) (v : V) : ∀ fs : List (Str × V), (putF f v fs).length ≤ fs.length + 1
  | [] => by simp [putF]
  | (k, x) :: r => by
    have ih := length_putF f v r
    rw [show putF f v ((k, x) :: r) = (if k = f then (k, v) :: r else (k, x) :: putF f v r) from rfl]
    by_cases hk : k = f
    · rw [if_pos hk, List.length_cons, List.length_cons]; omega
    · rw [if_neg hk, List.length_cons, List.length_cons]; omega

theorem RelO.some_of {v : V} {o : Option Value} (r : RelO (some v) o) : ∃ u, o = some u ∧ RelV v u := by
  cases o with
  | none => exact (show False from r).elim
  | some u => exact ⟨u, rfl, r⟩
theorem RelO.none_of {o : Option Value} (r : RelO none o) : o = none := by
  cases o with
  | none => rfl
  | some u => exact (show False from r).elim
theorem handed_of {v : V} {u : Value} (r : RelV v u) : PySem.W.handedIn u = true := by
  cases v with
  | non => cases (show u = Value.none from r); rfl
  | bl b => cases (show u = Value.bool b from r); rfl
  | int i => obtain ⟨t, e⟩ := (show ∃ t, u = Value.int i t from r); cases e; rfl
  | str x => obtain ⟨t, e⟩ := (show ∃ t, u = Value.str x t from r); cases e; rfl
  | byt b => obtain ⟨t, e⟩ := (show ∃ t, u = Value.bytes b t from r); cases e; rfl
  | flt b => obtain ⟨t, e⟩ := (show ∃ t, u = Value.float b t from r); cases e; rfl
  | ref a => cases (show u = Value.ref a from r); rfl
  | ty n => cases (show u = Value.type n from r); rfl

section
variable {P : Program} {w : World} {H H' : Hp} {h h' : Heap} {a C dx : Addr} {fs fs' : List (Str × V)}
theorem ins_get (hok : HOk P w H h) (e : H a = some (.ins C dx fs)) : ∃ mA, ObjM h a dx C mA ∧ (∀ f, RelO (fs.lookup f) (mA f)) ∧ PySem.Within mA (fs.map (·.1)) ∧ fs.length ≤ 1000 ∧ H dx = some (.own a) := by
  obtain ⟨d, z, ne, ob, mA, n, r, q⟩ := (show ObjOk P w H h a (.ins C dx fs) from hok a _ e)
  exact ⟨mA, ⟨ob, n, ne⟩, r, q, z, d⟩
end

/-! ### what of the text a class must have -/
structure Cls (K : PySem.W.Frag) (C : Addr) : Prop where
  pg : PySem.W.plainGet K C Str.empty = true
  hd : PySem.W.hasDictIn K C = true
  po : PySem.W.plainOver K C = true
  sa : PySem.W.findIn K (.ref C) "__setattr__" = some (some (.builtin "object.__setattr__"))
theorem Cls.get {K : PySem.W.Frag} {C : Addr} (c : Cls K C) (f : Str) : PySem.W.plainGet K C f = true := c.pg
/-- no class of it has the name -/
def NoAttr (K : PySem.W.Frag) (C : Addr) (f : Str) : Prop := PySem.W.findIn K (.ref C) f = some none
theorem NoAttr.taker {K : PySem.W.Frag} {C : Addr} {f : Str} (n : NoAttr K C f) : PySem.W.takerIn K C f = some none := by
  unfold PySem.W.takerIn
  rw [show PySem.W.findIn K (.ref C) f = some none from n]
  rfl
/-- a constant of the class -/
structure Con (K : PySem.W.Frag) (C : Addr) (f : Str) (v : V) (u : Value) : Prop where
  at_ : PySem.W.findIn K (.ref C) f = some (some u)
  rel : RelV v u
  get : PySem.W.specialIn K u "__get__" = some none
  cp : PySem.W.copiedNames.contains f = false
/-- a method: a plain def of the class or of one above it -/
structure Meth (K : PySem.W.Frag) (C : Addr) (m : Str) (f : Addr) : Prop where
  at_ : PySem.W.findIn K (.ref C) m = some (some (.ref f))
  fn : PySem.W.isFn K (.ref f) = true
  kp : PySem.W.keepIn K (.ref f) = true

section
variable {X : Cx} {pins : List (Addr × Obj)} {σ : St} {H : Hp} {s : Shared} {a C dx : Addr} {fs : List (Str × V)} {f : Str} {v : V} {A : Around} {E : Value → Shared → Prop}

theorem getattr_ok {b : Bool} {Q : Value → Shared → Prop} (I : Inv X pins σ H s) (e : H a = some (.ins C dx fs)) (c : Cls X.K C) (n : NoAttr X.K C f) (l : fs.lookup f = some v)
    (h : ∀ u s', Inv X pins σ H s' → RelV v u → Q u s') : wpAny (model X.prog X.w) A (getAttr (.ref a) f b) Q E s := by
  obtain ⟨mA, O, r, _, _, _⟩ := ins_get I.hok e
  obtain ⟨u, hu, ru⟩ := RelO.some_of (v := v) (o := mA f) (by rw [← l]; exact r f)
  exact get_map I.kIn O (c.get f) c.hd n hu (handed_of ru) (h u _ (I.tok _) ru)

theorem getmeth_ok {m : Str} {g : Addr} {pl : Sem Bool} {Q : Value × List Value → Shared → Prop} (I : Inv X pins σ H s) (e : H a = some (.ins C dx fs)) (c : Cls X.K C) (k : Meth X.K C m g) (l : fs.lookup m = none)
    (h : Q (.ref g, [.ref a]) s) : wpAny (model X.prog X.w) A (getMethod (.ref a) m pl) Q E s := by
  obtain ⟨mA, O, r, _, _, _⟩ := ins_get I.hok e
  have hn : mA m = none := RelO.none_of (by rw [← l]; exact r m)
  exact get_meth I.kIn O (c.get m) k.at_ k.fn hn h

theorem setattr_ok {y : V} {u : Value} {Q : Unit → Shared → Prop} (I : Inv X pins σ H s) (e : H a = some (.ins C dx fs)) (c : Cls X.K C) (n : NoAttr X.K C f) (hl : fs.length < 1000) (ry : RelV y u)
    (h : ∀ s', Inv X pins σ (upd H a (.ins C dx (putF f y fs))) s' → Q () s') : wpAny (model X.prog X.w) A (setAttr (.ref a) f u) Q E s := by
  obtain ⟨mA, O, r, wi, _, ho⟩ := ins_get I.hok e
  have hz : (fs.map (·.1)).length ≤ sizeLine := by rw [List.length_map, sizeLine_eq]; omega
  refine set_map I.kIn O c.sa c.po n.taker c.hd wi hz fun h' O' sb => h _ ?_
  have hd : ∃ o, h'.get? dx = some o := let ⟨o, _, _, e', _⟩ := O'.ns; ⟨o, e'⟩
  refine I.write (x := a) (e := dx) (by rw [e]; exact True.intro) (.inr ho) (fun b q hb z => (sb.2 b hb).trans z) hd ?_
  refine ⟨by rw [upd_ne O.ne]; exact ho, ?_, O.ne, O'.obj, _, O'.ns, fun g => ?_, fun g hg => ?_⟩
  · have := length_putF f y fs; omega
  · show RelO ((putF f y fs).lookup g) (if g = f then some u else mA g)
    rw [lookup_putF]
    by_cases q : g = f
    · rw [if_pos q, if_pos q]; exact ry
    · rw [if_neg q, if_neg q]; exact r g
  · by_cases q : g = f
    · rw [q]; exact (keys_putF f y fs).1
    · refine (keys_putF f y fs).2 g (wi g fun z => hg ?_)
      show (if g = f then some u else mA g) = none
      rw [if_neg q]; exact z

/-- a new instance, tracked, without attributes -/
theorem Inv.made (I : Inv X pins σ H s) : Inv X pins σ (upd (upd H s.heap.objs.size (.own (s.heap.objs.size + 1))) (s.heap.objs.size + 1) (.ins C s.heap.objs.size []))
    { s with heap := (s.heap.push PySem.W.emptyDict).push (PySem.W.instObj C s.heap.objs.size) } := by
  have e1 : (s.heap.push PySem.W.emptyDict).get? s.heap.objs.size = some PySem.W.emptyDict := Heap.get?_push_size s.heap rfl
  have e2 : ((s.heap.push PySem.W.emptyDict).push (PySem.W.instObj C s.heap.objs.size)).get? (s.heap.objs.size + 1) = some (PySem.W.instObj C s.heap.objs.size) := by
    have := Heap.get?_push_size (s.heap.push PySem.W.emptyDict) (o := PySem.W.instObj C s.heap.objs.size) rfl
    rwa [Heap.size_push] at this
  have e3 : (s.heap.push PySem.W.emptyDict).Ns s.heap.objs.size (fun _ => none) := ⟨PySem.W.emptyDict, #[], _, e1, rfl, (fun e he => absurd he (by simp)), fun _ => rfl⟩
  have I1 := I.laid (a := s.heap.objs.size) (o := .own (s.heap.objs.size + 1)) (h' := s.heap.push PySem.W.emptyDict) (t' := s.toks) (fun b u q => Heap.get?_push_of_some _ q) (Nat.le_refl _) ⟨_, e1⟩
  refine I1.laid (a := s.heap.objs.size + 1) (o := .ins C s.heap.objs.size []) (t' := s.toks) (fun b u q => Heap.get?_push_of_some _ q) (Nat.le_of_eq (Heap.size_push _ _)) ?_
  have ne : s.heap.objs.size ≠ s.heap.objs.size + 1 := Nat.ne_of_lt (Nat.lt_succ_self _)
  refine ⟨by rw [upd_ne ne, upd_same], Nat.zero_le _, ne, e2, fun _ => none, (Heap.Ns1.of_empty e3).at fun o q => Heap.get?_push_of_some _ q, fun _ => True.intro, fun y hy => absurd rfl hy⟩

/-- e.f where nothing but the object is asked: through attributeBase (super) and the last hold -/
theorem attr_of {prog : Program} {w : World} {env : Env} {e : Expr} {f : Str} {pos : Pos} {s : Shared} {Q : Value → Shared → Prop} (hb : attributeBase e f env (eval e env) = eval e env)
    (h : wpAny (model prog w) A (eval e env) (fun o s₁ => wpAny (model prog w) A (getAttr o f true) Q E s₁) E s) : wpAny (model prog w) A (eval (.Attribute e f pos) env) Q E s :=
  Attribute_any_ h (by rw [arm_eval_Attribute, hb])
end

/-! ### readings and rules -/
/-- e.f, an attribute of the instance -/
def tFld (K : PySem.W.Frag) (ta : TE) (f : Str) : TE := fun σ H Q => ta σ H fun x H1 => ∃ a C dx fs v, x = .ref a ∧ H1 a = some (.ins C dx fs) ∧ Cls K C ∧ NoAttr K C f ∧ fs.lookup f = some v ∧ Q v H1
/-- e.f = value -/
def sFld (K : PySem.W.Frag) (ta tv : TE) (f : Str) : TS := fun D σ H => tv σ H fun y H1 => ta σ H1 fun x H2 => ∃ a C dx fs, x = .ref a ∧ H2 a = some (.ins C dx fs) ∧ Cls K C ∧ NoAttr K C f ∧ fs.length < 1000 ∧
  D.nx σ (upd H2 a (.ins C dx (putF f y fs)))
section
variable {X : Cx} {o e value : Expr} {f : Str} {pos pos' tpos : Pos} {ta tv : TE}
theorem pe_fld (he : PE X e ta) (hb : attributeBase e f X.env (eval e X.env) = eval e X.env) : PE X (.Attribute e f pos) (tFld X.K ta f) := by
  intro pins s σ H Q I h
  refine attr_of hb (thn (he pins s σ H _ I h) fun u s1 ⟨x, H1, I1, rx, a, C, dx, fs, v, ex, ea, c, n, l, q⟩ => ?_)
  subst ex
  obtain rfl : u = Value.ref a := rx
  exact getattr_ok I1 ea c n l fun u' s2 I2 ru => ⟨v, H1, I2, ru, q⟩
theorem ps_fld (ha : PE X o ta) (hv : PE X value tv) (hs : swapsWith value (some (.Attribute o f pos')) pos.line X.env = pure false) : PS X (.Assign [.Attribute o f pos'] value pos) (sFld X.K ta tv f) := by
  intro pins s σ H D I h
  refine plainObj_wpAny_Assign_Attribute (thn (hv pins s σ H _ I h) fun u s1 ⟨y, H1, I1, ry, q⟩ => thn (ha pins s1 σ H1 _ I1 q) fun ov s2 ⟨x, H2, I2, rx, a, C, dx, fs, ex, ea, c, n, l, q2⟩ => ?_) hs
  subst ex
  obtain rfl : ov = Value.ref a := rx
  exact setattr_ok I2 ea c n l ry fun s3 I3 => ⟨σ, _, I3, q2⟩
end

/-! ### isinstance -/
section
variable {X : Cx} {pins : List (Addr × Obj)} {σ : St} {H : Hp} {s : Shared} {A : Around} {E : Value → Shared → Prop} {Q : Value → Shared → Prop} {c : Value} {b : Bool}
/-- the type of a value, as the fragment's deciders take it; for an instance its class -/
inductive TyOf (K : PySem.W.Frag) (H : Hp) : V → Value → Prop where
  | non : TyOf K H .non (.type "NoneType")
  | bl (x : Bool) : TyOf K H (.bl x) (.type "bool")
  | int (i : Int) : TyOf K H (.int i) (.type "int")
  | str (x : Str) : TyOf K H (.str x) (.type "str")
  | flt (x : UInt64) : TyOf K H (.flt x) (.type "float")
  | lst {a : Addr} {xs : List V} (e : H a = some (.lst xs)) : TyOf K H (.ref a) (.type "list")
  | frz {a : Addr} {o : Obj} {xs : List V} (e : H a = some (.frz o (.lst xs))) : TyOf K H (.ref a) (.type "list")
  | tup {a : Addr} {xs : List V} (e : H a = some (.tup xs)) : TyOf K H (.ref a) (.type "tuple")
  | dK {a : Addr} {kvs : List (Key × V)} (e : H a = some (.dK kvs)) : TyOf K H (.ref a) (.type "dict")
  | dT {a : Addr} {kvs : List (List Key × V)} (e : H a = some (.dT kvs)) : TyOf K H (.ref a) (.type "dict")
  | ins {a C dx : Addr} {fs : List (Str × V)} (e : H a = some (.ins C dx fs)) (cl : Cls K C) (ha : PySem.W.findIn K (.ref C) "__class__" = some (some (.builtin "object.__class__")))
      (hn : PySem.W.specialIn K (.builtin "object.__class__") "__get__" = some (some (.builtin "getset_descriptor.__get__"))) (htk : PySem.W.takesIn K (.builtin "object.__class__") = some true)
      (hm : PySem.W.mroIn K C (.type "object") = some true) : TyOf K H (.ref a) (.ref C)
/-- isinstance(x, c) for one class c, a built-in or an own one: kitOne's answer -/
theorem isinst_ok {x : V} {u t : Value} (I : Inv X pins σ H s) (rx : RelV x u) (ty : TyOf X.K H x t) (e : PySem.W.kitOne X.K t c = some b) (h : ∀ tk, Q (.bool b) { s with toks := tk }) :
    wpAny (model X.prog X.w) A (call (.builtin "isinstance") [u, c]) Q E s := by
  cases ty with
  | non => cases (show u = Value.none from rx); exact PySem.W.kia_one PySem.W.kitx_none I.kIn True.intro e (fun z => nomatch z) h
  | bl y => cases (show u = Value.bool y from rx); exact PySem.W.kia_one PySem.W.kitx_bool I.kIn True.intro e (fun z => nomatch z) h
  | int i => obtain ⟨t, q⟩ := (show ∃ t, u = Value.int i t from rx); cases q; exact PySem.W.kia_one PySem.W.kitx_int I.kIn True.intro e (fun z => nomatch z) h
  | str y => obtain ⟨t, q⟩ := (show ∃ t, u = Value.str y t from rx); cases q; exact PySem.W.kia_one PySem.W.kitx_str I.kIn True.intro e (fun z => nomatch z) h
  | flt y => obtain ⟨t, q⟩ := (show ∃ t, u = Value.float y t from rx); cases q; exact PySem.W.kia_one PySem.W.kitx_float I.kIn True.intro e (fun z => nomatch z) h
  | @lst a xs ea =>
    cases (show u = Value.ref a from rx)
    obtain ⟨_, _, n, _, h1⟩ := (show ObjOk X.prog X.w H s.heap a (.lst xs) from I.hok a _ ea)
    exact PySem.W.kia_one PySem.W.kitx_list I.kIn ⟨_, h1, rfl⟩ e (fun z => nomatch z) h
  | @frz a ob xs ea =>
    cases (show u = Value.ref a from rx)
    obtain ⟨_, _, _, n, _, h1⟩ := (show ObjOk X.prog X.w H s.heap a (.frz ob (.lst xs)) from I.hok a _ ea)
    exact PySem.W.kia_one PySem.W.kitx_list I.kIn ⟨_, h1, rfl⟩ e (fun z => nomatch z) h
  | @tup a xs ea =>
    cases (show u = Value.ref a from rx)
    obtain ⟨_, _, _, p⟩ := (show ObjOk X.prog X.w H s.heap a (.tup xs) from I.hok a _ ea)
    obtain ⟨o, h1, h2, _⟩ := p
    exact PySem.W.kia_one PySem.W.kitx_tuple I.kIn ⟨o, h1, h2⟩ e (fun z => nomatch z) h
  | @dK a kvs ea =>
    cases (show u = Value.ref a from rx)
    obtain ⟨_, _, vs, _, p⟩ := (show ObjOk X.prog X.w H s.heap a (.dK kvs) from I.hok a _ ea)
    obtain ⟨o, es, ep, h1, h2, _⟩ := p
    exact PySem.W.kia_one PySem.W.kitx_dict I.kIn ⟨o, h1, h2.1⟩ e (fun z => nomatch z) h
  | @dT a kvs ea =>
    cases (show u = Value.ref a from rx)
    obtain ⟨_, _, xs, _, o, es, ep, h1, h2, _⟩ := (show ObjOk X.prog X.w H s.heap a (.dT kvs) from I.hok a _ ea)
    exact PySem.W.kia_one PySem.W.kitx_dict I.kIn ⟨o, h1, h2.1⟩ e (fun z => nomatch z) h
  | @ins a C dx fs ea cl ha hn htk hm =>
    cases (show u = Value.ref a from rx)
    obtain ⟨mA, O, _⟩ := ins_get I.hok ea
    obtain ⟨od, J, _⟩ := O.look
    exact PySem.W.kia_one (PySem.W.kitx_own (cl.get _) cl.hd ha hn htk hm) I.kIn J e (fun z => nomatch z) h
end
end L2

namespace L2
open PySem PySem.Spec PyProof.Rows

/-! ### room -/
structure Room (k : Nat) (A : Around) : Prop where
  hd : A.handled = none
  dp : A.depth + 3 * k + 5 < recursionLimit
  un : A.units + 16 * k + 200 < cLine
  gd : A.guards = some []
theorem Room.mono {j k : Nat} {A : Around} (r : Room k A) (h : j ≤ k) : Room j A := ⟨r.hd, by have := r.dp; omega, by have := r.un; omega, by first | exact r.gd | (simpa [Around.under, Code.isGuard, guardIds] using r.gd)⟩
theorem Room.deeper {k : Nat} {A : Around} (r : Room (k + 1) A) (env : Env) : Room k (A.deeper env) :=
  ⟨r.hd, by have := r.dp; show A.depth + 1 + 3 * k + 5 < _; omega, by have := r.un; show A.units + 3 + 16 * k + 200 < _; omega, by first | exact r.gd | (simpa [Around.under, Code.isGuard, guardIds] using r.gd)⟩
theorem Room.in1 {k : Nat} {A : Around} (r : Room (k + 1) A) : Room k A.in1 :=
  ⟨r.hd, by have := r.dp; show A.depth + 3 * k + 5 < _; omega, by have := r.un; show A.units + 1 + 16 * k + 200 < _; omega, by first | exact r.gd | (simpa [Around.under, Code.isGuard, guardIds] using r.gd)⟩
theorem make_depth {A : Around} {C : Addr} {us : List Value} {kw : List (Str × Value)} : (A.under (.builtin "type.__call__" ⟨.ref C :: us, kw⟩)).depth = A.depth + 1 := by
  first | rfl | simp [Around.under, Code.weight, Code.isCreation, Code.isGuard, Code.isCaller, Code.frames, Code.isFrame, guardIds]
theorem make_units {A : Around} {C : Addr} {us : List Value} {kw : List (Str × Value)} : (A.under (.builtin "type.__call__" ⟨.ref C :: us, kw⟩)).units = A.units + 1 := by
  first | rfl | simp [Around.under, Code.cUnits, Code.frames, Code.isFrame]
theorem Room.make {k : Nat} {A : Around} (r : Room (k + 1) A) (C : Addr) (us : List Value) (kw : List (Str × Value)) : Room k (A.under (.builtin "type.__call__" ⟨.ref C :: us, kw⟩)) :=
  ⟨r.hd, by have := r.dp; rw [make_depth]; omega, by have := r.un; rw [make_units]; omega, by first | exact r.gd | (simpa [Around.under, Code.isGuard, guardIds] using r.gd)⟩
theorem Room.depth {k : Nat} {A : Around} (r : Room k A) : A.depth < recursionLimit := by have := r.dp; omega
theorem Room.units {k : Nat} {A : Around} (r : Room k A) : A.units + 64 < cLine := by have := r.un; omega
theorem Room.units0 {k : Nat} {A : Around} (r : Room k A) : A.units < cLine := by have := r.un; omega

/-! ### argument lists and displays -/
def tNil : TA := fun _ H Q => Q [] H
def tCons (ta : TE) (tr : TA) : TA := fun σ H Q => ta σ H fun x H1 => tr σ H1 fun xs H2 => Q (x :: xs) H2
section
variable {X : Cx} {e : Expr} {es : List Expr} {te : TE} {t : TA} {pos : Pos}
theorem pa_nil : PA X [] tNil := fun _ _ _ _ H Q I h => Calls.spliced_nil ⟨[], H, I, .nil, h⟩
theorem pa_cons (ha : PE X e te) (hr : PA X es t) (hs : starEach (e :: es) X.env = (false, eval e X.env) :: starEach es X.env := by rfl) : PA X (e :: es) (tCons te t) := by
  intro pos pins s σ H Q I h
  rw [hs]
  show wpAny _ _ (spliced ((false, eval e X.env) :: backTo pos (starEach es X.env))) _ _ s
  refine Calls.spliced_cons (thn (ha pins s σ H _ I h) fun u s1 ⟨x, H1, I1, r1, q1⟩ => ?_)
  exact thn (hr pos pins s1 σ H1 _ I1 q1) fun us s2 ⟨xs, H2, I2, r2, q2⟩ => ⟨x :: xs, H2, I2, .cons r1 r2, q2⟩

/-- a tuple, a list of written items -/
def tTup (t : TA) : TE := fun σ H Q => t σ H fun xs H1 => xs.length ≤ sizeLine ∧ ∀ p, H1 p = none → Q (.ref p) (upd H1 p (.tup xs))
def tLst (t : TA) : TE := fun σ H Q => t σ H fun xs H1 => xs.length ≤ sizeLine ∧ ∀ p, H1 p = none → Q (.ref p) (upd H1 p (.lst xs))
theorem pe_tup {x1} (h : PA X es t) : PE X (.Tuple es x1 pos) (tTup t) := by
  intro pins s σ H Q I hq
  refine wpAny_Tuple_spliced (thn (h pos pins s σ H _ I hq) fun us s1 ⟨xs, H1, I1, r, z, q⟩ => ⟨by rw [← r.length]; exact z, ?_⟩)
  have hf : H1 s1.heap.objs.size = none := I1.hok.fresh (Nat.le_refl _)
  refine ⟨.ref s1.heap.objs.size, upd H1 s1.heap.objs.size (.tup xs), I1.laid (t' := s1.toks) (fun b u e => Heap.get?_push_of_some _ e) (Nat.le_refl _) ?_, rfl, q _ hf⟩
  exact ⟨⟨z, _, Heap.get?_push_size _ rfl, rfl⟩, us, r, ⟨_, Heap.get?_push_size _ rfl, rfl, _, rfl⟩⟩
theorem pe_lst (h : PA X es t) : PE X (.List es pos) (tLst t) := by
  intro pins s σ H Q I hq
  refine wpAny_List_spliced (thn (h pos pins s σ H _ I hq) fun us s1 ⟨xs, H1, I1, r, z, q⟩ => ⟨by rw [← r.length]; exact z, ?_⟩)
  have hf : H1 s1.heap.objs.size = none := I1.hok.fresh (Nat.le_refl _)
  refine ⟨.ref s1.heap.objs.size, upd H1 s1.heap.objs.size (.lst xs), I1.laid (t' := s1.toks) (fun b u e => Heap.get?_push_of_some _ e) (Nat.le_refl _) ?_, rfl, q _ hf⟩
  exact ⟨z, us, 0, r, Heap.get?_push_size _ rfl⟩
end

/-! ### what a def promises -/
/-- a def's promise: the bound arguments in the parameters' order, the heap, the wanted end, the wanted exception -/
abbrev Sp := List V → Hp → VK → XK → Prop
/-- how an exception lies behind a call (file 08 gives it): the callers' frames, abstract heap and state ahead of the call, the wish, the exception, the state -/
abbrev CXT := List Env → Hp → Shared → XK → Value → Shared → Prop

/-- the state at a call -/
structure Env0 (P : Program) (w : World) (K : PySem.W.Frag) (mg : Str → Option Value) (base : Heap) (A : Around) (outer : List Env) (s : Shared) (H : Hp) : Prop where
  frames : A.frames = some outer
  mod : Mod K mg base
  bs : ∀ b o, base.get? b = some o → s.heap.get? b = some o ∧ H b = none
  bsz : base.objs.size ≤ s.heap.objs.size
  funs : s.heap.FunFrames base outer
  frf : ∀ b ∈ frs outer, H b = none
  hok : HOk P w H s.heap
  bare : AllBare s.gens
/-- a call's end -/
def CE (outer : List Env) (P : Program) (w : World) (H : Hp) (s : Shared) (Q : VK) (u : Value) (s' : Shared) : Prop :=
  ∃ v H', s'.os = s.os ∧ AllBare s'.gens ∧ Un (frs outer) [] H H' s.heap s'.heap ∧ HOk P w H' s'.heap ∧ RelV v u ∧ Q v H'
def CR (CX : CXT) (outer : List Env) (P : Program) (w : World) (H : Hp) (s : Shared) (Q : VK) (E : XK) (r : Result) (s' : Shared) : Prop :=
  match r with
  | .ok (.ret u) => CE outer P w H s Q u s'
  | .ok _ => False
  | .error e => CX outer H s E e s'
structure FnOk (P : Program) (w : World) (K : PySem.W.Frag) (mg : Str → Option Value) (base : Heap) (CX : CXT) (k : Nat) (f : Addr) (fd : FuncData) (ps : List Str) (sp : Sp) : Prop where
  len : ∀ vs H Q E, sp vs H Q E → vs.length = ps.length
  run : ∀ (A : Around) (outer : List Env) (s : Shared) (H : Hp) (args : Args) (us : List Value) (vs : List V) (Q : VK) (E : XK), Room k A → Env0 P w K mg base A outer s H → BindsTo s fd args (ps.zip us) → Vals vs us → sp vs H Q E →
    codeAny (model P w) A (.call (.ref f) args) (CR CX outer P w H s Q E) s
theorem FnOk.mono {P : Program} {w : World} {K : PySem.W.Frag} {mg : Str → Option Value} {base : Heap} {CX : CXT} {j k : Nat} {f : Addr} {fd : FuncData} {ps : List Str} {sp : Sp} (F : FnOk P w K mg base CX j f fd ps sp) (h : j ≤ k) :
    FnOk P w K mg base CX k f fd ps sp := ⟨F.len, fun A outer s H args us vs Q E hr => F.run A outer s H args us vs Q E (hr.mono h)⟩
theorem Env0.make {P : Program} {w : World} {K : PySem.W.Frag} {mg : Str → Option Value} {base : Heap} {A : Around} {outer : List Env} {s : Shared} {H : Hp} (e : Env0 P w K mg base A outer s H) (C : Addr) (us : List Value) (kw : List (Str × Value)) :
    Env0 P w K mg base (A.under (.builtin "type.__call__" ⟨.ref C :: us, kw⟩)) outer s H := ⟨by first | exact e.frames | (simpa [Around.under, Code.envs, Code.isFrame, pushEnvs] using e.frames), e.mod, e.bs, e.bsz, e.funs, e.frf, e.hok, e.bare⟩
theorem Env0.in1 {P : Program} {w : World} {K : PySem.W.Frag} {mg : Str → Option Value} {base : Heap} {A : Around} {outer : List Env} {s : Shared} {H : Hp} (e : Env0 P w K mg base A outer s H) :
    Env0 P w K mg base A.in1 outer s H := ⟨e.frames, e.mod, e.bs, e.bsz, e.funs, e.frf, e.hok, e.bare⟩

section
variable {X : Cx} {pins : List (Addr × Obj)} {σ : St} {H : Hp} {s s' : Shared}
/-- from a body: what a callee wants -/
theorem Inv.env0 (I : Inv X pins σ H s) : Env0 X.prog X.w X.K X.mg X.base X.A X.stack s H :=
  ⟨I.ok.frames, I.ok.mod, I.bs, Nat.le_trans I.ok.bsz I.sz, I.stack, I.stkFree, I.hok, I.bare⟩
/-- behind a call -/
theorem Inv.after {Q : VK} {u : Value} (I : Inv X pins σ H s) (h : CE X.stack X.prog X.w H s Q u s') : EP X pins σ Q u s' := by
  obtain ⟨v, H', os, bare, un, hok, r, q⟩ := h
  obtain ⟨hh, g, d, t, os'⟩ := s'
  obtain rfl : os' = s.os := os
  exact ⟨v, H', I.call (h' := hh) (g' := g) (d' := d) (t' := t) (ch := []) un hok bare (fun b z => absurd z (by simp)), r, q⟩
end

/-! ### calls -/
/-- f(..): the written arguments, then the defaults dvs; E: what is wanted of an exception -/
def tCall (sp : Sp) (dvs : List V) (E : XK) (t : TA) : TE := fun σ H Q => t σ H fun vs H1 => sp (vs ++ dvs) H1 Q E
/-- o.m(..) of an instance of the class at C -/
def tMeth (C : Addr) (m : Str) (sp : Sp) (dvs : List V) (E : XK) (ta : TE) (t : TA) : TE := fun σ H Q => ta σ H fun x H1 => ∃ a dx fs, x = .ref a ∧ H1 a = some (.ins C dx fs) ∧ fs.lookup m = none ∧
  t σ H1 fun vs H2 => sp (x :: (vs ++ dvs)) H2 Q E
/-- C(..): a new instance and its dict, then __init__ -/
def tMake (C : Addr) (sp : Sp) (dvs : List V) (E : XK) (t : TA) : TE := fun σ H Q => t σ H fun vs H1 => ∀ x dx, H1 x = none → H1 dx = none → dx ≠ x →
  sp (.ref x :: (vs ++ dvs)) (upd (upd H1 dx (.own x)) x (.ins C dx [])) (fun v H2 => v = .non ∧ Q (.ref x) H2) E

/-- how the parameters are bound: us the positional arguments, kw the keywords' values by name, ds the defaults that fill up -/
def Binds (K : PySem.W.Frag) (fd : FuncData) (ps : List Str) (ds : List Value) : Prop :=
  ∀ (s : Shared) (us : List Value), K.In s.heap → (us ++ ds).length = ps.length → BindsTo s fd ⟨us, []⟩ (ps.zip (us ++ ds))
/-- every parameter is given -/
theorem Binds.all {K : PySem.W.Frag} {fd : FuncData} {ps : List Str} (h : ∀ us : List Value, us.length = ps.length → bindArgs fd ⟨us, []⟩ = pure (ps.zip us)) : Binds K fd ps [] := fun s us _ hl => by
  rw [List.append_nil] at hl ⊢
  exact .of_eq (h us hl)

/-- an exception of a callee reaches what this body wants of exceptions -/
def Passes (CX : CXT) (X : Cx) (E : XK) : Prop := ∀ (pins : List (Addr × Obj)) (σ : St) (H : Hp) (s : Shared) (e : Value) (s' : Shared), Inv X pins σ H s → CX X.stack H s E e s' → X.xe e s'

section
variable {X : Cx} {CX : CXT} {k : Nat} {f C : Addr} {fd : FuncData} {ps : List Str} {sp : Sp} {dvs : List V} {ds : List Value} {E : XK} {x m : Str} {p pos apos : Pos} {e o : Expr} {es : List Expr} {ta : TE} {t : TA}

/-- the callee runs -/
theorem run_fn {pins : List (Addr × Obj)} {σ : St} {H : Hp} {s : Shared} {Q : VK} {us : List Value} {vs : List V} (F : FnOk X.prog X.w X.K X.mg X.base CX k f fd ps sp) (hr : Room k X.A) (hb : Binds X.K fd ps ds) (hd : Vals dvs ds) (hx : Passes CX X E)
    (I : Inv X pins σ H s) (r : Vals vs us) (h : sp (vs ++ dvs) H Q E) : wpAny (model X.prog X.w) X.A (call (.ref f) us) (EP X pins σ Q) X.xe s := by
  have r2 : Vals (vs ++ dvs) (us ++ ds) := r.append hd
  have hl : (us ++ ds).length = ps.length := by rw [← r2.length]; exact F.len _ _ _ _ h
  refine wpAny_call (codeAny_mono (F.run X.A X.stack s H ⟨us, []⟩ (us ++ ds) (vs ++ dvs) Q E hr I.env0 (hb s us I.kIn hl) r2 h) fun r s' hq => ?_)
  cases r with
  | error e => exact hx pins σ H s e s' I hq
  | ok fl =>
    cases fl with
    | ret u => exact I.after hq
    | next => exact False.elim hq
    | brk => exact False.elim hq
    | cont => exact False.elim hq

theorem pe_call (F : FnOk X.prog X.w X.K X.mg X.base CX k f fd ps sp) (hr : Room k X.A) (hg : Gl X x) (hm : X.mg x = some (.ref f)) (hk : PySem.W.keepIn X.K (.ref f) = true) (hb : Binds X.K fd ps ds) (hd : Vals dvs ds) (hx : Passes CX X E)
    (ha : PA X (e :: es) t) (hdb : (x == ("__debug__" : Str)) = false := by decide) (he : starEach (e :: es) X.env = (false, eval e X.env) :: starEach es X.env := by rfl) (hpl : (backTo pos (starEach es X.env)).any (·.1) = false := by rfl) :
    PE X (.Call (.Name x p) (e :: es) [] pos) (tCall sp dvs E t) := by
  intro pins s σ H Q I h
  refine wpAny_Call_Name_kw (ld_glob I hg hm ?_ hdb)
  refine PySem.W.callWith_K (h₀ := X.base) I.ok.mod.kin hk (thn (ha pos pins s σ H _ I h) fun us s1 ⟨vs, H1, I1, r, q⟩ => ⟨I1.kIn, ?_⟩) he hpl
  exact run_fn F hr hb hd hx I1 r q
/-- o.m(e, ..) -/
theorem pe_meth {pl : Sem Bool} (he : PE X o ta) (c : Cls X.K C) (hm : Meth X.K C m f) (F : FnOk X.prog X.w X.K X.mg X.base CX k f fd ps sp) (hr : Room k X.A) (hb : Binds X.K fd ps ds) (hd : Vals dvs ds) (hx : Passes CX X E) (ha : PA X (e :: es) t)
    (hst : starEach (e :: es) X.env = (false, eval e X.env) :: starEach es X.env := by rfl) (hpl : (backTo pos (starEach es X.env)).any (·.1) = false := by rfl)
    (ht : eval (.Call (.Attribute o m apos) (e :: es) [] pos) X.env = (do
      let ov ← eval o X.env
      standAt apos.atName
      let (f, first) ← holding [ov] (getMethod ov m pl)
      callWith pos f first (backTo pos (starEach (e :: es) X.env)) (backToKw pos (keywordEach [] X.env))) := by rfl) :
    PE X (.Call (.Attribute o m apos) (e :: es) [] pos) (tMeth C m sp dvs E ta t) := by
  intro pins s σ H Q I h
  refine PySem.W.methodCall_KW (pl := pl) (thn (he pins s σ H _ I h) fun u s1 ⟨x, H1, I1, rx, a, dx, fs, ex, ea, l, q⟩ => ?_) ht
  subst ex
  obtain rfl : u = Value.ref a := rx
  refine getmeth_ok I1 ea c hm l ?_
  refine PySem.W.callWith_K (first := [.ref a]) (h₀ := X.base) I.ok.mod.kin hm.kp (thn (ha pos pins s1 σ H1 _ I1 q) fun us s2 ⟨vs, H2, I2, r, q2⟩ => ⟨I2.kIn, ?_⟩) hst hpl
  exact run_fn (us := .ref a :: us) (vs := .ref a :: vs) F hr hb hd hx I2 (.cons rfl r) q2
/-- o.m() -/
theorem pe_meth0 {pl : Sem Bool} (he : PE X o ta) (c : Cls X.K C) (hm : Meth X.K C m f) (F : FnOk X.prog X.w X.K X.mg X.base CX k f fd ps sp) (hr : Room k X.A) (hb : Binds X.K fd ps ds) (hd : Vals dvs ds) (hx : Passes CX X E)
    (ht : eval (.Call (.Attribute o m apos) [] [] pos) X.env = (do
      let ov ← eval o X.env
      standAt apos.atName
      let (f, first) ← holding [ov] (getMethod ov m pl)
      callWith pos f first (backTo pos (starEach [] X.env)) (backToKw pos (keywordEach [] X.env))) := by rfl) :
    PE X (.Call (.Attribute o m apos) [] [] pos) (tMeth C m sp dvs E ta tNil) := by
  intro pins s σ H Q I h
  refine PySem.W.methodCall_KW (pl := pl) (thn (he pins s σ H _ I h) fun u s1 ⟨x, H1, I1, rx, a, dx, fs, ex, ea, l, q⟩ => ?_) ht
  subst ex
  obtain rfl : u = Value.ref a := rx
  refine getmeth_ok I1 ea c hm l ?_
  exact PySem.W.callWith_K0 (first := [.ref a]) I1.kIn hm.kp (run_fn (us := [.ref a]) (vs := [.ref a]) F hr hb hd hx I1 (.cons rfl .nil) q)

/-- what a class must have to be made -/
structure Mk (K : PySem.W.Frag) (C f : Addr) : Prop where
  makes : PySem.W.makesIn K C = true
  init : PySem.W.findIn K (.ref C) "__init__" = some (some (.ref f))
  fn : PySem.W.isFn K (.ref f) = true
  kp : PySem.W.keepIn K (.ref C) = true

theorem run_make {pins : List (Addr × Obj)} {σ : St} {H : Hp} {s : Shared} {Q : VK} {us : List Value} {vs : List V} (M : Mk X.K C f) (F : FnOk X.prog X.w X.K X.mg X.base CX k f fd ps sp) (hr : Room (k + 1) X.A) (hb : Binds X.K fd ps ds) (hd : Vals dvs ds)
    (hx : Passes CX X E) (I : Inv X pins σ H s) (r : Vals vs us)
    (h : ∀ x dx, H x = none → H dx = none → dx ≠ x → sp (.ref x :: (vs ++ dvs)) (upd (upd H dx (.own x)) x (.ins C dx [])) (fun v H2 => v = .non ∧ Q (.ref x) H2) E) :
    wpAny (model X.prog X.w) X.A (call (.ref C) us) (EP X pins σ Q) X.xe s := by
  have hq := h (s.heap.objs.size + 1) s.heap.objs.size (I.hok.fresh (Nat.le_succ _)) (I.hok.fresh (Nat.le_refl _)) (Nat.ne_of_lt (Nat.lt_succ_self _))
  have I2 := Inv.made (C := C) I
  have r2 : Vals (V.ref (s.heap.objs.size + 1) :: (vs ++ dvs)) (Value.ref (s.heap.objs.size + 1) :: (us ++ ds)) := .cons rfl (r.append hd)
  have hl : (Value.ref (s.heap.objs.size + 1) :: us ++ ds).length = ps.length := by
    have e := r2.length
    rw [F.len _ _ _ _ hq] at e
    exact e.symm
  refine wpAny_call (make_map (f := f) I.kIn M.makes M.init (beq_iff_eq.mp M.fn) (codeAny_mono (F.run _ X.stack _ _ ⟨Value.ref (s.heap.objs.size + 1) :: us, []⟩ (Value.ref (s.heap.objs.size + 1) :: (us ++ ds)) _ _ E (hr.make C us [])
    (I2.env0.make C us []) (hb _ (Value.ref (s.heap.objs.size + 1) :: us) I2.kIn hl) r2 hq) fun r s' hq' => ?_))
  cases r with
  | error e => exact hx pins σ _ _ e s' I2 hq'
  | ok fl =>
    cases fl with
    | ret u =>
      obtain ⟨v, H', I3, rv, ev, q3⟩ := I2.after hq'
      subst ev
      exact ⟨rv, ⟨V.ref (s.heap.objs.size + 1), H', I3, rfl, q3⟩⟩
    | next => exact False.elim hq'
    | brk => exact False.elim hq'
    | cont => exact False.elim hq'
theorem pe_make0 (M : Mk X.K C f) (F : FnOk X.prog X.w X.K X.mg X.base CX k f fd ps sp) (hr : Room (k + 1) X.A) (hg : Gl X x) (hm : X.mg x = some (.ref C)) (hb : Binds X.K fd ps ds) (hd : Vals dvs ds) (hx : Passes CX X E)
    (hdb : (x == ("__debug__" : Str)) = false := by decide) : PE X (.Call (.Name x p) [] [] pos) (tMake C sp dvs E tNil) := by
  intro pins s σ H Q I h
  refine wpAny_Call_Name_kw (ld_glob I hg hm ?_ hdb)
  exact PySem.W.callWith_K0 I.kIn M.kp (run_make (us := []) M F hr hb hd hx I .nil h)
end

/-! ### keywords -/
section
variable {X : Cx} {CX : CXT} {k : Nat} {f C : Addr} {fd : FuncData} {ps ks : List Str} {sp : Sp} {E : XK} {x m : Str} {p pos apos kpos : Pos} {e o : Expr} {es : List Expr} {kws : List Keyword} {te ta : TE} {t tk : TA} {nm : Option Str}
/-- how a call with keywords binds: g puts the positional values us and the keywords' values ws (names ks) in the parameters' order, defaults among them -/
structure KBinds (K : PySem.W.Frag) (fd : FuncData) (ps ks : List Str) (g : List Value → List Value → List Value) (gV : List V → List V → List V) : Prop where
  to : ∀ (s : Shared) (us ws : List Value), K.In s.heap → (g us ws).length = ps.length → BindsTo s fd ⟨us, ks.zip ws⟩ (ps.zip (g us ws))
  rel : ∀ {vs : List V} {us : List Value} {zs : List V} {ws : List Value}, Vals vs us → Vals zs ws → Vals (gV vs zs) (g us ws)
variable {g : List Value → List Value → List Value} {gV : List V → List V → List V}
end

/-! ### a def's body keeps its promise -/
/-- names: the parameters first -/
structure FnScope (N P : List Str) (sc : Scope) : Prop where
  kind : sc.kind = .function
  co : sc.isCoroutine = false
  gen : sc.isGenerator = false
  nd : N.Nodup
  pre : N.take P.length = P
  par : ∀ x ∈ P, sc.names.lookup x = some .local ∨ sc.names.lookup x = some .cell
  nofree : ∀ y ∈ sc.names, y.2 ≠ .free

theorem bindL_out {kindOf : Str → Option NameKind} {x : Str} : ∀ {binds : List (Str × Value)} {m : Str → Option Value}, (∀ v, (x, v) ∉ binds) → bindL kindOf binds m x = m x
  | [], _, _ => rfl
  | (n, v) :: r, m, h => by
    unfold bindL
    rw [bindL_out fun w hw => h w (List.mem_cons_of_mem _ hw)]
    split
    · have : x ≠ n := by rintro rfl; exact h v List.mem_cons_self
      simp [this]
    · rfl
theorem bindC_out {kindOf : Str → Option NameKind} {x : Str} : ∀ {binds : List (Str × Value)} {m : Str → Option Value}, (∀ v, (x, v) ∉ binds) → bindC kindOf binds m x = m x
  | [], _, _ => rfl
  | (n, v) :: r, m, h => by
    unfold bindC
    rw [bindC_out fun w hw => h w (List.mem_cons_of_mem _ hw)]
    split
    · rfl
    · have : x ≠ n := by rintro rfl; exact h v List.mem_cons_self
      simp [this]
theorem bindL_get {kindOf : Str → Option NameKind} {x : Str} {v : Value} : ∀ {P : List Str} {vs : List Value} {i : Nat} {m : Str → Option Value}, P.Nodup → P[i]? = some x → vs[i]? = some v → kindOf x = some .local →
    bindL kindOf (P.zip vs) m x = some v
  | [], _, _, _, _, h, _, _ => by simp at h
  | _ :: _, [], _, _, _, _, h, _ => by simp at h
  | p :: P, w :: vs, 0, m, nd, h1, h2, hk => by
    simp at h1 h2; subst h1; subst h2
    show bindL kindOf ((p, w) :: P.zip vs) m p = _
    unfold bindL
    rw [bindL_out fun v hv => (List.nodup_cons.mp nd).1 (List.of_mem_zip hv).1, if_pos hk]
    simp
  | p :: P, w :: vs, i + 1, m, nd, h1, h2, hk => by
    show bindL kindOf ((p, w) :: P.zip vs) m x = _
    unfold bindL
    exact bindL_get (i := i) (List.nodup_cons.mp nd).2 (by simpa using h1) (by simpa using h2) hk
theorem bindC_get {kindOf : Str → Option NameKind} {x : Str} {v : Value} : ∀ {P : List Str} {vs : List Value} {i : Nat} {m : Str → Option Value}, P.Nodup → P[i]? = some x → vs[i]? = some v → kindOf x ≠ some .local →
    bindC kindOf (P.zip vs) m x = some v
  | [], _, _, _, _, h, _, _ => by simp at h
  | _ :: _, [], _, _, _, _, h, _ => by simp at h
  | p :: P, w :: vs, 0, m, nd, h1, h2, hk => by
    simp at h1 h2; subst h1; subst h2
    show bindC kindOf ((p, w) :: P.zip vs) m p = _
    unfold bindC
    rw [bindC_out fun v hv => (List.nodup_cons.mp nd).1 (List.of_mem_zip hv).1, if_neg hk]
    simp
  | p :: P, w :: vs, i + 1, m, nd, h1, h2, hk => by
    show bindC kindOf ((p, w) :: P.zip vs) m x = _
    unfold bindC
    exact bindC_get (i := i) (List.nodup_cons.mp nd).2 (by simpa using h1) (by simpa using h2) hk

/-- the names' values at the entry -/
def start (N : List Str) (vs : List V) : St := vs.map some ++ List.replicate (N.length - vs.length) none

/-- the context of a def's body, at its entry; an exception leaves the frame, then lies as CX says -/
def cxOf (CX : CXT) (P : Program) (w : World) (K : PySem.W.Frag) (mg : Str → Option Value) (base : Heap) (N : List Str) (qual : Str) (scope : Scope) (f : Addr) (cd : Value) (A : Around) (outer : List Env) (s : Shared) (H : Hp) (E : XK) : Cx where
  prog := P
  w := w
  K := K
  mg := mg
  base := base
  A := A.deeper (envOfC qual scope s.heap.objs.size f cd)
  N := N
  s₀ := s
  H₀ := H
  env := envOfC qual scope s.heap.objs.size f cd
  outer := outer
  stack := envOfC qual scope s.heap.objs.size f cd :: outer
  ex := []
  calm := true
  fn := fun _ => true
  pn := []
  xe := fun e s' => wpAny (model P w) (A.deeper (envOfC qual scope s.heap.objs.size f cd)) (leaving (envOfC qual scope s.heap.objs.size f cd) e) (fun _ s'' => CX outer H s E e s'') (fun e' s'' => CX outer H s E e' s'') s'

theorem cell_has {sc : Scope} {n : Nat} {x : Str} (h : sc.names.lookup x = some .cell) : ∃ c, (cellsFrom n sc.names []).lookup x = some c := by
  have q := PySem.W.cellsFrom_some sc.names n [] (.inl h)
  exact Option.isSome_iff_exists.mp q

theorem inv_start {CX : CXT} {P : Program} {w : World} {K : PySem.W.Frag} {mg : Str → Option Value} {base : Heap} {N ps : List Str} {qual : Str} {scope : Scope} {f : Addr} {cd : Value} {A : Around} {outer : List Env} {s s1 : Shared} {H : Hp} {E : XK} {us : List Value} {vs : List V}
    (S : FnScope N ps scope) (hd : A.handled = none) (e0 : Env0 P w K mg base A outer s H) (hl : vs.length = ps.length) (r : Vals vs us)
    (x : InCallC s s.heap.objs.size (bindL (envOfC qual scope s.heap.objs.size f cd).kindOf (ps.zip us) fun _ => none) (cellsFrom (s.heap.objs.size + 1) scope.names []) (bindC (envOfC qual scope s.heap.objs.size f cd).kindOf (ps.zip us) fun _ => none) s1) :
    Inv (cxOf CX P w K mg base N qual scope f cd A outer s H E) [] (start N vs) H s1 := by
  have hpl : ps.length ≤ N.length := by have := congrArg List.length S.pre; rw [List.length_take] at this; omega
  obtain ⟨h1, tk, rfl, hk⟩ := x.done
  have noA : ∀ b : Addr, b ∉ (cxOf CX P w K mg base N qual scope f cd A outer s H E).ex := fun b z => absurd (show b ∈ ([] : List Addr) from z) (by simp)
  refine ⟨⟨e0.mod, S.kind, rfl, rfl, Nat.le_refl _, fun y z c h1 h2 => ?_, fun y hy => ?_, fun y c _ h => ?_, fun _ => hd, Around.frames_deeper e0.frames, .inr ⟨rfl, rfl⟩, fun b z => absurd z (noA b), e0.bs, e0.bsz, fun b _ _ => noA b, fun b z => absurd z (noA b), e0.funs, e0.frf⟩,
    rfl, e0.bare, Un.kept hk, ⟨_, x.toInCall.ns, fun i y v h1 h2 h3 => ?_⟩, fun y c h => ⟨_, x.cell y c h⟩, e0.hok.fresh (Nat.le_refl _), fun y c h => ?_, fun p hp => absurd (show p ∈ ([] : List (Addr × Obj)) from hp) (by simp), e0.hok.kept hk, ?_⟩
  · exact name_of_addr x.apart (PySem.mem_of_lookup h1) (PySem.mem_of_lookup h2)
  · have hy : scope.names.lookup y = some .cell ∨ scope.names.lookup y = some .free := hy
    rcases hy with hy | hy
    · exact cell_has hy
    · exact absurd rfl (S.nofree _ (PySem.mem_of_lookup hy))
  · exact Nat.le_of_lt (x.above y c (PySem.mem_of_lookup h))
  · have hi : i < vs.length := by
      unfold start at h2
      by_cases hi : i < vs.length
      · exact hi
      · rw [List.getElem?_append_right (by simpa using hi)] at h2
        rw [List.getElem?_replicate] at h2
        split at h2 <;> cases h2
    have ha : vs[i]? = some v := by
      unfold start at h2
      rw [List.getElem?_append_left (by simpa using hi), List.getElem?_map] at h2
      cases e : vs[i]? with
      | none => rw [e] at h2; cases h2
      | some a => rw [e] at h2; cases h2; rfl
    obtain ⟨u, hu, rv⟩ := r.get ha
    have hp : ps[i]? = some y := by
      rw [← S.pre, List.getElem?_take_of_lt (by omega)]; exact h1
    have ndP : ps.Nodup := by rw [← S.pre]; exact S.nd.sublist (List.take_sublist _ _)
    refine ⟨u, rv, ?_⟩
    rcases S.par y (List.mem_of_getElem? hp) with k | k
    · exact .inl ⟨k, bindL_get ndP hp hu k⟩
    · obtain ⟨c, e⟩ := cell_has (n := s.heap.objs.size + 1) k
      refine .inr ⟨.inl k, c, e, ?_⟩
      have q := x.cell y c e
      rw [bindC_get ndP hp hu (by show scope.names.lookup y ≠ _; rw [k]; decide)] at q
      exact q
  · exact e0.hok.fresh (Nat.le_of_lt (x.above y c (PySem.mem_of_lookup h)))
  · unfold start
    show _ = N.length
    rw [List.length_append, List.length_map, List.length_replicate]
    omega

/-- THE RULE: a def (or a method) of the text, by its body. The body's reading t is chosen for each entry; it is run at the parameters' values -/
theorem fn_of {CX : CXT} {P : Program} {w : World} {K : PySem.W.Frag} {mg : Str → Option Value} {base : Heap} {k : Nat} {f : Addr} {name qual : Str} {params : Arguments} {body : List Stmt} {scope : Scope} {dV kV doc pm cdv ct oc : Value} {an od : Option Addr}
    {osl : Array (Option Value)} {N ps : List Str} {sp : Sp} (lk : K.lookup f = some ⟨oc, od, .func (PySem.W.fnOf name qual params body scope dV kV doc pm an cdv ct), osl⟩) (hcd : PySem.W.codeIn K cdv qual = true) (S : FnScope N ps scope)
    (len : ∀ vs H Q E, sp vs H Q E → vs.length = ps.length)
    (hbody : ∀ (A : Around) (outer : List Env) (s : Shared) (H : Hp) (vs : List V) (Q : VK) (E : XK), Room k (A.deeper (envOfC qual scope s.heap.objs.size f cdv)) → sp vs H Q E →
      ∃ t, PSs (cxOf CX P w K mg base N qual scope f cdv A outer s H E) body t ∧ t { nx := fun _ H' => Q .non H', rt := Q } (start N vs) H) :
    FnOk P w K mg base CX (k + 1) f (PySem.W.fnOf name qual params body scope dV kV doc pm an cdv ct) ps sp := by
  refine ⟨len, fun A outer s H args us vs Q E hr e0 hb r hsp => ?_⟩
  have hl := len _ _ _ _ hsp
  have KX : K.In s.heap := e0.mod.kin.keeps fun b o e => (e0.bs b o e).1
  have lim : s.heap.NoLimit := e0.mod.nolimit.keeps fun b o e => (e0.bs b o e).1
  have hkind : ∀ y ∈ ps.zip us, scope.names.lookup y.1 = some .local ∨ (scope.names.lookup y.1 = some .cell ∧ ((cellsFrom (s.heap.objs.size + 1) scope.names []).lookup y.1).isSome = true) := fun ⟨n, v⟩ hy => by
    rcases S.par n (List.of_mem_zip hy).1 with q | q
    · exact .inl q
    · exact .inr ⟨q, PySem.W.cellsFrom_some _ _ _ (.inl q)⟩
  refine codeAny_call_function hr.depth (KX _ _ lk) rfl S.co S.gen rfl (PySem.W.codeRec_of KX hcd) (hb _ _ _ _ ?_)
  refine wpAny_newFunctionEnv_cells S.kind hkind fun env he s1 x => ?_
  subst he
  refine ⟨lim.keeps x.toInCall.keep, codeAny_func ?_⟩
  obtain ⟨t, ht, hq⟩ := hbody A outer s H vs Q E (hr.deeper _) hsp
  have I : Inv (cxOf CX P w K mg base N qual scope f cdv A outer s H E) [] (start N vs) H s1 := inv_start S hr.hd e0 hl r x
  refine wpAny_mono (ht [] s1 (start N vs) H _ I hq) (fun fl s' hs => ?_) fun e s' hs => hs
  have fin : ∀ {σ' : St} {H' : Hp} {v : V} {u : Value}, Inv (cxOf CX P w K mg base N qual scope f cdv A outer s H E) [] σ' H' s' → RelV v u → Q v H' → CE outer P w H s Q u s' :=
    fun {σ' H' v u} J rv q => ⟨v, H', J.os, J.bare, J.base, J.hok, rv, q⟩
  cases fl with
  | ret u =>
    obtain ⟨v, σ', H', J, rv, q⟩ := hs
    exact fin J rv q
  | next =>
    obtain ⟨σ', H', J, q⟩ := hs
    exact fin (v := V.non) (u := Value.none) J rfl q
  | brk =>
    obtain ⟨_, _, _, q⟩ := hs
    exact False.elim q
  | cont =>
    obtain ⟨_, _, _, q⟩ := hs
    exact False.elim q
end L2

namespace L2
open PySem PySem.Spec PyProof.Rows
section
variable {X : Cx} {x : Str} {p pos : Pos} {e : Expr} {es : List Expr} {t : TA} {id T : String} {r : List V → Hp → VK → Prop}

def tCB (r : List V → Hp → VK → Prop) (t : TA) : TE := fun σ H Q => t σ H fun vs H1 => r vs H1 Q
/-- f(e, ..), f a built-in function -/
theorem pe_callB (hc : CallR X (.builtin id) r) (hg : Gl X x) (hm : X.mg x = none) (hv : bootBuiltins x = some (.builtin id)) (ha : PA X (e :: es) t) (hn : x ≠ "__name__" := by decide) (hdb : (x == ("__debug__" : Str)) = false := by decide)
    (he : starEach (e :: es) X.env = (false, eval e X.env) :: starEach es X.env := by rfl) (hpl : (backTo pos (starEach es X.env)).any (·.1) = false := by rfl) : PE X (.Call (.Name x p) (e :: es) [] pos) (tCB r t) := by
  intro pins s σ H Q I h
  refine wpAny_Call_Name_kw (ld_blt I hg hm hv ?_ hn hdb)
  exact PyProof.Rows.callWith_builtin1 (thn (ha pos pins s σ H _ I h) fun us s1 ⟨vs, H1, I1, r1, q1⟩ => hc pins s1 σ H1 vs us Q I1 r1 q1) he hpl
/-- T(e, ..), T a built-in type -/
theorem pe_callTy (hc : CallR X (.type T) r) (hg : Gl X x) (hm : X.mg x = none) (hv : bootBuiltins x = some (.type T)) (ha : PA X (e :: es) t) (hn : x ≠ "__name__" := by decide) (hdb : (x == ("__debug__" : Str)) = false := by decide)
    (he : starEach (e :: es) X.env = (false, eval e X.env) :: starEach es X.env := by rfl) (hpl : (backTo pos (starEach es X.env)).any (·.1) = false := by rfl) : PE X (.Call (.Name x p) (e :: es) [] pos) (tCB r t) := by
  intro pins s σ H Q I h
  refine wpAny_Call_Name_kw (ld_blt I hg hm hv ?_ hn hdb)
  exact PyProof.Rows.callWith_type1 (thn (ha pos pins s σ H _ I h) fun us s1 ⟨vs, H1, I1, r1, q1⟩ => hc pins s1 σ H1 vs us Q I1 r1 q1) he hpl
end
end L2

namespace HT
open PySem PyProof.Rows

section
open PySem.SeqAt
open PySem.AutoSeq1 (wpAny_loadPart')
open PySem.MeetsSeq PySem.MeetsSeq2 PySem.MeetsSeq3

end

section
variable {prog : Program} {w : World} {A : Around} {E : Value → Shared → Prop} {s : Shared}

/-- t + u, t not empty -/
theorem cat_tup {t b : Addr} {vs ws : List Value} {Q : Value → Shared → Prop} (ht : IsTup s.heap t vs.toArray) (hb : IsTup s.heap b ws.toArray) (hv : vs ≠ [])
    (h1 : ws = [] → Q (.ref t) s) (h2 : ws ≠ [] → Q (.ref s.heap.objs.size) { s with heap := s.heap.push { cls := .type "tuple", data := .seq (vs ++ ws).toArray } })
    (hsz : vs.length + ws.length ≤ sizeLine) : wpAny (model prog w) A (binaryOp .Add (.ref t) (.ref b)) Q E s := by
  obtain ⟨⟨cls, dd, data, sl⟩, ho, hc, n, hd⟩ := id ht
  obtain ⟨⟨cls2, dd2, data2, sl2⟩, ho2, hc2, n2, hd2⟩ := id hb
  simp only at hc hd hc2 hd2
  subst hc hd hc2 hd2
  have e : vs.toArray ++ ws.toArray = (vs ++ ws).toArray := by simp
  by_cases hw : ws = []
  · exact concat_meets ⟨_, ho, rfl⟩ ⟨_, ho2, rfl⟩ noFill_tuple_add seq_tuple_add PySem.F.slot_tuple_add PySem.F.entry_tuple_add (PySem.F.args_tuple_add_2 _ _)
      (tuple_addW1 t b vs.toArray ws.toArray n n2 dd dd2 sl sl2 (by simpa using hv) (by simp [hw])) ⟨ho, ho2, h1 hw⟩
  · refine concat_meets ⟨_, ho, rfl⟩ ⟨_, ho2, rfl⟩ noFill_tuple_add seq_tuple_add PySem.F.slot_tuple_add PySem.F.entry_tuple_add (PySem.F.args_tuple_add_2 _ _)
      (tuple_addW2 t b vs.toArray ws.toArray n n2 dd dd2 sl sl2 (by simpa using hv) (by simpa using hw) (by rw [List.size_toArray, List.size_toArray]; exact hsz)) ⟨ho, ho2, ?_⟩
    rw [e]
    exact h2 hw

/-! ### t[a:b], not the whole -/
/-- a slice's bound as a place among n (d where it is left out) -/
def sIx (n d : Nat) : Option Int → Nat
  | none => d
  | some v => if v < 0 then (v + (n : Int)).toNat else min v.toNat n
theorem sIx_none (n d : Nat) : sIx n d none = d := rfl
theorem sIx_nat (n d k : Nat) : sIx n d (some (k : Int)) = min k n := by
  show (if (k : Int) < 0 then ((k : Int) + (n : Int)).toNat else min (k : Int).toNat n) = min k n
  rw [if_neg (by omega), Int.toNat_natCast]
theorem sIx_le (n d : Nat) (hd : d ≤ n) (o : Option Int) : sIx n d o ≤ n := by
  cases o with
  | none => exact hd
  | some v =>
    show (if v < 0 then (v + (n : Int)).toNat else min v.toNat n) ≤ n
    by_cases hv : v < 0
    · rw [if_pos hv]; omega
    · rw [if_neg hv]; exact Nat.min_le_right _ _
end
end HT

namespace L2
open PySem PySem.Spec PyProof.Rows

/-! ### the parts of a slice -/
abbrev TO := St → Hp → (Option Int → Hp → Prop) → Prop
/-- a slice's part (left out, or an int) -/
def PO (X : Cx) (e : Option Expr) (t : TO) : Prop :=
  ∀ (pins : List (Addr × Obj)) (s : Shared) (σ : St) (H : Hp) (Q : Option Int → Hp → Prop), Inv X pins σ H s → t σ H Q →
    wpAny (model X.prog X.w) X.A (evalPart e X.env) (fun u s' => ∃ o H', Inv X pins σ H' s' ∧ IsPart u o ∧ Q o H') X.xe s
def tNoPart : TO := fun _ H Q => Q none H
def tPart (t : TE) : TO := fun σ H Q => t σ H fun x H1 => ∃ i, x = .int i ∧ Q (some i) H1

theorem intsAre_of {ns : List Int} : ∀ {us : List Value}, Vals (ns.map V.int) us → IntsAre us ns := by
  induction ns with
  | nil => intro us r; rw [List.map_nil] at r; cases r; exact .nil
  | cons n ns ih =>
    intro us r
    rw [List.map_cons] at r
    cases r with
    | cons r1 r2 =>
      obtain ⟨t, e⟩ := r1
      subst e
      exact .cons n t (ih r2)

section
variable {X : Cx} {e : Expr} {te : TE} {lo hi : Option Expr} {tl th : TO} {pos p2 : Pos}

theorem po_none : PO X none tNoPart := by
  intro pins s σ H Q I h
  rw [evalPart_none]
  exact wpAny_pure ⟨none, H, I, .none, h⟩
theorem po_some (h : PE X e te) : PO X (some e) (tPart te) := by
  intro pins s σ H Q I hw
  rw [evalPart_some]
  refine thn (h pins s σ H _ I hw) fun u s1 ⟨x, H1, I1, r1, q1⟩ => ?_
  obtain ⟨i, rfl, q⟩ := q1
  obtain ⟨t, rfl⟩ := r1
  exact ⟨some i, H1, I1, .int i t, q⟩

/-- what a slice of a value is, by values: the slice object stands at sl -/
def SlR (X : Cx) (r : V → Option Int → Option Int → Hp → VK → Prop) : Prop :=
  ∀ (pins : List (Addr × Obj)) (s : Shared) (σ : St) (H : Hp) (x : V) (v vl vu : Value) (lo hi : Option Int) (sl : Addr) (Q : VK), Inv X pins σ H s → RelV x v → s.heap.IsSliceOf sl vl vu .none → IsPart vl lo → IsPart vu hi → r x lo hi H Q →
    ∃ T id, typeLookup (.type T) "__getitem__" = pure (some (.builtin id)) ∧ s.TypeIs v T ∧ wpAny (model X.prog X.w) X.A (getItem v (.ref sl)) (EP X pins σ Q) X.xe s
theorem SlR.or {r r' : V → Option Int → Option Int → Hp → VK → Prop} (h : SlR X r) (h' : SlR X r') : SlR X (fun x lo hi H Q => r x lo hi H Q ∨ r' x lo hi H Q) := by
  intro pins s σ H x v vl vu lo hi sl Q I rx hs pl pu q
  rcases q with q | q
  · exact h pins s σ H x v vl vu lo hi sl Q I rx hs pl pu q
  · exact h' pins s σ H x v vl vu lo hi sl Q I rx hs pl pu q
def tSl (r : V → Option Int → Option Int → Hp → VK → Prop) (te : TE) (tl th : TO) : TE := fun σ H Q => te σ H fun x H1 => tl σ H1 fun l H2 => th σ H2 fun u H3 => r x l u H3 Q
/-- a[lo:hi], any a -/
theorem pe_slice {r : V → Option Int → Option Int → Hp → VK → Prop} (hr : SlR X r) (he : PE X e te) (hl : PO X lo tl) (hu : PO X hi th) : PE X (.Subscript e (.Slice lo hi none p2) pos) (tSl r te tl th) := by
  intro pins s σ H Q I h
  refine Subscript_ (thn (he pins s σ H _ I h) fun v s1 ⟨x, H1, I1, r1, q1⟩ => ?_)
  refine wpAny_Slice (thn (hl pins s1 σ H1 _ I1 q1) fun vl s2 ⟨l, H2, I2, pl, q2⟩ => thn (hu pins s2 σ H2 _ I2 q2) fun vu s3 ⟨u, H3, I3, pu, q3⟩ => ?_)
  rw [evalPart_none]
  refine wpAny_pure ?_
  have I4 : Inv X pins σ H3 { s3 with heap := s3.heap.push { cls := .type "slice", data := .fields #[vl, vu, .none] } } := I3.kept (t' := s3.toks) fun b ob q => Heap.get?_push_of_some _ q
  obtain ⟨T, id, hT, ht, hg⟩ := hr pins { s3 with heap := s3.heap.push { cls := .type "slice", data := .fields #[vl, vu, .none] } } σ H3 x v vl vu l u s3.heap.objs.size Q I4 r1 (Heap.IsSliceOf.new ..) pl pu q3
  show wpAny (model X.prog X.w) X.A (subscriptTail e (.Slice lo hi none p2) v (.ref s3.heap.objs.size)) (EP X pins σ Q) X.xe { s3 with heap := s3.heap.push { cls := .type "slice", data := .fields #[vl, vu, .none] } }
  exact tail_any (ops := [.ref s3.heap.objs.size, v]) ht hT hg (by with_unfolding_all rfl)

/-- the items of xs[lo:hi] -/
def cutV (xs : List V) (lo hi : Option Int) : List V := (xs.drop (HT.sIx xs.length 0 lo)).take (HT.sIx xs.length xs.length hi - HT.sIx xs.length 0 lo)
theorem cutV_length (xs : List V) (lo hi : Option Int) : (cutV xs lo hi).length ≤ xs.length := by
  unfold cutV
  rw [List.length_take, List.length_drop]
  omega
/-! ### t < u, t + u -/
/-- t + u, t not empty: u empty gives t itself -/
def rCatT (K : PySem.W.Frag) : R2 := fun x y H Q => ∃ a b xs ys, x = .ref a ∧ y = .ref b ∧ SqT K H a xs ∧ SqT K H b ys ∧ xs ≠ [] ∧ xs.length + ys.length ≤ sizeLine ∧
  (ys = [] → Q (.ref a) H) ∧ (ys ≠ [] → ∀ p, H p = none → Q (.ref p) (upd H p (.tup (xs ++ ys))))
theorem Vals.nil_iff {xs : List V} {us : List Value} (r : Vals xs us) : us = [] ↔ xs = [] := by
  cases r with
  | nil => simp
  | cons _ _ => simp
theorem op_catT : OpR X (binaryOp .Add) (rCatT X.K) := by
  intro pins s σ H x y v u Q I rx ry h
  obtain ⟨a, b, xs, ys, rfl, rfl, ha, hb, hx, hz, q1, q2⟩ := h
  cases rx
  cases ry
  obtain ⟨its, r1, p1, _⟩ := I.tuple ha
  obtain ⟨its2, r2, p2, _⟩ := I.tuple hb
  refine HT.cat_tup p1 p2 (fun z => hx (r1.nil_iff.mp z)) (fun z => ⟨.ref a, H, I, rfl, q1 (r2.nil_iff.mp z)⟩) (fun z => ?_) (by rw [← r1.length, ← r2.length]; exact hz)
  refine ⟨.ref s.heap.objs.size, _, I.laid (t' := s.toks) (o := .tup (xs ++ ys)) (fun b ob q => Heap.get?_push_of_some _ q) (Nat.le_refl _) ?_, rfl, q2 (fun w => z (r2.nil_iff.mpr w)) _ (I.hok.fresh (Nat.le_refl _))⟩
  exact ⟨⟨by rw [List.length_append]; exact hz, _, Heap.get?_push_size _ rfl, rfl⟩, _, r1.append r2, IsTup.new _ _⟩
end
end L2

namespace L2
open PySem PySem.Spec PyProof.Rows

/-! ### places -/
/-- the place that an index of any sign means -/
def ixN (n : Nat) (i : Int) : Option Nat := if 0 ≤ i then (if i < n then some i.toNat else none) else if -(n : Int) ≤ i then some (i + n).toNat else none
def atI {α : Type} (xs : List α) (i : Int) : Option α := (ixN xs.length i).bind fun j => xs[j]?
theorem ixN_seq {n : Nat} {i : Int} {j : Nat} (h : ixN n i = some j) : seqIndex? i n = some j ∧ j < n ∧ -(n : Int) ≤ i ∧ i < n := by
  unfold ixN at h
  by_cases h0 : 0 ≤ i
  · rw [if_pos h0] at h
    by_cases h1 : i < n
    · rw [if_pos h1] at h
      have e : i.toNat = j := Option.some.inj h
      exact ⟨by rw [seqIndex_of h0 h1, e], by omega, by omega, h1⟩
    · rw [if_neg h1] at h; cases h
  · rw [if_neg h0] at h
    by_cases h1 : -(n : Int) ≤ i
    · rw [if_pos h1] at h
      have e : (i + n).toNat = j := Option.some.inj h
      exact ⟨by rw [seqIndex_neg (by omega) h1, e], by omega, h1, by omega⟩
    · rw [if_neg h1] at h; cases h
theorem atI_get {α : Type} {xs : List α} {i : Int} {v : α} (h : atI xs i = some v) : ∃ j, seqIndex? i xs.length = some j ∧ xs[j]? = some v ∧ j < xs.length ∧ -(xs.length : Int) ≤ i ∧ i < xs.length := by
  unfold atI at h
  cases e : ixN xs.length i with
  | none => rw [e] at h; cases h
  | some j =>
    rw [e] at h
    obtain ⟨h1, h2, h3, h4⟩ := ixN_seq e
    exact ⟨j, h1, h, h2, h3, h4⟩
theorem atI_nat {α : Type} {xs : List α} {j : Nat} {v : α} (h : xs[j]? = some v) : atI xs (j : Int) = some v := by
  have hj : j < xs.length := (List.getElem?_eq_some_iff.mp h).1
  have e : ixN xs.length (j : Int) = some j := by
    unfold ixN
    rw [if_pos (by omega), if_pos (by omega)]; simp
  unfold atI; rw [e]; exact h
theorem atI_last {α : Type} (xs : List α) (v : α) : atI (xs ++ [v]) (-1) = some v := by
  have hl : (xs ++ [v]).length = xs.length + 1 := by simp
  have e : ixN (xs ++ [v]).length (-1) = some xs.length := by
    unfold ixN
    rw [hl, if_neg (by decide), if_pos (by omega)]
    congr 1
    omega
  unfold atI
  rw [e]
  show (xs ++ [v])[xs.length]? = some v
  simp

/-! ### what may be subscripted -/
/-- what stands as an index of a plain subscript -/
def PlainIx (b : Expr) : Prop := ∀ o i, subscripted b false o i = operate [o, i] (getItem o i)
/-- a subscript by values -/
def IxR (X : Cx) (r : R2) : Prop :=
  ∀ (value slice : Expr) (pins : List (Addr × Obj)) (s : Shared) (σ : St) (H : Hp) (x y : V) (v u : Value) (Q : VK), Inv X pins σ H s → RelV x v → RelV y u → r x y H Q →
    subscripted slice false v u = operate [v, u] (getItem v u) → wpAny (model X.prog X.w) X.A (subscriptTail value slice v u) (EP X pins σ Q) X.xe s
/-- a call of a builtin's method by values: the receiver, the arguments -/
def MtR (X : Cx) (id : String) (r : V → List V → Hp → VK → Prop) : Prop :=
  ∀ (pins : List (Addr × Obj)) (s : Shared) (σ : St) (H : Hp) (x : V) (xs : List V) (v : Value) (us : List Value) (Q : VK), Inv X pins σ H s → RelV x v → Vals xs us → r x xs H Q →
    wpAny (model X.prog X.w) X.A (call (.builtin id) (v :: us)) (EP X pins σ Q) X.xe s
section
variable {X : Cx} {a b : Expr} {ta tb : TE} {pos : Pos}
theorem IxR.or {r r' : R2} (h : IxR X r) (h' : IxR X r') : IxR X (fun x y H Q => r x y H Q ∨ r' x y H Q) := by
  intro value slice pins s σ H x y v u Q I rx ry q hs
  rcases q with q | q
  · exact h value slice pins s σ H x y v u Q I rx ry q hs
  · exact h' value slice pins s σ H x y v u Q I rx ry q hs
theorem MtR.or {id : String} {r r' : V → List V → Hp → VK → Prop} (h : MtR X id r) (h' : MtR X id r') : MtR X id (fun x xs H Q => r x xs H Q ∨ r' x xs H Q) := by
  intro pins s σ H x xs v us Q I rx rs q
  rcases q with q | q
  · exact h pins s σ H x xs v us Q I rx rs q
  · exact h' pins s σ H x xs v us Q I rx rs q
/-- a[b] -/
theorem pe_ix {r : R2} (hr : IxR X r) (ha : PE X a ta) (hb : PE X b tb) (hs : PlainIx b) : PE X (.Subscript a b pos) (tOp r ta tb) := by
  intro pins s σ H Q I h
  exact Subscript_ (binT ha hb I h fun v u s2 x y H2 I2 rx ry q => hr a b pins s2 σ H2 x y v u Q I2 rx ry q (hs _ _))

def rIxL (K : PySem.W.Frag) : R2 := fun x y H Q => ∃ p xs i v, x = .ref p ∧ y = .int i ∧ SqL K H p xs ∧ atI xs i = some v ∧ Q v H
def rIxT (K : PySem.W.Frag) : R2 := fun x y H Q => ∃ p xs i v, x = .ref p ∧ y = .int i ∧ SqT K H p xs ∧ atI xs i = some v ∧ Q v H
def rIxS : R2 := fun x y H Q => ∃ z i c, x = .str z ∧ y = .int i ∧ z.length ≤ sizeLine ∧ atI z.cps.toList i = some c ∧ Q (.str ⟨#[c]⟩) H
theorem ix_list : IxR X (rIxL X.K) := by
  intro value slice pins s σ H x y v u Q I rx ry h hs
  obtain ⟨p, xs, i, z, rfl, rfl, hq, he, q⟩ := h
  cases rx
  obtain ⟨t, rfl⟩ := ry
  obtain ⟨its, r, pl, hz⟩ := I.list hq
  obtain ⟨j, h1, h2, h3, h4, h5⟩ := atI_get he
  obtain ⟨w, ew, rw'⟩ := r.get h2
  have hl := r.length
  have hn := line63
  have fin : EP X pins σ Q w s := ⟨z, H, I, rw', q⟩
  by_cases h0 : 0 ≤ i
  · have hj : i.toNat = j := by
      rw [seqIndex_of h0 h5] at h1
      exact Option.some.inj h1
    exact item_listR pl.isList h0 (by omega) (by rw [hj]; simpa using ew) fin hs
  · have hj : (i + (its.toArray.size : Int)).toNat = j := by
      rw [seqIndex_neg (by omega) h4] at h1
      rw [List.size_toArray, ← hl]
      exact Option.some.inj h1
    exact subscriptTail_builtinR (x := w) pl.isList.typeIs slot_list_getitem.lookup
      (wpAny_getItem_list_neg (Q := fun r s' => r = w ∧ EP X pins σ Q r s') pl.isList (by omega) (by rw [List.size_toArray] <;> omega) (by omega) (by rw [hj]; simpa using ew) ⟨rfl, fin⟩) hs
theorem ix_tup : IxR X (rIxT X.K) := by
  intro value slice pins s σ H x y v u Q I rx ry h hs
  obtain ⟨p, xs, i, z, rfl, rfl, hq, he, q⟩ := h
  cases rx
  obtain ⟨t, rfl⟩ := ry
  obtain ⟨its, r, pl, hz⟩ := I.tuple hq
  obtain ⟨j, h1, h2, h3, h4, h5⟩ := atI_get he
  obtain ⟨w, ew, rw'⟩ := r.get h2
  have hl := r.length
  have hn := line63
  have fin : EP X pins σ Q w s := ⟨z, H, I, rw', q⟩
  exact subscriptTail_builtinR (x := w) pl.typeIs slot_tuple_getitem.lookup
    (getItem_tuple (j := j) (Q := fun r s' => r = w ∧ EP X pins σ Q r s') pl (by omega) (by omega) (by rw [List.size_toArray, ← hl]; exact h1) (by simpa using ew) ⟨rfl, fin⟩) hs
theorem ix_str : IxR X rIxS := by
  intro value slice pins s σ H x y v u Q I rx ry h hs
  obtain ⟨z, i, c, rfl, rfl, hz, he, q⟩ := h
  obtain ⟨t, rfl⟩ := rx
  obtain ⟨t', rfl⟩ := ry
  obtain ⟨j, h1, h2, h3, h4, h5⟩ := atI_get he
  have hl : z.cps.toList.length = z.length := by simp [Str.length]
  rw [hl] at h1 h4 h5
  have hn := line63
  exact tail_any (typeIs_str s z t) slot_str_getitem.lookup (getItem_str (c := c) (by
    have e1 : decide (i < -(2 ^ 63 : Int)) = false := decide_eq_false (by omega)
    have e2 : decide (i ≥ 2 ^ 63) = false := decide_eq_false (by omega)
    rw [e1, e2, Bool.or_false]) (by rw [h1]; simpa using h2) ⟨.str ⟨#[c]⟩, H, I.tok _, ⟨_, rfl⟩, q⟩) hs
/-! ### xs[i] = v, any sign -/
/-- the list's object behind a store -/
theorem mapSeq_set (its : List Value) (n j : Nat) (u : Value) : Obj.mapSeq (·.setIfInBounds j u) { cls := .type "list", data := .seq its.toArray n } = { cls := .type "list", data := .seq (its.set j u).toArray n } := by
  simp [Obj.mapSeq]
theorem Inv.lst {pins : List (Addr × Obj)} {σ : St} {H : Hp} {s : Shared} {p : Addr} {xs : List V} (I : Inv X pins σ H s) (h : H p = some (.lst xs)) :
    ∃ (its : List Value) (n : Nat), Vals xs its ∧ s.heap.get? p = some { cls := .type "list", data := .seq its.toArray n } ∧ xs.length ≤ sizeLine := by
  obtain ⟨z, its, n, r, e⟩ := I.hok p _ h
  exact ⟨its, n, r, e, z⟩
/-- the list at p is written by an update of its object -/
theorem Inv.lstUpd {pins : List (Addr × Obj)} {σ : St} {H : Hp} {s : Shared} {p : Addr} {xs ys : List V} {its its' : List Value} {n n' : Nat} {f : Obj → Obj} (I : Inv X pins σ H s) (h : H p = some (.lst xs))
    (ho : s.heap.get? p = some { cls := .type "list", data := .seq its.toArray n }) (hf : f { cls := .type "list", data := .seq its.toArray n } = { cls := .type "list", data := .seq its'.toArray n' }) (r : Vals ys its') (hz : ys.length ≤ sizeLine) (t : Nat) :
    Inv X pins σ (upd H p (.lst ys)) { s with heap := s.heap.update p f, toks := t } := by
  have e : (s.heap.update p f).get? p = some { cls := .type "list", data := .seq its'.toArray n' } := by
    rw [Heap.get?_update_self f ho (by rw [hf] <;> rfl), hf]
  refine I.write (x := p) (e := p) (by rw [h]; trivial) (.inl rfl) (fun b u hb q => (Heap.get?_update_other _ _ (Ne.symm hb)).trans q) ⟨_, e⟩ ?_
  exact ⟨hz, its', n', r, e⟩
def rSetL : V → V → V → Hp → (Hp → Prop) → Prop := fun o i v H Q => ∃ p xs k j, o = .ref p ∧ i = .int k ∧ H p = some (.lst xs) ∧ ixN xs.length k = some j ∧ Q (upd H p (.lst (xs.set j v)))
theorem set_list : PSet X rSetL := by
  intro pins s σ H o i v ov iv u Q I ro ri rv h
  obtain ⟨p, xs, k, j, rfl, rfl, hp, hj, q⟩ := h
  cases ro
  obtain ⟨t, rfl⟩ := ri
  obtain ⟨its, n, r, ho, hz⟩ := I.lst hp
  obtain ⟨h1, h2, h3, h4⟩ := ixN_seq hj
  have hl := r.length
  have hn := line63
  have I' : Inv X pins σ (upd H p (.lst (xs.set j v))) { s with heap := s.heap.update p (Obj.mapSeq (·.setIfInBounds j u)) } :=
    I.lstUpd hp ho (mapSeq_set its n j u) (r.set rv j) (by rw [List.length_set]; exact hz) s.toks
  by_cases h0 : 0 ≤ k
  · have hk : k.toNat = j := by
      rw [seqIndex_of h0 h4] at h1
      exact Option.some.inj h1
    exact PySem.W.ki_setAt ho h0 (by omega) (by rw [List.size_toArray, ← hl]; exact h4) (by rw [hk]; exact ⟨_, I', q⟩)
  · have hk : (k + (its.toArray.size : Int)).toNat = j := by
      rw [seqIndex_neg (by omega) h3] at h1
      rw [List.size_toArray, ← hl]
      exact Option.some.inj h1
    exact PySem.W.ki_setBack ho (by omega) (by rw [List.size_toArray, ← hl]; exact h3) (by omega) (by rw [hk]; exact ⟨_, I', q⟩)

/-! ### slices -/
theorem slice_bounds (lo hi : Option Int) (n : Nat) : (sliceBounds lo hi none n).1 = ((HT.sIx n 0 lo : Nat) : Int) ∧ (sliceBounds lo hi none n).2.1 = ((HT.sIx n n hi : Nat) : Int) ∧ (sliceBounds lo hi none n).2.2 = 1 := by
  refine ⟨?_, ?_, rfl⟩
  · cases lo with
    | none => simp [sliceBounds, HT.sIx]
    | some i =>
      simp only [sliceBounds, HT.sIx, Option.getD_none, show (1 : Int) > 0 by decide, if_true]
      by_cases h : i < 0
      · simp only [h, if_true] <;> omega
      · simp only [h, if_false] <;> omega
  · cases hi with
    | none => simp [sliceBounds, HT.sIx]
    | some i =>
      simp only [sliceBounds, HT.sIx, Option.getD_none, show (1 : Int) > 0 by decide, if_true]
      by_cases h : i < 0
      · simp only [h, if_true] <;> omega
      · simp only [h, if_false] <;> omega
theorem slicePick_cut (its : List Value) (lo hi : Option Int) : slicePick its.toArray lo hi none = ((its.drop (HT.sIx its.length 0 lo)).take (HT.sIx its.length its.length hi - HT.sIx its.length 0 lo)).toArray := by
  obtain ⟨h1, h2, h3⟩ := slice_bounds lo hi its.toArray.size
  unfold slicePick
  rw [h1, h2, h3]
  simp only [sliceRange_one, pick_run, List.size_toArray] <;> rfl
/-- xs[lo:hi] of a list: a new list -/
def rSlL (K : PySem.W.Frag) : V → Option Int → Option Int → Hp → VK → Prop := fun x lo hi H Q => ∃ a xs, x = .ref a ∧ SqL K H a xs ∧ ∀ p, H p = none → Q (.ref p) (upd H p (.lst (cutV xs lo hi)))
theorem sl_list : SlR X (rSlL X.K) := by
  intro pins s σ H x v vl vu lo hi sl Q I rx hs pl pu h
  obtain ⟨a, xs, rfl, hx, q⟩ := h
  cases rx
  obtain ⟨its, r, ht, hz⟩ := I.list hx
  have hlen := r.length
  refine ⟨"list", _, slot_list_getitem.lookup, ht.isList.typeIs, ?_⟩
  refine wpAny_getItem_list_slice ht.isList hs pl pu .none (by simp) ?_ (by rw [List.size_toArray] <;> omega)
  rw [slicePick_cut, ← hlen]
  refine ⟨.ref s.heap.objs.size, _, I.laid (t' := s.toks) (o := .lst (cutV xs lo hi)) (fun b ob q => Heap.get?_push_of_some _ q) (Nat.le_refl _) ?_, rfl, q _ (I.hok.fresh (Nat.le_refl _))⟩
  exact ⟨Nat.le_trans (cutV_length xs lo hi) hz, _, 0, (r.drop (HT.sIx xs.length 0 lo)).take (HT.sIx xs.length xs.length hi - HT.sIx xs.length 0 lo), Heap.get?_push_size _ rfl⟩

/-! ### in, not in: flat items -/
def flatV : V → Bool
  | .non => true
  | .bl _ => true
  | .int _ => true
  | .str _ => true
  | _ => false
/-- == of flat values -/
def eqV : V → V → Bool
  | .non, .non => true
  | .bl a, .bl b => a == b
  | .bl a, .int b => (if a then 1 else 0) == b
  | .int a, .bl b => a == (if b then 1 else 0)
  | .int a, .int b => a == b
  | .str a, .str b => a == b
  | _, _ => false
theorem eqAt_V {A : Around} {s : Shared} {y x : V} {u v : Value} (ry : RelV y u) (rx : RelV x v) (fy : flatV y = true) (fx : flatV x = true) : SeqAt.EqAt A s u v (eqV y x) := by
  cases y with
  | non =>
    cases ry
    cases x with
    | non => cases rx; exact SeqAt.EqAt.same _
    | bl b => cases rx; exact SeqAt.EqAt.none_bool b
    | int b => obtain ⟨t, rfl⟩ := rx; exact SeqAt.EqAt.none_int b t
    | str b => obtain ⟨t, rfl⟩ := rx; exact SeqAt.EqAt.none_str b t
    | _ => exact absurd (show false = true from fx) Bool.false_ne_true
  | bl a =>
    cases ry
    cases x with
    | non => cases rx; exact SeqAt.EqAt.bool_none a
    | bl b => cases rx; exact SeqAt.EqAt.bool_bool a b
    | int b => obtain ⟨t, rfl⟩ := rx; exact SeqAt.EqAt.bool_int a b t
    | str b => obtain ⟨t, rfl⟩ := rx; exact SeqAt.EqAt.bool_str a b t
    | _ => exact absurd (show false = true from fx) Bool.false_ne_true
  | int a =>
    obtain ⟨t', rfl⟩ := ry
    cases x with
    | non => cases rx; exact SeqAt.EqAt.int_none a t'
    | bl b => cases rx; exact SeqAt.EqAt.int_bool a t' b
    | int b => obtain ⟨t, rfl⟩ := rx; exact SeqAt.EqAt.int_int a t' b t
    | str b => obtain ⟨t, rfl⟩ := rx; exact SeqAt.EqAt.int_str a t' b t
    | _ => exact absurd (show false = true from fx) Bool.false_ne_true
  | str a =>
    obtain ⟨t', rfl⟩ := ry
    cases x with
    | non => cases rx; exact SeqAt.EqAt.str_none a t'
    | bl b => cases rx; exact SeqAt.EqAt.str_bool a t' b
    | int b => obtain ⟨t, rfl⟩ := rx; exact SeqAt.EqAt.str_int a t' b t
    | str b => obtain ⟨t, rfl⟩ := rx; exact SeqAt.EqAt.str_str a t' b t
    | _ => exact absurd (show false = true from fx) Bool.false_ne_true
  | _ => exact absurd (show false = true from fy) Bool.false_ne_true
/-- the items' answers, read off the values (a value's own answer does not lean on its token) -/
def eqU (x : V) (u : Value) : Bool := match u with
  | .none => eqV .non x
  | .bool b => eqV (.bl b) x
  | .int i _ => eqV (.int i) x
  | .str z _ => eqV (.str z) x
  | _ => false
theorem eqU_of {x y : V} {u : Value} (r : RelV y u) (f : flatV y = true) : eqU x u = eqV y x := by
  cases y with
  | non => cases r; rfl
  | bl b => cases r; rfl
  | int i => obtain ⟨t, rfl⟩ := r; rfl
  | str z => obtain ⟨t, rfl⟩ := r; rfl
  | _ => exact absurd (show false = true from f) Bool.false_ne_true
theorem any_eqU {x : V} : ∀ {xs : List V} {us : List Value}, Vals xs us → xs.all flatV = true → us.any (eqU x) = xs.any fun y => eqV y x
  | _, _, .nil, _ => rfl
  | y :: xs, u :: us, .cons r t, f => by
    rw [List.all_cons, Bool.and_eq_true] at f
    rw [List.any_cons, List.any_cons, eqU_of r f.1, any_eqU t f.2]
theorem mem_eqAt {A : Around} {s : Shared} {x : V} {v : Value} (rx : RelV x v) (fx : flatV x = true) : ∀ {xs : List V} {us : List Value}, Vals xs us → xs.all flatV = true → ∀ u ∈ us, SeqAt.EqAt A s u v (eqU x u)
  | _, _, .nil, _ => fun u hu => by cases hu
  | y :: xs, u :: us, .cons r t, f => fun u' hu => by
    rw [List.all_cons, Bool.and_eq_true] at f
    rcases List.mem_cons.mp hu with rfl | hu
    · rw [eqU_of r f.1]; exact eqAt_V r rx f.1 fx
    · exact mem_eqAt rx fx t f.2 u' hu
def inV (x : V) (xs : List V) : Bool := xs.any fun y => eqV y x
/-- x in a list or tuple of flat items -/
def rIn (K : PySem.W.Frag) (neg : Bool) : R2 := fun x y H Q => ∃ p xs, y = .ref p ∧ (SqL K H p xs ∨ SqT K H p xs) ∧ flatV x = true ∧ xs.all flatV = true ∧ Q (.bl (if neg then !inV x xs else inV x xs)) H
theorem op_notIn_seq : OpR X (compareOp .NotIn) (rIn X.K true) := by
  intro pins s σ H x y v u Q I rx ry h
  obtain ⟨p, xs, rfl, hq, fx, fs, q⟩ := h
  cases ry
  rcases hq with hq | hq
  · obtain ⟨its, r, pl, hz⟩ := I.list hq
    refine SeqAt.notIn_listAt (eqU x) pl.isList (fun w hw => mem_eqAt rx fx r fs w (by simpa using hw)) ⟨.bl _, H, I, rfl, ?_⟩
    rw [show its.toArray.any (eqU x) = its.any (eqU x) by simp, any_eqU r fs]
    exact q
  · obtain ⟨its, r, pl, hz⟩ := I.tuple hq
    refine SeqAt.notIn_tupleAt (eqU x) pl (fun w hw => mem_eqAt rx fx r fs w (by simpa using hw)) ⟨.bl _, H, I, rfl, ?_⟩
    rw [show its.toArray.any (eqU x) = its.any (eqU x) by simp, any_eqU r fs]
    exact q
/-! ### len, list(x), tuple(x) of any list or tuple that is read -/
theorem call_len_seq : CallR X (.builtin "len") (fun xs H Q => ∃ p ys, xs = [.ref p] ∧ (SqL X.K H p ys ∨ SqT X.K H p ys) ∧ Q (.int ys.length) H) := by
  intro pins s σ H xs us Q I r h
  obtain ⟨p, ys, rfl, hq, q⟩ := h
  obtain ⟨u, rfl, rx⟩ := vals1 r
  cases rx
  have hn := line63
  rcases hq with hq | hq
  · obtain ⟨its, r', pl, hz⟩ := I.list hq
    have hlen := r'.length
    exact Calls.call_len_list pl.isList (by simp only [List.size_toArray] <;> omega) ⟨.int ys.length, H, I.tok _, ⟨s.toks + 1, by rw [List.size_toArray, hlen]⟩, q⟩
  · obtain ⟨its, r', pl, hz⟩ := I.tuple hq
    have hlen := r'.length
    exact len_tuple pl (by simp only [List.size_toArray] <;> omega) ⟨.int ys.length, H, I.tok _, ⟨s.toks + 1, by rw [List.size_toArray, hlen]⟩, q⟩
theorem call_len_str : CallR X (.builtin "len") (fun xs H Q => ∃ z, xs = [.str z] ∧ z.length ≤ sizeLine ∧ Q (.int z.length) H) := by
  intro pins s σ H xs us Q I r h
  obtain ⟨z, rfl, hz, q⟩ := h
  obtain ⟨u, rfl, t, rfl⟩ := vals1 r
  have hn := line63
  exact len_str (by omega) ⟨.int z.length, H, I.tok _, ⟨_, rfl⟩, q⟩
theorem CallR.or {f : Value} {r r' : List V → Hp → VK → Prop} (h : CallR X f r) (h' : CallR X f r') : CallR X f (fun xs H Q => r xs H Q ∨ r' xs H Q) := by
  intro pins s σ H xs us Q I rs q
  rcases q with q | q
  · exact h pins s σ H xs us Q I rs q
  · exact h' pins s σ H xs us Q I rs q
theorem call_tuple_of : CallR X (.type "tuple") (fun xs H Q => ∃ p ys, xs = [.ref p] ∧ ((SqL X.K H p ys ∧ ∀ l, H l = none → Q (.ref l) (upd H l (.tup ys))) ∨ (SqT X.K H p ys ∧ Q (.ref p) H))) := by
  intro pins s σ H xs us Q I r h
  obtain ⟨p, ys, rfl, h⟩ := h
  obtain ⟨u, rfl, rx⟩ := vals1 r
  cases rx
  rcases h with ⟨hq, q⟩ | ⟨hq, q⟩
  · obtain ⟨its, r', pl, hz⟩ := I.list hq
    have hlen := r'.length
    refine call_tuple_list pl.isList (fun h' kp => ?_) (by simp only [List.size_toArray] <;> omega)
    have I1 : Inv X pins σ H { s with heap := h' } := I.kept (t' := s.toks) kp
    have I2 : Inv X pins σ (upd H h'.objs.size (.tup ys)) { s with heap := h'.push { cls := .type "tuple", data := .seq its.toArray } } :=
      I1.laid (t' := s.toks) (fun b o e => Heap.get?_push_of_some _ e) (Nat.le_refl _) (show ObjOk X.prog X.w _ _ _ (.tup ys) from ⟨⟨hz, _, Heap.get?_push_size _ rfl, rfl⟩, its, r', IsTup.new _ _⟩)
    exact ⟨.ref h'.objs.size, _, I2, rfl, q _ (I1.hok.fresh (Nat.le_refl _))⟩
  · obtain ⟨its, r', pl, hz⟩ := I.tuple hq
    exact call_tuple_same pl ⟨.ref p, H, I, rfl, q⟩

/-! ### the call of a builtin's method: o.m(..) -/
/-- the value is of that builtin type -/
def tyV (K : PySem.W.Frag) (T : String) (x : V) (H : Hp) : Prop := match x with
  | .str _ => T = "str"
  | .int _ => T = "int"
  | .ref p => (T = "list" ∧ ∃ xs, SqL K H p xs) ∨ (T = "tuple" ∧ ∃ o, K.lookup p = some o ∧ o.cls = .type "tuple" ∧ o.dict = none) ∨
      (T = "dict" ∧ ((∃ kvs, H p = some (.dK kvs)) ∨ ∃ kvs, H p = some (.dT kvs))) ∨ (T = "set" ∧ ∃ S n, H p = some (.set S n))
  | _ => False
theorem tyV_is {pins : List (Addr × Obj)} {σ : St} {H : Hp} {s : Shared} {T : String} {x : V} {v : Value} (I : Inv X pins σ H s) (r : RelV x v) (ty : tyV X.K T x H) :
    s.TypeIs v T ∧ ∀ a, v = .ref a → ∃ ob, s.heap.get? a = some ob ∧ ob.dict = none := by
  cases x with
  | str z =>
    obtain ⟨t, rfl⟩ := r
    cases (show T = "str" from ty)
    exact ⟨typeIs_str s z t, fun _ e => nomatch e⟩
  | int i =>
    obtain ⟨t, rfl⟩ := r
    cases (show T = "int" from ty)
    exact ⟨typeIs_int s i t, fun _ e => nomatch e⟩
  | ref p =>
    cases r
    rcases ty with ⟨rfl, xs, hq⟩ | ⟨rfl, o, hk, hc, hd⟩ | ⟨rfl, hk⟩ | ⟨rfl, S, n, hk⟩
    · obtain ⟨its, _, pl, _⟩ := I.list hq
      refine ⟨pl.isList.typeIs, fun a e => ?_⟩
      cases e
      obtain ⟨o, n, e, c, hd, _⟩ := pl
      exact ⟨o, e, hd⟩
    · refine ⟨⟨o, I.kIn p o hk, hc⟩, fun a e => ?_⟩
      cases e
      exact ⟨o, I.kIn _ o hk, hd⟩
    · have z : ∃ o, s.heap.get? p = some o ∧ o.ExactDict := by
        rcases hk with ⟨kvs, hk⟩ | ⟨kvs, hk⟩
        · obtain ⟨_, _, _, _, o, _, _, e, ex, _⟩ := I.hok p _ hk
          exact ⟨o, e, ex⟩
        · obtain ⟨_, _, _, _, o, _, _, e, ex, _⟩ := I.hok p _ hk
          exact ⟨o, e, ex⟩
      obtain ⟨o, e, ex⟩ := z
      refine ⟨⟨o, e, ex.1⟩, fun a e2 => ?_⟩
      cases e2
      exact ⟨o, e, ex.2.1⟩
    · obtain ⟨o, _, _, _, e, ex, _⟩ := I.hok p _ hk
      refine ⟨⟨o, e, ex.1⟩, fun a e2 => ?_⟩
      cases e2
      exact ⟨o, e, ex.2.1⟩
  | _ => exact False.elim ty
def tBM0 (K : PySem.W.Frag) (T : String) (r : V → List V → Hp → VK → Prop) (to : TE) : TE := fun σ H Q => to σ H fun x H1 => tyV K T x H1 ∧ r x [] H1 Q
def tBM (K : PySem.W.Frag) (T : String) (r : V → List V → Hp → VK → Prop) (to : TE) (t : TA) : TE := fun σ H Q => to σ H fun x H1 => tyV K T x H1 ∧ t σ H1 fun xs H2 => r x xs H2 Q
variable {o e : Expr} {es : List Expr} {to : TE} {t : TA} {name : Str} {apos cpos : Pos} {T id : String} {r : V → List V → Hp → VK → Prop}
theorem pe_bm0 (pa : PlainAttrs T) (slot : Slot T name id) (hty : typeOf (.builtin id) = pure (.type "method_descriptor")) (hm : MtR X id r) (ho : PE X o to)
    (hbase : attributeBase o name X.env (eval o X.env) = eval o X.env := by rfl) (hline : (apos.endLine == cpos.line) = true := by rfl) : PE X (.Call (.Attribute o name apos) [] [] cpos) (tBM0 X.K T r to) := by
  intro pins s σ H Q I h
  refine wpAny_Call_method0_late hbase hline (thn (ho pins s σ H _ I h) fun v s1 ⟨x, H1, I1, r1, ty, q1⟩ => ?_)
  obtain ⟨h1, h2⟩ := tyV_is I1 r1 ty
  exact ⟨T, id, pa, slot, hty, h1, h2, Calls.callWith_builtin rfl (PySem.evalArgs_none (hm pins s1 σ H1 x [] v [] Q I1 r1 .nil q1))⟩
theorem pe_bm (pa : PlainAttrs T) (slot : Slot T name id) (hty : typeOf (.builtin id) = pure (.type "method_descriptor")) (hm : MtR X id r) (ho : PE X o to) (ha : PA X (e :: es) t)
    (hbase : attributeBase o name X.env (eval o X.env) = eval o X.env := by rfl)
    (hfew : ((backTo cpos (starEach (e :: es) X.env)).all (fun x => !x.1) && (backToKw cpos (keywordEach [] X.env)).all (fun x => x.1.isSome)
      && decide ((e :: es).length + ([] : List Keyword).length + (if ([] : List Keyword).isEmpty then 0 else 1) < 30)) = true := by rfl)
    (hline : (apos.endLine == cpos.line) = true := by rfl) (hs : starEach (e :: es) X.env = (false, eval e X.env) :: starEach es X.env := by rfl) (hplain : (backTo cpos (starEach es X.env)).any (·.1) = false := by rfl) :
    PE X (.Call (.Attribute o name apos) (e :: es) [] cpos) (tBM X.K T r to t) := by
  intro pins s σ H Q I h
  refine wpAny_Call_method_late hbase hfew hline rfl (thn (ho pins s σ H _ I h) fun v s1 ⟨x, H1, I1, r1, ty, q1⟩ => ?_)
  obtain ⟨h1, h2⟩ := tyV_is I1 r1 ty
  refine ⟨T, id, pa, slot, hty, h1, h2, ?_⟩
  have hA := ha cpos pins s1 σ H1 _ I1 q1
  rw [hs] at hA ⊢
  refine Calls.callWith_builtin (by show (false || (backTo cpos (starEach es X.env)).any (·.1)) = false; rw [hplain] <;> rfl) (Calls.evalArgs_plain ?_)
  exact thn hA fun us s2 ⟨vs, H2, I2, r2, q2⟩ => hm pins s2 σ H2 x vs v us Q I2 r1 r2 q2
/- xs.append(e), list.index on a module's tuple .. are MtR facts of 06m -/
end
end L2

namespace L2
open PySem PySem.Spec PyProof.Rows

def MtM (X : Cx) (id : String) (r : V → List V → Hp → VK → Prop) : Prop :=
  ∀ (pins : List (Addr × Obj)) (s : Shared) (σ : St) (H : Hp) (x : V) (xs : List V) (v : Value) (us : List Value) (Q : VK), Inv X pins σ H s → RelV x v → Vals xs us → r x xs H Q →
    wpAny (model X.prog X.w) X.A (call (.builtin id) (v :: us)) (EP X pins σ Q) X.xe s

/-! ### lists of values -/
theorem Vals.one : ∀ {x : V} {us : List Value}, Vals [x] us → ∃ u, us = [u] ∧ RelV x u
  | _, _, .cons r .nil => ⟨_, rfl, r⟩
theorem Vals.two : ∀ {x y : V} {us : List Value}, Vals [x, y] us → ∃ u v, us = [u, v] ∧ RelV x u ∧ RelV y v
  | _, _, _, .cons r (.cons q .nil) => ⟨_, _, rfl, r, q⟩
theorem Vals.zero : ∀ {us : List Value}, Vals [] us → us = []
  | _, .nil => rfl
theorem Vals.dropLast {xs : List V} {us : List Value} (h : Vals xs us) : Vals xs.dropLast us.dropLast := by
  induction h with
  | nil => exact .nil
  | cons r t ih =>
    cases t with
    | nil => exact .nil
    | cons q t' => exact .cons r ih
theorem Vals.eraseIdx : ∀ {xs : List V} {us : List Value} (i : Nat), Vals xs us → Vals (xs.eraseIdx i) (us.eraseIdx i)
  | _, _, _, .nil => .nil
  | _, _, 0, .cons _ t => t
  | _, _, i + 1, .cons r t => .cons r (Vals.eraseIdx i t)
theorem Vals.reverse {xs : List V} {us : List Value} (h : Vals xs us) : Vals xs.reverse us.reverse := by
  induction h with
  | nil => exact .nil
  | cons r t ih => rw [List.reverse_cons, List.reverse_cons]; exact Vals.append ih (.cons r .nil)
theorem Vals.rep {xs : List V} {us : List Value} (h : Vals xs us) : ∀ k : Nat, Vals (List.replicate k xs).flatten (List.replicate k us).flatten
  | 0 => .nil
  | k + 1 => by
    rw [List.replicate_succ, List.replicate_succ, List.flatten_cons, List.flatten_cons]
    exact Vals.append h (Vals.rep h k)
theorem erase_last {α : Type} (l : List α) : l.eraseIdx (l.length - 1) = l.dropLast := by
  induction l with
  | nil => rfl
  | cons a r ih =>
    cases r with
    | nil => rfl
    | cons b r =>
      have e : (a :: b :: r).length - 1 = ((b :: r).length - 1) + 1 := by
        have h1 : (a :: b :: r).length = r.length + 2 := rfl
        have h2 : (b :: r).length = r.length + 1 := rfl
        omega
      rw [e, List.eraseIdx_cons_succ, ih]
      all_goals rfl
theorem foldl_rep (its : List Value) : ∀ (k : Nat) (acc : List Value),
    List.foldl (fun x1 x2 => x1 ++ x2) acc.toArray (List.replicate k its.toArray) = (acc ++ (List.replicate k its).flatten).toArray
  | 0, acc => by simp
  | k + 1, acc => by
    have e : acc.toArray ++ its.toArray = (acc ++ its).toArray := by simp
    have e2 : (acc ++ its) ++ (List.replicate k its).flatten = acc ++ (List.replicate (k + 1) its).flatten := by
      rw [List.replicate_succ, List.flatten_cons, List.append_assoc]
    rw [← e2, ← foldl_rep its k (acc ++ its), ← e, List.replicate_succ, List.foldl_cons]

section
variable {X : Cx} {pins : List (Addr × Obj)} {σ : St} {H : Hp} {s : Shared} {l b : Addr} {xs ys zs : List V}

/-! ### the two steps: a tracked list is rewritten, a new list is laid -/
theorem Inv.lset {its its' : List Value} {n : Nat} {f : Array Value → Array Value} {t' : Nat} (I : Inv X pins σ H s) (hH : H l = some (.lst xs))
    (e : s.heap.get? l = some { cls := .type "list", data := .seq its.toArray n }) (hf : f its.toArray = its'.toArray) (hv : Vals ys its') (hz : ys.length ≤ sizeLine) :
    Inv X pins σ (upd H l (.lst ys)) { s with heap := s.heap.update l (Obj.mapSeq f), toks := t' } := by
  have q := PySem.IsL.update e f
  rw [hf] at q
  refine I.write (x := l) (e := l) (by rw [hH]; exact trivial) (.inl rfl) (fun b' u hb hu => (Heap.get?_update_other s.heap (Obj.mapSeq f) (Ne.symm hb)).trans hu) ⟨_, q⟩ ?_
  exact ⟨hz, its', _, hv, q⟩
theorem Inv.lnew {its : List Value} {t' : Nat} (I : Inv X pins σ H s) (hv : Vals ys its) (hz : ys.length ≤ sizeLine) :
    Inv X pins σ (upd H s.heap.objs.size (.lst ys)) { s with heap := s.heap.push { cls := .type "list", data := .seq its.toArray }, toks := t' } :=
  I.laid (fun _ _ q => Heap.get?_push_of_some _ q) (Nat.le_refl _) ⟨hz, its, 0, hv, Heap.get?_push_size _ rfl⟩
theorem Inv.fresh (I : Inv X pins σ H s) : H s.heap.objs.size = none := I.hok.fresh (Nat.le_refl _)
theorem Inv.lstM (I : Inv X pins σ H s) (hH : H l = some (.lst xs)) : xs.length ≤ sizeLine ∧ ∃ (its : List Value) (n : Nat), Vals xs its ∧ xs.length = its.length ∧ s.heap.get? l = some { cls := .type "list", data := .seq its.toArray n } := by
  obtain ⟨z, its, n, r, e⟩ := I.hok l _ hH
  exact ⟨z, its, n, r, r.length, e⟩

theorem notLongL {n : Nat} (h : n ≤ sizeLine) : Builtin.List.listTooLong n = false := by
  unfold Builtin.List.listTooLong
  exact decide_eq_false (by omega)
end

section
variable {X : Cx}

/-! ### methods -/
def rAppend : V → List V → Hp → VK → Prop := fun x vs H Q => ∃ l xs y, x = .ref l ∧ vs = [y] ∧ H l = some (.lst xs) ∧ xs.length < sizeLine ∧ Q .non (upd H l (.lst (xs ++ [y])))
theorem mt_append : MtM X "list.append" rAppend := by
  intro pins s σ H x vs v us Q I rx rv h
  obtain ⟨l, xs, y, rfl, rfl, hH, hz, q⟩ := h
  cases rx
  obtain ⟨u, rfl, ru⟩ := rv.one
  obtain ⟨z, its, n, r, hl, e⟩ := I.lstM hH
  refine call_meets F.slot_list_append ⟨_, e, rfl⟩ F.entry_list_append (F.args_list_append_2 _ _) (PySem.list_append l its.toArray n u (by rw [List.size_toArray]; omega)) ⟨e, ?_⟩
  refine ⟨.non, _, I.lset (its' := its ++ [u]) hH e (by simp) (r.append (.cons ru .nil)) ?_, rfl, q⟩
  rw [List.length_append, List.length_singleton]
  omega

def rExtend : V → List V → Hp → VK → Prop := fun x vs H Q => ∃ l b xs zs, x = .ref l ∧ vs = [.ref b] ∧ H l = some (.lst xs) ∧ H b = some (.lst zs) ∧ xs.length + zs.length ≤ sizeLine ∧ Q .non (upd H l (.lst (xs ++ zs)))
theorem mt_extend : MtM X "list.extend" rExtend := by
  intro pins s σ H x vs v us Q I rx rv h
  obtain ⟨l, b, xs, zs, rfl, rfl, hH, hB, hz, q⟩ := h
  cases rx
  obtain ⟨u, rfl, ru⟩ := rv.one
  cases ru
  obtain ⟨z, its, n, r, hl, e⟩ := I.lstM hH
  obtain ⟨z2, its2, n2, r2, hl2, e2⟩ := I.lstM hB
  have hsz : its.toArray.size + its2.toArray.size ≤ sizeLine := by rw [List.size_toArray, List.size_toArray]; omega
  have hlong : ¬ (!its.toArray.isEmpty && Builtin.List.listTooLong (its.toArray.size + its2.toArray.size)) = true := by
    rw [notLongL hsz, Bool.and_false]
    exact Bool.false_ne_true
  refine call_meets F.slot_list_extend ⟨_, e, rfl⟩ F.entry_list_extend (F.args_list_extend_2 _ _)
    (AutoSeq1.list_extend_list_list_0 l its.toArray n b its2.toArray n2 hlong (by rw [List.size_toArray]; omega) (by omega)) ⟨e, e2, ?_⟩
  refine ⟨.non, _, I.lset (its' := its ++ its2) hH e (by simp) (r.append r2) ?_, rfl, q⟩
  rw [List.length_append]
  omega

def rPop : V → List V → Hp → VK → Prop := fun x vs H Q => ∃ l xs y, x = .ref l ∧ vs = [] ∧ H l = some (.lst xs) ∧ xs[xs.length - 1]? = some y ∧ Q y (upd H l (.lst xs.dropLast))
theorem mt_pop : MtM X "list.pop" rPop := by
  intro pins s σ H x vs v us Q I rx rv h
  obtain ⟨l, xs, y, rfl, rfl, hH, hy, q⟩ := h
  cases rx
  have hus := rv.zero
  subst hus
  obtain ⟨z, its, n, r, hl, e⟩ := I.lstM hH
  obtain ⟨u, hu, ru⟩ := r.get hy
  have hy' : its.toArray[its.toArray.size - 1]? = some u := by
    show its.toArray[its.length - 1]? = some u
    rw [← Array.getElem?_toList, ← hl]
    exact hu
  refine call_meets F.slot_list_pop ⟨_, e, rfl⟩ F.entry_list_pop (F.args_list_pop_1 _) (MeetsSeq.list_pop_last l its.toArray n u hy' (by rw [List.size_toArray]; omega)) ⟨e, ?_⟩
  refine ⟨y, _, I.lset (its' := its.dropLast) hH e ?_ r.dropLast ?_, ru, q⟩
  · show its.toArray.eraseIdxIfInBounds (its.toArray.size - 1) = its.dropLast.toArray
    rw [List.size_toArray, List.eraseIdxIfInBounds_toArray, erase_last]
  · rw [List.length_dropLast]
    omega

/-! ### list + list, list += list, list * int -/
def rCat : R2 := fun x y H Q => ∃ l b xs zs, x = .ref l ∧ y = .ref b ∧ H l = some (.lst xs) ∧ H b = some (.lst zs) ∧ xs.length + zs.length ≤ sizeLine ∧ ∀ p, H p = none → Q (.ref p) (upd H p (.lst (xs ++ zs)))
theorem op_cat : OpR X (binaryOp .Add) rCat := by
  intro pins s σ H x y v u Q I rx ry h
  obtain ⟨l, b, xs, zs, rfl, rfl, hH, hB, hz, q⟩ := h
  cases rx
  cases ry
  obtain ⟨z, its, n, r, hl, e⟩ := I.lstM hH
  obtain ⟨z2, its2, n2, r2, hl2, e2⟩ := I.lstM hB
  refine PySem.P.add_list e e2 ?_ (by rw [List.size_toArray, List.size_toArray]; omega)
  have ea : its.toArray ++ its2.toArray = (its ++ its2).toArray := by simp
  rw [ea]
  exact ⟨.ref _, _, I.lnew (t' := s.toks) (r.append r2) (by rw [List.length_append]; omega), rfl, q _ I.fresh⟩
/-- a list times an int (a negative one is nothing) -/
def rRep : R2 := fun x y H Q => ∃ l k xs, x = .ref l ∧ y = .int k ∧ H l = some (.lst xs) ∧ -(2 ^ 63) ≤ k ∧ k < 2 ^ 63 ∧ xs.length * k.toNat ≤ sizeLine ∧
  ∀ p, H p = none → Q (.ref p) (upd H p (.lst (List.replicate k.toNat xs).flatten))
theorem len_rep {α : Type} (xs : List α) (k : Nat) : (List.replicate k xs).flatten.length = k * xs.length := by
  induction k with
  | zero => simp
  | succ k ih => rw [List.replicate_succ, List.flatten_cons, List.length_append, ih, Nat.succ_mul, Nat.add_comm]
theorem op_rep : OpR X (binaryOp .Mult) rRep := by
  intro pins s σ H x y v u Q I rx ry h
  obtain ⟨l, k, xs, rfl, rfl, hH, h1, h2, hz, q⟩ := h
  cases rx
  obtain ⟨t, rfl⟩ := ry
  obtain ⟨z, its, n, r, hl, e⟩ := I.lstM hH
  have hlen : its.toArray.size * k.toNat ≤ sizeLine := by rw [List.size_toArray, ← hl]; exact hz
  have hcap : ¬ its.toArray.size * k.toNat > (2 ^ 63 - 1) / 8 := by
    have : (sizeLine : Nat) ≤ (2 ^ 63 - 1) / 8 := by decide
    omega
  have hfit : ¬ (!Builtin.List.listFitsIndex k) = true := by
    rw [fitsIndex_both h1 h2]
    exact Bool.false_ne_true
  have hlong : ¬ Builtin.List.listTooLong (its.toArray.size * k.toNat) = true := by
    rw [notLongL hlen]
    exact Bool.false_ne_true
  have hnew : List.foldl (fun x1 x2 => x1 ++ x2) #[] (List.replicate (if its.toArray.isEmpty = true then 0 else k.toNat) its.toArray) = (List.replicate k.toNat its).flatten.toArray := by
    have f0 : ∀ m : Nat, List.foldl (fun x1 x2 => x1 ++ x2) #[] (List.replicate m its.toArray) = (List.replicate m its).flatten.toArray := fun m => by
      have := foldl_rep its m []
      rw [List.nil_append] at this
      exact this
    rw [f0]
    cases its with
    | nil => simp
    | cons a r' => rw [if_neg (by simp)]
  refine wpAny_binaryOp_repeat_ref (T := "list") (U := "int") (by decide) ⟨_, e, rfl⟩ (fun s' => typeIs_int s' k t) noFill_list_mul F.fills_int_mul F.slot_int_rmul repeat_list F.slot_int_index.lookup
    (call_meets F.slot_int_rmul (typeIs_int s k t) F.entry_int_rmul (F.args_int_rmul_2 _ _) (int___rmul___int_list k t l its.toArray n)
      ⟨e, rfl, ⟨_, e, rfl⟩, call_meets F.slot_list_mul ⟨_, e, rfl⟩ F.entry_list_mul (F.args_list_mul_2 _ _) (AutoListH.list___mul___list_int_3 l its.toArray n k t hfit hcap hlong) ⟨e, ?_⟩⟩)
  rw [hnew]
  exact ⟨.ref _, _, I.lnew (t' := s.toks) (r.rep k.toNat) (by rw [len_rep, Nat.mul_comm]; exact hz), rfl, q _ I.fresh⟩

/-! ### del xs[i] -/
end

/-! ### xs[a:b] = ys -/
section
variable {prog : Program} {w : World} {A : Around} {E : Value → Shared → Prop} {s : Shared}
end

section
variable {X : Cx}
end
end L2

namespace Att
open PySem PySem.W PySem.Calls PyProof.Rows

/-! ### the script -/
theorem ints_of_wellAll {P : Params} {h : Heap} : ∀ (ns : List Int) (vs : List Value), WellAll P h vs (ns.map WData.int) → IntsAre vs ns := by
  intro ns
  induction ns with
  | nil =>
    intro vs w
    rw [List.map_nil] at w
    cases w
    exact .nil
  | cons n ns ih =>
    intro vs w
    rw [List.map_cons] at w
    cases w with
    | cons a b =>
      cases a
      exact .cons _ _ (ih _ b)

theorem script_of {l : OpenLaw} {n : Nat} (hn : l.most = some n) {P : Params} {h : Heap} {args : List WData} {vals : List Value}
    (hpre : l.row.toRowW.claim.pre args = true) (hwl : WellAll P h vals args) :
    ∃ a vs ns, vals = [Value.ref a] ∧ args = [WData.list (ns.map WData.int)] ∧ h.get? a = some { cls := .type "list", data := .seq vs.toArray } ∧ IntsAre vs ns ∧ ns.length ≤ n := by
  have hsh : WShape.hasAll [] args [.list .int] = true := (pre_splitW hpre).1
  have hc : l.pre.holds [] { args := args } = true := (pre_splitW hpre).2
  obtain ⟨d, r, rfl, h1, h2⟩ := hasAllW_cons hsh
  obtain rfl := hasAllW_nil h2
  obtain ⟨xs, rfl, h3⟩ := hasW_list h1
  obtain ⟨ns, rfl⟩ := items_int h3
  have hlen : ns.length ≤ n := by
    unfold OpenLaw.pre at hc
    have h4 : (WTm.not (.lt (.lit (.int (n : Int))) (.len (.arg 0)))).holds [] { args := [.list (ns.map .int)] } = true := by
      have h4 := (holds_andW hc).1
      rw [hn] at h4
      exact h4
    have h5 := condW_of h4 (w_not (w_lt w_lit (w_len_list (w_arg rfl))))
    rw [List.length_map] at h5
    refine Nat.le_of_not_lt fun q => ?_
    have q' : (n : Int) < ((ns.length : Nat) : Int) := by omega
    first
      | (rw [decide_eq_true q'] at h5; exact absurd h5 (by decide))
      | (simp at h5; omega)
  cases hwl with
  | cons w1 w2 =>
    cases w2
    cases w1 with
    | list ho hall => exact ⟨_, _, ns, rfl, rfl, ho, ints_of_wellAll ns _ hall, hlen⟩

theorem post_true (l : OpenLaw) (args : List WData) : l.row.toRowW.claim.post args (.bool true) args = true :=
  postW_of (r := l.row.toRowW) (X := (true == true))
    (show WShape.has [] (.bool true) .bool = true by first | rfl | decide | simp [WShape.has, WShape.arms, WShape.armsAll])
    (show (WTm.eq .res (.lit (.bool true))).value [] { args := args, res := some (.bool true), after := args } = some (.bool (true == true)) from w_eq_bool (w_res rfl) w_lit) rfl

/-! ### the attachment: holds_open's last premise (the goal 'hc' behind k_head) from a wpAny of the law's body -/
/-- the same from a codeAny of the CALL (for a layer whose function contracts speak of calls) -/
theorem attach_call {l : OpenLaw} {n : Nat} {q : Program} {loose : List Str} {XP : (Str → Option Value) → Heap → Prop} {YP : World → Heap → Prop} {d : DefRec}
    (hn : l.most = some n) (hdf : d.params.defaults = [])
    (call : ∀ (w : World) (s₀ s₁ : Shared) (mg mb : Str → Option Value) (fa : Addr) (o : Obj) (pm cd doc : Value) (a : Addr) (vs : List Value) (ns : List Int),
      Ground q loose [] XP w s₀ mg mb s₁.heap → YP w s₁.heap →
      s₁.heap.get? fa = some o → o.data = .func (docDef d.name d.params d.body d.scope pm cd doc) → s₁.heap.CodeRec cd d.name → mg d.name = some (.ref fa) →
      s₁.heap.get? a = some { cls := .type "list", data := .seq vs.toArray } → IntsAre vs ns → ns.length ≤ n → s₁.gens = #[] →
      codeAny (model l.prog w) callerA (.call (.ref fa) ⟨[.ref a], []⟩) (fun r s' => r = .ok (.ret (.bool true)) ∧ OldK s₁.heap s'.heap ∧ s'.os = s₁.os ∧ AllBare s'.gens) s₁) :
    WalkO q loose XP YP l.row.toRowW d [] (fun f vs => PySem.call f vs) := by
  intro w s₀ s₁ mg mb G Y fa o pm cd doc dV kV ho hd hcd hD hmg hg args vals as hpre hlay hrd hwl hlo
  obtain rfl : dV = .none := Dflts.none hD hdf
  obtain rfl : kV = .none := Dflts.noKw hD
  obtain ⟨a, vs, ns, rfl, rfl, hobj, hints, hlen⟩ := script_of hn hpre hwl
  refine enter_call (codeAny_mono (call w s₀ s₁ mg mb fa o pm cd doc a vs ns G Y ho (fd_plain hd) hcd hmg hobj hints hlen hg) fun r s' hq => ?_)
  obtain ⟨rfl, h2, h3, h4⟩ := hq
  exact ⟨.inl ⟨.bool true, .bool true, [], rfl, fun _ => rfl, .bool true, post_true l _, fun _ => ⟨List.Pairwise.nil, fun _ hm => (nomatch hm)⟩⟩, h2, h3, h4⟩

/-! ### rules over ANY heap (no ledger) from facts about the written part K: the library's own take a ledger (News) for what they write -/
section
variable {prog : Program} {w : World} {A : Around} {E : Value → Shared → Prop} {s : Shared} {K : Frag}

/-! the whole heap as the ledger: makes every rule that writes through a ledger a rule over any heap -/
def ledger (h : Heap) (L d : Addr) : List (Addr × Obj) := (List.range h.objs.size).filterMap fun a => if a = L ∨ a = d then none else (h.get? a).map fun o => (a, o)
end
end Att

namespace L2
open PySem PySem.Spec PyProof.Rows

theorem vals_ints : ∀ {vs : List Value} {ns : List Int}, IntsAre vs ns → Vals (ns.map V.int) vs
  | _, _, .nil => .nil
  | _, _, .cons n t h => .cons ⟨t, rfl⟩ (vals_ints h)

/-- nothing is tracked but the script, known to the object (or it is an object of the module) -/
def Only (H : Hp) : Prop := ∀ b, H b = none ∨ ∃ o xs, H b = some (.frz o (.lst xs))

/-- THE HEAD: the law's promise, at the heap behind the top. F, the promise of the law's def, may use that base is part of the heap (so K.In base, base.Ns mainGlobals mg stand in Mod) -/
theorem law_call {P : Program} {w : World} {K : PySem.W.Frag} {mg mb : Str → Option Value} {CX : CXT} {k : Nat} {fa a : Addr} {fd : FuncData} {x : Str} {sp : Sp} {s₁ : Shared} {vs : List Value} {ns : List Int}
    (KX : K.In s₁.heap) (hns : s₁.heap.Ns mainGlobals mg) (hb : s₁.heap.Ns builtinsNs mb) (hbb : ∀ x : Str, x ≠ "__name__" → mb x = bootBuiltins x) (hlim : s₁.heap.NoLimit) (hg : s₁.gens = #[])
    (ha : s₁.heap.get? a = some { cls := .type "list", data := .seq vs.toArray }) (hi : IntsAre vs ns) (hl : ns.length ≤ sizeLine) (hr : Room k callerA)
    (F : ∀ base : Heap, K.In base → base.Ns mainGlobals mg → FnOk P w K mg base CX k fa fd [x] sp) (hbind : ∀ (s : Shared) (u : Value), BindsTo s fd ⟨[u], []⟩ [(x, u)])
    (hsp : ∀ H : Hp, Only H → SqL K H a (ns.map V.int) → sp [.ref a] H (fun v _ => v = .bl true) fun _ _ _ => False)
    (hCX : ∀ H e s', CX [] H s₁ (fun _ _ _ => False) e s' → False) :
    codeAny (model P w) callerA (.call (.ref fa) ⟨[.ref a], []⟩) (fun r s' => r = .ok (.ret (.bool true)) ∧ OldK s₁.heap s'.heap ∧ s'.os = s₁.os ∧ AllBare s'.gens) s₁ := by
  have rv := vals_ints hi
  have lenV := hi.length
  -- from an abstract heap in which nothing but the script may be tracked
  have core : ∀ H : Hp, Only H → SqL K H a (ns.map V.int) → HOk P w H s₁.heap → (∀ b, H b ≠ none → b = a) → (H a ≠ none → K.lookup a = none) →
      codeAny (model P w) callerA (.call (.ref fa) ⟨[.ref a], []⟩) (fun r s' => r = .ok (.ret (.bool true)) ∧ OldK s₁.heap s'.heap ∧ s'.os = s₁.os ∧ AllBare s'.gens) s₁ := by
    intro H hO hS hok hA hK
    have base_of : ∀ {b : Addr} {o : Obj}, s₁.heap.get? b = some o → H b = none → (hidT s₁.heap H).get? b = some o := fun e n => hidT_get e n
    have noA : ∀ {b : Addr} {o : Obj} {es : Array DictEntry} {ep : Nat}, s₁.heap.get? b = some o → o.data = .dict es ep → H b = none := fun {b o es ep} e d => by
      cases q : H b with
      | none => rfl
      | some u =>
        have e' : b = a := hA b (by rw [q]; simp)
        subst e'
        rw [ha] at e; cases e
        have d' : Data.seq vs.toArray _ = Data.dict es ep := d
        cases d'
    have nsK : ∀ {b : Addr} {m : Str → Option Value}, s₁.heap.Ns b m → (hidT s₁.heap H).Ns b m := fun {b m} ⟨o, es, ep, e, d, r⟩ => ⟨o, es, ep, base_of e (noA e d), d, r⟩
    have hKb : K.In (hidT s₁.heap H) := fun b o e => base_of (KX b o e) (by
      cases q : H b with
      | none => rfl
      | some u =>
        have e' : b = a := hA b (by rw [q]; simp)
        subst e'
        rw [hK (by rw [q]; simp)] at e; cases e)
    have hM : Mod K mg (hidT s₁.heap H) := ⟨hKb, nsK hns, ⟨mb, nsK hb, hbb⟩, let ⟨mc, h1, h2⟩ := hlim; ⟨mc, nsK h1, h2⟩⟩
    have e0 : Env0 P w K mg (hidT s₁.heap H) callerA [] s₁ H := ⟨rfl, hM, fun b o e => of_hidT e, Nat.le_of_eq (hidT_size _ _), trivial, fun b hb => absurd (show b ∈ ([] : List Addr) from hb) (by simp), hok, .of_eq hg⟩
    refine codeAny_mono ((F _ hKb (nsK hns)).run callerA [] s₁ H ⟨[.ref a], []⟩ [.ref a] [.ref a] _ _ hr e0 (hbind s₁ (.ref a)) (.cons rfl .nil) (hsp H hO hS)) fun r s' h => ?_
    cases r with
    | error e => exact (hCX H e s' h).elim
    | ok fl =>
      cases fl with
      | next => exact False.elim h
      | brk => exact False.elim h
      | cont => exact False.elim h
      | ret u =>
        obtain ⟨v, H', os, bare, un, hok', r', q⟩ := h
        have q' : v = .bl true := q
        subst q'
        obtain rfl : u = Value.bool true := r'
        refine ⟨rfl, OldK.of_keep fun b o e => ?_, os, bare⟩
        cases q : H b with
        | none => exact un.keep b o e q (by intro z; exact absurd (show b ∈ ([] : List Addr) from z) (by simp)) (by simp)
        | some u =>
          rcases hO b with z | ⟨ob, xs, z⟩
          · rw [q] at z; cases z
          · have z2 := un.frzs b ob _ z
            obtain ⟨e1, _⟩ := hok b _ z
            obtain ⟨e2, _⟩ := hok' b _ z2
            rw [e] at e1; cases e1
            exact e2
  cases hk : K.lookup a with
  | some o =>
    -- the script is one of the module's own objects
    have e := KX a o hk
    rw [ha] at e
    cases e
    refine core (fun _ => none) (fun _ => .inl rfl) (.inr ⟨_, vs.toArray, _, hk, rfl, rfl, rfl, by rw [List.size_toArray, lenV]; exact hl, by simpa using rv⟩) (fun b u z => by have z' : (none : Option HO) = some u := z; cases z') (fun b z => absurd rfl z) fun z => absurd rfl z
  | none =>
    refine core (fun b => if b = a then some (.frz { cls := .type "list", data := .seq vs.toArray } (.lst (ns.map V.int))) else none) (fun b => ?_) (.inl (.inr ⟨{ cls := .type "list", data := .seq vs.toArray }, if_pos rfl⟩)) (fun b u z => ?_) (fun b z => ?_) fun _ => hk
    · by_cases hb : b = a
      · exact .inr ⟨_, _, if_pos hb⟩
      · exact .inl (if_neg hb)
    · by_cases hb : b = a
      · have z' := (if_pos hb).symm.trans z
        cases z'
        subst hb
        exact ⟨ha, by rw [List.length_map]; exact hl, vs, _, rv, ha⟩
      · have z' := (if_neg hb).symm.trans z
        cases z'
    · by_cases hb : b = a
      · exact hb
      · exact absurd (if_neg hb) z
end L2

namespace L2
open PySem PySem.Spec PyProof.Rows

abbrev KOf {K : PySem.W.Frag} {h : Heap} (_ : K.In h) : PySem.W.Frag := K

/-- the goal that k_head leaves (case hc), from the law's promise. F gives the function object fd (K's own) once, then the promise over every base -/
theorem walk_of {l : PySem.W.OpenLaw} {n k : Nat} {q : Program} {loose : List Str} {XP : (Str → Option Value) → Heap → Prop} {YP : World → Heap → Prop} {d : DefRec} {K : Params → PySem.W.Frag} {CX : World → CXT} {sp : World → Sp} {x : Str}
    (hn : l.most = some n) (hn2 : n ≤ sizeLine) (hdf : d.params.defaults = []) (hr : Room k callerA)
    (hY : ∀ (w : World) (h : Heap), YP w h → (K w.params).In h)
    (F : ∀ (w : World) (mg : Str → Option Value) (fa : Addr) (h : Heap), (K w.params).In h → h.Ns mainGlobals mg → mg d.name = some (.ref fa) →
      ∃ fd : FuncData, (∀ (s : Shared) (u : Value), BindsTo s fd ⟨[u], []⟩ [(x, u)]) ∧
        ∀ base : Heap, (K w.params).In base → base.Ns mainGlobals mg → FnOk l.prog w (K w.params) mg base (CX w) k fa fd [x] (sp w))
    (hsp : ∀ (w : World) (H : Hp) (a : Addr) (ns : List Int), ns.length ≤ n → Only H → SqL (K w.params) H a (ns.map V.int) → sp w [.ref a] H (fun v _ => v = .bl true) fun _ _ _ => False)
    (hCX : ∀ (w : World) (H : Hp) (s : Shared) (e : Value) (s' : Shared), CX w [] H s (fun _ _ _ => False) e s' → False) :
    PySem.W.WalkO q loose XP YP l.row.toRowW d [] (fun f vs => PySem.call f vs) := by
  refine Att.attach_call hn hdf fun w s₀ s₁ mg mb fa o pm cd doc a vs ns G Y ho hd hcd hmg hobj hints hlen hg => ?_
  have KX := hY w _ Y
  obtain ⟨fd, hb, hF⟩ := F w mg fa _ KX G.T.g hmg
  exact law_call KX G.T.g G.T.b G.T.builtins G.T.nolimit hg hobj hints (Nat.le_trans hlen hn2) hr hF hb (fun H hO hS => hsp w H a ns hlen hO hS) fun H e s' => hCX w H s₁ e s'
/-- the same where the promise hangs on the written part alone: (sp := My.sp_law), no hole under a binder -/
theorem walk_ofK {l : PySem.W.OpenLaw} {n k : Nat} {q : Program} {loose : List Str} {XP : (Str → Option Value) → Heap → Prop} {YP : World → Heap → Prop} {d : DefRec} {K : Params → PySem.W.Frag} {CX : CXT} {sp : PySem.W.Frag → Sp} {x : Str}
    (hn : l.most = some n) (hn2 : n ≤ sizeLine) (hdf : d.params.defaults = []) (hr : Room k callerA)
    (hY : ∀ (w : World) (h : Heap), YP w h → (K w.params).In h)
    (F : ∀ (w : World) (mg : Str → Option Value) (fa : Addr) (h : Heap), (K w.params).In h → h.Ns mainGlobals mg → mg d.name = some (.ref fa) →
      ∃ fd : FuncData, (∀ (s : Shared) (u : Value), BindsTo s fd ⟨[u], []⟩ [(x, u)]) ∧
        ∀ base : Heap, (K w.params).In base → base.Ns mainGlobals mg → FnOk l.prog w (K w.params) mg base CX k fa fd [x] (sp (K w.params)))
    (hsp : ∀ (K : PySem.W.Frag) (H : Hp) (a : Addr) (ns : List Int), ns.length ≤ n → Only H → SqL K H a (ns.map V.int) → sp K [.ref a] H (fun v _ => v = .bl true) fun _ _ _ => False)
    (hCX : ∀ (H : Hp) (s : Shared) (e : Value) (s' : Shared), CX [] H s (fun _ _ _ => False) e s' → False) :
    PySem.W.WalkO q loose XP YP l.row.toRowW d [] (fun f vs => PySem.call f vs) :=
  walk_of (K := K) (CX := fun _ => CX) (sp := fun w => sp (K w.params)) hn hn2 hdf hr hY F (fun w H a ns h1 h2 h3 => hsp (K w.params) H a ns h1 h2 h3) fun _ H s e s' => hCX H s e s'
end L2


/-! SHORT WORDS over the layer: a def of the text, its body, what a loop and a test want. -/
namespace L2
open PySem PySem.Spec PyProof.Rows

/-! ### the text by places -/
/-- the j-th statement of a class's body -/
def inClass (s : Stmt) (j : Nat) : Stmt := match s with
  | .ClassDef _ _ _ body _ _ _ _ _ _ _ => body.getD j (.Pass ⟨0, 0, 0, 0⟩)
  | _ => .Pass ⟨0, 0, 0, 0⟩
def defArgs (s : Stmt) : Arguments := match s with
  | .FunctionDef _ a _ _ _ _ _ _ _ _ => a
  | _ => { posonlyargs := [], args := [], vararg := none, kwonlyargs := [], kw_defaults := [], kwarg := none, defaults := [] }
def defBody (s : Stmt) : List Stmt := match s with
  | .FunctionDef _ _ b _ _ _ _ _ _ _ => b
  | _ => []
def defScope (s : Stmt) : Scope := match s with
  | .FunctionDef _ _ _ _ _ _ sc _ _ _ => sc
  | _ => { kind := .function, names := [], isGenerator := false, isCoroutine := false }

/-! ### no exception leaves a def -/
abbrev CX0 : CXT := fun _ _ _ _ _ _ => False
abbrev E0 : XK := fun _ _ _ => False
theorem pass0 {X : Cx} : Passes CX0 X E0 := fun _ _ _ _ _ _ _ h => h.elim

/-! ### a def (or method) of the text as it stands behind the top -/
structure Fun (K : PySem.W.Frag) (x qual : Str) (st : Stmt) (f : Addr) (fd : FuncData) : Prop where
  ex : ∃ (oc : Value) (od : Option Addr) (kV doc pm : Value) (an : Option Addr) (cdv ct : Value) (osl : Array (Option Value)),
    fd = PySem.W.fnOf x qual (defArgs st) (defBody st) (defScope st) .none kV doc pm an cdv ct ∧ K.lookup f = some ⟨oc, od, .func fd, osl⟩ ∧ PySem.W.codeIn K cdv qual = true
  kp : PySem.W.keepIn K (.ref f) = true
section
variable {P : Program} {w : World} {K : PySem.W.Frag} {mg : Str → Option Value} {base : Heap}
/-- THE RULE for a def: its body as a term of rules, and the reading of that term -/
theorem Fun.ok {x qual : Str} {st : Stmt} {f : Addr} {fd : FuncData} {N ps : List Str} {k : Nat} {sp : Sp} (F : Fun K x qual st f fd) (S : FnScope N ps (defScope st)) (len : ∀ vs H Q E, sp vs H Q E → vs.length = ps.length)
    (hbody : ∀ (cdv : Value) (A : Around) (outer : List Env) (s : Shared) (H : Hp) (vs : List V) (Q : VK) (E : XK), Room k (A.deeper (envOfC qual (defScope st) s.heap.objs.size f cdv)) → sp vs H Q E →
      ∃ t, PSs (cxOf CX0 P w K mg base N qual (defScope st) f cdv A outer s H E).nox (defBody st) t ∧ t { nx := fun _ H' => Q .non H', rt := Q } (start N vs) H) : FnOk P w K mg base CX0 (k + 1) f fd ps sp := by
  obtain ⟨oc, od, kV, doc, pm, an, cdv, ct, osl, rfl, lk, hcd⟩ := F.ex
  refine fn_of lk hcd S len fun A outer s H vs Q E hr hsp => ?_
  obtain ⟨t, h, q⟩ := hbody cdv A outer s H vs Q E hr hsp
  exact ⟨t, h.nox, q⟩
/-- how its arguments bind (no defaults): h is «fun _ _ _ _ _ _ us hl => match us, hl with | [_, _], _ => rfl», one _ a parameter -/
theorem Fun.binds {x qual : Str} {st : Stmt} {f : Addr} {fd : FuncData} {ps : List Str} (F : Fun K x qual st f fd)
    (h : ∀ (kV doc pm : Value) (an : Option Addr) (cdv ct : Value) (us : List Value), us.length = ps.length → bindArgs (PySem.W.fnOf x qual (defArgs st) (defBody st) (defScope st) .none kV doc pm an cdv ct) ⟨us, []⟩ = pure (ps.zip us)) : Binds K fd ps [] := by
  obtain ⟨oc, od, kV, doc, pm, an, cdv, ct, osl, rfl, lk, hcd⟩ := F.ex
  exact .all (h kV doc pm an cdv ct)
theorem fun_mk {x qual : Str} {st : Stmt} {f : Addr} {oc : Value} {od an : Option Addr} {osl : Array (Option Value)} {kV doc pm cdv ct : Value} (l : K.lookup f = some ⟨oc, od, .func (PySem.W.fnOf x qual (defArgs st) (defBody st) (defScope st) .none kV doc pm an cdv ct), osl⟩)
    (c : PySem.W.codeIn K cdv qual = true) (k : PySem.W.keepIn K (.ref f) = true) : Fun K x qual st f (PySem.W.fnOf x qual (defArgs st) (defBody st) (defScope st) .none kV doc pm an cdv ct) := ⟨⟨oc, od, kV, doc, pm, an, cdv, ct, osl, rfl, l, c⟩, k⟩
end
theorem hu_of {A : Around} {k : Nat} (hr : Room k A) : A.units + 1 < cLine := Nat.lt_of_le_of_lt (Nat.add_le_add_left (by decide : 1 ≤ 64) _) hr.units
theorem small1000 {n : Nat} (h : n ≤ 1000) : n < sizeLine := Nat.lt_of_le_of_lt h (by decide)

/-! ### expressions in short: the name that stands in the i-th slot -/
section
variable {X : Cx}
theorem pv (i : Nat) {x : Str} {pos : Pos} (hN : X.N[i]? = some x := by rfl) (hv : Vis X.env.scope x := by first | exact Or.inl rfl | exact Or.inr (Or.inl rfl) | exact Or.inr (Or.inr rfl)) (hd : (x == ("__debug__" : Str)) = false := by decide)
    (hcd : (x == ("__classdict__" : Str)) = false := by decide) : PE X (.Name x pos) (tVar i) := pe_var hN hv hd hcd
end

/-! ### tests -/
theorem iteF {A B : Prop} (h : B) : if false = true then A else B := by
  rw [if_neg Bool.false_ne_true]
  exact h
theorem iteT {A B : Prop} (h : A) : if true = true then A else B := by
  rw [if_pos rfl]
  exact h
theorem ite2 {c A B : Prop} [Decidable c] (h1 : c → A) (h2 : ¬ c → B) : if c then A else B := by
  by_cases h : c
  · rw [if_pos h]
    exact h1 h
  · rw [if_neg h]
    exact h2 h
/-! ### heaps -/
/-- all that was tracked is as it was -/
def Same (H H' : Hp) : Prop := ∀ b o, H b = some o → H' b = some o
theorem Same.refl (H : Hp) : Same H H := fun _ _ h => h
theorem Same.trans {H H1 H2 : Hp} (a : Same H H1) (b : Same H1 H2) : Same H H2 := fun c o h => b c o (a c o h)
theorem Same.free {H H' : Hp} (e : Same H H') {l : Addr} (h : H' l = Option.none) : H l = Option.none := by
  cases q : H l with
  | none => rfl
  | some o =>
    rw [e l o q] at h
    cases h
theorem Same.seq {K : PySem.W.Frag} {H H' : Hp} {a : Addr} {xs : List V} (e : Same H H') (h : SqL K H a xs) : SqL K H' a xs := by
  rcases h with (h | ⟨o, h⟩) | h
  · exact .inl (.inl (e _ _ h))
  · exact .inl (.inr ⟨o, e _ _ h⟩)
  · exact .inr h

end L2


set_option Elab.async false
set_option linter.all false
set_option maxRecDepth 100000
set_option maxHeartbeats 4000000
/-! a list comprehension: its block runs in a context of its own -/
namespace L2
open PySem PySem.Spec PyProof.Rows

theorem lookup_mem {α : Type} : ∀ {cl : List (Str × α)} {x : Str} {c : α}, cl.lookup x = some c → (x, c) ∈ cl
  | [], _, _, h => by simp at h
  | (y, d) :: r, x, c, h => by
    rw [List.lookup_cons] at h
    cases e : x == y with
    | true =>
      rw [e] at h
      have e' : x = y := eq_of_beq e
      cases h
      rw [e']; exact List.mem_cons_self
    | false =>
      rw [e] at h
      exact List.mem_cons_of_mem _ (lookup_mem h)
theorem lookup_of_mem {α : Type} : ∀ {cl : List (Str × α)} {x : Str} {c : α}, (x, c) ∈ cl → ∃ c', cl.lookup x = some c'
  | [], _, _, h => nomatch h
  | (y, d) :: r, x, c, h => by
    rw [List.lookup_cons]
    cases e : x == y with
    | true => exact ⟨d, rfl⟩
    | false =>
      rcases List.mem_cons.mp h with h | h
      · cases h
        simp at e
      · exact lookup_of_mem h
theorem closure_go {env : Env} {f : (Str × NameKind) → List (Str × Addr) → Sem (ForInStep (List (Str × Addr)))}
    (h1 : ∀ x k cs, k ≠ NameKind.free → f (x, k) cs = pure (.yield cs)) (h2 : ∀ x cs c, env.cells.lookup x = some c → f (x, NameKind.free) cs = pure (.yield ((x, c) :: cs))) :
    ∀ (names : List (Str × NameKind)) (acc : List (Str × Addr)), (∀ x, (x, NameKind.free) ∈ names → ∃ c, env.cells.lookup x = some c) →
      ∃ cl, forIn names acc f = pure cl ∧ (∀ p ∈ cl, p ∈ acc ∨ env.cells.lookup p.1 = some p.2) ∧ (∀ p ∈ acc, p ∈ cl) ∧ ∀ x, (x, NameKind.free) ∈ names → ∃ c, (x, c) ∈ cl
  | [], acc, _ => ⟨acc, rfl, fun _ h => .inl h, fun _ h => h, fun _ h => nomatch h⟩
  | (x, k) :: r, acc, h => by
    by_cases hk : k = NameKind.free
    · subst hk
      obtain ⟨c, hc⟩ := h x List.mem_cons_self
      obtain ⟨cl, e, a, b, d⟩ := closure_go h1 h2 r ((x, c) :: acc) fun y hy => h y (List.mem_cons_of_mem _ hy)
      refine ⟨cl, ?_, fun p hp => ?_, fun p hp => b p (List.mem_cons_of_mem _ hp), fun y hy => ?_⟩
      · rw [List.forIn_cons, h2 x acc c hc, pure_bind]; exact e
      · rcases a p hp with q | q
        · rcases List.mem_cons.mp q with q | q
          · subst q; exact .inr hc
          · exact .inl q
        · exact .inr q
      · rcases List.mem_cons.mp hy with q | q
        · cases q; exact ⟨c, b _ List.mem_cons_self⟩
        · exact d y q
    · obtain ⟨cl, e, a, b, d⟩ := closure_go h1 h2 r acc fun y hy => h y (List.mem_cons_of_mem _ hy)
      refine ⟨cl, ?_, a, b, fun y hy => ?_⟩
      · rw [List.forIn_cons, h1 x k acc hk, pure_bind]; exact e
      · rcases List.mem_cons.mp hy with q | q
        · cases q; exact absurd rfl hk
        · exact d y q
theorem closure_ok {scope : Scope} {env : Env} (h : ∀ x, (x, NameKind.free) ∈ scope.names → ∃ c, env.cells.lookup x = some c) :
    ∃ cl, closureFor scope env = pure cl ∧ (∀ x c, cl.lookup x = some c → env.cells.lookup x = some c) ∧ ∀ x, (x, NameKind.free) ∈ scope.names → ∃ c, cl.lookup x = some c := by
  have go := closure_go (env := env) (f := fun x cs => match x with | (name, kind) => if (kind == NameKind.free) = true then do let a ← cellOf env name; pure (.yield ((name, a) :: cs)) else pure (.yield cs))
    (fun x k cs hk => by
      have : (k == NameKind.free) = false := by simpa using hk
      simp only [this, Bool.false_eq_true, if_false])
    (fun x cs c hc => by
      simp only [beq_self_eq_true, if_true]
      unfold cellOf
      rw [hc, pure_bind])
    scope.names [] h
  obtain ⟨cl, e, a, _, d⟩ := go
  refine ⟨cl, ?_, fun x c hx => ?_, fun x hx => ?_⟩
  · unfold closureFor
    simp only [bind_pure]
    exact e
  · rcases a _ (lookup_mem hx) with q | q
    · exact nomatch q
    · exact q
  · obtain ⟨c, hc⟩ := d x hx
    exact lookup_of_mem hc

theorem relabel_lookup {env : Env} {x : Str} {k : NameKind} : ∀ {names : List (Str × NameKind)},
    (names.map fun (n, k) => if (k == NameKind.free && env.scope.kind == .function && env.kindOf n == some .cell) then (n, NameKind.cell) else (n, k)).lookup x = some k →
      names.lookup x = some k ∨ (k = .cell ∧ names.lookup x = some .free)
  | [], h => by simp at h
  | (n, j) :: r, h => by
    have ih := @relabel_lookup env x k r
    rw [List.lookup_cons]
    change List.lookup x ((if (j == NameKind.free && env.scope.kind == .function && env.kindOf n == some .cell) = true then (n, NameKind.cell) else (n, j)) :: _) = _ at h
    by_cases hc : (j == NameKind.free && env.scope.kind == .function && env.kindOf n == some .cell) = true
    · rw [if_pos hc, List.lookup_cons] at h
      have hj : j = NameKind.free := by
        simp only [Bool.and_eq_true] at hc
        exact eq_of_beq hc.1.1
      cases hx : x == n with
      | true => rw [hx] at h; cases h; exact .inr ⟨rfl, by rw [hj]⟩
      | false => rw [hx] at h; exact ih h
    · rw [if_neg hc, List.lookup_cons] at h
      cases hx : x == n with
      | true => rw [hx] at h; exact .inl h
      | false => rw [hx] at h; exact ih h

/-- the context of a comprehension's block. NL: its own names; ix: the slots of the names that it reads from the def -/
def cxComp (X : Cx) (scope : Scope) (NL : List Str) (ix : List Nat) (cl : List (Str × Addr)) (C : Addr) (s₃ : Shared) (H₃ : Hp) (fp : List Addr) (pins : List (Addr × Obj)) : Cx where
  prog := X.prog
  w := X.w
  K := X.K
  mg := X.mg
  base := X.base
  A := X.A
  N := NL ++ ix.map fun j => X.N.getD j ""
  s₀ := s₃
  H₀ := H₃
  env := compEnvC scope cl C X.env
  outer := X.stack
  stack := X.stack
  ex := fp
  fn := fun _ => false
  calm := X.calm
  pn := X.pn ++ pins
  xe := fun _ _ => False

/-- the values of the block's names at a turn's start -/
def comp0 (NL : List Str) (ix : List Nat) (σ : St) : St := NL.map (fun _ => none) ++ ix.map fun j => σ.getD j none

/-- the tests of a comprehension -/
def PIfs (X : Cx) (ifs : List Expr) (t : TT) : Prop :=
  ∀ (pins : List (Addr × Obj)) (s : Shared) (σ : St) (H : Hp) (Q : Bool → Hp → Prop), Inv X pins σ H s → t σ H Q →
    wpAny (model X.prog X.w) X.A (forIn ifs true fun c r => if r = true then do let ok ← isTrue c X.env (eval c X.env); pure (ForInStep.yield ok) else pure (ForInStep.yield r)) (TP X pins σ Q) X.xe s
def tYes : TT := fun _ H Q => Q true H
theorem pifs_nil {X : Cx} : PIfs X [] tYes := fun _ _ _ H _ I h => wpAny_tests_nil ⟨H, I, h⟩
/-- what a comprehension is worth: W: the invariant by the turn, a measure, what stands in the new list -/
def tComp (NL : List Str) (ix : List Nat) (wi : TI) (g : TG) (tt : TT) (te : TE) : TE := fun σ H Q =>
  wi σ H fun J H1 => ∀ acc, H1 acc = none → ∃ W : Nat → Nat → List V → Hp → Prop, (∃ m, W 0 m [] (upd H1 acc (.lst []))) ∧
    ∀ i m ys H2, W i m ys H2 → H2 acc = some (.lst ys) ∧ ys.length < sizeLine ∧
      ((J.stop i H2 ∧ Q (.ref acc) H2) ∨ (J.go i H2 ∧ ∃ N : List V → Hp → Prop, (∀ ys' H', N ys' H' → ∃ m', m' < m ∧ W (i + 1) m' ys' H') ∧
        ∀ x H3, J.yld i H2 x H3 → g x (comp0 NL ix σ) H3 fun σ' H4 => σ'.drop NL.length = ix.map (fun j => σ.getD j none) ∧ tt σ' H4 fun b H5 =>
          if b = true then te σ' H5 fun v H6 => H6 acc = some (.lst ys) ∧ N (ys ++ [v]) (upd H6 acc (.lst (ys ++ [v]))) else N ys H5))

section
variable {X : Cx} {pins : List (Addr × Obj)} {σ : St} {H : Hp} {s : Shared}

structure CompScope (X : Cx) (scope : Scope) (NL : List Str) (ix : List Nat) : Prop where
  kind : scope.kind = .function
  cell : ∀ y ∈ scope.names, y.2 ≠ .cell
  names : ∀ y ∈ scope.names, y.2 = .local → scope.names.lookup y.1 = some .local
  free : ∀ y ∈ scope.names, y.2 = .free → X.env.kindOf y.1 = some .cell ∨ X.env.kindOf y.1 = some .free
  cap : ∀ j ∈ ix, ∃ x, X.N[j]? = some x ∧ scope.names.lookup x = some .free

theorem comp_inv {scope : Scope} {NL : List Str} {ix : List Nat} {cl : List (Str × Addr)} {fp : List Addr} {tn : Nat → Heap → Prop} {s₃ : Shared} {h₁ : Heap} {m : Str → Option Value} {tk : Nat}
    (S : CompScope X scope NL ix) (I : Inv X pins σ H s₃) (c1 : ∀ x c, cl.lookup x = some c → X.env.cells.lookup x = some c) (c2 : ∀ x, (x, NameKind.free) ∈ scope.names → ∃ c, cl.lookup x = some c)
    (hf : ∀ b ∈ fp, FpOk X pins H b) (ho : ∀ b ∈ fp, ∃ o, s₃.heap.get? b = some o) (hn : h₁.Ns s₃.heap.objs.size m) (old : ∀ b o, s₃.heap.get? b = some o → h₁.get? b = some o) :
    Inv (cxComp X scope NL ix cl s₃.heap.objs.size s₃ H fp pins) [] (comp0 NL ix σ) H { s₃ with heap := h₁, toks := tk } := by
  have e0 := I.env0
  have lt : ∀ b o, s₃.heap.get? b = some o → b ≠ s₃.heap.objs.size := fun b o e => Nat.ne_of_lt (Heap.lt_size e)
  have nst : ∀ b, b ≠ X.env.locals → b ∉ X.fs → b ∉ frs X.stack := fun b h1 h2 h3 => (List.mem_cons.mp (I.stkSub b h3)).elim h1 h2
  have ok : (cxComp X scope NL ix cl s₃.heap.objs.size s₃ H fp pins).Ok :=
    { mod := I.ok.mod
      kind := S.kind
      glob := I.ok.glob
      blt := I.ok.blt
      above := Nat.le_refl _
      inj := fun x y c h1 h2 => I.ok.inj x y c (c1 x c h1) (c1 y c h2)
      has := fun x hx => by
        have hfree : scope.names.lookup x = some .free := by
          rcases hx with hx | hx
          · rcases relabel_lookup hx with q | ⟨_, q⟩
            · exact absurd rfl (S.cell _ (lookup_mem q))
            · exact q
          · rcases relabel_lookup hx with q | ⟨z, _⟩
            · exact q
            · cases z
        exact c2 x (lookup_mem hfree)
      cab := fun _ _ z => nomatch z
      hd := I.ok.hd
      frames := I.ok.frames
      stk := .inl rfl
      exf := fun b hb => ⟨let ⟨o, e⟩ := ho b hb; lt b o e, fun x c hx => (hf b hb).2.2.2.2.1 x c (c1 x c hx)⟩
      bs := I.bs
      bsz := e0.bsz
      noex := fun b o e hb => by
        rcases (hf b hb).2.2.2.1 with z | z
        · exact I.ok.noex b o e z
        · exact absurd (Nat.lt_of_lt_of_le (Heap.lt_size e) (Nat.le_trans I.ok.bsz z)) (Nat.lt_irrefl _)
      exfs := fun b hb => nst b (hf b hb).2.1 (hf b hb).2.2.1
      funs := e0.funs
      frf := e0.frf }
  refine ⟨ok, rfl, I.bare, Un.kept old, ⟨m, hn, fun i x v e1 e2 e3 => ?_⟩, fun x c e => ?_, I.hok.fresh (Nat.le_refl _), fun x c e => I.freeC x c (c1 x c e), fun p hp => ?_, I.hok.kept old, ?_⟩
  · have hl : NL.length ≤ i := by
      rcases Nat.lt_or_ge i NL.length with z | z
      · exfalso
        unfold comp0 at e2
        rw [List.getElem?_append_left (by simpa using z), List.getElem?_map] at e2
        cases q : NL[i]? with
        | none => rw [q] at e2; cases e2
        | some y => rw [q] at e2; cases e2
      · exact z
    unfold comp0 at e2
    rw [List.getElem?_append_right (by simpa using hl), List.length_map, List.getElem?_map] at e2
    change (NL ++ ix.map fun j => X.N.getD j "")[i]? = some x at e1
    rw [List.getElem?_append_right hl, List.getElem?_map] at e1
    cases q : ix[i - NL.length]? with
    | none => rw [q] at e1; cases e1
    | some j =>
      rw [q] at e1 e2
      have e1' : X.N.getD j "" = x := Option.some.inj e1
      have e2' : σ.getD j none = some v := Option.some.inj e2
      obtain ⟨x', hx', hfr⟩ := S.cap j (List.mem_of_getElem? q)
      have exx : x' = x := by
        rw [← e1', List.getD_eq_getElem?_getD, hx']; rfl
      subst exx
      have hσ : σ[j]? = some (some v) := by
        rw [List.getD_eq_getElem?_getD] at e2'
        cases z : σ[j]? with
        | none => rw [z] at e2'; cases e2'
        | some o => rw [z] at e2'; exact congrArg some e2'
      have kd := S.free _ (lookup_mem hfr) rfl
      have vis : Vis X.env.scope x' := by
        rcases kd with z | z
        · exact .inr (.inl z)
        · exact .inr (.inr z)
      obtain ⟨m', hn', hl'⟩ := I.loc
      obtain ⟨u, r, l⟩ := hl' j x' v hx' hσ vis
      refine ⟨u, r, .inr ?_⟩
      have hk' : (compEnvC scope cl s₃.heap.objs.size X.env).kindOf x' = some .cell ∨ (compEnvC scope cl s₃.heap.objs.size X.env).kindOf x' = some .free := by
        rcases e3 with z | z | z
        · rcases relabel_lookup z with w | ⟨w, _⟩
          · rw [hfr] at w; cases w
          · cases w
        · exact .inl z
        · exact .inr z
      refine ⟨hk', ?_⟩
      obtain ⟨c, hc⟩ := c2 x' (lookup_mem hfr)
      rcases l with ⟨k, _⟩ | ⟨k, c', ec, o, ho', hd⟩
      · rcases kd with z | z
        · rw [k] at z; cases z
        · rw [k] at z; cases z
      · have : c' = c := by
          have := c1 x' c hc
          rw [ec] at this
          exact Option.some.inj this
        subst this
        exact ⟨c', hc, o, old _ _ ho', hd⟩
  · obtain ⟨v, o, ho', hd⟩ := I.cell x c (c1 x c e)
    exact ⟨v, o, old _ _ ho', hd⟩
  · have hp' : p ∈ X.pn ++ pins := by
      rcases List.mem_append.mp hp with z | z
      · exact z
      · exact nomatch z
    obtain ⟨e, n, ne, nf, d⟩ := I.pin p hp'
    exact ⟨old _ _ e, n, lt _ _ e, nst _ ne nf, d⟩
  · show (NL.map (fun _ => (none : Option V)) ++ ix.map fun j => σ.getD j none).length = (NL ++ ix.map fun j => X.N.getD j "").length
    simp
/-- the block of a comprehension, from the iterator on -/
theorem comp_run {scope : Scope} {NL : List Str} {ix : List Nat} {elt tg iter : Expr} {ifs : List Expr} {pos : Pos} {g : TG} {tt : TT} {te : TE} {cl : List (Str × Addr)} {fp : List Addr} {it : Addr} {tn : Nat → Heap → Prop} {J : It} {Q : VK}
    {E : Value → Shared → Prop} {RR : Value → Addr → Result → Shared → Prop}
    (hc : X.calm = true) (S : CompScope X scope NL ix) (c1 : ∀ x c, cl.lookup x = some c → X.env.cells.lookup x = some c) (c2 : ∀ x, (x, NameKind.free) ∈ scope.names → ∃ c, cl.lookup x = some c)
    (hb : ∀ (cl : List (Str × Addr)) (C : Addr) (s₃ : Shared) (H₃ : Hp) (fp : List Addr) (pins : List (Addr × Obj)), PG (cxComp X scope NL ix cl C s₃ H₃ fp pins) tg g ∧ PIfs (cxComp X scope NL ix cl C s₃ H₃ fp pins) ifs tt ∧ PE (cxComp X scope NL ix cl C s₃ H₃ fp pins) elt te)
    (I : Inv X pins σ H s) (T : Turn X.prog X.w X.K tg J fp it tn) (st : tn 0 s.heap) (hf : ∀ b ∈ fp, FpOk X pins H b)
    (q : ∀ acc, H acc = none → ∃ W : Nat → Nat → List V → Hp → Prop, (∃ m, W 0 m [] (upd H acc (.lst []))) ∧
      ∀ i m ys H2, W i m ys H2 → H2 acc = some (.lst ys) ∧ ys.length < sizeLine ∧
      ((J.stop i H2 ∧ Q (.ref acc) H2) ∨ (J.go i H2 ∧ ∃ N : List V → Hp → Prop, (∀ ys' H', N ys' H' → ∃ m', m' < m ∧ W (i + 1) m' ys' H') ∧
        ∀ x H3, J.yld i H2 x H3 → g x (comp0 NL ix σ) H3 fun σ' H4 => σ'.drop NL.length = ix.map (fun j => σ.getD j none) ∧ tt σ' H4 fun b H5 =>
          if b = true then te σ' H5 fun v H6 => H6 acc = some (.lst ys) ∧ N (ys ++ [v]) (upd H6 acc (.lst (ys ++ [v]))) else N ys H5)))
    (hRR : ∀ (acc C : Addr) (H' : Hp) (s' : Shared) (m' : Str → Option Value), Inv X pins σ H' s' → s'.heap.Ns C m' → FpOk X pins H' C → Q (.ref acc) H' → RR (.ref acc) C (.ok .next) s') :
    wpAny (model X.prog X.w) X.A (newList []) (fun acc s₃ => wpAny (model X.prog X.w) X.A (newFunctionEnv scope X.env.globals cl [] X.env.qual none .none (some X.env)) (fun cenv s₄ =>
      codeAny (model X.prog X.w) X.A (.compStart (.ListComp elt [⟨tg, iter, ifs, 0⟩] scope pos) 0 (.ref it) acc { cenv with scope := relabel scope X.env }) (RR acc cenv.locals) s₄) E s₃) E s := by
  refine wpAny_newObj_type (wpAny_newFunctionEnv S.cell (by intro y hy; simp at hy) (fun h₁ hns₁ hsb₁ => ?_) S.kind)
  have I3 : Inv X pins σ (upd H s.heap.objs.size (.lst [])) { s with heap := s.heap.push { cls := .type "list", data := .seq ([] : List Value).toArray }, toks := s.toks } := I.lnew (its := []) .nil (Nat.zero_le _)
  have hfr : H s.heap.objs.size = none := I.hok.fresh (Nat.le_refl _)
  generalize hs3 : ({ s with heap := s.heap.push { cls := .type "list", data := .seq ([] : List Value).toArray }, toks := s.toks } : Shared) = s₃ at I3
  have hsz : s₃.heap.objs.size = s.heap.objs.size + 1 := by rw [← hs3]; exact Heap.size_push ..
  have old1 : ∀ b o, s.heap.get? b = some o → s₃.heap.get? b = some o := fun b o e => by rw [← hs3]; exact Heap.get?_push_of_some _ e
  have key : codeAny (model X.prog X.w) X.A (.compStart (.ListComp elt [⟨tg, iter, ifs, 0⟩] scope pos) 0 (.ref it) (.ref s.heap.objs.size) (compEnvC scope cl s₃.heap.objs.size X.env))
      (RR (.ref s.heap.objs.size) s₃.heap.objs.size) { s₃ with heap := h₁, toks := s₃.toks + 0 } := by
    have hns : h₁.Ns s₃.heap.objs.size (fun _ => none) := by
      have := hns₁
      rw [← hs3]
      exact this
    have hsb : Heap.SameBut s₃.heap.objs.size (s₃.heap.push { cls := .type "dict", data := .dict #[] }) h₁ := by
      have := hsb₁
      rw [← hs3]
      exact this
    have old : ∀ b o, s₃.heap.get? b = some o → h₁.get? b = some o := fun b o e => hsb.extBut b o (Nat.ne_of_lt (Heap.lt_size e)) (Heap.get?_push_of_some _ e)
    have hf3 : ∀ b ∈ fp, FpOk X pins (upd H s.heap.objs.size (.lst [])) b := fun b hb' => by
      obtain ⟨o, e, _⟩ := T.obj 0 _ st b hb'
      have ne : b ≠ s.heap.objs.size := Nat.ne_of_lt (Heap.lt_size e)
      exact ⟨by rw [upd_ne ne]; exact (hf b hb').1, (hf b hb').2⟩
    have ho3 : ∀ b ∈ fp, ∃ o, s₃.heap.get? b = some o := fun b hb' => by
      obtain ⟨o, e, _⟩ := T.obj 0 _ st b hb'
      exact ⟨o, old1 b o e⟩
    have st1 : tn 0 h₁ := T.keep 0 _ _ st fun b hb' o e => old b o (old1 b o e)
    have I4 := comp_inv (tn := tn) (tk := s₃.toks + 0) S I3 c1 c2 hf3 ho3 hns old
    obtain ⟨W, ⟨m0, w0⟩, turn⟩ := q s.heap.objs.size hfr
    obtain ⟨hg, ht, he⟩ := hb cl s₃.heap.objs.size s₃ (upd H s.heap.objs.size (.lst [])) fp pins
    generalize hX' : cxComp X scope NL ix cl s₃.heap.objs.size s₃ (upd H s.heap.objs.size (.lst [])) fp pins = X' at I4 hg ht he
    have p1 : X'.prog = X.prog := by rw [← hX']; rfl
    have p2 : X'.w = X.w := by rw [← hX']; rfl
    have p3 : X'.K = X.K := by rw [← hX']; rfl
    have p4 : X'.A = X.A := by rw [← hX']; rfl
    have p5 : X'.env = compEnvC scope cl s₃.heap.objs.size X.env := by rw [← hX']; rfl
    have p6 : X'.calm = true := by rw [← hX']; exact hc
    have p7 : X'.xe = fun _ _ => False := by rw [← hX']; rfl
    have stat : ∀ {H' : Hp}, (∀ b ∈ fp, H' b = none) → ∀ b ∈ fp, FpOk X' [] H' b := fun {H'} hn b hb' => by
      have z := hf3 b hb'
      obtain ⟨o, eo⟩ := ho3 b hb'
      rw [← hX']
      refine ⟨hn b hb', Nat.ne_of_lt (Heap.lt_size eo), fun q => (List.mem_cons.mp (I3.stkSub b q)).elim z.2.1 z.2.2.1, .inl hb', fun x c hx => z.2.2.2.2.1 x c (c1 x c hx), fun p hp => ?_⟩
      rcases List.mem_append.mp hp with w | w
      · exact z.2.2.2.2.2 p w
      · exact nomatch w
    have fin : ∀ i n ys H' s', Inv X' [] (comp0 NL ix σ) H' s' → W i n ys H' → Q (.ref s.heap.objs.size) H' → RR (.ref s.heap.objs.size) s₃.heap.objs.size (.ok .next) s' := fun i n ys H' s' I' w' q' => by
      obtain ⟨m', hn', _⟩ := I'.loc
      have hos : s'.os = s₃.os := by have := I'.os; rw [← hX'] at this; exact this
      have hu : Un (frs X.stack) fp (upd H s.heap.objs.size (.lst [])) H' s₃.heap s'.heap := by have := I'.base; rw [← hX'] at this; exact this
      have hk : HOk X.prog X.w H' s'.heap := by have := I'.hok; rw [← hX'] at this; exact this
      have hfC : H' s₃.heap.objs.size = none := by have := I'.free; rw [← hX'] at this; exact this
      have hnC : s'.heap.Ns s₃.heap.objs.size m' := by rw [p5] at hn'; exact hn'
      exact hRR _ _ H' s' m' (I3.call' hos hu hk I'.bare fun b hb' => ⟨(hf3 b hb').2.2.2.1, (hf3 b hb').2.1, (hf3 b hb').2.2.2.2.1, (hf3 b hb').2.2.2.2.2⟩) hnC (I3.fpOk (Nat.le_refl _) hfC) q'
    have loop : ∀ s₄ : Shared, Inv X' [] (comp0 NL ix σ) (upd H s.heap.objs.size (.lst [])) s₄ → tn 0 s₄.heap → codeAny (model X.prog X.w) X.A (.compLoop (.ListComp elt [⟨tg, iter, ifs, 0⟩] scope pos) 0 (.ref it) (.ref s.heap.objs.size) (compEnvC scope cl s₃.heap.objs.size X.env))
        (RR (.ref s.heap.objs.size) s₃.heap.objs.size) s₄ := fun s₄ I4 st1 => by
      refine codeAny_loop rfl (fun n s' => ∃ i ys H', Inv X' [] (comp0 NL ix σ) H' s' ∧ tn i s'.heap ∧ (∀ b ∈ fp, H' b = none) ∧ W i n ys H') (fun n s' hI => ?_) m0 ⟨0, [], _, I4, st1, fun b hb' => (hf3 b hb').1, w0⟩
      obtain ⟨i, ys, H', I', st', fr', w'⟩ := hI
      show wpAny _ X.A ((compTurn (.ListComp elt [⟨tg, iter, ifs, 0⟩] scope pos) 0 (.ref it) (.ref s.heap.objs.size) (compEnvC scope cl s₃.heap.objs.size X.env)).onRaise (fun x => do noteFrame x (compEnvC scope cl s₃.heap.objs.size X.env); theTreesLotGoes x)) _ _ s'
      refine wpAny_noted ?_
      rw [compTurn_list]
      obtain ⟨hacc, hz8, alt⟩ := turn i n ys H' w'
      rcases alt with ⟨stop, qn⟩ | ⟨go, N, hN, step⟩
      · have d := T.done X' p1 p2 p3 p6 i [] s' (comp0 NL ix σ) H' (notedBy (model X.prog X.w) X.A (compEnvC scope cl s₃.heap.objs.size X.env) fun e s' => RR (.ref s.heap.objs.size) s₃.heap.objs.size (.error e) s') I' (stat fr') st' stop
        rw [p4] at d
        refine wpAny_bind (wpAny_standAt (wpAny_bind (thn d fun r s1 ⟨hr, I1⟩ => ?_)))
        subst hr
        exact wpAny_pure (fin i n ys H' s1 I1 w' qn)
      · have d := T.item X' p1 p2 p3 p6 i [] s' (comp0 NL ix σ) H' (notedBy (model X.prog X.w) X.A (compEnvC scope cl s₃.heap.objs.size X.env) fun e s' => RR (.ref s.heap.objs.size) s₃.heap.objs.size (.error e) s') I' (stat fr') st' go
        rw [p4] at d
        refine wpAny_bind (wpAny_standAt (wpAny_bind (thn d fun r s1 ⟨u, hr, h4⟩ => ?_)))
        subst hr
        refine wpAny_bind (thn h4 fun _ s5 ⟨x, H5, I5, r5, y5, st5, fr5⟩ => ?_)
        have I5' := I5.pinned (stat fr5) (T.obj _ _ st5)
        have nofail : ∀ {α : Type} {t : Sem α} {R : α → Shared → Prop} {sx : Shared}, wpAny (model X'.prog X'.w) X'.A t R X'.xe sx → wpAny (model X.prog X.w) X.A t R (notedBy (model X.prog X.w) X.A (compEnvC scope cl s₃.heap.objs.size X.env) fun e s' => RR (.ref s.heap.objs.size) s₃.heap.objs.size (.error e) s') sx := fun {α t R sx} hh => by
          rw [p1, p2, p4, p7] at hh
          exact wpAny_mono hh (fun _ _ z => z) fun _ _ z => z.elim
        have again : ∀ {σ7 : St} {H7 : Hp} {s7 : Shared} {ys' : List V}, σ7.drop NL.length = ix.map (fun j => σ.getD j none) → Inv X' ([] ++ pinsAt fp s5.heap) σ7 H7 s7 → (∃ m', m' < n ∧ W (i + 1) m' ys' H7) → ∃ m, m < n ∧ ∃ i ys H', Inv X' [] (comp0 NL ix σ) H' s7 ∧ tn i s7.heap ∧ (∀ b ∈ fp, H' b = none) ∧ W i m ys H' := fun {σ7 H7 s7 ys'} hσ I7 n7 => by
          obtain ⟨m', hm, w7⟩ := n7
          have Iw : Inv X' ([] ++ pinsAt fp s5.heap) (comp0 NL ix σ) H7 s7 := I7.weak (by rw [I7.len, I'.len]) fun j v hj => by
            have hlj : NL.length ≤ j := by
              rcases Nat.lt_or_ge j NL.length with z | z
              · exfalso
                unfold comp0 at hj
                rw [List.getElem?_append_left (by simpa using z), List.getElem?_map] at hj
                cases q : NL[j]? with
                | none => rw [q] at hj; cases hj
                | some y => rw [q] at hj; cases hj
              · exact z
            unfold comp0 at hj
            rw [List.getElem?_append_right (by simpa using hlj), List.length_map, ← hσ, List.getElem?_drop] at hj
            rw [← hj]
            congr 1
            omega
          refine ⟨m', hm, i + 1, ys', H7, Iw.unpinned, T.keep _ _ _ st5 fun b hb' o e => (I7.pin (b, o) (List.mem_append_right _ (List.mem_append_right _ (mem_pinsAt hb' e)))).1, fun b hb' => ?_, w7⟩
          obtain ⟨o, e, d⟩ := T.obj _ _ st5 b hb'
          exact (I7.pin (b, o) (List.mem_append_right _ (List.mem_append_right _ (mem_pinsAt hb' e)))).2.1
        have hg' := nofail (hg _ s5 (comp0 NL ix σ) H5 x u _ I5' r5 (step x H5 y5))
        rw [p5] at hg'
        refine wpAny_bind (thn hg' fun _ s6 ⟨σ6, H6, I6, hσ6, q6⟩ => ?_)
        have ht' := nofail (ht _ s6 σ6 H6 _ I6 q6)
        rw [p5] at ht'
        refine wpAny_bind (thn ht' fun ok s7 ⟨H7, I7, q7⟩ => ?_)
        cases ok with
        | false =>
          have q7' : N ys H7 := by simpa using q7
          exact wpAny_pure ⟨rfl, again hσ6 I7 (hN _ _ q7')⟩
        | true =>
          have q7' := (if_pos rfl).mp q7
          have he' := nofail (he _ s7 σ6 H7 _ I7 q7')
          rw [p5] at he'
          refine wpAny_bind (wpAny_bind (thn he' fun v s8 ⟨y, H8, I8, r8, ha8, q8⟩ => ?_))
          have ap := nofail (mt_append _ s8 σ6 H8 (.ref s.heap.objs.size) [y] (.ref s.heap.objs.size) [v] (fun _ H9 => H9 = upd H8 s.heap.objs.size (.lst (ys ++ [y]))) I8 rfl (.cons r8 .nil) ⟨_, ys, y, rfl, rfl, ha8, hz8, rfl⟩)
          refine wpAny_bind (thn ap fun _ s9 ⟨z, H9, I9, r9, e9⟩ => wpAny_pure (wpAny_pure ⟨rfl, ?_⟩))
          subst e9
          exact again hσ6 I9 (hN _ _ q8)
    exact codeAny_compStart_list (loop _ I4 st1) (T.self X.A 0 _ _ _ st1 (loop _ I4 st1))
  exact key

/-- [elt for target in iter if ..] -/
theorem pe_comp {scope : Scope} {NL : List Str} {ix : List Nat} {elt tg iter : Expr} {ifs : List Expr} {pos : Pos} {wi : TI} {g : TG} {tt : TT} {te : TE}
    (hc : X.calm = true) (hi : PI X tg iter wi) (S : CompScope X scope NL ix)
    (hb : ∀ (cl : List (Str × Addr)) (C : Addr) (s₃ : Shared) (H₃ : Hp) (fp : List Addr) (pins : List (Addr × Obj)), PG (cxComp X scope NL ix cl C s₃ H₃ fp pins) tg g ∧ PIfs (cxComp X scope NL ix cl C s₃ H₃ fp pins) ifs tt ∧ PE (cxComp X scope NL ix cl C s₃ H₃ fp pins) elt te)
    (hs : ∀ x, foldedSetIterable iter X.env x = pure x := by intro _; rfl) : PE X (.ListComp elt [⟨tg, iter, ifs, 0⟩] scope pos) (tComp NL ix wi g tt te) := by
  intro pins s σ H Q I h
  obtain ⟨cl, hcl, c1, c2⟩ := closure_ok (scope := scope) (env := X.env) fun x hx => by
    rcases S.free _ hx rfl with z | z
    · exact I.ok.has x (.inl z)
    · exact I.ok.has x (.inr z)
  rw [eval_ListComp]
  refine wpAny_comprehension_free (use := none) rfl hs hcl S.kind S.names (thn (hi pins s σ H _ I h) fun xv s1 h1 => thn h1 fun itv s2 h2 => ?_)
  obtain ⟨it, fp, tn, J, H2, rfl, I2, T, st2, f2, q⟩ := h2
  refine comp_run (RR := fun acc C => compPost (model X.prog X.w) X.A X.xe none (EP X pins σ Q) acc C) hc S c1 c2 hb I2 T st2 f2 q ?_
  intro acc C H' s' m' I' hn fC q'
  refine ⟨m', hn, fun h' sb => ⟨.ref acc, H', ?_, rfl, q'⟩⟩
  exact I'.turned (t' := s'.toks) (fun b o hb e => sb.extBut b o hb e) fC.1 fC.2.1 fC.2.2.2.1 fC.2.2.2.2.1 fC.2.2.2.2.2

/-- a comprehension of n turns, by what holds between two of them -/
theorem comp_by {J : It} {NL : List Str} {ix : List Nat} {g : TG} {tt : TT} {te : TE} {σ : St} {H1 : Hp} {Qs : Hp → Prop} {acc : Addr} (n : Nat) (hn : n < 1000) (Pv : Nat → List V → Hp → Prop)
    (hacc : ∀ i ys H2, Pv i ys H2 → H2 acc = some (.lst ys) ∧ ys.length ≤ i) (h0 : Pv 0 [] (upd H1 acc (.lst []))) (hstop : ∀ ys H2, Pv n ys H2 → J.stop n H2 ∧ Qs H2)
    (hturn : ∀ i ys H2, i < n → Pv i ys H2 → J.go i H2 ∧ ∀ x H3, J.yld i H2 x H3 → g x (comp0 NL ix σ) H3 fun σ' H4 => σ'.drop NL.length = ix.map (fun j => σ.getD j none) ∧ tt σ' H4 fun b H5 =>
      if b = true then te σ' H5 fun v H6 => H6 acc = some (.lst ys) ∧ Pv (i + 1) (ys ++ [v]) (upd H6 acc (.lst (ys ++ [v]))) else Pv (i + 1) ys H5) :
    ∃ W : Nat → Nat → List V → Hp → Prop, (∃ m, W 0 m [] (upd H1 acc (.lst []))) ∧
    ∀ i m ys H2, W i m ys H2 → H2 acc = some (.lst ys) ∧ ys.length < sizeLine ∧
      ((J.stop i H2 ∧ Qs H2) ∨ (J.go i H2 ∧ ∃ N : List V → Hp → Prop, (∀ ys' H', N ys' H' → ∃ m', m' < m ∧ W (i + 1) m' ys' H') ∧
        ∀ x H3, J.yld i H2 x H3 → g x (comp0 NL ix σ) H3 fun σ' H4 => σ'.drop NL.length = ix.map (fun j => σ.getD j none) ∧ tt σ' H4 fun b H5 =>
          if b = true then te σ' H5 fun v H6 => H6 acc = some (.lst ys) ∧ N (ys ++ [v]) (upd H6 acc (.lst (ys ++ [v]))) else N ys H5)) := by
  refine ⟨fun i m ys H2 => i ≤ n ∧ m = n - i ∧ Pv i ys H2, ⟨n, Nat.zero_le _, rfl, h0⟩, fun i m ys H2 ⟨hi, hm, hp⟩ => ?_⟩
  obtain ⟨a1, a2⟩ := hacc i ys H2 hp
  refine ⟨a1, small1000 (by omega), ?_⟩
  rcases Nat.lt_or_ge i n with lt | ge
  · obtain ⟨go, tn⟩ := hturn i ys H2 lt hp
    exact .inr ⟨go, Pv (i + 1), fun ys' H' hN => ⟨n - (i + 1), by omega, by omega, rfl, hN⟩, tn⟩
  · have e : i = n := by omega
    subst e
    exact .inl (hstop ys H2 hp)
end
end L2


set_option Elab.async false
set_option linter.all false
set_option maxRecDepth 100000
set_option maxHeartbeats 4000000
/-! what is walked: a text's signs, zip, enumerate; slices of texts; isinstance -/
namespace L2
open PySem PySem.Spec PyProof.Rows

section
variable {prog : Program} {w : World} {A : Around} {E : Value → Shared → Prop} {s : Shared}
theorem nextOf_tuple_item {it t : Addr} {i : Nat} {items : Array Value} {x : Value} {Q : Value → Shared → Prop} (hit : s.heap.IsTupleIter it t i)
    (ht : s.heap.IsTuple t items) (hx : items[i]? = some x)
    (hQ : ∀ h', h'.IsTupleIter it t (i + 1) → Heap.SameBut it s.heap h' → Q x { s with heap := h' }) :
    wpAny (model prog w) A (Builtin.SmallTypes.nextOf (.ref it)) Q E s := by
  obtain ⟨o, ho, hc, hd⟩ := id hit
  obtain ⟨ol, hol, _, nl, hdl⟩ := ht
  unfold Builtin.SmallTypes.nextOf
  refine wpAny_bind (wpAny_callSpecial?_slot (name := Str.ofString "__next__") hit.typeIs F.slot_tuple_iterator_next
    (wpAny_call_entry F.slot_tuple_iterator_next hit.typeIs F.entry_tuple_iterator_next ?_ (F.args_tuple_iterator_next_1 _)))
  show wpAny _ _ (field (.ref it) 0 >>= _) _ _ s
  refine wpAny_bind (wpAny_field ho hd (x := .ref t) rfl ?_)
  show wpAny _ _ (if (Value.ref t == Value.none) = true then _ else _) _ _ s
  rw [if_neg (show ¬ ((Value.ref t == Value.none) = true) from Bool.false_ne_true)]
  show wpAny _ _ (field (.ref it) 1 >>= _) _ _ s
  refine wpAny_bind (wpAny_field ho hd (x := .int i 0) rfl ?_)
  show wpAny _ _ (seqItems? (.ref t) >>= _) _ _ s
  refine wpAny_bind (wpAny_seqItems hol hdl ?_)
  simp only [Int.toNat_natCast, hx]
  refine wpAny_bind (wpAny_setField ho hd (by simp) (wpAny_pure ⟨x, rfl, wpAny_pure (hQ _ ?_ (Heap.SameBut.update ..))⟩))
  exact ⟨_, Heap.get?_update_self _ ho (Obj.isFreed_of_fields (Obj.data_mapFields hd _)), (Obj.cls_mapFields ..).trans hc, by
    rw [Obj.data_mapFields hd]; simp [rawInt]⟩
theorem nextOf_tuple_end {it t : Addr} {i : Nat} {items : Array Value} {Q : Value → Shared → Prop} (hh : A.handled = none)
    (hit : s.heap.IsTupleIter it t i) (ht : s.heap.IsTuple t items) (hx : items[i]? = none)
    (hE : ∀ h' e, Heap.ExtBut it s.heap h' → (∃ o, h'.get? e = some o ∧ o.cls = .type "StopIteration") → E (.ref e) { s with heap := h' }) :
    wpAny (model prog w) A (Builtin.SmallTypes.nextOf (.ref it)) Q E s := by
  obtain ⟨o, ho, hc, hd⟩ := id hit
  obtain ⟨ol, hol, _, nl, hdl⟩ := ht
  unfold Builtin.SmallTypes.nextOf
  refine wpAny_bind (wpAny_callSpecial?_slot (name := Str.ofString "__next__") hit.typeIs F.slot_tuple_iterator_next
    (wpAny_call_entry F.slot_tuple_iterator_next hit.typeIs F.entry_tuple_iterator_next ?_ (F.args_tuple_iterator_next_1 _)))
  show wpAny _ _ (field (.ref it) 0 >>= _) _ _ s
  refine wpAny_bind (wpAny_field ho hd (x := .ref t) rfl ?_)
  show wpAny _ _ (if (Value.ref t == Value.none) = true then _ else _) _ _ s
  rw [if_neg (show ¬ ((Value.ref t == Value.none) = true) from Bool.false_ne_true)]
  show wpAny _ _ (field (.ref it) 1 >>= _) _ _ s
  refine wpAny_bind (wpAny_field ho hd (x := .int i 0) rfl ?_)
  show wpAny _ _ (seqItems? (.ref t) >>= _) _ _ s
  refine wpAny_bind (wpAny_seqItems hol hdl ?_)
  simp only [Int.toNat_natCast, hx]
  refine wpAny_bind (wpAny_rule (wpAny_bind (wpAny_setField ho hd (by simp) ?_)))
  show wpAny _ _ (newExc (.type "StopIteration") [] >>= _) _ _ _
  refine wpAny_bind ?_
  simp only [newExc, newTuple]
  refine wpAny_bind (wpAny_newObj_type ?_ (by size_fits))
  refine wpAny_bind (m := firstArgMember _ _) (wpAny_of_eq (a := Value.none) (by first | rfl | (simp only [firstArgMember]; rfl)) ?_)
  refine wpAny_newObj_type ?_ (by size_fits)
  simp only [raiseNew]
  refine wpAny_bind (wpAny_handled ?_)
  first | rw [show A.in1.handled = none from hh] | rw [hh]
  refine wpAny_bind (wpAny_pure (wpAny_throw ?_))
  exact hE _ _ (((Heap.SameBut.update ..).extBut.push _).push _) ⟨_, Heap.get?_push_size _ rfl, rfl⟩
end
theorem draws_tuple {prog : Program} {w : World} {A : Around} (hh : A.handled = none) (it l : Addr) (hne : l ≠ it) (items : Array Value) :
    Draws prog w A it [it, l] items.size (fun i v => items[i]? = some v) (fun i h => h.IsTupleIter it l i ∧ h.IsTuple l items) where
  live := fun _ _ st => let ⟨o, ho, _⟩ := st.1; ⟨o, ho⟩
  frame := fun _ _ _ st hk => ⟨st.1.at fun o e => hk it (by simp) o e, let ⟨o, ho, r⟩ := st.2; ⟨o, hk l (by simp) o ho, r⟩⟩
  item := fun i s Q E hi st hQ => by
    refine nextOf_tuple_item st.1 st.2 (x := items[i]) (by simp [hi]) fun h' hit' hs' => ?_
    exact hQ _ h' s.toks (by simp [hi]) ⟨hit', st.2.extBut hs'.extBut hne⟩ hs'
  done := fun s Q E st hE => nextOf_tuple_end hh st.1 st.2 (by simp) hE
theorem draws_str {prog : Program} {w : World} {A : Around} (hh : A.handled = none) (it : Addr) (x : Str) (t : Tok) :
    Draws prog w A it [it] x.cps.size (fun i v => ∃ c u, x.cps[i]? = some c ∧ v = .str ⟨#[c]⟩ u) (fun i h => h.IsStrIter it (strIterType x) x t i) := by
  unfold strIterType
  cases x.cps.all (· < 128) with
  | true => exact Draws.strAscii hh it x t
  | false => exact Draws.strWide hh it x t

/-- what may be walked within zip and enumerate: a list, a tuple, a text -/
inductive SK where
  | lst (a : Addr) | tup (a : Addr) | str (x : Str)
def SK.val : SK → V
  | .lst a => .ref a
  | .tup a => .ref a
  | .str x => .str x
def signs (x : Str) : List V := x.cps.toList.map fun c => .str ⟨#[c]⟩
def SK.has (H : Hp) : SK → List V → Prop
  | .lst a, xs => Rd H a (.lst xs)
  | .tup a, xs => Rd H a (.tup xs)
  | .str x, xs => xs = signs x
/-- its iterator's record -/
def SK.own (it : Addr) (k : Nat) (h : Heap) : SK → Prop
  | .lst a => h.IsListIter it a k
  | .tup a => h.IsTupleIter it a k
  | .str x => ∃ t, h.IsStrIter it (strIterType x) x t k
theorem SK.own_at {it : Addr} {k : Nat} {h h' : Heap} {κ : SK} (x : κ.own it k h) (e : ∀ o, h.get? it = some o → h'.get? it = some o) : κ.own it k h' := by
  cases κ with
  | lst a => exact Heap.IsListIter.at x e
  | tup a => exact Heap.IsTupleIter.at x e
  | str y => obtain ⟨t, o, ho, r⟩ := x; exact ⟨t, o, e o ho, r⟩
theorem SK.own_obj {it : Addr} {k : Nat} {h : Heap} {κ : SK} (x : κ.own it k h) : ∃ o, h.get? it = some o ∧ (∀ v, o.data ≠ .cell v) ∧ o.cls ≠ .type "tuple" ∧ o.cls ≠ .type "zip" ∧ o.cls ≠ .type "enumerate" := by
  cases κ with
  | lst a => obtain ⟨o, ho, c, d⟩ := x; exact ⟨o, ho, (fun v z => by rw [d] at z; cases z), (fun z => by rw [c] at z; simp at z), (fun z => by rw [c] at z; simp at z), (fun z => by rw [c] at z; simp at z)⟩
  | tup a => obtain ⟨o, ho, c, d⟩ := x; exact ⟨o, ho, (fun v z => by rw [d] at z; cases z), (fun z => by rw [c] at z; simp at z), (fun z => by rw [c] at z; simp at z), (fun z => by rw [c] at z; simp at z)⟩
  | str y =>
    obtain ⟨t, o, ho, c, d⟩ := x
    refine ⟨o, ho, (fun v z => by rw [d] at z; cases z), ?_, ?_, ?_⟩ <;>
    · intro z
      rw [c] at z
      unfold strIterType at z
      split at z <;> simp at z
theorem Rd.inj {H : Hp} {a : Addr} {u v : HO} (hu : ∀ o w, u ≠ .frz o w) (hv : ∀ o w, v ≠ .frz o w) (x : Rd H a u) (y : Rd H a v) : u = v := by
  rcases x with x | ⟨o, x⟩ <;> rcases y with y | ⟨p, y⟩ <;> rw [x] at y
  · exact Option.some.inj y
  · exact absurd (Option.some.inj y) (hu p v)
  · exact absurd (Option.some.inj y).symm (hv o u)
  · have := Option.some.inj y
    injection this
theorem SK.inj {H : Hp} {κ : SK} {xs ys : List V} (x : κ.has H xs) (y : κ.has H ys) : xs = ys := by
  cases κ with
  | lst a => have := Rd.inj (u := .lst xs) (v := .lst ys) (fun _ _ z => nomatch z) (fun _ _ z => nomatch z) x y; injection this
  | tup a => have := Rd.inj (u := .tup xs) (v := .tup ys) (fun _ _ z => nomatch z) (fun _ _ z => nomatch z) x y; injection this
  | str z => exact Eq.trans x (Eq.symm y)

/-- what stays apart from all records: the container -/
def SK.box : SK → List Addr
  | .lst a => [a]
  | .tup a => [a]
  | .str _ => []
theorem SK.box_some {H : Hp} {κ : SK} {xs : List V} (x : κ.has H xs) {b : Addr} (hb : b ∈ κ.box) : H b ≠ none := by
  cases κ with
  | lst a => have e : b = a := by simpa [SK.box] using hb
             subst e; intro z; rcases x with q | ⟨o, q⟩ <;> (rw [z] at q; cases q)
  | tup a => have e : b = a := by simpa [SK.box] using hb
             subst e; intro z; rcases x with q | ⟨o, q⟩ <;> (rw [z] at q; cases q)
  | str z => simp [SK.box] at hb

section
variable {X : Cx} {pins : List (Addr × Obj)} {σ : St} {H : Hp} {s : Shared}
theorem sk_draws {κ : SK} {it : Addr} {k : Nat} {xs : List V} {A : Around} (I : Inv X pins σ H s) (hv : κ.has H xs) (hit : κ.own it k s.heap) (hn : H it = none) (hh : A.handled = none) :
    ∃ (P : Nat → Value → Prop) (St : Nat → Heap → Prop), Draws X.prog X.w A it (it :: κ.box) xs.length P St ∧ St k s.heap ∧ (∀ i u, P i u → ∃ x, xs[i]? = some x ∧ RelV x u) ∧ (∀ i h, St i h → κ.own it i h) := by
  have ne : ∀ b ∈ κ.box, b ≠ it := fun b hb z => SK.box_some hv hb (by rw [z]; exact hn)
  cases κ with
  | lst a =>
    obtain ⟨_, its, n, r, e⟩ := Rd.ok hv I.hok
    have hl : s.heap.IsList a its.toArray := ⟨_, e, rfl, n, rfl⟩
    have D := Draws.list (prog := X.prog) (w := X.w) hh it a (ne a (by simp [SK.box])) its.toArray
    rw [List.size_toArray, ← r.length] at D
    refine ⟨_, _, D, ⟨hit, hl⟩, fun i u hu => ?_, fun i h st => st.1⟩
    · have hu' : its[i]? = some u := by simpa using hu
      have hlt : i < xs.length := by rw [r.length]; exact (List.getElem?_eq_some_iff.mp hu').1
      obtain ⟨u', e1, e2⟩ := r.get (List.getElem?_eq_getElem hlt)
      rw [hu'] at e1; cases e1
      exact ⟨_, List.getElem?_eq_getElem hlt, e2⟩
  | tup a =>
    obtain ⟨_, its, r, ht⟩ := Rd.ok hv I.hok
    have hl : s.heap.IsTuple a its.toArray := ht
    have D := draws_tuple (prog := X.prog) (w := X.w) hh it a (ne a (by simp [SK.box])) its.toArray
    rw [List.size_toArray, ← r.length] at D
    refine ⟨_, _, D, ⟨hit, hl⟩, fun i u hu => ?_, fun i h st => st.1⟩
    · have hu' : its[i]? = some u := by simpa using hu
      have hlt : i < xs.length := by rw [r.length]; exact (List.getElem?_eq_some_iff.mp hu').1
      obtain ⟨u', e1, e2⟩ := r.get (List.getElem?_eq_getElem hlt)
      rw [hu'] at e1; cases e1
      exact ⟨_, List.getElem?_eq_getElem hlt, e2⟩
  | str z =>
    obtain ⟨t, hit⟩ := hit
    have hv' : xs = signs z := hv
    subst hv'
    have D := draws_str (prog := X.prog) (w := X.w) hh it z t
    have e : (signs z).length = z.cps.size := by simp [signs]
    rw [← e] at D
    refine ⟨_, _, D, hit, fun i u hu => ?_, fun i h st => ⟨t, st⟩⟩
    · obtain ⟨c, u', hc, rfl⟩ := hu
      refine ⟨.str ⟨#[c]⟩, ?_, ⟨u', rfl⟩⟩
      simp only [signs, List.getElem?_map, Array.getElem?_toList, hc, Option.map_some]

/-- the records at ch have turned, a new object is laid and tracked -/
theorem Inv.turnedNew {ch : List Addr} {p : Addr} {o : HO} {h' : Heap} {tk : Nat} (I : Inv X pins σ H s)
    (hch : ∀ b ∈ ch, FpOk X pins H b) (k : ∀ b ob, b ∉ ch → s.heap.get? b = some ob → h'.get? b = some ob) (hp : s.heap.objs.size ≤ p) (new : ObjOk X.prog X.w (upd H p o) h' p o) :
    Inv X pins σ (upd H p o) { s with heap := h', toks := tk } := by
  have hn : H p = none := I.hok.fresh hp
  refine I.call (g' := s.gens) (d' := s.drawn) (ch := ch) ⟨fun b u q _ _ hx => k b u hx q, fun b u q _ _ hx => ⟨u.slots, k b u hx q⟩, fun b u q n _ => ?_, fun b u q hx => ⟨u, k b u hx q⟩, fun b xs q => ?_, fun b u xs q => ?_, fun b ps q => ⟨#[], ?_⟩⟩ (fun b u e => ?_) I.bare
    fun b hb => ⟨(hch b hb).2.2.2.1, (hch b hb).2.1, (hch b hb).2.2.2.2.1, (hch b hb).2.2.2.2.2⟩
  · rw [upd_ne (Nat.ne_of_lt (Nat.lt_of_lt_of_le (Heap.lt_size q) hp))]; exact n
  · rw [upd_ne (ne_of_none q hn)]; exact q
  · rw [upd_ne (ne_of_none q hn)]; exact q
  · rw [upd_ne (ne_of_none q hn), q]; simp
  · by_cases hb : b = p
    · subst hb; rw [upd_same] at e; cases e; exact new
    · rw [upd_ne hb] at e
      refine (I.hok b u e).stay (fun c v hc q => k c v (fun hm => ?_) q) (fun c q => by rw [upd_ne (ne_of_none q hn)]; exact q) fun c xs q => by rw [upd_ne (ne_of_none q hn)]; exact q
      have z := (hch c hm).1
      rcases hc with hc | hc
      · rw [hc, e] at z; cases z
      · rw [hc] at z; cases z
end

/-! ### enumerate -/
def Ite (κ : SK) : It :=
  ⟨fun i H => ∃ xs x, κ.has H xs ∧ xs[i]? = some x, fun i H v H' => ∃ p x, v = .ref p ∧ H p = none ∧ H' = upd H p (.tup [.int i, x]) ∧ ∀ xs, κ.has H xs → xs[i]? = some x, fun i H => ∃ xs, κ.has H xs ∧ xs.length = i⟩
theorem turn_enum {P : Program} {w : World} {K : PySem.W.Frag} {elts : List Expr} {x1 : Nat} {tpos : Pos} (κ : SK) (e it : Addr) (hei : e ≠ it) :
    Turn P w K (.Tuple elts x1 tpos) (Ite κ) [e, it] e (fun i h => (∃ old, IsEnum h e it i old) ∧ κ.own it i h) where
  mem := by simp
  obj := fun i h st b hb => by
    obtain ⟨⟨old, he⟩, ho⟩ := st
    simp only [List.mem_cons, List.not_mem_nil, or_false] at hb
    rcases hb with rfl | rfl
    · exact ⟨_, he, fun v z => by
        have z' : Data.fields _ = Data.cell v := z
        cases z'⟩
    · obtain ⟨o, h1, h2, _⟩ := SK.own_obj ho
      exact ⟨o, h1, h2⟩
  keep := fun i h h' st k => by
    obtain ⟨⟨old, he⟩, ho⟩ := st
    exact ⟨⟨old, k e (by simp) _ he⟩, SK.own_at ho fun o q => k it (by simp) o q⟩
  item := by
    intro X hP hw hK hc i pins s σ H E I hf st hg
    subst hP hw hK
    obtain ⟨⟨old, he⟩, ho⟩ := st
    obtain ⟨xs, x, hx, hxi⟩ := hg
    have hlt : i < xs.length := (List.getElem?_eq_some_iff.mp hxi).1
    have hh : X.A.in1.handled = none := I.ok.hd hc
    obtain ⟨Pp, St, D, hst, hrel, hown⟩ := sk_draws (A := X.A.in1) I hx ho (hf it (by simp)).1 hh
    have hef : e ∉ it :: κ.box := fun z => by
      rcases List.mem_cons.mp z with z | z
      · exact hei z
      · exact SK.box_some hx z (hf e (by simp)).1
    refine wpAny_pyNext_enum_itemD D he hst hlt hei hef fun y h' tk hy ho' hst' hT hsz hk => ⟨_, rfl, ?_⟩
    refine wpAny_letOwnedTupleGo_enum ho' fun h'' he'' hs'' => ?_
    obtain ⟨x', hx', rx⟩ := hrel i y hy
    have exx : x' = x := Option.some.inj (hx'.symm.trans hxi)
    subst exx
    have kk : ∀ b ob, b ∉ [e, it] → s.heap.get? b = some ob → h''.get? b = some ob := fun b ob hb q =>
      (hs''.2 b (fun z => hb (by simp [z]))).trans (hk b ob (fun z => hb (by simp [z])) (fun z => hb (by simp [z])) q)
    have ne : s.heap.objs.size ≠ e := Nat.ne_of_gt (Heap.lt_size he)
    have hT' : h''.get? s.heap.objs.size = some { cls := .type "tuple", data := .seq #[.int i tk, y] } := (hs''.2 _ ne).trans hT
    refine ⟨.ref s.heap.objs.size, upd H s.heap.objs.size (.tup [.int i, x']), I.turnedNew (tk := tk + 1) hf kk (Nat.le_refl _) ⟨⟨(by show 2 ≤ sizeLine; decide), _, hT', rfl⟩, [.int i tk, y], .cons ⟨tk, rfl⟩ (.cons rx .nil), _, hT', rfl, 0, rfl⟩, rfl,
      ⟨_, x', rfl, I.hok.fresh (Nat.le_refl _), rfl, fun ys hy' => by rw [SK.inj hy' hx]; exact hxi⟩, ⟨⟨y, by simpa using he''⟩, SK.own_at (hown _ _ hst') fun o q => (hs''.2 it (Ne.symm hei)).trans q⟩, fun b hb => ?_⟩
    obtain ⟨o, hob, _⟩ : ∃ o, s.heap.get? b = some o ∧ True := by
      simp only [List.mem_cons, List.not_mem_nil, or_false] at hb
      rcases hb with rfl | rfl
      · exact ⟨_, he, trivial⟩
      · obtain ⟨o, h1, _⟩ := SK.own_obj ho; exact ⟨o, h1, trivial⟩
    rw [upd_ne (Nat.ne_of_lt (Heap.lt_size hob))]
    exact (hf b hb).1
  done := by
    intro X hP hw hK hc i pins s σ H E I hf st hg
    subst hP hw hK
    obtain ⟨⟨old, he⟩, ho⟩ := st
    obtain ⟨xs, hx, hlen⟩ := hg
    have hh : X.A.in1.handled = none := I.ok.hd hc
    obtain ⟨Pp, St, D, hst, hrel, hown⟩ := sk_draws (A := X.A.in1) I hx ho (hf it (by simp)).1 hh
    have hst' : St xs.length s.heap := by rw [hlen]; exact hst
    refine wpAny_pyNext_enum_endD D he hst' fun h' hx' => ⟨rfl, ?_⟩
    have f := hf it (by simp)
    exact I.turned (t' := s.toks) (fun b o hb q => hx' b o hb q) f.1 f.2.1 f.2.2.2.1 f.2.2.2.2.1 f.2.2.2.2.2
  self := fun _ _ _ _ _ st h => let ⟨⟨_, he⟩, _⟩ := st; wpAny_pyIter_enum he h
open AutoSeq1 (wpAny_loadPart') in
set_option maxHeartbeats 4000000 in
theorem meets_enumerate_newT (l : Addr) (items : Array Value) (n : Nat) (dct : Option Addr) (sl : Array (Option Value)) :
    Meets (Builtin.«enumerate.__new__» ⟨[.type "enumerate", .ref l], []⟩) (fun _ R s => s.heap.get? l = some { cls := .type "tuple", dict := dct, data := .seq items n, slots := sl } ∧
      R (.ok (.ret (.ref (s.heap.push { cls := .type "tuple_iterator", data := .fields #[.ref l, .int 0 0] }).objs.size)))
        { s with heap := (s.heap.push { cls := .type "tuple_iterator", data := .fields #[.ref l, .int 0 0] }).push { cls := .type "enumerate", data := .fields #[.none, .bool false, .ref s.heap.objs.size, rawInt 0, .none, .none] } }) :=
  .of_wp fun prog w A R s h => by
    obtain ⟨hp, g, d, tk, os⟩ := s; obtain ⟨hl, h⟩ := h
    have hsub := sub_enumerate
    have hL : Heap.IsTuple (Shared.heap ⟨hp, g, d, tk, os⟩) l items := ⟨_, hl, rfl, n, rfl⟩
    wp_walk using wpAny_loadPart' hl
    refine wpAny_stack_any fun st => wpAny_pure ?_
    split
    · rename_i c _ _ _ _ _
      cases (c == Value.type "enumerate")
      · wp_walk using wpAny_loadPart' hl, wpAny_pyIter_tuple hL
        exact ⟨_, rfl, h⟩
      · wp_walk using wpAny_loadPart' hl, wpAny_pyIter_tuple hL
        exact ⟨_, rfl, h⟩
    · wp_walk using wpAny_loadPart' hl, wpAny_pyIter_tuple hL
      exact ⟨_, rfl, h⟩
theorem call_enumerate_tuple {prog : Program} {w : World} {A : Around} {E : Value → Shared → Prop} {s : Shared} {l : Addr} {items : Array Value} {Q : Value → Shared → Prop} (hL : s.heap.IsTuple l items)
    (h : ∀ h', IsEnum h' (s.heap.objs.size + 1) s.heap.objs.size 0 .none → h'.IsTupleIter s.heap.objs.size l 0 → h'.objs.size = s.heap.objs.size + 2 →
      (∀ b o, s.heap.get? b = some o → h'.get? b = some o) → Q (.ref (s.heap.objs.size + 1)) { s with heap := h' }) :
    wpAny (model prog w) A (call (.type "enumerate") [.ref l]) Q E s := by
  obtain ⟨⟨c, dct, dt, sl⟩, hl, hc, n, hd⟩ := hL
  replace hc : c = .type "tuple" := hc
  replace hd : dt = .seq items n := hd
  subst hc hd
  refine callType_new F.called_enumerate (by decide) (F.typeCall_enumerate_1 _) (F.newCall_enumerate_1 _) (fun obj => F.args_object_init_2 obj _) F.entry_enumerate_new
    (meets_enumerate_newT l items n dct sl) ⟨hl, ?_⟩
  have hz : (s.heap.push { cls := .type "tuple_iterator", data := .fields #[.ref l, .int 0 0] }).objs.size = s.heap.objs.size + 1 := Heap.size_push ..
  show _ ∧ _
  rw [hz]
  have he : IsEnum ((s.heap.push { cls := .type "tuple_iterator", data := .fields #[.ref l, .int 0 0] }).push
      { cls := .type "enumerate", data := .fields #[.none, .bool false, .ref s.heap.objs.size, rawInt 0, .none, .none] }) (s.heap.objs.size + 1) s.heap.objs.size 0 .none := by
    have := Heap.get?_push_size (s.heap.push { cls := .type "tuple_iterator", data := .fields #[.ref l, .int 0 0] })
      (o := { cls := .type "enumerate", data := .fields #[.none, .bool false, .ref s.heap.objs.size, rawInt 0, .none, .none] }) rfl
    rw [hz] at this; exact this
  refine ⟨⟨_, he, rfl⟩, h _ he ⟨_, Heap.get?_push_of_some _ (Heap.get?_push_size _ rfl), rfl, rfl⟩ (by rw [Heap.size_push, hz]) fun b o x => Heap.get?_push_of_some _ (Heap.get?_push_of_some _ x)⟩

section
variable {X : Cx} {pins : List (Addr × Obj)} {σ : St} {H : Hp} {s : Shared}
/-- enumerate(..) of a list, a tuple, a text -/
theorem call_enum {κ : SK} {xs : List V} {u : Value} {E : Value → Shared → Prop} {Q : Value → Shared → Prop} (I : Inv X pins σ H s) (hv : κ.has H xs) (r : RelV κ.val u)
    (h : ∀ h', IsEnum h' (s.heap.objs.size + 1) s.heap.objs.size 0 .none → κ.own s.heap.objs.size 0 h' → (∀ b o, s.heap.get? b = some o → h'.get? b = some o) → Q (.ref (s.heap.objs.size + 1)) { s with heap := h' }) :
    wpAny (model X.prog X.w) X.A (call (.type "enumerate") [u]) Q E s := by
  cases κ with
  | lst a =>
    cases (show u = Value.ref a from r)
    obtain ⟨_, its, n, rr, e⟩ := Rd.ok hv I.hok
    exact call_enumerate_list ⟨_, e, rfl, n, rfl⟩ fun h' a1 a2 _ a4 => h h' a1 a2 a4
  | tup a =>
    cases (show u = Value.ref a from r)
    obtain ⟨_, its, rr, e⟩ := Rd.ok hv I.hok
    exact call_enumerate_tuple e fun h' a1 a2 _ a4 => h h' a1 a2 a4
  | str x =>
    obtain ⟨t, q⟩ := (show ∃ t, u = Value.str x t from r)
    subst q
    exact call_enumerate_str fun h' a1 a2 _ a4 => h h' a1 ⟨t, a2⟩ a4
def iEnum (ta : TA) : TI := fun σ H R => ta σ H fun vs H1 => ∃ κ : SK, vs = [κ.val] ∧ (∃ xs, κ.has H1 xs) ∧ R (Ite κ) H1
theorem pi_enum {a : Expr} {ta : TA} {p pos : Pos} {elts : List Expr} {x1 : Nat} {tpos : Pos} (hg : Gl X "enumerate") (hm : X.mg "enumerate" = none) (ha : PA X [a] ta)
    (hs : starEach [a] X.env = [(false, eval a X.env)] := by rfl) : PI X (.Tuple elts x1 tpos) (.Call (.Name "enumerate" p) [a] [] pos) (iEnum ta) := by
  intro pins s σ H R I h
  refine Call_ (ld_blt I hg hm boot_enumerate (PyProof.Rows.callWith_type1 (thn (ha pos pins s σ H _ I h) fun us s1 ⟨vs, H1, I1, r1, q1⟩ => ?_) hs rfl))
  obtain ⟨κ, e, ⟨xs, hx⟩, q⟩ := q1
  subst e
  obtain ⟨u, rfl, ru⟩ := vals1 r1
  refine call_enum I1 hx ru fun h' he hi hk => ?_
  refine wpAny_pyIter_enum he ⟨s1.heap.objs.size + 1, [s1.heap.objs.size + 1, s1.heap.objs.size], _, _, H1, rfl, I1.kept (t' := s1.toks) hk, turn_enum κ _ _ (Nat.ne_of_gt (Nat.lt_succ_self _)), ⟨⟨_, he⟩, hi⟩, fun b hb => ?_, q⟩
  have hge : s1.heap.objs.size ≤ b := by
    simp only [List.mem_cons, List.not_mem_nil, or_false] at hb
    rcases hb with rfl | rfl
    · exact Nat.le_succ _
    · exact Nat.le_refl _
  exact I1.fpOk hge (I1.hok.fresh hge)
end

/-! ### zip of two -/
structure ZA (z TI TO i1 i2 : Addr) (fp1 fp2 : List Addr) : Prop where
  TIz : TI ≠ z
  TOz : TO ≠ z
  i1z : i1 ≠ z
  i2z : i2 ≠ z
  TITO : TI ≠ TO
  TIi1 : TI ≠ i1
  TIi2 : TI ≠ i2
  TOi1 : TO ≠ i1
  TOi2 : TO ≠ i2
  i12 : i1 ≠ i2
  z1 : z ∉ fp1
  z2 : z ∉ fp2
  o1 : TO ∉ fp1
  o2 : TO ∉ fp2
  a1 : i2 ∉ fp1
  a2 : i1 ∉ fp2
section
variable {prog : Program} {w : World} {A : Around} {E : Value → Shared → Prop} {s : Shared}
end
section
variable {X : Cx}
end

/-! ### the forms one uses -/
theorem for_enum {κ : SK} {xs : List V} {g : TG} {tb : TS} {D : Ends} {σ : St} {H : Hp} (Pv : Nat → St → Hp → Prop) (h0 : Pv 0 σ H) (hl : ∀ i σ H, i ≤ xs.length → Pv i σ H → κ.has H xs)
    (hs : ∀ (i : Nat) x σ H p, xs[i]? = some x → Pv i σ H → H p = none → g (.ref p) σ (upd H p (.tup [.int i, x])) fun σ2 H2 => tb { D with nx := Pv (i + 1), ct := Pv (i + 1), bk := D.nx } σ2 H2) (hd : ∀ σ H, Pv xs.length σ H → D.nx σ H) :
    ∃ W : Nat → Nat → St → Hp → Prop, (∃ m, W 0 m σ H) ∧ ∀ i m σ H, W i m σ H →
      ((Ite κ).stop i H ∧ D.nx σ H) ∨ ((Ite κ).go i H ∧ ∃ N : St → Hp → Prop, (∀ σ' H', N σ' H' → ∃ m', m' < m ∧ W (i + 1) m' σ' H') ∧ ∀ x H', (Ite κ).yld i H x H' → g x σ H' fun σ2 H2 => tb { D with nx := N, ct := N, bk := D.nx } σ2 H2) := by
  refine ⟨fun i m σ H => i ≤ xs.length ∧ m = xs.length - i ∧ Pv i σ H, ⟨xs.length, Nat.zero_le _, rfl, h0⟩, fun i m σ H ⟨hi, hm, hp⟩ => ?_⟩
  have a1 := hl i σ H hi hp
  rcases Nat.lt_or_ge i xs.length with lt | ge
  · refine .inr ⟨⟨xs, xs[i], a1, List.getElem?_eq_getElem lt⟩, Pv (i + 1), fun σ' H' hn => ⟨xs.length - (i + 1), by omega, by omega, rfl, hn⟩, fun x H' hy => ?_⟩
    obtain ⟨p, x', rfl, hpn, rfl, e1⟩ := hy
    exact hs i x' σ H p (e1 xs a1) hp hpn
  · have e : i = xs.length := by omega
    subst e
    exact .inl ⟨⟨xs, a1, rfl⟩, hd σ H hp⟩

/-! ### a slice of a text -/
def cutS (z : Str) (lo hi : Option Int) : Str := ⟨((z.cps.toList.drop (HT.sIx z.length 0 lo)).take (HT.sIx z.length z.length hi - HT.sIx z.length 0 lo)).toArray⟩
theorem clip_s (i : Int) (n d : Nat) : max 0 (min (if i < 0 then i + (n : Int) else i) (n : Int)) = ((HT.sIx n d (some i) : Nat) : Int) := by
  simp only [HT.sIx]
  split
  · omega
  · omega
theorem range_cut (a b : Nat) : sliceRange (a : Int) (b : Int) 1 = (List.range (b - a)).map fun k => a + k := by
  unfold sliceRange
  simp only [show ((1 : Int) > 0) = True from by simp, if_true]
  by_cases hlt : (a : Int) < b
  · have e3 : (((b : Int) - a + 1 - 1) / 1).toNat = b - a := by
      rw [Int.ediv_one]; omega
    simp only [hlt, if_true, e3]
    refine List.map_congr_left fun k _ => ?_
    omega
  · have : b - a = 0 := by omega
    simp [hlt, this]
theorem sliceIdx_cut (lo hi : Option Int) (n : Nat) : Builtin.Str.strSliceIndices lo hi 1 n = (List.range (HT.sIx n n hi - HT.sIx n 0 lo)).map fun k => HT.sIx n 0 lo + k := by
  unfold Builtin.Str.strSliceIndices
  simp only [show ((1 : Int) > 0) = True from by simp, if_true]
  cases lo with
  | none =>
    cases hi with
    | none => exact range_cut 0 n
    | some j => dsimp only; rw [clip_s j n n]; exact range_cut 0 _
  | some i =>
    cases hi with
    | none => dsimp only; rw [clip_s i n 0]; exact range_cut _ n
    | some j => dsimp only; rw [clip_s i n 0, clip_s j n n]; exact range_cut _ _
theorem slice_text (z : Str) (t : Tok) (l u : Option (Int × Tok)) : ∀ (Q : Value → Shared → Prop) (s : Shared), z.length ≤ sizeLine → (∀ t' s', s'.heap = s.heap → s'.gens = s.gens → s'.drawn = s.drawn → s'.os = s.os → Q (.str (cutS z (l.map (·.1)) (u.map (·.1))) t') s') → (sliceMade z t l u none).post Q s := by
  intro Q s hz h
  have hidx := sliceIdx_cut (l.map (·.1)) (u.map (·.1)) z.length
  have hle : HT.sIx z.length z.length (u.map (·.1)) ≤ z.length := HT.sIx_le _ _ (Nat.le_refl _) _
  have hlo : HT.sIx z.length 0 (l.map (·.1)) ≤ z.length := HT.sIx_le _ _ (Nat.zero_le _) _
  have hzl : z.length = z.cps.toList.length := by simp [Str.length]
  have cut : ((slicePicked z l u none).filterMap (z.cps[·]?)) = (z.cps.toList.drop (HT.sIx z.length 0 (l.map (·.1)))).take (HT.sIx z.length z.length (u.map (·.1)) - HT.sIx z.length 0 (l.map (·.1))) := by
    have p := StrLaws.picks z.cps.toList (HT.sIx z.length z.length (u.map (·.1)) - HT.sIx z.length 0 (l.map (·.1))) (HT.sIx z.length 0 (l.map (·.1))) (by omega)
    rw [← p]
    unfold slicePicked
    simp only [Option.map_none, Option.getD_none]
    rw [hidx]
    congr 1
    funext k
    simp
  unfold sliceMade
  split
  · rename_i c
    have whole : cutS z (l.map (·.1)) (u.map (·.1)) = z := by
      unfold cutS
      have e : (slicePicked z l u none).length = z.length := by
        simp only [Bool.and_eq_true, beq_iff_eq] at c
        exact c.2
      have e' : HT.sIx z.length z.length (u.map (·.1)) - HT.sIx z.length 0 (l.map (·.1)) = z.length := by
        unfold slicePicked at e
        simp only [Option.map_none, Option.getD_none] at e
        rw [hidx] at e
        simpa using e
      have e0 : HT.sIx z.length 0 (l.map (·.1)) = 0 := by omega
      rw [e', e0, List.drop_zero, hzl, List.take_length]
    have := h t s rfl rfl rfl rfl
    rw [whole] at this
    exact this
  · rw [cut]
    have hl' : (⟨((z.cps.toList.drop (HT.sIx z.length 0 (l.map (·.1)))).take (HT.sIx z.length z.length (u.map (·.1)) - HT.sIx z.length 0 (l.map (·.1)))).toArray⟩ : Str).length ≤ sizeLine := by
      have : (⟨((z.cps.toList.drop (HT.sIx z.length 0 (l.map (·.1)))).take (HT.sIx z.length z.length (u.map (·.1)) - HT.sIx z.length 0 (l.map (·.1)))).toArray⟩ : Str).length ≤ z.length := by
        simp only [Str.length, List.size_toArray, List.length_take, List.length_drop]
        have : z.cps.size = z.length := rfl
        omega
      omega
    first
      | exact ⟨hl', h _ _ rfl rfl rfl rfl⟩
      | exact h _ _ rfl rfl rfl rfl
def rSlS : V → Option Int → Option Int → Hp → VK → Prop := fun x lo hi H Q => ∃ z, x = .str z ∧ z.length ≤ sizeLine ∧ Q (.str (cutS z lo hi)) H
theorem sl_str {X : Cx} : SlR X rSlS := by
  intro pins s σ H x v vl vu lo hi sl Q I rx hs pl pu h
  obtain ⟨z, rfl, hz, q⟩ := h
  obtain ⟨t, rfl⟩ := rx
  refine ⟨"str", _, F.slot_str_getitem.lookup, typeIs_str s z t, ?_⟩
  have part : ∀ {v : Value} {o : Option Int}, IsPart v o → ∃ p : Option (Int × Tok), v = partValue p ∧ p.map (·.1) = o := fun {v o} p => by
    cases p with
    | none => exact ⟨none, rfl, rfl⟩
    | int i t => exact ⟨some (i, t), rfl, rfl⟩
  obtain ⟨l, rfl, rfl⟩ := part pl
  obtain ⟨u, rfl, rfl⟩ := part pu
  refine wpAny_getItem_str_slice (l := l) (u := u) (st := none) hs rfl (slice_text z t l u _ s hz fun t' s' e1 e2 e3 e4 => ⟨.str _, H, ?_, ⟨t', rfl⟩, q⟩)
  obtain ⟨hp, g, d, tk, os⟩ := s'
  cases e1; cases e2; cases e3; cases e4
  exact I.tok tk
theorem cutS_to (z : Str) (k : Nat) : (cutS z none (some (k : Int))).cps.toList = z.cps.toList.take k := by
  unfold cutS
  have hzl : z.length = z.cps.toList.length := by simp [Str.length]
  simp only [HT.sIx_nat, HT.sIx_none, List.drop_zero, Nat.sub_zero]
  rcases Nat.le_total k z.length with h | h
  · rw [Nat.min_eq_left h]
  · rw [Nat.min_eq_right h, hzl, List.take_length]
    exact (List.take_of_length_le (by omega)).symm

/-! ### isinstance of one class -/
theorem call_isinst {X : Cx} : CallR X (.builtin "isinstance") (fun vs H Q => ∃ x t T b, vs = [x, .ty T] ∧ TyOf X.K H x t ∧ PySem.W.kitOne X.K t (.type T) = some b ∧ Q (.bl b) H) := by
  intro pins s σ H xs us Q I r h
  obtain ⟨x, t, T, b, rfl, ty, e, q⟩ := h
  obtain ⟨u, v, rfl, ru, rv⟩ := vals2 r
  cases (show v = Value.type T from rv)
  exact isinst_ok I ru ty e fun tk => ⟨.bl b, H, I.tok tk, rfl, q⟩
end L2


set_option Elab.async false
set_option linter.all false
set_option maxRecDepth 100000
set_option maxHeartbeats 4000000
/-! defs of the text by name; a pool of two ints that is drawn from -/
namespace L2
open PySem PySem.Spec PyProof.Rows

theorem csc {X : Cx} {scope : Scope} {NL : List Str} {ix : List Nat} (esc : Scope) (N : List Str) (h1 : X.env.scope = esc := by rfl) (h2 : X.N = N := by rfl) (c1 : scope.kind = .function := by rfl)
    (c2 : ∀ y ∈ scope.names, y.2 ≠ .cell := by decide +kernel) (c3 : ∀ y ∈ scope.names, y.2 = .local → scope.names.lookup y.1 = some .local := by decide +kernel)
    (c4 : ∀ y ∈ scope.names, y.2 = .free → esc.names.lookup y.1 = some .cell ∨ esc.names.lookup y.1 = some .free := by decide +kernel)
    (c5 : ∀ j ∈ ix, (N[j]?).bind (fun x => scope.names.lookup x) = some .free := by decide +kernel) : CompScope X scope NL ix where
  kind := c1
  cell := c2
  names := c3
  free := fun y hy hf => by
    have := c4 y hy hf
    rw [← h1] at this
    exact this
  cap := fun j hj => by
    have := c5 j hj
    rw [h2]
    cases e : N[j]? with
    | none => rw [e] at this; cases this
    | some x => rw [e] at this; exact ⟨x, rfl, this⟩

/-- a def of the text keeps its promise -/
def Has (P : Program) (w : World) (K : PySem.W.Frag) (mg : Str → Option Value) (base : Heap) (x : Str) (k : Nat) (ps : List Str) (sp : Sp) : Prop :=
  ∃ f fd, FnOk P w K mg base CX0 k f fd ps sp ∧ Binds K fd ps [] ∧ PySem.W.keepIn K (.ref f) = true ∧ mg x = some (.ref f)
section
variable {P : Program} {w : World} {K : PySem.W.Frag} {mg : Str → Option Value} {base : Heap}
theorem Has.mono {x : Str} {j k : Nat} {ps : List Str} {sp : Sp} (G : Has P w K mg base x j ps sp) (h : j ≤ k) : Has P w K mg base x k ps sp :=
  let ⟨f, fd, F, r⟩ := G; ⟨f, fd, F.mono h, r⟩
/-- a def as it stands behind the top -/
def Df (K : PySem.W.Frag) (mg : Str → Option Value) (x : Str) (st : Stmt) : Prop := ∃ f fd, Fun K x x st f fd ∧ mg x = some (.ref f)
theorem Df.has {x : Str} {st : Stmt} {N ps : List Str} {k : Nat} {sp : Sp} (D : Df K mg x st) (S : FnScope N ps (defScope st))
    (hb : ∀ (kV doc pm : Value) (an : Option Addr) (cdv ct : Value) (us : List Value), us.length = ps.length → bindArgs (PySem.W.fnOf x x (defArgs st) (defBody st) (defScope st) .none kV doc pm an cdv ct) ⟨us, []⟩ = pure (ps.zip us))
    (len : ∀ vs H Q E, sp vs H Q E → vs.length = ps.length)
    (hbody : ∀ (f : Addr) (cdv : Value) (A : Around) (outer : List Env) (s : Shared) (H : Hp) (vs : List V) (Q : VK) (E : XK), Room k (A.deeper (envOfC x (defScope st) s.heap.objs.size f cdv)) → sp vs H Q E →
      ∃ t, PSs (cxOf CX0 P w K mg base N x (defScope st) f cdv A outer s H E).nox (defBody st) t ∧ t { nx := fun _ H' => Q .non H', rt := Q } (start N vs) H) : Has P w K mg base x (k + 1) ps sp := by
  obtain ⟨f, fd, F, m⟩ := D
  exact ⟨f, fd, F.ok S len fun cdv A outer s H vs Q E hr h => hbody f cdv A outer s H vs Q E hr h, F.binds hb, F.kp, m⟩
end
theorem pe_callH {X : Cx} {x : Str} {k : Nat} {ps : List Str} {sp : Sp} {p pos : Pos} {e : Expr} {es : List Expr} {t : TA} (G : Has X.prog X.w X.K X.mg X.base x k ps sp) (hr : Room k X.A) (hg : Gl X x) (ha : PA X (e :: es) t)
    (hdb : (x == ("__debug__" : Str)) = false := by decide) (he : starEach (e :: es) X.env = (false, eval e X.env) :: starEach es X.env := by rfl) (hpl : (backTo pos (starEach es X.env)).any (·.1) = false := by rfl) :
    PE X (.Call (.Name x p) (e :: es) [] pos) (tCall sp [] E0 t) := by
  obtain ⟨f, fd, F, b, kp, m⟩ := G
  exact pe_call F hr hg m kp b .nil pass0 ha hdb he hpl

/-- Python's own names mean what they mean -/
structure Blt (mg : Str → Option Value) : Prop where
  len : mg "len" = none
  range : mg "range" = none
  zip : mg "zip" = none
  enumerate : mg "enumerate" = none
  max : mg "max" = none
  min : mg "min" = none
  int_ : mg "int" = none
  str_ : mg "str" = none
  bool_ : mg "bool" = none
  list_ : mg "list" = none
  tuple_ : mg "tuple" = none
  isinstance : mg "isinstance" = none

abbrev Pool (H : Hp) (p : Addr) : Prop := ∃ x y : Int, H p = some (.lst [.int x, .int y])
structure Kp (p : Addr) (H H' : Hp) : Prop where
  pool : Pool H' p
  keep : ∀ b o, b ≠ p → H b = some o → H' b = some o
section
variable {p q : Addr} {H H1 H2 : Hp} {o : HO}
theorem Kp.refl (h : Pool H p) : Kp p H H := ⟨h, fun _ _ _ e => e⟩
theorem Kp.trans (a : Kp p H H1) (b : Kp p H1 H2) : Kp p H H2 := ⟨b.pool, fun c u hc e => b.keep c u hc (a.keep c u hc e)⟩
theorem Kp.new (a : Kp p H H1) (hq : H1 q = none) : Kp p H (upd H1 q o) := by
  obtain ⟨⟨x, y, e⟩, k⟩ := a
  refine ⟨⟨x, y, by rw [upd_ne (ne_of_none e hq)]; exact e⟩, fun c u hc h => ?_⟩
  have := k c u hc h
  rw [upd_ne (ne_of_none this hq)]; exact this
/-- what was made since may be changed -/
theorem Kp.write (a : Kp p H H1) (hq : H q = none) (hp : q ≠ p) : Kp p H (upd H1 q o) := by
  obtain ⟨⟨x, y, e⟩, k⟩ := a
  refine ⟨⟨x, y, by rw [upd_ne (Ne.symm hp)]; exact e⟩, fun c u hc h => ?_⟩
  rw [upd_ne (ne_of_none h hq)]; exact k c u hc h
theorem Pool.ne (h : Pool H p) (hq : H q = none) : q ≠ p := by
  obtain ⟨x, y, e⟩ := h
  exact Ne.symm (ne_of_none e hq)
end
theorem bt_len : bootBuiltins "len" = some (.builtin "len") := by decide +kernel
theorem bt_max : bootBuiltins "max" = some (.builtin "max") := by decide +kernel
theorem bt_min : bootBuiltins "min" = some (.builtin "min") := by decide +kernel
theorem bt_all : bootBuiltins "all" = some (.builtin "all") := by decide +kernel
theorem bt_isinstance : bootBuiltins "isinstance" = some (.builtin "isinstance") := by decide +kernel
theorem bt_int : bootBuiltins "int" = some (.type "int") := by decide +kernel
theorem bt_str : bootBuiltins "str" = some (.type "str") := by decide +kernel
theorem bt_bool : bootBuiltins "bool" = some (.type "bool") := by decide +kernel
theorem bt_tuple : bootBuiltins "tuple" = some (.type "tuple") := by decide +kernel
theorem Same.new {H0 H : Hp} {q : Addr} {o : HO} (h : Same H0 H) (hq : H q = none) : Same H0 (upd H q o) := fun b u e => by
  have := h b u e
  rw [upd_ne (ne_of_none this hq)]; exact this
theorem Same.write {H0 H : Hp} {q : Addr} {o : HO} (h : Same H0 H) (hq : H0 q = none) : Same H0 (upd H q o) := fun b u e => by
  rw [upd_ne (ne_of_none e hq)]; exact h b u e
end L2


set_option Elab.async false
set_option linter.all false
set_option maxRecDepth 100000
set_option maxHeartbeats 4000000
/-! texts: startswith, join, a text times an int -/
namespace L2
open PySem PySem.Spec PyProof.Rows
section
variable {X : Cx}
theorem strsAre_of : ∀ {ys : List Str} {us : List Value}, Vals (ys.map V.str) us → StrsAre us ys
  | [], [], _ => .nil
  | [], _ :: _, h => nomatch h
  | _ :: _, [], h => nomatch h
  | y :: r, u :: us, h => by
    cases h with
    | cons a b =>
      obtain ⟨t, rfl⟩ := a
      exact .cons y t (strsAre_of b)
theorem mt_join : MtR X "str.join" (fun x vs H Q => ∃ z a ys, x = .str z ∧ vs = [.ref a] ∧ SqL X.K H a (ys.map V.str) ∧ (ys.map (·.length)).sum + ys.length * z.length ≤ 16777216 ∧ Q (.str (Txt.join z ys)) H) := by
  intro pins s σ H x xs v us Q I rx rv h
  obtain ⟨z, a, ys, rfl, rfl, hl, hok, q⟩ := h
  obtain ⟨t, rfl⟩ := rx
  obtain ⟨u, rfl, ru⟩ := rv.one
  cases (show u = Value.ref a from ru)
  obtain ⟨its, r, ht, hz⟩ := I.list hl
  exact join_list ht.isList (strsAre_of (by simpa using r)) hok fun t' k => ⟨.str _, H, I.tok k, ⟨t', rfl⟩, q⟩
theorem op_mul_str : OpR X (binaryOp .Mult) (fun x y H Q => ∃ z n, x = .str z ∧ y = .int n ∧ MulOk z n ∧ Q (.str (Txt.mul z n)) H) := by
  intro pins s σ H x y v u Q I rx ry h
  obtain ⟨z, n, rfl, rfl, hok, q⟩ := h
  obtain ⟨t, rfl⟩ := rx
  obtain ⟨t', rfl⟩ := ry
  exact SB.mul hok fun t' k => ⟨.str _, H, I.tok k, ⟨t', rfl⟩, q⟩
/-! ### == of lists, of tuples: flat items -/
def eqAtJ (xs ys : List V) (j : Nat) : Bool := match xs[j]?, ys[j]? with
  | some x, some y => eqV x y
  | _, _ => false
def eqVs (xs ys : List V) : Bool := xs.length == ys.length && (List.range xs.length).all (eqAtJ xs ys)
theorem eqVs_ints (ns ms : List Int) : eqVs (ns.map V.int) (ms.map V.int) = decide (ns = ms) := by
  rw [Bool.eq_iff_iff]
  unfold eqVs
  simp only [Bool.and_eq_true, beq_iff_eq, List.length_map, List.all_eq_true, List.mem_range, decide_eq_true_eq]
  constructor
  · rintro ⟨h1, h2⟩
    apply List.ext_getElem h1
    intro j a b
    have := h2 j a
    unfold eqAtJ at this
    rw [List.getElem?_map, List.getElem?_map, List.getElem?_eq_getElem a, List.getElem?_eq_getElem b] at this
    simpa [eqV] using this
  · rintro rfl
    refine ⟨rfl, fun j hj => ?_⟩
    unfold eqAtJ
    rw [List.getElem?_map, List.getElem?_eq_getElem hj]
    simp [eqV]
theorem flat_ints (ns : List Int) : (ns.map V.int).all flatV = true := by
  rw [List.all_eq_true]; intro x hx; obtain ⟨n, _, rfl⟩ := List.mem_map.mp hx; rfl
theorem eqAt_items {A : Around} {s : Shared} {xs ys : List V} {us ws : List Value} (r1 : Vals xs us) (r2 : Vals ys ws) (f1 : xs.all flatV = true) (f2 : ys.all flatV = true) (j : Nat) (h1 : j < us.toArray.size) (h2 : j < ws.toArray.size) :
    SeqAt.EqAt A s us.toArray[j] ws.toArray[j] (eqAtJ xs ys j) := by
  have g1 : j < xs.length := by rw [r1.length]; simpa using h1
  have g2 : j < ys.length := by rw [r2.length]; simpa using h2
  obtain ⟨u, e1, q1⟩ := r1.get (List.getElem?_eq_getElem g1)
  obtain ⟨v, e2, q2⟩ := r2.get (List.getElem?_eq_getElem g2)
  have d1 : us.toArray[j] = u := by
    rw [List.getElem?_eq_getElem (by simpa using h1)] at e1
    simpa using Option.some.inj e1
  have d2 : ws.toArray[j] = v := by
    rw [List.getElem?_eq_getElem (by simpa using h2)] at e2
    simpa using Option.some.inj e2
  rw [d1, d2]
  unfold eqAtJ
  rw [List.getElem?_eq_getElem g1, List.getElem?_eq_getElem g2]
  exact eqAt_V q1 q2 (List.all_eq_true.mp f1 _ (List.getElem_mem g1)) (List.all_eq_true.mp f2 _ (List.getElem_mem g2))
theorem op_eq_lst (hu : X.A.units < cLine) : OpR X (compareOp .Eq) (fun x y H Q => ∃ a b xs ys, x = .ref a ∧ y = .ref b ∧ SqL X.K H a xs ∧ SqL X.K H b ys ∧ xs.all flatV = true ∧ ys.all flatV = true ∧ Q (.bl (eqVs xs ys)) H) := by
  intro pins s σ H x y v u Q I rx ry h
  obtain ⟨a, b, xs, ys, rfl, rfl, h1, h2, f1, f2, q⟩ := h
  cases (show v = Value.ref a from rx)
  cases (show u = Value.ref b from ry)
  obtain ⟨us, r1, l1, _⟩ := I.list h1
  obtain ⟨ws, r2, l2, _⟩ := I.list h2
  have e1 := r1.length
  have e2 := r2.length
  by_cases hl : xs.length = ys.length
  · refine SeqAt.eq_listAt (e := eqAtJ xs ys) l1.isList l2.isList (by simp; omega) hu (fun j g1 g2 => eqAt_items r1 r2 f1 f2 j g1 g2) ⟨.bl _, H, I, rfl, ?_⟩
    have : eqVs xs ys = (List.range us.toArray.size).all (eqAtJ xs ys) := by
      unfold eqVs
      rw [List.size_toArray, ← e1, beq_iff_eq.mpr hl, Bool.true_and]
    rw [← this]; exact q
  · refine SeqAt.eq_list_lengthsAt l1.isList l2.isList (by simp; omega) hu ⟨.bl _, H, I, rfl, ?_⟩
    have : eqVs xs ys = false := by
      unfold eqVs
      have : (xs.length == ys.length) = false := by simpa using hl
      rw [this]; rfl
    rw [this] at q; exact q
end
/-! ### comprehensions over a list, enumerate, zip -/
section
variable {NL : List Str} {ix : List Nat} {g : TG} {tt : TT} {te : TE} {σ : St} {H1 : Hp} {Qs : Hp → Prop} {acc : Addr}
theorem comp_lst {K : PySem.W.Frag} {a : Addr} {xs : List V} (hn : xs.length < 1000) (Pv : Nat → List V → Hp → Prop)
    (hl : ∀ i ys H2, Pv i ys H2 → SqL K H2 a xs) (hacc : ∀ i ys H2, Pv i ys H2 → H2 acc = some (.lst ys) ∧ ys.length ≤ i) (h0 : Pv 0 [] (upd H1 acc (.lst []))) (hstop : ∀ ys H2, Pv xs.length ys H2 → Qs H2)
    (hturn : ∀ i x ys H2, xs[i]? = some x → Pv i ys H2 → g x (comp0 NL ix σ) H2 fun σ' H4 => σ'.drop NL.length = ix.map (fun j => σ.getD j none) ∧ tt σ' H4 fun b H5 =>
      if b = true then te σ' H5 fun v H6 => H6 acc = some (.lst ys) ∧ Pv (i + 1) (ys ++ [v]) (upd H6 acc (.lst (ys ++ [v]))) else Pv (i + 1) ys H5) :
    ∃ W : Nat → Nat → List V → Hp → Prop, (∃ m, W 0 m [] (upd H1 acc (.lst []))) ∧
    ∀ i m ys H2, W i m ys H2 → H2 acc = some (.lst ys) ∧ ys.length < sizeLine ∧
      (((Itl K a).stop i H2 ∧ Qs H2) ∨ ((Itl K a).go i H2 ∧ ∃ N : List V → Hp → Prop, (∀ ys' H', N ys' H' → ∃ m', m' < m ∧ W (i + 1) m' ys' H') ∧
        ∀ x H3, (Itl K a).yld i H2 x H3 → g x (comp0 NL ix σ) H3 fun σ' H4 => σ'.drop NL.length = ix.map (fun j => σ.getD j none) ∧ tt σ' H4 fun b H5 =>
          if b = true then te σ' H5 fun v H6 => H6 acc = some (.lst ys) ∧ N (ys ++ [v]) (upd H6 acc (.lst (ys ++ [v]))) else N ys H5)) := by
  refine comp_by xs.length hn Pv hacc h0 (fun ys H2 hp => ⟨⟨xs, hl _ _ _ hp, Nat.le_refl _⟩, hstop ys H2 hp⟩) fun i ys H2 hi hp => ?_
  have hs := hl _ _ _ hp
  refine ⟨⟨xs, xs[i], hs, List.getElem?_eq_getElem hi⟩, ?_⟩
  rintro x H3 ⟨rfl, hx⟩
  exact hturn i x ys H3 (hx xs hs) hp
end
theorem kit_int_bool (K : PySem.W.Frag) : PySem.W.kitOne K (.type "int") (.type "bool") = some false := by rfl
theorem kit_same (K : PySem.W.Frag) (T : String) : PySem.W.kitOne K (.type T) (.type T) = some true := by
  unfold PySem.W.kitOne
  rw [if_pos (beq_self_eq_true _)]
/-! ### a deck of three ints that is drawn from; the third counts -/
abbrev Deck (H : Hp) (p : Addr) (c : Int) : Prop := ∃ x y z : Int, H p = some (.lst [.int x, .int y, .int z]) ∧ 0 ≤ z ∧ z ≤ c
structure Kd (p : Addr) (c : Int) (H H' : Hp) : Prop where
  deck : Deck H' p c
  keep : ∀ b o, b ≠ p → H b = some o → H' b = some o
section
variable {p q : Addr} {H H1 H2 : Hp} {o : HO} {c d : Int}
theorem Deck.mono (h : Deck H p c) (e : c ≤ d) : Deck H p d := let ⟨x, y, z, a, b, f⟩ := h; ⟨x, y, z, a, b, Int.le_trans f e⟩
theorem Kd.mono (h : Kd p c H H1) (e : c ≤ d) : Kd p d H H1 := ⟨h.deck.mono e, h.keep⟩
theorem Kd.refl (h : Deck H p c) : Kd p c H H := ⟨h, fun _ _ _ e => e⟩
theorem Kd.trans (a : Kd p c H H1) (b : Kd p d H1 H2) : Kd p d H H2 := ⟨b.deck, fun k u hc e => b.keep k u hc (a.keep k u hc e)⟩
theorem Kd.new (a : Kd p c H H1) (hq : H1 q = none) : Kd p c H (upd H1 q o) := by
  obtain ⟨⟨x, y, z, e, r⟩, k⟩ := a
  refine ⟨⟨x, y, z, by rw [upd_ne (ne_of_none e hq)]; exact e, r⟩, fun b u hc h => ?_⟩
  have := k b u hc h
  rw [upd_ne (ne_of_none this hq)]; exact this
theorem Kd.write (a : Kd p c H H1) (hq : H q = none) (hp : q ≠ p) : Kd p c H (upd H1 q o) := by
  obtain ⟨⟨x, y, z, e, r⟩, k⟩ := a
  refine ⟨⟨x, y, z, by rw [upd_ne (Ne.symm hp)]; exact e, r⟩, fun b u hc h => ?_⟩
  rw [upd_ne (ne_of_none h hq)]; exact k b u hc h
theorem Deck.ne (h : Deck H p c) (hq : H q = none) : q ≠ p := by
  obtain ⟨x, y, z, e, _⟩ := h
  exact Ne.symm (ne_of_none e hq)
theorem Kd.same (a : Kd p c H H1) (s : Same H1 H2) : Kd p c H H2 := by
  obtain ⟨⟨x, y, z, e, r⟩, k⟩ := a
  exact ⟨⟨x, y, z, s _ _ e, r⟩, fun b u hc h => s _ _ (k b u hc h)⟩
theorem Kd.fresh (a : Kd p c H H1) (hq : H1 q = none) : H q = none := by
  cases e : H q with
  | none => rfl
  | some u =>
    have := a.keep q u (a.deck.ne hq) e
    rw [hq] at this; cases this
end
end L2


set_option Elab.async false
set_option linter.all false
set_option maxRecDepth 100000
set_option maxHeartbeats 4000000
namespace L2
open PySem PySem.Spec PyProof.Rows
section
variable {X : Cx}
/-! ### != of lists of flat things -/
theorem op_ne_lst (hu : X.A.units < cLine) : OpR X (compareOp .NotEq) (fun x y H Q => ∃ a b xs ys, x = .ref a ∧ y = .ref b ∧ SqL X.K H a xs ∧ SqL X.K H b ys ∧ xs.all flatV = true ∧ ys.all flatV = true ∧ Q (.bl (!eqVs xs ys)) H) := by
  intro pins s σ H x y v u Q I rx ry h
  obtain ⟨a, b, xs, ys, rfl, rfl, h1, h2, f1, f2, q⟩ := h
  cases (show v = Value.ref a from rx)
  cases (show u = Value.ref b from ry)
  obtain ⟨us, r1, l1, _⟩ := I.list h1
  obtain ⟨ws, r2, l2, _⟩ := I.list h2
  have e1 := r1.length
  have e2 := r2.length
  by_cases hl : xs.length = ys.length
  · refine SeqAt.RcNeAt.lists (e := eqAtJ xs ys) l1.isList l2.isList (by simp; omega) hu (fun j g1 g2 => eqAt_items r1 r2 f1 f2 j g1 g2) _ _ _ _ ⟨.bl _, H, I, rfl, ?_⟩
    have : eqVs xs ys = (List.range us.toArray.size).all (eqAtJ xs ys) := by
      unfold eqVs
      rw [List.size_toArray, ← e1, beq_iff_eq.mpr hl, Bool.true_and]
    rw [← this]; exact q
  · refine SeqAt.RcNeAt.lists_lengths l1.isList l2.isList (by simp; omega) hu _ _ _ _ ⟨.bl _, H, I, rfl, ?_⟩
    have : eqVs xs ys = false := by
      unfold eqVs
      have : (xs.length == ys.length) = false := by simpa using hl
      rw [this]; rfl
    rw [this] at q; exact q
end
end L2


set_option Elab.async false
set_option linter.all false
set_option maxRecDepth 100000
set_option maxHeartbeats 4000000
namespace L2
open PySem PySem.Spec PyProof.Rows
section
variable {X : Cx}
theorem range_all (bs : List Bool) : (List.range bs.length).all (fun i => bs.getD i true) = bs.all id := by
  rw [Bool.eq_iff_iff, List.all_eq_true, List.all_eq_true]
  constructor
  · intro h b hb
    obtain ⟨i, hi, rfl⟩ := List.getElem_of_mem hb
    have := h i (List.mem_range.mpr hi)
    rw [List.getD_eq_getElem?_getD, List.getElem?_eq_getElem hi] at this
    exact this
  · intro h i hi
    have hi' := List.mem_range.mp hi
    rw [List.getD_eq_getElem?_getD, List.getElem?_eq_getElem hi']
    exact h _ (List.getElem_mem hi')
theorem call_all (hc : X.calm = true) : CallR X (.builtin "all") (fun vs H Q => ∃ (a : Addr) (bs : List Bool), vs = [.ref a] ∧ SqL X.K H a (bs.map V.bl) ∧ Q (.bl (bs.all id)) H) := by
  intro pins s σ H xs us Q I r h
  obtain ⟨a, bs, rfl, hl, q⟩ := h
  obtain ⟨u, rfl, ru⟩ := vals1 r
  cases (show u = Value.ref a from ru)
  obtain ⟨its, rv, ht, hz⟩ := I.list hl
  have hlen := rv.length
  rw [List.length_map] at hlen
  have hh : X.A.in1.handled = none := I.ok.hd hc
  have hlt : a < s.heap.objs.size := by obtain ⟨o, e, _⟩ := ht.isList; exact Heap.lt_size e
  refine call_all_walk (wpAny_pyIter_list ht.isList ⟨s.heap.objs.size, _, _, _, _, _, fun i => bs.getD i true, rfl, Walks.list hh s.heap.objs.size a (Nat.ne_of_lt hlt) its.toArray, ?_, ?_, ?_⟩)
  · exact ⟨⟨_, Heap.get?_push_size _ rfl, rfl, rfl⟩, Heap.IsList.push ht.isList _⟩
  · intro i v s' Q' E' hv hQ
    have hv' : its[i]? = some v := by simpa using hv
    have hi : i < (bs.map V.bl).length := by rw [List.length_map, hlen]; exact (List.getElem?_eq_some_iff.mp hv').1
    obtain ⟨u', e1, e2⟩ := rv.get (List.getElem?_eq_getElem hi)
    rw [hv'] at e1
    cases e1
    rw [List.getElem_map] at e2
    cases (show v = Value.bool _ from e2)
    refine wpAny_truthy_bool ?_
    have hb : bs.getD i true = bs[i]'(by simpa using hi) := by rw [List.getD_eq_getElem?_getD, List.getElem?_eq_getElem (by simpa using hi)]; rfl
    rw [← hb]
    exact hQ
  · intro h' tk hk
    refine ⟨.bl (bs.all id), H, ?_, ?_, q⟩
    · exact I.kept (t' := tk) fun b o e => hk b o (by simp; exact Nat.ne_of_lt (Heap.lt_size e)) (Heap.get?_push_of_some _ e)
    · show Value.bool _ = Value.bool _
      rw [← range_all, hlen, List.size_toArray]
end
end L2


set_option Elab.async false
set_option linter.all false
set_option maxRecDepth 100000
set_option maxHeartbeats 4000000
/-! sorting, as the questions that it asks: of things told apart by a pure order the answer is the rising one -/
namespace L2
open PySem.W PyProof.Rows
section
variable {α β : Type} {n : Nat} {lt : Nat → Nat → Bool}
structure TotB (n : Nat) (lt : Nat → Nat → Bool) : Prop where
  asym : ∀ i j, lt i j = true → lt j i = false
  tr : ∀ i j k, lt j i = false → lt k j = false → lt k i = false
  tot : ∀ i j, i < n → j < n → lt i j = false → lt j i = false → i = j
def PermN (n : Nat) (p : Array Nat) : Prop := p.toList.Perm (List.range n)
theorem PermN.sz {p : Array Nat} (h : PermN n p) : p.size = n := by
  have := List.Perm.length_eq h
  simpa using this
theorem PermN.below {p : Array Nat} (h : PermN n p) (h0 : 0 < n) (k : Nat) : p.getD k 0 < n := by
  rw [Array.getD_eq_getD_getElem?]
  cases e : p[k]? with
  | none => exact h0
  | some x =>
    have : x ∈ p.toList := by
      have := Array.mem_of_getElem? e
      exact Array.mem_toList_iff.mpr this
    exact List.mem_range.mp ((List.Perm.mem_iff h).mp this)
theorem PermN.inj {p : Array Nat} (h : PermN n p) {i j : Nat} (hi : i < n) (hj : j < n) (e : p.getD i 0 = p.getD j 0) : i = j := by
  have nd : p.toList.Nodup := (List.Perm.nodup_iff h).mpr List.nodup_range
  have s := h.sz
  have hi' : i < p.toList.length := by rw [Array.length_toList, s]; exact hi
  have hj' : j < p.toList.length := by rw [Array.length_toList, s]; exact hj
  rw [Array.getD_eq_getD_getElem?, Array.getD_eq_getD_getElem?, Array.getElem?_eq_getElem (by omega), Array.getElem?_eq_getElem (by omega)] at e
  have e' : p.toList[i] = p.toList[j] := by simpa using e
  exact (List.getElem_inj nd).mp e'
variable (o : TotB n lt)
include o
end
open PySem PySem.Spec
/-! ### tuples of ints and texts, held against one another -/
def shV : V → Nat
  | .int _ => 1
  | .str _ => 2
  | _ => 0
def ltV : V → V → Bool
  | .int i, .int j => decide (i < j)
  | .str a, .str b => decide (a.cps.toList < b.cps.toList)
  | _, _ => false
def lexV : List V → List V → Bool
  | x :: xs, y :: ys => if x = y then lexV xs ys else ltV x y
  | [], _ :: _ => true
  | _, _ => false
theorem str_eq {a b : Str} (h : a.cps.toList = b.cps.toList) : a = b := by
  obtain ⟨x⟩ := a; obtain ⟨y⟩ := b
  have : x = y := Array.toList_inj.mp h
  rw [this]
theorem two_kinds {x y : V} (hs : shV x = shV y) (h0 : shV x ≠ 0) : (∃ i j, x = .int i ∧ y = .int j) ∨ ∃ a b, x = .str a ∧ y = .str b := by
  cases x <;> cases y <;> simp [shV] at hs h0 ⊢
theorem ltV_asym {x y : V} (h : ltV x y = true) : ltV y x = false := by
  cases x <;> cases y <;> simp [ltV] at h ⊢
  · omega
  · exact List.not_lt.mp (List.lt_asymm h)
theorem ltV_tot {x y : V} (hs : shV x = shV y) (h0 : shV x ≠ 0) (h1 : ltV x y = false) (h2 : ltV y x = false) : x = y := by
  rcases two_kinds hs h0 with ⟨i, j, rfl, rfl⟩ | ⟨a, b, rfl, rfl⟩
  · have h1' : ¬ i < j := of_decide_eq_false h1
    have h2' : ¬ j < i := of_decide_eq_false h2
    rw [show i = j by omega]
  · have h1' : ¬ a.cps.toList < b.cps.toList := of_decide_eq_false h1
    have h2' : ¬ b.cps.toList < a.cps.toList := of_decide_eq_false h2
    rw [str_eq (List.le_antisymm (List.not_lt.mp h2') (List.not_lt.mp h1'))]
theorem ltV_tr {x y z : V} (hs : shV x = shV y) (ht : shV y = shV z) (h0 : shV x ≠ 0) (h1 : ltV y x = false) (h2 : ltV z y = false) : ltV z x = false := by
  rcases two_kinds hs h0 with ⟨i, j, rfl, rfl⟩ | ⟨a, b, rfl, rfl⟩
  · rcases two_kinds ht (by simp [shV]) with ⟨_, k, e, rfl⟩ | ⟨_, _, e, _⟩
    · have h1' : ¬ j < i := of_decide_eq_false h1
      cases e
      have h2' : ¬ k < j := of_decide_eq_false h2
      exact decide_eq_false (by omega)
    · cases e
  · rcases two_kinds ht (by simp [shV]) with ⟨_, _, e, _⟩ | ⟨_, c, e, rfl⟩
    · cases e
    · cases e
      have h1' : ¬ b.cps.toList < a.cps.toList := of_decide_eq_false h1
      have h2' : ¬ c.cps.toList < b.cps.toList := of_decide_eq_false h2
      exact decide_eq_false (List.not_lt.mpr (List.le_trans (List.not_lt.mp h1') (List.not_lt.mp h2')))
theorem lexV_asym : ∀ (xs ys : List V), lexV xs ys = true → lexV ys xs = false
  | x :: xs, y :: ys, h => by
    unfold lexV at h ⊢
    by_cases e : x = y
    · rw [if_pos e] at h; rw [if_pos e.symm]; exact lexV_asym xs ys h
    · rw [if_neg e] at h; rw [if_neg (Ne.symm e)]; exact ltV_asym h
  | [], _ :: _, _ => rfl
  | [], [], h => by cases h
  | _ :: _, [], h => by cases h
theorem lexV_tot : ∀ (xs ys : List V), xs.map shV = ys.map shV → 0 ∉ xs.map shV → lexV xs ys = false → lexV ys xs = false → xs = ys
  | x :: xs, y :: ys, hs, h0, h1, h2 => by
    simp only [List.map_cons, List.cons.injEq] at hs
    simp only [List.map_cons, List.mem_cons, not_or] at h0
    unfold lexV at h1 h2
    by_cases e : x = y
    · rw [if_pos e] at h1; rw [if_pos e.symm] at h2
      rw [e, lexV_tot xs ys hs.2 h0.2 h1 h2]
    · rw [if_neg e] at h1; rw [if_neg (Ne.symm e)] at h2
      exact absurd (ltV_tot hs.1 (Ne.symm h0.1) h1 h2) e
  | [], [], _, _, _, _ => rfl
  | [], _ :: _, hs, _, _, _ => by cases hs
  | _ :: _, [], hs, _, _, _ => by cases hs
theorem lexV_tr : ∀ (xs ys zs : List V), xs.map shV = ys.map shV → ys.map shV = zs.map shV → 0 ∉ xs.map shV → lexV ys xs = false → lexV zs ys = false → lexV zs xs = false
  | x :: xs, y :: ys, z :: zs, hs, ht, h0, h1, h2 => by
    simp only [List.map_cons, List.cons.injEq] at hs ht
    simp only [List.map_cons, List.mem_cons, not_or] at h0
    unfold lexV at h1 h2 ⊢
    by_cases e : y = x
    · rw [if_pos e] at h1
      by_cases f : z = y
      · rw [if_pos f] at h2; rw [if_pos (f.trans e)]; exact lexV_tr xs ys zs hs.2 ht.2 h0.2 h1 h2
      · rw [if_neg f] at h2; rw [if_neg (fun q => f (q.trans e.symm)), ← e]; exact h2
    · rw [if_neg e] at h1
      by_cases f : z = y
      · rw [if_pos f] at h2; rw [if_neg (fun q => e (f.symm.trans q)), f]; exact h1
      · rw [if_neg f] at h2
        by_cases g : z = x
        · exact absurd (ltV_tot hs.1.symm (by rw [← hs.1]; exact Ne.symm h0.1) h1 (by rw [← g]; exact h2)) e
        · rw [if_neg g]; exact ltV_tr hs.1 ht.1 (Ne.symm h0.1) h1 h2
  | [], [], [], _, _, _, _, _ => rfl
  | [], _ :: _, _, hs, _, _, _, _ => by cases hs
  | _ :: _, [], _, hs, _, _, _, _ => by cases hs
  | [], [], _ :: _, _, ht, _, _, _ => by cases ht
  | _ :: _, _ :: _, [], _, ht, _, _, _ => by cases ht
/-- keys of one shape, told apart -/
structure Keys (n : Nat) (K : Nat → List V) (sh : List Nat) : Prop where
  shp : ∀ i, (K i).map shV = sh
  ne : sh ≠ []
  z : 0 ∉ sh
  inj : ∀ i j, i < n → j < n → K i = K j → i = j
theorem Keys.tot {n : Nat} {K : Nat → List V} {sh : List Nat} (k : Keys n K sh) : TotB n (fun i j => lexV (K i) (K j)) where
  asym := fun i j h => lexV_asym _ _ h
  tr := fun i j l h1 h2 => lexV_tr _ _ _ ((k.shp i).trans (k.shp j).symm) ((k.shp j).trans (k.shp l).symm) (by rw [k.shp]; exact k.z) h1 h2
  tot := fun i j hi hj h1 h2 => k.inj i j hi hj (lexV_tot _ _ ((k.shp i).trans (k.shp j).symm) (by rw [k.shp]; exact k.z) h1 h2)
section
variable {prog : Program} {w : World} {A : Around} {E : Value → Shared → Prop} {s : Shared} {Q : Bool → Shared → Prop}
/-- the keys lie on the heap as tuples -/
def KeysOn (h : Heap) (ks : List Value) (K : Nat → List V) : Prop := ∀ (i : Nat) (v : Value), ks[i]? = some v → ∃ a its, v = .ref a ∧ IsTup h a its.toArray ∧ Vals (K i) its
theorem KeysOn.keeps {h h' : Heap} {ks : List Value} {K : Nat → List V} (x : KeysOn h ks K) (k : ∀ b o, o.cls = .type "tuple" → h.get? b = some o → h'.get? b = some o) : KeysOn h' ks K := fun i v hv => by
  obtain ⟨a, its, rfl, ⟨o, ho, hc, r⟩, q⟩ := x i v hv
  exact ⟨a, its, rfl, ⟨o, k _ _ hc ho, hc, r⟩, q⟩
variable {n : Nat} {K : Nat → List V} {sh : List Nat} {ks : List Value}
end
end L2


set_option Elab.async false
set_option linter.all false
set_option maxRecDepth 100000
set_option maxHeartbeats 4000000
/-! sorted: of a list of tuples; of a range by a key that is a lambda -/
namespace L2
open PySem PySem.Spec PyProof.Rows PySem.W
section
variable {prog : Program} {w : World} {A : Around} {E : Value → Shared → Prop} {s : Shared} {K : Nat → List V} {sh : List Nat} {vs : List Value}
end
section
variable {X : Cx}
end
end L2


set_option Elab.async false
set_option linter.all false
set_option maxRecDepth 100000
set_option maxHeartbeats 4000000
namespace L2
open PySem PySem.Spec PyProof.Rows PySem.W
section
variable {X : Cx} {pins : List (Addr × Obj)} {σ : St} {H : Hp} {s : Shared}
end
end L2


set_option Elab.async false
set_option linter.all false
set_option maxRecDepth 100000
set_option maxHeartbeats 4000000
/-! a lambda of one parameter: made, called; a range as a thing; sorted(range(..), key=lambda ..) -/
namespace L2
open PySem PySem.Spec PyProof.Rows PySem.W

/-! ### the table of a def's code object, in which its lambda's code is kept from the first making on -/
def codeO (c : Addr) (qual : Str) : HO := .ext fun h => h.CodeRec (.ref c) qual
def LamAt (P : Addr) (lp : Pos) (qual : Str) (H : Hp) : Prop := ∃ ps, H P = some (.tbl ps) ∧ TriplesOk ps.toList ∧ (codeAmong lp ps.toList = none ∨ ∃ c, codeAmong lp ps.toList = some (.ref c) ∧ H c = some (codeO c qual))
abbrev Lm := Addr × Pos × Str
/-- every lambda of the list has its place -/
def Lams (ls : List Lm) (H : Hp) : Prop := ∀ l ∈ ls, LamAt l.1 l.2.1 l.2.2 H
structure Kt (ls : List Lm) (H H' : Hp) : Prop where
  lam : Lams ls H'
  keep : ∀ b o, (∀ ps, o ≠ .tbl ps) → H b = some o → H' b = some o
  here : ∀ b, H' b = none → H b = none
section
variable {P q : Addr} {lp : Pos} {qual : Str} {H H1 H2 : Hp} {o : HO} {ls : List Lm} {xs : List V}
theorem LamAt.same (a : LamAt P lp qual H) (s : Same H H1) : LamAt P lp qual H1 := by
  obtain ⟨ps, a, b, c⟩ := a
  refine ⟨ps, s _ _ a, b, ?_⟩
  rcases c with c | ⟨d, c, e⟩
  · exact .inl c
  · exact .inr ⟨d, c, s _ _ e⟩
theorem LamAt.start (h : H P = some (.tbl #[])) : LamAt P lp qual H := ⟨#[], h, trivial, .inl rfl⟩
theorem Lams.same (a : Lams ls H) (s : Same H H1) : Lams ls H1 := fun l hl => (a l hl).same s
theorem LamAt.write (a : LamAt P lp qual H) (h : H q = some (.lst xs)) : LamAt P lp qual (upd H q o) := by
  obtain ⟨ps, a, b, c⟩ := a
  refine ⟨ps, by rw [upd_ne (ne_of a h (by intro z; cases z))]; exact a, b, ?_⟩
  rcases c with c | ⟨d, c, e⟩
  · exact .inl c
  · exact .inr ⟨d, c, by rw [upd_ne (ne_of e h (by intro z; cases z))]; exact e⟩
theorem Kt.refl (a : Lams ls H) : Kt ls H H := ⟨a, fun _ _ _ e => e, fun _ e => e⟩
theorem Kt.trans (a : Kt ls H H1) (b : Kt ls H1 H2) : Kt ls H H2 := ⟨b.lam, fun c u hc e => b.keep c u hc (a.keep c u hc e), fun c e => a.here c (b.here c e)⟩
theorem Kt.same (a : Kt ls H H1) (s : Same H1 H2) : Kt ls H H2 := ⟨a.lam.same s, fun c u hc e => s _ _ (a.keep c u hc e), fun c e => a.here c (s.free e)⟩
theorem Kt.of (s : Same H H1) (a : Lams ls H) : Kt ls H H1 := (Kt.refl a).same s
theorem Kt.write (a : Kt ls H H1) (hq : H q = none) (h : H1 q = some (.lst xs)) : Kt ls H (upd H1 q o) :=
  ⟨fun l hl => (a.lam l hl).write h, fun b u hb e => by rw [upd_ne (ne_of_none e hq)]; exact a.keep b u hb e, fun b e => by
    by_cases z : b = q
    · rw [z, upd_same] at e; cases e
    · rw [upd_ne z] at e; exact a.here b e⟩
theorem Kt.lst (a : Kt ls H H1) (h : H q = some (.lst xs)) : H1 q = some (.lst xs) := a.keep _ _ (fun _ z => by cases z) h
theorem Kt.tup (a : Kt ls H H1) (h : H q = some (.tup xs)) : H1 q = some (.tup xs) := a.keep _ _ (fun _ z => by cases z) h
theorem Kt.seq {K : PySem.W.Frag} (a : Kt ls H H1) (h : SqL K H q xs) : SqL K H1 q xs := by
  rcases h with (h | ⟨ob, h⟩) | h
  · exact .inl (.inl (a.lst h))
  · exact .inl (.inr ⟨ob, a.keep _ _ (fun _ z => by cases z) h⟩)
  · exact .inr h
end

/-! ### the context of a lambda's body -/
section
variable {X : Cx} {pins : List (Addr × Obj)} {σ : St} {H : Hp} {s : Shared}
end
end L2


set_option Elab.async false
set_option linter.all false
set_option maxRecDepth 100000
set_option maxHeartbeats 4000000
namespace L2
open PySem PySem.Spec PyProof.Rows PySem.W
section
variable {prog : Program} {w : World} {A : Around} {E : Value → Shared → Prop} {s : Shared}
end
section
variable {X : Cx}
end
end L2


set_option Elab.async false
set_option linter.all false
set_option maxRecDepth 100000
set_option maxHeartbeats 4000000
/-! the head, where one def of the text makes a lambda: its table is tracked -/
namespace L2
open PySem PySem.Spec PyProof.Rows PySem.W
/-- what the promise of the law's def may use of the def named nm, whose lambda's code is kept in the table at T -/
structure TabAt (base : Heap) (mg : Str → Option Value) (nm : Str) (T : Addr) : Prop where
  fn : ∃ a o fd c, mg nm = some (.ref a) ∧ base.get? a = some o ∧ o.data = .func fd ∧ fd.code = .ref c ∧ CodeHd base c T
  blt : base.BuiltinsAt mg T
inductive Two {α β : Type} (R : α → β → Prop) : List α → List β → Prop
  | nil : Two R [] []
  | cons {a b xs ys} : R a b → Two R xs ys → Two R (a :: xs) (b :: ys)
end L2
namespace L2
open PySem PySem.Spec PyProof.Rows PySem.W
end L2


set_option Elab.async false
set_option linter.all false
set_option maxRecDepth 100000
set_option maxHeartbeats 4000000
/-! repr of a list of whole numbers -/
namespace L2
open PySem PySem.Spec PyProof.Rows PySem.W
theorem reads_ints (h : Heap) : ∀ {us : List Value} {ns : List Int}, IntsAre us ns → ReadsAll h us (ns.map .int) []
  | _, _, .nil => .nil
  | _, _, .cons n t r => ReadsAll.cons (as := []) (bs := []) (.int n t) (reads_ints h r)
theorem ints_showable {ns : List Int} (h : ∀ n ∈ ns, n.natAbs < 10 ^ 12) : PyData.showable (.list (ns.map .int)) = true := by
  simp only [PyData.showable]
  refine PyData.showableAll_ints ns fun n hn => ?_
  rcases Nat.eq_zero_or_pos n.natAbs with z | z
  · rw [z]; decide
  · exact (Nat.log2_lt (by omega)).mpr (Nat.lt_of_lt_of_le (Nat.lt_trans (h n hn) (show 10 ^ 12 < 2 ^ 40 by decide)) (Nat.pow_le_pow_right (by decide) (by decide)))
theorem dh_ints : ∀ ns : List Int, PyData.hasDictAll (ns.map .int) = false
  | [] => rfl
  | n :: r => by simp only [List.map_cons, PyData.hasDictAll, PyData.hasDict, dh_ints r, Bool.or_false]
section
variable {X : Cx} {k : Nat}
theorem bt_repr : bootBuiltins "repr" = some (.builtin "repr") := by kernel_rfl
end
end L2
namespace L2
open PySem PySem.Spec PyProof.Rows PySem.W
theorem SqL.keepS {K : PySem.W.Frag} {H H1 : Hp} {q : Addr} {xs : List V} (h : SqL K H q xs) (s : Same H H1) : SqL K H1 q xs := by
  rcases h with (h | ⟨ob, h⟩) | h
  · exact .inl (.inl (s _ _ h))
  · exact .inl (.inr ⟨ob, s _ _ h⟩)
  · exact .inr h
end L2


set_option Elab.async false
set_option linter.all false
set_option maxRecDepth 100000
set_option maxHeartbeats 4000000
/-! repr of a tree (a tuple of whole numbers and a text), of rows (a text, two tuples of truths) -/
namespace L2
open PySem PySem.Spec PyProof.Rows PySem.W
def treeText (ns : List Int) (lab : Str) : Str := PyData.shown (.tuple [.tuple (ns.map .int), .str lab])
theorem leaves_ints : ∀ ns : List Int, (∀ n ∈ ns, n.natAbs < 10 ^ 12) → PyData.leavesShortAll 13 (ns.map .int) = true
  | [], _ => rfl
  | n :: r, h => by
    simp only [List.map_cons, PyData.leavesShortAll, PyData.leavesShort, Bool.and_eq_true, decide_eq_true_eq]
    exact ⟨PyData.shown_int_le (h n List.mem_cons_self), leaves_ints r fun m hm => h m (List.mem_cons_of_mem _ hm)⟩
theorem leaves_low {lab : Str} (h : ∀ c ∈ lab.cps.toList, c < 1000) : PyData.leavesShort 13 (.str lab) = true := by
  simp only [PyData.leavesShort, List.all_eq_true, decide_eq_true_eq]
  exact fun c hc => Nat.lt_trans (h c hc) (by decide)
theorem weight_ints : ∀ ns : List Int, (∀ n ∈ ns, n.natAbs < 10 ^ 12) → PyData.weightAll (ns.map .int) ≤ 42 * ns.length
  | [], _ => by simp [PyData.weightAll]
  | n :: r, h => by
    have a := weight_ints r fun m hm => h m (List.mem_cons_of_mem _ hm)
    have b : PyData.weight (.int n) ≤ 41 := by
      simp only [PyData.weight]
      split
      · omega
      · rename_i z
        have nz : n.natAbs ≠ 0 := fun e => z (by rw [Int.natAbs_eq_zero.mp e]; rfl)
        have := (Nat.log2_lt nz (k := 40)).mpr (Nat.lt_trans (h n List.mem_cons_self) (by decide))
        omega
    simp only [List.map_cons, PyData.weightAll, List.length_cons]
    omega
section
variable {X : Cx} {k : Nat}
theorem call_repr_tree (hr : Room k X.A) : CallR X (.builtin "repr") (fun xs H Q => ∃ t u ns lab, xs = [.ref t] ∧ SqT X.K H t [.ref u, .str lab] ∧ SqT X.K H u (ns.map V.int) ∧ (∀ n ∈ ns, n.natAbs < 10 ^ 12) ∧ ns.length ≤ 1000 ∧
    (∀ c ∈ lab.cps.toList, c < 1000) ∧ lab.cps.toList.length ≤ 1000 ∧ Q (.str (treeText ns lab)) H) := by
  intro pins s σ H xs us Q I r h
  obtain ⟨t, u, ns, lab, rfl, ht, hu, hn, hl, lc, ll, q⟩ := h
  obtain ⟨v, rfl, rx⟩ := vals1 r
  cases rx
  obtain ⟨its, r1, p1, _⟩ := I.tuple ht
  obtain ⟨its2, r2, p2, _⟩ := I.tuple hu
  obtain ⟨o, e1, e2, m, e4⟩ := p1
  obtain ⟨o', f1, f2, m', f4⟩ := p2
  obtain ⟨a, b, rfl, ra, rb⟩ := vals2 r1
  cases (show a = Value.ref u from ra)
  obtain ⟨tk0, rfl⟩ := rb
  have rd : Reads s.heap (.ref t) (.tuple [.tuple (ns.map .int), .str lab]) [] :=
    .tuple e1 e2 e4 (ReadsAll.cons (as := []) (bs := []) (.tuple f1 f2 f4 (reads_ints _ (intsAre_of r2))) (ReadsAll.cons (as := []) (bs := []) (.str lab tk0) .nil))
  have un := hr.un
  have sh : PyData.showable (.tuple [.tuple (ns.map .int), .str lab]) = true := by
    have := ints_showable hn
    simp only [PyData.showable] at this
    simp only [PyData.showable, PyData.showableAll, this, Bool.and_self]
  have dh : PyData.hasDict (.tuple [.tuple (ns.map .int), .str lab]) = false := by
    simp only [PyData.hasDict, PyData.hasDictAll, dh_ints, Bool.or_false]
  have sz : (PyData.shown (.tuple [.tuple (ns.map .int), .str lab])).length ≤ sizeLine := by
    refine PyData.shown_fits (B := 13) (by decide) (by decide) ?_ ?_
    · have := leaves_low lc
      simp only [PyData.leavesShort] at this
      simp only [PyData.leavesShort, PyData.leavesShortAll, leaves_ints ns hn, this, Bool.and_self]
    · have a := weight_ints ns hn
      have e : lab.cps.size ≤ 1000 := by rw [← Array.length_toList]; exact ll
      have e20 : (2 : Nat) ^ 20 = 1048576 := by decide
      simp only [PyData.weight, PyData.weightAll]
      omega
  refine repr_of_reads' rd sh (fun z => by rw [dh] at z; cases z) hr.gd ?_ (fun _ _ e => e) (fun h' u tk hk => ?_) sz
  · simp only [PyData.depth, PyData.depthAll, PyProof.Rows.depthAll_ints]; omega
  · exact ⟨.str (treeText ns lab), H, I.kept (t' := tk) hk, ⟨u, rfl⟩, q⟩
end
end L2


set_option Elab.async false
set_option linter.all false
set_option maxRecDepth 100000
set_option maxHeartbeats 4000000
/-! sets of texts -/
namespace L2
open PySem PySem.Spec PyProof.Rows PySem.W
def keyOf (e : Int × Value) : Str := match e.2 with | .str x _ => x | _ => Str.empty
/-- the entries and the table of a set of the texts S -/
structure SetS (w : World) (led : Bool) (es : Array (Int × Value)) (t : SetTable) (S : List Str) : Prop where
  ent : ∀ e ∈ es.toList, ∃ x tk, e = (hashStr w x, Value.str x tk)
  nd : (es.toList.map keyOf).Nodup
  mem : ∀ x, x ∈ es.toList.map keyOf ↔ x ∈ S
  fit : t.fits es.size = true
  led : t.led = led
  pl : es.size = 0 ∨ t.plain = false
theorem keyOf_perm {a b : List (Int × Value)} (p : a.Perm b) : (a.map keyOf).Perm (b.map keyOf) := p.map _
theorem SetS.grow {w : World} {led : Bool} {es es' : Array (Int × Value)} {t t' : SetTable} {S : List Str} {x : Str} {tk : Tok} (h : SetS w led es t S) (nx : x ∉ S) (p : es'.toList.Perm (es.push (hashStr w x, .str x tk)).toList) (f : t'.fits es'.size = true) (l : t'.led = led) (q : t'.plain = false) : SetS w led es' t' (S ++ [x]) where
  ent := fun e he => by
    have := p.mem_iff.mp he
    rw [Array.toList_push] at this
    rcases List.mem_append.mp this with z | z
    · exact h.ent e z
    · exact ⟨x, tk, List.mem_singleton.mp z⟩
  nd := by
    rw [(keyOf_perm p).nodup_iff, Array.toList_push, List.map_append, List.nodup_append]
    refine ⟨h.nd, by simp, fun a ha b hb => ?_⟩
    have hb' : b = x := by simpa [keyOf] using hb
    subst hb'
    exact fun e => nx (by rw [← e]; exact (h.mem a).mp ha)
  mem := fun y => by
    rw [(keyOf_perm p).mem_iff, Array.toList_push, List.map_append, List.mem_append, List.mem_append, h.mem y]
    simp [keyOf]
  fit := f
  led := l
  pl := .inr q
/-- a set of texts stands at a -/
structure SetA (w : World) (led : Bool) (h : Heap) (a : Addr) (S : List Str) (n : Nat) : Prop where
  ex : ∃ es ep t, h.get? a = some { cls := .type "set", data := .set es ep t } ∧ SetS w led es t S ∧ es.size ≤ n
section
variable {prog : Program} {w : World} {A : Around} {E : Value → Shared → Prop} {s : Shared}
end
end L2


set_option Elab.async false
set_option linter.all false
set_option maxRecDepth 100000
set_option maxHeartbeats 4000000
/-! set(a list of texts) -/
namespace L2
open PySem PySem.Spec PyProof.Rows PySem.W
section
variable {prog : Program} {w : World} {A : Around} {E : Value → Shared → Prop} {s : Shared}
theorem SetA.keeps {led : Bool} {h h' : Heap} {a : Addr} {S : List Str} {n : Nat} (x : SetA w led h a S n) (k : ∀ o, h.get? a = some o → h'.get? a = some o) : SetA w led h' a S n := by
  obtain ⟨es, ep, t, e, r⟩ := x
  exact ⟨es, ep, t, k _ e, r⟩
theorem SetA.start {h : Heap} {a : Addr} {led : Bool} (e : h.get? a = some { cls := .type "set", data := .set #[] 0 (SetTable.fresh 0 0 led) }) : SetA w led h a [] 0 :=
  ⟨#[], 0, _, e, ⟨fun x hx => by simp at hx, by simp, fun x => by simp, by rfl, rfl, .inl rfl⟩, Nat.le_refl _⟩
theorem SetA.typeIs {led : Bool} {a : Addr} {S : List Str} {n : Nat} (x : SetA w led s.heap a S n) : s.TypeIs (.ref a) "set" := by
  obtain ⟨es, ep, t, e, r⟩ := x
  exact ⟨_, e, rfl⟩
end
end L2


set_option Elab.async false
set_option linter.all false
set_option maxRecDepth 100000
set_option maxHeartbeats 4000000
/-! set(a list of texts): the call -/
namespace L2
open PySem PySem.Spec PyProof.Rows PySem.W
section
variable {prog : Program} {w : World} {A : Around} {E : Value → Shared → Prop} {s : Shared}
end
end L2


set_option Elab.async false
set_option linter.all false
set_option maxRecDepth 100000
set_option maxHeartbeats 4000000
/-! a set of texts is walked: in some order -/
namespace L2
open PySem PySem.Spec PyProof.Rows PySem.W
section
variable {prog : Program} {w : World} {A : Around} {E : Value → Shared → Prop}
variable {s : Shared}
end
end L2


set_option Elab.async false
set_option linter.all false
set_option maxRecDepth 100000
set_option maxHeartbeats 4000000
/-! a set of texts as a list, sorted -/
namespace L2
open PySem PySem.Spec PyProof.Rows PySem.W
section
variable {prog : Program} {w : World} {A : Around}
end
end L2


set_option Elab.async false
set_option linter.all false
set_option maxRecDepth 100000
set_option maxHeartbeats 4000000
/-! a set of texts as a list; sorted(set(a list of texts)) -/
namespace L2
open PySem PySem.Spec PyProof.Rows PySem.W
section
variable {prog : Program} {w : World} {A : Around} {E : Value → Shared → Prop} {s : Shared}
end
end L2


set_option Elab.async false
set_option linter.all false
set_option maxRecDepth 100000
set_option maxHeartbeats 4000000
/-! a set of texts as a list -/
namespace L2
open PySem PySem.Spec PyProof.Rows PySem.W
section
variable {prog : Program} {w : World} {A : Around} {E : Value → Shared → Prop} {s : Shared}
end
end L2


set_option Elab.async false
set_option linter.all false
set_option maxRecDepth 100000
set_option maxHeartbeats 4000000
/-! sorted(set(e)), e a list of texts; x.index(y) of a list of texts -/
namespace L2
open PySem PySem.Spec PyProof.Rows PySem.W
theorem Inv.drawn {X : Cx} {pins : List (Addr × Obj)} {σ : St} {H : Hp} {s : Shared} (I : Inv X pins σ H s) (d : Drawn) : Inv X pins σ H { s with drawn := d } :=
  ⟨I.ok, I.os, I.bare, I.base, I.loc, I.cell, I.free, I.freeC, I.pin, I.hok, I.len⟩
section
variable {X : Cx} {a : Expr} {ta : TA} {p p2 pos pos2 : Pos}
end
end L2


set_option Elab.async false
set_option linter.all false
set_option maxRecDepth 100000
set_option maxHeartbeats 4000000
namespace L2
open PySem PySem.Spec PyProof.Rows
/-! ### lists of pairs as tables -/
section
variable {κ : Type} [DecidableEq κ]
def valV (kvs : List (κ × V)) (k : κ) : Option V := (kvs.find? fun kv => decide (kv.1 = k)).map (·.2)
/-- in its place, or at the end -/
def putK (kvs : List (κ × V)) (k : κ) (v : V) : List (κ × V) :=
  if (kvs.any fun kv => decide (kv.1 = k)) = true then kvs.map (fun kv => if kv.1 = k then (kv.1, v) else kv) else kvs ++ [(k, v)]
def dropK (kvs : List (κ × V)) (k : κ) : List (κ × V) := kvs.filter fun kv => decide (kv.1 ≠ k)

theorem valV_pos {p : κ × V} {r : List (κ × V)} {k : κ} (e : p.1 = k) : valV (p :: r) k = some p.2 := by simp [valV, List.find?_cons, e]
theorem valV_neg {p : κ × V} {r : List (κ × V)} {k : κ} (e : ¬ p.1 = k) : valV (p :: r) k = valV r k := by simp [valV, List.find?_cons, e]
theorem valV_any (k : κ) : ∀ kvs : List (κ × V), (kvs.any fun kv => decide (kv.1 = k)) = (valV kvs k).isSome
  | [] => rfl
  | p :: r => by
    rw [List.any_cons]
    by_cases e : p.1 = k
    · simp only [valV_pos e, decide_eq_true e, Bool.true_or, Option.isSome_some]
    · rw [valV_neg e, decide_eq_false e, Bool.false_or]; exact valV_any k r
theorem length_putK (kvs : List (κ × V)) (k : κ) (v : V) : (putK kvs k v).length ≤ kvs.length + 1 := by
  unfold putK
  split
  · rw [List.length_map]; omega
  · rw [List.length_append, List.length_cons, List.length_nil]; omega
theorem putK_new {kvs : List (κ × V)} {k : κ} (v : V) (h : valV kvs k = none) : putK kvs k v = kvs ++ [(k, v)] := by
  unfold putK
  rw [valV_any, h]
  exact if_neg (by decide)

theorem RelO.isSome_eq {o : Option V} {u : Option Value} (r : RelO o u) : o.isSome = u.isSome := by
  cases o with
  | none => cases u with
    | none => rfl
    | some _ => exact (show False from r).elim
  | some _ => cases u with
    | none => exact (show False from r).elim
    | some _ => rfl
theorem RelO.getD {o : Option V} {u : Option Value} {d : V} {d' : Value} (r : RelO o u) (rd : RelV d d') : RelV (o.getD d) (u.getD d') := by
  cases o with
  | none => cases u with
    | none => exact rd
    | some _ => exact (show False from r).elim
  | some _ => cases u with
    | none => exact (show False from r).elim
    | some _ => exact r

/-- raw tables of the same keys -/
theorem KV.val {kvs : List (κ × V)} {vs : List (κ × Value)} (r : KV kvs vs) (k : κ) : RelO (valV kvs k) (valueAt vs k) := by
  unfold KV at r
  induction r with
  | nil => exact True.intro
  | @cons p q ps qs h t ih =>
    obtain ⟨h1, h2⟩ := h
    by_cases e : p.1 = k
    · have e' : q.1 = k := h1.symm.trans e
      have b : valueAt (q :: qs) k = some q.2 := by simp [valueAt, List.find?_cons, e']
      rw [valV_pos e, b]; exact h2
    · have e' : ¬ q.1 = k := fun z => e (h1.trans z)
      have b : valueAt (q :: qs) k = valueAt qs k := by simp [valueAt, List.find?_cons, e']
      rw [valV_neg e, b]; exact ih
theorem KV.any {kvs : List (κ × V)} {vs : List (κ × Value)} (r : KV kvs vs) (k : κ) : (kvs.any fun kv => decide (kv.1 = k)) = vs.any fun kv => decide (kv.1 = k) := by
  unfold KV at r
  induction r with
  | nil => rfl
  | cons h t ih => rw [List.any_cons, List.any_cons, ih, h.1]
theorem KV.repl {kvs : List (κ × V)} {vs : List (κ × Value)} (r : KV kvs vs) (k : κ) {y : V} {u : Value} (ry : RelV y u) :
    KV (kvs.map fun kv => if kv.1 = k then (kv.1, y) else kv) (vs.map fun kv => if kv.1 = k then (kv.1, u) else kv) := by
  unfold KV at r ⊢
  induction r with
  | nil => exact .nil
  | @cons p q ps qs h t ih =>
    rw [List.map_cons, List.map_cons]
    refine .cons ?_ ih
    obtain ⟨h1, h2⟩ := h
    by_cases e : p.1 = k
    · rw [if_pos e, if_pos (h1.symm.trans e)]; exact ⟨h1, ry⟩
    · rw [if_neg e, if_neg (fun z => e (h1.trans z))]; exact ⟨h1, h2⟩
theorem KV.put {kvs : List (κ × V)} {vs : List (κ × Value)} (r : KV kvs vs) (k : κ) {y : V} {u : Value} (ry : RelV y u) : KV (putK kvs k y) (stored vs k u) := by
  unfold putK stored
  rw [r.any k]
  by_cases e : (vs.any fun kv => decide (kv.1 = k)) = true
  · rw [if_pos e, if_pos e]; exact r.repl k ry
  · rw [if_neg e, if_neg e]; exact Paired.snoc r ⟨rfl, ry⟩
theorem KV.drop {kvs : List (κ × V)} {vs : List (κ × Value)} (r : KV kvs vs) (k : κ) : KV (dropK kvs k) (without vs k) := by
  unfold KV at r ⊢
  unfold dropK without
  induction r with
  | nil => exact .nil
  | @cons p q ps qs h t ih =>
    obtain ⟨h1, h2⟩ := h
    rw [List.filter_cons, List.filter_cons]
    by_cases e : p.1 = k
    · have a : ¬ decide (p.1 ≠ k) = true := by simp [e]
      have b : ¬ decide (q.1 ≠ k) = true := by simp [h1.symm.trans e]
      rw [if_neg a, if_neg b]; exact ih
    · have e' : ¬ q.1 = k := fun z => e (h1.trans z)
      have a : decide (p.1 ≠ k) = true := by simp [e]
      have b : decide (q.1 ≠ k) = true := by simp [e']
      rw [if_pos a, if_pos b]; exact .cons ⟨h1, h2⟩ ih
theorem KV.keys {kvs : List (κ × V)} {vs : List (κ × Value)} (r : KV kvs vs) : kvs.map (·.1) = vs.map (·.1) := by
  unfold KV at r
  induction r with
  | nil => rfl
  | cons h t ih => rw [List.map_cons, List.map_cons, ih, h.1]
theorem KV.length {kvs : List (κ × V)} {vs : List (κ × Value)} (r : KV kvs vs) : kvs.length = vs.length := Paired.length r
end


/-! ### a tracked dict, its keys ints and texts or tuples of these -/
theorem kV_is {P : Program} {w : World} {k : Key} {u : Value} (r : RelV (kV k) u) : (mixKind P w).is k u = true := by
  cases k with
  | inl i => obtain ⟨t, e⟩ := (show ∃ t, u = Value.int i t from r); subst e; exact mixKind_int P w i t
  | inr x => obtain ⟨t, e⟩ := (show ∃ t, u = Value.str x t from r); subst e; exact mixKind_str P w x t
theorem items_are {P : Program} {w : World} : ∀ {ks : List Key} {us : List Value}, Vals (ks.map kV) us → ItemsAre (mixKind P w) ks us
  | [], _, r => by rw [List.map_nil] at r; cases r; exact .nil
  | k :: ks, _, r => by
    rw [List.map_cons] at r
    cases r with
    | cons h t => exact .cons (kV_is h) (items_are t)

/-- raw entries of a dict with tuple keys -/
abbrev KT (H : Hp) : List (List Key × V) → List (List Key × Addr × Value) → Prop := Paired fun p q => p.1 = q.1 ∧ H q.2.1 = some (.tup (p.1.map kV)) ∧ RelV p.2 q.2.2
theorem KT.val {H : Hp} {kvs : List (List Key × V)} {xs : List (List Key × Addr × Value)} (r : KT H kvs xs) (k : List Key) : RelO (valV kvs k) ((atKey xs k).map (·.2)) := by
  induction r with
  | nil => exact True.intro
  | @cons p q ps qs h t ih =>
    obtain ⟨h1, _, h2⟩ := h
    by_cases e : p.1 = k
    · have e' : q.1 = k := h1.symm.trans e
      have b : atKey (q :: qs) k = some q.2 := by simp [atKey, List.find?_cons, e']
      rw [valV_pos e, b]; exact h2
    · have e' : ¬ q.1 = k := fun z => e (h1.trans z)
      have b : atKey (q :: qs) k = atKey qs k := by simp [atKey, List.find?_cons, e']
      rw [valV_neg e, b]; exact ih
theorem KT.repl {H : Hp} {kvs : List (List Key × V)} {xs : List (List Key × Addr × Value)} (r : KT H kvs xs) (k : List Key) {y : V} {u : Value} (ry : RelV y u) :
    KT H (kvs.map fun kv => if kv.1 = k then (kv.1, y) else kv) (xs.map (putAt k u)) := by
  induction r with
  | nil => exact .nil
  | @cons p q ps qs h t ih =>
    rw [List.map_cons, List.map_cons]
    refine .cons ?_ ih
    obtain ⟨h1, h2, h3⟩ := h
    unfold putAt
    by_cases e : p.1 = k
    · rw [if_pos e, if_pos (h1.symm.trans e)]; exact ⟨h1, h2, ry⟩
    · rw [if_neg e, if_neg (fun z => e (h1.trans z))]; exact ⟨h1, h2, h3⟩
theorem KT.put {H : Hp} {kvs : List (List Key × V)} {xs : List (List Key × Addr × Value)} (r : KT H kvs xs) (k : List Key) {b : Addr} {y : V} {u : Value} (hb : H b = some (.tup (k.map kV))) (ry : RelV y u) :
    KT H (putK kvs k y) (storedH xs k b u) := by
  have e : (kvs.any fun kv => decide (kv.1 = k)) = (atKey xs k).isSome := by
    rw [valV_any, (r.val k).isSome_eq, Option.isSome_map]
  unfold putK storedH
  rw [e]
  by_cases q : (atKey xs k).isSome = true
  · rw [if_pos q, if_pos q]; exact r.repl k ry
  · rw [if_neg q, if_neg q]; exact Paired.snoc r ⟨rfl, hb, ry⟩
theorem KT.keeps {H H' : Hp} {kvs : List (List Key × V)} {xs : List (List Key × Addr × Value)} (r : KT H kvs xs) (ht : ∀ b ys, H b = some (.tup ys) → H' b = some (.tup ys)) : KT H' kvs xs :=
  Paired.mapP r fun _ _ z => ⟨z.1, ht _ _ z.2.1, z.2.2⟩

section
variable {P : Program} {w : World} {H : Hp} {h : Heap} {a : Addr}
theorem rd_of {u : HO} (ok : HOk P w H h) (e : Rd H a u) : ObjOk P w H h a u := e.ok ok
theorem dk_rd {kvs : List (Key × V)} (ok : HOk P w H h) (e : Rd H a (.dK kvs)) : kvs.length ≤ sizeLine ∧ (a == sysModules) = false ∧ ∃ vs, KV kvs vs ∧ h.DictOf (mixKind P w) a vs :=
  show ObjOk P w H h a (.dK kvs) from rd_of ok e
theorem dk_of {kvs : List (Key × V)} (ok : HOk P w H h) (e : H a = some (.dK kvs)) : kvs.length ≤ sizeLine ∧ (a == sysModules) = false ∧ ∃ vs, KV kvs vs ∧ h.DictOf (mixKind P w) a vs := dk_rd ok (.inl e)
/-- a tracked tuple of ints and texts is a key -/
theorem key_of {ks : List Key} (ok : HOk P w H h) (e : H a = some (.tup (ks.map kV))) : (tupleKind (mixKind P w)).is h ks a := by
  obtain ⟨_, its, r, o, h1, h2, n, h3⟩ := (show ObjOk P w H h a (.tup (ks.map kV)) from ok a _ e)
  exact ⟨o, its.toArray, n, h1, h2, h3, by simpa using items_are r⟩
theorem dt_rd {kvs : List (List Key × V)} (ok : HOk P w H h) (e : Rd H a (.dT kvs)) : kvs.length ≤ sizeLine ∧ (a == sysModules) = false ∧
    ∃ xs, KT H kvs xs ∧ h.DictOfH (tupleKind (mixKind P w)) a xs := by
  obtain ⟨z, y, xs, r, o, es, ep, h1, h2, h3, h4, h5⟩ := (show ObjOk P w H h a (.dT kvs) from rd_of ok e)
  refine ⟨z, y, xs, r, o, es, ep, h1, h2, h3, h4, fun x hx => ?_, h5⟩
  have all : ∀ {l : List (List Key × V)} {m : List (List Key × Addr × Value)}, KT H l m → ∀ x ∈ m, (tupleKind (mixKind P w)).is h x.1 x.2.1 := by
    intro l m q
    induction q with
    | nil => intro x hx; exact nomatch hx
    | @cons p q ps qs hq t ih =>
      intro x hx
      rcases List.mem_cons.mp hx with e | hx
      · subst e
        exact key_of ok (by rw [← hq.1]; exact hq.2.1)
      · exact ih x hx
  exact all r x hx
theorem dt_of {kvs : List (List Key × V)} (ok : HOk P w H h) (e : H a = some (.dT kvs)) : kvs.length ≤ sizeLine ∧ (a == sysModules) = false ∧
    ∃ xs, KT H kvs xs ∧ h.DictOfH (tupleKind (mixKind P w)) a xs := dt_rd ok (.inl e)
end

/-- what the dict at a holds at the key y -/
def DGet (H : Hp) (a : Addr) (y : V) (r : Option V) : Prop :=
  (∃ kvs k, Rd H a (.dK kvs) ∧ y = kV k ∧ r = valV kvs k) ∨ ∃ kvs k b, Rd H a (.dT kvs) ∧ y = .ref b ∧ H b = some (.tup (k.map kV)) ∧ r = valV kvs k
/-- the heap behind a[y] = v -/
def DPut (H : Hp) (a : Addr) (y v : V) (H' : Hp) : Prop :=
  (∃ kvs k, H a = some (.dK kvs) ∧ y = kV k ∧ kvs.length < sizeLine ∧ H' = upd H a (.dK (putK kvs k v))) ∨
  ∃ kvs k b, H a = some (.dT kvs) ∧ y = .ref b ∧ H b = some (.tup (k.map kV)) ∧ kvs.length < sizeLine ∧ H' = upd H a (.dT (putK kvs k v))
theorem DGet.k {H : Hp} {a : Addr} {kvs : List (Key × V)} {k : Key} (e : H a = some (.dK kvs)) : DGet H a (kV k) (valV kvs k) := .inl ⟨kvs, k, .inl e, rfl, rfl⟩
theorem DGet.t {H : Hp} {a b : Addr} {kvs : List (List Key × V)} {k : List Key} (e : H a = some (.dT kvs)) (eb : H b = some (.tup (k.map kV))) : DGet H a (.ref b) (valV kvs k) := .inr ⟨kvs, k, b, .inl e, rfl, eb, rfl⟩
theorem DPut.k {H : Hp} {a : Addr} {kvs : List (Key × V)} {k : Key} {v : V} (e : H a = some (.dK kvs)) (hl : kvs.length < sizeLine) : DPut H a (kV k) v (upd H a (.dK (putK kvs k v))) := .inl ⟨kvs, k, e, rfl, hl, rfl⟩
theorem DPut.t {H : Hp} {a b : Addr} {kvs : List (List Key × V)} {k : List Key} {v : V} (e : H a = some (.dT kvs)) (eb : H b = some (.tup (k.map kV))) (hl : kvs.length < sizeLine) :
    DPut H a (.ref b) v (upd H a (.dT (putK kvs k v))) := .inr ⟨kvs, k, b, e, rfl, eb, hl, rfl⟩


section
variable {X : Cx} {pins : List (Addr × Obj)} {σ : St} {H : Hp} {s : Shared} {a : Addr} {y v : V} {u r : Value} {o : Option V} {A : Around} {E : Value → Shared → Prop}

theorem Inv.big (I : Inv X pins σ H s) : sysModules < s.heap.objs.size := by
  have h : mainGlobals < s.heap.objs.size := (I.mod.glob.keeps I.bk).lt
  exact Nat.lt_trans (by decide) h

/-- y in d -/
theorem d_in {Q : Value → Shared → Prop} (hu : A.units + 1 < cLine) (I : Inv X pins σ H s) (g : DGet H a y o) (ry : RelV y u) (h : ∀ s', Inv X pins σ H s' → Q (.bool o.isSome) s') :
    wpAny (model X.prog X.w) A (compareOp .In u (.ref a)) Q E s := by
  rcases g with ⟨kvs, k, e, ey, l⟩ | ⟨kvs, k, b, e, ey, eb, l⟩
  · subst ey
    obtain ⟨z, hd, vs, rel, dd⟩ := dk_rd I.hok e
    refine wpAny_in_of (kV_is ry) hd dd.mapOf ?_
    rw [← (rel.val k).isSome_eq, ← l]
    exact h _ (I.tok _)
  · subst ey
    cases (show u = Value.ref b from ry)
    obtain ⟨z, hd, xs, rel, dd⟩ := dt_rd I.hok e
    refine wpAny_in_heap (tupleKind_room_in1 hu) (key_of I.hok eb) hd dd ?_
    have q := (rel.val k).isSome_eq
    rw [Option.isSome_map] at q
    rw [← q, ← l]
    exact h _ (I.tok _)
/-- a dict's object is replaced -/
theorem d_write {h' : Heap} {t' : Nat} {ob : HO} (I : Inv X pins σ H s) (mu : Mut (H a)) (hs : Heap.SameBut a s.heap h') (he : ∃ q, h'.get? a = some q) (new : ObjOk X.prog X.w (upd H a ob) h' a ob) :
    Inv X pins σ (upd H a ob) { s with heap := h', toks := t' } :=
  I.write (x := a) (e := a) mu (.inl rfl) (fun b q hb z => (hs.2 b hb).trans z) he new
theorem dk_new {P : Program} {w : World} {H' : Hp} {h' : Heap} {kvs : List (Key × V)} {vs : List (Key × Value)} (z : kvs.length ≤ sizeLine) (hd : (a == sysModules) = false) (rel : KV kvs vs) (dd : h'.DictOf (mixKind P w) a vs) :
    ObjOk P w H' h' a (.dK kvs) := ⟨z, hd, vs, rel, dd⟩
/-- d[y] = v -/
theorem d_setItem {H' : Hp} {Q : Unit → Shared → Prop} (hu : A.units + 1 < cLine) (I : Inv X pins σ H s) (g : DPut H a y v H') (ry : RelV y u) (rv : RelV v r) (h : ∀ s', Inv X pins σ H' s' → Q () s') :
    wpAny (model X.prog X.w) A (setItem (.ref a) u r) Q E s := by
  rcases g with ⟨kvs, k, e, ey, l, eH⟩ | ⟨kvs, k, b, e, ey, eb, l, eH⟩
  · subst ey eH
    obtain ⟨z, hd, vs, rel, dd⟩ := dk_of I.hok e
    have hz : vs.length ≤ sizeLine := by rw [← rel.length]; exact z
    have hl : (putK kvs k v).length ≤ sizeLine := by have := length_putK kvs k v; omega
    refine wpAny_setItem_pairs (hsz := hz) (kV_is ry) dd fun h' dd' hs => h _ ?_
    have he : ∃ q, h'.get? a = some q := let ⟨q, _, _, hq, _⟩ := dd'; ⟨q, hq⟩
    exact d_write I (by rw [e]; exact True.intro) hs he (dk_new hl hd (rel.put k rv) dd')
  · subst ey eH
    cases (show u = Value.ref b from ry)
    obtain ⟨z, hd, xs, rel, dd⟩ := dt_of I.hok e
    have hz : xs.length ≤ sizeLine := by rw [← Paired.length rel]; exact z
    have hl : (putK kvs k v).length ≤ sizeLine := by have := length_putK kvs k v; omega
    refine wpAny_setItem_heap (hsz := hz) (tupleKind_room_in1 hu) (key_of I.hok eb) dd fun h' dd' hs => h _ ?_
    obtain ⟨q, es, ep, hq, h2, h3, h4, _, h5⟩ := dd'
    refine d_write I (by rw [e]; exact True.intro) hs ⟨q, hq⟩ ⟨hl, hd, _, (rel.put k eb rv).keeps fun c ys ec => ?_, q, es, ep, hq, h2, h3, h4, h5⟩
    rw [upd_ne (ne_of ec e (fun z => nomatch z))]
    exact ec
end

section
variable {X : Cx} {pins : List (Addr × Obj)} {σ : St} {H : Hp} {s : Shared} {a : Addr} {kvs : List (Key × V)} {k : Key} {u : Value} {A : Around} {E : Value → Shared → Prop}
end


/-! ### readings and rules -/
/-- y in d, y not in d -/
def tDIn (ty td : TE) : TE := fun σ H Q => ty σ H fun y H1 => td σ H1 fun x H2 => ∃ a o, x = .ref a ∧ DGet H2 a y o ∧ Q (.bl o.isSome) H2
/-- d[y] = v -/
def sDPut (td ty tv : TE) : TS := fun D σ H => tv σ H fun v H1 => td σ H1 fun x H2 => ty σ H2 fun y H3 => ∃ a H4, x = .ref a ∧ DPut H3 a y v H4 ∧ D.nx σ H4
section
variable {X : Cx} {o i e value : Expr} {pos pos' tpos : Pos} {td ty tv : TE}
theorem pc_din (hu : X.A.units + 1 < cLine) (hi : PE X i ty) (ho : PE X o td) : PC X .In i o (tDIn ty td) := by
  intro pins s σ H Q I h
  refine thn (hi pins s σ H _ I h) fun iv s1 ⟨y, H1, I1, ry, q1⟩ => thn (ho pins s1 σ H1 _ I1 q1) fun u s2 ⟨x, H2, I2, rx, a, ov, ex, g, q2⟩ => ?_
  subst ex
  obtain rfl : u = Value.ref a := rx
  exact d_in hu I2 g ry fun s3 I3 => ⟨.bl ov.isSome, H2, I3, rfl, q2⟩
theorem ps_dput (hu : X.A.units + 1 < cLine) (ho : PE X o td) (hi : PE X i ty) (hv : PE X value tv) (hs : swapsWith value (some (.Subscript o i pos')) pos.line X.env = pure false) :
    PS X (.Assign [.Subscript o i pos'] value pos) (sDPut td ty tv) := by
  intro pins s σ H D I h
  refine wpAny_Assign_Subscript (thn (hv pins s σ H _ I h) fun r s1 ⟨v, H1, I1, rv, q1⟩ => thn (ho pins s1 σ H1 _ I1 q1) fun u s2 ⟨x, H2, I2, rx, q2⟩ => thn (hi pins s2 σ H2 _ I2 q2) fun iv s3 ⟨y, H3, I3, ry, a, H4, ex, g, q3⟩ => ?_) hs
  subst ex
  obtain rfl : u = Value.ref a := rx
  exact d_setItem hu I3 g ry rv fun s4 I4 => ⟨σ, H4, I4, q3⟩
end


/-! ### displays -/
theorem dk_empty {P : Program} {w : World} {H : Hp} (h : Heap) (hb : sysModules < h.objs.size) : ObjOk P w H (h.push { cls := .type "dict", data := .dict #[] }) h.objs.size (.dK []) :=
  ⟨Nat.zero_le _, beq_eq_false_iff_ne.mpr (Ne.symm (Nat.ne_of_lt hb)), [], .nil, Heap.DictOf.new h⟩
/-- {}, to be a dict of the kind that is wanted -/
def tDNewK : TE := fun _ H Q => ∀ p, H p = none → Q (.ref p) (upd H p (.dK []))
section
variable {X : Cx} {pos : Pos}
theorem pe_dnewK : PE X (.Dict [] [] pos) tDNewK := fun pins s σ H Q I h =>
  wpAny_Dict_empty ⟨.ref s.heap.objs.size, _, I.laid (a := s.heap.objs.size) (o := .dK []) (t' := s.toks) (fun _ _ q => Heap.get?_push_of_some _ q) (Nat.le_refl _) (dk_empty s.heap I.big), rfl, h _ (I.hok.fresh (Nat.le_refl _))⟩
end

/-! ### methods -/
/-- a method call o.m(e) of a built-in, with one argument: what must be seen of the text -/
structure M1 (X : Cx) (o : Expr) (m : Str) (apos : Pos) (e : Expr) (cpos : Pos) : Prop where
  base : attributeBase o m X.env (eval o X.env) = eval o X.env
  few : ((backTo cpos (starEach [e] X.env)).all (fun x => !x.1) && (backToKw cpos (keywordEach [] X.env)).all (fun x => x.1.isSome)
    && decide (([e] : List Expr).length + ([] : List Keyword).length + (if ([] : List Keyword).isEmpty then 0 else 1) < 30)) = true
  line : (apos.endLine == cpos.line) = true
  trees : backTo cpos (starEach [e] X.env) = [(false, eval e X.env)]
structure M2 (X : Cx) (o : Expr) (m : Str) (apos : Pos) (e f : Expr) (cpos : Pos) : Prop where
  base : attributeBase o m X.env (eval o X.env) = eval o X.env
  few : ((backTo cpos (starEach [e, f] X.env)).all (fun x => !x.1) && (backToKw cpos (keywordEach [] X.env)).all (fun x => x.1.isSome)
    && decide (([e, f] : List Expr).length + ([] : List Keyword).length + (if ([] : List Keyword).isEmpty then 0 else 1) < 30)) = true
  line : (apos.endLine == cpos.line) = true
  trees : backTo cpos (starEach [e, f] X.env) = [(false, eval e X.env), (false, eval f X.env)]

section
variable {X : Cx} {pins : List (Addr × Obj)} {σ : St} {H : Hp} {s : Shared} {a : Addr} {y d : V} {u r : Value} {o : Option V} {A : Around} {E : Value → Shared → Prop}
end

section
variable {X : Cx} {o e f : Expr} {apos cpos : Pos} {td ty tx : TE}
end

/-! ### dict(d): a copy -/
section
variable {X : Cx} {pins : List (Addr × Obj)} {σ : St} {H : Hp} {s : Shared} {a : Addr} {kvs : List (Key × V)} {A : Around} {E : Value → Shared → Prop}
end


section
variable {X : Cx} {pins : List (Addr × Obj)} {σ : St} {H : Hp} {s : Shared} {a : Addr} {y : V} {u : Value} {A : Around} {E : Value → Shared → Prop}
end
end L2


set_option Elab.async false
set_option linter.all false
set_option maxRecDepth 100000
set_option maxHeartbeats 4000000
/-! a dict walked: it is frozen from then on; len(d); l.count(i) of whole numbers -/
namespace L2
open PySem PySem.Spec PyProof.Rows PySem.W
open MeetsSeq MeetsSeq2 MeetsSeq3 SeqRoads2 SeqAt
section
variable {X : Cx} {tg : Expr}
end
section
theorem small10000 {n : Nat} (h : n < 10000) : n < sizeLine := by
  rw [sizeLine_eq]; omega
theorem comp_big {J : It} {NL : List Str} {ix : List Nat} {g : TG} {tt : TT} {te : TE} {σ : St} {H1 : Hp} {Qs : Hp → Prop} {acc : Addr} (n : Nat) (hn : n < 10000) (Pv : Nat → List V → Hp → Prop)
    (hacc : ∀ i ys H2, Pv i ys H2 → H2 acc = some (.lst ys) ∧ ys.length ≤ i) (h0 : Pv 0 [] (upd H1 acc (.lst []))) (hstop : ∀ ys H2, Pv n ys H2 → J.stop n H2 ∧ Qs H2)
    (hturn : ∀ i ys H2, i < n → Pv i ys H2 → J.go i H2 ∧ ∀ x H3, J.yld i H2 x H3 → g x (comp0 NL ix σ) H3 fun σ' H4 => σ'.drop NL.length = ix.map (fun j => σ.getD j none) ∧ tt σ' H4 fun b H5 =>
      if b = true then te σ' H5 fun v H6 => H6 acc = some (.lst ys) ∧ Pv (i + 1) (ys ++ [v]) (upd H6 acc (.lst (ys ++ [v]))) else Pv (i + 1) ys H5) :
    ∃ W : Nat → Nat → List V → Hp → Prop, (∃ m, W 0 m [] (upd H1 acc (.lst []))) ∧
    ∀ i m ys H2, W i m ys H2 → H2 acc = some (.lst ys) ∧ ys.length < sizeLine ∧
      ((J.stop i H2 ∧ Qs H2) ∨ (J.go i H2 ∧ ∃ N : List V → Hp → Prop, (∀ ys' H', N ys' H' → ∃ m', m' < m ∧ W (i + 1) m' ys' H') ∧
        ∀ x H3, J.yld i H2 x H3 → g x (comp0 NL ix σ) H3 fun σ' H4 => σ'.drop NL.length = ix.map (fun j => σ.getD j none) ∧ tt σ' H4 fun b H5 =>
          if b = true then te σ' H5 fun v H6 => H6 acc = some (.lst ys) ∧ N (ys ++ [v]) (upd H6 acc (.lst (ys ++ [v]))) else N ys H5)) := by
  refine ⟨fun i m ys H2 => i ≤ n ∧ m = n - i ∧ Pv i ys H2, ⟨n, Nat.zero_le _, rfl, h0⟩, fun i m ys H2 ⟨hi, hm, hp⟩ => ?_⟩
  obtain ⟨a1, a2⟩ := hacc i ys H2 hp
  refine ⟨a1, small10000 (by omega), ?_⟩
  rcases Nat.lt_or_ge i n with lt | ge
  · obtain ⟨go, tn⟩ := hturn i ys H2 lt hp
    exact .inr ⟨go, Pv (i + 1), fun ys' H' hN => ⟨n - (i + 1), by omega, by omega, rfl, hN⟩, tn⟩
  · have e : i = n := by omega
    subst e
    exact .inl (hstop ys H2 hp)
end
section
variable {NL : List Str} {ix : List Nat} {g : TG} {tt : TT} {te : TE} {σ : St} {H1 : Hp} {Qs : Hp → Prop} {acc : Addr}
end
section
variable {X : Cx}
end
end L2
namespace L2
open PySem PySem.Spec PyProof.Rows PySem.W
end L2


set_option Elab.async false
set_option linter.all false
set_option maxRecDepth 100000
set_option maxHeartbeats 4000000
/-! dict(a list of pairs) -/
namespace L2
open PySem PySem.Spec PyProof.Rows PySem.W
theorem lk_list_keys : typeLookup (.type "list") "keys" = pure none := by rw [typeLookup_type, builtinLookup_eq_fast]; kernel_rfl
theorem keys_none {prog : Program} {w : World} {A : Around} {E : Value → Shared → Prop} {s : Shared} {a : Addr} {xs : Array Value} {k : Nat} {Q : Option Value → Shared → Prop}
    (hx : s.heap.get? a = some { cls := .type "list", data := .seq xs k }) (hA : A.handled = none)
    (h : ∀ h' tk, (∀ b o, s.heap.get? b = some o → h'.get? b = some o) → Q none { s with heap := h', toks := tk }) :
    wpAny (model prog w) A (getAttr? (.ref a) "keys") Q E s := by
  obtain ⟨hp, g, d, tk, os⟩ := s
  have hT : ∀ tk', (⟨hp, g, d, tk', os⟩ : Shared).TypeIs (.ref a) "list" := fun _ => ⟨_, hx, rfl⟩
  have f1 := sub_AttributeError
  have f3 := F.slot_list_getattribute.lookup
  have f4 := F.slot_list_getattribute.bind (.ref a)
  have f5 := am_list_getattr_none
  unfold getAttr? getAttrBy? getAttrBy
  repeat (any_goals (first | assumption | exact hT _ | ((with_reducible show wpAny _ _ (call (Value.builtin "list.__getattribute__") _ _) _ _ _); refine call_meets F.slot_list_getattribute (hT _) am_entry_list_getattribute (F.args_list_getattribute_2 _ _) (meets_getattribute_miss_list a xs k #[] "keys" _ lk_list_keys (by decide) (by size_fits)) ⟨hx, hA, fun h' tk' e hx' => ?_⟩) | wp_step))
  obtain ⟨t', u', he⟩ := hx'.there
  show wpAny _ _ (getattributeRaised _ _ _ _ _ _ _) _ _ _
  unfold getattributeRaised
  repeat (any_goals (first | assumption | wp_step))
  exact h _ _ hx'.keeps
end L2
namespace L2
open PySem PySem.Spec PyProof.Rows PySem.W
theorem entry_dict_loop : entryFor table "dict.update.loop" = some Builtin.«dict.update.loop» := entryFor_of_tree (by kernel_rfl)
theorem plain_dict_loop : plainId "dict.update.loop" = true := by decide +kernel
section
variable {prog : Program} {w : World} {A : Around} {E : Value → Shared → Prop}
/-- the pairs that a list of tuples holds -/
def DPrs (h : Heap) (D : Addr) (items : Array Value) (ps : List (Key × Value)) : Prop :=
  ps.length = items.size ∧ ∀ (j : Nat) (k : Key) (v : Value), ps[j]? = some (k, v) → ∃ (a : Addr) (ku : Value), items[j]? = some (Value.ref a) ∧ a ≠ D ∧ RelV (kV k) ku ∧ IsTup h a #[ku, v]
theorem DPrs.keeps {h h' : Heap} {D I : Addr} {items : Array Value} {ps : List (Key × Value)} (p : DPrs h D items ps) (nI : ∀ a : Addr, Value.ref a ∈ items → a ≠ I) (k : ∀ b o, b ≠ I → b ≠ D → h.get? b = some o → h'.get? b = some o) : DPrs h' D items ps := by
  refine ⟨p.1, fun j kk v e => ?_⟩
  obtain ⟨a, ku, ha, hD, hk, o, e1, e2⟩ := p.2 j kk v e
  exact ⟨a, ku, ha, hD, hk, o, k a o (nI a (Array.mem_of_getElem? ha)) hD e1, e2⟩
end
end L2
namespace L2
open PySem PySem.Spec PyProof.Rows PySem.W
section
variable {prog : Program} {w : World} {A : Around} {E : Value → Shared → Prop} {s : Shared}
end
end L2
namespace L2
open PySem PySem.Spec PyProof.Rows PySem.W
section
variable {X : Cx}
end
theorem bt_dict : bootBuiltins "dict" = some (.type "dict") := by decide +kernel
end L2


set_option Elab.async false
set_option linter.all false
set_option maxRecDepth 100000
set_option maxHeartbeats 4000000
/-! the model's sort of any length: what its parts do -/
namespace Tim
open PySem PyProof.Rows
abbrev setG (st : SortSt) (g : Nat) : SortSt := SortSt.mk' (kindOf st) (arrOf st) (pendingOf st) g (failedOf st)
end Tim


set_option Elab.async false
set_option linter.all false
set_option maxRecDepth 100000
set_option maxHeartbeats 4000000
namespace Tim
open PySem PyProof.Rows
section
variable {prog : Program} {w : World} {A : Around} {E : Value → Shared → Prop} {s : Shared} {a₀ : Array Keyed} {κ : SortKind} {O : KeyOrd} {key : Keyed → O.α}
/-! ### two rising rows laid together -/
def mrg (key : Keyed → O.α) : List Keyed → List Keyed → List Keyed
  | [], ys => ys
  | x :: xs, [] => x :: xs
  | x :: xs, y :: ys => if O.blt (key y) (key x) = true then y :: mrg key (x :: xs) ys else x :: mrg key xs (y :: ys)
termination_by xs ys => xs.length + ys.length
abbrev Srt (key : Keyed → O.α) (l : List Keyed) : Prop := l.Pairwise fun x y => O.blt (key y) (key x) = false
end
end Tim


set_option Elab.async false
set_option linter.all false
set_option maxRecDepth 100000
set_option maxHeartbeats 4000000
namespace Tim
open PySem PyProof.Rows
section
variable {prog : Program} {w : World} {A : Around} {E : Value → Shared → Prop} {s : Shared} {a₀ : Array Keyed} {κ : SortKind} {O : KeyOrd} {key : Keyed → O.α}
/-- two rows that are laid together -/
structure Two (key : Keyed → O.α) (a₀ a b : Array Keyed) : Prop where
  ma : ∀ x ∈ a, x ∈ a₀
  mb : ∀ x ∈ b, x ∈ a₀
  na : 1 ≤ a.size
  nb : 1 ≤ b.size
  sa : Srt key a.toList
  sb : Srt key b.toList
  fst : ∀ x ∈ a, ∀ y, b[0]? = some y → O.blt (key y) (key x) = true
  lst : ∀ y ∈ b, ∀ x, a[a.size - 1]? = some x → O.blt (key y) (key x) = true
def LoI (key : Keyed → O.α) (a b o : Array Keyed) (p q : Nat) : Prop := o.toList ++ mrg key (a.toList.drop p) (b.toList.drop q) = mrg key a.toList b.toList
section
variable {a b o : Array Keyed} {p q k : Nat} {x y : Keyed}
end
abbrev LSt := Option (Array Keyed) × Array Keyed × Nat × Nat × Nat × Nat × Nat
structure GoesOn (key : Keyed → O.α) (a b : Array Keyed) (st : SortSt) (m : Nat) (R : ForInStep LSt → SortSt → Prop) : Prop where
  fin : ∀ (out : Array Keyed) c g, out.toList = mrg key a.toList b.toList → R (.done (some out, c)) (setG st g)
  brk : ∀ o p q g c d g', LoI key a b o p q → p + 1 < a.size → q < b.size → m ≤ p + q → R (.done (none, o, p, q, g, c, d)) (setG st g')
  yld : ∀ o p q g c d g', LoI key a b o p q → p + 1 < a.size → q < b.size → m ≤ p + q → R (.yield (none, o, p, q, g, c, d)) (setG st g')
section
variable {a b o : Array Keyed} {p q k g c d m g' : Nat} {x y : Keyed} {st : SortSt} {R : ForInStep LSt → SortSt → Prop}
end
end
end Tim


set_option Elab.async false
set_option linter.all false
set_option maxRecDepth 100000
set_option maxHeartbeats 4000000
namespace Tim
open PySem PyProof.Rows
section
variable {prog : Program} {w : World} {A : Around} {E : Value → Shared → Prop} {s : Shared} {a₀ : Array Keyed} {κ : SortKind} {O : KeyOrd} {key : Keyed → O.α}
def HiI (key : Keyed → O.α) (a b o : Array Keyed) (p q : Nat) : Prop := mrg key (a.toList.take p) (b.toList.take q) ++ o.toList.reverse = mrg key a.toList b.toList
section
variable {a b o : Array Keyed} {p q f : Nat} {x y : Keyed}
end
abbrev HSt := Option (Array Keyed) × Nat × Nat × Array Keyed × Nat × Nat × Nat
structure GoesHi (key : Keyed → O.α) (a b : Array Keyed) (st : SortSt) (m : Nat) (R : ForInStep HSt → SortSt → Prop) : Prop where
  fin : ∀ (out : Array Keyed) c g, out.toList = mrg key a.toList b.toList → R (.done (some out, c)) (setG st g)
  brk : ∀ o p q g c d g', HiI key a b o p q → 0 < p → p ≤ a.size → 1 < q → q ≤ b.size → p + q ≤ m → R (.done (none, p, q, o, g, c, d)) (setG st g')
  yld : ∀ o p q g c d g', HiI key a b o p q → 0 < p → p ≤ a.size → 1 < q → q ≤ b.size → p + q ≤ m → R (.yield (none, p, q, o, g, c, d)) (setG st g')
section
variable {a b o : Array Keyed} {p q k g c d m g' : Nat} {x y : Keyed} {st : SortSt} {R : ForInStep HSt → SortSt → Prop}
end
end
end Tim


set_option Elab.async false
set_option linter.all false
set_option maxRecDepth 100000
set_option maxHeartbeats 4000000
namespace Tim
open PySem PyProof.Rows
section
variable {prog : Program} {w : World} {A : Around} {E : Value → Shared → Prop} {s : Shared} {a₀ : Array Keyed} {κ : SortKind} {O : KeyOrd} {key : Keyed → O.α}
theorem three (L : List Keyed) {u v : Nat} (h : u ≤ v) : L = L.take u ++ (L.drop u).take (v - u) ++ L.drop v := by
  have e : L.drop v = (L.drop u).drop (v - u) := by rw [List.drop_drop]; congr 1; omega
  rw [e, List.append_assoc, List.take_append_drop, List.take_append_drop]
end
end Tim


set_option Elab.async false
set_option linter.all false
set_option maxRecDepth 100000
set_option maxHeartbeats 4000000
namespace Tim
open PySem PyProof.Rows
section
variable {prog : Program} {w : World} {A : Around} {E : Value → Shared → Prop} {s : Shared} {a₀ : Array Keyed} {κ : SortKind} {O : KeyOrd} {key : Keyed → O.α}
def Dist (key : Keyed → O.α) (a₀ : Array Keyed) : Prop := (a₀.toList.map key).Nodup
theorem Dist.inj (D : Dist key a₀) {xs : Array Keyed} (h : xs.Perm a₀) {i j : Nat} {x y : Keyed} (ex : xs[i]? = some x) (ey : xs[j]? = some y) (h1 : O.blt (key x) (key y) = false) (h2 : O.blt (key y) (key x) = false) : i = j := by
  have nd : (xs.toList.map key).Nodup := (List.Perm.nodup_iff ((Array.perm_iff_toList_perm.mp h).map key)).mpr D
  obtain ⟨g1, rfl⟩ := Array.getElem?_eq_some_iff.mp ex
  obtain ⟨g2, rfl⟩ := Array.getElem?_eq_some_iff.mp ey
  refine (List.getElem_inj (h₀ := by simpa using g1) (h₁ := by simpa using g2) nd).mp ?_
  rw [List.getElem_map, List.getElem_map, Array.getElem_toList, Array.getElem_toList]
  exact O.total _ _ h1 h2
end
end Tim


set_option Elab.async false
set_option linter.all false
set_option maxRecDepth 100000
set_option maxHeartbeats 4000000
namespace Tim
open PySem PyProof.Rows
section
variable {prog : Program} {w : World} {A : Around} {E : Value → Shared → Prop} {s : Shared} {a₀ : Array Keyed} {κ : SortKind} {O : KeyOrd} {key : Keyed → O.α}
end
end Tim


set_option Elab.async false
set_option linter.all false
set_option maxRecDepth 100000
set_option maxHeartbeats 4000000
/-! sorted of many texts, sorted of a dict's keys; what is never raised; l.index of many texts -/
namespace L2
open PySem PySem.Spec PyProof.Rows PySem.W Tim
section
variable {prog : Program} {w : World} {A : Around} {E : Value → Shared → Prop} {s : Shared}
end
section
variable {prog : Program} {w : World} {A : Around} {E : Value → Shared → Prop} {s : Shared} {T : String} {r d : Addr} {n : Nat} {P : Nat → Value → Prop} {OK : Heap → Prop}
end
section
variable {X : Cx}
/-- raise: where it is never reached -/
theorem ps_raise0 {e : Option Expr} {c : Option Expr} {pos : Pos} : PS X (.Raise e c pos) (fun _ _ _ => False) := fun _ _ _ _ _ _ h => h.elim
end
end L2


set_option Elab.async false
set_option linter.all false
set_option maxRecDepth 100000
set_option maxHeartbeats 4000000
/-! list.count of texts; l[::n]; a text walked; startswith as a test -/
namespace L2
open PySem PySem.Spec PyProof.Rows PySem.W
section
variable {X : Cx}
/-! ### l[::n] -/
variable {e st : Expr} {te : TE} {ts : TO} {pos p2 : Pos}
end
/-! ### a text walked -/
def Itx (x : Str) : It := ⟨fun i _ => i < x.cps.size, fun i H v H' => H' = H ∧ ∃ c, x.cps[i]? = some c ∧ v = .str ⟨#[c]⟩, fun i _ => x.cps.size ≤ i⟩
theorem turn_str {P : Program} {w : World} {K : PySem.W.Frag} {tg : Expr} (x : Str) (t : Tok) (it : Addr) : Turn P w K tg (Itx x) [it] it (fun i h => h.IsStrIter it (strIterType x) x t i) where
  mem := by simp
  obj := fun i h st b hb => by
    have e : b = it := by simpa using hb
    subst e
    obtain ⟨o, e, c, d⟩ := st
    exact ⟨o, e, fun v z => by rw [d] at z; cases z⟩
  keep := fun i h h' st k => by
    obtain ⟨o, e, c, d⟩ := st
    exact ⟨o, k it (by simp) o e, c, d⟩
  item := by
    intro X hP hw hK hc i pins s σ H E I hf st hg
    subst hP hw hK
    have hg : i < x.cps.size := hg
    obtain ⟨f0, f1, f2, f3, f4, f5⟩ := hf it (by simp)
    have hx : x.cps[i]? = some (x.cps[i]'hg) := Array.getElem?_eq_getElem hg
    have go : ∀ (h' : Heap), h'.IsStrIter it (strIterType x) x t (i + 1) → Heap.SameBut it s.heap h' → ∃ u, some (Value.str ⟨#[x.cps[i]'hg]⟩ s.toks) = some u ∧
        wpAny (model X.prog X.w) X.A (letOwnedTupleGo tg (.ref it) u) (fun _ s2 => ∃ v H', Inv X pins σ H' s2 ∧ RelV v u ∧ (Itx x).yld i H v H' ∧ s2.heap.IsStrIter it (strIterType x) x t (i + 1) ∧ ∀ b ∈ [it], H' b = none) E { s with heap := h', toks := s.toks + 1 } := fun h' st' sb => by
      have I1 : Inv X pins σ H { s with heap := h', toks := s.toks + 1 } := I.turned (t' := s.toks + 1) (fun b o hb e => (sb.2 b hb).trans e) f0 f1 f3 f4 f5
      obtain ⟨o, e, c, d⟩ := id st'
      refine ⟨_, rfl, go_of (s := { s with heap := h', toks := s.toks + 1 }) e c d ?_ ⟨.str ⟨#[x.cps[i]'hg]⟩, H, I1, ⟨_, rfl⟩, ⟨rfl, _, hx, rfl⟩, st', fun b hb => (hf b hb).1⟩⟩
      unfold strIterType
      split <;> decide
    cases c : x.cps.all (· < 128) with
    | true =>
      have e : strIterType x = "str_ascii_iterator" := by unfold strIterType; rw [c]; rfl
      rw [e] at st
      exact wpAny_pyNext_ascii_item st hx fun h' st' sb => go h' (by rw [e]; exact st') sb
    | false =>
      have e : strIterType x = "str_iterator" := by unfold strIterType; rw [c]; rfl
      rw [e] at st
      exact wpAny_pyNext_wide_item st hx fun h' st' sb => go h' (by rw [e]; exact st') sb
  done := by
    intro X hP hw hK hc i pins s σ H E I hf st hg
    subst hP hw hK
    have hg : x.cps.size ≤ i := hg
    obtain ⟨f0, f1, f2, f3, f4, f5⟩ := hf it (by simp)
    have hx : x.cps[i]? = none := Array.getElem?_eq_none hg
    cases c : x.cps.all (· < 128) with
    | true =>
      have e : strIterType x = "str_ascii_iterator" := by unfold strIterType; rw [c]; rfl
      rw [e] at st
      exact wpAny_pyNext_ascii_end (I.ok.hd hc) st hx fun h' eb => ⟨rfl, I.turned (t' := s.toks) (fun b o hb e => eb b o hb e) f0 f1 f3 f4 f5⟩
    | false =>
      have e : strIterType x = "str_iterator" := by unfold strIterType; rw [c]; rfl
      rw [e] at st
      exact wpAny_pyNext_wide_end (I.ok.hd hc) st hx fun h' eb => ⟨rfl, I.turned (t' := s.toks) (fun b o hb e => eb b o hb e) f0 f1 f3 f4 f5⟩
  self := fun _ _ _ _ _ st h => by
    cases c : x.cps.all (· < 128) with
    | true =>
      have e : strIterType x = "str_ascii_iterator" := by unfold strIterType; rw [c]; rfl
      rw [e] at st
      exact wpAny_pyIter_striter_ascii st h
    | false =>
      have e : strIterType x = "str_iterator" := by unfold strIterType; rw [c]; rfl
      rw [e] at st
      exact wpAny_pyIter_striter_wide st h
section
variable {X : Cx} {tg : Expr}
def iStr (tl : TE) : TI := fun σ H R => tl σ H fun x H1 => ∃ z, x = .str z ∧ R (Itx z) H1
theorem pi_str {l : Expr} {tl : TE} (hl : PE X l tl) : PI X tg l (iStr tl) := by
  intro pins s σ H R I h
  refine thn (hl pins s σ H _ I h) fun v s1 ⟨x, H1, I1, r1, q1⟩ => ?_
  obtain ⟨z, rfl, q⟩ := q1
  obtain ⟨t, rfl⟩ := r1
  refine wpAny_pyIter_strU ?_
  refine ⟨s1.heap.objs.size, [s1.heap.objs.size], _, _, H1, rfl, I1.kept (t' := s1.toks) fun b o e => Heap.get?_push_of_some _ e, turn_str z t _, ⟨_, Heap.get?_push_size _ rfl, rfl, rfl⟩, fun b hb => ?_, q⟩
  have e : b = s1.heap.objs.size := by simpa using hb
  subst e
  exact I1.fpOk (Nat.le_refl _) (I1.hok.fresh (Nat.le_refl _))
end
section
variable {NL : List Str} {ix : List Nat} {g : TG} {tt : TT} {te : TE} {σ : St} {H1 : Hp} {Qs : Hp → Prop} {acc : Addr}
theorem comp_str {z : Str} (hn : z.cps.size < 10000) (Pv : Nat → List V → Hp → Prop)
    (hacc : ∀ i ys H2, Pv i ys H2 → H2 acc = some (.lst ys) ∧ ys.length ≤ i) (h0 : Pv 0 [] (upd H1 acc (.lst []))) (hstop : ∀ ys H2, Pv z.cps.size ys H2 → Qs H2)
    (hturn : ∀ i c ys H2, z.cps[i]? = some c → Pv i ys H2 → g (.str ⟨#[c]⟩) (comp0 NL ix σ) H2 fun σ' H4 => σ'.drop NL.length = ix.map (fun j => σ.getD j none) ∧ tt σ' H4 fun b H5 =>
      if b = true then te σ' H5 fun v H6 => H6 acc = some (.lst ys) ∧ Pv (i + 1) (ys ++ [v]) (upd H6 acc (.lst (ys ++ [v]))) else Pv (i + 1) ys H5) :
    ∃ W : Nat → Nat → List V → Hp → Prop, (∃ m, W 0 m [] (upd H1 acc (.lst []))) ∧
    ∀ i m ys H2, W i m ys H2 → H2 acc = some (.lst ys) ∧ ys.length < sizeLine ∧
      (((Itx z).stop i H2 ∧ Qs H2) ∨ ((Itx z).go i H2 ∧ ∃ N : List V → Hp → Prop, (∀ ys' H', N ys' H' → ∃ m', m' < m ∧ W (i + 1) m' ys' H') ∧
        ∀ x H3, (Itx z).yld i H2 x H3 → g x (comp0 NL ix σ) H3 fun σ' H4 => σ'.drop NL.length = ix.map (fun j => σ.getD j none) ∧ tt σ' H4 fun b H5 =>
          if b = true then te σ' H5 fun v H6 => H6 acc = some (.lst ys) ∧ N (ys ++ [v]) (upd H6 acc (.lst (ys ++ [v]))) else N ys H5)) := by
  refine comp_big z.cps.size hn Pv hacc h0 (fun ys H2 hp => ⟨Nat.le_refl _, hstop ys H2 hp⟩) fun i ys H2 hi hp => ⟨hi, ?_⟩
  rintro x H3 ⟨rfl, c, hc, rfl⟩
  exact hturn i c ys H3 hc hp
end
section
variable {X : Cx}
end
end L2


set_option Elab.async false
set_option linter.all false
set_option maxRecDepth 100000
set_option maxHeartbeats 4000000
/-! t + u, any two tuples -/
namespace L2
open PySem PySem.Spec PyProof.Rows
section
variable {X : Cx}
def rCatA (K : PySem.W.Frag) : R2 := fun x y H Q => ∃ a b xs ys, x = .ref a ∧ y = .ref b ∧ SqT K H a xs ∧ SqT K H b ys ∧ xs.length + ys.length ≤ sizeLine ∧
  (xs = [] → Q (.ref b) H) ∧ (xs ≠ [] → ys = [] → Q (.ref a) H) ∧ (xs ≠ [] → ys ≠ [] → ∀ p, H p = none → Q (.ref p) (upd H p (.tup (xs ++ ys))))
theorem cat_tup0 {prog : Program} {w : World} {A : Around} {E : Value → Shared → Prop} {s : Shared} {t b : Addr} {vs ws : List Value} {Q : Value → Shared → Prop} (ht : IsTup s.heap t vs.toArray) (hb : IsTup s.heap b ws.toArray) (hv : vs = [])
    (h : Q (.ref b) s) : wpAny (model prog w) A (binaryOp .Add (.ref t) (.ref b)) Q E s := by
  obtain ⟨⟨cls, dd, data, sl⟩, ho, hc, n, hd⟩ := id ht
  obtain ⟨⟨cls2, dd2, data2, sl2⟩, ho2, hc2, n2, hd2⟩ := id hb
  simp only at hc hd hc2 hd2
  subst hc hd hc2 hd2
  exact concat_meets ⟨_, ho, rfl⟩ ⟨_, ho2, rfl⟩ noFill_tuple_add seq_tuple_add PySem.F.slot_tuple_add PySem.F.entry_tuple_add (PySem.F.args_tuple_add_2 _ _)
      (tuple_addW0 t b vs.toArray ws.toArray n n2 dd dd2 sl sl2 (by simp [hv])) ⟨ho, ho2, h⟩
theorem op_catA : OpR X (binaryOp .Add) (rCatA X.K) := by
  intro pins s σ H x y v u Q I rx ry h
  obtain ⟨a, b, xs, ys, rfl, rfl, ha, hb, hz, q0, q1, q2⟩ := h
  by_cases hx : xs = []
  · cases rx
    cases ry
    obtain ⟨its, r1, p1, _⟩ := I.tuple ha
    obtain ⟨its2, r2, p2, _⟩ := I.tuple hb
    exact cat_tup0 p1 p2 (r1.nil_iff.mpr hx) ⟨.ref b, H, I, rfl, q0 hx⟩
  · exact op_catT pins s σ H _ _ v u Q I rx ry ⟨a, b, xs, ys, rfl, rfl, ha, hb, hx, hz, q1 hx, q2 hx⟩
theorem op_catAK (K : PySem.W.Frag) (hK : X.K = K := by rfl) : OpR X (binaryOp .Add) (rCatA K) := by subst hK; exact op_catA
end
end L2


set_option Elab.async false
set_option linter.all false
set_option maxRecDepth 100000
set_option maxHeartbeats 4000000
/-! dict(a list of pairs) whose keys are tuples -/
namespace L2
open PySem PySem.Spec PyProof.Rows PySem.W
theorem _root_.PySem.Heap.DictOfH.keepT {P : Program} {w : World} {h h' : Heap} {d : Addr} {xs : List (List Key × Addr × Value)} (m : h.DictOfH (tupleKind (mixKind P w)) d xs) (hd : ∀ o, h.get? d = some o → h'.get? d = some o) (hk : ∀ x ∈ xs, ∀ o, h.get? x.2.1 = some o → h'.get? x.2.1 = some o) : h'.DictOfH (tupleKind (mixKind P w)) d xs := by
  obtain ⟨o, es, ep, e, c1, c2, c3, c4, c5⟩ := m
  refine ⟨o, es, ep, hd o e, c1, c2, c3, fun x hx => ?_, c5⟩
  obtain ⟨o2, its, n, e2, r⟩ := c4 x hx
  exact ⟨o2, its, n, hk x hx o2 e2, r⟩
def DPrsT (P : Program) (w : World) (h : Heap) (D : Addr) (items : Array Value) (ps : List (List Key × Addr × Value)) : Prop :=
  ps.length = items.size ∧ ∀ (j : Nat) (k : List Key) (b : Addr) (v : Value), ps[j]? = some (k, b, v) → ∃ a : Addr, items[j]? = some (Value.ref a) ∧ a ≠ D ∧ b ≠ D ∧ IsTup h a #[.ref b, v] ∧ (tupleKind (mixKind P w)).is h k b
theorem DPrsT.keeps {P : Program} {w : World} {h h' : Heap} {D I : Addr} {items : Array Value} {ps : List (List Key × Addr × Value)} (p : DPrsT P w h D items ps) (nI : ∀ a : Addr, Value.ref a ∈ items → a ≠ I) (nIb : ∀ (j : Nat) k b v, ps[j]? = some (k, b, v) → b ≠ I)
    (k : ∀ b o, b ≠ I → b ≠ D → h.get? b = some o → h'.get? b = some o) : DPrsT P w h' D items ps := by
  refine ⟨p.1, fun j kk b v e => ?_⟩
  obtain ⟨a, ha, hD, hbD, ⟨o, e1, e2⟩, o2, its, n, e3, r⟩ := p.2 j kk b v e
  exact ⟨a, ha, hD, hbD, ⟨o, k a o (nI a (Array.mem_of_getElem? ha)) hD e1, e2⟩, o2, its, n, k b o2 (nIb j kk b v e) hbD e3, r⟩
theorem storedT_take {ps : List (List Key × Addr × Value)} (nd : (ps.map (·.1)).Nodup) {i : Nat} {k : List Key} {b : Addr} {v : Value} (e : ps[i]? = some (k, b, v)) : storedH (ps.take i) k b v = ps.take (i + 1) := by
  have h : atKey (ps.take i) k = none := by
    refine atKey_none_of_get fun j q hj => ?_
    obtain ⟨hi, e3⟩ := List.getElem?_eq_some_iff.mp e
    obtain ⟨hj1, hj2⟩ := List.getElem?_eq_some_iff.mp hj
    rw [List.length_take] at hj1
    have := (List.pairwise_iff_getElem.mp nd) j i (by rw [List.length_map]; omega) (by rw [List.length_map]; omega) (by omega)
    apply this
    rw [List.getElem_map, List.getElem_map, e3]
    rw [List.getElem_take] at hj2
    rw [hj2]
  rw [storedH_new h, List.take_succ, e]; rfl
section
variable {prog : Program} {w : World} {A : Around} {E : Value → Shared → Prop}
theorem dict_loopT {l I D : Addr} {items : Array Value} {ps : List (List Key × Addr × Value)} {R : Result → Shared → Prop} (hu : A.units + 1 < cLine) (hh : A.handled = none) (lI : l ≠ I) (DI : D ≠ I) (Dl : D ≠ l) (nI : ∀ a : Addr, Value.ref a ∈ items → a ≠ I) (nIb : ∀ (j : Nat) k b v, ps[j]? = some (k, b, v) → b ≠ I) (nd : (ps.map (·.1)).Nodup) (hn : items.size < 1000) :
    ∀ (n i : Nat) (s : Shared), items.size - i = n → i ≤ items.size → s.heap.IsListIter I l i → s.heap.IsList l items → DPrsT prog w s.heap D items ps → s.heap.DictOfH (tupleKind (mixKind prog w)) D (ps.take i) →
      (∀ h' tk, (∀ b o, b ≠ I → b ≠ D → s.heap.get? b = some o → h'.get? b = some o) → h'.DictOfH (tupleKind (mixKind prog w)) D ps → R (.ok (.ret .none)) { s with heap := h', toks := tk }) →
      codeAny (model prog w) A (.builtin "dict.update.loop" ⟨[.ref D, .ref I, rawInt i, .none], []⟩) R s
  | 0, i, s, hk, hi, h1, h2, h3, h4, h => by
    have ei : i = items.size := by omega
    subst ei
    refine codeAny_builtin entry_dict_loop ?_
    rw [Around.under_plainId plain_dict_loop _]
    show wpAny _ A.in1 (pyNext (.ref I) >>= _) _ _ s
    have Wk := Walks.list (prog := prog) (w := w) (A := A.in1) hh I l lI items
    refine wpAny_bind (Wk.done s _ _ ⟨h1, h2⟩ fun h' tk kp => ?_)
    refine wpAny_bind (m := Builtin.Dict.addKeywords D []) (wpAny_pure (wpAny_pure ?_))
    refine h h' tk (fun b o n1 _ e => kp b o (by simpa using n1) e) ?_
    rw [List.take_of_length_le (by rw [h3.1]; exact Nat.le_refl _)] at h4
    exact h4.keepT (fun o e => kp D o (by simpa using DI) e) fun x hx o e => by
      obtain ⟨j, hj, ex⟩ := List.getElem_of_mem hx
      exact kp x.2.1 o (by simpa using nIb j x.1 x.2.1 x.2.2 (by rw [List.getElem?_eq_getElem hj, ex])) e
  | n + 1, i, s, hk, hi, h1, h2, h3, h4, h => by
    have il : i < items.size := by omega
    refine codeAny_builtin entry_dict_loop ?_
    rw [Around.under_plainId plain_dict_loop _]
    show wpAny _ A.in1 (pyNext (.ref I) >>= _) _ _ s
    have Wk := Walks.list (prog := prog) (w := w) (A := A.in1) hh I l lI items
    refine wpAny_bind (Wk.item i s _ _ il ⟨h1, h2⟩ fun v h' tk hP hSt kp => ?_)
    obtain ⟨pk, pb, pv, hps⟩ : ∃ pk pb pv, ps[i]? = some (pk, pb, pv) := ⟨_, _, _, List.getElem?_eq_getElem (by rw [h3.1]; exact il)⟩
    obtain ⟨a, ha, hD, hbD, tup, hk'⟩ := h3.2 i pk pb pv hps
    have pI := nIb i pk pb pv hps
    have ev : v = .ref a := Option.some.inj (hP.symm.trans ha)
    subst ev
    have aI : a ≠ I := nI a (Array.mem_of_getElem? ha)
    obtain ⟨o, e1, e2, n2, e3⟩ := tup
    have e1' := kp a o (by simpa using aI) e1
    have hTt : (Shared.mk h' s.gens s.drawn tk s.os).TypeIs (.ref a) "tuple" := ⟨o, e1', e2⟩
    have h4' : h'.DictOfH (tupleKind (mixKind prog w)) D (ps.take i) := h4.keepT (fun o e => kp D o (by simpa using DI) e) fun x hx o e => by
      obtain ⟨j, hj, ex⟩ := List.getElem_of_mem (List.mem_of_mem_take hx)
      exact kp x.2.1 o (by simpa using nIb j x.1 x.2.1 x.2.2 (by rw [List.getElem?_eq_getElem hj, ex])) e
    have hk2 : (tupleKind (mixKind prog w)).is h' pk pb := by
      obtain ⟨o, its, n, e, r⟩ := hk'
      exact ⟨o, its, n, kp pb o (by simpa using pI) e, r⟩
    dsimp only
    refine wpAny_bind (wpAny_holding ?_)
    refine wpAny_bind (wpAny_tryCatch ?_)
    unfold Builtin.Dict.pairItems
    refine wpAny_bind (wpAny_typeOf hTt ?_)
    rw [if_pos (by decide)]
    refine wpAny_bind ?_
    unfold seqItems?
    refine wpAny_bind (wpAny_load e1' ?_)
    rw [e3]
    refine wpAny_pure (wpAny_pure ?_)
    refine wpAny_holding (wpAny_dictSet_heap (tupleKind_room_in1 hu) hk2 h4' (fun h2' dd sb => ?_) (by rw [List.length_take]; exact Nat.le_of_lt (small1000 (by omega))))
    refine wpAny_pure ⟨plainId_quiet plain_dict_loop _, ?_⟩
    rw [storedT_take nd hps] at dd
    have kk : ∀ b o, b ≠ I → b ≠ D → s.heap.get? b = some o → h2'.get? b = some o := fun b o n1 n2 e => (sb.2 b n2).trans (kp b o (by simpa using n1) e)
    refine dict_loopT hu hh lI DI Dl nI nIb nd hn n (i + 1) { s with heap := h2', toks := _ } (by omega) (by omega) ?_ ?_ (h3.keeps nI nIb kk) dd fun h5 tk5 k5 d5 => ?_
    · exact hSt.1.at fun o e => (sb.2 I (Ne.symm DI)).trans e
    · obtain ⟨o, e, r⟩ := hSt.2
      exact ⟨o, (sb.2 l (Ne.symm Dl)).trans e, r⟩
    · exact h h5 tk5 (fun b o n1 n2 e => k5 b o n1 n2 (kk b o n1 n2 e)) d5
end
section
variable {prog : Program} {w : World} {A : Around} {E : Value → Shared → Prop} {s : Shared}
theorem dict_prsT {l : Addr} {items : List Value} {n : Nat} {ps : List (List Key × Addr × Value)} {Q : Value → Shared → Prop} (hu : A.units + 2 < cLine) (hh : A.handled = none) (hl : s.heap.get? l = some { cls := .type "list", data := .seq items.toArray n }) (hps : DPrsT prog w s.heap s.heap.objs.size items.toArray ps) (nd : (ps.map (·.1)).Nodup) (hn : items.length < 1000)
    (h : ∀ h' tk, (∀ b o, s.heap.get? b = some o → h'.get? b = some o) → h'.DictOfH (tupleKind (mixKind prog w)) s.heap.objs.size ps → Q (.ref s.heap.objs.size) { s with heap := h', toks := tk }) :
    wpAny (model prog w) A (call (.type "dict") [.ref l]) Q E s := by
  have hlt : l < s.heap.objs.size := Heap.lt_size hl
  refine callType_codes (Q₁ := fun obj s₁ => obj = .ref s.heap.objs.size ∧ s₁ = { s with heap := s.heap.push { cls := .type "dict", data := .dict #[] } }) F.kt_called_dict (F.kt_typeCall_dict_1 _) F.entry_dict_init (kt_code_dict_new _ ⟨rfl, rfl⟩) ?_
  rintro obj s₁ ⟨rfl, rfl⟩
  have hnew : (s.heap.push { cls := .type "dict", data := .dict #[] }).DictOf (mixKind prog w) s.heap.objs.size [] := Heap.DictOf.new s.heap
  have hnewT : (s.heap.push { cls := .type "dict", data := .dict #[] }).DictOfH (tupleKind (mixKind prog w)) s.heap.objs.size [] := ⟨_, #[], 0, Heap.get?_push_size _ rfl, ⟨rfl, rfl, rfl⟩, rfl, rfl, (fun x hx => by cases hx), List.nodup_nil⟩
  refine ⟨hnew.typeIs, F.args_dict_init_2 _ _, ?_⟩
  unfold Builtin.«dict.__init__»
  refine wpAny_bind ?_
  unfold Builtin.Dict.selfAndRest
  refine wpAny_bind (wpAny_notOrdered_dict hnew.typeIs ?_)
  show wpAny _ _ (pure (s.heap.objs.size, [Value.ref l])) _ _ _
  refine wpAny_pure ?_
  show wpAny _ _ (Builtin.Dict.updateFrom "dict.__init__" s.heap.objs.size (.ref l) [] .none) _ _ _
  unfold Builtin.Dict.updateFrom
  have hl1 : (s.heap.push { cls := .type "dict", data := .dict #[] }).get? l = some { cls := .type "list", data := .seq items.toArray n } := Heap.get?_push_of_some _ hl
  have hT : (Shared.mk (s.heap.push { cls := .type "dict", data := .dict #[] }) s.gens s.drawn s.toks s.os).TypeIs (.ref l) "list" := ⟨_, hl1, rfl⟩
  refine wpAny_bind (wpAny_typeOf hT ?_)
  rw [if_pos (by decide)]
  refine wpAny_bind (keys_none hl1 hh fun h2 tk2 k2 => ?_)
  rw [if_pos (by rfl)]
  refine wpAny_bind (wpAny_rule ?_)
  have hl2 := k2 _ _ hl1
  refine wpAny_bind (wpAny_pyIter_list (s := { s with heap := h2, toks := tk2 }) (items := items.toArray) ⟨_, hl2, rfl, n, rfl⟩ ?_)
  refine wpAny_pure ⟨plainId_quiet plain_dict_loop _, ?_⟩
  have D2 : s.heap.objs.size < h2.objs.size := by
    obtain ⟨o, es, ep, e, _⟩ := hnew
    exact Heap.lt_size (k2 _ _ e)
  have l2 : l < h2.objs.size := Heap.lt_size hl2
  have k02 : ∀ b o, s.heap.get? b = some o → h2.get? b = some o := fun b o e => k2 _ _ (Heap.get?_push_of_some _ e)
  have tlt : ∀ a : Addr, Value.ref a ∈ items.toArray → a < s.heap.objs.size := fun a ha => by
    obtain ⟨j, hj, e⟩ := Array.getElem_of_mem ha
    have hj' : j < ps.length := by rw [hps.1]; exact hj
    obtain ⟨a', ha', _, _, ⟨o, e1, _⟩, _⟩ := hps.2 j ps[j].1 ps[j].2.1 ps[j].2.2 (List.getElem?_eq_getElem hj')
    have : a' = a := by
      have e2 : items.toArray[j]? = some (Value.ref a) := by rw [Array.getElem?_eq_getElem hj, e]
      rw [ha'] at e2
      cases e2; rfl
    subst this
    exact Heap.lt_size e1
  have blt : ∀ (j : Nat) k b v, ps[j]? = some (k, b, v) → b < s.heap.objs.size := fun j k b v e => by
    obtain ⟨_, _, _, _, _, o, its, n, e1, _⟩ := hps.2 j k b v e
    exact Heap.lt_size e1
  refine dict_loopT (l := l) (D := s.heap.objs.size) (ps := ps) (show A.in1.units + 1 < cLine from hu) (show A.in1.handled = none from hh) (Nat.ne_of_lt l2) (Nat.ne_of_lt D2) (Nat.ne_of_gt hlt) (fun a ha => Nat.ne_of_lt (Nat.lt_trans (tlt a ha) D2)) (fun j k b v e => Nat.ne_of_lt (Nat.lt_trans (blt j k b v e) D2)) nd (by rw [List.size_toArray]; exact hn) items.toArray.size 0 { s with heap := h2.push { cls := .type "list_iterator", data := .fields #[.ref l, .int 0 0] }, toks := tk2 } (Nat.sub_zero _) (Nat.zero_le _) ⟨_, Heap.get?_push_size _ rfl, rfl, rfl⟩ ⟨_, Heap.get?_push_of_some _ hl2, rfl, n, rfl⟩ ?_ ?_ fun h' tk kp hd => ?_
  · refine ⟨hps.1, fun j k b v e => ?_⟩
    obtain ⟨a, ha, hD, hbD, ⟨o, e1, e2⟩, o2, its, n2, e3, r⟩ := hps.2 j k b v e
    exact ⟨a, ha, hD, hbD, ⟨o, Heap.get?_push_of_some _ (k02 _ _ e1), e2⟩, o2, its, n2, Heap.get?_push_of_some _ (k02 _ _ e3), r⟩
  · obtain ⟨o, es, ep, e, r⟩ := hnewT
    exact ⟨o, es, ep, Heap.get?_push_of_some _ (k2 _ _ e), r.1, r.2.1, r.2.2.1, (fun x hx => by cases hx), r.2.2.2.2⟩
  · exact ⟨rfl, h h' tk (fun b o e => kp b o (Nat.ne_of_lt (Nat.lt_trans (Heap.lt_size e) D2)) (Nat.ne_of_lt (Heap.lt_size e)) (Heap.get?_push_of_some _ (k02 _ _ e))) hd⟩
end
/-! the rule -/
theorem build_psT {H : Hp} {h : Heap} : ∀ (as bs : List Addr) (kvs : List (List Key × V)), as.length = kvs.length → bs.length = kvs.length → (∀ (j : Nat) a b k v, as[j]? = some a → bs[j]? = some b → kvs[j]? = some (k, v) → ∃ vu, RelV v vu ∧ IsTup h a #[.ref b, vu] ∧ H b = some (.tup (k.map kV))) →
    ∃ ps : List (List Key × Addr × Value), KT H kvs ps ∧ ∀ (j : Nat) k b vu, ps[j]? = some (k, b, vu) → ∃ a, as[j]? = some a ∧ bs[j]? = some b ∧ H b = some (.tup (k.map kV)) ∧ IsTup h a #[.ref b, vu]
  | [], [], [], _, _, _ => ⟨[], .nil, fun j k b vu e => by simp at e⟩
  | [], _ :: _, [], _, hm, _ => by cases hm
  | _ :: _, [], [], hl, _, _ => by cases hl
  | _ :: _, _ :: _, [], hl, _, _ => by cases hl
  | [], _, _ :: _, hl, _, _ => by cases hl
  | _ :: _, [], _ :: _, _, hm, _ => by cases hm
  | a :: as, b :: bs, (k, v) :: kvs, hl, hm, hp => by
    obtain ⟨ps, r, q⟩ := build_psT as bs kvs (by simpa using hl) (by simpa using hm) fun j a b k v h1 h2 h3 => hp (j + 1) a b k v (by simpa using h1) (by simpa using h2) (by simpa using h3)
    obtain ⟨vu, r1, r2, r3⟩ := hp 0 a b k v rfl rfl rfl
    refine ⟨(k, b, vu) :: ps, .cons ⟨rfl, r3, r1⟩ r, fun j k' b' vu' e => ?_⟩
    cases j with
    | zero => cases e; exact ⟨a, rfl, rfl, r3, r2⟩
    | succ j => exact q j k' b' vu' (by simpa using e)
theorem kt_keys {H : Hp} : ∀ {kvs : List (List Key × V)} {ps : List (List Key × Addr × Value)}, KT H kvs ps → kvs.map (·.1) = ps.map (·.1)
  | _, _, .nil => rfl
  | _, _, .cons hq t => by rw [List.map_cons, List.map_cons, hq.1, kt_keys t]
section
variable {X : Cx}
theorem call_dict_prsT (hu : X.A.units + 4 < cLine) (hc : X.calm = true) : CallR X (.type "dict") (fun vs H Q => ∃ (l : Addr) (as bs : List Addr) (kvs : List (List Key × V)), vs = [.ref l] ∧ H l = some (.lst (as.map V.ref)) ∧ as.length = kvs.length ∧ bs.length = kvs.length ∧
    (∀ (j : Nat) a b k v, as[j]? = some a → bs[j]? = some b → kvs[j]? = some (k, v) → H a = some (.tup [.ref b, v]) ∧ H b = some (.tup (k.map kV))) ∧ (kvs.map (·.1)).Nodup ∧ as.length < 1000 ∧ ∀ d, H d = none → Q (.ref d) (upd H d (.dT kvs))) := by
  intro pins s σ H xs us Q I r h
  obtain ⟨l, as, bs, kvs, rfl, hH, hlen, hlen2, hT, nd, h1000, q⟩ := h
  obtain ⟨u, rfl, ru⟩ := vals1 r
  cases (show u = Value.ref l from ru)
  obtain ⟨z, its, n, rv, hz, e⟩ := I.lstM hH
  rw [List.length_map] at hz
  have hit : ∀ (j : Nat) a, as[j]? = some a → its[j]? = some (Value.ref a) := fun j a ha => by
    obtain ⟨w', e1, e2⟩ := rv.get (i := j) (x := V.ref a) (by rw [List.getElem?_map, ha]; rfl)
    cases (show w' = Value.ref a from e2)
    exact e1
  obtain ⟨ps, pr, pq⟩ := build_psT (H := H) (h := s.heap) as bs kvs hlen hlen2 fun j a b k v h1 h2 h3 => by
    obtain ⟨hTa, hTb⟩ := hT j a b k v h1 h2 h3
    obtain ⟨_, its', r', t'⟩ := (show ObjOk X.prog X.w H s.heap a (.tup [.ref b, v]) from I.hok a _ hTa)
    cases r' with
    | cons ra rb =>
      cases rb with
      | cons rb rc =>
        cases rc
        cases (show _ = Value.ref b from ra)
        exact ⟨_, rb, t', hTb⟩
  have hb : sysModules < s.heap.objs.size := I.big
  have pl := Paired.length pr
  have keys : kvs.map (·.1) = ps.map (·.1) := kt_keys pr
  refine dict_prsT (ps := ps) (by omega) (I.ok.hd hc) e ⟨?_, fun j k b v e1 => ?_⟩ ?_ (by omega) fun h' tk kp dd => ?_
  · rw [List.size_toArray]; omega
  · obtain ⟨a, ha, hb2, hHb, t⟩ := pq j k b v e1
    refine ⟨a, by rw [List.getElem?_toArray]; exact hit j a ha, ?_, Nat.ne_of_lt (I.hok.lt hHb), t, key_of I.hok hHb⟩
    obtain ⟨o, e2, _⟩ := t
    exact Nat.ne_of_lt (Heap.lt_size e2)
  · rw [← keys]; exact nd
  · obtain ⟨qo, es, ep, hq, h2, h3, h4, _, h5⟩ := dd
    refine ⟨.ref s.heap.objs.size, _, I.laid (a := s.heap.objs.size) (o := .dT kvs) (t' := tk) (fun b o e => kp b o e) (Nat.le_refl _) ⟨Nat.le_of_lt (small1000 (by omega)), beq_eq_false_iff_ne.mpr (Ne.symm (Nat.ne_of_lt hb)), ps, pr.keeps fun c ys ec => ?_, qo, es, ep, hq, h2, h3, h4, h5⟩, rfl, q _ (I.hok.fresh (Nat.le_refl _))⟩
    rw [upd_ne (ne_of_none ec (I.hok.fresh (Nat.le_refl _)))]
    exact ec
end
end L2


set_option Elab.async false
set_option linter.all false
set_option maxRecDepth 100000
/-! is, is not of bools -/
namespace L2
open PySem PySem.Spec PyProof.Rows
section
variable {X : Cx}
theorem op_isnotB : OpR X (compareOp .IsNot) (fun x y H Q => ∃ c d, x = .bl c ∧ y = .bl d ∧ Q (.bl (c != d)) H) := by
  intro pins s σ H x y v u Q I rx ry h
  obtain ⟨c, d, rfl, rfl, q⟩ := h
  cases rx
  cases ry
  exact isnot_bool (fin_bl I q rfl)
theorem hu4_of {A : Around} {k : Nat} (hr : Room k A) : A.units + 4 < cLine := by have := hr.un; omega
end
end L2


set_option Elab.async false
set_option linter.all false
set_option maxRecDepth 100000
set_option maxHeartbeats 4000000
/-! exceptions: raised, passed on -/
namespace L2
open PySem PySem.Spec PyProof.Rows

theorem ObjOk.obj {P : Program} {w : World} {H : Hp} {h : Heap} {a : Addr} {o : HO} (x : ObjOk P w H h a o) : ∃ u, h.get? a = some u := by
  cases o with
  | lst xs => obtain ⟨_, _, _, _, e⟩ := x; exact ⟨_, e⟩
  | tup xs => obtain ⟨⟨_, o, e, _⟩, _⟩ := x; exact ⟨_, e⟩
  | dK kvs => obtain ⟨_, _, _, _, o, _, _, e, _⟩ := x; exact ⟨_, e⟩
  | dT kvs => obtain ⟨_, _, _, _, o, _, _, e, _⟩ := x; exact ⟨_, e⟩
  | set S n => obtain ⟨o, _, _, _, e, _⟩ := x; exact ⟨_, e⟩
  | ins C dx fs => obtain ⟨_, _, _, e, _⟩ := x; exact ⟨_, e⟩
  | own y => exact x
  | xd fs => obtain ⟨_, ⟨_, _, _, e, _⟩, _⟩ := x; exact ⟨_, e⟩
  | rng lo hi => obtain ⟨_, _, _, e⟩ := x; exact ⟨_, e⟩
  | frz ob u => exact ⟨_, x.1⟩
  | tbl ps => exact ⟨_, x⟩
  | met f y => exact ⟨_, x⟩
  | ext φ => exact x.2.1

section
variable {P : Program} {w : World} {K : PySem.W.Frag} {mg : Str → Option Value} {base : Heap} {N : List Str} {qual : Str} {scope : Scope} {f : Addr} {cd : Value} {A : Around} {outer : List Env} {s : Shared} {H : Hp} {E : XK}
end
end L2


set_option Elab.async false
set_option linter.all false
set_option maxRecDepth 100000
set_option maxHeartbeats 4000000
/-! exceptions caught: try / except -/
namespace L2
open PySem PySem.Spec PyProof.Rows

section
variable {X : Cx} {pins : List (Addr × Obj)} {σ : St} {a C : Addr} {H1 H2 : Hp} {s s1 : Shared} {B h h' : Heap} {a0 : Value}
/-- the context of a handler's suite: nothing may be raised there -/
abbrev Cx.caught (X : Cx) (a : Addr) : Cx := { X with A := X.A.mark (some (.ref a)), calm := false, xe := fun _ _ => False }
theorem Inv.caught {H : Hp} (I : Inv X pins σ H s) (a : Addr) : Inv (X.caught a) pins σ H s :=
  ⟨⟨I.ok.mod, I.ok.kind, I.ok.glob, I.ok.blt, I.ok.above, I.ok.inj, I.ok.has, I.ok.cab, (fun z => nomatch z), I.ok.frames, I.ok.stk, I.ok.exf, I.ok.bs, I.ok.bsz, I.ok.noex, I.ok.exfs, I.ok.funs, I.ok.frf⟩, I.os, I.bare, I.base, I.loc, I.cell, I.free, I.freeC, I.pin, I.hok, I.len⟩
end

/-! ### handlers -/
section
variable {X : Cx} {x n : Str} {i : Nat} {np pos : Pos} {b₀ : Stmt} {suite : List Stmt} {rest : List ExceptHandler} {Cl : Addr} {th : Addr → TS} {tr : Addr → Addr → TS}
end

/-! ### the statement -/
def PassesAt (CX : CXT) (X : Cx) (E : XK) (σ : St) : Prop := ∀ (pins : List (Addr × Obj)) (H : Hp) (s : Shared) (e : Value) (s' : Shared), Inv X pins σ H s → CX X.stack H s E e s' → X.xe e s'
theorem Passes.at {CX : CXT} {X : Cx} {E : XK} {σ : St} (h : Passes CX X E) : PassesAt CX X E σ := fun pins H s e s' I q => h pins σ H s e s' I q
end L2


/-! words of a tree, as plain lists of codes -/
namespace W7
/-- the word read from place k, with fuel -/
def wd (ups : List Int) (lab : List Nat) : Nat → Nat → List Nat
  | 0, _ => []
  | f + 1, k => lab.getD k 0 :: (if ups.getD k 0 < 0 then [] else wd ups lab f (ups.getD k 0).toNat)
structure TreeOk (ups : List Int) (lab : List Nat) : Prop where
  len : ups.length = lab.length
  pos : 0 < ups.length
  most : ups.length ≤ 60
  root : ups.getD 0 0 = -1
  up : ∀ k, 0 < k → k < ups.length → 0 ≤ ups.getD k 0 ∧ ups.getD k 0 < (k : Int)
theorem TreeOk.lt {ups : List Int} {lab : List Nat} (t : TreeOk ups lab) {k : Nat} (h : k < ups.length) (h0 : ¬ ups.getD k 0 < 0) : (ups.getD k 0).toNat < k := by
  rcases Nat.eq_zero_or_pos k with e | e
  · subst e; have := t.root; omega
  · have := t.up k e h; omega
theorem TreeOk.neg {ups : List Int} {lab : List Nat} (t : TreeOk ups lab) {k : Nat} (h : k < ups.length) : ups.getD k 0 < 0 ↔ ups.getD k 0 = -1 := by
  rcases Nat.eq_zero_or_pos k with e | e
  · subst e; have := t.root; omega
  · have := t.up k e h; omega
/-- the word read from place k -/
def W (ups : List Int) (lab : List Nat) (k : Nat) : List Nat := wd ups lab (k + 1) k
/-- what is left to read from place k (an int, below 0 behind the root) -/
def R (ups : List Int) (lab : List Nat) (k : Int) : List Nat := if k < 0 then [] else W ups lab k.toNat
end W7


namespace W7
/-- the places above k, from the nearest on, with fuel -/
def chf (ups : List Int) : Nat → Nat → List Int
  | 0, _ => []
  | f + 1, k => if ups.getD k 0 < 0 then [] else ups.getD k 0 :: chf ups f (ups.getD k 0).toNat
theorem chf_fuel {ups : List Int} {lab : List Nat} (t : TreeOk ups lab) : ∀ (f g k : Nat), k < ups.length → k < f → k < g → chf ups f k = chf ups g k
  | 0, _, _, _, h, _ => absurd h (Nat.not_lt_zero _)
  | _ + 1, 0, _, _, _, h => absurd h (Nat.not_lt_zero _)
  | f + 1, g + 1, k, hk, hf, hg => by
    simp only [chf]
    split
    · rfl
    · rename_i h0
      have := t.lt hk h0
      congr 1
      exact chf_fuel t f g _ (by omega) (by omega) (by omega)
def chn (ups : List Int) (k : Nat) : List Int := chf ups (k + 1) k
theorem chn_eq {ups : List Int} {lab : List Nat} (t : TreeOk ups lab) {k : Nat} (hk : k < ups.length) : chn ups k = if ups.getD k 0 < 0 then [] else ups.getD k 0 :: chn ups (ups.getD k 0).toNat := by
  unfold chn
  rw [chf]
  split
  · rfl
  · rename_i h0
    have := t.lt hk h0
    congr 1
    exact chf_fuel t _ _ _ (by omega) (by omega) (by omega)
/-- k and what stands above it; nothing below 0 -/
def rst (ups : List Int) (k : Int) : List Int := if k < 0 then [] else k :: chn ups k.toNat
theorem chn_rst {ups : List Int} {lab : List Nat} (t : TreeOk ups lab) {k : Nat} (hk : k < ups.length) : chn ups k = rst ups (ups.getD k 0) := by
  rw [chn_eq t hk]; rfl
theorem rst_step {ups : List Int} {lab : List Nat} (t : TreeOk ups lab) {k : Int} (h0 : 0 ≤ k) (hk : k < (ups.length : Int)) : rst ups k = k :: rst ups (ups.getD k.toNat 0) := by
  have := chn_rst t (k := k.toNat) (by omega)
  unfold rst
  rw [if_neg (by omega), this]
  rfl
theorem chn_mem {ups : List Int} {lab : List Nat} (t : TreeOk ups lab) : ∀ (n k : Nat), k < n → k < ups.length → (chn ups k).length ≤ k ∧ ∀ v ∈ chn ups k, 0 ≤ v ∧ v < (k : Int)
  | 0, _, h, _ => absurd h (Nat.not_lt_zero _)
  | n + 1, k, hn, hk => by
    rw [chn_eq t hk]
    split
    · exact ⟨Nat.zero_le _, fun v hv => nomatch hv⟩
    · rename_i h0
      have lt := t.lt hk h0
      obtain ⟨i1, i2⟩ := chn_mem t n (ups.getD k 0).toNat (by omega) (by omega)
      refine ⟨by rw [List.length_cons]; omega, fun v hv => ?_⟩
      rcases List.mem_cons.mp hv with e | e
      · omega
      · have := i2 v e; omega
end W7


set_option linter.all false
/-! a tree told by the chains above its places, and its text with brackets: bough by bough, and place by place -/
namespace W03
structure Pre (n : Nat) (c : Nat → List Nat) : Prop where
  root : c 0 = []
  step : ∀ k, 0 < k → k < n → c k = (k - 1) :: c (k - 1) ∨ ∃ m, c k = (c (k - 1)).drop m
  ne : ∀ k, 0 < k → k < n → c k ≠ []
  self : ∀ k, k < n → ∀ v r, c k = v :: r → v < k ∧ r = c v
section
variable {n : Nat} {c : Nat → List Nat} {l : Nat → Nat}
theorem mem_split (p : Pre n c) : ∀ (f j : Nat), j < f → j < n → ∀ v ∈ c j, ∃ q, c j = q ++ v :: c v
  | 0, j, h, _, _, _ => absurd h (Nat.not_lt_zero _)
  | f + 1, j, h, hj, v, hv => by
    cases e : c j with
    | nil => rw [e] at hv; cases hv
    | cons u r =>
      obtain ⟨lt, rfl⟩ := p.self j hj u r e
      rw [e] at hv
      rcases List.mem_cons.mp hv with rfl | hv
      · exact ⟨[], rfl⟩
      · obtain ⟨q, eq⟩ := mem_split p f u (by omega) (by omega) v hv
        exact ⟨u :: q, by rw [eq]; rfl⟩
theorem mem_lt (p : Pre n c) : ∀ (f j : Nat), j < f → j < n → ∀ v ∈ c j, v < j
  | 0, j, h, _, _, _ => absurd h (Nat.not_lt_zero _)
  | f + 1, j, h, hj, v, hv => by
    cases e : c j with
    | nil => rw [e] at hv; cases hv
    | cons u r =>
      obtain ⟨lt, rfl⟩ := p.self j hj u r e
      rw [e] at hv
      rcases List.mem_cons.mp hv with rfl | hv
      · exact lt
      · have := mem_lt p f u (by omega) (by omega) v hv
        omega
/-- all that stands deeper behind a place is beneath it -/
theorem below (p : Pre n c) {e : Nat} (he : e < n) : ∀ j, e < j → j < n → (∀ i, e < i → i ≤ j → (c e).length < (c i).length) → ∃ q, c j = q ++ e :: c e := by
  intro j
  induction j with
  | zero => intro h; omega
  | succ j ih =>
    intro h1 h2 h3
    have d1 := h3 (j + 1) h1 (Nat.le_refl _)
    rcases Nat.lt_or_ge e j with g | g
    · obtain ⟨q, eq⟩ := ih g (by omega) fun i a b => h3 i a (by omega)
      rcases p.step (j + 1) (by omega) h2 with s | ⟨m, s⟩
      · rw [Nat.add_sub_cancel] at s
        exact ⟨j :: q, by rw [s, eq]; rfl⟩
      · rw [Nat.add_sub_cancel, eq] at s
        rw [s, List.length_drop, List.length_append, List.length_cons] at d1
        refine ⟨q.drop m, ?_⟩
        rw [s, List.drop_append_of_le_length (by omega)]
    · have : e = j := by omega
      subst this
      rcases p.step (e + 1) (by omega) h2 with s | ⟨m, s⟩
      · rw [Nat.add_sub_cancel] at s
        exact ⟨[], s⟩
      · rw [Nat.add_sub_cancel] at s
        rw [s, List.length_drop] at d1
        omega
/-- behind a bough nothing is beneath its place -/
theorem beyond (p : Pre n c) {k e : Nat} (hk : k < e) (he : e < n) (hd : (c e).length ≤ (c k).length) : ∀ j, e ≤ j → j < n → k ∉ c j := by
  intro j
  induction j with
  | zero => intro h; omega
  | succ j ih =>
    intro h1 h2 hm
    rcases Nat.lt_or_ge e (j + 1) with g | g
    · have no := ih (by omega) (by omega)
      rcases p.step (j + 1) (by omega) h2 with s | ⟨m, s⟩
      · rw [Nat.add_sub_cancel] at s
        rw [s] at hm
        rcases List.mem_cons.mp hm with z | z
        · omega
        · exact no z
      · rw [Nat.add_sub_cancel] at s
        rw [s] at hm
        exact no (List.mem_of_mem_drop hm)
    · have : e = j + 1 := by omega
      subst this
      obtain ⟨q, eq⟩ := mem_split p (j + 2) (j + 1) (by omega) h2 k hm
      rw [eq, List.length_append, List.length_cons] at hd
      omega
theorem fm_congr {f g : Nat → List Nat} : ∀ l : List Nat, (∀ x ∈ l, f x = g x) → l.flatMap f = l.flatMap g
  | [], _ => rfl
  | x :: l, h => by rw [List.flatMap_cons, List.flatMap_cons, h x List.mem_cons_self, fm_congr l fun y hy => h y (List.mem_cons_of_mem _ hy)]
def up (c : Nat → List Nat) (j : Nat) : Option Nat := (c j).head?
def kidsF (n : Nat) (c : Nat → List Nat) (k j : Nat) : List Nat := (List.range' j (n - j)).filter fun i => decide (up c i = some k)
theorem kids_no {k j e : Nat} (hje : j ≤ e) (he : e ≤ n) (h : ∀ i, j ≤ i → i < e → up c i ≠ some k) : kidsF n c k j = kidsF n c k e := by
  unfold kidsF
  have ej : n - j = (e - j) + (n - e) := by omega
  rw [ej, ← List.range'_append_1, List.filter_append, show j + (e - j) = e by omega]
  have : (List.range' j (e - j)).filter (fun i => decide (up c i = some k)) = [] := by
    rw [List.filter_eq_nil_iff]
    intro i hi
    have := List.mem_range'_1.mp hi
    simpa using h i this.1 (by omega)
  rw [this, List.nil_append]
theorem kids_one {k j : Nat} (hj : j < n) (h : up c j = some k) : kidsF n c k j = j :: kidsF n c k (j + 1) := by
  unfold kidsF
  rw [show n - j = (n - (j + 1)) + 1 by omega, List.range'_succ, List.filter_cons, if_pos (decide_eq_true h)]
theorem kids_end (k : Nat) : kidsF n c k n = [] := by
  unfold kidsF; rw [Nat.sub_self]; rfl
def wrap (u : List Nat) : List Nat := if u = [] then [] else 40 :: u ++ [41]
def F (n : Nat) (c : Nat → List Nat) (l : Nat → Nat) : Nat → Nat → List Nat
  | 0, _ => []
  | f + 1, k => l k :: wrap ((kidsF n c k (k + 1)).flatMap (F n c l f))
theorem F_fuel : ∀ (f g k : Nat), k < n → n - k ≤ f → n - k ≤ g → F n c l f k = F n c l g k
  | 0, g, k, h, h1, _ => by omega
  | f + 1, 0, k, h, _, h2 => by omega
  | f + 1, g + 1, k, h, h1, h2 => by
    show l k :: wrap _ = l k :: wrap _
    congr 2
    have : ∀ i ∈ kidsF n c k (k + 1), F n c l f i = F n c l g i := fun i hi => by
      have := List.mem_range'_1.mp (List.mem_filter.mp hi).1
      exact F_fuel f g i (by omega) (by omega) (by omega)
    exact fm_congr _ this
def Ft (n : Nat) (c : Nat → List Nat) (l : Nat → Nat) (k : Nat) : List Nat := F n c l (n - k) k
theorem Ft_eq {k : Nat} (hk : k < n) : Ft n c l k = l k :: wrap ((kidsF n c k (k + 1)).flatMap (Ft n c l)) := by
  unfold Ft
  rw [show n - k = (n - k - 1) + 1 by omega]
  show l k :: wrap _ = l k :: wrap _
  congr 2
  refine fm_congr _ fun i hi => ?_
  have := List.mem_range'_1.mp (List.mem_filter.mp hi).1
  exact F_fuel _ _ i (by omega) (by omega) (by omega)
def br (a b : Nat) : List Nat := if b > a then [40] else List.replicate (a - b) 41
def S (n : Nat) (c : Nat → List Nat) (l : Nat → Nat) : Nat → List Nat
  | 0 => []
  | r + 1 => l (n - (r + 1)) :: (if 0 < r then br (c (n - (r + 1))).length (c (n - r)).length ++ S n c l r else List.replicate (c (n - (r + 1))).length 41)
def Sfx (n : Nat) (c : Nat → List Nat) (l : Nat → Nat) (k : Nat) : List Nat := S n c l (n - k)
theorem Sfx_eq {k : Nat} (hk : k < n) : Sfx n c l k = l k :: (if k + 1 < n then br (c k).length (c (k + 1)).length ++ Sfx n c l (k + 1) else List.replicate (c k).length 41) := by
  unfold Sfx
  have e : n - k = (n - (k + 1)) + 1 := by omega
  rw [e]
  show l (n - (n - (k + 1) + 1)) :: _ = _
  rw [← e, show n - (n - k) = k by omega, show n - (n - (k + 1)) = k + 1 by omega]
  by_cases h : k + 1 < n
  · rw [if_pos h, if_pos (by omega)]
  · rw [if_neg h, if_neg (by omega)]
def Rest (n : Nat) (c : Nat → List Nat) (l : Nat → Nat) (e x : Nat) : List Nat := if e < n then List.replicate (x - (c e).length) 41 ++ Sfx n c l e else List.replicate x 41
theorem Ft_ne {k : Nat} (hk : k < n) : Ft n c l k ≠ [] := by rw [Ft_eq hk]; simp
theorem up_lt (p : Pre n c) {i k : Nat} (hi : i < n) (h : up c i = some k) : c i = k :: c k := by
  unfold up at h
  cases e : c i with
  | nil => rw [e] at h; cases h
  | cons u r =>
    rw [e] at h
    cases h
    rw [(p.self i hi _ r e).2]
theorem kidsL (p : Pre n c) {k : Nat} (hk : k < n) (ih : ∀ j, k < j → j < n → ∃ e, j < e ∧ e ≤ n ∧ (∀ i, j < i → i < e → (c j).length < (c i).length) ∧ (e = n ∨ (c e).length ≤ (c j).length) ∧ Sfx n c l j = Ft n c l j ++ Rest n c l e (c j).length) :
    ∀ (f j : Nat), n - j ≤ f → k < j → j < n → up c j = some k → ∃ e, j < e ∧ e ≤ n ∧ (∀ i, j ≤ i → i < e → (c k).length < (c i).length) ∧ (e = n ∨ (c e).length ≤ (c k).length) ∧ Sfx n c l j = (kidsF n c k j).flatMap (Ft n c l) ++ 41 :: Rest n c l e (c k).length
  | 0, j, h, _, hj, _ => by omega
  | f + 1, j, h, hkj, hj, hu => by
    obtain ⟨e1, a1, a2, a3, a4, a5⟩ := ih j hkj hj
    have cj := up_lt p hj hu
    have dj : (c j).length = (c k).length + 1 := by rw [cj]; rfl
    have noK : ∀ i, j + 1 ≤ i → i < e1 → up c i ≠ some k := fun i h1 h2 hk' => by
      have ci := up_lt p (by omega) hk'
      obtain ⟨q, eq⟩ := below p hj i (by omega) (by omega) fun i' b1 b2 => a3 i' b1 (by omega)
      rw [ci] at eq
      cases q with
      | nil => injection eq with e' _; omega
      | cons u q =>
        injection eq with _ e'
        have : j ∈ c k := by rw [e']; simp
        have := mem_lt p (k + 1) k (by omega) hk j this
        omega
    have kd : kidsF n c k j = j :: kidsF n c k e1 := by rw [kids_one hj hu, kids_no (by omega) a2 noK]
    rw [dj] at a5
    rcases Nat.lt_or_ge e1 n with g | g
    · have de := a4.resolve_left (by omega)
      rcases Nat.lt_or_ge (c k).length (c e1).length with g2 | g2
      · have d1 : (c e1).length = (c j).length := by omega
        have ce : c e1 = c j := by
          obtain ⟨q, eq⟩ : ∃ q, c (e1 - 1) = q ++ c j := by
            rcases Nat.lt_or_ge j (e1 - 1) with w | w
            · obtain ⟨q, eq⟩ := below p hj (e1 - 1) w (by omega) fun i b1 b2 => a3 i b1 (by omega)
              exact ⟨q ++ [j], by rw [eq]; simp⟩
            · exact ⟨[], by rw [show e1 - 1 = j by omega]; rfl⟩
          rcases p.step e1 (by omega) g with s | ⟨m, s⟩
          · rw [s, List.length_cons, eq, List.length_append] at d1
            omega
          · rw [eq] at s
            have dl := d1
            rw [s, List.length_drop, List.length_append] at dl
            rw [s, List.drop_append_of_le_length (by omega), List.drop_eq_nil_of_le (by omega), List.nil_append]
        have ue : up c e1 = some k := by unfold up; rw [ce]; exact hu
        obtain ⟨e, b1, b2, b3, b4, b5⟩ := kidsL p hk ih f e1 (by omega) (by omega) g ue
        refine ⟨e, by omega, b2, fun i h1 h2 => ?_, b4, ?_⟩
        · rcases Nat.lt_or_ge i e1 with w | w
          · rcases Nat.lt_or_ge j i with w2 | w2
            · have := a3 i w2 w; omega
            · have : i = j := by omega
              subst this; omega
          · exact b3 i w h2
        · rw [a5, kd, List.flatMap_cons, List.append_assoc]
          congr 1
          unfold Rest
          rw [if_pos g, show (c k).length + 1 - (c e1).length = 0 by omega]
          show Sfx n c l e1 = _
          rw [b5]; rfl
      · refine ⟨e1, a1, a2, fun i h1 h2 => ?_, .inr g2, ?_⟩
        · rcases Nat.lt_or_ge j i with w2 | w2
          · have := a3 i w2 h2; omega
          · have : i = j := by omega
            subst this; omega
        · have no : kidsF n c k e1 = [] := by
            rw [kids_no (e := n) a2 (Nat.le_refl _) fun i h1 h2 hk' => beyond p (by omega) g g2 i h1 h2 (by rw [up_lt p h2 hk']; exact List.mem_cons_self), kids_end]
          rw [a5, kd, no, List.flatMap_cons, List.flatMap_nil, List.append_nil]
          congr 1
          unfold Rest
          rw [if_pos g, if_pos g, show (c k).length + 1 - (c e1).length = ((c k).length - (c e1).length) + 1 by omega, List.replicate_succ]
          rfl
    · have : e1 = n := by omega
      subst this
      refine ⟨e1, a1, a2, fun i h1 h2 => ?_, .inl rfl, ?_⟩
      · rcases Nat.lt_or_ge j i with w2 | w2
        · have := a3 i w2 h2; omega
        · have : i = j := by omega
          subst this; omega
      · rw [a5, kd, kids_end, List.flatMap_cons, List.flatMap_nil, List.append_nil]
        congr 1
        unfold Rest
        rw [if_neg (Nat.lt_irrefl _), if_neg (Nat.lt_irrefl _), List.replicate_succ]
theorem main (p : Pre n c) : ∀ (f k : Nat), n - k ≤ f → k < n → ∃ e, k < e ∧ e ≤ n ∧ (∀ i, k < i → i < e → (c k).length < (c i).length) ∧ (e = n ∨ (c e).length ≤ (c k).length) ∧ Sfx n c l k = Ft n c l k ++ Rest n c l e (c k).length
  | 0, k, h, hk => by omega
  | f + 1, k, h, hk => by
    have ih : ∀ j, k < j → j < n → _ := fun j h1 h2 => main p f j (by omega) h2
    rw [Sfx_eq hk]
    by_cases h1 : k + 1 < n
    · rw [if_pos h1]
      rcases Nat.lt_or_ge (c k).length (c (k + 1)).length with g | g
      · have ck : c (k + 1) = k :: c k := by
          rcases p.step (k + 1) (by omega) h1 with s | ⟨m, s⟩
          · rw [Nat.add_sub_cancel] at s; exact s
          · rw [Nat.add_sub_cancel] at s
            rw [s, List.length_drop] at g
            omega
        have uk : up c (k + 1) = some k := by unfold up; rw [ck]; rfl
        obtain ⟨e, b1, b2, b3, b4, b5⟩ := kidsL p hk ih (n - (k + 1)) (k + 1) (Nat.le_refl _) (by omega) h1 uk
        refine ⟨e, by omega, b2, fun i x1 x2 => b3 i (by omega) x2, b4, ?_⟩
        rw [Ft_eq hk]
        have ne : (kidsF n c k (k + 1)).flatMap (Ft n c l) ≠ [] := by
          rw [kids_one h1 uk, List.flatMap_cons]
          intro z
          exact Ft_ne h1 (List.append_eq_nil_iff.mp z).1
        unfold wrap br
        rw [if_neg ne, if_pos g, b5]
        simp
      · refine ⟨k + 1, by omega, by omega, fun i x1 x2 => by omega, .inr g, ?_⟩
        have no : kidsF n c k (k + 1) = [] := by
          rw [kids_no (e := n) (by omega) (Nat.le_refl _) fun i x1 x2 hk' => beyond p (by omega) h1 g i x1 x2 (by rw [up_lt p x2 hk']; exact List.mem_cons_self), kids_end]
        rw [Ft_eq hk, no, List.flatMap_nil]
        unfold wrap br Rest
        rw [if_pos rfl, if_neg (by omega), if_pos h1]
        rfl
    · rw [if_neg h1]
      refine ⟨n, hk, Nat.le_refl _, fun i x1 x2 => by omega, .inl rfl, ?_⟩
      have no : kidsF n c k (k + 1) = [] := by rw [show k + 1 = n by omega, kids_end]
      rw [Ft_eq hk, no, List.flatMap_nil]
      unfold wrap Rest
      rw [if_pos rfl, if_neg (Nat.lt_irrefl _)]
      rfl
/-- the tree's text, bough by bough, is what is written place by place -/
theorem text_eq (p : Pre n c) (h0 : 0 < n) : Sfx n c l 0 = Ft n c l 0 := by
  obtain ⟨e, b1, b2, b3, b4, b5⟩ := main (l := l) p n 0 (by omega) h0
  rw [b5, p.root]
  unfold Rest
  rcases Nat.lt_or_ge e n with g | g
  · have de := b4.resolve_left (by omega)
    rw [p.root] at de
    exact absurd (List.eq_nil_of_length_eq_zero (Nat.le_zero.mp de)) (p.ne e (by omega) g)
  · rw [if_neg (by omega)]
    simp
end
end W03


set_option Elab.async false
set_option linter.all false
set_option maxRecDepth 100000
set_option maxHeartbeats 4000000
namespace S06
open PySem L2 W7
def top (i : Nat) : Stmt := PySem.Challenge.pw_upwords_k06_forms_counted.main.body.getD i (.Pass ⟨0, 0, 0, 0⟩)
abbrev s_is_whole : Stmt := top 2
abbrev N_is_whole : List Str := ["thing"]
theorem sc_is_whole : FnScope N_is_whole ["thing"] (defScope s_is_whole) := ⟨rfl, rfl, rfl, by decide +kernel, rfl, by decide +kernel, by decide +kernel⟩
abbrev s_is_letters : Stmt := top 3
abbrev N_is_letters : List Str := ["thing"]
theorem sc_is_letters : FnScope N_is_letters ["thing"] (defScope s_is_letters) := ⟨rfl, rfl, rfl, by decide +kernel, rfl, by decide +kernel, by decide +kernel⟩
abbrev s_is_tree : Stmt := top 6
abbrev N_is_tree : List Str := ["thing"]
theorem sc_is_tree : FnScope N_is_tree ["thing"] (defScope s_is_tree) := ⟨rfl, rfl, rfl, by decide +kernel, rfl, by decide +kernel, by decide +kernel⟩
abbrev s_is_labels : Stmt := top 7
abbrev N_is_labels : List Str := ["thing"]
theorem sc_is_labels : FnScope N_is_labels ["thing"] (defScope s_is_labels) := ⟨rfl, rfl, rfl, by decide +kernel, rfl, by decide +kernel, by decide +kernel⟩
abbrev s_is_ups : Stmt := top 8
abbrev N_is_ups : List Str := ["thing", "many", "place", "ahead"]
theorem sc_is_ups : FnScope N_is_ups ["thing", "many"] (defScope s_is_ups) := ⟨rfl, rfl, rfl, by decide +kernel, rfl, by decide +kernel, by decide +kernel⟩
abbrev s_all_above : Stmt := top 9
abbrev N_all_above : List Str := ["ups", "place", "found", "up"]
theorem sc_all_above : FnScope N_all_above ["ups", "place"] (defScope s_all_above) := ⟨rfl, rfl, rfl, by decide +kernel, rfl, by decide +kernel, by decide +kernel⟩
abbrev s_deep_of : Stmt := top 10
abbrev N_deep_of : List Str := ["tree", "place"]
theorem sc_deep_of : FnScope N_deep_of ["tree", "place"] (defScope s_deep_of) := ⟨rfl, rfl, rfl, by decide +kernel, rfl, by decide +kernel, by decide +kernel⟩
abbrev s_show_tree : Stmt := top 15
abbrev N_show_tree : List Str := ["tree", "parts", "deep", "place", "letter", "deep_here"]
theorem sc_show_tree : FnScope N_show_tree ["tree"] (defScope s_show_tree) := ⟨rfl, rfl, rfl, by decide +kernel, rfl, by decide +kernel, by decide +kernel⟩
abbrev s_read_tree : Stmt := top 16
abbrev N_read_tree : List Str := ["text", "scan", "at", "sign"]
theorem sc_read_tree : FnScope N_read_tree ["text"] (defScope s_read_tree) := ⟨rfl, rfl, rfl, by decide +kernel, rfl, by decide +kernel, by decide +kernel⟩
abbrev s_law_prime : Stmt := top 19
abbrev N_law_prime : List Str := ["at", "some"]
theorem sc_law_prime : FnScope N_law_prime ["at"] (defScope s_law_prime) := ⟨rfl, rfl, rfl, by decide +kernel, rfl, by decide +kernel, by decide +kernel⟩
abbrev s_law_pool : Stmt := top 20
abbrev N_law_pool : List Str := ["cell"]
theorem sc_law_pool : FnScope N_law_pool ["cell"] (defScope s_law_pool) := ⟨rfl, rfl, rfl, by decide +kernel, rfl, by decide +kernel, by decide +kernel⟩
abbrev s_law_take : Stmt := top 21
abbrev N_law_take : List Str := ["pool", "many", "found", "at", "one", "two"]
theorem sc_law_take : FnScope N_law_take ["pool", "many"] (defScope s_law_take) := ⟨rfl, rfl, rfl, by decide +kernel, rfl, by decide +kernel, by decide +kernel⟩
abbrev s_law_letter : Stmt := top 22
abbrev N_law_letter : List Str := ["pool", "base"]
theorem sc_law_letter : FnScope N_law_letter ["pool", "base"] (defScope s_law_letter) := ⟨rfl, rfl, rfl, by decide +kernel, rfl, by decide +kernel, by decide +kernel⟩
abbrev s_law_cells : Stmt := top 23
abbrev N_law_cells : List Str := ["script", "many"]
theorem sc_law_cells : FnScope N_law_cells ["script", "many"] (defScope s_law_cells) := ⟨rfl, rfl, rfl, by decide +kernel, rfl, by decide +kernel, by decide +kernel⟩
abbrev s_law_forms : Stmt := top 24
abbrev N_law_forms : List Str := ["many", "found", "k", "longer", "ups", "place"]
theorem sc_law_forms : FnScope N_law_forms ["many"] (defScope s_law_forms) := ⟨rfl, rfl, rfl, by decide +kernel, rfl, by decide +kernel, by decide +kernel⟩
abbrev s_law_tuples : Stmt := top 25
abbrev N_law_tuples : List Str := ["many", "found", "turn", "longer", "one"]
theorem sc_law_tuples : FnScope N_law_tuples ["many"] (defScope s_law_tuples) := ⟨rfl, rfl, rfl, by decide +kernel, rfl, by decide +kernel, by decide +kernel⟩
abbrev s_law : Stmt := top 26
abbrev N_law : List Str := ["script", "cell", "pool", "base", "many", "labels", "texts", "ups", "text", "few", "forms", "found"]
theorem sc_law : FnScope N_law ["script"] (defScope s_law) := ⟨rfl, rfl, rfl, by decide +kernel, rfl, by decide +kernel, by decide +kernel⟩
abbrev s_Scan___init__ : Stmt := inClass (top 17) 0
abbrev N_Scan___init__ : List Str := ["self"]
theorem sc_Scan___init__ : FnScope N_Scan___init__ ["self"] (defScope s_Scan___init__) := ⟨rfl, rfl, rfl, by decide +kernel, rfl, by decide +kernel, by decide +kernel⟩
abbrev s_Scan_can_take : Stmt := inClass (top 17) 1
abbrev N_Scan_can_take : List Str := ["self", "sign"]
theorem sc_Scan_can_take : FnScope N_Scan_can_take ["self", "sign"] (defScope s_Scan_can_take) := ⟨rfl, rfl, rfl, by decide +kernel, rfl, by decide +kernel, by decide +kernel⟩
abbrev s_Scan_take : Stmt := inClass (top 17) 2
abbrev N_Scan_take : List Str := ["self", "sign"]
theorem sc_Scan_take : FnScope N_Scan_take ["self", "sign"] (defScope s_Scan_take) := ⟨rfl, rfl, rfl, by decide +kernel, rfl, by decide +kernel, by decide +kernel⟩
abbrev s_Scan_is_done : Stmt := inClass (top 17) 3
abbrev N_Scan_is_done : List Str := ["self"]
theorem sc_Scan_is_done : FnScope N_Scan_is_done ["self"] (defScope s_Scan_is_done) := ⟨rfl, rfl, rfl, by decide +kernel, rfl, by decide +kernel, by decide +kernel⟩
section
variable {P : Program} {w : World} {K : PySem.W.Frag} {mg : Str → Option Value} {base : Heap} {k : Nat}

def mk (l : List Nat) : Str := ⟨l.toArray⟩
theorem mk_cps (l : List Nat) : (mk l).cps.toList = l := rfl
theorem mk_len (l : List Nat) : (mk l).length = l.length := by simp [mk, Str.length]
theorem str_ext {a b : Str} (h : a.cps.toList = b.cps.toList) : a = b := by
  obtain ⟨x⟩ := a; obtain ⟨y⟩ := b
  have : x = y := Array.toList_inj.mp h
  rw [this]
def TreeAt (H : Hp) (t : Addr) (ups : List Int) (lab : Str) : Prop := ∃ u, H t = some (.tup [.ref u, .str lab]) ∧ H u = some (.tup (ups.map V.int)) ∧ TreeOk ups lab.cps.toList
theorem TreeAt.same {H H' : Hp} {t : Addr} {ups : List Int} {lab : Str} (h : TreeAt H t ups lab) (s : Same H H') : TreeAt H' t ups lab := by
  obtain ⟨u, a, b, c⟩ := h
  exact ⟨u, s _ _ a, s _ _ b, c⟩

/-- a list of texts of one sign -/
def oneV (cs : List Nat) : List V := cs.map fun c => .str ⟨#[c]⟩
theorem oneV_len (cs : List Nat) : (oneV cs).length = cs.length := List.length_map _
theorem ints_at {us : List Int} {i : Int} (h0 : 0 ≤ i) (h1 : i < (us.length : Int)) : atI (us.map V.int) i = some (.int (us.getD i.toNat 0)) := by
  have hk : i.toNat < us.length := by omega
  have e := atI_nat (xs := us.map V.int) (j := i.toNat) (v := .int (us.getD i.toNat 0)) (by rw [List.getElem?_map, List.getElem?_eq_getElem hk, List.getD_eq_getElem?_getD, List.getElem?_eq_getElem hk]; rfl)
  rw [show ((i.toNat : Nat) : Int) = i by omega] at e
  exact e
abbrev Lw (c : Nat) : Prop := 97 ≤ c ∧ c < 123
theorem alph_at {i : Int} (h0 : 0 ≤ i) (h1 : i < 26) : ∃ c, atI (Str.ofString "abcdefghijklmnopqrstuvwxyz").cps.toList i = some c ∧ Lw c := by
  have hl : (Str.ofString "abcdefghijklmnopqrstuvwxyz").cps.toList.length = 26 := by decide +kernel
  have hk : i.toNat < (Str.ofString "abcdefghijklmnopqrstuvwxyz").cps.toList.length := by omega
  have e := atI_nat (xs := (Str.ofString "abcdefghijklmnopqrstuvwxyz").cps.toList) (j := i.toNat) (List.getElem?_eq_getElem hk)
  rw [show ((i.toNat : Nat) : Int) = i by omega] at e
  have all : ∀ c ∈ (Str.ofString "abcdefghijklmnopqrstuvwxyz").cps.toList, Lw c := by decide +kernel
  exact ⟨_, e, all _ (List.getElem_mem hk)⟩
theorem menu {us : List Int} {n lo hi : Int} (h0 : 0 ≤ n) (h1 : n < (us.length : Int)) (hb : ∀ v ∈ us, lo ≤ v ∧ v ≤ hi) : ∃ v : Int, atI (us.map V.int) n = some (.int v) ∧ lo ≤ v ∧ v ≤ hi := by
  refine ⟨_, ints_at h0 h1, ?_⟩
  have hk : n.toNat < us.length := by omega
  rw [List.getD_eq_getElem?_getD, List.getElem?_eq_getElem hk]
  exact hb _ (List.getElem_mem hk)
/-! ### _law_prime -/
def sp_prime : Sp := fun vs H Q _ => ∃ z : Int, vs = [.int z] ∧ ∀ (n : Int) (H' : Hp), 0 < n → n < 2147483648 → Same H H' → Q (.int n) H'
theorem has_prime (D : Df K mg "_law_prime" s_law_prime) (B : Blt mg) : Has P w K mg base "_law_prime" (k + 1) ["at"] sp_prime := by
  refine D.has sc_law_prime (fun _ _ _ _ _ _ us hl => match us, hl with | [_], _ => rfl) (fun vs H Q E h => by obtain ⟨z, rfl, _⟩ := h; rfl) (fun f cdv A outer s H vs Q E hr h => ?_)
  obtain ⟨z, rfl, q⟩ := h
  refine ⟨_, (pss_cons (ps_set (i := 1) sc_law_prime.nd rfl (by first | exact Or.inl rfl | exact Or.inr rfl) (pe_lst (pa_cons pe_int (pa_cons pe_int (pa_cons pe_int (pa_cons pe_int (pa_cons pe_int (pa_cons pe_int (pa_cons pe_int pa_nil)))))))))
  (pss_one (ps_ret (pe_ix ix_list (pe_op op_cat (pv 1) (pe_lst (pa_cons pe_int (pa_cons pe_int (pa_cons pe_int (pa_cons pe_int pa_nil)))))) (pe_op op_mod (pv 0) pe_int) (fun _ _ => rfl))))), ?_⟩
  refine ⟨(by show 7 ≤ sizeLine; decide), fun r1 hr1 => ?_⟩
  refine ⟨_, rfl, (by show 4 ≤ sizeLine; decide), fun r2 hr2 => ?_⟩
  have n12 : r1 ≠ r2 := ne_of_none upd_same hr2
  refine ⟨r1, r2, _, _, rfl, rfl, by rw [upd_ne n12]; exact upd_same, upd_same, (by show 11 ≤ sizeLine; decide), fun r3 hr3 => ?_⟩
  refine ⟨_, rfl, _, _, rfl, rfl, (by decide : (0 : Int) < 11), ?_⟩
  obtain ⟨v, hv, v0, v1⟩ := menu (us := [2147483647, 2147483629, 2147483587, 2147483579, 2147483563, 2147483549, 2147483543, 2147483497, 2147483489, 2147483477, 2147483423]) (n := z % 11) (lo := 1) (hi := 2147483647) (Int.emod_nonneg _ (by decide)) (Int.emod_lt_of_pos _ (by decide)) (by decide)
  refine ⟨r3, _, _, _, rfl, rfl, SqL.of upd_same, hv, q v _ (by omega) (by omega) ?_⟩
  exact (((Same.refl H).new hr1).new hr2).new hr3
/-! ### _law_pool -/
def sp_pool : Sp := fun vs H Q _ => ∃ cell : Int, vs = [.int cell] ∧ ∀ (p : Addr) (x y : Int), H p = none → Q (.ref p) (upd H p (.lst [.int x, .int y, .int 0]))
theorem has_pool (D : Df K mg "_law_pool" s_law_pool) (B : Blt mg) : Has P w K mg base "_law_pool" (k + 1) ["cell"] sp_pool := by
  refine D.has sc_law_pool (fun _ _ _ _ _ _ us hl => match us, hl with | [_], _ => rfl) (fun vs H Q E h => by obtain ⟨z, rfl, _⟩ := h; rfl) (fun f cdv A outer s H vs Q E hr h => ?_)
  obtain ⟨cell, rfl, q⟩ := h
  refine ⟨_, (pss_one (ps_ret (pe_lst (pa_cons (pe_callB (call_max2 rfl) rfl B.max bt_max (pa_cons pe_int (pa_cons (pe_op op_sub (pv 0) (pe_op op_pow pe_int pe_int)) pa_nil))) (pa_cons (pv 0) (pa_cons pe_int pa_nil)))))), ?_⟩
  refine ⟨_, rfl, _, _, rfl, rfl, ⟨by decide, by decide, by decide⟩, _, _, rfl, rfl, _, _, rfl, ?_⟩
  exact ⟨_, rfl, (by show 3 ≤ sizeLine; decide), fun p hp => q p _ _ hp⟩
theorem pow_ok (u n z y : Int) (hn : 0 < n) (hn2 : n < 2147483648) (z0 : 0 ≤ z) (z1 : z < 1000000) : (u % n * (u % n) + 69621 * z + y % 65537 + 1).natAbs < 2 ^ 64 := by
  have o1 := Int.emod_nonneg u (show n ≠ 0 by omega)
  have o2 := Int.emod_lt_of_pos u hn
  generalize u % n = one at o1 o2
  have oo : one * one ≤ 2147483648 * 2147483648 := Int.mul_le_mul (by omega) (by omega) o1 (by decide)
  have oo0 : 0 ≤ one * one := Int.mul_nonneg o1 o1
  have w1 := Int.emod_nonneg y (by decide : (65537 : Int) ≠ 0)
  have w2 := Int.emod_lt_of_pos y (by decide : (0 : Int) < 65537)
  generalize one * one = q1 at oo oo0
  omega
theorem mod_in (u n : Int) (hn : 0 < n) (hn2 : n < 2147483648) : -(2 ^ 64) < u % n ∧ u % n < 2 ^ 64 := by
  have o1 := Int.emod_nonneg u (show n ≠ 0 by omega)
  have o2 := Int.emod_lt_of_pos u hn
  omega
/-! ### _law_take -/
def sp_take : Sp := fun vs H Q _ => ∃ (p : Addr) (m c : Int), vs = [.ref p, .int m] ∧ Deck H p c ∧ c < 1000000 ∧ 0 < m ∧ m < 1073741824 ∧ ∀ (n : Int) (H' : Hp), 0 ≤ n → n < m → Kd p (c + 1) H H' → Q (.int n) H'
theorem has_take (D : Df K mg "_law_take" s_law_take) (B : Blt mg) (G_law_prime : Has P w K mg base "_law_prime" k ["at"] sp_prime) : Has P w K mg base "_law_take" (k + 1) ["pool", "many"] sp_take := by
  refine D.has sc_law_take (fun _ _ _ _ _ _ us hl => match us, hl with | [_, _], _ => rfl) (fun vs H Q E h => by obtain ⟨p, m, c, rfl, _⟩ := h; rfl) (fun f cdv A outer s H vs Q E hr h => ?_)
  obtain ⟨p, m, c, rfl, ⟨x, y, z, hp, z0, z1⟩, c6, m0, m1, q⟩ := h
  refine ⟨_, (pss_cons (ps_if (pt_cmpR op_gt (pe_ix ix_list (pv 0) pe_int (fun _ _ => rfl)) pe_int (nomark _))
  (pss_cons (ps_set (i := 2) sc_law_take.nd rfl (by first | exact Or.inl rfl | exact Or.inr rfl) (pe_op op_mod (pe_ix ix_list (pv 0) pe_int (fun _ _ => rfl)) (pv 1)))
  (pss_cons (ps_asg (pe_op op_fdiv (pe_ix ix_list (pv 0) pe_int (fun _ _ => rfl)) (pv 1)) (pg_sub (pv 0) pe_int set_list))
  (pss_one (ps_ret (pv 2)))))
  pss_nil)
  (pss_cons (ps_set (i := 3) sc_law_take.nd rfl (by first | exact Or.inl rfl | exact Or.inr rfl) (pe_ix ix_list (pv 0) pe_int (fun _ _ => rfl)))
  (pss_cons (ps_asg (pe_op op_add (pv 3) pe_int) (pg_sub (pv 0) pe_int set_list))
  (pss_cons (ps_set (i := 4) sc_law_take.nd rfl (by first | exact Or.inl rfl | exact Or.inr rfl) (pe_op op_mod (pe_op op_pow (pe_op op_add (pe_op op_add (pe_op op_mod (pe_ix ix_list (pv 0) pe_int (fun _ _ => rfl)) pe_int) (pe_op op_mul pe_int (pv 3))) pe_int) pe_int) (pe_callH G_law_prime hr rfl (pa_cons (pv 3) pa_nil))))
  (pss_cons (ps_set (i := 5) sc_law_take.nd rfl (by first | exact Or.inl rfl | exact Or.inr rfl) (pe_op op_mod (pe_op op_pow (pe_op op_add (pe_op op_add (pe_op op_add (pe_op op_mul (pv 4) (pv 4)) (pe_op op_mul pe_int (pv 3))) (pe_op op_mod (pe_ix ix_list (pv 0) pe_int (fun _ _ => rfl)) pe_int)) pe_int) pe_int) (pe_callH G_law_prime hr rfl (pa_cons (pe_op op_add (pv 3) pe_int) pa_nil))))
  (pss_one (ps_ret (pe_op op_mod (pe_op op_fdiv (pe_op op_mod (pe_op op_add (pe_op op_mul (pv 5) pe_int) (pv 4)) (pe_callH G_law_prime hr rfl (pa_cons (pe_op op_add (pv 3) pe_int) pa_nil))) pe_int) (pv 1))))))))), ?_⟩
  refine ⟨_, rfl, p, _, _, _, rfl, rfl, SqL.of hp, rfl, _, _, rfl, rfl, _, rfl, ite2 (fun cnd => ?_) (fun cnd => ?_)⟩
  · refine ⟨_, rfl, p, _, _, _, rfl, rfl, SqL.of hp, rfl, _, rfl, _, _, rfl, rfl, m0, ?_⟩
    refine ⟨_, rfl, p, _, _, _, rfl, rfl, SqL.of hp, rfl, _, rfl, _, _, rfl, rfl, ⟨m0, m1⟩, ?_⟩
    refine ⟨_, rfl, p, _, _, 0, rfl, rfl, hp, rfl, _, rfl, ?_⟩
    exact q _ _ (Int.emod_nonneg _ (by omega)) (Int.emod_lt_of_pos _ m0) ⟨⟨_, y, z, upd_same, z0, by omega⟩, fun b o hb e => by rw [upd_ne hb]; exact e⟩
  · refine ⟨_, rfl, p, _, _, _, rfl, rfl, SqL.of hp, rfl, _, rfl, _, _, rfl, rfl, ?_⟩
    refine ⟨_, rfl, p, _, _, 2, rfl, rfl, hp, rfl, ?_⟩
    have hp' : upd H p (.lst [.int x, .int y, .int (z + 1)]) p = some (.lst [.int x, .int y, .int (z + 1)]) := upd_same
    have kd : Kd p (c + 1) H (upd H p (.lst [.int x, .int y, .int (z + 1)])) := ⟨⟨x, y, z + 1, upd_same, by omega, by omega⟩, fun b o hb e => by rw [upd_ne hb]; exact e⟩
    have y1 := Int.emod_nonneg y (by decide : (2147483399 : Int) ≠ 0)
    have y2 := Int.emod_lt_of_pos y (by decide : (0 : Int) < 2147483399)
    refine ⟨_, rfl, p, _, _, _, rfl, rfl, SqL.of hp', rfl, _, _, rfl, rfl, (by decide : (0 : Int) < 2147483399), _, rfl, _, _, rfl, rfl, .inl ⟨by decide, by decide⟩, _, _, rfl, rfl, _, _, rfl, rfl, _, _, rfl, rfl, ⟨by decide, by decide, by omega⟩, ?_⟩
    refine ⟨_, rfl, z, rfl, fun n1 H1 a0 a1 s1 => ⟨_, _, rfl, rfl, a0, ?_⟩⟩
    have hp1 := s1 _ _ hp'
    refine ⟨_, rfl, _, rfl, _, _, rfl, rfl, .inl (mod_in _ _ a0 a1), _, rfl, _, _, rfl, rfl, .inl ⟨by decide, by decide⟩, _, _, rfl, rfl, _, rfl, p, _, _, _, rfl, rfl, SqL.of hp1, rfl, _, _, rfl, rfl, (by decide : (0 : Int) < 65537), _, _, rfl, rfl, _, _, rfl, rfl, _, _, rfl, rfl, ⟨by decide, by decide, pow_ok _ _ _ _ a0 a1 z0 (by omega)⟩, ?_⟩
    refine ⟨_, rfl, _, _, rfl, rfl, z + 4, rfl, fun n2 H2 b0 b1 s2 => ⟨_, _, rfl, rfl, b0, ?_⟩⟩
    refine ⟨_, rfl, _, _, rfl, rfl, .inr ⟨by decide, by decide⟩, _, rfl, _, _, rfl, rfl, _, rfl, _, _, rfl, rfl, z + 7, rfl, fun n3 H3 d0 d1 s3 => ⟨_, _, rfl, rfl, d0, ?_⟩⟩
    refine ⟨_, _, rfl, rfl, ⟨by decide, by decide⟩, _, rfl, _, _, rfl, rfl, m0, ?_⟩
    exact q _ _ (Int.emod_nonneg _ (by omega)) (Int.emod_lt_of_pos _ m0) (((kd.same s1).same s2).same s3)
/-! ### _law_letter -/
def sp_letter : Sp := fun vs H Q _ => ∃ (p b : Addr) (c b0 b1 : Int), vs = [.ref p, .ref b] ∧ Deck H p c ∧ c < 1000000 ∧ H b = some (.tup [.int b0, .int b1]) ∧ 0 < b1 ∧ b1 ≤ 26 ∧ ∀ (ch : Nat) (H' : Hp), Lw ch → Kd p (c + 1) H H' → Q (.str ⟨#[ch]⟩) H'
theorem has_letter (D : Df K mg "_law_letter" s_law_letter) (B : Blt mg) (G_law_take : Has P w K mg base "_law_take" k ["pool", "many"] sp_take) : Has P w K mg base "_law_letter" (k + 1) ["pool", "base"] sp_letter := by
  refine D.has sc_law_letter (fun _ _ _ _ _ _ us hl => match us, hl with | [_, _], _ => rfl) (fun vs H Q E h => by obtain ⟨p, b, c, b0, b1, rfl, _⟩ := h; rfl) (fun f cdv A outer s H vs Q E hr h => ?_)
  obtain ⟨p, b, c, b0, b1, rfl, hd, c6, hb, p0, p1, q⟩ := h
  refine ⟨_, (pss_one (ps_ret (pe_ix ix_str pe_str (pe_op op_mod (pe_op op_add (pe_ix ix_tup (pv 1) pe_int (fun _ _ => rfl)) (pe_op op_mul pe_int (pe_callH G_law_take hr rfl (pa_cons (pv 0) (pa_cons (pe_ix ix_tup (pv 1) pe_int (fun _ _ => rfl)) pa_nil))))) pe_int) (fun _ _ => rfl)))), ?_⟩
  have hl : (Str.ofString "abcdefghijklmnopqrstuvwxyz").length = 26 := by decide +kernel
  refine ⟨_, rfl, b, _, _, _, rfl, rfl, SqT.of hb, rfl, _, rfl, _, rfl, b, _, _, _, rfl, rfl, SqT.of hb, rfl, p, b1, c, rfl, hd, c6, p0, by omega, fun n H1 n0 n1 kd => ?_⟩
  obtain ⟨ch, hch, chl⟩ := alph_at (i := (b0 + 5 * n) % 26) (Int.emod_nonneg _ (by decide)) (Int.emod_lt_of_pos _ (by decide))
  refine ⟨_, _, rfl, rfl, .inl ⟨by decide, by decide⟩, _, _, rfl, rfl, _, _, rfl, rfl, (by decide : (0 : Int) < 26), _, _, _, rfl, rfl, by rw [hl]; exact Nat.le_of_lt (small1000 (by decide)), hch, q ch H1 chl kd⟩
end
end S06


set_option Elab.async false
set_option linter.all false
set_option maxRecDepth 100000
set_option maxHeartbeats 8000000
namespace S06
open PySem L2 W7
section
variable {P : Program} {w : World} {K : PySem.W.Frag} {mg : Str → Option Value} {base : Heap} {k : Nat}
/-- the numbers of the places above, as they grow -/
def stepUp (us : List Int) (p : Int) : Int := if us.getD p.toNat 0 > 0 then us.getD p.toNat 0 else 0
/-- so many steps up from a place (the root stays) -/
def climb (us : List Int) : Nat → Int → Int
  | 0, p => p
  | n + 1, p => stepUp us (climb us n p)
structure GrOk (us : List Int) : Prop where
  road : ∀ k, 0 < k → k < us.length → ∃ n, climb us n ((k : Int) - 1) = us.getD k 0
  pos : 0 < us.length
  root : us.getD 0 0 = -1
  up : ∀ k, 0 < k → k < us.length → 0 ≤ us.getD k 0 ∧ us.getD k 0 < (k : Int)
theorem getD_app {us vs : List Int} {j : Nat} : (us ++ vs).getD j 0 = if j < us.length then us.getD j 0 else vs.getD (j - us.length) 0 := by
  simp only [List.getD_eq_getElem?_getD]
  split
  · rename_i h; rw [List.getElem?_append_left h]
  · rename_i h; rw [List.getElem?_append_right (by omega)]
theorem GrOk.climb {us : List Int} (g : GrOk us) (v : Int) {p : Int} (h0 : 0 ≤ p) (h1 : p < (us.length : Int)) : ∀ n, climb (us ++ [v]) n p = climb us n p ∧ 0 ≤ climb us n p ∧ climb us n p < (us.length : Int)
  | 0 => ⟨rfl, h0, h1⟩
  | n + 1 => by
    obtain ⟨a, b, c⟩ := g.climb v h0 h1 n
    have lt : (S06.climb us n p).toNat < us.length := by omega
    have e : (us ++ [v]).getD (S06.climb us n p).toNat 0 = us.getD (S06.climb us n p).toNat 0 := by rw [getD_app, if_pos lt]
    refine ⟨?_, ?_⟩
    · show stepUp (us ++ [v]) (S06.climb (us ++ [v]) n p) = stepUp us (S06.climb us n p)
      rw [a]; unfold stepUp; rw [e]
    · show 0 ≤ stepUp us (S06.climb us n p) ∧ stepUp us (S06.climb us n p) < (us.length : Int)
      have pos := g.pos
      unfold stepUp
      rcases Nat.eq_zero_or_pos (S06.climb us n p).toNat with z | z
      · rw [z, g.root]; exact ⟨by decide, by show (0 : Int) < _; omega⟩
      · have := g.up _ z lt
        split <;> omega
theorem GrOk.snoc {us : List Int} (g : GrOk us) {v : Int} (h0 : 0 ≤ v) (h1 : v < (us.length : Int)) (hr : ∃ n, S06.climb us n ((us.length : Int) - 1) = v) : GrOk (us ++ [v]) where
  road := fun j hj hl => by
    rw [List.length_append, List.length_singleton] at hl
    rw [getD_app]
    have pos := g.pos
    split
    · rename_i h
      obtain ⟨n, e⟩ := g.road j hj h
      exact ⟨n, ((g.climb v (by omega) (by omega) n).1).trans e⟩
    · rename_i h
      have e : j = us.length := by omega
      subst e
      obtain ⟨n, e⟩ := hr
      rw [Nat.sub_self]
      exact ⟨n, ((g.climb v (by omega) (by omega) n).1).trans e⟩
  pos := by rw [List.length_append]; have := g.pos; omega
  root := by rw [getD_app, if_pos g.pos]; exact g.root
  up := fun j hj hl => by
    rw [List.length_append, List.length_singleton] at hl
    rw [getD_app]
    split
    · rename_i h; exact g.up j hj h
    · rename_i h
      have e : j = us.length := by omega
      subst e
      rw [Nat.sub_self]
      exact ⟨h0, h1⟩
theorem GrOk.one : GrOk [-1] := ⟨fun j h0 h1 => by
  have : j < 1 := h1
  omega, by decide, rfl, fun j h0 h1 => by
  have : j < 1 := h1
  omega⟩
theorem gr_tree {us : List Int} {ls : List Nat} (g : GrOk us) (hl : us.length = ls.length) (h60 : us.length ≤ 60) : TreeOk us (mk ls).cps.toList := ⟨by rw [mk_cps]; exact hl, g.pos, h60, g.root, g.up⟩
/-- growing, from none on -/
structure Fine (ups : List Int) (lab : Str) : Prop where
  low : ∀ c ∈ lab.cps.toList, Lw c
  road : ∀ k, 0 < k → k < ups.length → ∃ n, climb ups n ((k : Int) - 1) = ups.getD k 0
theorem low_app {cs : List Nat} {c : Nat} (h : ∀ x ∈ cs, Lw x) (hc : Lw c) : ∀ x ∈ cs ++ [c], Lw x := fun x hx => by
  rcases List.mem_append.mp hx with z | z
  · exact h x z
  · obtain rfl := List.mem_singleton.mp z; exact hc
end
end S06


set_option Elab.async false
set_option linter.all false
set_option maxRecDepth 100000
set_option maxHeartbeats 8000000
namespace S06
open PySem L2 W7
structure Blt7 (mg : Str → Option Value) : Prop extends Blt mg where
  repr : mg "repr" = none
  all : mg "all" = none
  dict_ : mg "dict" = none
  most : ∃ u, mg "MOST_PLACES" = some u ∧ RelV (.int 60) u
  letters : ∃ u, mg "LETTERS" = some u ∧ RelV (.str "abcdefghijklmnopqrstuvwxyz") u
/-! ### plain -/
section
variable {ups : List Int} {lab : List Nat}
theorem chn_trans (t : TreeOk ups lab) : ∀ (n k : Nat), k < n → k < ups.length → ∀ v ∈ chn ups k, ∀ w ∈ chn ups v.toNat, w ∈ chn ups k
  | 0, _, h, _, _, _, _, _ => absurd h (Nat.not_lt_zero _)
  | n + 1, k, hn, hk, v, hv, w, hw => by
    rw [chn_eq t hk] at hv ⊢
    split at hv
    · cases hv
    · rename_i h0
      rw [if_neg h0]
      have lt := t.lt hk h0
      rcases List.mem_cons.mp hv with e | e
      · rw [e] at hw; exact List.mem_cons_of_mem _ hw
      · exact List.mem_cons_of_mem _ (chn_trans t n _ (by omega) (by omega) v e w hw)
theorem road_mem (t : TreeOk ups lab) {k : Nat} (hk : k < ups.length) : ∀ n, climb ups n (k : Int) = (k : Int) ∨ climb ups n (k : Int) ∈ chn ups k
  | 0 => .inl rfl
  | n + 1 => by
    have step : ∀ c : Nat, c < ups.length → stepUp ups (c : Int) = (c : Int) ∨ stepUp ups (c : Int) ∈ chn ups c := fun c hc => by
      rcases Nat.eq_zero_or_pos c with z | z
      · left; subst z; unfold stepUp; show (if ups.getD 0 0 > 0 then ups.getD 0 0 else 0) = 0; rw [t.root]; rfl
      · right
        have u := t.up c z hc
        rw [chn_eq t hc, if_neg (by omega)]
        have e : stepUp ups (c : Int) = ups.getD c 0 := by
          unfold stepUp; rw [Int.toNat_natCast]; split <;> omega
        rw [e]; exact List.mem_cons_self ..
    show stepUp ups (climb ups n (k : Int)) = _ ∨ stepUp ups (climb ups n (k : Int)) ∈ _
    rcases road_mem t hk n with a | a
    · rw [a]; exact step k hk
    · have b := (chn_mem t (k + 1) k (by omega) hk).2 _ a
      have e : climb ups n (k : Int) = ((climb ups n (k : Int)).toNat : Int) := by omega
      rcases step (climb ups n (k : Int)).toNat (by omega) with s | s
      · rw [← e] at s; rw [s]; exact .inr a
      · rw [← e] at s; exact .inr (chn_trans t (k + 1) k (by omega) hk _ a _ s)
theorem chn_behind (t : TreeOk ups lab) (road : ∀ k, 0 < k → k < ups.length → ∃ n, climb ups n ((k : Int) - 1) = ups.getD k 0) {k : Nat} (h0 : 0 < k) (hk : k < ups.length) : ∀ v ∈ chn ups k, v = (k : Int) - 1 ∨ v ∈ chn ups (k - 1) := fun v hv => by
  obtain ⟨n, e⟩ := road k h0 hk
  have u := t.up k h0 hk
  have ek : (k : Int) - 1 = ((k - 1 : Nat) : Int) := by omega
  rw [ek] at e ⊢
  rw [chn_eq t hk, if_neg (by omega)] at hv
  have m := road_mem t (k := k - 1) (by omega) n
  rw [e] at m
  rcases List.mem_cons.mp hv with z | z
  · rw [z]; exact m
  · right
    rcases m with m | m
    · rw [m, Int.toNat_natCast] at z; exact z
    · exact chn_trans t (k - 1 + 1) (k - 1) (by omega) (by omega) _ m _ z
end
section
variable {P : Program} {w : World} {K : PySem.W.Frag} {mg : Str → Option Value} {base : Heap} {k : Nat}
/-! ### all_above -/
def sp_all : Sp := fun vs H Q _ => ∃ (u : Addr) (ups more : List Int) (lab : List Nat) (i : Int), vs = [.ref u, .int i] ∧ H u = some (.tup ((ups ++ more).map V.int)) ∧ TreeOk ups lab ∧ 0 ≤ i ∧ i < (ups.length : Int) ∧
  ∀ (r : Addr) (H' : Hp), Same H H' → H' r = some (.lst ((chn ups i.toNat).map V.int)) → Q (.ref r) H'
theorem ints_atM {us more : List Int} {i : Int} (h0 : 0 ≤ i) (h1 : i < (us.length : Int)) : atI ((us ++ more).map V.int) i = some (.int (us.getD i.toNat 0)) := by
  have := ints_at (us := us ++ more) (i := i) h0 (by rw [List.length_append]; omega)
  rw [getD_app, if_pos (by omega)] at this
  exact this
theorem has_all (D : Df K mg "all_above" s_all_above) (B : Blt7 mg) : Has P w K mg base "all_above" (k + 1) ["ups", "place"] sp_all := by
  refine D.has sc_all_above (fun _ _ _ _ _ _ us hl => match us, hl with | [_, _], _ => rfl) (fun vs H Q E h => by obtain ⟨u, ups, more, lab, i, rfl, _⟩ := h; rfl) (fun f cdv A outer s H vs Q E hr h => ?_)
  obtain ⟨u, ups, more, lab, i, rfl, hu, ok, i0, i1, q⟩ := h
  refine ⟨_, (pss_cons (ps_set (i := 2) sc_all_above.nd rfl (by first | exact Or.inl rfl | exact Or.inr rfl) (pe_lst pa_nil))
  (pss_cons (ps_set (i := 3) sc_all_above.nd rfl (by first | exact Or.inl rfl | exact Or.inr rfl) (pe_ix ix_tup (pv 0) (pv 1) (fun _ _ => rfl)))
  (pss_cons (ps_while PassesOwn.never (pt_cmpR op_ne (pv 3) (pe_un un_neg pe_int) (nomark _))
  (pss_cons (ps_expr (pe_bm PySem.F.plainAttrs_list PySem.F.slot_list_append PySem.F.type_list_append mt_append (pv 2) (pa_cons (pv 3) pa_nil)))
  (pss_one (ps_set (i := 3) sc_all_above.nd rfl (by first | exact Or.inl rfl | exact Or.inr rfl) (pe_ix ix_tup (pv 0) (pv 3) (fun _ _ => rfl))))))
  (pss_one (ps_ret (pv 2)))))), ?_⟩
  have m60 := ok.most
  have hup : ∀ j : Int, 0 ≤ j → j < (ups.length : Int) → ups.getD j.toNat 0 < j ∧ -1 ≤ ups.getD j.toNat 0 := fun j h0 h1 => by
    rcases Nat.eq_zero_or_pos j.toNat with z | z
    · have := ok.root
      rw [z]; omega
    · have := ok.up j.toNat z (by omega)
      omega
  refine ⟨(by show 0 ≤ sizeLine; decide), fun r hr0 => ?_⟩
  have ne : u ≠ r := ne_of_none hu hr0
  have hu' : ∀ o, upd H r o u = some (.tup ((ups ++ more).map V.int)) := fun o => by rw [upd_ne ne]; exact hu
  refine ⟨_, rfl, _, rfl, u, _, _, _, rfl, rfl, SqT.of (hu' _), ints_atM i0 i1, ?_⟩
  refine ⟨fun m σ H' => ∃ (l : List Int) (up : Int), σ = [some (.ref u), some (.int i), some (.ref r), some (.int up)] ∧ H' = upd H r (.lst (l.map V.int)) ∧ l ++ rst ups up = chn ups i.toNat ∧ m = (up + 1).toNat ∧ up < (ups.length : Int) ∧ -1 ≤ up ∧ l.length + (up + 1).toNat ≤ 61,
    ⟨_, [], _, rfl, rfl, (by rw [List.nil_append]; exact (chn_rst ok (by omega)).symm), rfl, by have := hup i i0 i1; omega, (hup i i0 i1).2, by have := hup i i0 i1; rw [List.length_nil]; omega⟩, ?_⟩
  rintro m σ H' ⟨l, up, rfl, rfl, hl, rfl, u1, u2, u3⟩
  refine ⟨_, rfl, _, rfl, rfl, _, rfl, ?_⟩
  by_cases hc : V.int up = V.int (-1)
  · rw [decide_eq_true hc]
    refine iteF ?_
    have e : up = -1 := by injection hc
    subst e
    refine ⟨_, rfl, q r _ ((Same.refl H).new hr0) ?_⟩
    rw [upd_same, ← hl]
    have : rst ups (-1) = [] := by unfold rst; rw [if_pos (by decide)]
    rw [this, List.append_nil]
  · rw [decide_eq_false hc]
    refine iteT ?_
    have e : up ≠ -1 := fun z => hc (by rw [z])
    have g := hup up (by omega) u1
    refine ⟨_, fun σ' H3 h => h, ?_⟩
    refine ⟨_, rfl, .inl ⟨rfl, _, SqL.of upd_same⟩, _, rfl, r, _, _, rfl, rfl, upd_same, by rw [List.length_map]; exact small1000 (by omega), ?_⟩
    rw [upd_upd]
    refine ⟨_, rfl, _, rfl, u, _, _, _, rfl, rfl, SqT.of (hu' _), ints_atM (by omega) u1, ?_⟩
    refine ⟨(ups.getD up.toNat 0 + 1).toNat, by omega, l ++ [up], ups.getD up.toNat 0, rfl, by rw [List.map_append]; rfl, ?_, rfl, by omega, g.2, by rw [List.length_append, List.length_singleton]; omega⟩
    rw [List.append_assoc, ← hl, rst_step ok (by omega) u1]; rfl
/-! ### deep_of -/
def sp_deep : Sp := fun vs H Q _ => ∃ (t : Addr) (ups : List Int) (lab : Str) (j : Nat), vs = [.ref t, .int (j : Int)] ∧ TreeAt H t ups lab ∧ j < ups.length ∧ ∀ H' : Hp, Same H H' → Q (.int ((chn ups j).length : Int)) H'
theorem has_deep (D : Df K mg "deep_of" s_deep_of) (B : Blt7 mg) (G_all_above : Has P w K mg base "all_above" k ["ups", "place"] sp_all) : Has P w K mg base "deep_of" (k + 1) ["tree", "place"] sp_deep := by
  refine D.has sc_deep_of (fun _ _ _ _ _ _ us hl => match us, hl with | [_, _], _ => rfl) (fun vs H Q E h => by obtain ⟨t, ups, lab, j, rfl, _⟩ := h; rfl) (fun f cdv A outer s H vs Q E hr h => ?_)
  obtain ⟨t, ups, lab, j, rfl, tr, hj, q⟩ := h
  refine ⟨_, (pss_one (ps_ret (pe_callB call_len_seq rfl B.len bt_len (pa_cons (pe_callH G_all_above hr rfl (pa_cons (pe_ix ix_tup (pv 0) pe_int (fun _ _ => rfl)) (pa_cons (pv 1) pa_nil))) pa_nil)))), ?_⟩
  obtain ⟨u, ht, hu, ok⟩ := id tr
  refine ⟨_, rfl, t, _, _, _, rfl, rfl, SqT.of ht, rfl, _, rfl, u, ups, [], lab.cps.toList, (j : Int), rfl, (by rw [List.append_nil]; exact hu), ok, by omega, by omega, fun r H1 s1 hr1 => ?_⟩
  refine ⟨r, _, rfl, .inl (SqL.of hr1), ?_⟩
  have := q H1 s1
  rw [List.length_map, Int.toNat_natCast]
  exact this
/-! ### _law_cells -/
def sp_cells (K : PySem.W.Frag) : Sp := fun vs H Q _ => ∃ (a : Addr) (ns : List Int) (m : Nat), vs = [.ref a, .int (m : Int)] ∧ SqL K H a (ns.map V.int) ∧ ns.length ≤ 63 ∧ m ≤ 63 ∧
  ∀ (cs : List Int) (r : Addr) (H' : Hp), cs.length ≤ 64 → Same H H' → H r = none → H' r = some (.lst (cs.map V.int)) → Q (.ref r) H'
theorem has_cells (D : Df K mg "_law_cells" s_law_cells) (B : Blt7 mg) : Has P w K mg base "_law_cells" (k + 1) ["script", "many"] (sp_cells K) := by
  refine D.has sc_law_cells (fun _ _ _ _ _ _ us hl => match us, hl with | [_, _], _ => rfl) (fun vs H Q E h => by obtain ⟨a, ns, m, rfl, _⟩ := h; rfl) (fun f cdv A outer s H vs Q E hr h => ?_)
  obtain ⟨a, ns, m, rfl, hS, h63, m63, q⟩ := h
  refine ⟨_, (pss_one (ps_ret (pe_op op_cat (pe_slice sl_list (pv 0) po_none (po_some (pv 1))) (pe_op op_rep (pe_lst (pa_cons pe_int pa_nil)) (pe_callTy call_int1 rfl B.int_ bt_int (pa_cons (pe_cmpR (op_eq_lst hr.units0) (pv 0) (pe_lst pa_nil) (nomark _)) pa_nil)))))), ?_⟩
  refine ⟨_, rfl, _, rfl, _, rfl, a, _, rfl, hS, fun p hp => ?_⟩
  have s1 : Same H (upd H p (.lst (cutV (ns.map V.int) none (some (m : Int))))) := (Same.refl H).new hp
  have h1 : upd H p (.lst (cutV (ns.map V.int) none (some (m : Int)))) p = some (.lst (cutV (ns.map V.int) none (some (m : Int)))) := upd_same
  generalize upd H p (.lst (cutV (ns.map V.int) none (some (m : Int)))) = H1 at s1 h1
  refine ⟨(by show 1 ≤ sizeLine; decide), fun z hz => ?_⟩
  have s2 : Same H1 (upd H1 z (.lst [.int 0])) := (Same.refl H1).new hz
  have h2 : upd H1 z (.lst [.int 0]) z = some (.lst [.int 0]) := upd_same
  generalize upd H1 z (.lst [.int 0]) = H2 at s2 h2
  refine ⟨_, rfl, (by show 0 ≤ sizeLine; decide), fun e he => ?_⟩
  have s3 : Same H2 (upd H2 e (.lst [])) := (Same.refl H2).new he
  have h3 : upd H2 e (.lst []) e = some (.lst []) := upd_same
  generalize upd H2 e (.lst []) = H3 at s3 h3
  refine ⟨a, e, _, _, rfl, rfl, SqL.keepS hS ((s1.trans s2).trans s3), SqL.of h3, flat_ints _, rfl, ?_⟩
  generalize eqVs (ns.map V.int) [] = bb
  refine .inr ⟨bb, rfl, z, _, _, rfl, rfl, s3 _ _ h2, ?_, ?_, ?_, fun r2 hr2 => ?_⟩
  · cases bb <;> decide
  · cases bb <;> decide
  · cases bb <;> decide
  have s4 : Same H3 (upd H3 r2 (.lst (List.replicate (if bb = true then (1 : Int) else 0).toNat [V.int 0]).flatten)) := (Same.refl H3).new hr2
  have e0 : (List.replicate (if bb = true then (1 : Int) else 0).toNat [V.int 0]).flatten = (List.replicate (if bb = true then 1 else 0) (0 : Int)).map V.int := by cases bb <;> rfl
  rw [e0] at s4 ⊢
  have h4 : upd H3 r2 (.lst ((List.replicate (if bb = true then 1 else 0) (0 : Int)).map V.int)) r2 = some (.lst ((List.replicate (if bb = true then 1 else 0) (0 : Int)).map V.int)) := upd_same
  generalize upd H3 r2 (.lst ((List.replicate (if bb = true then 1 else 0) (0 : Int)).map V.int)) = H4 at s4 h4
  have ec : cutV (ns.map V.int) none (some (m : Int)) = (ns.take (HT.sIx (ns.map V.int).length (ns.map V.int).length (some (m : Int)))).map V.int := by
    unfold cutV
    rw [HT.sIx_none, List.drop_zero, Nat.sub_zero, List.map_take]
  have lb : (if bb = true then 1 else 0 : Nat) ≤ 1 := by cases bb <;> decide
  have lt1 : (ns.take (HT.sIx (ns.map V.int).length (ns.map V.int).length (some (m : Int)))).length ≤ 63 := by rw [List.length_take]; omega
  refine ⟨p, r2, _, _, rfl, rfl, s4 _ _ (s3 _ _ (s2 _ _ h1)), h4, ?_, fun r3 hr3 => q (ns.take (HT.sIx (ns.map V.int).length (ns.map V.int).length (some (m : Int))) ++ List.replicate (if bb = true then 1 else 0) 0) r3 _ ?_ ?_ ?_ ?_⟩
  · rw [ec]
    simp only [List.length_map, List.length_replicate] at lt1 ⊢
    exact Nat.le_of_lt (small1000 (by omega))
  · rw [List.length_append, List.length_replicate]; omega
  · exact (((s1.trans s2).trans s3).trans s4).trans ((Same.refl H4).new hr3)
  · exact (((s1.trans s2).trans s3).trans s4).free hr3
  · rw [upd_same, ec, List.map_append]
end
end S06


set_option Elab.async false
set_option linter.all false
set_option maxRecDepth 100000
set_option maxHeartbeats 8000000
namespace S06
open PySem L2 W7
/-! ### plain: the chains above places -/
section
variable {ups : List Int} {lab : List Nat}
def cn (ups : List Int) (k : Nat) : List Nat := (chn ups k).map Int.toNat
theorem cn_len (ups : List Int) (k : Nat) : (cn ups k).length = (chn ups k).length := by unfold cn; rw [List.length_map]
theorem chn_split (t : TreeOk ups lab) : ∀ (f j : Nat), j < f → j < ups.length → ∀ v ∈ chn ups j, ∃ q, chn ups j = q ++ v :: chn ups v.toNat
  | 0, j, h, _, _, _ => absurd h (Nat.not_lt_zero _)
  | f + 1, j, h, hj, v, hv => by
    rw [chn_eq t hj] at hv ⊢
    split at hv
    · cases hv
    · rename_i h0
      rw [if_neg h0]
      have lt := t.lt hj h0
      rcases List.mem_cons.mp hv with e | e
      · exact ⟨[], by rw [e]; rfl⟩
      · obtain ⟨q, eq⟩ := chn_split t f _ (by omega) (by omega) v e
        exact ⟨_ :: q, by rw [eq]; rfl⟩
theorem chn_pos (t : TreeOk ups lab) {k : Nat} (h0 : 0 < k) (hk : k < ups.length) : chn ups k = ups.getD k 0 :: chn ups (ups.getD k 0).toNat := by
  have u := t.up k h0 hk
  rw [chn_eq t hk, if_neg (by omega)]
theorem chn_zero (t : TreeOk ups lab) : chn ups 0 = [] := by
  rw [chn_eq t t.pos, if_pos (by rw [t.root]; decide)]
/-- a place stands beneath the one ahead, or beneath one above it -/
theorem chn_step (t : TreeOk ups lab) (road : ∀ k, 0 < k → k < ups.length → ∃ n, climb ups n ((k : Int) - 1) = ups.getD k 0) {k : Nat} (h0 : 0 < k) (hk : k < ups.length) :
    chn ups k = ((k - 1 : Nat) : Int) :: chn ups (k - 1) ∨ ∃ m, chn ups k = (chn ups (k - 1)).drop m := by
  have e := chn_pos t h0 hk
  rcases chn_behind t road h0 hk (ups.getD k 0) (by rw [e]; exact List.mem_cons_self) with z | z
  · left
    rw [e, z, show (k : Int) - 1 = ((k - 1 : Nat) : Int) by omega, Int.toNat_natCast]
  · right
    obtain ⟨q, eq⟩ := chn_split t (k - 1 + 1) (k - 1) (by omega) (by omega) _ z
    exact ⟨q.length, by rw [eq, e]; simp⟩
theorem pre_of (t : TreeOk ups lab) (road : ∀ k, 0 < k → k < ups.length → ∃ n, climb ups n ((k : Int) - 1) = ups.getD k 0) : W03.Pre ups.length (cn ups) where
  root := by unfold cn; rw [chn_zero t]; rfl
  step := fun k h0 hk => by
    unfold cn
    rcases chn_step t road h0 hk with s | ⟨m, s⟩
    · left; rw [s, List.map_cons, Int.toNat_natCast]
    · right; exact ⟨m, by rw [s, List.map_drop]⟩
  ne := fun k h0 hk => by unfold cn; rw [chn_pos t h0 hk]; simp
  self := fun k hk v r e => by
    unfold cn at e
    rcases Nat.eq_zero_or_pos k with z | z
    · subst z; rw [chn_zero t] at e; cases e
    · have u := t.up k z hk
      rw [chn_pos t z hk, List.map_cons] at e
      injection e with e1 e2
      subst e1
      exact ⟨by omega, e2.symm⟩
def txt (ups : List Int) (lab : List Nat) : List Nat := W03.Ft ups.length (cn ups) (fun k => lab.getD k 0) 0
/-- what is still to be written when i places are -/
def rem (ups : List Int) (lab : List Nat) (i : Nat) : List Nat := if i = 0 then W03.Sfx ups.length (cn ups) (fun k => lab.getD k 0) 0 else
  if i < ups.length then W03.br (chn ups (i - 1)).length (chn ups i).length ++ W03.Sfx ups.length (cn ups) (fun k => lab.getD k 0) i else List.replicate (chn ups (i - 1)).length 41
theorem rem_txt (t : TreeOk ups lab) (road : ∀ k, 0 < k → k < ups.length → ∃ n, climb ups n ((k : Int) - 1) = ups.getD k 0) : rem ups lab 0 = txt ups lab := by
  unfold rem txt
  rw [if_pos rfl, W03.text_eq (pre_of t road) t.pos]
theorem sfx_rem {i : Nat} (hi : i < ups.length) : W03.Sfx ups.length (cn ups) (fun k => lab.getD k 0) i = lab.getD i 0 :: rem ups lab (i + 1) := by
  rw [W03.Sfx_eq hi, cn_len, cn_len]
  unfold rem
  rw [if_neg (show ¬ i + 1 = 0 by omega), Nat.add_sub_cancel]
/-! ### plain: the text read back -/
structure Sc where
  us : List Int
  ls : List Nat
  wn : List Int
  la : List Nat
def tk (s : Sc) (x : Nat) : Sc := if x = 40 then ⟨s.us, s.ls, s.wn ++ [(s.ls.length : Int) - 1], [x]⟩ else if x = 41 then ⟨s.us, s.ls, s.wn.dropLast, [x]⟩ else ⟨s.us ++ [s.wn.getLastD (-1)], s.ls ++ [x], s.wn, [x]⟩
def Can (s : Sc) (x : Nat) : Prop := (x = 41 ∧ s.wn ≠ [] ∧ s.la ≠ [40]) ∨ (x = 40 ∧ s.ls.length < 60 ∧ ∃ c, Lw c ∧ s.la = [c]) ∨ (Lw x ∧ s.ls.length < 60 ∧ (s.la = [] ∨ s.wn ≠ []))
inductive Go : Sc → List Nat → Sc → Prop
  | nil (s : Sc) : Go s [] s
  | cons {s f : Sc} {x : Nat} {xs : List Nat} (h : Can s x) (r : Go (tk s x) xs f) : Go s (x :: xs) f
theorem take_next {α : Type} {l : List α} {d : α} {j : Nat} (h : j < l.length) : l.take j ++ [l.getD j d] = l.take (j + 1) := by
  rw [List.take_succ_eq_append_getElem h, List.getD_eq_getElem?_getD, List.getElem?_eq_getElem h]; rfl
theorem go_pop {f : Sc} {t : List Nat} : ∀ (m : Nat) (s : Sc), m ≤ s.wn.length → s.la ≠ [40] → Go ⟨s.us, s.ls, s.wn.take (s.wn.length - m), if m = 0 then s.la else [41]⟩ t f → Go s (List.replicate m 41 ++ t) f
  | 0, s, _, _, h => by
    rw [if_pos rfl, Nat.sub_zero, List.take_length] at h
    exact h
  | m + 1, s, hm, hl, h => by
    rw [List.replicate_succ, List.cons_append]
    refine .cons (.inl ⟨rfl, fun e => by rw [e] at hm; simp at hm, hl⟩) ?_
    have e : tk s 41 = ⟨s.us, s.ls, s.wn.dropLast, [41]⟩ := rfl
    rw [e]
    refine go_pop m _ (by rw [List.length_dropLast]; omega) (by simp) ?_
    rw [if_neg (by omega)] at h
    have e2 : s.wn.dropLast.take (s.wn.dropLast.length - m) = s.wn.take (s.wn.length - (m + 1)) := by
      rw [List.dropLast_eq_take, List.take_take, List.length_take]
      congr 1
      omega
    show Go ⟨s.us, s.ls, s.wn.dropLast.take (s.wn.dropLast.length - m), if m = 0 then [41] else [41]⟩ t f
    rw [e2]
    split <;> exact h
theorem go_at (t : TreeOk ups lab) (road : ∀ k, 0 < k → k < ups.length → ∃ n, climb ups n ((k : Int) - 1) = ups.getD k 0) (low : ∀ c ∈ lab, Lw c) : ∀ (f k : Nat), ups.length - k ≤ f → k < ups.length →
    ∃ z, z ≠ [] ∧ Go ⟨ups.take (k + 1), lab.take (k + 1), (chn ups k).reverse, [lab.getD k 0]⟩ (rem ups lab (k + 1)) ⟨ups, lab, [], z⟩
  | 0, k, h, hk => by omega
  | f + 1, k, h, hk => by
    have m60 := t.most
    have ll := t.len
    have lw : ∀ j, j < ups.length → Lw (lab.getD j 0) := fun j hj => by
      rw [List.getD_eq_getElem?_getD, List.getElem?_eq_getElem (by omega)]
      exact low _ (List.getElem_mem _)
    have n40 : ∀ j, j < ups.length → [lab.getD j 0] ≠ [40] := fun j hj e => by
      injection e with e
      have := lw j hj
      unfold Lw at this
      omega
    unfold rem
    rw [if_neg (by omega), Nat.add_sub_cancel]
    by_cases h1 : k + 1 < ups.length
    · rw [if_pos h1, sfx_rem h1]
      obtain ⟨z, zn, g⟩ := go_at t road low f (k + 1) (by omega) h1
      refine ⟨z, zn, ?_⟩
      have tu : ups.take (k + 1) ++ [ups.getD (k + 1) 0] = ups.take (k + 1 + 1) := take_next h1
      have tl : lab.take (k + 1) ++ [lab.getD (k + 1) 0] = lab.take (k + 1 + 1) := take_next (by omega)
      have tk1 : (lab.take (k + 1)).length = k + 1 := by rw [List.length_take]; omega
      have lk := lw (k + 1) h1
      have nx : ¬ lab.getD (k + 1) 0 = 40 ∧ ¬ lab.getD (k + 1) 0 = 41 := by unfold Lw at lk; omega
      have letter : ∀ (wn : List Int) (la : List Nat), wn = (chn ups (k + 1)).reverse → Go ⟨ups.take (k + 1), lab.take (k + 1), wn, la⟩ (lab.getD (k + 1) 0 :: rem ups lab (k + 1 + 1)) ⟨ups, lab, [], z⟩ := fun wn la e => by
        have ce := chn_pos t (by omega) h1
        refine .cons (.inr (.inr ⟨lk, by show (lab.take (k + 1)).length < 60; omega, .inr (by show wn ≠ []; rw [e, ce]; simp)⟩)) ?_
        unfold tk
        rw [if_neg nx.1, if_neg nx.2]
        show Go ⟨ups.take (k + 1) ++ [wn.getLastD (-1)], lab.take (k + 1) ++ [lab.getD (k + 1) 0], wn, [lab.getD (k + 1) 0]⟩ _ _
        have eg : wn.getLastD (-1) = ups.getD (k + 1) 0 := by rw [e, ce, List.reverse_cons]; simp
        rw [eg, tu, tl, e]
        exact g
      rcases Nat.lt_or_ge (chn ups k).length (chn ups (k + 1)).length with d | d
      · have ck : chn ups (k + 1) = ((k : Nat) : Int) :: chn ups k := by
          rcases chn_step t road (by omega) h1 with s | ⟨m, s⟩
          · rw [Nat.add_sub_cancel] at s; exact s
          · rw [Nat.add_sub_cancel] at s
            rw [s, List.length_drop] at d
            omega
        unfold W03.br
        rw [if_pos d]
        refine .cons (.inr (.inl ⟨rfl, by show (lab.take (k + 1)).length < 60; omega, _, lw k hk, rfl⟩)) ?_
        unfold tk
        rw [if_pos rfl]
        refine letter _ _ ?_
        show (chn ups k).reverse ++ [((lab.take (k + 1)).length : Int) - 1] = _
        rw [ck, List.reverse_cons, tk1]
        congr 2
        omega
      · unfold W03.br
        rw [if_neg (by omega)]
        refine go_pop _ _ (by show _ ≤ (chn ups k).reverse.length; rw [List.length_reverse]; omega) (n40 k hk) ?_
        refine letter _ _ ?_
        show (chn ups k).reverse.take ((chn ups k).reverse.length - ((chn ups k).length - (chn ups (k + 1)).length)) = _
        rcases chn_step t road (by omega) h1 with s | ⟨m, s⟩
        · rw [Nat.add_sub_cancel] at s
          rw [s, List.length_cons] at d
          omega
        · rw [Nat.add_sub_cancel] at s
          have dl : (chn ups (k + 1)).length = (chn ups k).length - m := by rw [s, List.length_drop]
          have ne := chn_pos t (by omega) h1
          have pos : 0 < (chn ups (k + 1)).length := by rw [ne]; simp
          rw [s, List.length_drop, List.reverse_drop, List.length_reverse]
          congr 1
          omega
    · rw [if_neg h1]
      have e1 : ups.take (k + 1) = ups := List.take_of_length_le (by omega)
      have e2 : lab.take (k + 1) = lab := List.take_of_length_le (by omega)
      refine ⟨if (chn ups k).length = 0 then [lab.getD k 0] else [41], by split <;> simp, ?_⟩
      have := go_pop (f := ⟨ups, lab, [], if (chn ups k).length = 0 then [lab.getD k 0] else [41]⟩) (t := []) (chn ups k).length ⟨ups.take (k + 1), lab.take (k + 1), (chn ups k).reverse, [lab.getD k 0]⟩ (by show _ ≤ (chn ups k).reverse.length; rw [List.length_reverse]; omega) (n40 k hk) (by
        show Go ⟨ups.take (k + 1), lab.take (k + 1), (chn ups k).reverse.take ((chn ups k).reverse.length - (chn ups k).length), _⟩ [] _
        rw [List.length_reverse, Nat.sub_self, List.take_zero, e1, e2]
        exact .nil _)
      rw [List.append_nil] at this
      exact this
theorem go_all (t : TreeOk ups lab) (road : ∀ k, 0 < k → k < ups.length → ∃ n, climb ups n ((k : Int) - 1) = ups.getD k 0) (low : ∀ c ∈ lab, Lw c) : ∃ z, z ≠ [] ∧ Go ⟨[], [], [], []⟩ (txt ups lab) ⟨ups, lab, [], z⟩ := by
  have m60 := t.most
  have ll := t.len
  have pos := t.pos
  obtain ⟨z, zn, g⟩ := go_at t road low ups.length 0 (by omega) pos
  refine ⟨z, zn, ?_⟩
  rw [← rem_txt t road]
  unfold rem
  rw [if_pos rfl, sfx_rem pos]
  have l0 : Lw (lab.getD 0 0) := by
    rw [List.getD_eq_getElem?_getD, List.getElem?_eq_getElem (by omega)]
    exact low _ (List.getElem_mem _)
  have nx : ¬ lab.getD 0 0 = 40 ∧ ¬ lab.getD 0 0 = 41 := by unfold Lw at l0; omega
  refine .cons (.inr (.inr ⟨l0, by decide, .inl rfl⟩)) ?_
  unfold tk
  rw [if_neg nx.1, if_neg nx.2]
  have e1 : ups.take (0 + 1) = [] ++ [([] : List Int).getLastD (-1)] := by
    rw [List.take_succ, List.getElem?_eq_getElem pos, List.take_zero]
    have := t.root
    rw [List.getD_eq_getElem?_getD, List.getElem?_eq_getElem pos] at this
    have : ups[0] = -1 := this
    rw [this]; rfl
  have e2 : lab.take (0 + 1) = [] ++ [lab.getD 0 0] := by
    rw [List.take_succ, List.getElem?_eq_getElem (by omega), List.take_zero, List.getD_eq_getElem?_getD, List.getElem?_eq_getElem (by omega)]; rfl
  rw [e1, e2, chn_zero t] at g
  exact g
end
end S06


set_option Elab.async false
set_option linter.all false
set_option maxRecDepth 100000
set_option maxHeartbeats 8000000
namespace S06
open PySem L2 W7
theorem glue_cps : ∀ (ss : List Str) (acc : Array Nat), (List.foldl (fun acc (p : Str) => acc ++ (Str.ofString "").cps ++ p.cps) acc ss).toList = acc.toList ++ (ss.map fun z : Str => z.cps.toList).flatten
  | [], acc => by simp
  | x :: r, acc => by
    rw [List.foldl_cons, glue_cps r, Array.toList_append, Array.toList_append]
    have e : (Str.ofString "").cps.toList = [] := rfl
    rw [e, List.append_nil, List.map_cons, List.flatten_cons, List.append_assoc]
theorem join_cps (ss : List Str) : (Txt.join (Str.ofString "") ss).cps.toList = (ss.map fun z : Str => z.cps.toList).flatten := by
  cases ss with
  | nil => rfl
  | cons x r =>
    have := glue_cps r x.cps
    rw [List.map_cons, List.flatten_cons]
    exact this
theorem foldl_app (xs : Array Nat) : ∀ (n : Nat) (acc : Array Nat), ((List.replicate n xs).foldl (· ++ ·) acc).toList = acc.toList ++ (List.replicate n xs.toList).flatten
  | 0, acc => by simp
  | n + 1, acc => by
    rw [List.replicate_succ, List.foldl_cons, foldl_app xs n, Array.toList_append, List.replicate_succ, List.flatten_cons, List.append_assoc]
theorem rep_one (c : Nat) : ∀ n : Nat, (List.replicate n [c]).flatten = List.replicate n c
  | 0 => rfl
  | n + 1 => by rw [List.replicate_succ, List.flatten_cons, rep_one c n, List.replicate_succ]; rfl
theorem mul_cps {c : Nat} {n : Int} (h : 0 ≤ n) : (Txt.mul ⟨#[c]⟩ n).cps.toList = List.replicate n.toNat c := by
  unfold Txt.mul
  split
  · have : n.toNat = 0 := by omega
    rw [this]; rfl
  · split
    · rename_i h1 h2
      have h3 : n = 1 := by
        simp only [Bool.or_eq_true, beq_iff_eq] at h2
        rcases h2 with h2 | h2
        · exact h2
        · have h4 : (⟨#[c]⟩ : Str).length = 1 := rfl
          omega
      subst h3; rfl
    · show (List.foldl (· ++ ·) #[] (List.replicate n.toNat #[c])).toList = _
      rw [foldl_app]
      show [] ++ (List.replicate n.toNat [c]).flatten = _
      rw [rep_one]; rfl
def cat (ps : List Str) : List Nat := (ps.map fun z : Str => z.cps.toList).flatten
theorem cat_snoc (ps : List Str) (z : Str) : cat (ps ++ [z]) = cat ps ++ z.cps.toList := by unfold cat; rw [List.map_append, List.flatten_append]; simp
theorem sum_le {ps : List Str} {b : Nat} (h : ∀ p ∈ ps, p.length ≤ b) : (ps.map (·.length)).sum ≤ ps.length * b := by
  induction ps with
  | nil => simp
  | cons p ps ih =>
    rw [List.map_cons, List.sum_cons, List.length_cons, Nat.succ_mul]
    have := h p List.mem_cons_self
    have := ih fun q hq => h q (List.mem_cons_of_mem _ hq)
    omega
theorem cps_len (z : Str) : z.cps.toList.length = z.length := by simp [Str.length]
section
variable {P : Program} {w : World} {K : PySem.W.Frag} {mg : Str → Option Value} {base : Heap} {k : Nat}
def dp (ups : List Int) (i : Nat) : Nat := if i = 0 then 0 else (chn ups (i - 1)).length
theorem rem_lt {ups : List Int} {lab : List Nat} (t : TreeOk ups lab) {i : Nat} (hi : i < ups.length) : rem ups lab i = W03.br (dp ups i) (chn ups i).length ++ (lab.getD i 0 :: rem ups lab (i + 1)) := by
  rw [← sfx_rem hi]
  unfold rem dp
  rcases Nat.eq_zero_or_pos i with z | z
  · subst z
    rw [if_pos rfl, if_pos rfl, chn_zero t]; rfl
  · rw [if_neg (by omega), if_pos hi, if_neg (by omega)]
def Road (ups : List Int) : Prop := ∀ k, 0 < k → k < ups.length → ∃ n, climb ups n ((k : Int) - 1) = ups.getD k 0
/-! ### show_tree -/
def sp_show : Sp := fun vs H Q _ => ∃ (t : Addr) (ups : List Int) (lab : Str), vs = [.ref t] ∧ TreeAt H t ups lab ∧ Road ups ∧ ∀ H', Same H H' → Q (.str (mk (txt ups lab.cps.toList))) H'
theorem has_show (D : Df K mg "show_tree" s_show_tree) (B : Blt7 mg) (G_deep_of : Has P w K mg base "deep_of" k ["tree", "place"] sp_deep) : Has P w K mg base "show_tree" (k + 1) ["tree"] sp_show := by
  refine D.has sc_show_tree (fun _ _ _ _ _ _ us hl => match us, hl with | [_], _ => rfl) (fun vs H Q E h => by obtain ⟨t, ups, lab, rfl, _⟩ := h; rfl) (fun f cdv A outer s H vs Q E hr h => ?_)
  obtain ⟨t, ups, lab, rfl, tr, road, q⟩ := h
  refine ⟨_, (pss_cons (ps_set (i := 1) sc_show_tree.nd rfl (by first | exact Or.inl rfl | exact Or.inr rfl) (pe_lst pa_nil))
  (pss_cons (ps_set (i := 2) sc_show_tree.nd rfl (by first | exact Or.inl rfl | exact Or.inr rfl) pe_int)
  (pss_cons (ps_for PassesOwn.never rfl (pi_enum rfl B.enumerate (pa_cons (pe_ix ix_tup (pv 0) pe_int (fun _ _ => rfl)) pa_nil)) (pg_tup rfl (pgs_cons (pg_name (i := 3) sc_show_tree.nd rfl (by first | exact Or.inl rfl | exact Or.inr rfl)) (pgs_cons (pg_name (i := 4) sc_show_tree.nd rfl (by first | exact Or.inl rfl | exact Or.inr rfl)) pgs_nil)))
  (pss_cons (ps_set (i := 5) sc_show_tree.nd rfl (by first | exact Or.inl rfl | exact Or.inr rfl) (pe_callH G_deep_of hr rfl (pa_cons (pv 0) (pa_cons (pv 3) pa_nil))))
  (pss_cons (ps_if (pt_cmpR op_gt (pv 5) (pv 2) (nomark _))
  (pss_one (ps_expr (pe_bm PySem.F.plainAttrs_list PySem.F.slot_list_append PySem.F.type_list_append mt_append (pv 1) (pa_cons pe_str pa_nil))))
  (pss_one (ps_expr (pe_bm PySem.F.plainAttrs_list PySem.F.slot_list_append PySem.F.type_list_append mt_append (pv 1) (pa_cons (pe_op op_mul_str pe_str (pe_op op_sub (pv 2) (pv 5))) pa_nil)))))
  (pss_cons (ps_expr (pe_bm PySem.F.plainAttrs_list PySem.F.slot_list_append PySem.F.type_list_append mt_append (pv 1) (pa_cons (pv 4) pa_nil)))
  (pss_one (ps_set (i := 2) sc_show_tree.nd rfl (by first | exact Or.inl rfl | exact Or.inr rfl) (pv 5)))))))
  (pss_cons (ps_expr (pe_bm PySem.F.plainAttrs_list PySem.F.slot_list_append PySem.F.type_list_append mt_append (pv 1) (pa_cons (pe_op op_mul_str pe_str (pv 2)) pa_nil)))
  (pss_one (ps_ret (pe_bm PySem.F.plainAttrs_str PySem.F.slot_str_join PySem.F.type_str_join mt_join pe_str (pa_cons (pv 1) pa_nil)))))))), ?_⟩
  obtain ⟨u, ht, hu, ok⟩ := id tr
  have m60 := ok.most
  have lpos := ok.pos
  have ll := ok.len
  have c1 : ∀ c : Nat, (⟨#[c]⟩ : Str).length = 1 := fun _ => rfl
  have cl : ∀ i, i < ups.length → (chn ups i).length < 60 := fun i hi => by have := (chn_mem ok (i + 1) i (by omega) hi).1; omega
  have mo : ∀ n : Nat, n < 60 → MulOk (Str.ofString ")") (n : Int) := fun n hn => PyProof.Rows.mulOk_of 1 60 (by decide +kernel) (by omega) (by omega) (by decide) (by decide)
  have mc : ∀ n : Nat, (Txt.mul (Str.ofString ")") (n : Int)).cps.toList = List.replicate n 41 := fun n => by
    have := mul_cps (c := 41) (n := (n : Int)) (by omega)
    rw [Int.toNat_natCast] at this
    exact this
  refine ⟨(by show 0 ≤ sizeLine; decide), fun r hr0 => ?_⟩
  have s0 : Same H (upd H r (.lst [])) := (Same.refl H).new hr0
  have h0 : upd H r (.lst []) r = some (.lst []) := upd_same
  generalize upd H r (.lst []) = H0 at s0 h0
  refine ⟨_, rfl, t, _, _, _, rfl, rfl, SqT.of (s0 _ _ ht), rfl, .str lab, rfl, ⟨_, rfl⟩, ?_⟩
  have sl : (signs lab).length = ups.length := by unfold signs; rw [List.length_map]; exact ll.symm
  refine for_enum (κ := .str lab) (xs := signs lab) (fun i σ H' => ∃ (o3 o4 o5 : Option V) (ps : List Str), σ = [some (.ref t), some (.ref r), some (.int (dp ups i : Int)), o3, o4, o5] ∧ Same H H' ∧ H' r = some (.lst (ps.map V.str)) ∧ ps.length = 2 * i ∧ (∀ p ∈ ps, p.length ≤ 60) ∧ cat ps ++ rem ups lab.cps.toList i = txt ups lab.cps.toList)
    ⟨none, none, none, [], rfl, s0, h0, rfl, by simp, rem_txt ok road⟩ (fun i σ H' hi h => rfl) ?_ ?_
  · rintro i x σ H' p hx ⟨o3, o4, o5, ps, rfl, sX, hX, lX, bX, tX⟩ hp
    have hi : i < ups.length := by rw [← sl]; exact (List.getElem?_eq_some_iff.mp hx).1
    obtain rfl : x = .str ⟨#[lab.cps.toList.getD i 0]⟩ := by
      unfold signs at hx
      rw [List.getElem?_map, List.getElem?_eq_getElem (by omega)] at hx
      rw [List.getD_eq_getElem?_getD, List.getElem?_eq_getElem (by omega)]
      exact (Option.some.inj hx).symm
    have sP : Same H (upd H' p (.tup [.int (i : Int), .str ⟨#[lab.cps.toList.getD i 0]⟩])) := sX.new hp
    refine ⟨p, _, rfl, SqT.of upd_same, rfl, _, _, rfl, _, _, rfl, rfl, ?_⟩
    have hrP : upd H' p (.tup [.int (i : Int), .str ⟨#[lab.cps.toList.getD i 0]⟩]) r = some (.lst (ps.map V.str)) := by rw [upd_ne (ne_of_none hX hp)]; exact hX
    generalize upd H' p (.tup [.int (i : Int), .str ⟨#[lab.cps.toList.getD i 0]⟩]) = HP at sP hrP
    refine ⟨_, rfl, _, rfl, t, ups, lab, i, rfl, tr.same sP, hi, fun H1 s1 => ?_⟩
    have s01 := sP.trans s1
    have hr1 := s1 _ _ hrP
    have rl := rem_lt ok hi
    unfold W03.br at rl
    have dpl : dp ups i < 60 := by
      unfold dp
      split
      · decide
      · exact cl _ (by omega)
    have dpn : dp ups (i + 1) = (chn ups i).length := by unfold dp; rw [if_neg (by omega), Nat.add_sub_cancel]
    have fin : ∀ (z : Str) (H2 : Hp), z.length ≤ 60 → Same H H2 → H2 r = some (.lst ((ps ++ [z]).map V.str)) → rem ups lab.cps.toList i = z.cps.toList ++ (lab.cps.toList.getD i 0 :: rem ups lab.cps.toList (i + 1)) →
        ∃ (o3 o4 o5 : Option V) (ps' : List Str), [some (.ref t), some (.ref r), some (.int ((chn ups i).length : Int)), some (.int (i : Int)), some (.str ⟨#[lab.cps.toList.getD i 0]⟩), some (.int ((chn ups i).length : Int))] = [some (.ref t), some (.ref r), some (.int (dp ups (i + 1) : Int)), o3, o4, o5] ∧
          Same H (upd H2 r (.lst ((ps ++ [z]).map V.str ++ [.str ⟨#[lab.cps.toList.getD i 0]⟩]))) ∧ upd H2 r (.lst ((ps ++ [z]).map V.str ++ [.str ⟨#[lab.cps.toList.getD i 0]⟩])) r = some (.lst (ps'.map V.str)) ∧ ps'.length = 2 * (i + 1) ∧ (∀ p ∈ ps', p.length ≤ 60) ∧ cat ps' ++ rem ups lab.cps.toList (i + 1) = txt ups lab.cps.toList := fun z H2 zl s2 h2 er => by
      refine ⟨_, _, _, ps ++ [z] ++ [⟨#[lab.cps.toList.getD i 0]⟩], by rw [dpn], s2.write hr0, by rw [upd_same]; simp, by simp; omega, fun p hp => ?_, ?_⟩
      · rcases List.mem_append.mp hp with hp | hp
        · rcases List.mem_append.mp hp with hp | hp
          · exact bX p hp
          · rw [List.mem_singleton.mp hp]; exact zl
        · rw [List.mem_singleton.mp hp, c1]; decide
      · rw [cat_snoc, cat_snoc, ← tX, er, List.append_assoc, List.append_assoc]
        rfl
    refine ⟨_, rfl, _, rfl, _, _, rfl, rfl, _, rfl, ite2 (fun cnd => ?_) (fun cnd => ?_)⟩
    · have cnd := of_decide_eq_true cnd
      rw [if_pos (by omega)] at rl
      refine ⟨_, rfl, .inl ⟨rfl, _, SqL.of hr1⟩, r, _, _, rfl, rfl, hr1, by rw [List.length_map]; exact small1000 (by omega), ?_⟩
      have h2 : upd H1 r (.lst (ps.map V.str ++ [.str "("])) r = some (.lst ((ps ++ [Str.ofString "("]).map V.str)) := by rw [upd_same, List.map_append]; rfl
      have s2 : Same H (upd H1 r (.lst (ps.map V.str ++ [.str "("]))) := s01.write hr0
      generalize upd H1 r (.lst (ps.map V.str ++ [.str "("])) = H2 at h2 s2
      refine ⟨_, rfl, .inl ⟨rfl, _, SqL.of h2⟩, _, rfl, r, _, _, rfl, rfl, h2, by rw [List.length_map, List.length_append]; exact small1000 (by simp; omega), ?_⟩
      exact ⟨_, rfl, fin _ H2 (by decide +kernel) s2 h2 (by rw [rl]; rfl)⟩
    · have cnd := of_decide_eq_false (Bool.eq_false_iff.mpr cnd)
      have le : (chn ups i).length ≤ dp ups i := by omega
      rw [if_neg (by omega)] at rl
      have en : (dp ups i : Int) - ((chn ups i).length : Int) = ((dp ups i - (chn ups i).length : Nat) : Int) := by omega
      refine ⟨_, rfl, .inl ⟨rfl, _, SqL.of hr1⟩, _, rfl, _, rfl, _, _, rfl, rfl, _, _, rfl, rfl, by rw [en]; exact mo _ (by omega), r, _, _, rfl, rfl, hr1, by rw [List.length_map]; exact small1000 (by omega), ?_⟩
      rw [en]
      have zc := mc (dp ups i - (chn ups i).length)
      generalize Txt.mul (Str.ofString ")") ((dp ups i - (chn ups i).length : Nat) : Int) = z at zc
      have zl : z.length ≤ 60 := by rw [← cps_len, zc, List.length_replicate]; omega
      have h2 : upd H1 r (.lst (ps.map V.str ++ [.str z])) r = some (.lst ((ps ++ [z]).map V.str)) := by rw [upd_same, List.map_append]; rfl
      have s2 : Same H (upd H1 r (.lst (ps.map V.str ++ [.str z]))) := s01.write hr0
      generalize upd H1 r (.lst (ps.map V.str ++ [.str z])) = H2 at h2 s2
      refine ⟨_, rfl, .inl ⟨rfl, _, SqL.of h2⟩, _, rfl, r, _, _, rfl, rfl, h2, by rw [List.length_map, List.length_append]; exact small1000 (by simp; omega), ?_⟩
      exact ⟨_, rfl, fin z H2 zl s2 h2 (by rw [rl, zc])⟩
  · rintro σ H' ⟨o3, o4, o5, ps, rfl, sX, hX, lX, bX, tX⟩
    rw [sl] at tX lX ⊢
    have dpl : dp ups ups.length < 60 := by unfold dp; rw [if_neg (by omega)]; exact cl _ (by omega)
    refine ⟨_, rfl, .inl ⟨rfl, _, SqL.of hX⟩, _, rfl, _, _, rfl, rfl, mo _ dpl, r, _, _, rfl, rfl, hX, by rw [List.length_map]; exact small1000 (by omega), ?_⟩
    have zc := mc (dp ups ups.length)
    generalize Txt.mul (Str.ofString ")") (dp ups ups.length : Int) = z at zc
    have zl : z.length ≤ 60 := by rw [← cps_len, zc, List.length_replicate]; omega
    have h2 : upd H' r (.lst (ps.map V.str ++ [.str z])) r = some (.lst ((ps ++ [z]).map V.str)) := by rw [upd_same, List.map_append]; rfl
    have s2 : Same H (upd H' r (.lst (ps.map V.str ++ [.str z]))) := sX.write hr0
    generalize upd H' r (.lst (ps.map V.str ++ [.str z])) = H2 at h2 s2
    have bs : ∀ p ∈ ps ++ [z], p.length ≤ 60 := fun p hp => by
      rcases List.mem_append.mp hp with hp | hp
      · exact bX p hp
      · rw [List.mem_singleton.mp hp]; exact zl
    have sm := sum_le bs
    have lps : (ps ++ [z]).length = 2 * ups.length + 1 := by rw [List.length_append, lX]; rfl
    refine ⟨rfl, _, rfl, _, r, ps ++ [z], rfl, rfl, SqL.of h2, ?_, ?_⟩
    · have e0 : (Str.ofString "").length = 0 := rfl
      rw [e0, Nat.mul_zero, Nat.add_zero]
      rw [lps] at sm
      omega
    · have et : Txt.join (Str.ofString "") (ps ++ [z]) = mk (txt ups lab.cps.toList) := by
        apply str_ext
        rw [join_cps, mk_cps, ← tX]
        show cat (ps ++ [z]) = _
        rw [cat_snoc, zc]
        unfold rem dp
        rw [if_neg (by omega), if_neg (Nat.lt_irrefl _), if_neg (by omega)]
      rw [et]
      exact q H2 s2
abbrev FT (ups : List Int) (lab : List Nat) (k : Nat) : List Nat := W03.Ft ups.length (cn ups) (fun k => lab.getD k 0) k
theorem sfx_len {ups : List Int} {lab : List Nat} (t : TreeOk ups lab) : ∀ (f k : Nat), ups.length - k ≤ f → k < ups.length → (W03.Sfx ups.length (cn ups) (fun k => lab.getD k 0) k).length ≤ 61 * (ups.length - k)
  | 0, k, h, hk => by omega
  | f + 1, k, h, hk => by
    have m60 := t.most
    have d1 := (chn_mem t (k + 1) k (by omega) hk).1
    rw [W03.Sfx_eq hk, List.length_cons, cn_len, cn_len]
    by_cases h1 : k + 1 < ups.length
    · rw [if_pos h1, List.length_append]
      have := sfx_len t f (k + 1) (by omega) h1
      have hb : (W03.br (chn ups k).length (chn ups (k + 1)).length).length ≤ 60 := by
        unfold W03.br
        split
        · show 1 ≤ 60; decide
        · rw [List.length_replicate]; omega
      have e : ups.length - k = (ups.length - (k + 1)) + 1 := by omega
      rw [e, Nat.mul_succ]
      omega
    · rw [if_neg h1, List.length_replicate]
      have e : ups.length - k = 1 := by omega
      rw [e]
      omega
theorem ft_len {ups : List Int} {lab : List Nat} (t : TreeOk ups lab) (road : Road ups) {k : Nat} (hk : k < ups.length) : (FT ups lab k).length ≤ 3660 := by
  have m60 := t.most
  obtain ⟨e, _, _, _, _, b5⟩ := W03.main (l := fun k => lab.getD k 0) (pre_of t road) ups.length k (by omega) hk
  have := sfx_len (lab := lab) t ups.length k (by omega) hk
  rw [b5, List.length_append] at this
  have : 61 * (ups.length - k) ≤ 61 * 60 := Nat.mul_le_mul_left _ (by omega)
  show (W03.Ft ups.length (cn ups) (fun k => lab.getD k 0) k).length ≤ 3660
  omega
end
end S06


set_option Elab.async false
set_option linter.all false
set_option maxRecDepth 100000
set_option maxHeartbeats 8000000
namespace S06
open PySem L2 W7
/-! ### the class Scan -/
theorem putF_putF (f : Str) (v w : V) : ∀ fs : List (Str × V), putF f v (putF f w fs) = putF f v fs
  | [] => by
    show (if f = f then [(f, v)] else (f, w) :: putF f v []) = [(f, v)]
    rw [if_pos rfl]
  | (g, x) :: r => by
    by_cases h : g = f
    · show putF f v (if g = f then (g, w) :: r else (g, x) :: putF f w r) = if g = f then (g, v) :: r else (g, x) :: putF f v r
      rw [if_pos h, if_pos h]
      show (if g = f then (g, v) :: r else (g, w) :: putF f v r) = _
      rw [if_pos h]
    · show putF f v (if g = f then (g, w) :: r else (g, x) :: putF f w r) = if g = f then (g, v) :: r else (g, x) :: putF f v r
      rw [if_neg h, if_neg h]
      show (if g = f then (g, v) :: putF f w r else (g, x) :: putF f v (putF f w r)) = _
      rw [if_neg h, putF_putF f v w r]
theorem putF_len (f : Str) (v : V) : ∀ fs : List (Str × V), (putF f v fs).length ≤ fs.length + 1
  | [] => Nat.le_refl _
  | (g, x) :: r => by
    show (if g = f then (g, v) :: r else (g, x) :: putF f v r).length ≤ _
    split
    · simp
    · rw [List.length_cons, List.length_cons]
      have := putF_len f v r
      omega
def flds (u l n : Addr) (z : Str) : List (Str × V) := putF "last" (.str z) (putF "within" (.ref n) (putF "letters" (.ref l) (putF "ups" (.ref u) [])))
theorem n1 : ¬ (("ups" : Str) = "last") := by decide +kernel
theorem n2 : ¬ (("ups" : Str) = "within") := by decide +kernel
theorem n3 : ¬ (("ups" : Str) = "letters") := by decide +kernel
theorem n4 : ¬ (("letters" : Str) = "last") := by decide +kernel
theorem n5 : ¬ (("letters" : Str) = "within") := by decide +kernel
theorem n6 : ¬ (("within" : Str) = "last") := by decide +kernel
section
variable {u l n : Addr} {z : Str}
theorem f_ups : (flds u l n z).lookup ("ups" : Str) = some (.ref u) := by
  unfold flds
  rw [lookup_putF, if_neg n1, lookup_putF, if_neg n2, lookup_putF, if_neg n3, lookup_putF, if_pos rfl]
theorem f_let : (flds u l n z).lookup ("letters" : Str) = some (.ref l) := by
  unfold flds
  rw [lookup_putF, if_neg n4, lookup_putF, if_neg n5, lookup_putF, if_pos rfl]
theorem f_wn : (flds u l n z).lookup ("within" : Str) = some (.ref n) := by
  unfold flds
  rw [lookup_putF, if_neg n6, lookup_putF, if_pos rfl]
theorem f_la : (flds u l n z).lookup ("last" : Str) = some (.str z) := by
  unfold flds
  rw [lookup_putF, if_pos rfl]
theorem f_no {m : Str} (h1 : ¬ m = "last") (h2 : ¬ m = "within") (h3 : ¬ m = "letters") (h4 : ¬ m = "ups") : (flds u l n z).lookup m = none := by
  unfold flds
  rw [lookup_putF, if_neg h1, lookup_putF, if_neg h2, lookup_putF, if_neg h3, lookup_putF, if_neg h4]
  all_goals rfl
theorem f_put {y : Str} : putF "last" (.str y) (flds u l n z) = flds u l n y := by unfold flds; rw [putF_putF]
theorem f_len : (flds u l n z).length < 1000 := by
  unfold flds
  have h1 := putF_len "ups" (.ref u) []
  have h2 := putF_len "letters" (.ref l) (putF "ups" (.ref u) [])
  have h3 := putF_len "within" (.ref n) (putF "letters" (.ref l) (putF "ups" (.ref u) []))
  have h4 := putF_len "last" (.str z) (putF "within" (.ref n) (putF "letters" (.ref l) (putF "ups" (.ref u) [])))
  rw [List.length_nil] at h1
  omega
end
structure Tx (K : PySem.W.Frag) (mg : Str → Option Value) (C : Addr) : Prop where
  cl : Cls K C
  nU : NoAttr K C "ups"
  nL : NoAttr K C "letters"
  nW : NoAttr K C "within"
  nA : NoAttr K C "last"
  mgC : mg "Scan" = some (.ref C)
structure ScAt (C : Addr) (H : Hp) (p dx u l n : Addr) (s : Sc) : Prop where
  ob : H p = some (.ins C dx (flds u l n (mk s.la)))
  hu : H u = some (.lst (s.us.map V.int))
  hl : H l = some (.lst (s.ls.map fun c => V.str ⟨#[c]⟩))
  hn : H n = some (.lst (s.wn.map V.int))
  ul : u ≠ l
  un : u ≠ n
  ln : l ≠ n
theorem ScAt.same {C : Addr} {H H' : Hp} {p dx u l n : Addr} {s : Sc} (h : ScAt C H p dx u l n s) (k : Same H H') : ScAt C H' p dx u l n s := ⟨k _ _ h.ob, k _ _ h.hu, k _ _ h.hl, k _ _ h.hn, h.ul, h.un, h.ln⟩
def sp_init (C : Addr) : Sp := fun vs H Q _ => ∃ (p dx : Addr), vs = [.ref p] ∧ H p = some (.ins C dx []) ∧ ∀ (u l n : Addr) (H' : Hp), H u = none → H l = none → H n = none → ScAt C H' p dx u l n ⟨[], [], [], []⟩ → (∀ b o, H b = some o → b ≠ p → H' b = some o) → Q .non H'
def sp_can (C : Addr) : Sp := fun vs H Q _ => ∃ (p dx u l n : Addr) (s : Sc) (x : Nat), vs = [.ref p, .str ⟨#[x]⟩] ∧ ScAt C H p dx u l n s ∧ Can s x ∧ ∀ H', Same H H' → Q (.bl true) H'
def sp_tk (C : Addr) : Sp := fun vs H Q _ => ∃ (p dx u l n : Addr) (s : Sc) (x : Nat), vs = [.ref p, .str ⟨#[x]⟩] ∧ ScAt C H p dx u l n s ∧ Can s x ∧ s.us.length < 9000 ∧ s.ls.length < 9000 ∧ s.wn.length < 9000 ∧
  ∀ H', ScAt C H' p dx u l n (tk s x) → (∀ b o, H b = some o → b ≠ p → b ≠ u → b ≠ l → b ≠ n → H' b = some o) → Q .non H'
def sp_done (C : Addr) : Sp := fun vs H Q _ => ∃ (p dx u l n : Addr) (s : Sc), vs = [.ref p] ∧ ScAt C H p dx u l n s ∧ s.wn = [] ∧ s.la ≠ [] ∧ ∀ H', Same H H' → Q (.bl true) H'
theorem iteB {c : Bool} {A B : Prop} (h : c = true) (q : A) : if c = true then A else B := by rw [if_pos h]; exact q
theorem iteN {c : Bool} {A B : Prop} (h : c = false) (q : B) : if c = true then A else B := by rw [h]; exact iteF q
theorem bq {Q : VK} {b : Bool} {H : Hp} (h : b = true) (q : Q (.bl true) H) : Q (.bl b) H := by rw [h]; exact q
theorem mk_inj {a b : List Nat} (h : mk a = mk b) : a = b := by
  have := congrArg (fun z : Str => z.cps.toList) h
  exact this
theorem e40 : (Str.ofString "(") = mk [40] := rfl
theorem e0 : (Str.ofString "") = mk [] := rfl
theorem deq {a b : List Nat} (h : a = b) : decide (V.str (mk a) = V.str (mk b)) = true := by rw [h]; exact decide_eq_true rfl
theorem dne {a b : List Nat} (h : a ≠ b) : decide (V.str (mk a) = V.str (mk b)) = false := decide_eq_false fun e => h (mk_inj (by injection e))
theorem in_letters {c : Nat} (h : Lw c) : (!(Builtin.Str.occurrences (Str.ofString "abcdefghijklmnopqrstuvwxyz") (mk [c]) 0 (Str.ofString "abcdefghijklmnopqrstuvwxyz").length 1).isEmpty) = true := by
  have all : ∀ c : Nat, c < 123 → 97 ≤ c → (!(Builtin.Str.occurrences (Str.ofString "abcdefghijklmnopqrstuvwxyz") (mk [c]) 0 (Str.ofString "abcdefghijklmnopqrstuvwxyz").length 1).isEmpty) = true := by decide +kernel
  unfold Lw at h
  exact all c (by omega) (by omega)
theorem ne_nil {ns : List Int} (h : ns ≠ []) : (!eqVs (ns.map V.int) []) = true := by
  have := eqVs_ints ns []
  rw [List.map_nil] at this
  rw [this, decide_eq_false h]; rfl
section
variable {P : Program} {w : World} {K : PySem.W.Frag} {mg : Str → Option Value} {base : Heap} {k : Nat} {C f : Addr} {fd : FuncData}
theorem ok_init (F : Fun K "__init__" "Scan.__init__" s_Scan___init__ f fd) (T : Tx K mg C) : FnOk P w K mg base CX0 (k + 1) f fd ["self"] (sp_init C) := by
  refine F.ok sc_Scan___init__ (fun vs H Q E h => by obtain ⟨p, dx, rfl, _⟩ := h; rfl) (fun cdv A outer s H vs Q E hr h => ?_)
  obtain ⟨p, dx, rfl, hp, q⟩ := h
  refine ⟨_, (pss_cons (ps_fld (pv 0) (pe_lst pa_nil) rfl)
  (pss_cons (ps_fld (pv 0) (pe_lst pa_nil) rfl)
  (pss_cons (ps_fld (pv 0) (pe_lst pa_nil) rfl)
  (pss_one (ps_fld (pv 0) pe_str rfl))))), ?_⟩
  refine ⟨(by show 0 ≤ sizeLine; decide), fun u hu => ?_⟩
  have pu : p ≠ u := ne_of_none hp hu
  refine ⟨_, rfl, p, C, dx, [], rfl, (by rw [upd_ne pu]; exact hp), T.cl, T.nU, (by show 0 < 1000; decide), ?_⟩
  refine ⟨(by show 0 ≤ sizeLine; decide), fun l hl => ?_⟩
  have pl : p ≠ l := ne_of_none upd_same hl
  have ul : u ≠ l := ne_of_none (by rw [upd_ne pu.symm, upd_same]) hl
  refine ⟨_, rfl, p, C, dx, _, rfl, (by rw [upd_ne pl, upd_same]), T.cl, T.nL, Nat.lt_of_le_of_lt (putF_len _ _ _) (by show 1 < 1000; decide), ?_⟩
  refine ⟨(by show 0 ≤ sizeLine; decide), fun n hn => ?_⟩
  have pn : p ≠ n := ne_of_none upd_same hn
  have ln : l ≠ n := ne_of_none (by rw [upd_ne pl.symm, upd_same]) hn
  have un : u ≠ n := ne_of_none (by rw [upd_ne pu.symm, upd_ne ul, upd_ne pu.symm, upd_same]) hn
  have l1 := putF_len "ups" (.ref u) []
  have l2 := putF_len "letters" (.ref l) (putF "ups" (.ref u) [])
  have l3 := putF_len "within" (.ref n) (putF "letters" (.ref l) (putF "ups" (.ref u) []))
  rw [List.length_nil] at l1
  refine ⟨_, rfl, p, C, dx, _, rfl, (by rw [upd_ne pn, upd_same]), T.cl, T.nW, by omega, ?_⟩
  refine ⟨_, rfl, p, C, dx, _, rfl, upd_same, T.cl, T.nA, by omega, ?_⟩
  have fl : H l = none := by rw [upd_ne pl.symm, upd_ne ul.symm] at hl; exact hl
  have fn : H n = none := by rw [upd_ne pn.symm, upd_ne ln.symm, upd_ne pn.symm, upd_ne un.symm] at hn; exact hn
  refine q u l n _ hu fl fn ⟨upd_same, ?_, ?_, ?_, ul, un, ln⟩ fun b o e hb => ?_
  · rw [upd_ne pu.symm, upd_ne pu.symm, upd_ne un, upd_ne pu.symm, upd_ne ul, upd_ne pu.symm, upd_same]; rfl
  · rw [upd_ne pl.symm, upd_ne pl.symm, upd_ne ln, upd_ne pl.symm, upd_same]; rfl
  · rw [upd_ne pn.symm, upd_ne pn.symm, upd_same]; rfl
  · rw [upd_ne hb, upd_ne hb, upd_ne (ne_of_none e fn), upd_ne hb, upd_ne (ne_of_none e fl), upd_ne hb, upd_ne (ne_of_none e hu)]; exact e
theorem ok_can (F : Fun K "can_take" "Scan.can_take" s_Scan_can_take f fd) (T : Tx K mg C) (B : Blt7 mg) : FnOk P w K mg base CX0 (k + 1) f fd ["self", "sign"] (sp_can C) := by
  refine F.ok sc_Scan_can_take (fun vs H Q E h => by obtain ⟨p, dx, u, l, n, s, x, rfl, _⟩ := h; rfl) (fun cdv A outer s H vs Q E hr h => ?_)
  obtain ⟨p, dx, u, l, n, sc, x, rfl, S, can, q⟩ := h
  obtain ⟨u1, h_MOST_PLACES, r_MOST_PLACES⟩ := B.most
  obtain ⟨u2, h_LETTERS, r_LETTERS⟩ := B.letters
  refine ⟨_, (pss_cons (ps_if (pt_cmpR op_eq (pv 1) pe_str (nomark _))
  (pss_one (ps_ret (pe_and (pe_cmpR (op_ne_lst hr.units0) (pe_fld (pv 0) rfl) (pe_lst pa_nil) (nomark _)) (pe_one (pe_cmpR op_ne (pe_fld (pv 0) rfl) pe_str (nomark _))))))
  pss_nil)
  (pss_cons (ps_if (pt_cmpR op_eq (pe_callB call_len_seq rfl B.len bt_len (pa_cons (pe_fld (pv 0) rfl) pa_nil)) (pe_glob (v := .int 60) rfl h_MOST_PLACES r_MOST_PLACES) (nomark _))
  (pss_one (ps_ret pe_bl))
  pss_nil)
  (pss_cons (ps_if (pt_cmpR op_eq (pv 1) pe_str (nomark _))
  (pss_one (ps_ret (pe_and (pe_cmpR op_in_str (pe_fld (pv 0) rfl) (pe_glob (v := .str "abcdefghijklmnopqrstuvwxyz") rfl h_LETTERS r_LETTERS) (by with_unfolding_all rfl)) (pe_one (pe_cmpR op_ne (pe_fld (pv 0) rfl) pe_str (nomark _))))))
  pss_nil)
  (pss_one (ps_ret (pe_and (pe_cmpR op_in_str (pv 1) (pe_glob (v := .str "abcdefghijklmnopqrstuvwxyz") rfl h_LETTERS r_LETTERS) (by with_unfolding_all rfl)) (pe_one (pe_or (pe_cmpR op_eq (pe_fld (pv 0) rfl) pe_str (nomark _)) (pe_one (pe_cmpR (op_ne_lst hr.units0) (pe_fld (pv 0) rfl) (pe_lst pa_nil) (nomark _))))))))))), ?_⟩
  have fin : Same H H := Same.refl H
  refine ⟨_, rfl, rfl, _, rfl, ?_⟩
  rcases can with ⟨rfl, wn, la⟩ | ⟨rfl, l60, c, lw, la⟩ | ⟨lw, l60, or⟩
  · refine iteB (deq (a := [41]) rfl) ?_
    refine ⟨_, rfl, p, C, dx, _, _, rfl, S.ob, T.cl, T.nW, f_wn, (by show 0 ≤ sizeLine; decide), fun e he => ?_⟩
    have s1 : Same H (upd H e (.lst [])) := fin.new he
    refine ⟨n, e, _, [], rfl, rfl, SqL.of (s1 _ _ S.hn), SqL.of upd_same, flat_ints _, rfl, _, rfl, iteB (ne_nil wn) ?_⟩
    refine ⟨_, rfl, p, C, dx, _, _, rfl, s1 _ _ S.ob, T.cl, T.nA, f_la, rfl, ?_⟩
    refine bq ?_ (q _ s1)
    rw [e40, dne la]; rfl
  · refine iteN (dne (a := [40]) (b := [41]) (by decide)) ?_
    refine ⟨_, rfl, p, C, dx, _, _, rfl, S.ob, T.cl, T.nL, f_let, l, _, rfl, .inl (SqL.of S.hl), rfl, _, rfl, ?_⟩
    rw [List.length_map]
    refine iteN (decide_eq_false fun e => by injection e with e; omega) ?_
    refine ⟨_, rfl, rfl, _, rfl, iteB (deq (a := [40]) rfl) ?_⟩
    refine ⟨_, rfl, p, C, dx, _, _, rfl, S.ob, T.cl, T.nA, f_la, _, _, rfl, rfl, _, rfl, ?_⟩
    rw [la]
    refine iteB (in_letters lw) ?_
    refine ⟨_, rfl, p, C, dx, _, _, rfl, S.ob, T.cl, T.nA, f_la, rfl, ?_⟩
    refine bq ?_ (q _ fin)
    rw [la, e0, dne (by simp)]; rfl
  · have x40 : [x] ≠ [40] := fun e => by injection e with e; unfold Lw at lw; omega
    have x41 : [x] ≠ [41] := fun e => by injection e with e; unfold Lw at lw; omega
    refine iteN (dne (a := [x]) (b := [41]) x41) ?_
    refine ⟨_, rfl, p, C, dx, _, _, rfl, S.ob, T.cl, T.nL, f_let, l, _, rfl, .inl (SqL.of S.hl), rfl, _, rfl, ?_⟩
    rw [List.length_map]
    refine iteN (decide_eq_false fun e => by injection e with e; omega) ?_
    refine ⟨_, rfl, rfl, _, rfl, iteN (dne (a := [x]) (b := [40]) x40) ?_⟩
    refine ⟨_, rfl, _, _, rfl, rfl, _, rfl, iteB (in_letters lw) ?_⟩
    refine ⟨_, rfl, p, C, dx, _, _, rfl, S.ob, T.cl, T.nA, f_la, rfl, _, rfl, ?_⟩
    rw [e0]
    by_cases l0 : sc.la = []
    · refine iteB (deq l0) (q _ fin)
    · refine iteN (dne l0) ?_
      have wn := or.resolve_left l0
      exact ⟨_, rfl, p, C, dx, _, _, rfl, S.ob, T.cl, T.nW, f_wn, (by show 0 ≤ sizeLine; decide), fun e he => ⟨n, e, _, [], rfl, rfl, SqL.of ((fin.new he) _ _ S.hn), SqL.of upd_same, flat_ints _, rfl, bq (ne_nil wn) (q _ (fin.new he))⟩⟩
theorem ok_done (F : Fun K "is_done" "Scan.is_done" s_Scan_is_done f fd) (T : Tx K mg C) : FnOk P w K mg base CX0 (k + 1) f fd ["self"] (sp_done C) := by
  refine F.ok sc_Scan_is_done (fun vs H Q E h => by obtain ⟨p, dx, u, l, n, s, rfl, _⟩ := h; rfl) (fun cdv A outer s H vs Q E hr h => ?_)
  obtain ⟨p, dx, u, l, n, sc, rfl, S, wn, la, q⟩ := h
  refine ⟨_, (pss_one (ps_ret (pe_and (pe_cmpR (op_eq_lst hr.units0) (pe_fld (pv 0) rfl) (pe_lst pa_nil) (nomark _)) (pe_one (pe_cmpR op_ne (pe_fld (pv 0) rfl) pe_str (nomark _)))))), ?_⟩
  refine ⟨_, rfl, p, C, dx, _, _, rfl, S.ob, T.cl, T.nW, f_wn, (by show 0 ≤ sizeLine; decide), fun e he => ?_⟩
  have s1 : Same H (upd H e (.lst [])) := (Same.refl H).new he
  refine ⟨n, e, _, [], rfl, rfl, SqL.of (s1 _ _ S.hn), SqL.of upd_same, flat_ints _, rfl, _, rfl, ?_⟩
  rw [wn]
  refine iteT ?_
  refine ⟨_, rfl, p, C, dx, _, _, rfl, s1 _ _ S.ob, T.cl, T.nA, f_la, rfl, ?_⟩
  refine bq ?_ (q _ s1)
  rw [e0, dne la]; rfl
theorem ok_take (F : Fun K "take" "Scan.take" s_Scan_take f fd) (T : Tx K mg C) (B : Blt7 mg) : FnOk P w K mg base CX0 (k + 1) f fd ["self", "sign"] (sp_tk C) := by
  refine F.ok sc_Scan_take (fun vs H Q E h => by obtain ⟨p, dx, u, l, n, s, x, rfl, _⟩ := h; rfl) (fun cdv A outer s H vs Q E hr h => ?_)
  obtain ⟨p, dx, u, l, n, sc, x, rfl, S, can, lu, ll, lw, q⟩ := h
  refine ⟨_, (pss_cons (ps_if (pt_cmpR op_eq (pv 1) pe_str (nomark _))
  (pss_one (ps_expr (pe_bm PySem.F.plainAttrs_list PySem.F.slot_list_append PySem.F.type_list_append mt_append (pe_fld (pv 0) rfl) (pa_cons (pe_op op_sub (pe_callB call_len_seq rfl B.len bt_len (pa_cons (pe_fld (pv 0) rfl) pa_nil)) pe_int) pa_nil))))
  (pss_one (ps_if (pt_cmpR op_eq (pv 1) pe_str (nomark _))
  (pss_one (ps_expr (pe_bm0 PySem.F.plainAttrs_list PySem.F.slot_list_pop PySem.F.type_list_pop mt_pop (pe_fld (pv 0) rfl))))
  (pss_cons (ps_expr (pe_bm PySem.F.plainAttrs_list PySem.F.slot_list_append PySem.F.type_list_append mt_append (pe_fld (pv 0) rfl) (pa_cons (pe_ifExp (pt_truth (pe_fld (pv 0) rfl) (fun _ => rfl)) (pe_ix ix_list (pe_fld (pv 0) rfl) (pe_un un_neg pe_int) (fun _ _ => rfl)) (pe_un un_neg pe_int)) pa_nil)))
  (pss_one (ps_expr (pe_bm PySem.F.plainAttrs_list PySem.F.slot_list_append PySem.F.type_list_append mt_append (pe_fld (pv 0) rfl) (pa_cons (pv 1) pa_nil))))))))
  (pss_one (ps_fld (pv 0) (pv 1) rfl))), ?_⟩
  have pu : p ≠ u := ne_of S.ob S.hu (by intro z; cases z)
  have pl : p ≠ l := ne_of S.ob S.hl (by intro z; cases z)
  have pn : p ≠ n := ne_of S.ob S.hn (by intro z; cases z)
  have ul := S.ul
  have un := S.un
  have ln := S.ln
  refine ⟨_, rfl, rfl, _, rfl, ?_⟩
  have last : ∀ (us : List Int) (ls : List Nat) (wn : List Int) (H1 : Hp), H1 p = some (.ins C dx (flds u l n (mk sc.la))) → H1 u = some (.lst (us.map V.int)) → H1 l = some (.lst (ls.map fun c => V.str ⟨#[c]⟩)) → H1 n = some (.lst (wn.map V.int)) →
      tk sc x = ⟨us, ls, wn, [x]⟩ → (∀ b o, H b = some o → b ≠ p → b ≠ u → b ≠ l → b ≠ n → H1 b = some o) → Q .non (upd H1 p (.ins C dx (putF "last" (.str ⟨#[x]⟩) (flds u l n (mk sc.la))))) := fun us ls wn H1 h1 h2 h3 h4 e kp => by
    rw [f_put]
    refine q _ ?_ fun b o z b1 b2 b3 b4 => by rw [upd_ne b1]; exact kp b o z b1 b2 b3 b4
    rw [e]
    exact ⟨upd_same, by rw [upd_ne pu.symm]; exact h2, by rw [upd_ne pl.symm]; exact h3, by rw [upd_ne pn.symm]; exact h4, ul, un, ln⟩
  by_cases x40 : x = 40
  · refine iteB (by rw [x40]; exact deq (a := [40]) rfl) ?_
    refine ⟨_, rfl, p, C, dx, _, _, rfl, S.ob, T.cl, T.nW, f_wn, .inl ⟨rfl, _, SqL.of S.hn⟩, _, rfl, p, C, dx, _, _, rfl, S.ob, T.cl, T.nL, f_let, l, _, rfl, .inl (SqL.of S.hl), _, _, rfl, rfl, n, _, _, rfl, rfl, S.hn, by rw [List.length_map]; exact small10000 (by omega), ?_⟩
    refine ⟨_, rfl, _, rfl, p, C, dx, _, rfl, (by rw [upd_ne pn]; exact S.ob), T.cl, T.nA, f_len, ?_⟩
    refine last sc.us sc.ls (sc.wn ++ [(sc.ls.length : Int) - 1]) _ (by rw [upd_ne pn]; exact S.ob) (by rw [upd_ne un]; exact S.hu) (by rw [upd_ne ln]; exact S.hl) (by rw [upd_same, List.length_map, List.map_append]; rfl) (by unfold tk; rw [if_pos x40]) fun b o z _ _ _ b4 => by rw [upd_ne b4]; exact z
  · refine iteN (dne (a := [x]) (b := [40]) (fun e => x40 (by injection e))) ?_
    refine ⟨_, rfl, rfl, _, rfl, ?_⟩
    by_cases x41 : x = 41
    · refine iteB (by rw [x41]; exact deq (a := [41]) rfl) ?_
      have wn : sc.wn ≠ [] := by
        rcases can with ⟨_, h, _⟩ | ⟨h, _⟩ | ⟨h, _⟩
        · exact h
        · omega
        · unfold Lw at h; omega
      have pos : 0 < sc.wn.length := List.length_pos_iff.mpr wn
      refine ⟨_, rfl, p, C, dx, _, _, rfl, S.ob, T.cl, T.nW, f_wn, .inl ⟨rfl, _, SqL.of S.hn⟩, n, _, _, rfl, rfl, S.hn, (List.getElem?_eq_getElem (by rw [List.length_map]; omega)), ?_⟩
      refine ⟨_, rfl, _, rfl, p, C, dx, _, rfl, (by rw [upd_ne pn]; exact S.ob), T.cl, T.nA, f_len, ?_⟩
      refine last sc.us sc.ls sc.wn.dropLast _ (by rw [upd_ne pn]; exact S.ob) (by rw [upd_ne un]; exact S.hu) (by rw [upd_ne ln]; exact S.hl) (by rw [upd_same, List.map_dropLast]) (by unfold tk; rw [if_neg x40, if_pos x41]) fun b o z _ _ _ b4 => by rw [upd_ne b4]; exact z
    · refine iteN (dne (a := [x]) (b := [41]) (fun e => x41 (by injection e))) ?_
      refine ⟨_, rfl, p, C, dx, _, _, rfl, S.ob, T.cl, T.nU, f_ups, .inl ⟨rfl, _, SqL.of S.hu⟩, _, rfl, p, C, dx, _, _, rfl, S.ob, T.cl, T.nW, f_wn, _, .inl ⟨_, SqL.of S.hn, rfl⟩, ?_⟩
      have nu : n ≠ u := fun e => un e.symm
      have ob1 : ∀ o, upd H u o p = some (.ins C dx (flds u l n (mk sc.la))) := fun o => by rw [upd_ne pu]; exact S.ob
      have hl1 : ∀ o, upd H u o l = some (.lst (sc.ls.map fun c => V.str ⟨#[c]⟩)) := fun o => by rw [upd_ne ul.symm]; exact S.hl
      refine ite2 (fun c => ?_) (fun c => ?_)
      · have wn : sc.wn ≠ [] := fun e => by rw [e] at c; cases c
        obtain ⟨ws, y, ew⟩ : ∃ ws y, sc.wn = ws ++ [y] := ⟨sc.wn.dropLast, sc.wn.getLast wn, (List.dropLast_concat_getLast wn).symm⟩
        have hat : atI (sc.wn.map V.int) (-1) = some (V.int y) := by rw [ew, List.map_append]; exact atI_last _ _
        refine ⟨_, rfl, p, C, dx, _, _, rfl, S.ob, T.cl, T.nW, f_wn, _, rfl, n, _, _, _, rfl, rfl, SqL.of S.hn, hat, ?_⟩
        have eg : sc.wn.getLastD (-1) = y := by rw [ew]; simp
        refine ⟨u, _, _, rfl, rfl, S.hu, by rw [List.length_map]; exact small10000 (by omega), ?_⟩
        refine ⟨_, rfl, p, C, dx, _, _, rfl, ob1 _, T.cl, T.nL, f_let, .inl ⟨rfl, _, SqL.of (hl1 _)⟩, _, rfl, l, _, _, rfl, rfl, hl1 _, by rw [List.length_map]; exact small10000 (by omega), ?_⟩
        refine ⟨_, rfl, _, rfl, p, C, dx, _, rfl, (by rw [upd_ne pl]; exact ob1 _), T.cl, T.nA, f_len, ?_⟩
        refine last (sc.us ++ [y]) (sc.ls ++ [x]) sc.wn _ (by rw [upd_ne pl]; exact ob1 _) (by rw [upd_ne ul, upd_same, List.map_append]; rfl) (by rw [upd_same, List.map_append]; rfl) (by rw [upd_ne ln.symm, upd_ne un.symm]; exact S.hn) (by unfold tk; rw [if_neg x40, if_neg x41, eg]) fun b o z _ b2 b3 _ => by rw [upd_ne b3, upd_ne b2]; exact z
      · have wn : sc.wn = [] := by
          cases e : sc.wn with
          | nil => rfl
          | cons a b => exact absurd (by rw [e]; rfl) c
        have eg : sc.wn.getLastD (-1) = (-1) := by rw [wn]; rfl
        refine ⟨_, rfl, u, _, _, rfl, rfl, S.hu, by rw [List.length_map]; exact small10000 (by omega), ?_⟩
        refine ⟨_, rfl, p, C, dx, _, _, rfl, ob1 _, T.cl, T.nL, f_let, .inl ⟨rfl, _, SqL.of (hl1 _)⟩, _, rfl, l, _, _, rfl, rfl, hl1 _, by rw [List.length_map]; exact small10000 (by omega), ?_⟩
        refine ⟨_, rfl, _, rfl, p, C, dx, _, rfl, (by rw [upd_ne pl]; exact ob1 _), T.cl, T.nA, f_len, ?_⟩
        refine last (sc.us ++ [(-1)]) (sc.ls ++ [x]) sc.wn _ (by rw [upd_ne pl]; exact ob1 _) (by rw [upd_ne ul, upd_same, List.map_append]; rfl) (by rw [upd_same, List.map_append]; rfl) (by rw [upd_ne ln.symm, upd_ne un.symm]; exact S.hn) (by unfold tk; rw [if_neg x40, if_neg x41, eg]) fun b o z _ b2 b3 _ => by rw [upd_ne b3, upd_ne b2]; exact z
end
end S06


set_option Elab.async false
set_option linter.all false
set_option maxRecDepth 100000
set_option maxHeartbeats 8000000
namespace S06
open PySem L2 W7
theorem ups_small {ups : List Int} {lab : List Nat} (t : TreeOk ups lab) : ∀ n ∈ ups, n.natAbs < 10 ^ 12 := fun n hn => by
  have e12 : (10 : Nat) ^ 12 = 1000000000000 := by decide
  rw [e12]
  obtain ⟨i, hi, e⟩ := List.getElem_of_mem hn
  have eg : ups.getD i 0 = n := by rw [List.getD_eq_getElem?_getD, List.getElem?_eq_getElem hi]; exact e
  have m := t.most
  rcases Nat.eq_zero_or_pos i with z | z
  · rw [z, t.root] at eg; omega
  · have := t.up i z hi; omega
theorem flat_one : ∀ l : List Nat, (l.map fun c : Nat => (⟨#[c]⟩ : Str).cps.toList).flatten = l
  | [] => rfl
  | c :: l => by rw [List.map_cons, List.flatten_cons, flat_one l]; rfl
section
variable {P : Program} {w : World} {K : PySem.W.Frag} {mg : Str → Option Value} {base : Heap} {k : Nat}
/-- the class as the top has made it -/
def Made (K : PySem.W.Frag) (mg : Str → Option Value) : Prop := ∃ (C fI fC fT fD : Addr) (dI dC dT dD : FuncData), Tx K mg C ∧ Mk K C fI ∧ Fun K "__init__" "Scan.__init__" s_Scan___init__ fI dI ∧
  Meth K C "can_take" fC ∧ Fun K "can_take" "Scan.can_take" s_Scan_can_take fC dC ∧ Meth K C "take" fT ∧ Fun K "take" "Scan.take" s_Scan_take fT dT ∧ Meth K C "is_done" fD ∧ Fun K "is_done" "Scan.is_done" s_Scan_is_done fD dD
/-! ### read_tree -/
def sp_read : Sp := fun vs H Q _ => ∃ (ups : List Int) (lab : Str), vs = [.str (mk (txt ups lab.cps.toList))] ∧ TreeOk ups lab.cps.toList ∧ Road ups ∧ (∀ c ∈ lab.cps.toList, Lw c) ∧ ∀ (t : Addr) (H' : Hp), Same H H' → TreeAt H' t ups lab → Q (.ref t) H'
theorem has_read (D : Df K mg "read_tree" s_read_tree) (B : Blt7 mg) (M : Made K mg) : Has P w K mg base "read_tree" (k + 1 + 1 + 1) ["text"] sp_read := by
  obtain ⟨C, fI, fC, fT, fD, dI, dC, dT, dD, T, Mk_Scan, F_I, m_Scan_can_take, F_C, m_Scan_take, F_T, m_Scan_is_done, F_D⟩ := M
  have G_Scan___init__ : FnOk P w K mg base CX0 (k + 1) fI dI ["self"] (sp_init C) := ok_init F_I T
  have G_Scan_can_take : FnOk P w K mg base CX0 (k + 1 + 1) fC dC ["self", "sign"] (sp_can C) := ok_can F_C T B
  have G_Scan_take : FnOk P w K mg base CX0 (k + 1 + 1) fT dT ["self", "sign"] (sp_tk C) := ok_take F_T T B
  have G_Scan_is_done : FnOk P w K mg base CX0 (k + 1 + 1) fD dD ["self"] (sp_done C) := ok_done F_D T
  have b_Scan___init__ := F_I.binds (ps := ["self"]) (fun _ _ _ _ _ _ us hl => match us, hl with | [_], _ => rfl)
  have b_Scan_can_take := F_C.binds (ps := ["self", "sign"]) (fun _ _ _ _ _ _ us hl => match us, hl with | [_, _], _ => rfl)
  have b_Scan_take := F_T.binds (ps := ["self", "sign"]) (fun _ _ _ _ _ _ us hl => match us, hl with | [_, _], _ => rfl)
  have b_Scan_is_done := F_D.binds (ps := ["self"]) (fun _ _ _ _ _ _ us hl => match us, hl with | [_], _ => rfl)
  refine D.has sc_read_tree (fun _ _ _ _ _ _ us hl => match us, hl with | [_], _ => rfl) (fun vs H Q E h => by obtain ⟨ups, lab, rfl, _⟩ := h; rfl) (fun f cdv A outer s H vs Q E hr h => ?_)
  obtain ⟨ups, lab, rfl, ok, road, low, q⟩ := h
  refine ⟨_, (pss_cons (ps_if (pt_not (pt_val (pe_callB call_isinst rfl B.isinstance bt_isinstance (pa_cons (pv 0) (pa_cons (pe_bltn (v := .ty "str") rfl B.str_ bt_str rfl) pa_nil)))))
  (pss_one ps_raise0)
  pss_nil)
  (pss_cons (ps_set (i := 1) sc_read_tree.nd rfl (by first | exact Or.inl rfl | exact Or.inr rfl) (pe_make0 Mk_Scan G_Scan___init__ hr rfl T.mgC b_Scan___init__ .nil pass0))
  (pss_cons (ps_for PassesOwn.never rfl (pi_enum rfl B.enumerate (pa_cons (pv 0) pa_nil)) (pg_tup rfl (pgs_cons (pg_name (i := 2) sc_read_tree.nd rfl (by first | exact Or.inl rfl | exact Or.inr rfl)) (pgs_cons (pg_name (i := 3) sc_read_tree.nd rfl (by first | exact Or.inl rfl | exact Or.inr rfl)) pgs_nil)))
  (pss_cons (ps_if (pt_not (pt_truth (pe_meth (pv 1) T.cl m_Scan_can_take G_Scan_can_take hr b_Scan_can_take .nil pass0 (pa_cons (pv 3) pa_nil)) (fun _ => rfl)))
  (pss_one ps_raise0)
  pss_nil)
  (pss_one (ps_expr (pe_meth (pv 1) T.cl m_Scan_take G_Scan_take hr b_Scan_take .nil pass0 (pa_cons (pv 3) pa_nil))))))
  (pss_cons (ps_if (pt_not (pt_truth (pe_meth0 (pv 1) T.cl m_Scan_is_done G_Scan_is_done hr b_Scan_is_done .nil pass0) (fun _ => rfl)))
  (pss_one ps_raise0)
  pss_nil)
  (pss_one (ps_ret (pe_tup (pa_cons (pe_callTy call_tuple_of rfl B.tuple_ bt_tuple (pa_cons (pe_fld (pv 1) rfl) pa_nil)) (pa_cons (pe_bm PySem.F.plainAttrs_str PySem.F.slot_str_join PySem.F.type_str_join mt_join pe_str (pa_cons (pe_fld (pv 1) rfl) pa_nil)) pa_nil))))))))), ?_⟩
  obtain ⟨z, zn, go⟩ := go_all ok road low
  have tl : (txt ups lab.cps.toList).length ≤ 3660 := ft_len ok road ok.pos
  have ll := ok.len
  have m60 := ok.most
  refine ⟨_, rfl, _, _, _, true, rfl, .str _, kit_same _ _, _, rfl, iteF ?_⟩
  intro x dx nx ndx nex
  refine ⟨x, dx, rfl, upd_same, fun u l n H1 fu fl fn S1 kp => ⟨rfl, ?_⟩⟩
  have s0 : Same H (upd (upd H dx (.own x)) x (.ins C dx [])) := fun b o e => by
    rw [upd_ne (ne_of_none e nx), upd_ne (ne_of_none e ndx)]
    exact e
  have s1 : Same H H1 := fun b o e => kp b o (s0 b o e) (ne_of_none e nx)
  have fu0 : H u = none := s0.free fu
  have fl0 : H l = none := s0.free fl
  have fn0 : H n = none := s0.free fn
  have no1 : (flds u l n (mk [])).lookup ("can_take" : Str) = none := f_no (by decide +kernel) (by decide +kernel) (by decide +kernel) (by decide +kernel)
  refine ⟨_, rfl, .str (mk (txt ups lab.cps.toList)), rfl, ⟨_, rfl⟩, ?_⟩
  have sl : (signs (mk (txt ups lab.cps.toList))).length = (txt ups lab.cps.toList).length := by unfold signs; rw [List.length_map]; rfl
  refine for_enum (κ := .str (mk (txt ups lab.cps.toList))) (xs := signs (mk (txt ups lab.cps.toList))) (fun i σ H' => ∃ (o2 o3 : Option V) (sc : Sc), σ = [some (.str (mk (txt ups lab.cps.toList))), some (.ref x), o2, o3] ∧ Same H H' ∧ ScAt C H' x dx u l n sc ∧
      Go sc ((txt ups lab.cps.toList).drop i) ⟨ups, lab.cps.toList, [], z⟩ ∧ sc.us.length ≤ i ∧ sc.ls.length ≤ i ∧ sc.wn.length ≤ i)
    ⟨none, none, _, rfl, s1, S1, go, Nat.le_refl _, Nat.le_refl _, Nat.le_refl _⟩ (fun i σ H' hi h => rfl) ?_ ?_
  · rintro i x1 σ H' p hx ⟨o2, o3, sc, rfl, sX, SX, gX, l1, l2, l3⟩ hp
    have hi : i < (txt ups lab.cps.toList).length := by rw [← sl]; exact (List.getElem?_eq_some_iff.mp hx).1
    obtain ⟨ch, ech, edr⟩ : ∃ ch, x1 = .str ⟨#[ch]⟩ ∧ (txt ups lab.cps.toList).drop i = ch :: (txt ups lab.cps.toList).drop (i + 1) := by
      refine ⟨(txt ups lab.cps.toList)[i], ?_, List.drop_eq_getElem_cons hi⟩
      unfold signs at hx
      rw [mk_cps, List.getElem?_map, List.getElem?_eq_getElem hi] at hx
      exact (Option.some.inj hx).symm
    subst ech
    rw [edr] at gX
    obtain ⟨can, gN⟩ : Can sc ch ∧ Go (tk sc ch) ((txt ups lab.cps.toList).drop (i + 1)) ⟨ups, lab.cps.toList, [], z⟩ := by
      cases gX with
      | cons h r => exact ⟨h, r⟩
    have hP := (Same.refl H').new (o := .tup [.int (i : Int), .str ⟨#[ch]⟩]) hp
    refine ⟨p, _, rfl, SqT.of upd_same, rfl, _, _, rfl, _, _, rfl, rfl, ?_⟩
    generalize upd H' p (.tup [.int (i : Int), .str ⟨#[ch]⟩]) = HP at hP
    have SP := SX.same hP
    refine ⟨_, rfl, x, dx, _, rfl, SP.ob, f_no (by decide +kernel) (by decide +kernel) (by decide +kernel) (by decide +kernel), _, rfl, x, dx, u, l, n, sc, ch, rfl, SP, can, fun H2 s2 => ⟨true, rfl, iteF ?_⟩⟩
    have S2 := SP.same s2
    refine ⟨_, rfl, x, dx, _, rfl, S2.ob, f_no (by decide +kernel) (by decide +kernel) (by decide +kernel) (by decide +kernel), _, rfl, x, dx, u, l, n, sc, ch, rfl, S2, can, by omega, by omega, by omega, fun H3 S3 k3 => ?_⟩
    have sH2 := (sX.trans hP).trans s2
    refine ⟨_, _, tk sc ch, rfl, fun b o e => k3 b o (sH2 b o e) (ne_of_none e nx) (ne_of_none e fu0) (ne_of_none e fl0) (ne_of_none e fn0), S3, gN, ?_, ?_, ?_⟩
    all_goals
      unfold tk
      split
      · simp; omega
      · split
        · simp; omega
        · simp; omega
  · rintro σ H' ⟨o2, o3, sc, rfl, sX, SX, gX, l1, l2, l3⟩
    rw [sl, List.drop_length] at gX
    obtain rfl : sc = ⟨ups, lab.cps.toList, [], z⟩ := by
      cases gX with
      | nil => rfl
    refine ⟨_, rfl, x, dx, _, rfl, SX.ob, f_no (by decide +kernel) (by decide +kernel) (by decide +kernel) (by decide +kernel), x, dx, u, l, n, _, rfl, SX, rfl, zn, fun H2 s2 => ⟨true, rfl, iteF ?_⟩⟩
    have S2 := SX.same s2
    have s02 := sX.trans s2
    refine ⟨_, rfl, x, C, dx, _, _, rfl, S2.ob, T.cl, T.nU, f_ups, u, _, rfl, .inl ⟨SqL.of S2.hu, fun v hv => ?_⟩⟩
    have s3 : Same H2 (upd H2 v (.tup (ups.map V.int))) := (Same.refl H2).new hv
    have h3 : upd H2 v (.tup (ups.map V.int)) v = some (.tup (ups.map V.int)) := upd_same
    have S3 := S2.same s3
    show (fun H3 => _) (upd H2 v (.tup (ups.map V.int)))
    generalize upd H2 v (.tup (ups.map V.int)) = H3 at s3 h3 S3
    have hl3 : H3 l = some (.lst ((lab.cps.toList.map fun c : Nat => (⟨#[c]⟩ : Str)).map V.str)) := by rw [List.map_map]; exact S3.hl
    have ej : Txt.join (Str.ofString "") (lab.cps.toList.map fun c : Nat => (⟨#[c]⟩ : Str)) = lab := str_ext (by rw [join_cps, List.map_map]; exact flat_one _)
    refine ⟨rfl, _, rfl, x, C, dx, _, _, rfl, S3.ob, T.cl, T.nL, f_let, _, l, _, rfl, rfl, SqL.of hl3, ?_, ?_⟩
    · have sb := sum_le (ps := lab.cps.toList.map fun c : Nat => (⟨#[c]⟩ : Str)) (b := 1) (fun p hp => by
        obtain ⟨c, _, rfl⟩ := List.mem_map.mp hp
        exact Nat.le_refl _)
      have e0 : (Str.ofString "").length = 0 := rfl
      rw [List.length_map] at sb
      rw [e0, Nat.mul_zero, Nat.add_zero]
      omega
    · rw [ej]
      refine ⟨by show 2 ≤ sizeLine; decide, fun t ht => ?_⟩
      have s4 : Same H3 (upd H3 t (.tup [.ref v, .str lab])) := (Same.refl H3).new ht
      exact q t _ ((s02.trans s3).trans s4) ⟨v, upd_same, s4 _ _ h3, ok⟩
end
end S06


set_option Elab.async false
set_option linter.all false
set_option maxRecDepth 100000
set_option maxHeartbeats 8000000
namespace L2
section
variable {NL : List PySem.Str} {ix : List Nat} {g : TG} {tt : TT} {te : TE} {σ : St} {H1 : Hp} {Qs : Hp → Prop} {acc : PySem.Addr}
theorem comp_tupl {K : PySem.W.Frag} {a : PySem.Addr} {xs : List V} (hn : xs.length < 1000) (Pv : Nat → List V → Hp → Prop)
    (hl : ∀ i ys H2, Pv i ys H2 → SqT K H2 a xs) (hacc : ∀ i ys H2, Pv i ys H2 → H2 acc = some (.lst ys) ∧ ys.length ≤ i) (h0 : Pv 0 [] (upd H1 acc (.lst []))) (hstop : ∀ ys H2, Pv xs.length ys H2 → Qs H2)
    (hturn : ∀ i x ys H2, xs[i]? = some x → Pv i ys H2 → g x (comp0 NL ix σ) H2 fun σ' H4 => σ'.drop NL.length = ix.map (fun j => σ.getD j none) ∧ tt σ' H4 fun b H5 =>
      if b = true then te σ' H5 fun v H6 => H6 acc = some (.lst ys) ∧ Pv (i + 1) (ys ++ [v]) (upd H6 acc (.lst (ys ++ [v]))) else Pv (i + 1) ys H5) :
    ∃ W : Nat → Nat → List V → Hp → Prop, (∃ m, W 0 m [] (upd H1 acc (.lst []))) ∧
    ∀ i m ys H2, W i m ys H2 → H2 acc = some (.lst ys) ∧ ys.length < PySem.sizeLine ∧
      (((Itt K a).stop i H2 ∧ Qs H2) ∨ ((Itt K a).go i H2 ∧ ∃ N : List V → Hp → Prop, (∀ ys' H', N ys' H' → ∃ m', m' < m ∧ W (i + 1) m' ys' H') ∧
        ∀ x H3, (Itt K a).yld i H2 x H3 → g x (comp0 NL ix σ) H3 fun σ' H4 => σ'.drop NL.length = ix.map (fun j => σ.getD j none) ∧ tt σ' H4 fun b H5 =>
          if b = true then te σ' H5 fun v H6 => H6 acc = some (.lst ys) ∧ N (ys ++ [v]) (upd H6 acc (.lst (ys ++ [v]))) else N ys H5)) := by
  refine comp_by xs.length hn Pv hacc h0 (fun ys H2 hp => ⟨⟨xs, hl _ _ _ hp, Nat.le_refl _⟩, hstop ys H2 hp⟩) fun i ys H2 hi hp => ?_
  have hs := hl _ _ _ hp
  refine ⟨⟨xs, xs[i], hs, List.getElem?_eq_getElem hi⟩, ?_⟩
  rintro x H3 ⟨rfl, hx⟩
  exact hturn i x ys H3 (hx xs hs) hp
end
end L2
namespace S06
open PySem L2 W7
theorem trues_all (n : Nat) : ((List.replicate n true).all id) = true := by induction n with
  | zero => rfl
  | succ n ih => rw [List.replicate_succ, List.all_cons, ih]; rfl
theorem trues_snoc (n : Nat) : (List.replicate n true).map V.bl ++ [V.bl true] = (List.replicate (n + 1) true).map V.bl := by rw [List.replicate_succ', List.map_append]; rfl
section
variable {P : Program} {w : World} {K : PySem.W.Frag} {mg : Str → Option Value} {base : Heap} {k : Nat}
def sp_whole : Sp := fun vs H Q _ => ∃ i : Int, vs = [.int i] ∧ Q (.bl true) H
theorem has_whole (D : Df K mg "is_whole" s_is_whole) (B : Blt7 mg) : Has P w K mg base "is_whole" (k + 1) ["thing"] sp_whole := by
  refine D.has sc_is_whole (fun _ _ _ _ _ _ us hl => match us, hl with | [_], _ => rfl) (fun vs H Q E h => by obtain ⟨x, rfl, _⟩ := h; rfl) (fun f cdv A outer s H vs Q E hr h => ?_)
  obtain ⟨i, rfl, q⟩ := h
  refine ⟨_, (pss_one (ps_ret (pe_and (pe_callB call_isinst rfl B.isinstance bt_isinstance (pa_cons (pv 0) (pa_cons (pe_bltn (v := .ty "int") rfl B.int_ bt_int rfl) pa_nil))) (pe_one (pe_not (pe_callB call_isinst rfl B.isinstance bt_isinstance (pa_cons (pv 0) (pa_cons (pe_bltn (v := .ty "bool") rfl B.bool_ bt_bool rfl) pa_nil)))))))), ?_⟩
  refine ⟨_, rfl, _, .type "int", "int", true, rfl, .int _, kit_same _ _, _, rfl, iteT ?_⟩
  exact ⟨_, rfl, _, .type "int", "bool", false, rfl, .int _, kit_int_bool _, _, rfl, q⟩
def sp_letters : Sp := fun vs H Q _ => ∃ z : Str, vs = [.str z] ∧ z.length ≤ 60 ∧ (∀ c ∈ z.cps.toList, Lw c) ∧ ∀ H', Same H H' → Q (.bl true) H'
theorem has_letters (D : Df K mg "is_letters" s_is_letters) (B : Blt7 mg) : Has P w K mg base "is_letters" (k + 1) ["thing"] sp_letters := by
  refine D.has sc_is_letters (fun _ _ _ _ _ _ us hl => match us, hl with | [_], _ => rfl) (fun vs H Q E h => by obtain ⟨x, rfl, _⟩ := h; rfl) (fun f cdv A outer s H vs Q E hr h => ?_)
  obtain ⟨z, rfl, zl, low, q⟩ := h
  obtain ⟨u2, h_LETTERS, r_LETTERS⟩ := B.letters
  refine ⟨_, (pss_one (ps_ret (pe_and (pe_callB call_isinst rfl B.isinstance bt_isinstance (pa_cons (pv 0) (pa_cons (pe_bltn (v := .ty "str") rfl B.str_ bt_str rfl) pa_nil))) (pe_one (pe_callB (call_all rfl) rfl B.all bt_all (pa_cons (pe_comp rfl (pi_str (pv 0)) (NL := ["sign"]) (ix := []) (csc (defScope s_is_letters) N_is_letters) (fun cl C s₃ H₃ fp pins => ⟨(pg_name (i := 0) (show List.Nodup (["sign"] : List Str) from by decide +kernel) rfl (by first | exact Or.inl rfl | exact Or.inr rfl)), pifs_nil, (pe_cmpR op_in_str (pv 0) (pe_glob (v := .str "abcdefghijklmnopqrstuvwxyz") rfl h_LETTERS r_LETTERS) (by with_unfolding_all rfl))⟩)) pa_nil)))))), ?_⟩
  refine ⟨_, rfl, _, _, _, true, rfl, .str _, kit_same _ _, _, rfl, iteT ?_⟩
  have zs : z.cps.size ≤ 60 := zl
  refine ⟨_, rfl, _, rfl, fun a1 ha1 => ?_⟩
  refine comp_str (by omega) (fun i ys HX => HX a1 = some (.lst ys) ∧ Same H HX ∧ ys = (List.replicate i true).map V.bl)
    (fun i ys HX h => ⟨h.1, by rw [h.2.2, List.length_map, List.length_replicate]; exact Nat.le_refl _⟩) ⟨upd_same, (Same.refl H).new ha1, rfl⟩ ?_ ?_
  rotate_left
  · rintro i c ys HX hc ⟨g1, g2, rfl⟩
    have hm : c ∈ z.cps.toList := by rw [← Array.getElem?_toList] at hc; exact List.mem_of_getElem? hc
    refine ⟨rfl, _, rfl, _, _, rfl, rfl, ?_⟩
    have e : (!(Builtin.Str.occurrences (Str.ofString "abcdefghijklmnopqrstuvwxyz") ⟨#[c]⟩ 0 (Str.ofString "abcdefghijklmnopqrstuvwxyz").length 1).isEmpty) = true := in_letters (low c hm)
    rw [e]
    exact ⟨g1, upd_same, g2.write ha1, trues_snoc i⟩
  rintro ys H1 ⟨g1, s1, rfl⟩
  refine ⟨a1, _, rfl, SqL.of g1, ?_⟩
  rw [trues_all]
  exact q _ s1
def sp_labels : Sp := fun vs H Q _ => ∃ z : Str, vs = [.str z] ∧ 1 ≤ z.length ∧ z.length ≤ 60 ∧ (∀ c ∈ z.cps.toList, Lw c) ∧ ∀ H', Same H H' → Q (.bl true) H'
theorem has_labels (D : Df K mg "is_labels" s_is_labels) (B : Blt7 mg) (G_is_letters : Has P w K mg base "is_letters" k ["thing"] sp_letters) : Has P w K mg base "is_labels" (k + 1) ["thing"] sp_labels := by
  refine D.has sc_is_labels (fun _ _ _ _ _ _ us hl => match us, hl with | [_], _ => rfl) (fun vs H Q E h => by obtain ⟨x, rfl, _⟩ := h; rfl) (fun f cdv A outer s H vs Q E hr h => ?_)
  obtain ⟨z, rfl, z1, z60, low, q⟩ := h
  obtain ⟨u1, h_MOST_PLACES, r_MOST_PLACES⟩ := B.most
  refine ⟨_, (pss_one (ps_ret (pe_and (pe_callH G_is_letters hr rfl (pa_cons (pv 0) pa_nil)) (pe_one (pe_chain op_le op_le pe_int (pe_callB call_len_str rfl B.len bt_len (pa_cons (pv 0) pa_nil)) (pe_glob (v := .int 60) rfl h_MOST_PLACES r_MOST_PLACES)))))), ?_⟩
  refine ⟨_, rfl, z, rfl, z60, low, fun H1 s1 => ⟨_, rfl, iteT ?_⟩⟩
  refine ⟨_, rfl, _, rfl, Nat.le_of_lt (small1000 (by omega)), _, _, rfl, rfl, _, rfl, ?_⟩
  refine iteB (decide_eq_true (by show (1 : Int) ≤ (z.length : Int); omega)) ?_
  refine ⟨_, _, rfl, rfl, ?_⟩
  exact bq (decide_eq_true (by show (z.length : Int) ≤ 60; omega)) (q H1 s1)
/-! ### is_ups -/
theorem climb_app {pre : List Int} (g : GrOk pre) (more : List Int) {p : Int} (h0 : 0 ≤ p) (h1 : p < (pre.length : Int)) : ∀ n, climb (pre ++ more) n p = climb pre n p ∧ 0 ≤ climb pre n p ∧ climb pre n p < (pre.length : Int)
  | 0 => ⟨rfl, h0, h1⟩
  | n + 1 => by
    obtain ⟨a, b, c⟩ := climb_app g more h0 h1 n
    have lt : (climb pre n p).toNat < pre.length := by omega
    have e : (pre ++ more).getD (climb pre n p).toNat 0 = pre.getD (climb pre n p).toNat 0 := by rw [getD_app, if_pos lt]
    refine ⟨?_, ?_⟩
    · show stepUp (pre ++ more) (climb (pre ++ more) n p) = stepUp pre (climb pre n p)
      rw [a]; unfold stepUp; rw [e]
    · exact (g.climb 0 h0 h1 (n + 1)).2
theorem climb_in (us : List Int) : ∀ (n : Nat) (p : Int), climb us n (stepUp us p) = stepUp us (climb us n p)
  | 0, _ => rfl
  | n + 1, p => by show stepUp us (climb us n (stepUp us p)) = _; rw [climb_in us n p]; rfl
theorem chn_climb {ups : List Int} {lab : List Nat} (t : TreeOk ups lab) : ∀ (f j : Nat), j < f → j < ups.length → ∀ v ∈ chn ups j, ∃ n, climb ups n (j : Int) = v
  | 0, j, h, _, _, _ => absurd h (Nat.not_lt_zero _)
  | f + 1, j, h, hj, v, hv => by
    rw [chn_eq t hj] at hv
    split at hv
    · cases hv
    · rename_i h0
      have lt := t.lt hj h0
      have st : stepUp ups (j : Int) = ups.getD j 0 := by unfold stepUp; rw [Int.toNat_natCast]; split <;> omega
      rcases List.mem_cons.mp hv with e | e
      · exact ⟨1, by show stepUp ups (j : Int) = v; rw [st, e]⟩
      · obtain ⟨n, en⟩ := chn_climb t f _ (by omega) (by omega) v e
        refine ⟨n + 1, ?_⟩
        show stepUp ups (climb ups n (j : Int)) = v
        rw [← climb_in, st, ← en]
        congr 1
        omega
theorem gr_lab {us : List Int} (g : GrOk us) (h60 : us.length ≤ 60) : TreeOk us (List.replicate us.length 97) := by
  have := gr_tree (ls := List.replicate us.length 97) g (by rw [List.length_replicate]) h60
  exact this
/-- one place more: it stands beneath the one ahead or one above it -/
theorem gr_next {pre : List Int} {v : Int} (g : GrOk pre) (h60 : pre.length ≤ 60) : (v = (pre.length : Int) - 1 ∨ v ∈ chn pre (pre.length - 1)) ↔ GrOk (pre ++ [v]) := by
  have pos := g.pos
  have t := gr_lab g h60
  constructor
  · rintro (e | e)
    · exact g.snoc (by omega) (by omega) ⟨0, e.symm⟩
    · have m := (chn_mem t (pre.length - 1 + 1) (pre.length - 1) (by omega) (by omega)).2 v e
      obtain ⟨n, en⟩ := chn_climb t (pre.length - 1 + 1) (pre.length - 1) (by omega) (by omega) v e
      exact g.snoc (by omega) (by omega) ⟨n, by rw [← en]; congr 1; omega⟩
  · intro g2
    obtain ⟨n, en⟩ := g2.road pre.length pos (by rw [List.length_append]; show _ < _ + 1; omega)
    rw [(climb_app g [v] (by omega) (by omega) n).1, getD_app, if_neg (by omega), Nat.sub_self] at en
    have en : climb pre n ((pre.length : Int) - 1) = v := en
    rcases road_mem t (k := pre.length - 1) (by omega) n with m | m
    · left
      rw [show (((pre.length - 1 : Nat)) : Int) = (pre.length : Int) - 1 by omega, en] at m
      exact m
    · right
      rw [show (((pre.length - 1 : Nat)) : Int) = (pre.length : Int) - 1 by omega, en] at m
      exact m
theorem gr_pre {pre more : List Int} {v : Int} (g : GrOk pre) (g2 : GrOk (pre ++ v :: more)) : GrOk (pre ++ [v]) := by
  have pos := g.pos
  have lt : pre.length < (pre ++ v :: more).length := by rw [List.length_append, List.length_cons]; omega
  have u := g2.up pre.length pos lt
  obtain ⟨n, en⟩ := g2.road pre.length pos lt
  rw [(climb_app g (v :: more) (by omega) (by omega) n).1, getD_app, if_neg (by omega), Nat.sub_self] at en
  rw [getD_app, if_neg (by omega), Nat.sub_self] at u
  exact g.snoc u.1 u.2 ⟨n, en⟩
end
end S06


set_option Elab.async false
set_option linter.all false
set_option maxRecDepth 100000
set_option maxHeartbeats 8000000
namespace S06
open PySem L2 W7
theorem inV_int (v : Int) (l : List Int) : inV (V.int v) (l.map V.int) = decide (v ∈ l) := by
  unfold inV
  rw [Bool.eq_iff_iff, List.any_eq_true, decide_eq_true_eq]
  constructor
  · rintro ⟨y, hy, e⟩
    obtain ⟨n, hn, rfl⟩ := List.mem_map.mp hy
    have : n = v := by simpa [eqV] using e
    rw [← this]; exact hn
  · intro h
    exact ⟨V.int v, List.mem_map.mpr ⟨v, h, rfl⟩, by simp [eqV]⟩
section
variable {P : Program} {w : World} {K : PySem.W.Frag} {mg : Str → Option Value} {base : Heap} {k : Nat}
def sp_ups : Sp := fun vs H Q _ => ∃ (u : Addr) (us : List Int), vs = [.ref u, .int (us.length : Int)] ∧ H u = some (.tup (us.map V.int)) ∧ 1 ≤ us.length ∧ us.length ≤ 60 ∧ ∀ (b : Bool) (H' : Hp), Same H H' → (b = true ↔ GrOk us) → Q (.bl b) H'
theorem has_ups (D : Df K mg "is_ups" s_is_ups) (B : Blt7 mg) (G_is_whole : Has P w K mg base "is_whole" k ["thing"] sp_whole) (G_all_above : Has P w K mg base "all_above" k ["ups", "place"] sp_all) : Has P w K mg base "is_ups" (k + 1) ["thing", "many"] sp_ups := by
  refine D.has sc_is_ups (fun _ _ _ _ _ _ us hl => match us, hl with | [_, _], _ => rfl) (fun vs H Q E h => by obtain ⟨u, us, rfl, _⟩ := h; rfl) (fun f cdv A outer s H vs Q E hr h => ?_)
  obtain ⟨u, us, rfl, hu, l1, l60, q⟩ := h
  refine ⟨_, (pss_cons (ps_if (PW.pt (pw_or (pt_not (pt_val (pe_callB call_isinst rfl B.isinstance bt_isinstance (pa_cons (pv 0) (pa_cons (pe_bltn (v := .ty "tuple") rfl B.tuple_ bt_tuple rfl) pa_nil))))) (pw_or1 (pt_cmpR op_ne (pe_callB call_len_seq rfl B.len bt_len (pa_cons (pv 0) pa_nil)) (pv 1) (nomark _)))))
  (pss_one (ps_ret pe_bl))
  pss_nil)
  (pss_cons (ps_if (PW.pt (pw_or (pt_not (pt_val (pe_callB (call_all rfl) rfl B.all bt_all (pa_cons (pe_comp rfl (pi_tup (pv 0)) (NL := ["up"]) (ix := []) (csc (defScope s_is_ups) N_is_ups) (fun cl C s₃ H₃ fp pins => ⟨(pg_name (i := 0) (show List.Nodup (["up"] : List Str) from by decide +kernel) rfl (by first | exact Or.inl rfl | exact Or.inr rfl)), pifs_nil, (pe_callH G_is_whole hr rfl (pa_cons (pv 0) pa_nil))⟩)) pa_nil)))) (pw_or1 (pt_cmpR op_ne (pe_ix ix_tup (pv 0) pe_int (fun _ _ => rfl)) (pe_un un_neg pe_int) (nomark _)))))
  (pss_one (ps_ret pe_bl))
  pss_nil)
  (pss_cons (ps_for PassesOwn.never rfl (pi_range2 rfl B.range (pa_cons pe_int (pa_cons (pv 1) pa_nil))) (pg_name (i := 2) sc_is_ups.nd rfl (by first | exact Or.inl rfl | exact Or.inr rfl))
  (pss_cons (ps_set (i := 3) sc_is_ups.nd rfl (by first | exact Or.inl rfl | exact Or.inr rfl) (pe_op op_sub (pv 2) pe_int))
  (pss_one (ps_if (PW.pt (pw_and (pt_cmpR op_ne (pe_ix ix_tup (pv 0) (pv 2) (fun _ _ => rfl)) (pv 3) (nomark _)) (pw_and1 (pt_cmpR op_notIn_seq (pe_ix ix_tup (pv 0) (pv 2) (fun _ _ => rfl)) (pe_callH G_all_above hr rfl (pa_cons (pv 0) (pa_cons (pv 3) pa_nil))) (by with_unfolding_all rfl)))))
  (pss_one (ps_ret pe_bl))
  pss_nil))))
  (pss_one (ps_ret pe_bl))))), ?_⟩
  refine ⟨_, rfl, _, _, _, true, rfl, .tup hu, kit_same _ _, _, rfl, iteF ?_⟩
  refine ⟨_, rfl, u, _, rfl, .inr (SqT.of hu), _, rfl, rfl, _, rfl, iteN (by rw [List.length_map]; simp) ?_⟩
  refine ⟨_, rfl, u, rfl, ⟨_, SqT.of hu⟩, fun a1 ha1' => ?_⟩
  refine comp_tupl (K := K) (a := u) (xs := us.map V.int) (by rw [List.length_map]; omega) (fun i ys HX => HX a1 = some (.lst ys) ∧ Same H HX ∧ ys = (List.replicate i true).map V.bl)
    (fun i ys HX h => SqT.of (h.2.1 _ _ hu)) (fun i ys HX h => ⟨h.1, by rw [h.2.2, List.length_map, List.length_replicate]; exact Nat.le_refl _⟩) ⟨upd_same, (Same.refl H).new ha1', rfl⟩ ?_ ?_
  rotate_left
  · rintro i x ys HX hx ⟨g1, g2, rfl⟩
    obtain ⟨n, hn, rfl⟩ := List.mem_map.mp (List.mem_of_getElem? hx)
    exact ⟨rfl, _, rfl, n, rfl, g1, upd_same, g2.write ha1', trues_snoc i⟩
  rintro ys H2 ⟨g1, s2, rfl⟩
  refine ⟨a1, _, rfl, SqL.of g1, _, rfl, ?_⟩
  rw [trues_all]
  refine iteF ?_
  have hu2 := s2 _ _ hu
  refine ⟨_, rfl, u, _, _, _, rfl, rfl, SqT.of hu2, ints_at (by decide) (by omega), _, rfl, rfl, _, rfl, ?_⟩
  by_cases r0 : us.getD 0 0 = -1
  · refine iteN (by show (!decide (V.int (us.getD 0 0) = V.int (-1))) = false; rw [r0]; simp) ?_
    refine ⟨_, rfl, _, _, rfl, ⟨by decide, by decide, by omega, by omega⟩, ?_⟩
    have en : (((us.length : Nat) : Int) - 1).toNat = us.length - 1 := by omega
    rw [en]
    refine for_range (lo := 1) (n := us.length - 1) (fun i σ H' => ∃ o2 o3 : Option V, σ = [some (.ref u), some (.int (us.length : Int)), o2, o3] ∧ Same H2 H' ∧ GrOk (us.take (1 + i))) ⟨none, none, rfl, Same.refl H2, ?_⟩ ?_ ?_
    · have : us.take (1 + 0) = [-1] := by
        cases us with
        | nil => simp at l1
        | cons x r => rw [show x = -1 from r0]; simp
      rw [this]; exact GrOk.one
    · rintro i σ H' hi ⟨o2, o3, rfl, sX, g⟩
      have huX := sX _ _ hu2
      have pl : 1 + i < us.length := by omega
      have tk : (us.take (1 + i)).length = 1 + i := by rw [List.length_take]; omega
      have ex : us = us.take (1 + i) ++ us.getD (1 + i) 0 :: us.drop (1 + i + 1) := by
        conv => lhs; rw [← List.take_append_drop (1 + i) us]
        rw [List.drop_eq_getElem_cons pl, List.getD_eq_getElem?_getD, List.getElem?_eq_getElem pl]; rfl
      have nx : us.take (1 + (i + 1)) = us.take (1 + i) ++ [us.getD (1 + i) 0] := by
        rw [show 1 + (i + 1) = (1 + i) + 1 by omega, List.take_succ, List.getElem?_eq_getElem pl, List.getD_eq_getElem?_getD, List.getElem?_eq_getElem pl]; rfl
      have iff := gr_next (v := us.getD (1 + i) 0) g (by omega)
      rw [tk] at iff
      have at1 := ints_at (us := us) (i := 1 + (i : Int)) (by omega) (by omega)
      rw [show (1 + (i : Int)).toNat = 1 + i by omega] at at1
      refine ⟨_, rfl, _, _, rfl, rfl, ?_⟩
      refine ⟨_, rfl, _, rfl, u, _, _, _, rfl, rfl, SqT.of huX, at1, _, rfl, rfl, _, rfl, ?_⟩
      by_cases c1 : us.getD (1 + i) 0 = 1 + (i : Int) - 1
      · refine iteN (by rw [decide_eq_true (by rw [c1])]; rfl) ?_
        refine iteF ?_
        refine ⟨_, _, rfl, sX, ?_⟩
        rw [nx]
        exact iff.mp (.inl (by omega))
      · refine iteB (by rw [decide_eq_false (fun e => c1 (by injection e))]; rfl) ?_
        refine ⟨_, rfl, _, rfl, u, _, _, _, rfl, rfl, SqT.of huX, at1, _, rfl, _, rfl, u, us.take (1 + i), us.drop (1 + i), List.replicate (us.take (1 + i)).length 97, 1 + (i : Int) - 1, rfl, by rw [List.take_append_drop]; exact huX, gr_lab g (by omega), by omega, by omega, fun r H3 s3 hr3 => ?_⟩
        refine ⟨r, _, rfl, .inl (SqL.of hr3), rfl, flat_ints _, _, rfl, ?_⟩
        rw [inV_int, show (1 + (i : Int) - 1).toNat = 1 + i - 1 by omega]
        by_cases c2 : us.getD (1 + i) 0 ∈ chn (us.take (1 + i)) (1 + i - 1)
        · rw [decide_eq_true c2]
          refine iteF ?_
          refine ⟨_, _, rfl, sX.trans s3, ?_⟩
          rw [nx]
          exact iff.mp (.inr c2)
        · rw [decide_eq_false c2]
          refine iteT ?_
          refine q false _ ((s2.trans sX).trans s3) ⟨(fun e => by cases e), fun gg => ?_⟩
          rw [ex] at gg
          rcases iff.mpr (gr_pre g gg) with z | z
          · exact absurd (by omega) c1
          · exact absurd z c2
    · rintro σ H' ⟨o2, o3, rfl, sX, g⟩
      have : us.take (1 + (us.length - 1)) = us := List.take_of_length_le (by omega)
      rw [this] at g
      exact q true _ (s2.trans sX) ⟨fun _ => g, fun _ => rfl⟩
  · refine iteB (by show (!decide (V.int (us.getD 0 0) = V.int (-1))) = true; rw [decide_eq_false (fun e => r0 (by injection e))]; rfl) ?_
    exact q false _ s2 ⟨(fun e => by cases e), fun g => absurd g.root r0⟩
def sp_ist : Sp := fun vs H Q _ => ∃ (t u : Addr) (us : List Int) (z : Str), vs = [.ref t] ∧ H t = some (.tup [.ref u, .str z]) ∧ H u = some (.tup (us.map V.int)) ∧ us.length = z.length ∧ 1 ≤ us.length ∧ us.length ≤ 60 ∧ (∀ c ∈ z.cps.toList, Lw c) ∧ ∀ (b : Bool) (H' : Hp), Same H H' → (b = true ↔ GrOk us) → Q (.bl b) H'
theorem has_ist (D : Df K mg "is_tree" s_is_tree) (B : Blt7 mg) (G_is_labels : Has P w K mg base "is_labels" k ["thing"] sp_labels) (G_is_ups : Has P w K mg base "is_ups" k ["thing", "many"] sp_ups) : Has P w K mg base "is_tree" (k + 1) ["thing"] sp_ist := by
  refine D.has sc_is_tree (fun _ _ _ _ _ _ us hl => match us, hl with | [_], _ => rfl) (fun vs H Q E h => by obtain ⟨t, u, us, z, rfl, _⟩ := h; rfl) (fun f cdv A outer s H vs Q E hr h => ?_)
  obtain ⟨t, u, us, z, rfl, ht, hu, lz, l1, l60, low, q⟩ := h
  refine ⟨_, (pss_cons (ps_if (PW.pt (pw_or (pt_not (pt_val (pe_callB call_isinst rfl B.isinstance bt_isinstance (pa_cons (pv 0) (pa_cons (pe_bltn (v := .ty "tuple") rfl B.tuple_ bt_tuple rfl) pa_nil))))) (pw_or1 (pt_cmpR op_ne (pe_callB call_len_seq rfl B.len bt_len (pa_cons (pv 0) pa_nil)) pe_int (nomark _)))))
  (pss_one (ps_ret pe_bl))
  pss_nil)
  (pss_one (ps_ret (pe_and (pe_callH G_is_labels hr rfl (pa_cons (pe_ix ix_tup (pv 0) pe_int (fun _ _ => rfl)) pa_nil)) (pe_one (pe_callH G_is_ups hr rfl (pa_cons (pe_ix ix_tup (pv 0) pe_int (fun _ _ => rfl)) (pa_cons (pe_callB call_len_str rfl B.len bt_len (pa_cons (pe_ix ix_tup (pv 0) pe_int (fun _ _ => rfl)) pa_nil)) pa_nil)))))))), ?_⟩
  refine ⟨_, rfl, _, _, _, true, rfl, .tup ht, kit_same _ _, _, rfl, iteF ?_⟩
  refine ⟨_, rfl, t, _, rfl, .inr (SqT.of ht), rfl, _, rfl, iteF ?_⟩
  refine ⟨_, rfl, t, _, _, _, rfl, rfl, SqT.of ht, rfl, z, rfl, by omega, by omega, low, fun H1 s1 => ⟨_, rfl, iteT ?_⟩⟩
  have ht1 := s1 _ _ ht
  refine ⟨_, rfl, t, _, _, _, rfl, rfl, SqT.of ht1, rfl, _, rfl, t, _, _, _, rfl, rfl, SqT.of ht1, rfl, z, rfl, Nat.le_of_lt (small1000 (by omega)), u, us, by rw [lz]; rfl, s1 _ _ hu, l1, l60, fun b H2 s2 hb => q b H2 (s1.trans s2) hb⟩
end
end S06


set_option Elab.async false
set_option linter.all false
set_option maxRecDepth 100000
set_option maxHeartbeats 8000000
namespace S06
open PySem L2 W7
/-! ### lists of tuples of ints -/
def Tups (H : Hp) (as : List Addr) (fs : List (List Int)) : Prop := as.length = fs.length ∧ ∀ (i : Nat) (a : Addr) (us : List Int), as[i]? = some a → fs[i]? = some us → H a = some (.tup (us.map V.int))
theorem Tups.tups {H H' : Hp} {as : List Addr} {fs : List (List Int)} (h : Tups H as fs) (t : ∀ a xs, H a = some (.tup xs) → H' a = some (.tup xs)) : Tups H' as fs := ⟨h.1, fun i a us x y => t _ _ (h.2 i a us x y)⟩
theorem Tups.same {H H' : Hp} {as : List Addr} {fs : List (List Int)} (h : Tups H as fs) (s : Same H H') : Tups H' as fs := h.tups fun a xs e => s _ _ e
theorem Tups.nil (H : Hp) : Tups H [] [] := ⟨rfl, fun i a us x => by cases x⟩
theorem Tups.snoc {H : Hp} {as : List Addr} {fs : List (List Int)} {a : Addr} {us : List Int} (h : Tups H as fs) (e : H a = some (.tup (us.map V.int))) : Tups H (as ++ [a]) (fs ++ [us]) := by
  refine ⟨by rw [List.length_append, List.length_append, h.1]; rfl, fun i b m x y => ?_⟩
  rcases Nat.lt_or_ge i as.length with lt | ge
  · rw [List.getElem?_append_left lt] at x
    rw [List.getElem?_append_left (by rw [← h.1]; exact lt)] at y
    exact h.2 i b m x y
  · rw [List.getElem?_append_right ge] at x
    rw [List.getElem?_append_right (by rw [← h.1]; exact ge), ← h.1] at y
    cases z : i - as.length with
    | zero =>
      rw [z] at x y
      cases x; cases y
      exact e
    | succ n => rw [z] at x; cases x
/-! ### the forms -/
def line (us : List Int) : List Int := rst us ((us.length : Int) - 1)
def ext (us : List Int) : List (List Int) := (line us).map fun p => us ++ [p]
def forms : Nat → List (List Int)
  | 0 => [[-1]]
  | n + 1 => (forms n).flatMap ext
theorem line_eq {us : List Int} (h : 0 < us.length) : line us = ((us.length : Int) - 1) :: chn us (us.length - 1) := by
  unfold line rst
  rw [if_neg (by omega), show ((us.length : Int) - 1).toNat = us.length - 1 by omega]
theorem forms_gr : ∀ (n : Nat), n < 60 → ∀ us ∈ forms n, GrOk us ∧ us.length = n + 1
  | 0, _, us, h => by rw [List.mem_singleton.mp h]; exact ⟨GrOk.one, rfl⟩
  | n + 1, hn, us, h => by
    obtain ⟨vs, hv, hx⟩ := List.mem_flatMap.mp h
    obtain ⟨g, l⟩ := forms_gr n (by omega) vs hv
    obtain ⟨p, hp, rfl⟩ := List.mem_map.mp hx
    rw [line_eq g.pos] at hp
    refine ⟨(gr_next g (by omega)).mp ?_, by rw [List.length_append, l]; rfl⟩
    rcases List.mem_cons.mp hp with e | e
    · exact .inl e
    · exact .inr e
theorem gr_take {us : List Int} (g : GrOk us) : ∀ p, p < us.length → GrOk (us.take (p + 1))
  | 0, h => by
    have : us.take (0 + 1) = [-1] := by
      cases us with
      | nil => cases h
      | cons x r => rw [show x = -1 from g.root]; simp
    rw [this]; exact GrOk.one
  | p + 1, h => by
    have ih := gr_take g p (by omega)
    have ex : us = us.take (p + 1) ++ us.getD (p + 1) 0 :: us.drop (p + 1 + 1) := by
      conv => lhs; rw [← List.take_append_drop (p + 1) us]
      rw [List.drop_eq_getElem_cons h, List.getD_eq_getElem?_getD, List.getElem?_eq_getElem h]; rfl
    have nx : us.take (p + 1 + 1) = us.take (p + 1) ++ [us.getD (p + 1) 0] := by
      rw [List.take_succ, List.getElem?_eq_getElem h, List.getD_eq_getElem?_getD, List.getElem?_eq_getElem h]; rfl
    rw [nx]
    refine gr_pre ih ?_ (more := us.drop (p + 1 + 1))
    rw [← ex]; exact g
theorem forms_all : ∀ (n : Nat), n < 60 → ∀ us, GrOk us → us.length = n + 1 → us ∈ forms n
  | 0, _, us, g, l => by
    obtain ⟨x, rfl⟩ := List.length_eq_one_iff.mp l
    have : x = -1 := g.root
    rw [this]; exact List.mem_singleton.mpr rfl
  | n + 1, hn, us, g, l => by
    have ex : us = us.take (n + 1) ++ [us.getD (n + 1) 0] := by
      conv => lhs; rw [← List.take_append_drop (n + 1) us]
      rw [List.drop_eq_getElem_cons (by omega), List.getD_eq_getElem?_getD, List.getElem?_eq_getElem (by omega), List.drop_eq_nil_of_le (by omega)]; rfl
    have tl : (us.take (n + 1)).length = n + 1 := by rw [List.length_take]; omega
    have gt := gr_take g n (by omega)
    have m := (gr_next (v := us.getD (n + 1) 0) gt (by omega)).mpr (by rw [← ex]; exact g)
    refine List.mem_flatMap.mpr ⟨us.take (n + 1), forms_all n (by omega) _ gt tl, ?_⟩
    refine List.mem_map.mpr ⟨us.getD (n + 1) 0, ?_, ex.symm⟩
    rw [line_eq gt.pos]
    rcases m with z | z
    · rw [z]; exact List.mem_cons_self
    · exact List.mem_cons_of_mem _ z
theorem line_len {us : List Int} (g : GrOk us) (h : us.length ≤ 60) : (line us).length ≤ us.length := by
  have pos := g.pos
  rw [line_eq pos, List.length_cons]
  have := (chn_mem (gr_lab g h) (us.length - 1 + 1) (us.length - 1) (by omega) (by omega)).1
  omega
theorem line_nodup {us : List Int} (g : GrOk us) (h : us.length ≤ 60) : (line us).Nodup := by
  have pos := g.pos
  have t := gr_lab g h
  have nd : ∀ (n k : Nat), k < n → k < us.length → (chn us k).Nodup := by
    intro n
    induction n with
    | zero => intro k hk; omega
    | succ n ih =>
      intro k hn hk
      rw [chn_eq t hk]
      split
      · exact List.nodup_nil
      · rename_i h0
        have lt := t.lt hk h0
        refine List.nodup_cons.mpr ⟨fun hm => ?_, ih _ (by omega) (by omega)⟩
        have := (chn_mem t _ (us.getD k 0).toNat (Nat.lt_succ_self _) (by omega)).2 _ hm
        omega
  rw [line_eq pos]
  refine List.nodup_cons.mpr ⟨fun hm => ?_, nd _ _ (Nat.lt_succ_self _) (by omega)⟩
  have := (chn_mem t (us.length - 1 + 1) (us.length - 1) (by omega) (by omega)).2 _ hm
  omega
theorem flat_le {α β : Type} {f : α → List β} {b : Nat} : ∀ {l : List α}, (∀ x ∈ l, (f x).length ≤ b) → (l.flatMap f).length ≤ l.length * b
  | [], _ => by simp
  | x :: l, h => by
    rw [List.flatMap_cons, List.length_append, List.length_cons, Nat.succ_mul]
    have := h x List.mem_cons_self
    have := flat_le (l := l) (f := f) (b := b) fun y hy => h y (List.mem_cons_of_mem _ hy)
    omega
theorem forms_len : ∀ n, n < 6 → (forms n).length ≤ [1, 1, 2, 6, 24, 120].getD n 0
  | 0, _ => by decide
  | n + 1, h => by
    have ih := forms_len n (by omega)
    have fl := flat_le (l := forms n) (f := ext) (b := n + 1) fun us hu => by
      obtain ⟨g, l⟩ := forms_gr n (by omega) us hu
      unfold ext
      rw [List.length_map, ← l]
      exact line_len g (by omega)
    have fl : (forms (n + 1)).length ≤ (forms n).length * (n + 1) := fl
    generalize (forms (n + 1)).length = d at fl ⊢
    generalize (forms n).length = a at fl ih
    have : n = 0 ∨ n = 1 ∨ n = 2 ∨ n = 3 ∨ n = 4 := by omega
    rcases this with rfl | rfl | rfl | rfl | rfl <;> simp at ih ⊢ <;> omega
theorem forms_nodup : ∀ n, n < 60 → (forms n).Nodup
  | 0, _ => by simp [forms]
  | n + 1, h => by
    have ih := forms_nodup n (by omega)
    show ((forms n).flatMap ext).Nodup
    refine List.pairwise_flatMap.mpr ⟨fun us hu => ?_, ?_⟩
    · obtain ⟨g, l⟩ := forms_gr n (by omega) us hu
      unfold ext
      refine List.Pairwise.map _ (fun a b ne e => ne ?_) (line_nodup g (by omega))
      have := List.append_cancel_left e
      injection this
    · refine List.Pairwise.imp_of_mem (fun {a b} ha hb ne x hx y hy e => ne ?_) ih
      obtain ⟨p, _, rfl⟩ := List.mem_map.mp hx
      obtain ⟨q, _, rfl⟩ := List.mem_map.mp hy
      have la := (forms_gr n (by omega) a ha).2
      have lb := (forms_gr n (by omega) b hb).2
      exact (List.append_inj e (by omega)).1
end S06


set_option Elab.async false
set_option linter.all false
set_option maxRecDepth 100000
set_option maxHeartbeats 8000000
namespace S06
open PySem L2 W7
section
variable {P : Program} {w : World} {K : PySem.W.Frag} {mg : Str → Option Value} {base : Heap} {k : Nat}
def sp_forms : Sp := fun vs H Q _ => ∃ m : Nat, vs = [.int (m : Int)] ∧ 1 ≤ m ∧ m ≤ 6 ∧ ∀ (r : Addr) (as : List Addr) (H' : Hp), Same H H' → H r = none → H' r = some (.lst (as.map V.ref)) → Tups H' as (forms (m - 1)) → Q (.ref r) H'
theorem has_forms (D : Df K mg "_law_forms" s_law_forms) (B : Blt7 mg) : Has P w K mg base "_law_forms" (k + 1) ["many"] sp_forms := by
  refine D.has sc_law_forms (fun _ _ _ _ _ _ us hl => match us, hl with | [_], _ => rfl) (fun vs H Q E h => by obtain ⟨m, rfl, _⟩ := h; rfl) (fun f cdv A outer s H vs Q E hr h => ?_)
  obtain ⟨m, rfl, m1, m6, q⟩ := h
  refine ⟨_, (pss_cons (ps_set (i := 1) sc_law_forms.nd rfl (by first | exact Or.inl rfl | exact Or.inr rfl) (pe_lst (pa_cons (pe_tup (pa_cons (pe_op op_sub pe_int pe_int) pa_nil)) pa_nil)))
  (pss_cons (ps_for PassesOwn.never rfl (pi_range2 rfl B.range (pa_cons pe_int (pa_cons (pv 0) pa_nil))) (pg_name (i := 2) sc_law_forms.nd rfl (by first | exact Or.inl rfl | exact Or.inr rfl))
  (pss_cons (ps_set (i := 3) sc_law_forms.nd rfl (by first | exact Or.inl rfl | exact Or.inr rfl) (pe_lst pa_nil))
  (pss_cons (ps_for PassesOwn.never rfl (pi_list (pv 1)) (pg_name (i := 4) sc_law_forms.nd rfl (by first | exact Or.inl rfl | exact Or.inr rfl))
  (pss_cons (ps_set (i := 5) sc_law_forms.nd rfl (by first | exact Or.inl rfl | exact Or.inr rfl) (pe_op op_sub (pv 2) pe_int))
  (pss_one (ps_while PassesOwn.never (pt_cmpR op_ge (pv 5) pe_int (nomark _))
  (pss_cons (ps_expr (pe_bm PySem.F.plainAttrs_list PySem.F.slot_list_append PySem.F.type_list_append mt_append (pv 3) (pa_cons (pe_op op_catT (pv 4) (pe_tup (pa_cons (pv 5) pa_nil))) pa_nil)))
  (pss_one (ps_set (i := 5) sc_law_forms.nd rfl (by first | exact Or.inl rfl | exact Or.inr rfl) (pe_ix ix_tup (pv 4) (pv 5) (fun _ _ => rfl)))))))))
  (pss_one (ps_set (i := 1) sc_law_forms.nd rfl (by first | exact Or.inl rfl | exact Or.inr rfl) (pv 3))))))
  (pss_one (ps_ret (pv 1))))), ?_⟩
  refine ⟨_, _, rfl, rfl, (by show 1 ≤ sizeLine; decide), fun t0 ht0 => ⟨(by show 1 ≤ sizeLine; decide), fun r0 hr0 => ?_⟩⟩
  have s0 : Same H (upd (upd H t0 (.tup [.int (0 - 1)])) r0 (.lst [.ref t0])) := ((Same.refl H).new ht0).new hr0
  have h0 : upd (upd H t0 (.tup [.int (0 - 1)])) r0 (.lst [.ref t0]) r0 = some (.lst ([t0].map V.ref)) := upd_same
  have g0 : Tups (upd (upd H t0 (.tup [.int (0 - 1)])) r0 (.lst [.ref t0])) [t0] (forms 0) := by
    have := (Tups.nil (upd (upd H t0 (.tup [.int (0 - 1)])) r0 (.lst [.ref t0]))).snoc (a := t0) (us := [-1]) (by rw [upd_ne (ne_of_none upd_same hr0)]; exact upd_same)
    exact this
  have f0 : H r0 = none := ((Same.refl H).new ht0).free hr0
  show (fun HH => _) (upd (upd H t0 (.tup [.int (0 - 1)])) r0 (.lst [.ref t0]))
  generalize upd (upd H t0 (.tup [.int (0 - 1)])) r0 (.lst [.ref t0]) = H0 at s0 h0 g0
  refine ⟨_, rfl, _, _, rfl, ⟨by decide, by decide, by omega, by omega⟩, ?_⟩
  rw [show ((m : Int) - 1).toNat = m - 1 by omega]
  refine for_range (lo := 1) (n := m - 1) (fun i σ H' => ∃ (r : Addr) (as : List Addr) (o2 o3 o4 o5 : Option V), σ = [some (.int (m : Int)), some (.ref r), o2, o3, o4, o5] ∧ Same H H' ∧ H r = none ∧ H' r = some (.lst (as.map V.ref)) ∧ Tups H' as (forms i))
    ⟨r0, [t0], none, none, none, none, rfl, s0, f0, h0, g0⟩ ?_ ?_
  · rintro i σ H' hi ⟨r, as, o2, o3, o4, o5, rfl, sX, fr, hrX, tX⟩
    refine ⟨(by show 0 ≤ sizeLine; decide), fun r3 hr3 => ?_⟩
    have fr3 : H r3 = none := sX.free hr3
    have fl := forms_len i (by omega)
    have fl2 : (forms i).length ≤ 120 := by
      have : i = 0 ∨ i = 1 ∨ i = 2 ∨ i = 3 ∨ i = 4 := by omega
      rcases this with rfl | rfl | rfl | rfl | rfl <;> simp at fl <;> omega
    have al := tX.1
    refine ⟨_, rfl, r, rfl, ⟨_, SqL.of (by rw [upd_ne (ne_of_none hrX hr3)]; exact hrX)⟩, ?_⟩
    refine for_list (K := K) (a := r) (xs := as.map V.ref) (fun j σ H'' => ∃ (bs : List Addr) (o4' o5' : Option V), σ = [some (.int (m : Int)), some (.ref r), some (.int (1 + (i : Int))), some (.ref r3), o4', o5'] ∧ Same H' H'' ∧ H'' r3 = some (.lst (bs.map V.ref)) ∧ Tups H'' bs (((forms i).take j).flatMap ext))
      ⟨[], o4, o5, rfl, (Same.refl H').new hr3, upd_same, Tups.nil _⟩ (fun j σ H'' _ h => by obtain ⟨_, _, _, _, sY, _⟩ := h; exact SqL.of (sY _ _ hrX)) ?_ ?_
    · rintro j x σ H'' hx ⟨bs, o4', o5', rfl, sY, h3, tb⟩
      rw [List.getElem?_map] at hx
      cases e1 : as[j]? with
      | none => rw [e1] at hx; cases hx
      | some a =>
        rw [e1] at hx
        cases hx
        have jl : j < (forms i).length := by rw [← al]; exact (List.getElem?_eq_some_iff.mp e1).1
        have e2 : (forms i)[j]? = some (forms i)[j] := List.getElem?_eq_getElem jl
        have ha := sY _ _ (tX.2 j a _ e1 e2)
        obtain ⟨g, ul⟩ := forms_gr i (by omega) _ (List.getElem_mem jl)
        have nx : ((forms i).take (j + 1)).flatMap ext = ((forms i).take j).flatMap ext ++ ext (forms i)[j] := by
          rw [List.take_succ, e2, List.flatMap_append]; simp
        generalize (forms i)[j] = us at ha g ul nx
        have t := gr_lab g (by omega)
        have ll := line_len g (by omega)
        have bl : (((forms i).take j).flatMap ext).length ≤ 120 * 60 := by
          have := flat_le (l := (forms i).take j) (f := ext) (b := 60) fun v hv => by
            obtain ⟨g2, l2⟩ := forms_gr i (by omega) v (List.mem_of_mem_take hv)
            unfold ext
            rw [List.length_map]
            have := line_len g2 (by omega)
            omega
          have l3 : ((forms i).take j).length ≤ 120 := by rw [List.length_take]; omega
          exact Nat.le_trans this (Nat.mul_le_mul_right _ l3)
        have hup : ∀ p : Int, 0 ≤ p → p < (us.length : Int) → us.getD p.toNat 0 < p ∧ -1 ≤ us.getD p.toNat 0 := fun p h0 h1 => by
          rcases Nat.eq_zero_or_pos p.toNat with z | z
          · have := g.root
            rw [z]; omega
          · have := g.up p.toNat z (by omega)
            omega
        refine ⟨_, rfl, _, _, rfl, rfl, ?_⟩
        refine ⟨fun mm σ H4 => ∃ (l : List Int) (pl : Int) (cs : List Addr), σ = [some (.int (m : Int)), some (.ref r), some (.int (1 + (i : Int))), some (.ref r3), some (.ref a), some (.int pl)] ∧ Same H' H4 ∧ H4 r3 = some (.lst (cs.map V.ref)) ∧ Tups H4 cs (((forms i).take j).flatMap ext ++ l.map fun p => us ++ [p]) ∧ l ++ rst us pl = line us ∧ mm = (pl + 1).toNat ∧ pl < (us.length : Int) ∧ -1 ≤ pl ∧ H4 a = some (.tup (us.map V.int)),
          ⟨_, [], _, bs, rfl, sY, h3, by rw [List.map_nil, List.append_nil]; exact tb, by rw [List.nil_append]; unfold line; congr 1; omega, rfl, by omega, by omega, ha⟩, ?_⟩
        rintro mm σ H4 ⟨l, pl, cs, rfl, s4, h4, t4, el, rfl, p1, p2, ha4⟩
        refine ⟨_, rfl, _, _, rfl, rfl, _, rfl, ?_⟩
        by_cases p0 : 0 ≤ pl
        · refine iteB (decide_eq_true p0) ?_
          refine ⟨_, fun σ' H5 h => h, ?_⟩
          refine ⟨_, rfl, .inl ⟨rfl, _, SqL.of h4⟩, _, rfl, _, rfl, (by show 1 ≤ sizeLine; decide), fun tp htp => ?_⟩
          have s5 : Same H4 (upd H4 tp (.tup [.int pl])) := (Same.refl H4).new htp
          have h5 : upd H4 tp (.tup [.int pl]) tp = some (.tup [.int pl]) := upd_same
          show (fun HH => _) (upd H4 tp (.tup [.int pl]))
          generalize upd H4 tp (.tup [.int pl]) = H5 at s5 h5
          have usn : us.map V.int ≠ [] := fun e => by
            have := congrArg List.length e
            rw [List.length_map, List.length_nil] at this
            omega
          refine ⟨a, tp, _, _, rfl, rfl, SqT.of (s5 _ _ ha4), SqT.of h5, usn, by rw [List.length_map]; exact Nat.le_of_lt (small1000 (by show us.length + 1 ≤ 1000; omega)), (fun e => by cases e), fun _ pp hpp => ?_⟩
          have s6 : Same H5 (upd H5 pp (.tup (us.map V.int ++ [.int pl]))) := (Same.refl H5).new hpp
          have h6 : upd H5 pp (.tup (us.map V.int ++ [.int pl])) pp = some (.tup ((us ++ [pl]).map V.int)) := by rw [upd_same, List.map_append]; rfl
          show (fun HH => _) (upd H5 pp (.tup (us.map V.int ++ [.int pl])))
          generalize upd H5 pp (.tup (us.map V.int ++ [.int pl])) = H6 at s6 h6
          have h36 := s6 _ _ (s5 _ _ h4)
          have ha6 := s6 _ _ (s5 _ _ ha4)
          have cl := t4.1
          have lle : l.length ≤ 60 := by
            have := congrArg List.length el
            rw [List.length_append] at this
            omega
          refine ⟨r3, _, _, rfl, rfl, h36, by rw [List.length_map, cl, List.length_append, List.length_map]; exact small10000 (by omega), ?_⟩
          have tU : ∀ b xs, H6 b = some (.tup xs) → upd H6 r3 (.lst (cs.map V.ref ++ [.ref pp])) b = some (.tup xs) := fun b xs e => by
            rw [upd_ne (ne_of e h36 (by intro z; cases z))]; exact e
          refine ⟨_, rfl, _, rfl, a, _, _, _, rfl, rfl, SqT.of (tU _ _ ha6), ints_at p0 p1, ?_⟩
          have hh := hup pl p0 p1
          refine ⟨(us.getD pl.toNat 0 + 1).toNat, by omega, l ++ [pl], us.getD pl.toNat 0, cs ++ [pp], rfl, ((s4.trans s5).trans s6).write hr3, by rw [upd_same, List.map_append]; rfl, ?_, ?_, rfl, by omega, hh.2, tU _ _ ha6⟩
          · rw [List.map_append, ← List.append_assoc]
            exact (((t4.same s5).same s6).snoc h6).tups tU
          · rw [List.append_assoc, ← el, rst_step t p0 p1]; rfl
        · refine iteN (decide_eq_false p0) ?_
          have e0 : rst us pl = [] := by unfold rst; rw [if_pos (by omega)]
          rw [e0, List.append_nil] at el
          refine ⟨cs, _, _, rfl, s4, h4, ?_⟩
          rw [nx]
          unfold ext
          rw [← el]
          exact t4
    · rintro σ H'' ⟨bs, o4', o5', rfl, sY, h3, tb⟩
      rw [List.length_map, al, List.take_length] at tb
      exact ⟨_, rfl, r3, bs, _, _, _, _, rfl, sX.trans sY, fr3, h3, tb⟩
  · rintro σ H' ⟨r, as, o2, o3, o4, o5, rfl, sX, fr, hrX, tX⟩
    exact ⟨_, rfl, q r as H' sX fr hrX tX⟩
end
end S06


set_option Elab.async false
set_option linter.all false
set_option maxRecDepth 100000
set_option maxHeartbeats 8000000
namespace S06
open PySem L2 W7
section
variable {P : Program} {w : World} {K : PySem.W.Frag} {mg : Str → Option Value} {base : Heap} {k : Nat}
def Fit (m n : Nat) (fs : List (List Int)) : Prop := ∀ us ∈ fs, us.length = n ∧ ∀ x ∈ us, -1 ≤ x ∧ x ≤ (m : Int)
theorem Tups.app {H : Hp} {as bs : List Addr} {fs gs : List (List Int)} (h : Tups H as fs) (g : Tups H bs gs) : Tups H (as ++ bs) (fs ++ gs) := by
  refine ⟨by rw [List.length_append, List.length_append, h.1, g.1], fun i a us x y => ?_⟩
  rcases Nat.lt_or_ge i as.length with lt | ge
  · rw [List.getElem?_append_left lt] at x
    rw [List.getElem?_append_left (by rw [← h.1]; exact lt)] at y
    exact h.2 i a us x y
  · rw [List.getElem?_append_right ge] at x
    rw [List.getElem?_append_right (by rw [← h.1]; exact ge), ← h.1] at y
    exact g.2 _ a us x y
def sp_tuples : Sp := fun vs H Q _ => ∃ m : Nat, vs = [.int (m : Int)] ∧ 1 ≤ m ∧ m ≤ 4 ∧ ∀ (r : Addr) (as : List Addr) (fs : List (List Int)) (H' : Hp), Same H H' → H' r = some (.lst (as.map V.ref)) → Tups H' as fs → Fit m m fs → Q (.ref r) H'
theorem has_tuples (D : Df K mg "_law_tuples" s_law_tuples) (B : Blt7 mg) : Has P w K mg base "_law_tuples" (k + 1) ["many"] sp_tuples := by
  refine D.has sc_law_tuples (fun _ _ _ _ _ _ us hl => match us, hl with | [_], _ => rfl) (fun vs H Q E h => by obtain ⟨m, rfl, _⟩ := h; rfl) (fun f cdv A outer s H vs Q E hr h => ?_)
  obtain ⟨m, rfl, m1, m4, q⟩ := h
  refine ⟨_, (pss_cons (ps_set (i := 1) sc_law_tuples.nd rfl (by first | exact Or.inl rfl | exact Or.inr rfl) (pe_lst (pa_cons (pe_tup pa_nil) pa_nil)))
  (pss_cons (ps_for PassesOwn.never rfl (pi_range1 rfl B.range (pa_cons (pv 0) pa_nil)) (pg_name (i := 2) sc_law_tuples.nd rfl (by first | exact Or.inl rfl | exact Or.inr rfl))
  (pss_cons (ps_set (i := 3) sc_law_tuples.nd rfl (by first | exact Or.inl rfl | exact Or.inr rfl) (pe_lst pa_nil))
  (pss_cons (ps_for PassesOwn.never rfl (pi_list (pv 1)) (pg_name (i := 4) sc_law_tuples.nd rfl (by first | exact Or.inl rfl | exact Or.inr rfl))
  (pss_one (ps_expr (pe_bm PySem.F.plainAttrs_list PySem.F.slot_list_extend PySem.F.type_list_extend mt_extend (pv 3) (pa_cons (pe_comp rfl (pi_range2 rfl B.range (pa_cons (pe_op op_sub pe_int pe_int) (pa_cons (pe_op op_add (pv 0) pe_int) pa_nil))) (NL := ["number"]) (ix := [4]) (csc (defScope s_law_tuples) N_law_tuples) (fun cl C s₃ H₃ fp pins => ⟨(pg_name (i := 0) (show List.Nodup (["number", "one"] : List Str) from by decide +kernel) rfl (by first | exact Or.inl rfl | exact Or.inr rfl)), pifs_nil, (pe_op (op_catAK K) (pv 1) (pe_tup (pa_cons (pv 0) pa_nil)))⟩)) pa_nil)))))
  (pss_one (ps_set (i := 1) sc_law_tuples.nd rfl (by first | exact Or.inl rfl | exact Or.inr rfl) (pv 3))))))
  (pss_one (ps_ret (pv 1))))), ?_⟩
  refine ⟨(by show 0 ≤ sizeLine; decide), fun t0 ht0 => ⟨(by show 1 ≤ sizeLine; decide), fun r0 hr0 => ?_⟩⟩
  have s0 : Same H (upd (upd H t0 (.tup [])) r0 (.lst [.ref t0])) := ((Same.refl H).new ht0).new hr0
  have h0 : upd (upd H t0 (.tup [])) r0 (.lst [.ref t0]) r0 = some (.lst ([t0].map V.ref)) := upd_same
  have g0 : Tups (upd (upd H t0 (.tup [])) r0 (.lst [.ref t0])) [t0] [[]] := by
    have := (Tups.nil (upd (upd H t0 (.tup [])) r0 (.lst [.ref t0]))).snoc (a := t0) (us := []) (by rw [upd_ne (ne_of_none upd_same hr0)]; exact upd_same)
    exact this
  show (fun HH => _) (upd (upd H t0 (.tup [])) r0 (.lst [.ref t0]))
  generalize upd (upd H t0 (.tup [])) r0 (.lst [.ref t0]) = H0 at s0 h0 g0
  refine ⟨_, rfl, _, rfl, by omega, by omega, ?_⟩
  rw [Int.toNat_natCast]
  refine for_range (lo := 0) (n := m) (fun i σ H' => ∃ (r : Addr) (as : List Addr) (fs : List (List Int)) (o2 o3 o4 : Option V), σ = [some (.int (m : Int)), some (.ref r), o2, o3, o4] ∧ Same H H' ∧ H' r = some (.lst (as.map V.ref)) ∧ Tups H' as fs ∧ Fit m i fs ∧ fs.length ≤ 6 ^ i)
    ⟨r0, [t0], [[]], none, none, none, rfl, s0, h0, g0, (fun us hu => by rw [List.mem_singleton.mp hu]; exact ⟨rfl, by simp⟩), by decide⟩ ?_ ?_
  · rintro i σ H' hi ⟨r, as, fs, o2, o3, o4, rfl, sX, hrX, tX, fX, lX⟩
    have l1296 : fs.length ≤ 216 := by
      have : i = 0 ∨ i = 1 ∨ i = 2 ∨ i = 3 := by omega
      rcases this with rfl | rfl | rfl | rfl <;> simp at lX <;> omega
    refine ⟨(by show 0 ≤ sizeLine; decide), fun r3 hr3 => ?_⟩
    have al := tX.1
    refine ⟨_, rfl, r, rfl, ⟨_, SqL.of (by rw [upd_ne (ne_of_none hrX hr3)]; exact hrX)⟩, ?_⟩
    refine for_list (K := K) (a := r) (xs := as.map V.ref) (fun j σ H'' => ∃ (bs : List Addr) (gs : List (List Int)) (o4' : Option V), σ = [some (.int (m : Int)), some (.ref r), some (.int (0 + (i : Int))), some (.ref r3), o4'] ∧ Same H' H'' ∧ H'' r3 = some (.lst (bs.map V.ref)) ∧ Tups H'' bs gs ∧ Fit m (i + 1) gs ∧ gs.length ≤ 6 * j)
      ⟨[], [], o4, rfl, (Same.refl H').new hr3, upd_same, Tups.nil _, (fun us hu => by cases hu), Nat.le_refl _⟩ (fun j σ H'' _ h => by obtain ⟨_, _, _, _, sY, _⟩ := h; exact SqL.of (sY _ _ hrX)) ?_ ?_
    · rintro j x σ H'' hx ⟨bs, gs, o4', rfl, sY, h3, tb, fb, lb⟩
      rw [List.getElem?_map] at hx
      cases e1 : as[j]? with
      | none => rw [e1] at hx; cases hx
      | some a =>
        rw [e1] at hx
        cases hx
        have jl : j < fs.length := by rw [← al]; exact (List.getElem?_eq_some_iff.mp e1).1
        have e2 : fs[j]? = some fs[j] := List.getElem?_eq_getElem jl
        have ha := sY _ _ (tX.2 j a _ e1 e2)
        obtain ⟨ul, ux⟩ := fX _ (List.getElem_mem jl)
        generalize fs[j] = us at ha ul ux
        refine ⟨_, rfl, .inl ⟨rfl, _, SqL.of h3⟩, _, _, rfl, rfl, _, rfl, _, _, rfl, rfl, _, _, rfl, ⟨by decide, by decide, by omega, by omega⟩, fun acc hacc => ?_⟩
        rw [show ((m : Int) + 1 - (0 - 1)).toNat = m + 2 by omega]
        refine comp_by (m + 2) (by omega) (fun n ys HX => HX acc = some (.lst ys) ∧ Same H'' HX ∧ ∃ (cs : List Addr) (hs : List (List Int)), ys = cs.map V.ref ∧ Tups HX cs hs ∧ Fit m (i + 1) hs ∧ hs.length = n)
          (fun n ys HX h => ⟨h.1, by obtain ⟨_, _, cs, hs, e, t, _, l⟩ := h; rw [e, List.length_map, t.1, l]; exact Nat.le_refl _⟩) ⟨upd_same, (Same.refl H'').new hacc, [], [], rfl, Tups.nil _, (fun us hu => by cases hu), rfl⟩ ?_ ?_
        rotate_left
        · rintro n ys HX hn ⟨g1, g2, cs, hs, rfl, tc, fc, lc⟩
          refine ⟨hn, ?_⟩
          rintro x HY ⟨rfl, rfl⟩
          have fin : ∀ (pp : Addr) (HZ : Hp), Same HY HZ → HZ pp = some (.tup ((us ++ [0 - 1 + (n : Int)]).map V.int)) → HZ acc = some (.lst (cs.map V.ref)) ∧ upd HZ acc (.lst (cs.map V.ref ++ [.ref pp])) acc = some (.lst (cs.map V.ref ++ [.ref pp])) ∧ Same H'' (upd HZ acc (.lst (cs.map V.ref ++ [.ref pp]))) ∧
              ∃ (cs' : List Addr) (hs' : List (List Int)), cs.map V.ref ++ [.ref pp] = cs'.map V.ref ∧ Tups (upd HZ acc (.lst (cs.map V.ref ++ [.ref pp]))) cs' hs' ∧ Fit m (i + 1) hs' ∧ hs'.length = n + 1 := fun pp HZ sZ hZ => by
            have gZ := sZ _ _ g1
            refine ⟨gZ, upd_same, (g2.trans sZ).write hacc, cs ++ [pp], hs ++ [us ++ [0 - 1 + (n : Int)]], by rw [List.map_append]; rfl, ?_, fun v hv => ?_, by rw [List.length_append, lc]; rfl⟩
            · exact ((tc.same sZ).snoc hZ).tups fun b xs e => by rw [upd_ne (ne_of e gZ (by intro z; cases z))]; exact e
            · rcases List.mem_append.mp hv with hv | hv
              · exact fc v hv
              · rw [List.mem_singleton.mp hv]
                refine ⟨by rw [List.length_append, ul]; rfl, fun y hy => ?_⟩
                rcases List.mem_append.mp hy with hy | hy
                · exact ux y hy
                · rw [List.mem_singleton.mp hy]; omega
          refine ⟨rfl, _, rfl, _, rfl, (by show 1 ≤ sizeLine; decide), fun tp htp => ?_⟩
          have s5 : Same HY (upd HY tp (.tup [.int (0 - 1 + (n : Int))])) := (Same.refl HY).new htp
          have h5 : upd HY tp (.tup [.int (0 - 1 + (n : Int))]) tp = some (.tup [.int (0 - 1 + (n : Int))]) := upd_same
          show (fun HH => _) (upd HY tp (.tup [.int (0 - 1 + (n : Int))]))
          generalize upd HY tp (.tup [.int (0 - 1 + (n : Int))]) = H5 at s5 h5
          refine ⟨a, tp, us.map V.int, [.int (0 - 1 + (n : Int))], rfl, rfl, SqT.of (s5 _ _ (g2 _ _ ha)), SqT.of h5, by rw [List.length_map]; exact Nat.le_of_lt (small1000 (by show us.length + 1 ≤ 1000; omega)), fun e => ?_, (fun _ e => by cases e), fun _ _ pp hpp => ?_⟩
          · have e : us = [] := List.map_eq_nil_iff.mp e
            exact fin tp H5 s5 (by rw [h5, e]; rfl)
          · exact fin pp _ (s5.new hpp) (by rw [upd_same, List.map_append]; rfl)
        rintro ys HX ⟨g1, g2, cs, hs, rfl, tc, fc, lc⟩
        refine ⟨Nat.le_refl _, r3, acc, _, _, rfl, rfl, g2 _ _ h3, g1, ?_, ?_⟩
        · have := tb.1
          have := tc.1
          rw [List.length_map, List.length_map]
          exact Nat.le_of_lt (small10000 (by omega))
        · have h3X := g2 _ _ h3
          have tU : ∀ b xs, HX b = some (.tup xs) → upd HX r3 (.lst (bs.map V.ref ++ cs.map V.ref)) b = some (.tup xs) := fun b xs e => by
            rw [upd_ne (ne_of e h3X (by intro z; cases z))]; exact e
          refine ⟨bs ++ cs, gs ++ hs, _, rfl, (sY.trans g2).write hr3, by rw [upd_same, List.map_append], ((tb.same g2).app tc).tups tU, fun v hv => ?_, by rw [List.length_append]; omega⟩
          rcases List.mem_append.mp hv with hv | hv
          · exact fb v hv
          · exact fc v hv
    · rintro σ H'' ⟨bs, gs, o4', rfl, sY, h3, tb, fb, lb⟩
      rw [List.length_map, al] at lb
      exact ⟨_, rfl, r3, bs, gs, _, _, _, rfl, sX.trans sY, h3, tb, fb, Nat.le_trans lb (by rw [Nat.pow_succ]; omega)⟩
  · rintro σ H' ⟨r, as, fs, o2, o3, o4, rfl, sX, hrX, tX, fX, lX⟩
    exact ⟨_, rfl, q r as fs H' sX hrX tX fX⟩
end
end S06


set_option Elab.async false
set_option linter.all false
set_option maxRecDepth 100000
set_option maxHeartbeats 8000000
namespace S06
open PySem L2 W7
theorem go_fn {s f g : Sc} {xs : List Nat} (a : Go s xs f) (b : Go s xs g) : f = g := by
  induction a with
  | nil s => cases b; rfl
  | cons h r ih => cases b with
    | cons h' r' => exact ih r'
theorem txt_inj {us vs : List Int} {lab : List Nat} (t : TreeOk us lab) (ru : Road us) (t2 : TreeOk vs lab) (rv : Road vs) (low : ∀ c ∈ lab, Lw c) (e : txt us lab = txt vs lab) : us = vs := by
  obtain ⟨z, _, g⟩ := go_all t ru low
  obtain ⟨z2, _, g2⟩ := go_all t2 rv low
  rw [e] at g
  have := go_fn g g2
  injection this
theorem valV_key {κ : Type} [DecidableEq κ] {kvs : List (κ × V)} {k : κ} : (valV kvs k).isSome = true ↔ k ∈ kvs.map (·.1) := by
  rw [← valV_any, List.any_eq_true, List.mem_map]
  constructor
  · rintro ⟨x, hx, e⟩; exact ⟨x, hx, of_decide_eq_true e⟩
  · rintro ⟨x, hx, e⟩; exact ⟨x, hx, decide_eq_true e⟩
theorem gr_tree_of {us : List Int} {z : Str} (g : GrOk us) (l : us.length = z.length) (h60 : us.length ≤ 60) : TreeOk us z.cps.toList := by
  have := gr_tree (ls := z.cps.toList) g (by rw [l]; simp [Str.length]) h60
  exact this
/-- the texts of the forms seen so far -/
def tkv (lab : List Nat) (fs : List (List Int)) : List (Key × V) := fs.map fun us => (Sum.inr (mk (txt us lab)), V.bl true)
theorem tkv_none {lab : List Nat} {fs : List (List Int)} {us : List Int} (h : ∀ vs ∈ fs, txt us lab = txt vs lab → us = vs) (n : us ∉ fs) : valV (tkv lab fs) (Sum.inr (mk (txt us lab)) : Key) = none := by
  cases z : valV (tkv lab fs) (Sum.inr (mk (txt us lab)) : Key) with
  | none => rfl
  | some v =>
    have m := valV_key.mp (show (valV (tkv lab fs) (Sum.inr (mk (txt us lab)) : Key)).isSome = true by rw [z]; rfl)
    unfold tkv at m
    rw [List.map_map] at m
    obtain ⟨vs, hv, e2⟩ := List.mem_map.mp m
    have e3 : (Sum.inr (mk (txt vs lab)) : Key) = Sum.inr (mk (txt us lab)) := e2
    injection e3 with e3
    have := mk_inj e3
    rw [h vs hv this.symm] at n
    exact absurd hv n
def fkv (fs : List (List Int)) : List (List Key × V) := fs.map fun us => (us.map Sum.inl, V.bl true)
theorem inl_inj {us vs : List Int} (e : (us.map Sum.inl : List Key) = vs.map Sum.inl) : us = vs := by
  induction us generalizing vs with
  | nil => cases vs with
    | nil => rfl
    | cons y vs => cases e
  | cons x us ih => cases vs with
    | nil => cases e
    | cons y vs =>
      injection e with e1 e2
      injection e1 with e1
      rw [e1, ih e2]
theorem fkv_in (fs : List (List Int)) (us : List Int) : (valV (fkv fs) (us.map Sum.inl : List Key)).isSome = decide (us ∈ fs) := by
  rw [Bool.eq_iff_iff, valV_key, decide_eq_true_eq]
  unfold fkv
  rw [List.map_map]
  constructor
  · intro m
    obtain ⟨vs, hv, e⟩ := List.mem_map.mp m
    rw [← inl_inj e]; exact hv
  · intro m
    exact List.mem_map.mpr ⟨us, m, rfl⟩
theorem fkv_nodup {fs : List (List Int)} (h : fs.Nodup) : ((fkv fs).map (·.1)).Nodup := by
  unfold fkv
  rw [List.map_map]
  exact List.Pairwise.map _ (fun a b ne e => ne (inl_inj e)) h
theorem kv_ints (us : List Int) : us.map V.int = (us.map Sum.inl : List Key).map kV := by rw [List.map_map]; rfl
end S06


set_option Elab.async false
set_option linter.all false
set_option maxRecDepth 100000
set_option maxHeartbeats 8000000
namespace S06
open PySem L2 W7
section
variable {P : Program} {w : World} {K : PySem.W.Frag} {mg : Str → Option Value} {base : Heap} {k : Nat}
def sp_law : PySem.W.Frag → Sp := fun K vs H Q _ => ∃ (a : Addr) (ns : List Int), vs = [.ref a] ∧ SqL K H a (ns.map V.int) ∧ ns.length ≤ 63 ∧ ∀ H', Q (.bl true) H'
theorem ok_law {f : Addr} {fd : FuncData} (F : Fun K "law" "law" s_law f fd) (B : Blt7 mg) (G_law_cells : Has P w K mg base "_law_cells" k ["script", "many"] (sp_cells K)) (G_law_pool : Has P w K mg base "_law_pool" k ["cell"] sp_pool) (G_law_take : Has P w K mg base "_law_take" k ["pool", "many"] sp_take) (G_law_letter : Has P w K mg base "_law_letter" k ["pool", "base"] sp_letter)
    (G_law_forms : Has P w K mg base "_law_forms" k ["many"] sp_forms) (G_law_tuples : Has P w K mg base "_law_tuples" k ["many"] sp_tuples) (G_show_tree : Has P w K mg base "show_tree" k ["tree"] sp_show) (G_read_tree : Has P w K mg base "read_tree" k ["text"] sp_read) (G_is_tree : Has P w K mg base "is_tree" k ["thing"] sp_ist) :
    FnOk P w K mg base CX0 (k + 1) f fd ["script"] (sp_law K) := by
  refine F.ok sc_law (fun vs H Q E h => by obtain ⟨a, ns, rfl, _⟩ := h; rfl) (fun cdv A outer s H vs Q E hr h => ?_)
  obtain ⟨a, ns, rfl, hS, h63, q⟩ := h
  refine ⟨_, (pss_cons (ps_for PassesOwn.never rfl (pi_list (pe_callH G_law_cells hr rfl (pa_cons (pv 0) (pa_cons pe_int pa_nil)))) (pg_name (i := 1) sc_law.nd rfl (by first | exact Or.inl rfl | exact Or.inr rfl))
  (pss_cons (ps_set (i := 2) sc_law.nd rfl (by first | exact Or.inl rfl | exact Or.inr rfl) (pe_callH G_law_pool hr rfl (pa_cons (pv 1) pa_nil)))
  (pss_cons (ps_set (i := 3) sc_law.nd rfl (by first | exact Or.inl rfl | exact Or.inr rfl) (pe_tup (pa_cons (pe_callH G_law_take hr rfl (pa_cons (pv 2) (pa_cons pe_int pa_nil))) (pa_cons (pe_ix ix_list (pe_lst (pa_cons pe_int (pa_cons pe_int (pa_cons pe_int pa_nil)))) (pe_callH G_law_take hr rfl (pa_cons (pv 2) (pa_cons pe_int pa_nil))) (fun _ _ => rfl)) pa_nil))))
  (pss_cons (ps_set (i := 4) sc_law.nd rfl (by first | exact Or.inl rfl | exact Or.inr rfl) (pe_op op_add pe_int (pe_callH G_law_take hr rfl (pa_cons (pv 2) (pa_cons pe_int pa_nil)))))
  (pss_cons (ps_set (i := 5) sc_law.nd rfl (by first | exact Or.inl rfl | exact Or.inr rfl) (pe_bm PySem.F.plainAttrs_str PySem.F.slot_str_join PySem.F.type_str_join mt_join pe_str (pa_cons (pe_comp rfl (pi_range1 rfl B.range (pa_cons (pv 4) pa_nil)) (NL := ["k"]) (ix := [2, 3]) (csc (defScope s_law) N_law) (fun cl C s₃ H₃ fp pins => ⟨(pg_name (i := 0) (show List.Nodup (["k", "pool", "base"] : List Str) from by decide +kernel) rfl (by first | exact Or.inl rfl | exact Or.inr rfl)), pifs_nil, (pe_callH G_law_letter hr rfl (pa_cons (pv 1) (pa_cons (pv 2) pa_nil)))⟩)) pa_nil)))
  (pss_cons (ps_set (i := 6) sc_law.nd rfl (by first | exact Or.inl rfl | exact Or.inr rfl) pe_dnewK)
  (pss_cons (ps_for PassesOwn.never rfl (pi_list (pe_callH G_law_forms hr rfl (pa_cons (pv 4) pa_nil))) (pg_name (i := 7) sc_law.nd rfl (by first | exact Or.inl rfl | exact Or.inr rfl))
  (pss_cons (ps_set (i := 8) sc_law.nd rfl (by first | exact Or.inl rfl | exact Or.inr rfl) (pe_callH G_show_tree hr rfl (pa_cons (pe_tup (pa_cons (pv 7) (pa_cons (pv 5) pa_nil))) pa_nil)))
  (pss_cons (ps_if (PW.pt (pw_or (pt_cmpR op_isnotB (pe_callH G_is_tree hr rfl (pa_cons (pe_tup (pa_cons (pv 7) (pa_cons (pv 5) pa_nil))) pa_nil)) pe_bl (nomark _)) (pw_or (pt_cmp (pc_din (hu_of hr) (pv 8) (pv 6)) (by with_unfolding_all rfl)) (pw_or1 (pt_cmpR op_ne (pe_callB (call_repr_tree hr) rfl B.repr bt_repr (pa_cons (pe_callH G_read_tree hr rfl (pa_cons (pv 8) pa_nil)) pa_nil)) (pe_callB (call_repr_tree hr) rfl B.repr bt_repr (pa_cons (pe_tup (pa_cons (pv 7) (pa_cons (pv 5) pa_nil))) pa_nil)) (nomark _))))))
  (pss_one (ps_ret pe_bl))
  pss_nil)
  (pss_one (ps_dput (hu_of hr) (pv 6) (pv 8) pe_bl rfl)))))
  (pss_cons (ps_set (i := 9) sc_law.nd rfl (by first | exact Or.inl rfl | exact Or.inr rfl) (pe_callB (call_min2 rfl) rfl B.min bt_min (pa_cons (pv 4) (pa_cons pe_int pa_nil))))
  (pss_cons (ps_set (i := 10) sc_law.nd rfl (by first | exact Or.inl rfl | exact Or.inr rfl) (pe_callTy (call_dict_prsT (hu4_of hr) rfl) rfl B.dict_ bt_dict (pa_cons (pe_comp rfl (pi_list (pe_callH G_law_forms hr rfl (pa_cons (pv 9) pa_nil))) (NL := ["ups"]) (ix := []) (csc (defScope s_law) N_law) (fun cl C s₃ H₃ fp pins => ⟨(pg_name (i := 0) (show List.Nodup (["ups"] : List Str) from by decide +kernel) rfl (by first | exact Or.inl rfl | exact Or.inr rfl)), pifs_nil, (pe_tup (pa_cons (pv 0) (pa_cons pe_bl pa_nil)))⟩)) pa_nil)))
  (pss_one (ps_for PassesOwn.never rfl (pi_list (pe_callH G_law_tuples hr rfl (pa_cons (pv 9) pa_nil))) (pg_name (i := 7) sc_law.nd rfl (by first | exact Or.inl rfl | exact Or.inr rfl))
  (pss_cons (ps_set (i := 11) sc_law.nd rfl (by first | exact Or.inl rfl | exact Or.inr rfl) (pe_callH G_is_tree hr rfl (pa_cons (pe_tup (pa_cons (pv 7) (pa_cons (pe_slice sl_str (pv 5) po_none (po_some (pv 9))) pa_nil))) pa_nil)))
  (pss_one (ps_if (PW.pt (pw_or (pt_not (pt_val (pe_callB call_isinst rfl B.isinstance bt_isinstance (pa_cons (pv 11) (pa_cons (pe_bltn (v := .ty "bool") rfl B.bool_ bt_bool rfl) pa_nil))))) (pw_or1 (pt_cmpR op_ne (pv 11) (pe_cmp (pc_din (hu_of hr) (pv 7) (pv 10)) (by with_unfolding_all rfl)) (nomark _)))))
  (pss_one (ps_ret pe_bl))
  pss_nil))))))))))))))
  (pss_one (ps_ret pe_bl))), ?_⟩
  refine ⟨_, rfl, a, ns, 2, rfl, hS, h63, by decide, fun ms r H1 ml s1 hf1 hr1 => ?_⟩
  refine ⟨r, rfl, ⟨_, SqL.of hr1⟩, ?_⟩
  refine for_list (xs := ms.map V.int) (fun i σ H' => ∃ o1 o2 o3 o4 o5 o6 o7 o8 o9 o10 o11 : Option V, σ = [some (.ref a), o1, o2, o3, o4, o5, o6, o7, o8, o9, o10, o11] ∧ Same H1 H') ⟨none, none, none, none, none, none, none, none, none, none, none, rfl, Same.refl H1⟩ (fun i σ H' _ h => by obtain ⟨_, _, _, _, _, _, _, _, _, _, _, _, sX⟩ := h; exact SqL.of (sX _ _ hr1)) ?_ ?_
  · rintro i x σ H' hx ⟨o1, o2, o3, o4, o5, o6, o7, o8, o9, o10, o11, rfl, sX⟩
    obtain ⟨cell, _, rfl⟩ := List.mem_map.mp (List.mem_of_getElem? hx)
    refine ⟨_, rfl, cell, rfl, fun p x y hp => ?_⟩
    have dk0 : Deck (upd H' p (.lst [.int x, .int y, .int 0])) p 0 := ⟨x, y, 0, upd_same, by decide, by decide⟩
    have sp0 : Same H' (upd H' p (.lst [.int x, .int y, .int 0])) := (Same.refl H').new hp
    show (fun HH => _) (upd H' p (.lst [.int x, .int y, .int 0]))
    generalize upd H' p (.lst [.int x, .int y, .int 0]) = Hp0 at dk0 sp0
    refine ⟨_, rfl, p, 26, 0, rfl, dk0, by decide, by decide, by decide, fun b0 H2 b00 b01 kd2 => ?_⟩
    refine ⟨(by show 3 ≤ sizeLine; decide), fun l1 hl1 => ?_⟩
    have kq2 := kd2.new (o := .lst [.int 1, .int 3, .int 26]) hl1
    have l1p : l1 ≠ p := kd2.deck.ne hl1
    refine ⟨_, rfl, p, 3, _, rfl, kq2.deck, by decide, by decide, by decide, fun n3 H3 c0 c1 kd3 => ?_⟩
    obtain ⟨bb, hbb, bb1, bb26⟩ := menu (us := [1, 3, 26]) (n := n3) (lo := 1) (hi := 26) c0 c1 (by decide)
    refine ⟨l1, _, _, _, rfl, rfl, SqL.of (kd3.keep _ _ l1p upd_same), hbb, (by show 2 ≤ sizeLine; decide), fun bs hbs => ?_⟩
    have ku3 := kq2.trans kd3
    have kq3 := (ku3.new (o := .tup [.int b0, .int bb]) hbs)
    have bsp : bs ≠ p := ku3.deck.ne hbs
    have hb3 : upd H3 bs (.tup [.int b0, .int bb]) bs = some (.tup [.int b0, .int bb]) := upd_same
    show (fun HH => _) (upd H3 bs (.tup [.int b0, .int bb]))
    generalize upd H3 bs (.tup [.int b0, .int bb]) = H4 at kq3 hb3
    refine ⟨_, rfl, p, 6, _, rfl, kq3.deck, by decide, by decide, by decide, fun n6 H5 d0 d1 kd5 => ?_⟩
    refine ⟨_, _, rfl, rfl, ?_⟩
    have ku5 := kq3.trans kd5
    have hb5 := kd5.keep _ _ bsp hb3
    obtain ⟨m, em, m1, m6⟩ : ∃ m : Nat, 1 + n6 = (m : Int) ∧ 1 ≤ m ∧ m ≤ 6 := ⟨(1 + n6).toNat, by omega, by omega, by omega⟩
    -- labels
    refine ⟨rfl, _, rfl, _, rfl, by omega, by omega, fun sg0 hsg => ?_⟩
    have sgp : sg0 ≠ p := ku5.deck.ne hsg
    have bsg : bs ≠ sg0 := ne_of_none hb5 hsg
    have fsg : Hp0 sg0 = none := ku5.fresh hsg
    refine comp_by (1 + n6).toNat (by omega) (fun j ys H' => H' sg0 = some (.lst ys) ∧ ys.length = j ∧ Kd p (3 + j) Hp0 H' ∧ H' bs = some (.tup [.int b0, .int bb]) ∧ ∃ cs : List Nat, ys = oneV cs ∧ ∀ c ∈ cs, Lw c)
      (fun j ys H' h => ⟨h.1, by omega⟩) ⟨upd_same, rfl, (ku5.new hsg).mono (by omega), by rw [upd_ne bsg]; exact hb5, [], rfl, by simp⟩ ?_ ?_
    rotate_left
    · rintro j ys Hb' hj ⟨x1, x2, x3, x4, cs, rfl, x6⟩
      refine ⟨hj, ?_⟩
      rintro x H4' ⟨rfl, rfl⟩
      refine ⟨rfl, ?_⟩
      refine ⟨_, rfl, _, rfl, p, bs, _, b0, bb, rfl, x3.deck, by omega, x4, by omega, by omega, fun ch Hc chl kd => ?_⟩
      exact ⟨kd.keep _ _ sgp x1, upd_same, by rw [List.length_append, x2]; rfl, ((x3.trans kd).write fsg sgp).mono (by omega), by rw [upd_ne bsg]; exact kd.keep _ _ bsp x4, cs ++ [ch], by unfold oneV; rw [List.map_append]; rfl, low_app x6 chl⟩
    rintro ys H6 ⟨hs1, hs2, ku6, hb6, cs, rfl, lowc⟩
    refine ⟨Nat.le_refl _, ?_⟩
    rw [oneV_len] at hs2
    have hs1 : H6 sg0 = some (.lst ((cs.map fun c : Nat => (⟨#[c]⟩ : Str)).map V.str)) := by rw [List.map_map]; exact hs1
    have ej : Txt.join (Str.ofString "") (cs.map fun c : Nat => (⟨#[c]⟩ : Str)) = mk cs := str_ext (by rw [join_cps, List.map_map]; exact flat_one _)
    refine ⟨_, sg0, _, rfl, rfl, SqL.of hs1, ?_, ?_⟩
    · have sb := sum_le (ps := cs.map fun c : Nat => (⟨#[c]⟩ : Str)) (b := 1) (fun p hp => by
        obtain ⟨c, _, rfl⟩ := List.mem_map.mp hp
        exact Nat.le_refl _)
      have e0 : (Str.ofString "").length = 0 := rfl
      rw [List.length_map] at sb
      rw [e0, Nat.mul_zero, Nat.add_zero]
      omega
    rw [ej]
    have s6 : Same H' H6 := fun b o e => ku6.keep b o (ne_of_none e hp) (sp0 b o e)
    have cl : cs.length = m := by omega
    -- texts
    intro d hd
    have s7 : Same H' (upd H6 d (.dK [])) := s6.new hd
    have h7 : upd H6 d (.dK []) d = some (.dK (tkv cs [])) := upd_same
    have fd0 : H' d = none := s6.free hd
    show gName 6 (V.ref d) _ (upd H6 d (.dK [])) _
    generalize upd H6 d (.dK []) = H7 at s7 h7
    have mn : (mk cs).cps.toList = cs := rfl
    have mlen : (mk cs).length = m := by show cs.toArray.size = m; simp [cl]
    have fg : ∀ us ∈ forms (m - 1), GrOk us ∧ us.length = m := fun us hu => by
      have := forms_gr (m - 1) (by omega) us hu
      exact ⟨this.1, by omega⟩
    have tok : ∀ us, GrOk us → us.length = m → TreeOk us cs := fun us g l => gr_tree_of (z := mk cs) g (by omega) (by omega)
    have fnd := forms_nodup (m - 1) (by omega)
    have fl2 : (forms (m - 1)).length ≤ 120 := by
      have fl := forms_len (m - 1) (by omega)
      have : m - 1 = 0 ∨ m - 1 = 1 ∨ m - 1 = 2 ∨ m - 1 = 3 ∨ m - 1 = 4 ∨ m - 1 = 5 := by omega
      rcases this with e | e | e | e | e | e <;> rw [e] at fl ⊢ <;> simp at fl <;> omega
    refine ⟨_, rfl, m, (by show [V.int (1 + n6)] ++ [] = _; rw [em]; rfl), m1, m6, fun rf as H8 s8 frf hrf tf => ?_⟩
    have h8 := s8 _ _ h7
    have nrd : rf ≠ d := ne_of hrf h8 (by intro z; cases z)
    have al := tf.1
    refine ⟨rf, rfl, ⟨_, SqL.of hrf⟩, ?_⟩
    refine for_list (K := K) (a := rf) (xs := as.map V.ref) (fun j σ HX => ∃ o7' o8' : Option V, σ = [some (.ref a), some (.int cell), some (.ref p), some (.ref bs), some (.int (1 + n6)), some (.str (mk cs)), some (.ref d), o7', o8', o9, o10, o11] ∧ (∀ b o, b ≠ d → H8 b = some o → HX b = some o) ∧ HX d = some (.dK (tkv cs ((forms (m - 1)).take j))))
      ⟨_, _, rfl, fun b o _ e => e, h8⟩ (fun j σ HX _ h => by obtain ⟨_, _, _, kX, _⟩ := h; exact SqL.of (kX _ _ nrd hrf)) ?_ ?_
    · rintro j x σ HX hx ⟨o7', o8', rfl, kX, hdX⟩
      rw [List.getElem?_map] at hx
      cases e1 : as[j]? with
      | none => rw [e1] at hx; cases hx
      | some a1 =>
        rw [e1] at hx
        cases hx
        have jl : j < (forms (m - 1)).length := by rw [← al]; exact (List.getElem?_eq_some_iff.mp e1).1
        have e2 : (forms (m - 1))[j]? = some (forms (m - 1))[j] := List.getElem?_eq_getElem jl
        have hu8 := tf.2 j a1 _ e1 e2
        have huX := kX _ _ (ne_of hu8 h8 (by intro z; cases z)) hu8
        obtain ⟨g, ul⟩ := fg _ (List.getElem_mem jl)
        have nin : (forms (m - 1))[j] ∉ (forms (m - 1)).take j := fun z => by
          obtain ⟨n, hn, e⟩ := List.getElem_of_mem z
          rw [List.length_take] at hn
          rw [List.getElem_take] at e
          have := (List.getElem_inj fnd).mp e
          omega
        have nx : (forms (m - 1)).take (j + 1) = (forms (m - 1)).take j ++ [(forms (m - 1))[j]] := by rw [List.take_succ, e2]; rfl
        generalize (forms (m - 1))[j] = us at huX g ul nin nx
        have ok := tok us g ul
        have road : Road us := g.road
        refine ⟨_, rfl, _, rfl, (by show 2 ≤ sizeLine; decide), fun t1 ht1 => ?_⟩
        have sA : Same HX (upd HX t1 (.tup [.ref a1, .str (mk cs)])) := (Same.refl HX).new ht1
        have trA : TreeAt (upd HX t1 (.tup [.ref a1, .str (mk cs)])) t1 us (mk cs) := ⟨a1, upd_same, sA _ _ huX, ok⟩
        show (fun HH => _) (upd HX t1 (.tup [.ref a1, .str (mk cs)]))
        generalize upd HX t1 (.tup [.ref a1, .str (mk cs)]) = HA at sA trA
        refine ⟨t1, us, mk cs, rfl, trA, road, fun HB sB => ?_⟩
        have sXB := sA.trans sB
        refine ⟨_, rfl, _, rfl, (by show 2 ≤ sizeLine; decide), fun t2 ht2 => ?_⟩
        have sC : Same HB (upd HB t2 (.tup [.ref a1, .str (mk cs)])) := (Same.refl HB).new ht2
        have hC : upd HB t2 (.tup [.ref a1, .str (mk cs)]) t2 = some (.tup [.ref a1, .str (mk cs)]) := upd_same
        show (fun HH => _) (upd HB t2 (.tup [.ref a1, .str (mk cs)]))
        generalize upd HB t2 (.tup [.ref a1, .str (mk cs)]) = HC at sC hC
        have sXC := sXB.trans sC
        refine ⟨t2, a1, us, mk cs, rfl, hC, sXC _ _ huX, by omega, by omega, by omega, lowc, fun b HD sD hb => ?_⟩
        obtain rfl : b = true := hb.mpr g
        refine ⟨_, _, rfl, rfl, _, rfl, iteF ?_⟩
        have sXD := sXC.trans sD
        have nn := tkv_none (lab := cs) (fs := (forms (m - 1)).take j) (us := us) (fun vs hv e => by
          obtain ⟨g2, l2⟩ := fg vs (List.mem_of_mem_take hv)
          exact txt_inj ok road (tok vs g2 l2) g2.road lowc e) nin
        refine ⟨_, rfl, _, rfl, d, _, rfl, DGet.k (k := Sum.inr (mk (txt us cs))) (sXD _ _ hdX), _, rfl, ?_⟩
        rw [nn]
        refine iteF ?_
        refine ⟨_, rfl, us, mk cs, rfl, ok, road, lowc, fun t3 HE sE trE => ?_⟩
        have sXE := sXD.trans sE
        obtain ⟨u3, ht3, hu3, _⟩ := id trE
        have lc : ∀ c ∈ (mk cs).cps.toList, c < 1000 := fun c hc => by have := lowc c hc; unfold Lw at this; omega
        have cl2 : (mk cs).cps.toList.length ≤ 1000 := by rw [mn]; omega
        refine ⟨t3, u3, us, mk cs, rfl, SqT.of ht3, SqT.of hu3, ups_small ok, by omega, lc, cl2, ?_⟩
        refine ⟨_, rfl, _, rfl, (by show 2 ≤ sizeLine; decide), fun t4 ht4 => ?_⟩
        have sF : Same HE (upd HE t4 (.tup [.ref a1, .str (mk cs)])) := (Same.refl HE).new ht4
        have hF : upd HE t4 (.tup [.ref a1, .str (mk cs)]) t4 = some (.tup [.ref a1, .str (mk cs)]) := upd_same
        show (fun HH => _) (upd HE t4 (.tup [.ref a1, .str (mk cs)]))
        generalize upd HE t4 (.tup [.ref a1, .str (mk cs)]) = HF at sF hF
        have sXF := sXE.trans sF
        refine ⟨t4, a1, us, mk cs, rfl, SqT.of hF, SqT.of (sXF _ _ huX), ups_small ok, by omega, lc, cl2, rfl, _, rfl, iteN (by simp) ?_⟩
        have hdF := sXF _ _ hdX
        have tl : (tkv cs ((forms (m - 1)).take j)).length < sizeLine := by
          unfold tkv
          rw [List.length_map, List.length_take]
          exact small1000 (by omega)
        refine ⟨_, rfl, _, rfl, d, _, rfl, DPut.k (k := Sum.inr (mk (txt us cs))) hdF tl, ?_⟩
        refine ⟨_, _, rfl, fun b o nb e => by rw [upd_ne nb]; exact sXF _ _ (kX b o nb e), ?_⟩
        rw [upd_same, putK_new _ nn, nx]
        unfold tkv
        rw [List.map_append]; rfl
    · rintro σ HX ⟨o7', o8', rfl, kX, hdX⟩
      obtain ⟨q4, eq4, q1, q2, q3⟩ : ∃ q4 : Nat, (if (4 : Int) < 1 + n6 then (4 : Int) else 1 + n6) = (q4 : Int) ∧ 1 ≤ q4 ∧ q4 ≤ 4 ∧ q4 ≤ m := ⟨if 4 < m then 4 else m, by split <;> split <;> omega, by split <;> omega, by split <;> omega, by split <;> omega⟩
      have sX2 : Same H' HX := fun b o e => kX b o (ne_of_none e fd0) (s8 _ _ (s7 _ _ e))
      refine ⟨_, rfl, _, _, rfl, ?_⟩
      rw [eq4]
      refine ⟨_, rfl, q4, rfl, q1, by omega, fun rf2 as2 H9 s9 fr9 hrf9 tf9 => ?_⟩
      have al2 := tf9.1
      have fln : (forms (q4 - 1)).length ≤ 24 := by
        have fl := forms_len (q4 - 1) (by omega)
        have : q4 - 1 = 0 ∨ q4 - 1 = 1 ∨ q4 - 1 = 2 ∨ q4 - 1 = 3 := by omega
        rcases this with e | e | e | e <;> rw [e] at fl ⊢ <;> simp at fl <;> omega
      refine ⟨rf2, rfl, ⟨_, SqL.of hrf9⟩, fun acc hacc => ?_⟩
      refine comp_lst (K := K) (a := rf2) (xs := as2.map V.ref) (by rw [List.length_map]; omega) (fun j ys HY => Same H9 HY ∧ HY acc = some (.lst ys) ∧ ∃ ts : List Addr, ys = ts.map V.ref ∧ ts.length = j ∧ ∀ (i : Nat) t a, ts[i]? = some t → as2[i]? = some a → HY t = some (.tup [.ref a, .bl true]))
        (fun j ys HY h => SqL.of (h.1 _ _ hrf9)) (fun j ys HY h => by obtain ⟨_, h2, ts, rfl, tl, _⟩ := h; exact ⟨h2, by rw [List.length_map]; omega⟩) ⟨(Same.refl H9).new hacc, upd_same, [], rfl, rfl, fun i t a e => by cases e⟩ ?_ ?_
      · rintro ys HY ⟨sY, hY, ts, rfl, tl, hts⟩
        rw [List.length_map] at tl
        refine ⟨acc, ts, as2, fkv (forms (q4 - 1)), rfl, hY, by unfold fkv; rw [List.length_map]; omega, by unfold fkv; rw [List.length_map]; omega, fun j a b kk v x1 x2 x3 => ?_, fkv_nodup (forms_nodup _ (by omega)), by omega, fun dd hdd => ?_⟩
        · unfold fkv at x3
          rw [List.getElem?_map] at x3
          cases e3 : (forms (q4 - 1))[j]? with
          | none => rw [e3] at x3; cases x3
          | some us =>
            rw [e3] at x3
            cases x3
            exact ⟨hts j a b x1 x2, by rw [← kv_ints]; exact sY _ _ (tf9.2 j b us x2 e3)⟩
        have sZ : Same HX (upd HY dd (.dT (fkv (forms (q4 - 1))))) := (s9.trans sY).new hdd
        have hdZ : upd HY dd (.dT (fkv (forms (q4 - 1)))) dd = some (.dT (fkv (forms (q4 - 1)))) := upd_same
        show gName 10 (V.ref dd) _ (upd HY dd (.dT (fkv (forms (q4 - 1))))) _
        generalize upd HY dd (.dT (fkv (forms (q4 - 1)))) = HZ at sZ hdZ
        refine ⟨_, rfl, q4, rfl, q1, q2, fun rt at3 fs H10 s10 hrt t10 fit10 => ?_⟩
        have al3 := t10.1
        refine ⟨rt, rfl, ⟨_, SqL.of hrt⟩, ?_⟩
        refine for_list (K := K) (a := rt) (xs := at3.map V.ref) (fun j σ HW => ∃ o7'' o11' : Option V, σ = [some (.ref a), some (.int cell), some (.ref p), some (.ref bs), some (.int (1 + n6)), some (.str (mk cs)), some (.ref d), o7'', o8', some (.int (q4 : Int)), some (.ref dd), o11'] ∧ Same H10 HW)
          ⟨_, _, rfl, Same.refl H10⟩ (fun j σ HW _ h => by obtain ⟨_, _, _, sW⟩ := h; exact SqL.of (sW _ _ hrt)) ?_ ?_
        · rintro j x σ HW hx ⟨o7'', o11', rfl, sW⟩
          rw [List.getElem?_map] at hx
          cases e1 : at3[j]? with
          | none => rw [e1] at hx; cases hx
          | some a1 =>
            rw [e1] at hx
            cases hx
            have jl : j < fs.length := by rw [← al3]; exact (List.getElem?_eq_some_iff.mp e1).1
            have e2 : fs[j]? = some fs[j] := List.getElem?_eq_getElem jl
            have huW := sW _ _ (t10.2 j a1 _ e1 e2)
            obtain ⟨ul, ux⟩ := fit10 _ (List.getElem_mem jl)
            generalize fs[j] = us at huW ul ux
            have ec : cutS (mk cs) none (some (q4 : Int)) = mk (cs.take q4) := str_ext (cutS_to (mk cs) q4)
            have tl4 : (cs.take q4).length = q4 := by rw [List.length_take]; omega
            refine ⟨_, rfl, _, rfl, _, rfl, _, rfl, mk cs, rfl, ?_, ?_⟩
            · rw [mlen]; exact Nat.le_of_lt (small1000 (by omega))
            rw [ec]
            refine ⟨(by show 2 ≤ sizeLine; decide), fun t5 ht5 => ?_⟩
            have s5 : Same HW (upd HW t5 (.tup [.ref a1, .str (mk (cs.take q4))])) := (Same.refl HW).new ht5
            have h5 : upd HW t5 (.tup [.ref a1, .str (mk (cs.take q4))]) t5 = some (.tup [.ref a1, .str (mk (cs.take q4))]) := upd_same
            show (fun HH => _) (upd HW t5 (.tup [.ref a1, .str (mk (cs.take q4))]))
            generalize upd HW t5 (.tup [.ref a1, .str (mk (cs.take q4))]) = HV at s5 h5
            refine ⟨t5, a1, us, mk (cs.take q4), rfl, h5, s5 _ _ huW, ?_, by omega, by omega, (fun c hc => lowc c (List.mem_of_mem_take hc)), fun b HU sU hb => ?_⟩
            · rw [mk_len, tl4]; exact ul
            have sWU := s5.trans sU
            have hdU := sWU _ _ (sW _ _ (s10 _ _ hdZ))
            have huU := sWU _ _ huW
            have eb : b = decide (us ∈ forms (q4 - 1)) := by
              rw [Bool.eq_iff_iff, hb, decide_eq_true_eq]
              exact ⟨fun g => forms_all (q4 - 1) (by omega) us g (by omega), fun m => (forms_gr (q4 - 1) (by omega) us m).1⟩
            refine ⟨_, rfl, _, .type "bool", "bool", true, rfl, .bl _, kit_same _ _, _, rfl, iteF ?_⟩
            rw [kv_ints] at huU
            refine ⟨_, rfl, _, rfl, _, rfl, dd, _, rfl, DGet.t hdU huU, ?_⟩
            rw [fkv_in, ← eb]
            refine ⟨rfl, _, rfl, iteN (by simp) ?_⟩
            exact ⟨_, _, rfl, sW.trans sWU⟩
        · rintro σ HW ⟨o7'', o11', rfl, sW⟩
          exact ⟨_, _, _, _, _, _, _, _, _, _, _, rfl, sX.trans (sX2.trans (sZ.trans (s10.trans sW)))⟩
      · rintro j x ys HY hx ⟨sY, hY, ts, rfl, tl, hts⟩
        rw [List.getElem?_map] at hx
        cases e1 : as2[j]? with
        | none => rw [e1] at hx; cases hx
        | some a1 =>
          rw [e1] at hx
          cases hx
          refine ⟨rfl, ?_⟩
          refine ⟨_, rfl, (by show 2 ≤ sizeLine; decide), fun t6 ht6 => ?_⟩
          have s6' : Same HY (upd HY t6 (.tup [.ref a1, .bl true])) := (Same.refl HY).new ht6
          have h6' : upd HY t6 (.tup [.ref a1, .bl true]) t6 = some (.tup [.ref a1, .bl true]) := upd_same
          show (fun HH => _) (upd HY t6 (.tup [.ref a1, .bl true]))
          generalize upd HY t6 (.tup [.ref a1, .bl true]) = HT at s6' h6'
          have hT := s6' _ _ hY
          refine ⟨hT, (sY.trans s6').write hacc, upd_same, ts ++ [t6], by rw [List.map_append]; rfl, by rw [List.length_append, tl]; rfl, fun i t a x1 x2 => ?_⟩
          have ne : ∀ b xs, HT b = some (.tup xs) → upd HT acc (.lst (ts.map V.ref ++ [.ref t6])) b = some (.tup xs) := fun b xs e => by
            rw [upd_ne (ne_of e hT (by intro z; cases z))]; exact e
          rcases Nat.lt_or_ge i ts.length with lt | ge
          · rw [List.getElem?_append_left lt] at x1
            exact ne _ _ (s6' _ _ (hts i t a x1 x2))
          · rw [List.getElem?_append_right ge] at x1
            have ei : i = j := by
              have := (List.getElem?_eq_some_iff.mp x1).1
              simp at this
              omega
            subst ei
            rw [tl, Nat.sub_self] at x1
            cases x1
            rw [e1] at x2; cases x2
            exact ne _ _ h6'
  · rintro σ H' ⟨o1, o2, o3, o4, o5, o6, o7, o8, o9, o10, o11, rfl, sX⟩
    exact q H'
end
end S06


set_option Elab.async false
set_option linter.all false
set_option maxRecDepth 100000
set_option maxHeartbeats 8000000
namespace S06
open PySem L2 W7
theorem df_mk {K : PySem.W.Frag} {h : Heap} {mg : Str → Option Value} {x : Str} {st : Stmt} {f : Addr} {oc : Value} {od an : Option Addr} {osl : Array (Option Value)} {kV doc pm cdv ct : Value} (X : K.In h) (G : h.Ns mainGlobals mg)
    (a : PySem.W.nsIn K mainGlobals x = some (some (.ref f))) (l : K.lookup f = some ⟨oc, od, .func (PySem.W.fnOf x x (defArgs st) (defBody st) (defScope st) .none kV doc pm an cdv ct), osl⟩) (c : PySem.W.codeIn K cdv x = true) (kk : PySem.W.keepIn K (.ref f) = true) : Df K mg x st :=
  ⟨f, _, fun_mk l c kk, PySem.W.mg_of X G a⟩
theorem made_mkScan {K : PySem.W.Frag} {h : Heap} {mg : Str → Option Value} {C f1 f2 f3 f4 : Addr} (X : K.In h) (G : h.Ns mainGlobals mg) {od1 an1 od2 an2 od3 an3 od4 an4 : Option Addr} {sl1 sl2 sl3 sl4 : Array (Option Value)} {oc1 kV1 dc1 pm1 cd1 ct1 oc2 kV2 dc2 pm2 cd2 ct2 oc3 kV3 dc3 pm3 cd3 ct3 oc4 kV4 dc4 pm4 cd4 ct4 : Value}
    (aC : PySem.W.nsIn K mainGlobals "Scan" = some (some (.ref C)))
     (a1 : PySem.W.findIn K (.ref C) "__init__" = some (some (.ref f1))) (i1 : PySem.W.isFn K (.ref f1) = true) (l1 : K.lookup f1 = some ⟨oc1, od1, .func (PySem.W.fnOf "__init__" "Scan.__init__" (defArgs s_Scan___init__) (defBody s_Scan___init__) (defScope s_Scan___init__) .none kV1 dc1 pm1 an1 cd1 ct1), sl1⟩) (c1 : PySem.W.codeIn K cd1 "Scan.__init__" = true) (k1 : PySem.W.keepIn K (.ref f1) = true)
     (a2 : PySem.W.findIn K (.ref C) "can_take" = some (some (.ref f2))) (i2 : PySem.W.isFn K (.ref f2) = true) (l2 : K.lookup f2 = some ⟨oc2, od2, .func (PySem.W.fnOf "can_take" "Scan.can_take" (defArgs s_Scan_can_take) (defBody s_Scan_can_take) (defScope s_Scan_can_take) .none kV2 dc2 pm2 an2 cd2 ct2), sl2⟩) (c2 : PySem.W.codeIn K cd2 "Scan.can_take" = true) (k2 : PySem.W.keepIn K (.ref f2) = true)
     (a3 : PySem.W.findIn K (.ref C) "take" = some (some (.ref f3))) (i3 : PySem.W.isFn K (.ref f3) = true) (l3 : K.lookup f3 = some ⟨oc3, od3, .func (PySem.W.fnOf "take" "Scan.take" (defArgs s_Scan_take) (defBody s_Scan_take) (defScope s_Scan_take) .none kV3 dc3 pm3 an3 cd3 ct3), sl3⟩) (c3 : PySem.W.codeIn K cd3 "Scan.take" = true) (k3 : PySem.W.keepIn K (.ref f3) = true)
     (a4 : PySem.W.findIn K (.ref C) "is_done" = some (some (.ref f4))) (i4 : PySem.W.isFn K (.ref f4) = true) (l4 : K.lookup f4 = some ⟨oc4, od4, .func (PySem.W.fnOf "is_done" "Scan.is_done" (defArgs s_Scan_is_done) (defBody s_Scan_is_done) (defScope s_Scan_is_done) .none kV4 dc4 pm4 an4 cd4 ct4), sl4⟩) (c4 : PySem.W.codeIn K cd4 "Scan.is_done" = true) (k4 : PySem.W.keepIn K (.ref f4) = true)
    (pg : PySem.W.plainGet K C Str.empty = true) (hd : PySem.W.hasDictIn K C = true) (po : PySem.W.plainOver K C = true) (sa : PySem.W.findIn K (.ref C) "__setattr__" = some (some (.builtin "object.__setattr__"))) (mk : PySem.W.makesIn K C = true) (kc : PySem.W.keepIn K (.ref C) = true) (nups : PySem.W.findIn K (.ref C) "ups" = some none) (nletters : PySem.W.findIn K (.ref C) "letters" = some none) (nwithin : PySem.W.findIn K (.ref C) "within" = some none) (nlast : PySem.W.findIn K (.ref C) "last" = some none) : Made K mg :=
  ⟨C, f1, f2, f3, f4, _, _, _, _, ⟨⟨pg, hd, po, sa⟩, nups, nletters, nwithin, nlast, PySem.W.mg_of X G aC⟩, ⟨mk, a1, i1, kc⟩, fun_mk l1 c1 k1, ⟨a2, i2, k2⟩, fun_mk l2 c2 k2, ⟨a3, i3, k3⟩, fun_mk l3 c3 k3, ⟨a4, i4, k4⟩, fun_mk l4 c4 k4⟩
theorem blt_mk {K : PySem.W.Frag} {h : Heap} {mg : Str → Option Value} (X : K.In h) (G : h.Ns mainGlobals mg)
    (z1 : PySem.W.nsIn K mainGlobals "len" = some none) (z2 : PySem.W.nsIn K mainGlobals "range" = some none) (z3 : PySem.W.nsIn K mainGlobals "zip" = some none) (z4 : PySem.W.nsIn K mainGlobals "enumerate" = some none)
    (z5 : PySem.W.nsIn K mainGlobals "max" = some none) (z6 : PySem.W.nsIn K mainGlobals "min" = some none) (z7 : PySem.W.nsIn K mainGlobals "int" = some none) (z8 : PySem.W.nsIn K mainGlobals "str" = some none)
    (z9 : PySem.W.nsIn K mainGlobals "bool" = some none) (z10 : PySem.W.nsIn K mainGlobals "list" = some none) (z11 : PySem.W.nsIn K mainGlobals "tuple" = some none) (z12 : PySem.W.nsIn K mainGlobals "isinstance" = some none) : Blt mg :=
  ⟨PySem.W.mg_none_of X G z1, PySem.W.mg_none_of X G z2, PySem.W.mg_none_of X G z3, PySem.W.mg_none_of X G z4, PySem.W.mg_none_of X G z5, PySem.W.mg_none_of X G z6, PySem.W.mg_none_of X G z7, PySem.W.mg_none_of X G z8,
    PySem.W.mg_none_of X G z9, PySem.W.mg_none_of X G z10, PySem.W.mg_none_of X G z11, PySem.W.mg_none_of X G z12⟩
theorem all_ok {P : Program} {w : World} {K : PySem.W.Frag} {mg : Str → Option Value} {fa : Addr} (hfa : mg "law" = some (.ref fa)) (B : Blt7 mg)
    (d1 : Df K mg "is_whole" s_is_whole) (d2 : Df K mg "is_letters" s_is_letters) (d3 : Df K mg "is_tree" s_is_tree) (d4 : Df K mg "is_labels" s_is_labels) (d5 : Df K mg "is_ups" s_is_ups) (d6 : Df K mg "all_above" s_all_above) (d7 : Df K mg "deep_of" s_deep_of) (d8 : Df K mg "show_tree" s_show_tree) (d9 : Df K mg "read_tree" s_read_tree) (d10 : Df K mg "_law_prime" s_law_prime) (d11 : Df K mg "_law_pool" s_law_pool) (d12 : Df K mg "_law_take" s_law_take) (d13 : Df K mg "_law_letter" s_law_letter) (d14 : Df K mg "_law_cells" s_law_cells) (d15 : Df K mg "_law_forms" s_law_forms) (d16 : Df K mg "_law_tuples" s_law_tuples) (d17 : Df K mg "law" s_law) (M : Made K mg) :
    ∃ fd : FuncData, (∀ (s : Shared) (v : Value), BindsTo s fd ⟨[v], []⟩ [("script", v)]) ∧ ∀ base : Heap, FnOk P w K mg base CX0 12 fa fd ["script"] (sp_law K) := by
  obtain ⟨f, fd, F, m⟩ := d17
  have e := hfa.symm.trans m
  cases e
  refine ⟨fd, ?_, fun base => ?_⟩
  · obtain ⟨oc, od, kV, doc, pm, an, cdv, ct, osl, rfl, _, _⟩ := F.ex
    exact fun s v => .of_eq rfl
  have g_all := has_all (P := P) (w := w) (base := base) (k := 0) d6 B
  have g_deep := has_deep (k := 1) d7 B g_all
  have g_show := has_show (k := 2) d8 B g_deep
  have g_whole := has_whole (P := P) (w := w) (base := base) (k := 0) d1 B
  have g_letters := has_letters (P := P) (w := w) (base := base) (k := 0) d2 B
  have g_labels := has_labels (k := 1) d4 B g_letters
  have g_ups := has_ups (k := 1) d5 B g_whole g_all
  have g_ist := has_ist (k := 2) d3 B g_labels g_ups
  have g_read := has_read (P := P) (w := w) (base := base) (k := 0) d9 B M
  have g_cells := has_cells (P := P) (w := w) (base := base) (k := 0) d14 B
  have g_prime := has_prime (P := P) (w := w) (base := base) (k := 0) d10 B.toBlt
  have g_pool := has_pool (P := P) (w := w) (base := base) (k := 0) d11 B.toBlt
  have g_take := has_take (k := 1) d12 B.toBlt g_prime
  have g_letter := has_letter (k := 2) d13 B.toBlt g_take
  have g_forms := has_forms (P := P) (w := w) (base := base) (k := 0) d15 B
  have g_tuples := has_tuples (P := P) (w := w) (base := base) (k := 0) d16 B
  exact (ok_law (k := 4) F B (g_cells.mono (by decide)) (g_pool.mono (by decide)) (g_take.mono (by decide)) (g_letter.mono (by decide)) (g_forms.mono (by decide)) (g_tuples.mono (by decide)) (g_show.mono (by decide)) (g_read.mono (by decide)) (g_ist.mono (by decide))).mono (by decide)
end S06
open PySem PySem.W PyProof.Rows
set_option maxRecDepth 100000 in
set_option maxHeartbeats 0 in
theorem PySem.Challenge.cw_upwords_k06_forms_counted_holds : PySem.Challenge.rw_upwords_k06_forms_counted.Holds := by
  w_on; o_law; k_head; (case hw => w_witness2)
  k_fill
  refine L2.walk_ofK (l := PySem.Challenge.rw_upwords_k06_forms_counted) (n := 63) (k := 12) (x := "script") (CX := L2.CX0) (sp := S06.sp_law) rfl (by decide) rfl ⟨rfl, by decide, by decide, rfl⟩ (fun w h Y => PySem.W.kIn_of Y) ?F
    (fun K H a ns hl _ hS => ⟨a, ns, rfl, hS, hl, fun _ => rfl⟩) (fun _ _ _ _ z => z)
  case F =>
    intro w mg fa h KX G hmg
    have B : L2.Blt mg := by
      refine' S06.blt_mk KX G ?z1 ?z2 ?z3 ?z4 ?z5 ?z6 ?z7 ?z8 ?z9 ?z10 ?z11 ?z12
      (case z1 => k_is); (case z2 => k_is); (case z3 => k_is); (case z4 => k_is); (case z5 => k_is); (case z6 => k_is); (case z7 => k_is); (case z8 => k_is); (case z9 => k_is); (case z10 => k_is); (case z11 => k_is); (case z12 => k_is)
    have Bx0 : mg "repr" = none := by
      refine' PySem.W.mg_none_of KX G ?z
      (case z => k_is)
    have Bx1 : mg "all" = none := by
      refine' PySem.W.mg_none_of KX G ?z
      (case z => k_is)
    have Bx2 : mg "dict" = none := by
      refine' PySem.W.mg_none_of KX G ?z
      (case z => k_is)
    have Bx3 : ∃ u, mg "MOST_PLACES" = some u ∧ L2.RelV (.int 60) u := by
      refine' ⟨_, PySem.W.mg_of KX G ?z, ?r⟩
      (case z => k_is)
      (case r => exact ⟨_, rfl⟩)
    have Bx4 : ∃ u, mg "LETTERS" = some u ∧ L2.RelV (.str "abcdefghijklmnopqrstuvwxyz") u := by
      refine' ⟨_, PySem.W.mg_of KX G ?z, ?r⟩
      (case z => k_is)
      (case r => exact ⟨_, rfl⟩)
    have d1 : L2.Df (L2.KOf KX) mg "is_whole" S06.s_is_whole := by
      dsimp only [L2.KOf]; refine' S06.df_mk KX G ?a ?l ?c ?k
      (case a => k_is); (case l => k_is); (case c => k_is); (case k => k_is)
    have d2 : L2.Df (L2.KOf KX) mg "is_letters" S06.s_is_letters := by
      dsimp only [L2.KOf]; refine' S06.df_mk KX G ?a ?l ?c ?k
      (case a => k_is); (case l => k_is); (case c => k_is); (case k => k_is)
    have d3 : L2.Df (L2.KOf KX) mg "is_tree" S06.s_is_tree := by
      dsimp only [L2.KOf]; refine' S06.df_mk KX G ?a ?l ?c ?k
      (case a => k_is); (case l => k_is); (case c => k_is); (case k => k_is)
    have d4 : L2.Df (L2.KOf KX) mg "is_labels" S06.s_is_labels := by
      dsimp only [L2.KOf]; refine' S06.df_mk KX G ?a ?l ?c ?k
      (case a => k_is); (case l => k_is); (case c => k_is); (case k => k_is)
    have d5 : L2.Df (L2.KOf KX) mg "is_ups" S06.s_is_ups := by
      dsimp only [L2.KOf]; refine' S06.df_mk KX G ?a ?l ?c ?k
      (case a => k_is); (case l => k_is); (case c => k_is); (case k => k_is)
    have d6 : L2.Df (L2.KOf KX) mg "all_above" S06.s_all_above := by
      dsimp only [L2.KOf]; refine' S06.df_mk KX G ?a ?l ?c ?k
      (case a => k_is); (case l => k_is); (case c => k_is); (case k => k_is)
    have d7 : L2.Df (L2.KOf KX) mg "deep_of" S06.s_deep_of := by
      dsimp only [L2.KOf]; refine' S06.df_mk KX G ?a ?l ?c ?k
      (case a => k_is); (case l => k_is); (case c => k_is); (case k => k_is)
    have d8 : L2.Df (L2.KOf KX) mg "show_tree" S06.s_show_tree := by
      dsimp only [L2.KOf]; refine' S06.df_mk KX G ?a ?l ?c ?k
      (case a => k_is); (case l => k_is); (case c => k_is); (case k => k_is)
    have d9 : L2.Df (L2.KOf KX) mg "read_tree" S06.s_read_tree := by
      dsimp only [L2.KOf]; refine' S06.df_mk KX G ?a ?l ?c ?k
      (case a => k_is); (case l => k_is); (case c => k_is); (case k => k_is)
    have d10 : L2.Df (L2.KOf KX) mg "_law_prime" S06.s_law_prime := by
      dsimp only [L2.KOf]; refine' S06.df_mk KX G ?a ?l ?c ?k
      (case a => k_is); (case l => k_is); (case c => k_is); (case k => k_is)
    have d11 : L2.Df (L2.KOf KX) mg "_law_pool" S06.s_law_pool := by
      dsimp only [L2.KOf]; refine' S06.df_mk KX G ?a ?l ?c ?k
      (case a => k_is); (case l => k_is); (case c => k_is); (case k => k_is)
    have d12 : L2.Df (L2.KOf KX) mg "_law_take" S06.s_law_take := by
      dsimp only [L2.KOf]; refine' S06.df_mk KX G ?a ?l ?c ?k
      (case a => k_is); (case l => k_is); (case c => k_is); (case k => k_is)
    have d13 : L2.Df (L2.KOf KX) mg "_law_letter" S06.s_law_letter := by
      dsimp only [L2.KOf]; refine' S06.df_mk KX G ?a ?l ?c ?k
      (case a => k_is); (case l => k_is); (case c => k_is); (case k => k_is)
    have d14 : L2.Df (L2.KOf KX) mg "_law_cells" S06.s_law_cells := by
      dsimp only [L2.KOf]; refine' S06.df_mk KX G ?a ?l ?c ?k
      (case a => k_is); (case l => k_is); (case c => k_is); (case k => k_is)
    have d15 : L2.Df (L2.KOf KX) mg "_law_forms" S06.s_law_forms := by
      dsimp only [L2.KOf]; refine' S06.df_mk KX G ?a ?l ?c ?k
      (case a => k_is); (case l => k_is); (case c => k_is); (case k => k_is)
    have d16 : L2.Df (L2.KOf KX) mg "_law_tuples" S06.s_law_tuples := by
      dsimp only [L2.KOf]; refine' S06.df_mk KX G ?a ?l ?c ?k
      (case a => k_is); (case l => k_is); (case c => k_is); (case k => k_is)
    have d17 : L2.Df (L2.KOf KX) mg "law" S06.s_law := by
      dsimp only [L2.KOf]; refine' S06.df_mk KX G ?a ?l ?c ?k
      (case a => k_is); (case l => k_is); (case c => k_is); (case k => k_is)
    have M : S06.Made (L2.KOf KX) mg := by
      dsimp only [L2.KOf]; refine' S06.made_mkScan KX G ?aC ?a1 ?i1 ?l1 ?c1 ?k1 ?a2 ?i2 ?l2 ?c2 ?k2 ?a3 ?i3 ?l3 ?c3 ?k3 ?a4 ?i4 ?l4 ?c4 ?k4 ?pg ?hd ?po ?sa ?mk ?kc ?nups ?nletters ?nwithin ?nlast
      (case aC => k_is); (case a1 => k_is); (case i1 => k_is); (case l1 => k_is); (case c1 => k_is); (case k1 => k_is); (case a2 => k_is); (case i2 => k_is); (case l2 => k_is); (case c2 => k_is); (case k2 => k_is); (case a3 => k_is); (case i3 => k_is); (case l3 => k_is); (case c3 => k_is); (case k3 => k_is); (case a4 => k_is); (case i4 => k_is); (case l4 => k_is); (case c4 => k_is); (case k4 => k_is); (case pg => k_is); (case hd => k_is); (case po => k_is); (case sa => k_is); (case mk => k_is); (case kc => k_is); (case nups => k_is); (case nletters => k_is); (case nwithin => k_is); (case nlast => k_is)
    obtain ⟨fd, h1, h2⟩ := S06.all_ok (P := PySem.Challenge.rw_upwords_k06_forms_counted.prog) (w := w) hmg ⟨B, Bx0, Bx1, Bx2, Bx3, Bx4⟩ d1 d2 d3 d4 d5 d6 d7 d8 d9 d10 d11 d12 d13 d14 d15 d16 d17 M
    exact ⟨fd, h1, fun base _ _ => h2 base⟩

