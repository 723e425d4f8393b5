import PyProof.Rows.All
import Wide.All
import OpenK.AllK
import Wide.FinOn
import Lean
import PyProof.EqAt
import PyProof.EqKinds
import PyProof.TupleCall
import PyProof.NeKinds
import PyProof.NeData
import PySem.Challenge.RW_touchall_k30_what_a_chain_names
-- CHANGE: your row's module here, as the last of these rows
set_option Elab.async false
set_option linter.all false
set_option maxRecDepth 100000
/-! THE HAND LAYER, for ints, bools, texts, own classes, LISTS and tuples (index, slices, in, append, pop ..), calls, loops. Paste it whole ahead of your own text; what your proof does not reach may be deleted. -/
namespace L2
open PySem PySem.Spec PyProof.Rows

/-- a key: an int or a str -/
abbrev Key := Sum Int Str
def keyIs : Key → Value → Bool
  | .inl k, v => Value.isInt k v
  | .inr x, v => Value.isStrOf x v
def keyH (w : World) : Key → Int
  | .inl k => hashInt k
  | .inr x => hashStr w x
theorem keyIs_shape : ∀ {k : Key} {v : Value}, keyIs k v = true → (∃ i t, k = Sum.inl i ∧ v = Value.int i t) ∨ (∃ x t, k = Sum.inr x ∧ v = Value.str x t)
  | .inl i, v, h => by
    obtain ⟨t, e⟩ := Value.isInt_shape (k := i) (v := v) h
    exact .inl ⟨i, t, rfl, e⟩
  | .inr x, v, h => by
    obtain ⟨t, e⟩ := Value.isStrOf_shape (x := x) (v := v) h
    exact .inr ⟨x, t, rfl, e⟩
theorem keyIs_int (i : Int) (t : Tok) : keyIs (.inl i) (.int i t) = true := by simp [keyIs, Value.isInt]
theorem keyIs_str (x : Str) (t : Tok) : keyIs (.inr x) (.str x t) = true := by simp [keyIs, Value.isStrOf]
theorem key_ll (a b : Int) : decide ((Sum.inl a : Key) = Sum.inl b) = (a == b) := by
  by_cases e : a = b
  · subst e; simp
  · have h : ¬ (Sum.inl a : Key) = Sum.inl b := fun q => e (Sum.inl.inj q)
    rw [decide_eq_false h]
    exact (beq_eq_false_iff_ne.mpr e).symm
theorem key_rr (a b : Str) : decide ((Sum.inr a : Key) = Sum.inr b) = decide (a = b) := by
  by_cases e : a = b
  · subst e; simp
  · have h : ¬ (Sum.inr a : Key) = Sum.inr b := fun q => e (Sum.inr.inj q)
    rw [decide_eq_false h, decide_eq_false e]
theorem key_lr (a : Int) (b : Str) : decide ((Sum.inl a : Key) = Sum.inr b) = false := decide_eq_false (fun q => nomatch q)
theorem key_rl (a : Str) (b : Int) : decide ((Sum.inr a : Key) = Sum.inl b) = false := decide_eq_false (fun q => nomatch q)

def mixKind (prog : Program) (w : World) : PySem.KeyKind prog w Key where
  is := keyIs
  hash := keyH w
  inj := fun v a b ha hb => by
    rcases keyIs_shape ha with ⟨i, t, rfl, rfl⟩ | ⟨x, t, rfl, rfl⟩
    · rcases keyIs_shape hb with ⟨j, u, rfl, e⟩ | ⟨y, u, rfl, e⟩
      · injection e with e1 _; rw [e1]
      · exact nomatch e
    · rcases keyIs_shape hb with ⟨j, u, rfl, e⟩ | ⟨y, u, rfl, e⟩
      · exact nomatch e
      · injection e with e1 _; rw [e1]
  byValue := fun k v h => by
    rcases keyIs_shape h with ⟨i, t, rfl, rfl⟩ | ⟨x, t, rfl, rfl⟩ <;> rfl
  pyHash := fun hv h => by
    rcases keyIs_shape hv with ⟨i, t, rfl, rfl⟩ | ⟨x, t, rfl, rfl⟩
    · exact wpAny_pyHash_int h
    · exact wpAny_pyHash_str h
  eqBool := fun hu hv h => by
    rcases keyIs_shape hu with ⟨i, t, rfl, rfl⟩ | ⟨x, t, rfl, rfl⟩
    · rcases keyIs_shape hv with ⟨j, u, rfl, rfl⟩ | ⟨y, u, rfl, rfl⟩
      · rw [key_ll] at h; exact wpAny_eqBool_int h
      · rw [key_lr] at h; exact SeqAt.EqAt.int_str i t y u _ _ _ _ h
    · rcases keyIs_shape hv with ⟨j, u, rfl, rfl⟩ | ⟨y, u, rfl, rfl⟩
      · rw [key_rl] at h; exact SeqAt.EqAt.str_int x t j u _ _ _ _ h
      · rw [key_rr] at h; exact wpAny_eqBool_str h
  «strs» := fun k x t v h => by
    rcases keyIs_shape h with ⟨i, u, rfl, e⟩ | ⟨y, u, rfl, e⟩
    · exact nomatch e
    · injection e with e1 _
      subst e1
      cases v <;> rfl

theorem mixKind_is (prog : Program) (w : World) (k : Key) (v : Value) : (mixKind prog w).is k v = keyIs k v := rfl
theorem mixKind_int (prog : Program) (w : World) (i : Int) (t : Tok) : (mixKind prog w).is (.inl i) (.int i t) = true := keyIs_int i t
theorem mixKind_str (prog : Program) (w : World) (x : Str) (t : Tok) : (mixKind prog w).is (.inr x) (.str x t) = true := keyIs_str x t
end L2

namespace L2
open PySem PySem.Spec PyProof.Rows

/-- a value, without the heap -/
inductive V where
  | non | bl (b : Bool) | int (i : Int) | str (x : Str) | byt (b : Array UInt8) | flt (b : UInt64) | ref (a : Addr) | ty (n : String)
  deriving DecidableEq

def RelV : V → Value → Prop
  | .non, u => u = Value.none
  | .bl b, u => u = Value.bool b
  | .int i, u => ∃ t, u = Value.int i t
  | .str x, u => ∃ t, u = Value.str x t
  | .byt b, u => ∃ t, u = Value.bytes b t
  | .flt b, u => ∃ t, u = Value.float b t
  | .ref a, u => u = Value.ref a
  | .ty n, u => u = Value.type n

abbrev Vals : List V → List Value → Prop := Paired RelV
theorem Vals.length {xs : List V} {us : List Value} (r : Vals xs us) : xs.length = us.length := Paired.length r
theorem Vals.get : ∀ {xs : List V} {us : List Value} {i : Nat} {x : V}, Vals xs us → xs[i]? = some x → ∃ u, us[i]? = some u ∧ RelV x u
  | _, _, _, _, .nil, e => by simp at e
  | _, _, 0, _, .cons r _, e => by simp at e; subst e; exact ⟨_, rfl, r⟩
  | _, _, i + 1, x, .cons _ t, e => by
    obtain ⟨u, h1, h2⟩ := Vals.get (i := i) (x := x) t (by simpa using e)
    exact ⟨u, by simpa using h1, h2⟩
theorem Vals.set {x : V} {u : Value} (r : RelV x u) : ∀ {xs : List V} {us : List Value} (i : Nat), Vals xs us → Vals (xs.set i x) (us.set i u)
  | _, _, _, .nil => .nil
  | _, _, 0, .cons _ t => .cons r t
  | _, _, i + 1, .cons q t => .cons q (Vals.set r i t)
theorem Vals.append : ∀ {xs ys : List V} {us ws : List Value}, Vals xs us → Vals ys ws → Vals (xs ++ ys) (us ++ ws)
  | _, _, _, _, .nil, s => s
  | _, _, _, _, .cons r t, s => .cons r (Vals.append t s)
theorem Vals.take : ∀ {xs : List V} {us : List Value} (n : Nat), Vals xs us → Vals (xs.take n) (us.take n)
  | _, _, 0, _ => .nil
  | _, _, _ + 1, .nil => .nil
  | _, _, n + 1, .cons r t => .cons r (Vals.take n t)
theorem Vals.drop : ∀ {xs : List V} {us : List Value} (n : Nat), Vals xs us → Vals (xs.drop n) (us.drop n)
  | _, _, 0, r => r
  | _, _, _ + 1, .nil => .nil
  | _, _, n + 1, .cons _ t => Vals.drop n t
theorem Vals.none_of : ∀ {xs : List V} {us : List Value} {i : Nat}, Vals xs us → xs[i]? = none → us[i]? = none := fun {xs us i} r e => by
  have h1 := r.length
  have h2 : xs.length ≤ i := List.getElem?_eq_none_iff.mp e
  exact List.getElem?_eq_none_iff.mpr (by omega)

def RelO : Option V → Option Value → Prop
  | some v, some u => RelV v u
  | none, none => True
  | _, _ => False
def KV {κ : Type} : List (κ × V) → List (κ × Value) → Prop := Paired fun (p : κ × V) (q : κ × Value) => p.1 = q.1 ∧ RelV p.2 q.2

/-- a key of a dict (00_mix): an int or a text -/
def kV : Key → V
  | .inl i => .int i
  | .inr x => .str x

/-- what stands at a tracked address -/
inductive HO where
  /-- a list -/
  | lst (xs : List V)
  /-- a tuple (never changes) -/
  | tup (xs : List V)
  /-- a dict whose keys are ints and texts; one whose keys are tuples of ints and texts (the empty one is both) -/
  | dK (kvs : List (Key × V)) | dT (kvs : List (List Key × V))
  /-- a set of ints: its members, its size -/
  | set (S : Int → Bool) (n : Nat)
  /-- an instance of the class at C, its dict at dx, its attributes -/
  | ins (C dx : Addr) (fs : List (Str × V))
  /-- the dict of the instance at x -/
  | own (x : Addr)
  /-- the dict of an exception -/
  | xd (fs : List (Str × V))
  /-- a bound method, f of x -/
  | met (f x : Addr)
  /-- a range object lo, lo + 1, .. below hi -/
  | rng (lo hi : Int)
  /-- a thing that is known to the object (the script; a dict while a loop walks it): read, never written while it is so -/
  | frz (o : Obj) (u : HO)
  /-- a code object's table -/
  | tbl (ps : Array Value)
  /-- any other thing, by what is true of its one object (a def of one's own: SetO a S n := HO.ext fun h => ..) -/
  | ext (φ : Heap → Prop)

abbrev Hp := Addr → Option HO
def upd (H : Hp) (a : Addr) (o : HO) : Hp := fun b => if b = a then some o else H b
theorem upd_same {H : Hp} {a : Addr} {o : HO} : upd H a o a = some o := by unfold upd; rw [if_pos rfl]
theorem upd_ne {H : Hp} {a b : Addr} {o : HO} (h : b ≠ a) : upd H a o b = H b := by unfold upd; rw [if_neg h]
theorem upd_upd {H : Hp} {a : Addr} {o u : HO} : upd (upd H a o) a u = upd H a u := by
  funext b; unfold upd; split <;> rfl
/-- two objects of different content stand apart -/
theorem ne_of {H : Hp} {a b : Addr} {o u : HO} (h : H a = some o) (h' : H b = some u) (d : o ≠ u) : a ≠ b := by
  intro e; subst e; rw [h] at h'; exact d (Option.some.inj h')
theorem ne_of_none {H : Hp} {a b : Addr} {o : HO} (h : H a = some o) (h' : H b = none) : a ≠ b := by
  intro e; subst e; rw [h] at h'; cases h'

section
variable (P : Program) (w : World)
def ObjOk (H : Hp) (h : Heap) (a : Addr) : HO → Prop
  | .lst xs => xs.length ≤ sizeLine ∧ ∃ (its : List Value) (n : Nat), Vals xs its ∧ h.get? a = some { cls := .type "list", data := .seq its.toArray n }
  | .tup xs => xs.length ≤ sizeLine ∧ ∃ its : List Value, Vals xs its ∧ IsTup h a its.toArray
  | .dK kvs => kvs.length ≤ sizeLine ∧ (a == sysModules) = false ∧ ∃ vs, KV kvs vs ∧ h.DictOf (mixKind P w) a vs
  | .dT kvs => kvs.length ≤ sizeLine ∧ (a == sysModules) = false ∧ ∃ xs : List (List Key × Addr × Value),
      Paired (fun (p : List Key × V) (q : List Key × Addr × Value) => p.1 = q.1 ∧ H q.2.1 = some (.tup (p.1.map kV)) ∧ RelV p.2 q.2.2) kvs xs ∧
      ∃ o es ep, h.get? a = some o ∧ o.ExactDict ∧ o.data = .dict es ep ∧ es.toList = xs.map (entryOfKey (tupleKind (mixKind P w))) ∧ (xs.map (·.1)).Nodup
  | .set S n => h.SetOf (intKind P w) a S n
  | .ins C dx fs => H dx = some (.own a) ∧ fs.length ≤ 1000 ∧ dx ≠ a ∧ h.get? a = some (PySem.W.instObj C dx) ∧
      ∃ mA, h.Ns1 dx mA ∧ (∀ f, RelO (fs.lookup f) (mA f)) ∧ PySem.Within mA (fs.map (·.1))
  | .own _ => ∃ o, h.get? a = some o
  | .xd fs => ∃ mA, h.Ns1 a mA ∧ ∀ f, RelO (fs.lookup f) (mA f)
  | .rng lo hi => ∃ t u v, h.get? a = some { cls := .type "range", data := .fields #[.int lo t, .int hi u, .int 1 v] }
  | .frz o u => h.get? a = some o ∧ ObjOk H h a u
  | .tbl ps => h.get? a = some { cls := .none, data := .fields ps }
  | .met f x => h.get? a = some (PySem.W.methodObj (.ref f) (.ref x))
  | .ext φ => φ h ∧ (∃ o, h.get? a = some o) ∧ ∀ h1 h2 : Heap, φ h1 → (∀ o, h1.get? a = some o → h2.get? a = some o) → φ h2
/-- the abstract heap is held -/
def HOk (H : Hp) (h : Heap) : Prop := ∀ a o, H a = some o → ObjOk P w H h a o
end

section
variable {P : Program} {w : World} {H H' : Hp} {h h' : Heap} {a : Addr} {o : HO}
theorem ObjOk.lt (x : ObjOk P w H h a o) : a < h.objs.size := by
  cases o with
  | lst xs => obtain ⟨_, _, _, _, e⟩ := x; exact Heap.lt_size e
  | tup xs => obtain ⟨_, _, _, p⟩ := x; exact p.lt
  | dK kvs => obtain ⟨_, _, _, _, o, _, _, e, _⟩ := x; exact Heap.lt_size e
  | dT kvs => obtain ⟨_, _, _, _, o, _, _, e, _⟩ := x; exact Heap.lt_size e
  | set S n => obtain ⟨o, _, _, _, e, _⟩ := x; exact Heap.lt_size e
  | ins C dx fs => obtain ⟨_, _, _, e, _⟩ := x; exact Heap.lt_size e
  | own y => obtain ⟨_, e⟩ := x; exact Heap.lt_size e
  | xd fs => obtain ⟨_, ⟨_, _, _, e, _⟩, _⟩ := x; exact Heap.lt_size e
  | rng lo hi => obtain ⟨_, _, _, e⟩ := x; exact Heap.lt_size e
  | frz ob u => obtain ⟨e, _⟩ := x; exact Heap.lt_size e
  | tbl ps => exact Heap.lt_size (show h.get? a = some _ from x)
  | met f y => exact Heap.lt_size (show h.get? a = some _ from x)
  | ext φ => obtain ⟨_, ⟨_, e⟩, _⟩ := x; exact Heap.lt_size e
theorem Paired.mapP {α β : Type} {F G : α → β → Prop} : ∀ {l₁ : List α} {l₂ : List β}, Paired F l₁ l₂ → (∀ a b, F a b → G a b) → Paired G l₁ l₂
  | _, _, .nil, _ => .nil
  | _, _, .cons r t, f => .cons (f _ _ r) (Paired.mapP t f)
theorem Paired.imp' {α β : Type} {F G : α → β → Prop} (f : ∀ a b, F a b → G a b) {l₁ : List α} {l₂ : List β} (r : Paired F l₁ l₂) : Paired G l₁ l₂ := Paired.mapP r f
/-- what an object's description leans on: its own object, its own dict, the tuples -/
theorem ObjOk.stay (x : ObjOk P w H h a o) (k : ∀ b u, (b = a ∨ H b = some (.own a)) → h.get? b = some u → h'.get? b = some u)
    (ho : ∀ b, H b = some (.own a) → H' b = some (.own a)) (ht : ∀ b xs, H b = some (.tup xs) → H' b = some (.tup xs)) : ObjOk P w H' h' a o := by
  induction o with
  | lst xs => obtain ⟨z, its, n, r, e⟩ := x; exact ⟨z, its, n, r, k _ _ (.inl rfl) e⟩
  | tup xs => obtain ⟨z, its, r, ob, e, c⟩ := x; exact ⟨z, its, r, ob, k _ _ (.inl rfl) e, c⟩
  | dK kvs => obtain ⟨z, y, vs, r, ob, es, ep, e, c⟩ := x; exact ⟨z, y, vs, r, ob, es, ep, k _ _ (.inl rfl) e, c⟩
  | dT kvs =>
    obtain ⟨z, y, xs, r, ob, es, ep, e, c⟩ := x
    exact ⟨z, y, xs, Paired.mapP r fun p q z => ⟨z.1, ht _ _ z.2.1, z.2.2⟩, ob, es, ep, k _ _ (.inl rfl) e, c⟩
  | set S n => obtain ⟨ob, es, ep, t, e, c⟩ := x; exact ⟨ob, es, ep, t, k _ _ (.inl rfl) e, c⟩
  | ins C dx fs =>
    obtain ⟨d, z, ne, e, mA, ⟨od, es, ep, e2, c⟩, r⟩ := x
    exact ⟨ho _ d, z, ne, k _ _ (.inl rfl) e, mA, ⟨od, es, ep, k _ _ (.inr d) e2, c⟩, r⟩
  | own y => obtain ⟨ob, e⟩ := x; exact ⟨ob, k _ _ (.inl rfl) e⟩
  | xd fs => obtain ⟨mA, ⟨od, es, ep, e, c⟩, r⟩ := x; exact ⟨mA, ⟨od, es, ep, k _ _ (.inl rfl) e, c⟩, r⟩
  | rng lo hi => obtain ⟨t, u, v, e⟩ := x; exact ⟨t, u, v, k _ _ (.inl rfl) e⟩
  | frz ob u ih => obtain ⟨e, q⟩ := x; exact ⟨k _ _ (.inl rfl) e, ih q⟩
  | tbl ps =>
    have e : h.get? a = some { cls := .none, data := .fields ps } := x
    show h'.get? a = some { cls := .none, data := .fields ps }
    exact k a _ (.inl rfl) e
  | met f y =>
    have e : h.get? a = some (PySem.W.methodObj (.ref f) (.ref y)) := x
    show h'.get? a = some (PySem.W.methodObj (.ref f) (.ref y))
    exact k a _ (.inl rfl) e
  | ext φ => obtain ⟨p, ⟨o, e⟩, st⟩ := x; exact ⟨st _ _ p fun o q => k _ _ (.inl rfl) q, ⟨o, k _ _ (.inl rfl) e⟩, st⟩
theorem HOk.lt (x : HOk P w H h) (e : H a = some o) : a < h.objs.size := (x a o e).lt
theorem HOk.fresh (x : HOk P w H h) (e : h.objs.size ≤ a) : H a = none := by
  cases q : H a with
  | none => rfl
  | some u => exact absurd (Nat.lt_of_lt_of_le (x.lt q) e) (Nat.lt_irrefl _)
/-- every object of the heap is kept -/
theorem HOk.kept (x : HOk P w H h) (k : ∀ b u, h.get? b = some u → h'.get? b = some u) : HOk P w H h' := fun a o e =>
  (x a o e).stay (fun b u _ q => k b u q) (fun _ q => q) fun _ _ q => q
/-- a new object is laid and tracked -/
theorem HOk.laid (x : HOk P w H h) (k : ∀ b u, h.get? b = some u → h'.get? b = some u) (hp : h.objs.size ≤ a) (new : ObjOk P w (upd H a o) h' a o) : HOk P w (upd H a o) h' := fun b u e => by
  have hn := x.fresh hp
  by_cases hb : b = a
  · subst hb; rw [upd_same] at e; cases e; exact new
  · rw [upd_ne hb] at e
    exact (x b u e).stay (fun c v _ q => k c v q) (fun c q => by rw [upd_ne (ne_of_none q hn)]; exact q) fun c xs q => by rw [upd_ne (ne_of_none q hn)]; exact q
end

/-- what may be read as u: it is u, or a known u -/
def Rd (H : Hp) (a : Addr) (u : HO) : Prop := H a = some u ∨ ∃ o, H a = some (.frz o u)
theorem Rd.of {H : Hp} {a : Addr} {u : HO} (h : H a = some u) : Rd H a u := .inl h
theorem Rd.ok {P : Program} {w : World} {H : Hp} {h : Heap} {a : Addr} {u : HO} (r : Rd H a u) (x : HOk P w H h) : ObjOk P w H h a u := by
  rcases r with r | ⟨o, r⟩
  · exact x a u r
  · obtain ⟨_, q⟩ := x a _ r
    exact q
/-- what may be written -/
def Mut : Option HO → Prop
  | some (.lst _) => True
  | some (.dK _) => True
  | some (.dT _) => True
  | some (.set _ _) => True
  | some (.ins _ _ _) => True
  | some (.ext _) => True
  | _ => False
section
variable {P : Program} {w : World} {H : Hp} {h h' : Heap} {x e : Addr} {o' : HO}
/-- the object at e is changed: x itself, or the dict of the instance x -/
theorem HOk.write (ok : HOk P w H h) (mu : Mut (H x)) (he : e = x ∨ H e = some (.own x)) (k : ∀ b u, b ≠ e → h.get? b = some u → h'.get? b = some u) (heo : ∃ u, h'.get? e = some u)
    (new : ObjOk P w (upd H x o') h' x o') : HOk P w (upd H x o') h' := fun b u q => by
  have nown : ∀ c y, H c = some (.own y) → c ≠ x := fun c y r z => by subst z; rw [r] at mu; exact mu
  have ntup : ∀ c xs, H c = some (.tup xs) → c ≠ x := fun c xs r z => by subst z; rw [r] at mu; exact mu
  by_cases hb : b = x
  · subst hb; rw [upd_same] at q; cases q; exact new
  · rw [upd_ne hb] at q
    by_cases hbe : b = e
    · have q' : H b = some (.own x) := by
        rcases he with z | z
        · exact absurd (hbe.trans z) hb
        · rw [hbe]; exact z
      rw [q] at q'; cases q'
      obtain ⟨v, hv⟩ := heo
      exact ⟨v, by rw [hbe]; exact hv⟩
    · refine (ok b u q).stay (fun c v hc r => k c v ?_ r) (fun c r => by rw [upd_ne (nown c b r)]; exact r) fun c xs r => by rw [upd_ne (ntup c xs r)]; exact r
      rcases hc with rfl | hc
      · exact hbe
      · rintro rfl
        rcases he with z | z
        · exact nown c b hc z
        · rw [hc] at z; cases z; exact hb rfl
end

/-! ### kept unless tracked; of the frames at fs (the callers') the slots may change (an exception that passes writes there); of the records at ex (iterators) nothing is said -/
structure Un (fs ex : List Addr) (H H' : Hp) (h h' : Heap) : Prop where
  keep : ∀ b o, h.get? b = some o → H b = none → b ∉ fs → b ∉ ex → h'.get? b = some o
  slot : ∀ b o, h.get? b = some o → H b = none → b ∈ fs → b ∉ ex → ∃ sl, h'.get? b = some { o with slots := sl }
  free : ∀ b o, h.get? b = some o → H b = none → b ∉ ex → H' b = none
  there : ∀ b o, h.get? b = some o → b ∉ ex → ∃ o', h'.get? b = some o'
  tups : ∀ b xs, H b = some (.tup xs) → H' b = some (.tup xs)
  frzs : ∀ b o u, H b = some (.frz o u) → H' b = some (.frz o u)
  tbls : ∀ b ps, H b = some (.tbl ps) → ∃ more, H' b = some (.tbl (ps ++ more))
section
variable {fs fs' ex ex' : List Addr} {H H1 H2 : Hp} {h h1 h2 h' : Heap} {a x e : Addr} {o : HO}
theorem Un.any (u : Un fs ex H H1 h h1) {b : Addr} {ob : Obj} (q : h.get? b = some ob) (n : H b = none) (hx : b ∉ ex) : ∃ sl, h1.get? b = some { ob with slots := sl } := by
  by_cases hb : b ∈ fs
  · exact u.slot b ob q n hb hx
  · exact ⟨ob.slots, u.keep b ob q n hb hx⟩
theorem Un.trans (a : Un fs ex H H1 h h1) (b : Un fs ex H1 H2 h1 h2) : Un fs ex H H2 h h2 where
  keep := fun c ob q n hc hx => b.keep c ob (a.keep c ob q n hc hx) (a.free c ob q n hx) hc hx
  slot := fun c ob q n hc hx => by
    obtain ⟨sl, e1⟩ := a.slot c ob q n hc hx
    obtain ⟨sl', e2⟩ := b.slot c _ e1 (a.free c ob q n hx) hc hx
    exact ⟨sl', e2⟩
  free := fun c ob q n hx => by
    obtain ⟨o', e1⟩ := a.there c ob q hx
    exact b.free c o' e1 (a.free c ob q n hx) hx
  there := fun c ob q hx => by
    obtain ⟨o', e1⟩ := a.there c ob q hx
    exact b.there c o' e1 hx
  tups := fun c xs q => b.tups c xs (a.tups c xs q)
  frzs := fun c ob xs q => b.frzs c ob xs (a.frzs c ob xs q)
  tbls := fun c ps q => by
    obtain ⟨m1, e1⟩ := a.tbls c ps q
    obtain ⟨m2, e2⟩ := b.tbls c _ e1
    exact ⟨m1 ++ m2, by rw [e2, Array.append_assoc]⟩
theorem Un.kept (k : ∀ b u, h.get? b = some u → h'.get? b = some u) : Un fs ex H H h h' :=
  ⟨fun b ob q _ _ _ => k b ob q, fun b ob q _ _ _ => ⟨ob.slots, k b ob q⟩, fun _ _ _ n _ => n, fun b ob q _ => ⟨ob, k b ob q⟩, fun _ _ q => q, fun _ _ _ q => q, fun _ ps q => ⟨#[], by rw [q]; simp⟩⟩
theorem Un.refl : Un fs ex H H h h := Un.kept fun _ _ q => q
theorem Un.laid (k : ∀ b u, h.get? b = some u → h'.get? b = some u) (hp : h.objs.size ≤ a) (hn : H a = none) : Un fs ex H (upd H a o) h h' where
  keep := fun b u q _ _ _ => k b u q
  slot := fun b u q _ _ _ => ⟨u.slots, k b u q⟩
  free := fun b u q n _ => by rw [upd_ne (Nat.ne_of_lt (Nat.lt_of_lt_of_le (Heap.lt_size q) hp))]; exact n
  there := fun b u q _ => ⟨u, k b u q⟩
  tups := fun b xs q => by rw [upd_ne (ne_of_none q hn)]; exact q
  frzs := fun b u xs q => by rw [upd_ne (ne_of_none q hn)]; exact q
  tbls := fun b ps q => ⟨#[], by rw [upd_ne (ne_of_none q hn), q]; simp⟩
theorem Un.write (mu : Mut (H x)) (he : e = x ∨ H e = some (.own x)) (k : ∀ b u, b ≠ e → h.get? b = some u → h'.get? b = some u) (heo : ∃ u, h'.get? e = some u) : Un fs ex H (upd H x o) h h' := by
  have hx : ∀ b, H b = none → b ≠ x := fun b n z => by subst z; rw [n] at mu; exact mu
  have hb : ∀ b, H b = none → b ≠ e := fun b n z => by
    subst z
    rcases he with r | r
    · exact hx b n r
    · rw [n] at r; cases r
  have hm : ∀ b u, H b = some u → ¬ Mut (some u) → b ≠ x := fun b u q nm z => by subst z; rw [q] at mu; exact nm mu
  refine ⟨fun b u q n _ _ => k b u (hb b n) q, fun b u q n _ _ => ⟨u.slots, k b u (hb b n) q⟩, fun b u q n _ => by rw [upd_ne (hx b n)]; exact n, fun b u q _ => ?_,
    fun b xs q => by rw [upd_ne (hm b _ q fun z => z)]; exact q, fun b u xs q => by rw [upd_ne (hm b _ q fun z => z)]; exact q, fun b ps q => ⟨#[], by rw [upd_ne (hm b _ q fun z => z), q]; simp⟩⟩
  by_cases hbe : b = e
  · subst hbe; exact heo
  · exact ⟨u, k b u hbe q⟩
theorem Un.mono (u : Un fs ex H H1 h h1) (hs : ∀ b ∈ fs, b ∈ fs') (hx : ∀ b ∈ ex, b ∈ ex') : Un fs' ex' H H1 h h1 :=
  ⟨fun b ob q n hb he => u.keep b ob q n (fun z => hb (hs b z)) fun z => he (hx b z), fun _ _ q n _ he => u.any q n fun z => he (hx _ z), fun b ob q n he => u.free b ob q n fun z => he (hx b z), fun b ob q he => u.there b ob q fun z => he (hx b z), u.tups, u.frzs, u.tbls⟩
end

/-! ### the heap without what is tracked -/
def trk (h : Heap) (H : Hp) : List Addr := (List.range h.objs.size).filter fun a => (H a).isSome
def hidT (h : Heap) (H : Hp) : Heap := PySem.W.hideAll h (trk h H)
theorem hidT_size (h : Heap) (H : Hp) : (hidT h H).objs.size = h.objs.size := PySem.W.hideAll_size _ _
theorem hidT_get {h : Heap} {H : Hp} {b : Addr} {o : Obj} (e : h.get? b = some o) (n : H b = none) : (hidT h H).get? b = some o :=
  PySem.W.hideAll_get _ e fun hm => by
    have q : (H b).isSome = true := (List.mem_filter.mp hm).2
    rw [n] at q; simp at q
theorem of_hidT {h : Heap} {H : Hp} {b : Addr} {o : Obj} (e : (hidT h H).get? b = some o) : h.get? b = some o ∧ H b = none := by
  have e' : h.get? b = some o := PySem.W.of_hideAll (trk h H) e
  refine ⟨e', ?_⟩
  cases q : H b with
  | none => rfl
  | some x =>
    have hm : b ∈ trk h H := List.mem_filter.mpr ⟨List.mem_range.mpr (Heap.lt_size e'), by simp [q]⟩
    have z : (hidT h H).get? b = none := PySem.W.hideAll_none (trk h H) hm
    rw [z] at e; cases e

/-! ### OpenK's ledger, filled with every new object but one -/
def allNews (g h : Heap) (L : Addr) : List (Addr × Obj) := (List.range h.objs.size).filterMap fun a => if a = L ∨ (g.get? a).isSome = true then none else (h.get? a).map fun o => (a, o)
theorem mem_allNews {g h : Heap} {L a : Addr} {o : Obj} (h1 : a ≠ L) (h2 : g.get? a = none) (h3 : h.get? a = some o) : (a, o) ∈ allNews g h L :=
  List.mem_filterMap.mpr ⟨a, List.mem_range.mpr (Heap.lt_size h3), by simp [h1, h2, h3]⟩
theorem of_mem_allNews {g h : Heap} {L : Addr} {p : Addr × Obj} (hp : p ∈ allNews g h L) : p.1 ≠ L ∧ g.get? p.1 = none ∧ h.get? p.1 = some p.2 := by
  obtain ⟨b, _, e⟩ := List.mem_filterMap.mp hp
  split at e
  · cases e
  · rename_i hn
    cases q : h.get? b with
    | none => rw [q] at e; simp at e
    | some u =>
      rw [q] at e
      simp only [Option.map_some, Option.some.injEq] at e
      subst e
      refine ⟨fun z => hn (.inl z), ?_, q⟩
      show g.get? b = none
      cases r : g.get? b with
      | none => rfl
      | some v => exact (hn (.inr (by simp [r]))).elim
def rest (g h : Heap) (L d : Addr) : List (Addr × Obj) := (allNews g h L).filter fun p => decide (p.1 ≠ d)
theorem rest_ne {g h : Heap} {L d : Addr} : ∀ p ∈ rest g h L d, p.1 ≠ d := fun p hp => of_decide_eq_true (List.mem_filter.mp hp).2
theorem mem_rest {g h : Heap} {L d a : Addr} {o : Obj} (h1 : a ≠ L) (h2 : g.get? a = none) (h3 : h.get? a = some o) (h4 : a ≠ d) : (a, o) ∈ rest g h L d :=
  List.mem_filter.mpr ⟨mem_allNews h1 h2 h3, decide_eq_true h4⟩
theorem news_all {g h : Heap} {L : Addr} : News g L h (allNews g h L) := fun p hp => let ⟨a, b, c⟩ := of_mem_allNews hp; ⟨c, a, b⟩
theorem news_at {g h : Heap} {L d : Addr} {o : Obj} (h1 : d ≠ L) (h2 : g.get? d = none) (h3 : h.get? d = some o) : News g L h ((d, o) :: rest g h L d) := fun p hp => by
  rcases List.mem_cons.mp hp with rfl | hp
  · exact ⟨h3, h1, h2⟩
  · exact news_all p (List.mem_filter.mp hp).1
/-- behind a rule that changed d alone: all else but the frame is kept -/
theorem kept_of_news {g h h' : Heap} {L d : Addr} {m : Str → Option Value} (k : ∀ b o, g.get? b = some o → h.get? b = some o) (F : Fr g L h' m) (N : News g L h' (rest g h L d)) :
    ∀ b o, b ≠ L → b ≠ d → h.get? b = some o → h'.get? b = some o := fun b o h1 h2 e => by
  cases q : g.get? b with
  | some u =>
    have := k b u q
    rw [e] at this; cases this
    exact F.keep b _ q
  | none => exact (N (b, o) (mem_rest h1 q e h2)).1
end L2

namespace L2
open PySem PySem.Spec PyProof.Rows

/-- the module's facts, over the base: the heap at the law's entry without what is tracked there -/
structure Mod (K : PySem.W.Frag) (mg : Str → Option Value) (base : Heap) : Prop where
  kin : K.In base
  glob : base.Ns mainGlobals mg
  blt : ∃ mb, base.Ns builtinsNs mb ∧ ∀ x : Str, x ≠ "__name__" → mb x = bootBuiltins x
  nolimit : base.NoLimit

/-- the context: a def's body (or a comprehension's block) running. base: fixed through the whole law; s₀, H₀: the entry; outer: the frames whose slots others may change (a def's callers); stack: all frames that run;
   ex: iterators that were made ahead of the entry and are walked here (a comprehension's); fn: the names whose cells were made at the entry (a def: all; a comprehension's block: its own); calm: not within an except suite; pn: pins that every state bears; xe: what is wanted of an exception that leaves the code -/
structure Cx where
  prog : Program
  w : World
  K : PySem.W.Frag
  mg : Str → Option Value
  base : Heap
  A : Around
  N : List Str
  s₀ : Shared
  H₀ : Hp
  env : Env
  outer : List Env
  stack : List Env
  ex : List Addr
  fn : Str → Bool
  calm : Bool
  pn : List (Addr × Obj)
  xe : Value → Shared → Prop
/-- the callers' frames -/
def frs (l : List Env) : List Addr := l.filterMap (·.frame)
abbrev Cx.fs (X : Cx) : List Addr := frs X.outer

def Vis (sc : Scope) (x : Str) : Prop := sc.names.lookup x = some .local ∨ sc.names.lookup x = some .cell ∨ sc.names.lookup x = some .free
def Loc (sc : Scope) (x : Str) : Prop := sc.names.lookup x = some .local ∨ sc.names.lookup x = some .cell
def Look (env : Env) (h : Heap) (m : Str → Option Value) (x : Str) (u : Value) : Prop :=
  (env.kindOf x = some .local ∧ m x = some u) ∨ ((env.kindOf x = some .cell ∨ env.kindOf x = some .free) ∧ ∃ c, env.cells.lookup x = some c ∧ h.IsCell c (some u))

structure Cx.Ok (X : Cx) : Prop where
  mod : Mod X.K X.mg X.base
  kind : X.env.scope.kind = .function
  glob : X.env.globals = mainGlobals
  blt : X.env.builtins = builtinsNs
  above : X.s₀.heap.objs.size ≤ X.env.locals
  inj : ∀ x y c, X.env.cells.lookup x = some c → X.env.cells.lookup y = some c → x = y
  has : ∀ x, (X.env.kindOf x = some .cell ∨ X.env.kindOf x = some .free) → ∃ c, X.env.cells.lookup x = some c
  cab : ∀ x c, X.fn x = true → X.env.cells.lookup x = some c → X.s₀.heap.objs.size ≤ c
  hd : X.calm = true → X.A.handled = none
  frames : X.A.frames = some X.stack
  stk : X.stack = X.outer ∨ (X.stack = X.env :: X.outer ∧ X.env.frame = some X.env.locals)
  exf : ∀ b ∈ X.ex, b ≠ X.env.locals ∧ ∀ x c, X.env.cells.lookup x = some c → c ≠ b
  bs : ∀ b o, X.base.get? b = some o → X.s₀.heap.get? b = some o ∧ X.H₀ b = none
  bsz : X.base.objs.size ≤ X.s₀.heap.objs.size
  noex : ∀ b o, X.base.get? b = some o → b ∉ X.ex
  exfs : ∀ b ∈ X.ex, b ∉ X.fs
  funs : X.s₀.heap.FunFrames X.base X.outer
  frf : ∀ b ∈ X.fs, X.H₀ b = none

structure Inv (X : Cx) (pins : List (Addr × Obj)) (σ : List (Option V)) (H : Hp) (s : Shared) : Prop where
  ok : X.Ok
  os : s.os = X.s₀.os
  bare : AllBare s.gens
  base : Un X.fs X.ex X.H₀ H X.s₀.heap s.heap
  loc : ∃ m, s.heap.Ns X.env.locals m ∧ ∀ (i : Nat) (x : Str) (v : V), X.N[i]? = some x → σ[i]? = some (some v) → Vis X.env.scope x → ∃ u, RelV v u ∧ Look X.env s.heap m x u
  cell : ∀ x c, X.env.cells.lookup x = some c → ∃ v, s.heap.IsCell c v
  free : H X.env.locals = none
  freeC : ∀ x c, X.env.cells.lookup x = some c → H c = none
  pin : ∀ p ∈ X.pn ++ pins, s.heap.get? p.1 = some p.2 ∧ H p.1 = none ∧ p.1 ≠ X.env.locals ∧ p.1 ∉ X.fs ∧ ∀ v, p.2.data ≠ .cell v
  hok : HOk X.prog X.w H s.heap
  len : σ.length = X.N.length

section
variable {X : Cx} {pins : List (Addr × Obj)} {σ : List (Option V)} {H H' : Hp} {s : Shared} {h' : Heap}

theorem Cx.Ok.nofr (ok : X.Ok) {b : Addr} {o : Obj} (e : X.base.get? b = some o) : b ∉ X.fs := fun hb => by
  have := (ok.funs.mem hb).1
  rw [e] at this; cases this
theorem Inv.bs (I : Inv X pins σ H s) : ∀ b o, X.base.get? b = some o → s.heap.get? b = some o ∧ H b = none := fun b o e =>
  ⟨I.base.keep b o (I.ok.bs b o e).1 (I.ok.bs b o e).2 (I.ok.nofr e) (I.ok.noex b o e), I.base.free b o (I.ok.bs b o e).1 (I.ok.bs b o e).2 (I.ok.noex b o e)⟩
theorem Inv.bk (I : Inv X pins σ H s) : ∀ b o, X.base.get? b = some o → s.heap.get? b = some o := fun b o e => (I.bs b o e).1
theorem Inv.mod (I : Inv X pins σ H s) : Mod X.K X.mg X.base := I.ok.mod
theorem Inv.kIn (I : Inv X pins σ H s) : X.K.In s.heap := I.ok.mod.kin.keeps I.bk
theorem Inv.nolimit (I : Inv X pins σ H s) : s.heap.NoLimit := I.ok.mod.nolimit.keeps I.bk
/-- the frame over the base: for OpenK's rules (K.In X.base is I.mod.kin) -/
theorem Inv.fr (I : Inv X pins σ H s) : ∃ m, Fr X.base X.env.locals s.heap m :=
  let ⟨m, hn, _⟩ := I.loc
  ⟨m, hn, I.bk, Nat.le_trans I.ok.bsz I.ok.above⟩
theorem Inv.lt (I : Inv X pins σ H s) : X.env.locals < s.heap.objs.size := let ⟨_, hn, _⟩ := I.loc; hn.lt
theorem Inv.sz (I : Inv X pins σ H s) : X.s₀.heap.objs.size ≤ s.heap.objs.size := Nat.le_trans I.ok.above (Nat.le_of_lt I.lt)
theorem Inv.nofs (I : Inv X pins σ H s) {a : Addr} (h : s.heap.objs.size ≤ a) : a ∉ X.fs := fun hb => by
  obtain ⟨_, o, ho, _⟩ := I.ok.funs.mem hb
  exact absurd (Nat.lt_of_lt_of_le (Heap.lt_size ho) (Nat.le_trans I.sz h)) (Nat.lt_irrefl _)
theorem Inv.cne (I : Inv X pins σ H s) : ∀ x c, X.env.cells.lookup x = some c → c ≠ X.env.locals := fun x c e z => by
  obtain ⟨v, o, ho, hd⟩ := I.cell x c e
  obtain ⟨m, ⟨o', es, ep, ho', hd', _⟩, _⟩ := I.loc
  rw [z, ho'] at ho; cases ho; rw [hd'] at hd; cases hd
theorem Inv.funs (I : Inv X pins σ H s) : s.heap.FunFrames X.base X.outer := by
  have all : ∀ (l : List Env), (∀ b ∈ frs l, b ∈ X.fs) → X.s₀.heap.FunFrames X.base l → s.heap.FunFrames X.base l := by
    intro l
    induction l with
    | nil => intro _ _; trivial
    | cons env r ih =>
      intro hs hl
      obtain ⟨hk, ⟨L, o, hf, hn, ho, hd⟩, hr⟩ := hl
      have hL : L ∈ X.fs := hs L (by unfold frs; rw [List.filterMap_cons, hf]; exact List.mem_cons_self)
      obtain ⟨sl, e⟩ := I.base.slot L o ho (I.ok.frf L hL) hL fun z => I.ok.exfs L z hL
      exact ⟨hk, ⟨L, _, hf, hn, e, hd⟩, ih (fun b hb => hs b (by unfold frs; rw [List.filterMap_cons, hf]; exact List.mem_cons_of_mem _ hb)) hr⟩
  exact all X.outer (fun _ hb => hb) I.ok.funs

/-- the frames that run, for a call -/
theorem Inv.stack (I : Inv X pins σ H s) : s.heap.FunFrames X.base X.stack := by
  rcases I.ok.stk with e | ⟨e, hf⟩
  · rw [e]; exact I.funs
  · rw [e]
    obtain ⟨m, hn, _⟩ := I.loc
    refine .cons (by rw [I.ok.kind]; decide) hf hn ?_ I.funs
    exact Heap.get?_none_of_le (Nat.le_trans I.ok.bsz I.ok.above)
theorem Inv.stkSub (I : Inv X pins σ H s) : ∀ b ∈ frs X.stack, b ∈ X.env.locals :: X.fs := fun b hb => by
  rcases I.ok.stk with e | ⟨e, hf⟩
  · rw [e] at hb; exact List.mem_cons_of_mem _ hb
  · rw [e] at hb
    unfold frs at hb
    rw [List.filterMap_cons, hf] at hb
    exact hb
theorem Inv.stkFree (I : Inv X pins σ H s) : ∀ b ∈ frs X.stack, H b = none := fun b hb => by
  rcases List.mem_cons.mp (I.stkSub b hb) with e | hb
  · rw [e]; exact I.free
  · obtain ⟨_, o, ho, _⟩ := I.ok.funs.mem hb
    exact I.base.free b o ho (I.ok.frf b hb) fun z => I.ok.exfs b z hb

/-- THE STEP: the untracked objects but the frame and the records at ch are kept (the callers' frames up to slots), the frame's map is kept, the new abstract heap is held -/
theorem Inv.step {g' : Array GenState} {t' : Nat} {d' : Drawn} {ch : List Addr} (I : Inv X pins σ H s)
    (hch : ∀ b ∈ ch, (b ∈ X.ex ∨ X.s₀.heap.objs.size ≤ b) ∧ b ≠ X.env.locals ∧ (∀ x c, X.env.cells.lookup x = some c → c ≠ b) ∧ ∀ p ∈ X.pn ++ pins, p.1 ≠ b)
    (keep : ∀ b o, b ≠ X.env.locals → b ∉ X.fs → b ∉ ch → s.heap.get? b = some o → H b = none → h'.get? b = some o)
    (slot : ∀ b o, b ≠ X.env.locals → b ∈ X.fs → b ∉ ch → s.heap.get? b = some o → H b = none → ∃ sl, h'.get? b = some { o with slots := sl }) (free : ∀ b o, b ∉ ch → s.heap.get? b = some o → H b = none → H' b = none)
    (there : ∀ b o, b ∉ ch → s.heap.get? b = some o → ∃ o', h'.get? b = some o')
    (tups : ∀ b xs, H b = some (.tup xs) → H' b = some (.tup xs)) (frzs : ∀ b o u, H b = some (.frz o u) → H' b = some (.frz o u)) (tbls : ∀ b ps, H b = some (.tbl ps) → ∃ more, H' b = some (.tbl (ps ++ more)))
    (ns : ∀ m, s.heap.Ns X.env.locals m → h'.Ns X.env.locals m) (hok : HOk X.prog X.w H' h') (hg : AllBare g') :
    Inv X pins σ H' { s with heap := h', gens := g', drawn := d', toks := t' } := by
  have neL : ∀ b o, X.s₀.heap.get? b = some o → b ≠ X.env.locals := fun b o e => Nat.ne_of_lt (Nat.lt_of_lt_of_le (Heap.lt_size e) I.ok.above)
  have neC : ∀ b o, X.s₀.heap.get? b = some o → b ∉ X.ex → b ∉ ch := fun b o e hx hb => by
    rcases (hch b hb).1 with z | z
    · exact hx z
    · exact absurd (Nat.lt_of_lt_of_le (Heap.lt_size e) z) (Nat.lt_irrefl _)
  have cellK : ∀ x c, X.env.cells.lookup x = some c → ∀ v, s.heap.IsCell c v → h'.IsCell c v := fun x c e v ⟨o, ho, hd⟩ => by
    have nch : c ∉ ch := fun z => (hch c z).2.2.1 x c e rfl
    by_cases hc : c ∈ X.fs
    · obtain ⟨sl, q⟩ := slot c o (I.cne x c e) hc nch ho (I.freeC x c e)
      exact ⟨_, q, hd⟩
    · exact ⟨o, keep c o (I.cne x c e) hc nch ho (I.freeC x c e), hd⟩
  refine ⟨I.ok, I.os, hg, ⟨fun b o e n hb hx => ?_, fun b o e n hb hx => ?_, fun b o e n hx => ?_, fun b o e hx => ?_, fun b xs e => tups b xs (I.base.tups b xs e), fun b o xs e => frzs b o xs (I.base.frzs b o xs e), fun b ps e => ?_⟩, ?_, fun x c e => ?_, ?_, fun x c e => ?_, fun p hp => ?_, hok, I.len⟩
  · exact keep b o (neL b o e) hb (neC b o e hx) (I.base.keep b o e n hb hx) (I.base.free b o e n hx)
  · obtain ⟨sl, e1⟩ := I.base.slot b o e n hb hx
    obtain ⟨sl', e2⟩ := slot b _ (neL b o e) hb (neC b o e hx) e1 (I.base.free b o e n hx)
    exact ⟨sl', e2⟩
  · obtain ⟨o', e1⟩ := I.base.there b o e hx
    exact free b o' (neC b o e hx) e1 (I.base.free b o e n hx)
  · obtain ⟨o', e1⟩ := I.base.there b o e hx
    exact there b o' (neC b o e hx) e1
  · obtain ⟨m1, e1⟩ := I.base.tbls b ps e
    obtain ⟨m2, e2⟩ := tbls b _ e1
    exact ⟨m1 ++ m2, by rw [e2, Array.append_assoc]⟩
  · obtain ⟨m, hn, hl⟩ := I.loc
    refine ⟨m, ns m hn, fun i x v e1 e2 e3 => ?_⟩
    obtain ⟨u, r, l⟩ := hl i x v e1 e2 e3
    refine ⟨u, r, ?_⟩
    rcases l with l | ⟨k, c, e, z⟩
    · exact .inl l
    · exact .inr ⟨k, c, e, cellK x c e _ z⟩
  · obtain ⟨v, z⟩ := I.cell x c e
    exact ⟨v, cellK x c e v z⟩
  · obtain ⟨m, ⟨o, _, _, ho, _⟩, _⟩ := I.loc
    exact free _ o (fun z => (hch _ z).2.1 rfl) ho I.free
  · obtain ⟨v, o, ho, hd⟩ := I.cell x c e
    exact free c o (fun z => (hch c z).2.2.1 x c e rfl) ho (I.freeC x c e)
  · obtain ⟨e, n, ne, nf, d⟩ := I.pin p hp
    have nch : p.1 ∉ ch := fun z => (hch p.1 z).2.2.2 p hp rfl
    exact ⟨keep p.1 p.2 ne nf nch e n, free p.1 p.2 nch e n, ne, nf, d⟩
/-- .. where the frame's own object is kept too -/
theorem Inv.un {t' : Nat} (I : Inv X pins σ H s) (u : Un X.fs [] H H' s.heap h') (hok : HOk X.prog X.w H' h') : Inv X pins σ H' { s with heap := h', toks := t' } := by
  obtain ⟨m, ⟨o, es, ep, ho, r⟩, _⟩ := id I.loc
  obtain ⟨sl, hL⟩ := u.any ho I.free (by simp)
  exact I.step (g' := s.gens) (d' := s.drawn) (ch := []) (fun _ z => nomatch z) (fun b o _ hb _ e n => u.keep b o e n hb (by simp)) (fun b o _ hb _ e n => u.slot b o e n hb (by simp)) (fun b o _ e n => u.free b o e n (by simp)) (fun b o _ e => u.there b o e (by simp)) u.tups u.frzs u.tbls (fun m' hm => by
    obtain ⟨o', es', ep', ho', r'⟩ := hm
    rw [ho] at ho'; cases ho'
    exact ⟨_, es', ep', hL, r'⟩) hok I.bare
/-- behind a call (or a comprehension's block): the slots of this frame may have changed too, the records at ch may have turned -/
theorem Inv.call {g' : Array GenState} {t' : Nat} {d' : Drawn} {ch : List Addr} (I : Inv X pins σ H s) (u : Un (frs X.stack) ch H H' s.heap h') (hok : HOk X.prog X.w H' h') (hg : AllBare g')
    (hch : ∀ b ∈ ch, (b ∈ X.ex ∨ X.s₀.heap.objs.size ≤ b) ∧ b ≠ X.env.locals ∧ (∀ x c, X.env.cells.lookup x = some c → c ≠ b) ∧ ∀ p ∈ X.pn ++ pins, p.1 ≠ b) :
    Inv X pins σ H' { s with heap := h', gens := g', drawn := d', toks := t' } := by
  obtain ⟨m, ⟨o, es, ep, ho, r⟩, _⟩ := id I.loc
  obtain ⟨sl, hL⟩ := u.any ho I.free fun z => (hch _ z).2.1 rfl
  exact I.step (ch := ch) hch (fun b o hL hb hc e n => u.keep b o e n (fun z => (List.mem_cons.mp (I.stkSub b z)).elim hL hb) hc) (fun b o _ _ hc e n => u.any e n hc) (fun b o hc e n => u.free b o e n hc) (fun b o hc e => u.there b o e hc) u.tups u.frzs u.tbls (fun m' hm => by
    obtain ⟨o', es', ep', ho', r'⟩ := hm
    rw [ho] at ho'; cases ho'
    exact ⟨_, es', ep', hL, r'⟩) hok hg
/-- an untracked record of ours (an iterator) has turned -/
theorem Inv.turned {t' : Nat} {it : Addr} (I : Inv X pins σ H s) (k : ∀ b o, b ≠ it → s.heap.get? b = some o → h'.get? b = some o) (hn : H it = none) (hL : it ≠ X.env.locals)
    (h1 : it ∈ X.ex ∨ X.s₀.heap.objs.size ≤ it) (h2 : ∀ x c, X.env.cells.lookup x = some c → c ≠ it) (h3 : ∀ p ∈ X.pn ++ pins, p.1 ≠ it) : Inv X pins σ H { s with heap := h', toks := t' } := by
  have nit : ∀ b u, H b = some u → b ≠ it := fun b u e z => by rw [z, hn] at e; cases e
  refine I.step (g' := s.gens) (d' := s.drawn) (ch := [it]) (fun b hb => ?_) (fun b o _ _ hc e _ => k b o (fun z => hc (by simp [z])) e) (fun b o _ _ hc e _ => ⟨o.slots, k b o (fun z => hc (by simp [z])) e⟩) (fun _ _ _ _ n => n)
    (fun b o hc e => ⟨o, k b o (fun z => hc (by simp [z])) e⟩) (fun _ _ e => e) (fun _ _ _ e => e) (fun b ps e => ⟨#[], by rw [e]; simp⟩) (fun m hm => ?_) (fun b u e => ?_) I.bare
  · have e : b = it := by simpa using hb
    subst e
    exact ⟨h1, hL, h2, h3⟩
  · obtain ⟨o, es, ep, ho, r⟩ := hm
    exact ⟨o, es, ep, k _ o (Ne.symm hL) ho, r⟩
  · refine (I.hok b u e).stay (fun c v hc q => k c v ?_ q) (fun _ q => q) fun _ _ q => q
    rcases hc with z | z
    · rw [z]; exact nit b u e
    · exact nit c _ z
theorem Inv.tok (I : Inv X pins σ H s) (t : Nat) : Inv X pins σ H { s with toks := t } := I.un (h' := s.heap) (t' := t) Un.refl I.hok
/-- all objects kept -/
theorem Inv.kept {t' : Nat} (I : Inv X pins σ H s) (k : ∀ b u, s.heap.get? b = some u → h'.get? b = some u) : Inv X pins σ H { s with heap := h', toks := t' } := I.un (Un.kept k) (I.hok.kept k)
/-- a new object laid and tracked -/
theorem Inv.laid {a : Addr} {o : HO} {t' : Nat} (I : Inv X pins σ H s) (k : ∀ b u, s.heap.get? b = some u → h'.get? b = some u) (hp : s.heap.objs.size ≤ a) (new : ObjOk X.prog X.w (upd H a o) h' a o) :
    Inv X pins σ (upd H a o) { s with heap := h', toks := t' } := I.un (Un.laid k hp (I.hok.fresh hp)) (I.hok.laid k hp new)
/-- an object written -/
theorem Inv.write {x e : Addr} {o : HO} {t' : Nat} (I : Inv X pins σ H s) (mu : Mut (H x)) (he : e = x ∨ H e = some (.own x)) (k : ∀ b u, b ≠ e → s.heap.get? b = some u → h'.get? b = some u) (heo : ∃ u, h'.get? e = some u)
    (new : ObjOk X.prog X.w (upd H x o) h' x o) : Inv X pins σ (upd H x o) { s with heap := h', toks := t' } := I.un (Un.write mu he k heo) (I.hok.write mu he k heo new)
/-- forgetting slots, pins -/
theorem Inv.weak {σ' : List (Option V)} (I : Inv X pins σ H s) (hl : σ'.length = σ.length) (w : ∀ (i : Nat) v, σ'[i]? = some (some v) → σ[i]? = some (some v)) : Inv X pins σ' H s :=
  ⟨I.ok, I.os, I.bare, I.base, let ⟨m, hn, hl'⟩ := I.loc; ⟨m, hn, fun i x v e1 e2 e3 => hl' i x v e1 (w i v e2) e3⟩, I.cell, I.free, I.freeC, I.pin, I.hok, hl.trans I.len⟩
theorem Inv.pins_of {pins' : List (Addr × Obj)} (I : Inv X pins σ H s) (h : ∀ p ∈ pins', s.heap.get? p.1 = some p.2 ∧ H p.1 = none ∧ p.1 ≠ X.env.locals ∧ p.1 ∉ X.fs ∧ ∀ v, p.2.data ≠ .cell v) : Inv X pins' σ H s :=
  ⟨I.ok, I.os, I.bare, I.base, I.loc, I.cell, I.free, I.freeC, fun p hp => (List.mem_append.mp hp).elim (fun z => I.pin p (List.mem_append_left _ z)) (h p), I.hok, I.len⟩

theorem nodup_ix {N : List Str} (hN : N.Nodup) {i j : Nat} {x : Str} (a : N[i]? = some x) (b : N[j]? = some x) : i = j := by
  obtain ⟨h1, e1⟩ := List.getElem?_eq_some_iff.mp a
  obtain ⟨h2, e2⟩ := List.getElem?_eq_some_iff.mp b
  exact (List.getElem_inj hN).mp (e1.trans e2.symm)

/-- a name is stored; what changed -/
theorem store_ok2 {M : Model} {A : Around} {E : Value → Shared → Prop} {i : Nat} {x : Str} {v : V} {u : Value} {Q : Unit → Shared → Prop} (I : Inv X pins σ H s) (hN : X.N.Nodup) (hi : X.N[i]? = some x) (hx : Loc X.env.scope x) (r : RelV v u)
    (h : ∀ s', Inv X pins (σ.set i (some v)) H s' → (∃ a, Heap.SameBut a s.heap s'.heap ∧ (a = X.env.locals ∨ X.env.cells.lookup x = some a)) → Q () s') (hf : X.fn x = true ∨ X.env.scope.names.lookup x = some .local := by first | exact .inl rfl | exact .inr rfl | assumption) : wpAny M A (storeName X.env x u) Q E s := by
  obtain ⟨m, hn, hl⟩ := id I.loc
  have hcls : (X.env.scope.kind == .class || (X.env.scope.kind == .module && X.env.locals != X.env.globals)) = false := by rw [I.ok.kind]; rfl
  have hiσ : i < σ.length := by rw [I.len]; exact (List.getElem?_eq_some_iff.mp hi).1
  have cne := I.cne
  have tracked : ∀ {a : Addr} {h' : Heap}, (∃ o, s.heap.get? a = some o ∧ H a = none) → Heap.SameBut a s.heap h' → HOk X.prog X.w H h' := fun {a h'} ha hs b ob e => by
    obtain ⟨_, _, hfree⟩ := ha
    refine (I.hok b ob e).stay (fun c w' hc q => (hs.2 c ?_).trans q) (fun _ q => q) fun _ _ q => q
    rintro rfl
    rcases hc with rfl | hc
    · rw [hfree] at e; cases e
    · rw [hfree] at hc; cases hc
  rcases hx with hk | hk
  · refine wpAny_storeName_local hk hn (fun h' hn' hs => ?_) hcls
    obtain ⟨oL, _, _, hoL, _⟩ := id hn
    refine h _ ⟨I.ok, I.os, I.bare, ⟨fun b o e n hb hx => ?_, fun b o e n hb hx => ?_, I.base.free, fun b o e hx => ?_, I.base.tups, I.base.frzs, I.base.tbls⟩, ⟨_, hn', fun j y v' e1 e2 e3 => ?_⟩, fun y c e => ?_, I.free, I.freeC, fun p hp => ?_, tracked ⟨oL, hoL, I.free⟩ hs, by simpa using I.len⟩ ⟨_, hs, .inl rfl⟩
    · exact (hs.2 b (Nat.ne_of_lt (Nat.lt_of_lt_of_le (Heap.lt_size e) I.ok.above))).trans (I.base.keep b o e n hb hx)
    · obtain ⟨sl, e1⟩ := I.base.slot b o e n hb hx
      exact ⟨sl, (hs.2 b (Nat.ne_of_lt (Nat.lt_of_lt_of_le (Heap.lt_size e) I.ok.above))).trans e1⟩
    · obtain ⟨o', e1⟩ := I.base.there b o e hx
      exact ⟨o', (hs.2 b (Nat.ne_of_lt (Nat.lt_of_lt_of_le (Heap.lt_size e) I.ok.above))).trans e1⟩
    · by_cases hj : j = i
      · subst hj
        rw [hi] at e1; cases e1
        rw [List.getElem?_set_self hiσ] at e2
        cases e2
        exact ⟨u, r, .inl ⟨hk, by simp⟩⟩
      · rw [List.getElem?_set_ne (Ne.symm hj)] at e2
        obtain ⟨u', r', q⟩ := hl j y v' e1 e2 e3
        refine ⟨u', r', ?_⟩
        rcases q with ⟨k, e⟩ | ⟨k, c, e, z⟩
        · refine .inl ⟨k, ?_⟩
          have : y ≠ x := fun e => hj (nodup_ix hN e1 (e ▸ hi))
          simp [this, e]
        · exact .inr ⟨k, c, e, z.sameBut hs (cne y c e)⟩
    · obtain ⟨w', z⟩ := I.cell y c e
      exact ⟨w', z.sameBut hs (cne y c e)⟩
    · obtain ⟨e, n, ne, nf, d⟩ := I.pin p hp
      exact ⟨(hs.2 p.1 ne).trans e, n, ne, nf, d⟩
  · have hfn : X.fn x = true := by
      rcases hf with z | z
      · exact z
      · rw [z] at hk; cases hk
    obtain ⟨c, hc⟩ := I.ok.has x (.inl hk)
    obtain ⟨w', z⟩ := I.cell x c hc
    refine wpAny_storeName_cell I.ok.kind hk hc z (fun h' hc' hs => ?_)
    obtain ⟨oc, hoc, hocd⟩ := id z
    refine h { s with heap := h' } ⟨I.ok, I.os, I.bare, ⟨fun b o e n hb hx => ?_, fun b o e n hb hx => ?_, I.base.free, fun b o e hx => ?_, I.base.tups, I.base.frzs, I.base.tbls⟩, ⟨m, hn.sameBut hs (Ne.symm (cne x c hc)), fun j y v' e1 e2 e3 => ?_⟩, fun y c' e => ?_, I.free, I.freeC, fun p hp => ?_, tracked ⟨oc, hoc, I.freeC x c hc⟩ hs, by simpa using I.len⟩ ⟨c, hs, .inr hc⟩
    · exact (hs.2 b (Nat.ne_of_lt (Nat.lt_of_lt_of_le (Heap.lt_size e) (I.ok.cab x c hfn hc)))).trans (I.base.keep b o e n hb hx)
    · obtain ⟨sl, e1⟩ := I.base.slot b o e n hb hx
      exact ⟨sl, (hs.2 b (Nat.ne_of_lt (Nat.lt_of_lt_of_le (Heap.lt_size e) (I.ok.cab x c hfn hc)))).trans e1⟩
    · obtain ⟨o', e1⟩ := I.base.there b o e hx
      exact ⟨o', (hs.2 b (Nat.ne_of_lt (Nat.lt_of_lt_of_le (Heap.lt_size e) (I.ok.cab x c hfn hc)))).trans e1⟩
    · by_cases hj : j = i
      · subst hj
        rw [hi] at e1; cases e1
        rw [List.getElem?_set_self hiσ] at e2
        cases e2
        exact ⟨u, r, .inr ⟨.inl hk, c, hc, hc'⟩⟩
      · rw [List.getElem?_set_ne (Ne.symm hj)] at e2
        obtain ⟨u', r', q⟩ := hl j y v' e1 e2 e3
        refine ⟨u', r', ?_⟩
        rcases q with q | ⟨k, c', e, z'⟩
        · exact .inl q
        · refine .inr ⟨k, c', e, z'.sameBut hs ?_⟩
          rintro rfl
          exact hj (nodup_ix hN e1 (I.ok.inj _ _ _ e hc ▸ hi))
    · by_cases hcc : c' = c
      · subst hcc; exact ⟨_, hc'⟩
      · obtain ⟨w2, z2⟩ := I.cell y c' e
        exact ⟨w2, z2.sameBut hs hcc⟩
    · obtain ⟨e, n, ne, nf, d⟩ := I.pin p hp
      refine ⟨(hs.2 p.1 ?_).trans e, n, ne, nf, d⟩
      intro q
      rw [q, hoc] at e
      have q' : oc = p.2 := Option.some.inj e
      exact d w' (by rw [← q']; exact hocd)
theorem store_ok {M : Model} {A : Around} {E : Value → Shared → Prop} {i : Nat} {x : Str} {v : V} {u : Value} {Q : Unit → Shared → Prop} (I : Inv X pins σ H s) (hN : X.N.Nodup) (hi : X.N[i]? = some x) (hx : Loc X.env.scope x) (r : RelV v u)
    (h : ∀ s', Inv X pins (σ.set i (some v)) H s' → Q () s') (hf : X.fn x = true ∨ X.env.scope.names.lookup x = some .local := by first | exact .inl rfl | exact .inr rfl | assumption) : wpAny M A (storeName X.env x u) Q E s :=
  store_ok2 I hN hi hx r (fun s' I' _ => h s' I') hf
/-- behind a call or a block, the state as it is -/
theorem Inv.call' {s' : Shared} {ch : List Addr} (I : Inv X pins σ H s) (ho : s'.os = s.os) (u : Un (frs X.stack) ch H H' s.heap s'.heap) (hok : HOk X.prog X.w H' s'.heap) (hg : AllBare s'.gens)
    (hch : ∀ b ∈ ch, (b ∈ X.ex ∨ X.s₀.heap.objs.size ≤ b) ∧ b ≠ X.env.locals ∧ (∀ x c, X.env.cells.lookup x = some c → c ≠ b) ∧ ∀ p ∈ X.pn ++ pins, p.1 ≠ b) : Inv X pins σ H' s' := by
  obtain ⟨h', g', d', t', o'⟩ := s'
  have e : o' = s.os := ho
  subst e
  exact I.call (g' := g') (t' := t') (d' := d') u hok hg hch
end

/-! ### the judgements -/
/-- an exception: its class, its own dict's address (where it has one), the abstract heap behind it -/
abbrev XK := Value → Option Addr → Hp → Prop
abbrev St := List (Option V)
abbrev VK := V → Hp → Prop
/-- an expression's reading; a test's; an argument list's -/
abbrev TE := St → Hp → VK → Prop
abbrev TT := St → Hp → (Bool → Hp → Prop) → Prop
abbrev TA := St → Hp → (List V → Hp → Prop) → Prop
/-- what is wanted behind a statement -/
structure Ends where
  nx : St → Hp → Prop
  rt : VK
  bk : St → Hp → Prop := fun _ _ => False
  ct : St → Hp → Prop := fun _ _ => False
abbrev TS := Ends → St → Hp → Prop

def EP (X : Cx) (pins : List (Addr × Obj)) (σ : St) (Q : VK) (u : Value) (s' : Shared) : Prop := ∃ v H', Inv X pins σ H' s' ∧ RelV v u ∧ Q v H'
def TP (X : Cx) (pins : List (Addr × Obj)) (σ : St) (Q : Bool → Hp → Prop) (b : Bool) (s' : Shared) : Prop := ∃ H', Inv X pins σ H' s' ∧ Q b H'
def AP (X : Cx) (pins : List (Addr × Obj)) (σ : St) (Q : List V → Hp → Prop) (us : List Value) (s' : Shared) : Prop := ∃ vs H', Inv X pins σ H' s' ∧ Vals vs us ∧ Q vs H'
def SP (X : Cx) (pins : List (Addr × Obj)) (D : Ends) (f : Flow) (s' : Shared) : Prop :=
  match f with
  | .next => ∃ σ' H', Inv X pins σ' H' s' ∧ D.nx σ' H'
  | .brk => ∃ σ' H', Inv X pins σ' H' s' ∧ D.bk σ' H'
  | .cont => ∃ σ' H', Inv X pins σ' H' s' ∧ D.ct σ' H'
  | .ret u => ∃ v σ' H', Inv X pins σ' H' s' ∧ RelV v u ∧ D.rt v H'

def PE (X : Cx) (e : Expr) (t : TE) : Prop :=
  ∀ (pins : List (Addr × Obj)) (s : Shared) (σ : St) (H : Hp) (Q : VK), Inv X pins σ H s → t σ H Q → wpAny (model X.prog X.w) X.A (eval e X.env) (EP X pins σ Q) X.xe s
def PT (X : Cx) (e : Expr) (t : TT) : Prop :=
  ∀ (pins : List (Addr × Obj)) (s : Shared) (σ : St) (H : Hp) (Q : Bool → Hp → Prop), Inv X pins σ H s → t σ H Q → wpAny (model X.prog X.w) X.A (isTrue e X.env (eval e X.env)) (TP X pins σ Q) X.xe s
/-- a test whatever its 'whole' is (and, or) -/
def PW (X : Cx) (e : Expr) (t : TT) : Prop :=
  ∀ (whole : Sem Value) (pins : List (Addr × Obj)) (s : Shared) (σ : St) (H : Hp) (Q : Bool → Hp → Prop), Inv X pins σ H s → t σ H Q → wpAny (model X.prog X.w) X.A (isTrue e X.env whole) (TP X pins σ Q) X.xe s
theorem PW.pt {X : Cx} {e : Expr} {t : TT} (h : PW X e t) : PT X e t := h _
/-- an argument list (no star), from the left -/
def PA (X : Cx) (es : List Expr) (t : TA) : Prop :=
  ∀ (pos : Pos) (pins : List (Addr × Obj)) (s : Shared) (σ : St) (H : Hp) (Q : List V → Hp → Prop), Inv X pins σ H s → t σ H Q → wpAny (model X.prog X.w) X.A (spliced (backTo pos (starEach es X.env))) (AP X pins σ Q) X.xe s
def PS (X : Cx) (st : Stmt) (t : TS) : Prop :=
  ∀ (pins : List (Addr × Obj)) (s : Shared) (σ : St) (H : Hp) (D : Ends), Inv X pins σ H s → t D σ H → wpAny (model X.prog X.w) X.A (exec st X.env) (SP X pins D) X.xe s
def PSs (X : Cx) (st : List Stmt) (t : TS) : Prop :=
  ∀ (pins : List (Addr × Obj)) (s : Shared) (σ : St) (H : Hp) (D : Ends), Inv X pins σ H s → t D σ H → wpAny (model X.prog X.w) X.A (execs st X.env) (SP X pins D) X.xe s
/-- weaken the end -/
theorem thn {α : Type} {t : Sem α} {Q Q' : α → Shared → Prop} {M : Model} {A : Around} {E : Value → Shared → Prop} {s : Shared} (h : wpAny M A t Q E s) (hQ : ∀ a s, Q a s → Q' a s) : wpAny M A t Q' E s := wpAny_mono h hQ fun _ _ x => x
end L2

namespace L2
open PySem PySem.Spec PyProof.Rows
section
variable {X : Cx}

/-- two expressions in a row -/
theorem bin {a b : Expr} {ta tb : TE} (ha : PE X a ta) (hb : PE X b tb) {pins : List (Addr × Obj)} {s : Shared} {σ : St} {H : Hp} {R : V → V → Hp → Prop} (I : Inv X pins σ H s) (h : ta σ H fun x H1 => tb σ H1 fun y H2 => R x y H2)
    {α : Type} {Q : α → Shared → Prop} {f : Value → Value → Sem α}
    (hf : ∀ v u s2 x y H2, Inv X pins σ H2 s2 → RelV x v → RelV y u → R x y H2 → wpAny (model X.prog X.w) X.A (f v u) Q X.xe s2) :
    wpAny (model X.prog X.w) X.A (eval a X.env) (fun v s₁ => wpAny (model X.prog X.w) X.A (eval b X.env) (fun u s₂ => wpAny (model X.prog X.w) X.A (f v u) Q X.xe s₂) X.xe s₁) X.xe s := by
  refine thn (ha pins s σ H _ I h) fun v s1 ⟨x, H1, I1, r1, q1⟩ => ?_
  refine thn (hb pins s1 σ H1 _ I1 q1) fun u s2 ⟨y, H2, I2, r2, q2⟩ => ?_
  exact hf v u s2 x y H2 I2 r1 r2 q2

/-! ### names and constants -/
def tVar (i : Nat) : TE := fun σ H Q => ∃ v, σ[i]? = some (some v) ∧ Q v H
def tC (v : V) : TE := fun _ H Q => Q v H
theorem pe_var {i : Nat} {x : Str} {pos : Pos} (hN : X.N[i]? = some x) (hv : Vis X.env.scope x) (hd : (x == ("__debug__" : Str)) = false := by decide) (hcd : (x == ("__classdict__" : Str)) = false := by decide) : PE X (.Name x pos) (tVar i) := by
  intro pins s σ H Q I h
  obtain ⟨v, e, h⟩ := h
  obtain ⟨m, hn, hl⟩ := I.loc
  obtain ⟨u, r, l⟩ := hl i x v hN e hv
  have fin : EP X pins σ Q u s := ⟨v, H, I, r, h⟩
  rcases l with ⟨hk, hm⟩ | ⟨hk, c, hc, hcell⟩
  · exact wpAny_Name (wpAny_loadName_local I.ok.kind hk hn hm fin) hd
  · rcases hk with hk | hk
    · exact wpAny_Name (wpAny_loadName_cell I.ok.kind hk hc hcell fin) hd
    · exact wpAny_Name (wpAny_loadName_free I.ok.kind hk hc hcell fin hcd) hd
theorem pe_int {i j pos} : PE X (.Constant (.int i) j pos) (tC (.int i)) := fun _ _ _ H _ I h => wpAny_Constant_int ⟨.int i, H, I.tok _, ⟨_, rfl⟩, h⟩
theorem pe_bl {b j pos} : PE X (.Constant (.bool b) j pos) (tC (.bl b)) := fun _ _ _ H _ I h => Constant_bool ⟨.bl b, H, I, rfl, h⟩
theorem pe_non {j pos} : PE X (.Constant .none j pos) (tC .non) := fun _ _ _ H _ I h => Constant_none ⟨.non, H, I, rfl, h⟩
theorem pe_str {x j pos} : PE X (.Constant (.str x) j pos) (tC (.str x)) := fun _ _ _ H _ I h => Calls.Constant_str ⟨.str x, H, I.tok _, ⟨_, rfl⟩, h⟩

/-- a global name of the def -/
def Gl (X : Cx) (x : Str) : Prop := X.env.kindOf x = some .globalImplicit
theorem ld_glob {E : Value → Shared → Prop} {pins : List (Addr × Obj)} {s : Shared} {σ : St} {H : Hp} {x : Str} {u : Value} {pos : Pos} {Q : Value → Shared → Prop} (I : Inv X pins σ H s) (hg : Gl X x) (hm : X.mg x = some u) (h : Q u s)
    (hd : (x == ("__debug__" : Str)) = false := by decide) : wpAny (model X.prog X.w) X.A (eval (.Name x pos) X.env) Q E s :=
  Calls.Name_function_global I.ok.kind hg (Calls.loadGlobal_global (by rw [I.ok.glob]; exact I.mod.glob.keeps I.bk) hm h) hd
theorem ld_blt {E : Value → Shared → Prop} {pins : List (Addr × Obj)} {s : Shared} {σ : St} {H : Hp} {x : Str} {u : Value} {pos : Pos} {Q : Value → Shared → Prop} (I : Inv X pins σ H s) (hg : Gl X x) (hm : X.mg x = none) (hv : bootBuiltins x = some u) (h : Q u s)
    (hn : x ≠ "__name__" := by decide) (hd : (x == ("__debug__" : Str)) = false := by decide) : wpAny (model X.prog X.w) X.A (eval (.Name x pos) X.env) Q E s := by
  obtain ⟨mb, h1, h2⟩ := I.mod.blt
  exact Calls.Name_function_global I.ok.kind hg (Calls.loadGlobal_builtin (by rw [I.ok.glob]; exact I.mod.glob.keeps I.bk) hm (by rw [I.ok.blt]; exact h1.keeps I.bk) ((h2 x hn).trans hv) h) hd
/-- a module's constant, a class, a function, as a value -/
theorem pe_glob {x : Str} {v : V} {u : Value} {pos : Pos} (hg : Gl X x) (hm : X.mg x = some u) (r : RelV v u) (hd : (x == ("__debug__" : Str)) = false := by decide) : PE X (.Name x pos) (tC v) :=
  fun _ _ _ H _ I h => ld_glob I hg hm ⟨v, H, I, r, h⟩ hd
theorem pe_bltn {x : Str} {v : V} {u : Value} {pos : Pos} (hg : Gl X x) (hm : X.mg x = none) (hv : bootBuiltins x = some u) (r : RelV v u) (hn : x ≠ "__name__" := by decide) (hd : (x == ("__debug__" : Str)) = false := by decide) : PE X (.Name x pos) (tC v) :=
  fun _ _ _ H _ I h => ld_blt I hg hm hv ⟨v, H, I, r, h⟩ hn hd

/-! ### arithmetic -/
/-- two ints -/
def t2I (ta tb : TE) (k : Int → Int → Hp → Prop) : St → Hp → Prop := fun σ H => ta σ H fun x H1 => tb σ H1 fun y H2 => ∃ i j, x = .int i ∧ y = .int j ∧ k i j H2
def tAdd (ta tb : TE) : TE := fun σ H Q => t2I ta tb (fun i j H2 => Q (.int (i + j)) H2) σ H
def tSub (ta tb : TE) : TE := fun σ H Q => t2I ta tb (fun i j H2 => Q (.int (i - j)) H2) σ H
/-- the left factor below 2^64 -/
def tMul (ta tb : TE) : TE := fun σ H Q => t2I ta tb (fun i j H2 => (-(2 ^ 64) < i ∧ i < 2 ^ 64) ∧ Q (.int (i * j)) H2) σ H
variable {a b : Expr} {ta tb : TE} {pos : Pos}
theorem pe_add (ha : PE X a ta) (hb : PE X b tb) : PE X (.BinOp a .Add b pos) (tAdd ta tb) := by
  intro pins s σ H Q I h
  refine wpAny_BinOp (bin ha hb I h fun v u s2 x y H2 I2 rx ry q => ?_)
  obtain ⟨i, j, rfl, rfl, q⟩ := q
  obtain ⟨t, rfl⟩ := rx
  obtain ⟨t', rfl⟩ := ry
  exact add_int ⟨.int _, H2, I2.tok _, ⟨_, rfl⟩, q⟩
theorem pe_sub (ha : PE X a ta) (hb : PE X b tb) : PE X (.BinOp a .Sub b pos) (tSub ta tb) := by
  intro pins s σ H Q I h
  refine wpAny_BinOp (bin ha hb I h fun v u s2 x y H2 I2 rx ry q => ?_)
  obtain ⟨i, j, rfl, rfl, q⟩ := q
  obtain ⟨t, rfl⟩ := rx
  obtain ⟨t', rfl⟩ := ry
  exact sub_int ⟨.int _, H2, I2.tok _, ⟨_, rfl⟩, q⟩
theorem pe_mul (ha : PE X a ta) (hb : PE X b tb) : PE X (.BinOp a .Mult b pos) (tMul ta tb) := by
  intro pins s σ H Q I h
  refine wpAny_BinOp (bin ha hb I h fun v u s2 x y H2 I2 rx ry q => ?_)
  obtain ⟨i, j, rfl, rfl, ⟨q1, q2⟩, q⟩ := q
  obtain ⟨t, rfl⟩ := rx
  obtain ⟨t', rfl⟩ := ry
  exact mul_int ⟨.int _, H2, I2.tok _, ⟨_, rfl⟩, q⟩ (.of_left (intBits_le_64 q1 q2))

/-! ### comparisons -/
def PC (X : Cx) (op : CmpOp) (a b : Expr) (t : TE) : Prop :=
  ∀ (pins : List (Addr × Obj)) (s : Shared) (σ : St) (H : Hp) (Q : VK), Inv X pins σ H s → t σ H Q →
    wpAny (model X.prog X.w) X.A (eval a X.env) (fun v s₁ => wpAny (model X.prog X.w) X.A (eval b X.env) (fun u s₂ => wpAny (model X.prog X.w) X.A (compareOp op v u) (EP X pins σ Q) X.xe s₂) X.xe s₁) X.xe s
theorem nobehind (b : Expr) {op : CmpOp} (h : op ≠ .In) (h2 : op ≠ .NotIn) : behindInMarks op b = false := by
  have e1 : (op == CmpOp.In) = false := by cases op <;> first | rfl | exact absurd rfl h
  have e2 : (op == CmpOp.NotIn) = false := by cases op <;> first | rfl | exact absurd rfl h2
  cases b <;> simp [behindInMarks, e1, e2]
def tCmp (p : Int → Int → Bool) (ta tb : TE) : TE := fun σ H Q => t2I ta tb (fun i j H2 => Q (.bl (p i j)) H2) σ H
abbrev tLt : TE → TE → TE := tCmp fun i j => decide (i < j)
abbrev tLe : TE → TE → TE := tCmp fun i j => decide (i ≤ j)
abbrev tGt : TE → TE → TE := tCmp fun i j => decide (j < i)
abbrev tGe : TE → TE → TE := tCmp fun i j => decide (j ≤ i)
abbrev tEqI : TE → TE → TE := tCmp fun i j => decide (i = j)
abbrev tNeI : TE → TE → TE := tCmp fun i j => !decide (i = j)
/-- a comparison of two ints, by its rule -/
theorem pc_int {op : CmpOp} {p : Int → Int → Bool} (ha : PE X a ta) (hb : PE X b tb)
    (rule : ∀ (i j : Int) (t u : Tok) (Q : Value → Shared → Prop) (s : Shared), Q (.bool (p i j)) s → wpAny (model X.prog X.w) X.A (compareOp op (.int i t) (.int j u)) Q X.xe s) : PC X op a b (tCmp p ta tb) := by
  intro pins s σ H Q I h
  refine bin ha hb I h fun v u s2 x y H2 I2 rx ry q => ?_
  obtain ⟨i, j, rfl, rfl, q⟩ := q
  obtain ⟨t, rfl⟩ := rx
  obtain ⟨t', rfl⟩ := ry
  exact rule i j t t' _ s2 ⟨.bl _, H2, I2, rfl, q⟩
theorem pc_lt (ha : PE X a ta) (hb : PE X b tb) : PC X .Lt a b (tLt ta tb) := pc_int ha hb fun _ _ _ _ _ _ h => lt_int h
theorem pc_le (ha : PE X a ta) (hb : PE X b tb) : PC X .LtE a b (tLe ta tb) := pc_int ha hb fun _ _ _ _ _ _ h => le_int h
theorem pc_gt (ha : PE X a ta) (hb : PE X b tb) : PC X .Gt a b (tGt ta tb) := pc_int ha hb fun _ _ _ _ _ _ h => gt_int h
theorem pc_ge (ha : PE X a ta) (hb : PE X b tb) : PC X .GtE a b (tGe ta tb) := pc_int ha hb fun _ _ _ _ _ _ h => ge_int h
theorem pc_eqI (ha : PE X a ta) (hb : PE X b tb) : PC X .Eq a b (tEqI ta tb) := pc_int ha hb fun _ _ _ _ _ _ h => eq_int (by rw [Bool.beq_eq_decide_eq]; exact h)
theorem pc_neI (ha : PE X a ta) (hb : PE X b tb) : PC X .NotEq a b (tNeI ta tb) := pc_int ha hb fun _ _ _ _ _ _ h => ne_int (by rw [bne, Bool.beq_eq_decide_eq]; exact h)
/-- is None -/
def tIsN (ta : TE) : TE := fun σ H Q => ta σ H fun x H1 => Q (.bl (decide (x = .non))) H1
def tNotN (ta : TE) : TE := fun σ H Q => ta σ H fun x H1 => Q (.bl (!decide (x = .non))) H1
theorem RelV.none_iff {x : V} {v : Value} (r : RelV x v) : (v == Value.none) = decide (x = .non) := by
  cases x with
  | non => cases r; rfl
  | bl _ => cases r; rfl
  | int _ => obtain ⟨t, rfl⟩ := r; rfl
  | str _ => obtain ⟨t, rfl⟩ := r; rfl
  | byt _ => obtain ⟨t, rfl⟩ := r; rfl
  | flt _ => obtain ⟨t, rfl⟩ := r; rfl
  | ref _ => cases r; rfl
  | ty _ => cases r; rfl
theorem pc_isN {j pos'} (ha : PE X a ta) : PC X .Is a (.Constant .none j pos') (tIsN ta) := by
  intro pins s σ H Q I h
  refine thn (ha pins s σ H _ I h) fun v s1 ⟨x, H1, I1, r1, q1⟩ => ?_
  exact Constant_none (is_none_gen ⟨.bl _, H1, I1, by rw [r1.none_iff]; rfl, q1⟩)
theorem pc_notN {j pos'} (ha : PE X a ta) : PC X .IsNot a (.Constant .none j pos') (tNotN ta) := by
  intro pins s σ H Q I h
  refine thn (ha pins s σ H _ I h) fun v s1 ⟨x, H1, I1, r1, q1⟩ => ?_
  exact Constant_none (isnot_none_gen ⟨.bl _, H1, I1, by rw [r1.none_iff]; rfl, q1⟩)
/-- a comparison as a value, as a test -/
def tB (t : TE) : TT := fun σ H Q => t σ H fun x H1 => ∃ c, x = .bl c ∧ Q c H1
theorem pe_cmp {op : CmpOp} {t : TE} (h : PC X op a b t) (h1 : behindInMarks op b = false := by first | exact nobehind _ (by decide) (by decide) | rfl) : PE X (.Compare a [op] [b] pos) t := fun pins s σ H Q I hw => wpAny_Compare1 (h pins s σ H Q I hw) h1
theorem pt_cmp {op : CmpOp} {t : TE} (h : PC X op a b t) (h1 : behindInMarks op b = false := by first | exact nobehind _ (by decide) (by decide) | rfl) : PT X (.Compare a [op] [b] pos) (tB t) := by
  intro pins s σ H Q I hw
  refine wpAny_isTrue_Compare1 (thn (h pins s σ H _ I hw) fun v s1 h1 => thn h1 fun u s2 h2 => thn h2 fun c s3 ⟨x, H1, I1, r1, q1⟩ => ?_) h1
  obtain ⟨d, rfl, q⟩ := q1
  cases r1
  exact wpAny_truthy_bool ⟨H1, I1, q⟩
/-- an expression whose value is a bool, as a test -/
theorem pt_val {e : Expr} {t : TE} (h : PE X e t) (he : ∀ whole, isTrue e X.env whole = (do let v ← whole; standAt e.pos; holding [v] (truthy v)) := by intro _; rfl) : PT X e (tB t) := by
  intro pins s σ H Q I hw
  refine isTrue_plain (thn (h pins s σ H _ I hw) fun v s1 ⟨x, H1, I1, r1, q1⟩ => ?_) (he _)
  obtain ⟨d, rfl, q⟩ := q1
  cases r1
  exact wpAny_truthy_bool ⟨H1, I1, q⟩

/-! ### and, or, not -/
variable {tA tB' : TT} {rest : List Expr}
def tAnd (t u : TT) : TT := fun σ H Q => t σ H fun c H1 => if c = true then u σ H1 Q else Q false H1
def tOr (t u : TT) : TT := fun σ H Q => t σ H fun c H1 => if c = true then Q true H1 else u σ H1 Q
def tNot (t : TT) : TT := fun σ H Q => t σ H fun c H1 => Q (!c) H1
theorem pw_and1 (ha : PT X a tA) : PW X (.BoolOp .And [a] pos) tA := by
  intro wh pins s σ H Q I h
  refine isTrue_and (thn (ha pins s σ H Q I h) fun c s1 e => ?_)
  cases c with
  | true => exact isTrue_and_nil e
  | false => exact e
theorem pw_or1 (ha : PT X a tA) : PW X (.BoolOp .Or [a] pos) tA := by
  intro wh pins s σ H Q I h
  refine isTrue_or (thn (ha pins s σ H Q I h) fun c s1 e => ?_)
  cases c with
  | false => exact isTrue_or_nil e
  | true => exact e
theorem pw_and (ha : PT X a tA) (hb : PW X (.BoolOp .And (b :: rest) pos) tB') : PW X (.BoolOp .And (a :: b :: rest) pos) (tAnd tA tB') := by
  intro wh pins s σ H Q I h
  refine isTrue_and (thn (ha pins s σ H _ I h) fun c s1 ⟨H1, I1, q1⟩ => ?_)
  cases c with
  | true => exact hb wh pins s1 σ H1 Q I1 q1
  | false => exact ⟨H1, I1, q1⟩
theorem pw_or (ha : PT X a tA) (hb : PW X (.BoolOp .Or (b :: rest) pos) tB') : PW X (.BoolOp .Or (a :: b :: rest) pos) (tOr tA tB') := by
  intro wh pins s σ H Q I h
  refine isTrue_or (thn (ha pins s σ H _ I h) fun c s1 ⟨H1, I1, q1⟩ => ?_)
  cases c with
  | true => exact ⟨H1, I1, q1⟩
  | false => exact hb wh pins s1 σ H1 Q I1 q1
theorem pt_not (ha : PT X a tA) : PT X (.UnaryOp .Not a pos) (tNot tA) := by
  intro pins s σ H Q I h
  exact isTrue_not (ha pins s σ H (fun c H1 => Q (!c) H1) I h)
/-- .. as values (bools) -/
def tAndV (ta tb : TE) : TE := fun σ H Q => ta σ H fun x H1 => ∃ c, x = .bl c ∧ if c = true then tb σ H1 Q else Q (.bl false) H1
def tOrV (ta tb : TE) : TE := fun σ H Q => ta σ H fun x H1 => ∃ c, x = .bl c ∧ if c = true then Q (.bl true) H1 else tb σ H1 Q
def tNotV (ta : TE) : TE := fun σ H Q => ta σ H fun x H1 => ∃ c, x = .bl c ∧ Q (.bl (!c)) H1
theorem pe_one {op} {t : TE} (h : PE X a t) : PE X (.BoolOp op [a] pos) t := fun pins s σ H Q I hw => BoolOp_one (h pins s σ H Q I hw)
theorem pe_and (ha : PE X a ta) (hb : PE X (.BoolOp .And (b :: rest) pos) tb) : PE X (.BoolOp .And (a :: b :: rest) pos) (tAndV ta tb) := by
  intro pins s σ H Q I h
  refine BoolOp_and (thn (ha pins s σ H _ I h) fun v s1 ⟨x, H1, I1, r1, q1⟩ => ?_)
  obtain ⟨c, rfl, q1⟩ := q1
  cases r1
  refine wpAny_truthy_bool ?_
  cases c with
  | true => exact hb pins s1 σ H1 Q I1 q1
  | false => exact ⟨.bl false, H1, I1, rfl, q1⟩
theorem pe_or (ha : PE X a ta) (hb : PE X (.BoolOp .Or (b :: rest) pos) tb) : PE X (.BoolOp .Or (a :: b :: rest) pos) (tOrV ta tb) := by
  intro pins s σ H Q I h
  refine BoolOp_or (thn (ha pins s σ H _ I h) fun v s1 ⟨x, H1, I1, r1, q1⟩ => ?_)
  obtain ⟨c, rfl, q1⟩ := q1
  cases r1
  refine wpAny_truthy_bool ?_
  cases c with
  | false => exact hb pins s1 σ H1 Q I1 q1
  | true => exact ⟨.bl true, H1, I1, rfl, q1⟩
theorem pe_not (ha : PE X a ta) : PE X (.UnaryOp .Not a pos) (tNotV ta) := by
  intro pins s σ H Q I h
  refine UnaryOp_ (thn (ha pins s σ H _ I h) fun v s1 ⟨x, H1, I1, r1, q1⟩ => ?_)
  obtain ⟨c, rfl, q1⟩ := q1
  cases r1
  exact not_of (wpAny_truthy_bool ⟨.bl (!c), H1, I1, rfl, q1⟩)
/-- a if t else b -/
def tIf (t : TT) (ta tb : TE) : TE := fun σ H Q => t σ H fun c H1 => if c = true then ta σ H1 Q else tb σ H1 Q
theorem pe_ifExp {c : Expr} (hc : PT X c tA) (ha : PE X a ta) (hb : PE X b tb) : PE X (.IfExp c a b pos) (tIf tA ta tb) := by
  intro pins s σ H Q I h
  refine wpAny_IfExp (thn (hc pins s σ H _ I h) fun d s1 ⟨H1, I1, q1⟩ => ?_)
  cases d with
  | true => exact ha pins s1 σ H1 Q I1 q1
  | false => exact hb pins s1 σ H1 Q I1 q1
end
end L2

namespace L2
open PySem PySem.Spec PyProof.Rows

/-! ### a list, a tuple that is read: tracked, frozen, or an object of the module -/
def SqL (K : PySem.W.Frag) (H : Hp) (a : Addr) (xs : List V) : Prop :=
  Rd H a (.lst xs) ∨
    ∃ (o : Obj) (its : Array Value) (n : Nat), K.lookup a = some o ∧ o.cls = .type "list" ∧ o.dict = none ∧ o.data = .seq its n ∧ its.size ≤ sizeLine ∧ Vals xs its.toList
def SqT (K : PySem.W.Frag) (H : Hp) (a : Addr) (xs : List V) : Prop :=
  Rd H a (.tup xs) ∨
    ∃ (o : Obj) (its : Array Value) (n : Nat), K.lookup a = some o ∧ o.cls = .type "tuple" ∧ o.data = .seq its n ∧ its.size ≤ sizeLine ∧ Vals xs its.toList
def absV : Value → Option V
  | .none => some .non
  | .bool b => some (.bl b)
  | .int i _ => some (.int i)
  | .str x _ => some (.str x)
  | .bytes b _ => some (.byt b)
  | .float b _ => some (.flt b)
  | .ref a => some (.ref a)
  | .type n => some (.ty n)
  | _ => none
theorem RelV.abs {x : V} {u : Value} (r : RelV x u) : absV u = some x := by
  cases x with
  | non => cases r; rfl
  | bl _ => cases r; rfl
  | int _ => obtain ⟨t, rfl⟩ := r; rfl
  | str _ => obtain ⟨t, rfl⟩ := r; rfl
  | byt _ => obtain ⟨t, rfl⟩ := r; rfl
  | flt _ => obtain ⟨t, rfl⟩ := r; rfl
  | ref _ => cases r; rfl
  | ty _ => cases r; rfl
theorem RelV.inj {x y : V} {u : Value} (r : RelV x u) (q : RelV y u) : x = y := Option.some.inj (r.abs.symm.trans q.abs)
theorem Vals.inj : ∀ {xs ys : List V} {us : List Value}, Vals xs us → Vals ys us → xs = ys
  | _, _, _, .nil, .nil => rfl
  | _, _, _, .cons r t, .cons r' t' => by rw [r.inj r', Vals.inj t t']
section
variable {X : Cx} {pins : List (Addr × Obj)} {σ : St} {H : Hp} {s : Shared} {a : Addr} {xs ys : List V}
theorem SqL.of {K : PySem.W.Frag} (h : H a = some (.lst xs)) : SqL K H a xs := .inl (.inl h)
theorem SqT.of {K : PySem.W.Frag} (h : H a = some (.tup xs)) : SqT K H a xs := .inl (.inl h)
theorem Inv.list (I : Inv X pins σ H s) (h : SqL X.K H a xs) : ∃ its : List Value, Vals xs its ∧ PlainL s.heap a its.toArray ∧ xs.length ≤ sizeLine := by
  rcases h with h | ⟨o, its, n, hk, hc, hd, hs, hz, r⟩
  · obtain ⟨z, its, n, r, e⟩ := h.ok I.hok
    exact ⟨its, r, ⟨_, n, e, rfl, rfl, rfl⟩, z⟩
  · refine ⟨its.toList, r, ⟨o, n, I.kIn a o hk, hc, hd, by simpa using hs⟩, ?_⟩
    have e := r.length
    simp only [Array.length_toList] at e
    omega
theorem Inv.tuple (I : Inv X pins σ H s) (h : SqT X.K H a xs) : ∃ its : List Value, Vals xs its ∧ IsTup s.heap a its.toArray ∧ xs.length ≤ sizeLine := by
  rcases h with h | ⟨o, its, n, hk, hc, hs, hz, r⟩
  · obtain ⟨z, its, r, p⟩ := h.ok I.hok
    exact ⟨its, r, p, z⟩
  · refine ⟨its.toList, r, ⟨o, I.kIn a o hk, hc, n, by simpa using hs⟩, ?_⟩
    have e := r.length
    simp only [Array.length_toList] at e
    omega
theorem Inv.list_inj (I : Inv X pins σ H s) (h : SqL X.K H a xs) (h' : SqL X.K H a ys) : xs = ys := by
  obtain ⟨its, r, ⟨o, n, e, _, _, d⟩, _⟩ := I.list h
  obtain ⟨its', r', ⟨o', n', e', _, _, d'⟩, _⟩ := I.list h'
  rw [e] at e'; cases e'
  rw [d] at d'
  injection d' with d1 _
  have : its = its' := by simpa using congrArg Array.toList d1
  subst this
  exact r.inj r'
theorem Inv.tuple_inj (I : Inv X pins σ H s) (h : SqT X.K H a xs) (h' : SqT X.K H a ys) : xs = ys := by
  obtain ⟨its, r, ⟨o, e, _, n, d⟩, _⟩ := I.tuple h
  obtain ⟨its', r', ⟨o', e', _, n', d'⟩, _⟩ := I.tuple h'
  rw [e] at e'; cases e'
  rw [d] at d'
  injection d' with d1 _
  have : its = its' := by simpa using congrArg Array.toList d1
  subst this
  exact r.inj r'
end

/-! ### another wish about exceptions -/
abbrev Cx.wish (X : Cx) (E : Value → Shared → Prop) : Cx := { X with xe := E }
/-- no exception leaves -/
abbrev Cx.nox (X : Cx) : Cx := X.wish fun _ _ => False
theorem Cx.Ok.wish {X : Cx} (ok : X.Ok) (E : Value → Shared → Prop) : (X.wish E).Ok :=
  ⟨ok.mod, ok.kind, ok.glob, ok.blt, ok.above, ok.inj, ok.has, ok.cab, ok.hd, ok.frames, ok.stk, ok.exf, ok.bs, ok.bsz, ok.noex, ok.exfs, ok.funs, ok.frf⟩
theorem Cx.Ok.unwish {X : Cx} {E : Value → Shared → Prop} (ok : (X.wish E).Ok) : X.Ok :=
  ⟨ok.mod, ok.kind, ok.glob, ok.blt, ok.above, ok.inj, ok.has, ok.cab, ok.hd, ok.frames, ok.stk, ok.exf, ok.bs, ok.bsz, ok.noex, ok.exfs, ok.funs, ok.frf⟩
section
variable {X : Cx} {pins : List (Addr × Obj)} {σ : St} {H : Hp} {s : Shared} {E : Value → Shared → Prop}
theorem Inv.wish (I : Inv X pins σ H s) (E : Value → Shared → Prop) : Inv (X.wish E) pins σ H s := ⟨I.ok.wish E, I.os, I.bare, I.base, I.loc, I.cell, I.free, I.freeC, I.pin, I.hok, I.len⟩
theorem Inv.unwish (I : Inv (X.wish E) pins σ H s) : Inv X pins σ H s := ⟨I.ok.unwish, I.os, I.bare, I.base, I.loc, I.cell, I.free, I.freeC, I.pin, I.hok, I.len⟩
theorem SP.unwish {D : Ends} {f : Flow} {s' : Shared} (h : SP (X.wish E) pins D f s') : SP X pins D f s' := by
  cases f with
  | next => obtain ⟨σ', H', I, q⟩ := h; exact ⟨σ', H', I.unwish, q⟩
  | brk => obtain ⟨σ', H', I, q⟩ := h; exact ⟨σ', H', I.unwish, q⟩
  | cont => obtain ⟨σ', H', I, q⟩ := h; exact ⟨σ', H', I.unwish, q⟩
  | ret u => obtain ⟨v, σ', H', I, r, q⟩ := h; exact ⟨v, σ', H', I.unwish, r, q⟩
theorem PE.nox {e : Expr} {t : TE} (h : PE X.nox e t) : PE X e t := fun pins s σ H Q I hw =>
  wpAny_mono (h pins s σ H Q (I.wish _) hw) (fun _ _ ⟨v, H', I', r, q⟩ => ⟨v, H', I'.unwish, r, q⟩) fun _ _ z => False.elim z
theorem PT.nox {e : Expr} {t : TT} (h : PT X.nox e t) : PT X e t := fun pins s σ H Q I hw =>
  wpAny_mono (h pins s σ H Q (I.wish _) hw) (fun _ _ ⟨H', I', q⟩ => ⟨H', I'.unwish, q⟩) fun _ _ z => False.elim z
theorem PSs.nox {st : List Stmt} {t : TS} (h : PSs X.nox st t) : PSs X st t := fun pins s σ H D I hw =>
  wpAny_mono (h pins s σ H D (I.wish _) hw) (fun _ _ q => q.unwish) fun _ _ z => False.elim z
end

/-! ### blocks and small statements -/
section
variable {X : Cx} {st : Stmt} {rest : List Stmt} {t u : TS} {e : Expr} {te : TE} {pos : Pos}
def tNext : TS := fun D σ H => D.nx σ H
def tSeq (t u : TS) : TS := fun D σ H => t { D with nx := u D } σ H
theorem pss_nil : PSs X [] tNext := fun _ _ σ H _ I h => wpAny_execs_nil ⟨σ, H, I, h⟩
theorem pss_cons (h1 : PS X st t) (h2 : PSs X rest u) : PSs X (st :: rest) (tSeq t u) := by
  intro pins s σ H D I h
  refine wpAny_execs_cons (thn (h1 pins s σ H { D with nx := u D } I h) fun f s1 q => ?_)
  cases f with
  | next =>
    obtain ⟨σ', H', I', q⟩ := q
    exact h2 pins s1 σ' H' D I' q
  | ret v => exact q
  | brk => exact q
  | cont => exact q
theorem pss_one (h1 : PS X st t) : PSs X [st] t := by
  intro pins s σ H D I h
  refine wpAny_execs_cons (thn (h1 pins s σ H D I h) fun f s1 q => ?_)
  cases f with
  | next => exact wpAny_execs_nil q
  | ret v => exact q
  | brk => exact q
  | cont => exact q
def tBreak : TS := fun D σ H => D.bk σ H
def tCont : TS := fun D σ H => D.ct σ H
theorem ps_pass : PS X (.Pass pos) tNext := fun _ _ σ H _ I h => wpAny_Pass ⟨σ, H, I, h⟩
theorem ps_break : PS X (.Break pos) tBreak := fun _ _ σ H _ I h => wpAny_Break ⟨σ, H, I, h⟩
theorem ps_continue : PS X (.Continue pos) tCont := fun _ _ σ H _ I h => wpAny_Continue ⟨σ, H, I, h⟩
/-- in a def's body nothing is shown -/
theorem Inv.quiet {pins : List (Addr × Obj)} {σ : St} {H : Hp} {s : Shared} (I : Inv X pins σ H s) : interactive X.env = false := by simp [interactive, I.ok.kind]
/-- a docstring -/
theorem ps_doc {x j pos pos'} : PS X (.Expr (.Constant (.str x) j pos) pos') tNext := fun _ s σ H _ I h => wpAny_Expr (Calls.Constant_str (show SP X _ _ .next { s with toks := s.toks + 1 } from ⟨σ, H, I.tok _, h⟩)) I.quiet
/-- an expression whose value is dropped -/
def tDrop (te : TE) : TS := fun D σ H => te σ H fun _ H1 => D.nx σ H1
theorem ps_expr (he : PE X e te) (hs : swapsWith e none pos.line X.env = pure false := by rfl) : PS X (.Expr e pos) (tDrop te) := by
  intro pins s σ H D I h
  exact wpAny_Expr_any (thn (he pins s σ H _ I h) fun v s1 ⟨x, H1, I1, r1, q1⟩ => ⟨σ, H1, I1, q1⟩) I.quiet hs
def tRet (te : TE) : TS := fun D σ H => te σ H D.rt
theorem ps_ret (he : PE X e te) : PS X (.Return (some e) pos) (tRet te) := by
  intro pins s σ H D I h
  exact wpAny_Return_some (thn (he pins s σ H _ I h) fun v s1 ⟨x, H1, I1, r1, q1⟩ => ⟨x, σ, H1, I1, r1, q1⟩)
def tRetN : TS := fun D _ H => D.rt .non H
theorem ps_retN : PS X (.Return none pos) tRetN := fun _ _ σ H _ I h => wpAny_Return_none ⟨.non, σ, H, I, rfl, h⟩
def tIfS (c : TT) (t u : TS) : TS := fun D σ H => c σ H fun b H1 => if b = true then t D σ H1 else u D σ H1
theorem ps_if {c : Expr} {a b : List Stmt} {tc : TT} (hc : PT X c tc) (ha : PSs X a t) (hb : PSs X b u) : PS X (.If c a b pos) (tIfS tc t u) := by
  intro pins s σ H D I h
  refine wpAny_If (thn (hc pins s σ H _ I h) fun d s1 ⟨H1, I1, q1⟩ => ?_)
  cases d with
  | true => exact ha pins s1 σ H1 D I1 q1
  | false => exact hb pins s1 σ H1 D I1 q1
/-- code that the proof never comes to -/
def tNever : TS := fun _ _ _ => False
theorem ps_never : PS X st tNever := fun _ _ _ _ _ _ h => h.elim
theorem pss_never {sts : List Stmt} : PSs X sts tNever := fun _ _ _ _ _ _ h => h.elim
end

/-! ### targets -/
abbrev TG := V → St → Hp → (St → Hp → Prop) → Prop
abbrev TGs := List V → St → Hp → (St → Hp → Prop) → Prop
def PG (X : Cx) (target : Expr) (t : TG) : Prop :=
  ∀ (pins : List (Addr × Obj)) (s : Shared) (σ : St) (H : Hp) (v : V) (u : Value) (Q : St → Hp → Prop), Inv X pins σ H s → RelV v u → t v σ H Q →
    wpAny (model X.prog X.w) X.A (assign target X.env u) (fun _ s' => ∃ σ' H', Inv X pins σ' H' s' ∧ Q σ' H') X.xe s
/-- several targets, one after another -/
def PGs (X : Cx) (ts : List Expr) (t : TGs) : Prop :=
  ∀ (pins : List (Addr × Obj)) (s : Shared) (σ : St) (H : Hp) (vs : List V) (us : List Value) (Q : St → Hp → Prop), Inv X pins σ H s → Vals vs us → t vs σ H Q →
    wpAny (model X.prog X.w) X.A (assignInOrder ((assignEach ts X.env).map (·.2)) us) (fun _ s' => ∃ σ' H', Inv X pins σ' H' s' ∧ Q σ' H') X.xe s
/-- o[i] = v, by values -/
abbrev TSet := V → V → V → Hp → (Hp → Prop) → Prop
def PSet (X : Cx) (t : TSet) : Prop :=
  ∀ (pins : List (Addr × Obj)) (s : Shared) (σ : St) (H : Hp) (o i v : V) (ov iv u : Value) (Q : Hp → Prop), Inv X pins σ H s → RelV o ov → RelV i iv → RelV v u → t o i v H Q →
    wpAny (model X.prog X.w) X.A (setItem ov iv u) (fun _ s' => ∃ H', Inv X pins σ H' s' ∧ Q H') X.xe s
/-- a op= b, by values -/
abbrev TIp := V → V → Hp → VK → Prop
def PIp (X : Cx) (op : Operator) (t : TIp) : Prop :=
  ∀ (pins : List (Addr × Obj)) (s : Shared) (σ : St) (H : Hp) (x y : V) (v u : Value) (Q : VK), Inv X pins σ H s → RelV x v → RelV y u → t x y H Q →
    wpAny (model X.prog X.w) X.A (inplaceOp op v u) (EP X pins σ Q) X.xe s
section
variable {X : Cx} {pos : Pos}
def gName (i : Nat) : TG := fun v σ H Q => Q (σ.set i (some v)) H
theorem pg_name {i : Nat} {x : Str} (hN : X.N.Nodup) (hi : X.N[i]? = some x) (hx : Loc X.env.scope x) (hf : X.fn x = true ∨ X.env.scope.names.lookup x = some .local := by first | exact .inl rfl | exact .inr rfl | assumption) : PG X (.Name x pos) (gName i) := by
  intro pins s σ H v u Q I r h
  exact wpAny_assign_Name (store_ok I hN hi hx r (fun s' I' => ⟨_, H, I', h⟩) hf)
def gNil : TGs := fun vs σ H Q => vs = [] ∧ Q σ H
def gCons (t : TG) (u : TGs) : TGs := fun vs σ H Q => ∃ v r, vs = v :: r ∧ t v σ H fun σ' H' => u r σ' H' Q
theorem pgs_nil : PGs X [] gNil := by
  intro pins s σ H vs us Q I r h
  obtain ⟨e, h⟩ := h
  subst e
  cases r
  exact assignInOrder_nil ⟨σ, H, I, h⟩
theorem pgs_cons {e : Expr} {es : List Expr} {t : TG} {u : TGs} (h1 : PG X e t) (h2 : PGs X es u)
    (hs : (assignEach (e :: es) X.env).map (·.2) = assign e X.env :: (assignEach es X.env).map (·.2) := by rfl) : PGs X (e :: es) (gCons t u) := by
  intro pins s σ H vs us Q I r h
  obtain ⟨v, vr, e1, h⟩ := h
  subst e1
  cases r with
  | cons r rr =>
    rw [hs]
    refine assignInOrder_cons (thn (h1 pins s σ H _ _ _ I r h) fun _ s1 ⟨σ1, H1, I1, q1⟩ => ?_)
    exact h2 pins s1 σ1 H1 _ _ Q I1 rr q1
/-- (a, b, ..) = a tuple of that length -/
def gTup (K : PySem.W.Frag) (n : Nat) (t : TGs) : TG := fun v σ H Q => ∃ a xs, v = .ref a ∧ SqT K H a xs ∧ xs.length = n ∧ t xs σ H Q
theorem pg_tup {es : List Expr} {k : Nat} {t : TGs} {n : Nat} (hc : X.calm = true) (h : PGs X es t)
    (hn : (assignEach es X.env).length = n := by rfl) (hst : (assignEach es X.env).findIdx? (·.1) = none := by rfl) : PG X (.Tuple es k pos) (gTup X.K n t) := by
  intro pins s σ H v u Q I r hw
  obtain ⟨a, xs, e1, hq, hl, hw⟩ := hw
  subst e1
  cases r
  obtain ⟨its, rv, ht, hz⟩ := I.tuple hq
  refine assign_Tuple_tuple (I.ok.hd hc) ht (by simp [hn, ← hl, rv.length]) hst fun h' hx => ?_
  have I1 : Inv X pins σ H { s with heap := h' } := I.kept (t' := s.toks) fun b o e => hx b o (Nat.ne_of_lt (Heap.lt_size e)) e
  exact h pins _ σ H xs _ Q I1 (by simpa using rv) hw
/-- o[i] = .. -/
def gSub (to ti : TE) (t : TSet) : TG := fun v σ H Q => to σ H fun o H1 => ti σ H1 fun i H2 => t o i v H2 fun H3 => Q σ H3
theorem pg_sub {o i : Expr} {to ti : TE} {t : TSet} (ho : PE X o to) (hi : PE X i ti) (hs : PSet X t)
    (ha : ∀ v, assign (.Subscript o i pos) X.env v = (do
      let ov ← holding [v] (eval o X.env)
      let iv ← holding [v, ov] (eval i X.env)
      standAt pos
      holding [v, ov, iv] (setItem ov iv v)
      release [v, ov, iv] []) := by intro _; rfl) : PG X (.Subscript o i pos) (gSub to ti t) := by
  intro pins s σ H v u Q I r h
  rw [ha]
  refine wpAny_bind (wpAny_holding (thn (ho pins s σ H _ I h) fun ov s1 ⟨x, H1, I1, r1, q1⟩ => ?_))
  refine wpAny_bind (wpAny_holding (thn (hi pins s1 σ H1 _ I1 q1) fun iv s2 ⟨y, H2, I2, r2, q2⟩ => ?_))
  refine wpAny_bind (wpAny_standAt (wpAny_bind (wpAny_holding (thn (hs pins s2 σ H2 x y v ov iv u _ I2 r1 r2 r q2) fun _ s3 ⟨H3, I3, q3⟩ => ?_))))
  exact wpAny_release ⟨σ, H3, I3, q3⟩
/-- target = value -/
def tAsg (te : TE) (g : TG) : TS := fun D σ H => te σ H fun x H1 => g x σ H1 D.nx
theorem ps_asg {tg e : Expr} {te : TE} {g : TG} (he : PE X e te) (hg : PG X tg g) (hs : swapsWithSole [tg] e pos.line X.env = pure false := by rfl) (hw : swappedStores [tg] e X.env = pure none := by rfl)
    (h1 : (assignEach [tg] X.env).map (·.2) = [assign tg X.env] := by rfl) : PS X (.Assign [tg] e pos) (tAsg te g) := by
  intro pins s σ H D I h
  refine wpAny_Assign_stores (thn (he pins s σ H _ I h) fun v s1 ⟨x, H1, I1, r1, q1⟩ => ?_) hs hw
  rw [h1]
  exact thn (hg pins s1 σ H1 x v _ I1 r1 q1) fun _ s2 q => q
/-- name = value -/
theorem ps_set {i : Nat} {x : Str} {e : Expr} {te : TE} {pos' : Pos} (hN : X.N.Nodup) (hi : X.N[i]? = some x) (hx : Loc X.env.scope x) (he : PE X e te) (hs : swapsWith e (some (.Name x pos')) pos.line X.env = pure false := by rfl) (hf : X.fn x = true ∨ X.env.scope.names.lookup x = some .local := by first | exact .inl rfl | exact .inr rfl | assumption) :
    PS X (.Assign [.Name x pos'] e pos) (tAsg te (gName i)) := by
  intro pins s σ H D I h
  refine wpAny_Assign_Name (thn (he pins s σ H _ I h) fun v s1 ⟨y, H1, I1, r1, q1⟩ => ?_) hs
  exact store_ok I1 hN hi hx r1 (fun s2 I2 => ⟨_, H1, I2, q1⟩) hf
/-- a, b = x, y with plain local names: stored from the right; the pair itself is not tracked (the opening rows as in PyProof/Rows/TupAssign.lean:23) -/
def tPar (i j : Nat) (ta : TA) : TS := fun D σ H => ta σ H fun vs H1 => ∃ v w, vs = [v, w] ∧ D.nx ((σ.set i (some v)).set j (some w)) H1
theorem ps_par {i j : Nat} {x y : Str} {a b : Expr} {ta : TA} {px py pt : Pos} {kt k2 pt2} (hc : X.calm = true) (hN : X.N.Nodup) (hi : X.N[i]? = some x) (hj : X.N[j]? = some y) (hij : i ≠ j)
    (hx : X.env.scope.names.lookup x = some .local) (hy : X.env.scope.names.lookup y = some .local) (ha : PA X [a, b] ta)
    (hw : swappedStores [.Tuple [.Name x px, .Name y py] kt pt] (.Tuple [a, b] k2 pt2) X.env = pure (some [x, y]))
    (hs : swapsWithSole [.Tuple [.Name x px, .Name y py] kt pt] (.Tuple [a, b] k2 pt2) pos.line X.env = pure false := by rfl) :
    PS X (.Assign [.Tuple [.Name x px, .Name y py] kt pt] (.Tuple [a, b] k2 pt2) pos) (tPar i j ta) := by
  intro pins s σ H D I h
  rw [exec_Assign_arm]
  refine wpAny_bind (wpAny_standAt ?_)
  rw [hs]
  refine wpAny_bind (wpAny_pure ?_)
  rw [if_neg (by decide)]
  refine wpAny_bind (Tuple_ (thn (ha _ pins s σ H _ I h) fun us s1 ⟨vs, H1, I1, r1, q1⟩ => ?_))
  obtain ⟨v, w, e1, q1⟩ := q1
  subst e1
  obtain ⟨u1, u2, rfl, rv, rw'⟩ : ∃ u1 u2, us = [u1, u2] ∧ RelV v u1 ∧ RelV w u2 := by
    cases r1 with
    | cons p q =>
      cases q with
      | cons p' q' =>
        cases q'
        exact ⟨_, _, rfl, p, p'⟩
  refine wpAny_newObj_type ?_ (by show 2 ≤ sizeLine; decide)
  have I2 : Inv X pins σ H1 { s1 with heap := s1.heap.push { cls := .type "tuple", data := .seq [u1, u2].toArray } } := I1.kept (t' := s1.toks) fun b o e => Heap.get?_push_of_some _ e
  rw [hw]
  refine wpAny_bind (wpAny_pure ?_)
  show wpAny (model X.prog X.w) X.A (do rule "assign.swapped-stores"; let items ← unpackItems (.ref s1.heap.objs.size) 2 none; assignInOrder [fun v => bindName X.env y v, fun v => bindName X.env x v] items.reverse; pure Flow.next) _ _ _
  refine wpAny_bind (wpAny_rule (wpAny_bind (unpackItems_tuple (items := #[u1, u2]) (I.ok.hd hc) (IsTup.new s1.heap _) fun h' hx' => ?_)))
  have I3 := I2.kept (h' := h') (t' := s1.toks) fun b o e => hx' b o (Nat.ne_of_lt (Heap.lt_size e)) e
  show wpAny _ _ (assignInOrder [fun v => bindName X.env y v, fun v => bindName X.env x v] [u2, u1] >>= fun _ => pure Flow.next) _ _ _
  refine wpAny_bind (assignInOrder_cons (wpAny_bindName (store_ok I3 hN hj (.inl hy) rw' (fun s2 I4 => ?_) (.inr hy))))
  refine assignInOrder_cons (wpAny_bindName (store_ok I4 hN hi (.inl hx) rv (fun s3 I5 => assignInOrder_nil (wpAny_pure ?_)) (.inr hx)))
  rw [List.set_comm _ _ (Ne.symm hij)] at I5
  exact ⟨_, H1, I5, q1⟩
/-- name op= e -/
def tAug (i : Nat) (te : TE) (ti : TIp) : TS := fun D σ H => ∃ x, σ[i]? = some (some x) ∧ te σ H fun y H1 => ti x y H1 fun z H2 => D.nx (σ.set i (some z)) H2
theorem ps_aug {i : Nat} {x : Str} {e : Expr} {te : TE} {op : Operator} {ti : TIp} {pos' : Pos} (hN : X.N.Nodup) (hi : X.N[i]? = some x) (hx : Loc X.env.scope x) (he : PE X e te) (ho : PIp X op ti) (hf : X.fn x = true ∨ X.env.scope.names.lookup x = some .local := by first | exact .inl rfl | exact .inr rfl | assumption) :
    PS X (.AugAssign (.Name x pos') op e pos) (tAug i te ti) := by
  intro pins s σ H D I h
  obtain ⟨v, e1, h⟩ := h
  obtain ⟨m, hn, hl⟩ := I.loc
  have vis : Vis X.env.scope x := by rcases hx with k | k; exact .inl k; exact .inr (.inl k)
  obtain ⟨u, r, l⟩ := hl i x v hi e1 vis
  refine wpAny_AugAssign_Name ?_
  have go : wpAny (model X.prog X.w) X.A (eval e X.env) (fun w s₂ => wpAny (model X.prog X.w) X.A (inplaceOp op u w) (fun r s₃ => wpAny (model X.prog X.w) X.A (storeName X.env x r) (fun _ => SP X pins D .next) X.xe s₃) X.xe s₂) X.xe s := by
    refine thn (he pins s σ H _ I h) fun w s1 ⟨y, H1, I1, r1, q1⟩ => ?_
    refine thn (ho pins s1 σ H1 v y u w _ I1 r r1 q1) fun z s2 ⟨zv, H2, I2, r2, q2⟩ => ?_
    exact store_ok I2 hN hi hx r2 (fun s3 I3 => ⟨_, H2, I3, q2⟩) hf
  rcases l with ⟨hk, hm⟩ | ⟨hk, c, hc, hcell⟩
  · exact wpAny_loadName_local I.ok.kind hk hn hm go
  · rcases hk with hk | hk
    · exact wpAny_loadName_cell I.ok.kind hk hc hcell go
    · rcases hx with k | k
      · have : X.env.scope.names.lookup x = some .free := hk
        rw [k] at this; cases this
      · have : X.env.scope.names.lookup x = some .free := hk
        rw [k] at this; cases this
/-- o[i] op= e -/
def tAugS (to ti te : TE) (tget : V → V → Hp → VK → Prop) (tip : TIp) (tset : TSet) : TS := fun D σ H => to σ H fun o H1 => ti σ H1 fun i H2 => tget o i H2 fun x H3 => te σ H3 fun y H4 => tip x y H4 fun z H5 => tset o i z H5 fun H6 => D.nx σ H6
/-- o[i], by values -/
def PGet (X : Cx) (t : V → V → Hp → VK → Prop) : Prop :=
  ∀ (pins : List (Addr × Obj)) (s : Shared) (σ : St) (H : Hp) (o i : V) (ov iv : Value) (Q : VK), Inv X pins σ H s → RelV o ov → RelV i iv → t o i H Q →
    wpAny (model X.prog X.w) X.A (getItem ov iv) (EP X pins σ Q) X.xe s
theorem ps_augS {o i e : Expr} {to ti te : TE} {tget : V → V → Hp → VK → Prop} {tip : TIp} {tset : TSet} {op : Operator} {tpos : Pos} (ho : PE X o to) (hi : PE X i ti) (hg : PGet X tget) (he : PE X e te) (hp : PIp X op tip) (hs : PSet X tset)
    (ha : ∀ ov iv new, augStore i ov iv new = (do holding [new, ov, iv] (setItem ov iv new); release [new, ov, iv] []; pure .next) := by intros; rfl) : PS X (.AugAssign (.Subscript o i tpos) op e pos) (tAugS to ti te tget tip tset) := by
  intro pins s σ H D I h
  refine wpAny_AugAssign_SubscriptAny (thn (ho pins s σ H _ I h) fun ov s1 ⟨x1, H1, I1, r1, q1⟩ => ?_) ha
  refine thn (hi pins s1 σ H1 _ I1 q1) fun iv s2 ⟨x2, H2, I2, r2, q2⟩ => ?_
  refine thn (hg pins s2 σ H2 x1 x2 ov iv _ I2 r1 r2 q2) fun old s3 ⟨x3, H3, I3, r3, q3⟩ => ?_
  refine thn (he pins s3 σ H3 _ I3 q3) fun v s4 ⟨x4, H4, I4, r4, q4⟩ => ?_
  refine thn (hp pins s4 σ H4 x3 x4 old v _ I4 r3 r4 q4) fun new s5 ⟨x5, H5, I5, r5, q5⟩ => ?_
  exact thn (hs pins s5 σ H5 x1 x2 x5 ov iv new _ I5 r1 r2 r5 q5) fun _ s6 ⟨H6, I6, q6⟩ => ⟨σ, H6, I6, q6⟩
/-- ints -/
def ipI (f : Int → Int → Int) : TIp := fun x y H Q => ∃ i j, x = .int i ∧ y = .int j ∧ Q (.int (f i j)) H
theorem ip_add : PIp X .Add (ipI fun i j => i + j) := by
  intro pins s σ H x y v u Q I r1 r2 h
  obtain ⟨i, j, e1, e2, q⟩ := h
  subst e1; subst e2
  obtain ⟨t, rfl⟩ := r1
  obtain ⟨t', rfl⟩ := r2
  exact iadd_int ⟨.int _, H, I.tok _, ⟨_, rfl⟩, q⟩
theorem ip_sub : PIp X .Sub (ipI fun i j => i - j) := by
  intro pins s σ H x y v u Q I r1 r2 h
  obtain ⟨i, j, e1, e2, q⟩ := h
  subst e1; subst e2
  obtain ⟨t, rfl⟩ := r1
  obtain ⟨t', rfl⟩ := r2
  exact isub_int ⟨.int _, H, I.tok _, ⟨_, rfl⟩, q⟩
end

/-! ### while -/
section
variable {X : Cx} {pos : Pos}
/-- the invariant W with its measure -/
def tWhile (c : TT) (tb : TS) : TS := fun D σ H => ∃ W : Nat → St → Hp → Prop, (∃ m, W m σ H) ∧ ∀ m σ H, W m σ H →
  c σ H fun b H1 => if b = true then ∃ N : St → Hp → Prop, (∀ σ' H', N σ' H' → ∃ m', m' < m ∧ W m' σ' H') ∧ tb { D with nx := N, ct := N, bk := D.nx } σ H1 else D.nx σ H1
theorem ps_while {c : Expr} {body : List Stmt} {tc : TT} {tb : TS} (hp : PassesOwn (model X.prog X.w) X.A X.env X.xe) (hc : PT X c tc) (hb : PSs X body tb) : PS X (.While c body [] pos) (tWhile tc tb) := by
  intro pins s σ H D I h
  obtain ⟨W, ⟨m0, w0⟩, turn⟩ := h
  refine wpAny_While (codeAny_whileLoop (fun n s' => ∃ σ' H', Inv X pins σ' H' s' ∧ W n σ' H') ?_ m0 ⟨σ, H, I, w0⟩)
  rintro n s1 ⟨σ1, H1, I1, w1⟩
  refine wpAny_passesOwn hp (thn (hc pins s1 σ1 H1 _ I1 (turn n σ1 H1 w1)) fun b s2 ⟨H2, I2, q2⟩ => ?_)
  cases b with
  | true =>
    obtain ⟨N, hN, q2⟩ := q2
    rw [if_pos rfl]
    refine wpAny_passesOwn hp (thn (hb pins s2 σ1 H2 _ I2 q2) fun f s3 q3 => ?_)
    cases f with
    | next =>
      obtain ⟨σ3, H3, I3, n3⟩ := q3
      obtain ⟨m', hm, w3⟩ := hN σ3 H3 n3
      exact ⟨m', hm, σ3, H3, I3, w3⟩
    | cont =>
      obtain ⟨σ3, H3, I3, n3⟩ := q3
      obtain ⟨m', hm, w3⟩ := hN σ3 H3 n3
      exact ⟨m', hm, σ3, H3, I3, w3⟩
    | brk => exact q3
    | ret v => exact q3
  | false =>
    rw [if_neg Bool.false_ne_true]
    exact wpAny_execs_nil ⟨σ1, H2, I2, q2⟩
end

/-! ### what a loop or a comprehension walks -/
/-- at turn i: it yields x (the heap may grow), or it stops -/
structure It where
  go : Nat → Hp → Prop
  yld : Nat → Hp → V → Hp → Prop
  stop : Nat → Hp → Prop
/-- the iterator's own objects may turn: they are not the frame's, not pinned, younger than the entry (or a comprehension's own) -/
def FpOk (X : Cx) (pins : List (Addr × Obj)) (H : Hp) (b : Addr) : Prop :=
  H b = none ∧ b ≠ X.env.locals ∧ b ∉ X.fs ∧ (b ∈ X.ex ∨ X.s₀.heap.objs.size ≤ b) ∧ (∀ x c, X.env.cells.lookup x = some c → c ≠ b) ∧ ∀ p ∈ X.pn ++ pins, p.1 ≠ b
theorem Inv.fpOk {X : Cx} {pins : List (Addr × Obj)} {σ : St} {H H' : Hp} {s : Shared} {b : Addr} (I : Inv X pins σ H s) (hb : s.heap.objs.size ≤ b) (hn : H' b = none) : FpOk X pins H' b := by
  refine ⟨hn, Nat.ne_of_gt (Nat.lt_of_lt_of_le I.lt hb), I.nofs hb, .inr (Nat.le_trans I.sz hb), fun x c e z => ?_, fun p hp z => ?_⟩
  · obtain ⟨v, q⟩ := I.cell x c e
    exact absurd (Nat.lt_of_lt_of_le q.lt (by rw [z]; exact hb)) (Nat.lt_irrefl _)
  · exact absurd (Nat.lt_of_lt_of_le (Heap.lt_size (I.pin p hp).1) (by rw [z]; exact hb)) (Nat.lt_irrefl _)
structure Turn (P : Program) (w : World) (K : PySem.W.Frag) (tg : Expr) (J : It) (fp : List Addr) (it : Addr) (tn : Nat → Heap → Prop) : Prop where
  mem : it ∈ fp
  obj : ∀ i h, tn i h → ∀ b ∈ fp, ∃ o, h.get? b = some o ∧ ∀ v, o.data ≠ .cell v
  keep : ∀ i h h', tn i h → (∀ b ∈ fp, ∀ o, h.get? b = some o → h'.get? b = some o) → tn i h'
  item : ∀ (X : Cx), X.prog = P → X.w = w → X.K = K → X.calm = true → ∀ (i : Nat) (pins : List (Addr × Obj)) (s : Shared) (σ : St) (H : Hp) (E : Value → Shared → Prop), Inv X pins σ H s → (∀ b ∈ fp, FpOk X pins H b) → tn i s.heap → J.go i H →
    wpAny (model P w) X.A (pyNext (.ref it)) (fun r s1 => ∃ u, r = some u ∧
      wpAny (model P w) X.A (letOwnedTupleGo tg (.ref it) u) (fun _ s2 => ∃ x H', Inv X pins σ H' s2 ∧ RelV x u ∧ J.yld i H x H' ∧ tn (i + 1) s2.heap ∧ ∀ b ∈ fp, H' b = none) E s1) E s
  done : ∀ (X : Cx), X.prog = P → X.w = w → X.K = K → X.calm = true → ∀ (i : Nat) (pins : List (Addr × Obj)) (s : Shared) (σ : St) (H : Hp) (E : Value → Shared → Prop), Inv X pins σ H s → (∀ b ∈ fp, FpOk X pins H b) → tn i s.heap → J.stop i H →
    wpAny (model P w) X.A (pyNext (.ref it)) (fun r s1 => r = none ∧ Inv X pins σ H s1) E s
  self : ∀ (A : Around) (i : Nat) (s : Shared) (Q : Value → Shared → Prop) (E : Value → Shared → Prop), tn i s.heap → Q (.ref it) s → wpAny (model P w) A (pyIter (.ref it)) Q E s
abbrev TI := St → Hp → (It → Hp → Prop) → Prop
/-- an iterator has come -/
def PIE (X : Cx) (pins : List (Addr × Obj)) (σ : St) (tg : Expr) (R : It → Hp → Prop) (itv : Value) (s2 : Shared) : Prop :=
  ∃ (it : Addr) (fp : List Addr) (tn : Nat → Heap → Prop) (J : It) (H' : Hp), itv = .ref it ∧ Inv X pins σ H' s2 ∧ Turn X.prog X.w X.K tg J fp it tn ∧ tn 0 s2.heap ∧ (∀ b ∈ fp, FpOk X pins H' b) ∧ R J H'
def PI (X : Cx) (tg iter : Expr) (wi : TI) : Prop :=
  ∀ (pins : List (Addr × Obj)) (s : Shared) (σ : St) (H : Hp) (R : It → Hp → Prop), Inv X pins σ H s → wi σ H R →
    wpAny (model X.prog X.w) X.A (eval iter X.env) (fun v s1 => wpAny (model X.prog X.w) X.A (pyIter v) (PIE X pins σ tg R) X.xe s1) X.xe s

/-- the step ahead of the store is nothing for an iterator that keeps no tuple -/
theorem go_of {M : Model} {A : Around} {E : Value → Shared → Prop} {s : Shared} {tg : Expr} {it : Addr} {u : Value} {o : Obj} {n : String} {vs : Array Value} {Q : Unit → Shared → Prop} (ho : s.heap.get? it = some o) (hc : o.cls = .type n) (hd : o.data = .fields vs)
    (hn : ["enumerate", "zip", "dict_itemiterator", "dict_reverseitemiterator", "odict_iterator", "itertools.zip_longest", "itertools.pairwise"].contains n = false) (hQ : Q () s) : wpAny M A (letOwnedTupleGo tg (.ref it) u) Q E s := by
  unfold letOwnedTupleGo
  cases tg <;> first
    | exact wpAny_pure hQ
    | (cases u <;> first
        | exact wpAny_pure hQ
        | (refine wpAny_bind (wpAny_load ho ?_)
           rw [hc, hd]
           show wpAny M A (if (["enumerate", "zip", "dict_itemiterator", "dict_reverseitemiterator", "odict_iterator", "itertools.zip_longest", "itertools.pairwise"].contains n && vs[0]? == some (rawInt _)) = true then _ else _) Q E s
           rw [if_neg (by intro h; rw [hn, Bool.false_and] at h; cases h)]
           exact wpAny_pure hQ))

/-- the list at a, as it stands at each turn (a loop may append to it) -/
def Itl (K : PySem.W.Frag) (a : Addr) : It :=
  ⟨fun i H => ∃ xs x, SqL K H a xs ∧ xs[i]? = some x, fun i H x H' => H' = H ∧ ∀ xs, SqL K H a xs → xs[i]? = some x, fun i H => ∃ xs, SqL K H a xs ∧ xs.length ≤ i⟩
def Itt (K : PySem.W.Frag) (a : Addr) : It :=
  ⟨fun i H => ∃ xs x, SqT K H a xs ∧ xs[i]? = some x, fun i H x H' => H' = H ∧ ∀ xs, SqT K H a xs → xs[i]? = some x, fun i H => ∃ xs, SqT K H a xs ∧ xs.length ≤ i⟩
/-- lo, lo + 1, .. (n of them) -/
def Itr (lo : Int) (n : Nat) : It := ⟨fun i _ => i < n, fun i H x H' => H' = H ∧ x = .int (lo + i), fun i _ => n ≤ i⟩
theorem turn_list {P : Program} {w : World} {K : PySem.W.Frag} {tg : Expr} (a it : Addr) : Turn P w K tg (Itl K a) [it] it (fun i h => h.IsListIter it a i) where
  mem := by simp
  obj := fun i h st b hb => by
    have e : b = it := by simpa using hb
    subst e
    obtain ⟨o, e, c, d⟩ := st
    exact ⟨o, e, fun v z => by rw [d] at z; cases z⟩
  keep := fun i h h' st k => st.at fun o e => k it (by simp) o e
  item := by
    intro X hP hw hK hc i pins s σ H E I hf st hg
    subst hP hw hK
    obtain ⟨xs, x, hq, hx⟩ := hg
    obtain ⟨its, rv, p, hz⟩ := I.list hq
    obtain ⟨u, hu, ru⟩ := rv.get hx
    obtain ⟨f0, f1, f2, f3, f4, f5⟩ := hf it (by simp)
    refine wpAny_pyNext_list_item st p.isList (x := u) (by simpa using hu) fun h' st' sb => ?_
    have I1 : Inv X pins σ H { s with heap := h' } := I.turned (t' := s.toks) (fun b o hb e => (sb.2 b hb).trans e) f0 f1 f3 f4 f5
    obtain ⟨o, e, c, d⟩ := id st'
    exact ⟨u, rfl, go_of (s := { s with heap := h' }) e c d (by decide) ⟨x, H, I1, ru, ⟨rfl, fun ys hy => by rw [I.list_inj hy hq]; exact hx⟩, st', fun b hb => (hf b hb).1⟩⟩
  done := by
    intro X hP hw hK hc i pins s σ H E I hf st hg
    subst hP hw hK
    obtain ⟨xs, hq, hx⟩ := hg
    obtain ⟨its, rv, p, hz⟩ := I.list hq
    obtain ⟨f0, f1, f2, f3, f4, f5⟩ := hf it (by simp)
    have hl := rv.length
    exact wpAny_pyNext_list_end (I.ok.hd hc) st p.isList (by simp; omega) fun h' eb => ⟨rfl, I.turned (t' := s.toks) (fun b o hb e => eb b o hb e) f0 f1 f3 f4 f5⟩
  self := fun _ _ _ _ _ st h => wpAny_pyIter_listiter st h
theorem turn_tuple {P : Program} {w : World} {K : PySem.W.Frag} {tg : Expr} (a it : Addr) : Turn P w K tg (Itt K a) [it] it (fun i h => h.IsTupleIter it a i) where
  mem := by simp
  obj := fun i h st b hb => by
    have e : b = it := by simpa using hb
    subst e
    obtain ⟨o, e, c, d⟩ := st
    exact ⟨o, e, fun v z => by rw [d] at z; cases z⟩
  keep := fun i h h' st k => st.at fun o e => k it (by simp) o e
  item := by
    intro X hP hw hK hc i pins s σ H E I hf st hg
    subst hP hw hK
    obtain ⟨xs, x, hq, hx⟩ := hg
    obtain ⟨its, rv, p, hz⟩ := I.tuple hq
    obtain ⟨u, hu, ru⟩ := rv.get hx
    obtain ⟨f0, f1, f2, f3, f4, f5⟩ := hf it (by simp)
    refine wpAny_pyNext_tuple_item st (show s.heap.IsTuple a its.toArray from p) (x := u) (by simpa using hu) fun h' st' sb => ?_
    have I1 : Inv X pins σ H { s with heap := h' } := I.turned (t' := s.toks) (fun b o hb e => (sb.2 b hb).trans e) f0 f1 f3 f4 f5
    obtain ⟨o, e, c, d⟩ := id st'
    exact ⟨u, rfl, go_of (s := { s with heap := h' }) e c d (by decide) ⟨x, H, I1, ru, ⟨rfl, fun ys hy => by rw [I.tuple_inj hy hq]; exact hx⟩, st', fun b hb => (hf b hb).1⟩⟩
  done := by
    intro X hP hw hK hc i pins s σ H E I hf st hg
    subst hP hw hK
    obtain ⟨xs, hq, hx⟩ := hg
    obtain ⟨its, rv, p, hz⟩ := I.tuple hq
    obtain ⟨f0, f1, f2, f3, f4, f5⟩ := hf it (by simp)
    have hl := rv.length
    exact wpAny_pyNext_tuple_end (I.ok.hd hc) st (show s.heap.IsTuple a its.toArray from p) (by simp; omega) fun h' eb => ⟨rfl, I.turned (t' := s.toks) (fun b o hb e => eb b o hb e) f0 f1 f3 f4 f5⟩
  self := fun _ _ _ _ _ st h => wpAny_pyIter_tupleiter st h
theorem turn_range {P : Program} {w : World} {K : PySem.W.Frag} {tg : Expr} (it : Addr) (lo : Int) (n : Nat) : Turn P w K tg (Itr lo n) [it] it (fun i h => IsRangeIter h it (lo + (i : Nat) * 1) ((n : Int) - (i : Nat)) 1) where
  mem := by simp
  obj := fun i h st b hb => by
    have e : b = it := by simpa using hb
    subst e
    exact ⟨_, st, fun v z => by
      have z' : Data.fields _ = Data.cell v := z
      cases z'⟩
  keep := fun i h h' st k => k it (by simp) _ st
  item := by
    intro X hP hw hK hc i pins s σ H E I hf st hg
    subst hP hw hK
    obtain ⟨f0, f1, f2, f3, f4, f5⟩ := hf it (by simp)
    have W := Walks.range (prog := X.prog) (w := X.w) (I.ok.hd hc) it lo 1 n
    refine W.item i s _ _ hg st fun v h' tk hv st' kk => ?_
    obtain ⟨t, rfl⟩ := hv
    have I1 : Inv X pins σ H { s with heap := h', toks := tk } := I.turned (fun b o hb e => kk b o (by simpa using hb) e) f0 f1 f3 f4 f5
    refine ⟨_, rfl, go_of (s := { s with heap := h', toks := tk }) (n := "range_iterator") st' rfl rfl (by decide) ⟨.int (lo + i), H, I1, ⟨t, ?_⟩, ⟨rfl, rfl⟩, st', fun b hb => (hf b hb).1⟩⟩
    rw [Int.mul_one]
  done := by
    intro X hP hw hK hc i pins s σ H E I hf st hg
    subst hP hw hK
    obtain ⟨f0, f1, f2, f3, f4, f5⟩ := hf it (by simp)
    exact wpAny_pyNext_range_end (I.ok.hd hc) st (by have : n ≤ i := hg; omega) fun h' eb => ⟨rfl, I.turned (t' := s.toks) (fun b o hb e => eb b o hb e) f0 f1 f3 f4 f5⟩
  self := fun _ _ _ _ _ st h => wpAny_pyIter_rangeiter st h
end L2

namespace L2
open PySem PySem.Spec PyProof.Rows
section
variable {X : Cx} {tg : Expr}
def iList (K : PySem.W.Frag) (tl : TE) : TI := fun σ H R => tl σ H fun x H1 => ∃ a, x = .ref a ∧ (∃ xs, SqL K H1 a xs) ∧ R (Itl K a) H1
def iTup (K : PySem.W.Frag) (tl : TE) : TI := fun σ H R => tl σ H fun x H1 => ∃ a, x = .ref a ∧ (∃ xs, SqT K H1 a xs) ∧ R (Itt K a) H1
theorem pi_list {l : Expr} {tl : TE} (hl : PE X l tl) : PI X tg l (iList X.K tl) := by
  intro pins s σ H R I h
  refine thn (hl pins s σ H _ I h) fun v s1 ⟨x, H1, I1, r1, q1⟩ => ?_
  obtain ⟨a, e, ⟨xs, hq⟩, q⟩ := q1
  subst e
  cases r1
  obtain ⟨its, rv, p, hz⟩ := I1.list hq
  refine wpAny_pyIter_list p.isList ?_
  refine ⟨s1.heap.objs.size, [s1.heap.objs.size], _, _, H1, rfl, I1.kept (t' := s1.toks) fun b o e => Heap.get?_push_of_some _ e, turn_list a _, ⟨_, Heap.get?_push_size _ rfl, rfl, rfl⟩, fun b hb => ?_, q⟩
  have e : b = s1.heap.objs.size := by simpa using hb
  subst e
  exact I1.fpOk (Nat.le_refl _) (I1.hok.fresh (Nat.le_refl _))
theorem pi_tup {l : Expr} {tl : TE} (hl : PE X l tl) : PI X tg l (iTup X.K tl) := by
  intro pins s σ H R I h
  refine thn (hl pins s σ H _ I h) fun v s1 ⟨x, H1, I1, r1, q1⟩ => ?_
  obtain ⟨a, e, ⟨xs, hq⟩, q⟩ := q1
  subst e
  cases r1
  obtain ⟨its, rv, p, hz⟩ := I1.tuple hq
  refine wpAny_pyIter_tuple (show s1.heap.IsTuple a its.toArray from p) ?_
  refine ⟨s1.heap.objs.size, [s1.heap.objs.size], _, _, H1, rfl, I1.kept (t' := s1.toks) fun b o e => Heap.get?_push_of_some _ e, turn_tuple a _, ⟨_, Heap.get?_push_size _ rfl, rfl, rfl⟩, fun b hb => ?_, q⟩
  have e : b = s1.heap.objs.size := by simpa using hb
  subst e
  exact I1.fpOk (Nat.le_refl _) (I1.hok.fresh (Nat.le_refl _))
/-- a range object just made, walked -/
theorem range_it {pins : List (Addr × Obj)} {σ : St} {H : Hp} {s : Shared} {R : It → Hp → Prop} {E : Value → Shared → Prop} {lo hi : Int} {t u v : Tok} {tk : Nat} (I : Inv X pins σ H s) (h1 : -(2 ^ 62) ≤ lo) (h2 : lo < 2 ^ 62) (h3 : -(2 ^ 62) ≤ hi) (h4 : hi < 2 ^ 62)
    (q : R (Itr lo (hi - lo).toNat) H) : wpAny (model X.prog X.w) X.A (pyIter (.ref s.heap.objs.size)) (PIE X pins σ tg R) E { s with heap := s.heap.push { cls := .type "range", data := .fields #[.int lo t, .int hi u, .int 1 v] }, toks := tk } := by
  refine wpAny_pyIter_range (IsRange.new ..) (small_one h1 h2 h3 h4) ?_
  have I1 : Inv X pins σ H { s with heap := s.heap.push { cls := .type "range", data := .fields #[.int lo t, .int hi u, .int 1 v] }, toks := tk } := I.kept fun b o e => Heap.get?_push_of_some _ e
  refine ⟨(s.heap.push { cls := .type "range", data := .fields #[.int lo t, .int hi u, .int 1 v] }).objs.size, [(s.heap.push { cls := .type "range", data := .fields #[.int lo t, .int hi u, .int 1 v] }).objs.size], _, _, H, rfl,
    I1.kept (t' := tk) fun b o e => Heap.get?_push_of_some _ e, turn_range _ lo (hi - lo).toNat, ?_, fun b hb => ?_, q⟩
  · have e1 : lo + ((0 : Nat) : Int) * 1 = lo := by simp
    have e2 : (((hi - lo).toNat : Nat) : Int) - ((0 : Nat) : Int) = Builtin.Range.rangeSize lo hi 1 := by rw [rangeSize_one]; split <;> omega
    show IsRangeIter _ _ (lo + ((0 : Nat) : Int) * 1) ((((hi - lo).toNat : Nat) : Int) - ((0 : Nat) : Int)) 1
    rw [e1, e2]
    exact Heap.get?_push_size _ rfl
  · have e : b = (s.heap.push { cls := .type "range", data := .fields #[.int lo t, .int hi u, .int 1 v] }).objs.size := by simpa using hb
    subst e
    exact I1.fpOk (Nat.le_refl _) (I1.hok.fresh (Nat.le_refl _))
def iRng1 (ta : TA) : TI := fun σ H R => ta σ H fun vs H1 => ∃ j : Int, vs = [.int j] ∧ -(2 ^ 62) ≤ j ∧ j < 2 ^ 62 ∧ R (Itr 0 j.toNat) H1
def iRng2 (ta : TA) : TI := fun σ H R => ta σ H fun vs H1 => ∃ i j : Int, vs = [.int i, .int j] ∧ (-(2 ^ 62) ≤ i ∧ i < 2 ^ 62 ∧ -(2 ^ 62) ≤ j ∧ j < 2 ^ 62) ∧ R (Itr i (j - i).toNat) H1
theorem pi_range1 {a : Expr} {ta : TA} {p pos : Pos} (hg : Gl X "range") (hm : X.mg "range" = none) (ha : PA X [a] ta) (hs : starEach [a] X.env = [(false, eval a X.env)] := by rfl) : PI X tg (.Call (.Name "range" p) [a] [] pos) (iRng1 ta) := by
  intro pins s σ H R I h
  refine Call_ (ld_blt I hg hm boot_range (PyProof.Rows.callWith_type1 (thn (ha pos pins s σ H _ I h) fun us s1 ⟨vs, H1, I1, r1, q1⟩ => ?_) hs rfl))
  obtain ⟨j, e, q1, q2, q⟩ := q1
  subst e
  cases r1 with
  | cons r rr =>
    cases rr
    obtain ⟨t, rfl⟩ := r
    exact call_range_1 (range_it I1 (by omega) (by omega) q1 q2 (by simpa using q))
theorem pi_range2 {a b : Expr} {ta : TA} {p pos : Pos} (hg : Gl X "range") (hm : X.mg "range" = none) (ha : PA X [a, b] ta) (hs : starEach [a, b] X.env = [(false, eval a X.env), (false, eval b X.env)] := by rfl) (hs2 : starEach [b] X.env = [(false, eval b X.env)] := by rfl) :
    PI X tg (.Call (.Name "range" p) [a, b] [] pos) (iRng2 ta) := by
  intro pins s σ H R I h
  refine Call_ (ld_blt I hg hm boot_range (PyProof.Rows.callWith_type1 (thn (ha pos pins s σ H _ I h) fun us s1 ⟨vs, H1, I1, r1, q1⟩ => ?_) (by rw [hs, hs2]) (by rw [hs2]; rfl)))
  obtain ⟨i, j, e, ⟨q1, q2, q3, q4⟩, q⟩ := q1
  subst e
  cases r1 with
  | cons r rr =>
    cases rr with
    | cons r' rr =>
      cases rr
      obtain ⟨t, rfl⟩ := r
      obtain ⟨t', rfl⟩ := r'
      exact call_range_2 (range_it I1 q1 q2 q3 q4 q)

/-! ### for -/
/-- W: the invariant by the turn and a measure; N: what the body is to reach -/
def tFor (wi : TI) (g : TG) (tb : TS) : TS := fun D σ H => wi σ H fun J H1 => ∃ W : Nat → Nat → St → Hp → Prop, (∃ m, W 0 m σ H1) ∧ ∀ i m σ H, W i m σ H →
  (J.stop i H ∧ D.nx σ H) ∨ (J.go i H ∧ ∃ N : St → Hp → Prop, (∀ σ' H', N σ' H' → ∃ m', m' < m ∧ W (i + 1) m' σ' H') ∧ ∀ x H', J.yld i H x H' → g x σ H' fun σ2 H2 => tb { D with nx := N, ct := N, bk := D.nx } σ2 H2)
/-- the records at fp as they stand -/
def pinsAt (fp : List Addr) (h : Heap) : List (Addr × Obj) := fp.filterMap fun b => (h.get? b).map fun o => (b, o)
theorem mem_pinsAt {fp : List Addr} {h : Heap} {b : Addr} {o : Obj} (hb : b ∈ fp) (e : h.get? b = some o) : (b, o) ∈ pinsAt fp h := List.mem_filterMap.mpr ⟨b, hb, by rw [e]; rfl⟩
theorem of_pinsAt {fp : List Addr} {h : Heap} {p : Addr × Obj} (hp : p ∈ pinsAt fp h) : p.1 ∈ fp ∧ h.get? p.1 = some p.2 := by
  obtain ⟨b, hb, e⟩ := List.mem_filterMap.mp hp
  cases q : h.get? b with
  | none => rw [q] at e; cases e
  | some o =>
    rw [q] at e
    have e' : (b, o) = p := Option.some.inj e
    subst e'
    exact ⟨hb, q⟩
theorem Inv.pinned {pins : List (Addr × Obj)} {σ : St} {H : Hp} {s : Shared} {fp : List Addr} (I : Inv X pins σ H s) (hf : ∀ b ∈ fp, FpOk X pins H b) (ho : ∀ b ∈ fp, ∃ o, s.heap.get? b = some o ∧ ∀ v, o.data ≠ .cell v) : Inv X (pins ++ pinsAt fp s.heap) σ H s :=
  I.pins_of fun p hp => (List.mem_append.mp hp).elim (fun z => I.pin p (List.mem_append_right _ z)) fun z => by
    obtain ⟨hb, e⟩ := of_pinsAt z
    obtain ⟨f0, f1, f2, _⟩ := hf p.1 hb
    obtain ⟨o, e', d⟩ := ho p.1 hb
    rw [e] at e'; cases e'
    exact ⟨e, f0, f1, f2, d⟩
theorem Inv.unpinned {pins pl : List (Addr × Obj)} {σ : St} {H : Hp} {s : Shared} (I : Inv X (pins ++ pl) σ H s) : Inv X pins σ H s := I.pins_of fun p hp => I.pin p (List.mem_append_right _ (List.mem_append_left _ hp))
theorem ps_for {iter : Expr} {body : List Stmt} {wi : TI} {g : TG} {tb : TS} {pos : Pos} (hp : PassesOwn (model X.prog X.w) X.A X.env X.xe) (hc : X.calm = true) (hi : PI X tg iter wi) (hg : PG X tg g) (hb : PSs X body tb)
    (hs : ∀ x, foldedSetIterable iter X.env x = pure x := by intro _; rfl) : PS X (.For tg iter body [] pos) (tFor wi g tb) := by
  intro pins s σ H D I h
  refine wpAny_For (thn (hi pins s σ H _ I h) fun v s1 h1 => thn h1 fun itv s2 h2 => ?_) hs
  obtain ⟨it, fp, tn, J, H2, e, I2, T, st2, f2, W, ⟨m0, w0⟩, turn⟩ := h2
  subst e
  -- what stays true of the iterator's objects through the loop
  have stat : ∀ {H' : Hp}, (∀ b ∈ fp, H' b = none) → ∀ b ∈ fp, FpOk X pins H' b := fun hn b hb => ⟨hn b hb, (f2 b hb).2⟩
  refine codeAny_forLoop_any (fun n s' => ∃ i σ' H', Inv X pins σ' H' s' ∧ tn i s'.heap ∧ (∀ b ∈ fp, H' b = none) ∧ W i n σ' H') ?_ m0 ⟨0, σ, H2, I2, st2, fun b hb => (f2 b hb).1, w0⟩
  rintro n s3 ⟨i, σ3, H3, I3, st3, fr3, w3⟩
  rcases turn i n σ3 H3 w3 with ⟨stop, qn⟩ | ⟨go, N, hN, step⟩
  · refine wpAny_passesOwn hp (thn (T.done X rfl rfl rfl hc i pins s3 σ3 H3 X.xe I3 (stat fr3) st3 stop) fun r s4 ⟨hr, I4⟩ => ?_)
    subst hr
    exact wpAny_execs_nil ⟨σ3, H3, I4, qn⟩
  · refine wpAny_passesOwn hp (thn (T.item X rfl rfl rfl hc i pins s3 σ3 H3 X.xe I3 (stat fr3) st3 go) fun r s4 ⟨u, hr, h4⟩ => ?_)
    subst hr
    refine wpAny_passesOwn hp (thn h4 fun _ s5 ⟨x, H5, I5, r5, y5, st5, fr5⟩ => ?_)
    have I5' := I5.pinned (stat fr5) (T.obj _ _ st5)
    refine wpAny_passesOwn hp (thn (hg _ s5 σ3 H5 x u _ I5' r5 (step x H5 y5)) fun _ s6 ⟨σ6, H6, I6, q6⟩ => ?_)
    refine wpAny_passesOwn hp (thn (hb _ s6 σ6 H6 _ I6 q6) fun f s7 q7 => ?_)
    have again : ∀ {σ7 : St} {H7 : Hp}, Inv X (pins ++ pinsAt fp s5.heap) σ7 H7 s7 → N σ7 H7 → ∃ m, m < n ∧ ∃ i σ' H', Inv X pins σ' H' s7 ∧ tn i s7.heap ∧ (∀ b ∈ fp, H' b = none) ∧ W i m σ' H' := fun {σ7 H7} I7 n7 => by
      obtain ⟨m', hm, w7⟩ := hN σ7 H7 n7
      refine ⟨m', hm, i + 1, σ7, H7, I7.unpinned, T.keep _ _ _ st5 fun b hb o e => (I7.pin (b, o) (List.mem_append_right _ (List.mem_append_right _ (mem_pinsAt hb e)))).1, fun b hb => ?_, w7⟩
      obtain ⟨o, e, d⟩ := T.obj _ _ st5 b hb
      exact (I7.pin (b, o) (List.mem_append_right _ (List.mem_append_right _ (mem_pinsAt hb e)))).2.1
    cases f with
    | next => obtain ⟨σ7, H7, I7, n7⟩ := q7; exact again I7 n7
    | cont => obtain ⟨σ7, H7, I7, n7⟩ := q7; exact again I7 n7
    | brk => obtain ⟨σ7, H7, I7, q7⟩ := q7; exact ⟨σ7, H7, I7.unpinned, q7⟩
    | ret v => obtain ⟨x7, σ7, H7, I7, r7, q7⟩ := q7; exact ⟨x7, σ7, H7, I7.unpinned, r7, q7⟩
end

/-! ### the forms one uses -/
/-- over a list that the body leaves as it is -/
theorem for_list {K : PySem.W.Frag} {a : Addr} {xs : List V} {g : TG} {tb : TS} {D : Ends} {σ : St} {H : Hp} (Pv : Nat → St → Hp → Prop) (h0 : Pv 0 σ H) (hl : ∀ i σ H, i ≤ xs.length → Pv i σ H → SqL K H a xs)
    (hs : ∀ i x σ H, xs[i]? = some x → Pv i σ H → g x σ H fun σ2 H2 => tb { D with nx := Pv (i + 1), ct := Pv (i + 1), bk := D.nx } σ2 H2) (hd : ∀ σ H, Pv xs.length σ H → D.nx σ H) :
    ∃ W : Nat → Nat → St → Hp → Prop, (∃ m, W 0 m σ H) ∧ ∀ i m σ H, W i m σ H →
      ((Itl K a).stop i H ∧ D.nx σ H) ∨ ((Itl K a).go i H ∧ ∃ N : St → Hp → Prop, (∀ σ' H', N σ' H' → ∃ m', m' < m ∧ W (i + 1) m' σ' H') ∧ ∀ x H', (Itl K a).yld i H x H' → g x σ H' fun σ2 H2 => tb { D with nx := N, ct := N, bk := D.nx } σ2 H2) := by
  refine ⟨fun i m σ H => m = xs.length - i ∧ i ≤ xs.length ∧ Pv i σ H, ⟨xs.length, by simp, Nat.zero_le _, h0⟩, ?_⟩
  rintro i m σ H ⟨rfl, hi, p⟩
  have q := hl i σ H hi p
  by_cases hlt : i < xs.length
  · refine .inr ⟨⟨xs, xs[i], q, by simp [hlt]⟩, Pv (i + 1), fun σ' H' p' => ⟨xs.length - (i + 1), by omega, rfl, hlt, p'⟩, fun x H' y => ?_⟩
    obtain ⟨e, y⟩ := y
    subst e
    exact hs i x σ _ (y xs q) p
  · have e : i = xs.length := by omega
    subst e
    exact .inl ⟨⟨xs, q, Nat.le_refl _⟩, hd σ H p⟩
theorem for_tup {K : PySem.W.Frag} {a : Addr} {xs : List V} {g : TG} {tb : TS} {D : Ends} {σ : St} {H : Hp} (Pv : Nat → St → Hp → Prop) (h0 : Pv 0 σ H) (hl : ∀ i σ H, i ≤ xs.length → Pv i σ H → SqT K H a xs)
    (hs : ∀ i x σ H, xs[i]? = some x → Pv i σ H → g x σ H fun σ2 H2 => tb { D with nx := Pv (i + 1), ct := Pv (i + 1), bk := D.nx } σ2 H2) (hd : ∀ σ H, Pv xs.length σ H → D.nx σ H) :
    ∃ W : Nat → Nat → St → Hp → Prop, (∃ m, W 0 m σ H) ∧ ∀ i m σ H, W i m σ H →
      ((Itt K a).stop i H ∧ D.nx σ H) ∨ ((Itt K a).go i H ∧ ∃ N : St → Hp → Prop, (∀ σ' H', N σ' H' → ∃ m', m' < m ∧ W (i + 1) m' σ' H') ∧ ∀ x H', (Itt K a).yld i H x H' → g x σ H' fun σ2 H2 => tb { D with nx := N, ct := N, bk := D.nx } σ2 H2) := by
  refine ⟨fun i m σ H => m = xs.length - i ∧ i ≤ xs.length ∧ Pv i σ H, ⟨xs.length, by simp, Nat.zero_le _, h0⟩, ?_⟩
  rintro i m σ H ⟨rfl, hi, p⟩
  have q := hl i σ H hi p
  by_cases hlt : i < xs.length
  · refine .inr ⟨⟨xs, xs[i], q, by simp [hlt]⟩, Pv (i + 1), fun σ' H' p' => ⟨xs.length - (i + 1), by omega, rfl, hlt, p'⟩, fun x H' y => ?_⟩
    obtain ⟨e, y⟩ := y
    subst e
    exact hs i x σ _ (y xs q) p
  · have e : i = xs.length := by omega
    subst e
    exact .inl ⟨⟨xs, q, Nat.le_refl _⟩, hd σ H p⟩
theorem for_range {lo : Int} {n : Nat} {g : TG} {tb : TS} {D : Ends} {σ : St} {H : Hp} (Pv : Nat → St → Hp → Prop) (h0 : Pv 0 σ H)
    (hs : ∀ i σ H, i < n → Pv i σ H → g (.int (lo + i)) σ H fun σ2 H2 => tb { D with nx := Pv (i + 1), ct := Pv (i + 1), bk := D.nx } σ2 H2) (hd : ∀ σ H, Pv n σ H → D.nx σ H) :
    ∃ W : Nat → Nat → St → Hp → Prop, (∃ m, W 0 m σ H) ∧ ∀ i m σ H, W i m σ H →
      ((Itr lo n).stop i H ∧ D.nx σ H) ∨ ((Itr lo n).go i H ∧ ∃ N : St → Hp → Prop, (∀ σ' H', N σ' H' → ∃ m', m' < m ∧ W (i + 1) m' σ' H') ∧ ∀ x H', (Itr lo n).yld i H x H' → g x σ H' fun σ2 H2 => tb { D with nx := N, ct := N, bk := D.nx } σ2 H2) := by
  refine ⟨fun i m σ H => m = n - i ∧ i ≤ n ∧ Pv i σ H, ⟨n, by simp, Nat.zero_le _, h0⟩, ?_⟩
  rintro i m σ H ⟨rfl, hi, p⟩
  by_cases hlt : i < n
  · refine .inr ⟨hlt, Pv (i + 1), fun σ' H' p' => ⟨n - (i + 1), by omega, rfl, hlt, p'⟩, fun x H' y => ?_⟩
    obtain ⟨e, y⟩ := y
    subst e y
    exact hs i σ _ hlt p
  · have e : i = n := by omega
    subst e
    exact .inl ⟨Nat.le_refl _, hd σ H p⟩
/-- while, by a word and a measure of the state -/
theorem while_by {c : TT} {tb : TS} {D : Ends} {σ : St} {H : Hp} (Pv : St → Hp → Prop) (μ : St → Hp → Nat) (h0 : Pv σ H)
    (hs : ∀ σ H, Pv σ H → c σ H fun b H1 => if b = true then tb { D with nx := fun σ' H' => Pv σ' H' ∧ μ σ' H' < μ σ H, ct := fun σ' H' => Pv σ' H' ∧ μ σ' H' < μ σ H, bk := D.nx } σ H1 else D.nx σ H1)
    (mono : ∀ σ H Q Q', (∀ b H1, Q b H1 → Q' b H1) → c σ H Q → c σ H Q') : tWhile c tb D σ H := by
  refine ⟨fun m σ H => m = μ σ H ∧ Pv σ H, ⟨_, rfl, h0⟩, ?_⟩
  rintro m σ H ⟨rfl, p⟩
  refine mono σ H _ _ (fun b H1 q => ?_) (hs σ H p)
  cases b with
  | true => exact ⟨_, fun σ' H' ⟨p', l⟩ => ⟨_, l, rfl, p'⟩, q⟩
  | false => exact q
end L2

namespace L2
open PySem PySem.Spec PyProof.Rows

abbrev R2 := V → V → Hp → VK → Prop
/-- a two-place operation on values: f is binaryOp op, inplaceOp op or compareOp op -/
def OpR (X : Cx) (f : Value → Value → Sem Value) (r : R2) : Prop :=
  ∀ (pins : List (Addr × Obj)) (s : Shared) (σ : St) (H : Hp) (x y : V) (v u : Value) (Q : VK), Inv X pins σ H s → RelV x v → RelV y u → r x y H Q →
    wpAny (model X.prog X.w) X.A (f v u) (EP X pins σ Q) X.xe s
/-- a one-place operation -/
def UnR (X : Cx) (f : Value → Sem Value) (r : V → Hp → VK → Prop) : Prop :=
  ∀ (pins : List (Addr × Obj)) (s : Shared) (σ : St) (H : Hp) (x : V) (v : Value) (Q : VK), Inv X pins σ H s → RelV x v → r x H Q →
    wpAny (model X.prog X.w) X.A (f v) (EP X pins σ Q) X.xe s
/-- a call of a value that is known (a builtin, a type) with values -/
def CallR (X : Cx) (f : Value) (r : List V → Hp → VK → Prop) : Prop :=
  ∀ (pins : List (Addr × Obj)) (s : Shared) (σ : St) (H : Hp) (xs : List V) (us : List Value) (Q : VK), Inv X pins σ H s → Vals xs us → r xs H Q →
    wpAny (model X.prog X.w) X.A (call f us) (EP X pins σ Q) X.xe s
/-- a value's truth -/
def TruR (X : Cx) (r : V → Hp → (Bool → Hp → Prop) → Prop) : Prop :=
  ∀ (pins : List (Addr × Obj)) (s : Shared) (σ : St) (H : Hp) (x : V) (v : Value) (Q : Bool → Hp → Prop), Inv X pins σ H s → RelV x v → r x H Q →
    wpAny (model X.prog X.w) X.A (truthy v) (TP X pins σ Q) X.xe s

def tOp (r : R2) (ta tb : TE) : TE := fun σ H Q => ta σ H fun x H1 => tb σ H1 fun y H2 => r x y H2 Q
def tUn (r : V → Hp → VK → Prop) (ta : TE) : TE := fun σ H Q => ta σ H fun x H1 => r x H1 Q
/-- ints in, under C, and a value out -/
def rI (C : Int → Int → Prop) (g : Int → Int → V) : R2 := fun x y H Q => ∃ i j, x = .int i ∧ y = .int j ∧ C i j ∧ Q (g i j) H
def rI0 (g : Int → Int → V) : R2 := fun x y H Q => ∃ i j, x = .int i ∧ y = .int j ∧ Q (g i j) H
def rU (g : Int → V) : V → Hp → VK → Prop := fun x H Q => ∃ i, x = .int i ∧ Q (g i) H

section
variable {X : Cx} {a b c : Expr} {ta tb tc : TE} {pos : Pos}

theorem binT (ha : PE X a ta) (hb : PE X b tb) {pins : List (Addr × Obj)} {s : Shared} {σ : St} {H : Hp} {R : V → V → Hp → Prop} (I : Inv X pins σ H s)
    (h : ta σ H fun x H1 => tb σ H1 fun y H2 => R x y H2) {Q : Value → Shared → Prop} {f : Value → Value → Sem Value}
    (hf : ∀ v u s2 x y H2, Inv X pins σ H2 s2 → RelV x v → RelV y u → R x y H2 → wpAny (model X.prog X.w) X.A (f v u) Q X.xe s2) :
    wpAny (model X.prog X.w) X.A (eval a X.env) (fun v s₁ => wpAny (model X.prog X.w) X.A (eval b X.env) (fun u s₂ => wpAny (model X.prog X.w) X.A (f v u) Q X.xe s₂) X.xe s₁) X.xe s := by
  refine thn (ha pins s σ H _ I h) fun v s1 ⟨x, H1, I1, r1, q1⟩ => ?_
  refine thn (hb pins s1 σ H1 _ I1 q1) fun u s2 ⟨y, H2, I2, r2, q2⟩ => ?_
  exact hf v u s2 x y H2 I2 r1 r2 q2

theorem pe_op {op : Operator} {r : R2} (ho : OpR X (binaryOp op) r) (ha : PE X a ta) (hb : PE X b tb) : PE X (.BinOp a op b pos) (tOp r ta tb) := by
  intro pins s σ H Q I h
  exact wpAny_BinOp (binT ha hb I h fun v u s2 x y H2 I2 rx ry q => ho pins s2 σ H2 x y v u Q I2 rx ry q)
theorem pe_un {op : UnaryOp} {r : V → Hp → VK → Prop} (ho : UnR X (unaryOp op) r) (ha : PE X a ta) : PE X (.UnaryOp op a pos) (tUn r ta) := by
  intro pins s σ H Q I h
  exact UnaryOp_ (thn (ha pins s σ H _ I h) fun v s1 ⟨x, H1, I1, r1, q1⟩ => ho pins s1 σ H1 x v Q I1 r1 q1)
/-- a op= e at a name: the name's slot i -/
theorem augR {op : Operator} {r : R2} (ho : OpR X (inplaceOp op) r) {pins : List (Addr × Obj)} {s : Shared} {σ : St} {H : Hp} {x y : V} {v u : Value} {Q : VK} (I : Inv X pins σ H s)
    (rx : RelV x v) (ry : RelV y u) (q : r x y H Q) : wpAny (model X.prog X.w) X.A (inplaceOp op v u) (EP X pins σ Q) X.xe s := ho pins s σ H x y v u Q I rx ry q

/-! ### ints -/
theorem opI {f : Value → Value → Sem Value} {C : Int → Int → Prop} {g : Int → Int → Int}
    (rule : ∀ (i j : Int) (t u : Tok) (s : Shared) (Q : Value → Shared → Prop) (E : Value → Shared → Prop), C i j → Q (.int (g i j) s.toks) { s with toks := s.toks + 1 } → wpAny (model X.prog X.w) X.A (f (.int i t) (.int j u)) Q E s) :
    OpR X f (rI C fun i j => .int (g i j)) := by
  intro pins s σ H x y v u Q I rx ry h
  obtain ⟨i, j, rfl, rfl, hc, q⟩ := h
  obtain ⟨t, rfl⟩ := rx
  obtain ⟨t', rfl⟩ := ry
  exact rule i j t t' s _ _ hc ⟨.int (g i j), H, I.tok _, ⟨_, rfl⟩, q⟩
theorem opI0 {f : Value → Value → Sem Value} {g : Int → Int → Int}
    (rule : ∀ (i j : Int) (t u : Tok) (s : Shared) (Q : Value → Shared → Prop) (E : Value → Shared → Prop), Q (.int (g i j) s.toks) { s with toks := s.toks + 1 } → wpAny (model X.prog X.w) X.A (f (.int i t) (.int j u)) Q E s) :
    OpR X f (rI0 fun i j => .int (g i j)) := by
  intro pins s σ H x y v u Q I rx ry h
  obtain ⟨i, j, rfl, rfl, q⟩ := h
  obtain ⟨t, rfl⟩ := rx
  obtain ⟨t', rfl⟩ := ry
  exact rule i j t t' s _ _ ⟨.int (g i j), H, I.tok _, ⟨_, rfl⟩, q⟩
theorem opB0 {f : Value → Value → Sem Value} {g : Int → Int → Bool}
    (rule : ∀ (i j : Int) (t u : Tok) (s : Shared) (Q : Value → Shared → Prop) (E : Value → Shared → Prop), Q (.bool (g i j)) s → wpAny (model X.prog X.w) X.A (f (.int i t) (.int j u)) Q E s) :
    OpR X f (rI0 fun i j => .bl (g i j)) := by
  intro pins s σ H x y v u Q I rx ry h
  obtain ⟨i, j, rfl, rfl, q⟩ := h
  obtain ⟨t, rfl⟩ := rx
  obtain ⟨t', rfl⟩ := ry
  exact rule i j t t' s _ _ ⟨.bl (g i j), H, I, rfl, q⟩

def CDiv (i j : Int) : Prop := 0 < j ∧ j < 1073741824
def CDivN (i j : Int) : Prop := j ≠ 0 ∧ j.natAbs < 1073741824
def CPow (i j : Int) : Prop := 0 ≤ j ∧ j ≤ 1000000 ∧ i.natAbs < 2 ^ 64
def CMul (i j : Int) : Prop := (-(2 ^ 64) < i ∧ i < 2 ^ 64) ∨ (-(2 ^ 64) < j ∧ j < 2 ^ 64)
theorem CMul.ok {i j : Int} (h : CMul i j) : IntMulOk i j := by
  rcases h with ⟨h1, h2⟩ | ⟨h1, h2⟩
  · exact .of_left (intBits_le_64 h1 h2)
  · exact .of_right (intBits_le_64 h1 h2)
theorem two_pow_nn (k : Nat) : (0 : Int) ≤ 2 ^ k := by
  rw [two_pow_cast]
  exact Int.natCast_nonneg _

theorem op_add : OpR X (binaryOp .Add) (rI0 fun i j => .int (i + j)) := opI0 fun _ _ _ _ _ _ _ q => add_int q
theorem op_sub : OpR X (binaryOp .Sub) (rI0 fun i j => .int (i - j)) := opI0 fun _ _ _ _ _ _ _ q => sub_int q
theorem op_mul : OpR X (binaryOp .Mult) (rI CMul fun i j => .int (i * j)) := opI fun _ _ _ _ _ _ _ hc q => mul_int q hc.ok
/-- // by a positive divisor -/
theorem op_fdiv : OpR X (binaryOp .FloorDiv) (rI CDiv fun i j => .int (i / j)) := opI fun i j _ _ _ _ _ hc q => by
  have h1 : (0 : Int) < j := hc.1
  have h2 : j < 1073741824 := hc.2
  exact floordiv_int (by omega) (by rw [Int.fdiv_eq_ediv_of_nonneg i (by omega)]; exact q) (.inl (PyProof.noPylong_small (by omega)))
theorem op_fdivN : OpR X (binaryOp .FloorDiv) (rI CDivN fun i j => .int (i.fdiv j)) := opI fun _ _ _ _ _ _ _ hc q => floordiv_int hc.1 q (.inl (PyProof.noPylong_small hc.2))
/-- % by a positive divisor of any size -/
theorem op_mod : OpR X (binaryOp .Mod) (rI (fun _ j => 0 < j) fun i j => .int (i % j)) := opI fun i j _ _ _ _ _ hc q => by
  have h1 : (0 : Int) < j := hc
  exact mod_int' (by omega) (by rw [Int.fmod_eq_emod_of_nonneg i (by omega)]; exact q)
theorem op_modN : OpR X (binaryOp .Mod) (rI (fun _ j => j ≠ 0) fun i j => .int (i.fmod j)) := opI fun _ _ _ _ _ _ _ hc q => mod_int' hc q
theorem op_pow : OpR X (binaryOp .Pow) (rI CPow fun i j => .int (i ^ j.toNat)) := opI fun _ _ _ _ _ _ _ hc q => pow_int_small hc.1 hc.2.1 hc.2.2 q
theorem op_shl : OpR X (binaryOp .LShift) (rI CPow fun i j => .int (i * 2 ^ j.toNat)) := opI fun _ _ _ _ _ _ _ hc q => lshift_int_small hc.1 hc.2.1 hc.2.2 q
theorem op_shr : OpR X (binaryOp .RShift) (rI (fun _ j => 0 ≤ j) fun i j => .int (i / 2 ^ j.toNat)) := opI fun i j _ _ _ _ _ hc q =>
  rshift_int hc (by rw [Int.fdiv_eq_ediv_of_nonneg i (two_pow_nn _)]; exact q)
theorem op_and : OpR X (binaryOp .BitAnd) (rI0 fun i j => .int (Builtin.bitAnd i j)) := opI0 fun _ _ _ _ _ _ _ q => and_int q
theorem op_or : OpR X (binaryOp .BitOr) (rI0 fun i j => .int (Builtin.bitOr i j)) := opI0 fun _ _ _ _ _ _ _ q => or_int q
theorem op_xor : OpR X (binaryOp .BitXor) (rI0 fun i j => .int (Builtin.bitXor i j)) := opI0 fun _ _ _ _ _ _ _ q => xor_int q

theorem iop_add : OpR X (inplaceOp .Add) (rI0 fun i j => .int (i + j)) := opI0 fun _ _ _ _ _ _ _ q => iadd_int q
theorem iop_sub : OpR X (inplaceOp .Sub) (rI0 fun i j => .int (i - j)) := opI0 fun _ _ _ _ _ _ _ q => isub_int q
theorem iop_mul : OpR X (inplaceOp .Mult) (rI CMul fun i j => .int (i * j)) := opI fun _ _ _ _ _ _ _ hc q => imul_int q hc.ok
theorem iop_fdiv : OpR X (inplaceOp .FloorDiv) (rI CDiv fun i j => .int (i / j)) := opI fun i j _ _ _ _ _ hc q => by
  have h1 : (0 : Int) < j := hc.1
  have h2 : j < 1073741824 := hc.2
  exact ifloordiv_int (by omega) (by rw [Int.fdiv_eq_ediv_of_nonneg i (by omega)]; exact q) (.inl (PyProof.noPylong_small (by omega)))
theorem iop_mod : OpR X (inplaceOp .Mod) (rI (fun _ j => 0 < j) fun i j => .int (i % j)) := opI fun i j _ _ _ _ _ hc q => by
  have h1 : (0 : Int) < j := hc
  exact imod_int (by omega) (by rw [Int.fmod_eq_emod_of_nonneg i (by omega)]; exact q)
theorem iop_shl : OpR X (inplaceOp .LShift) (rI CPow fun i j => .int (i * 2 ^ j.toNat)) := opI fun _ _ _ _ _ _ _ hc q => ilshift_int_small hc.1 hc.2.1 hc.2.2 q
theorem iop_shr : OpR X (inplaceOp .RShift) (rI (fun _ j => 0 ≤ j) fun i j => .int (i / 2 ^ j.toNat)) := opI fun i j _ _ _ _ _ hc q =>
  irshift_int hc (by rw [Int.fdiv_eq_ediv_of_nonneg i (two_pow_nn _)]; exact q)
theorem iop_and : OpR X (inplaceOp .BitAnd) (rI0 fun i j => .int (Builtin.bitAnd i j)) := opI0 fun _ _ _ _ _ _ _ q => iand_int q
theorem iop_or : OpR X (inplaceOp .BitOr) (rI0 fun i j => .int (Builtin.bitOr i j)) := opI0 fun _ _ _ _ _ _ _ q => ior_int q
theorem iop_xor : OpR X (inplaceOp .BitXor) (rI0 fun i j => .int (Builtin.bitXor i j)) := opI0 fun _ _ _ _ _ _ _ q => ixor_int q

theorem unI {f : Value → Sem Value} {g : Int → Int}
    (rule : ∀ (i : Int) (t : Tok) (s : Shared) (Q : Value → Shared → Prop) (E : Value → Shared → Prop), Q (.int (g i) s.toks) { s with toks := s.toks + 1 } → wpAny (model X.prog X.w) X.A (f (.int i t)) Q E s) :
    UnR X f (rU fun i => .int (g i)) := by
  intro pins s σ H x v Q I rx h
  obtain ⟨i, rfl, q⟩ := h
  obtain ⟨t, rfl⟩ := rx
  exact rule i t s _ _ ⟨.int (g i), H, I.tok _, ⟨_, rfl⟩, q⟩
theorem un_neg : UnR X (unaryOp .USub) (rU fun i => .int (-i)) := unI fun _ _ _ _ _ q => neg_int q
theorem un_inv : UnR X (unaryOp .Invert) (rU fun i => .int (Builtin.bitNot i)) := unI fun _ _ _ _ _ q => invert_int q

/-! ### bools among ints: n += (a < b) -/
theorem op_add_ib : OpR X (binaryOp .Add) (fun x y H Q => ∃ i k, x = .int i ∧ y = .bl k ∧ Q (.int (i + b2i k)) H) := by
  intro pins s σ H x y v u Q I rx ry h
  obtain ⟨i, k, rfl, rfl, q⟩ := h
  obtain ⟨t, rfl⟩ := rx
  cases ry
  exact add_int_bool ⟨.int (i + b2i k), H, I.tok _, ⟨_, rfl⟩, q⟩
end

/-! ### comparisons -/
/-- the scalars that == tells apart as data does -/
def scal : V → V → Bool
  | .non, .non => true | .non, .int _ => true | .int _, .non => true | .non, .bl _ => true | .bl _, .non => true | .non, .str _ => true | .str _, .non => true
  | .int _, .int _ => true | .bl _, .bl _ => true | .str _, .str _ => true | .byt _, .byt _ => true
  | .int _, .str _ => true | .str _, .int _ => true | .bl _, .str _ => true | .str _, .bl _ => true
  | _, _ => false
def rEq : R2 := fun x y H Q => scal x y = true ∧ Q (.bl (decide (x = y))) H
def rNe : R2 := fun x y H Q => scal x y = true ∧ Q (.bl (!decide (x = y))) H

theorem dec_int {i j : Int} : decide (V.int i = V.int j) = (i == j) := by
  rw [Bool.eq_iff_iff]
  simp
theorem dec_bl {i j : Bool} : decide (V.bl i = V.bl j) = (i == j) := by
  rw [Bool.eq_iff_iff]
  simp
theorem dec_str {i j : Str} : decide (V.str i = V.str j) = (i == j) := by
  rw [Bool.eq_iff_iff]
  simp
theorem dec_byt {i j : Array UInt8} : decide (V.byt i = V.byt j) = (i.toList == j.toList) := by
  rw [Bool.eq_iff_iff]
  cases i
  cases j
  simp

section
variable {X : Cx} {a b c : Expr} {ta tb tc : TE} {pos : Pos}
theorem fin_bl {pins : List (Addr × Obj)} {σ : St} {H : Hp} {s : Shared} {Q : VK} {k k' : Bool} (I : Inv X pins σ H s) (q : Q (.bl k) H) (e : k = k') : EP X pins σ Q (.bool k') s := by
  subst e
  exact ⟨.bl k, H, I, rfl, q⟩
theorem op_eq : OpR X (compareOp .Eq) rEq := by
  intro pins s σ H x y v u Q I rx ry h
  obtain ⟨hs, q⟩ := h
  cases x with
  | non =>
    cases rx
    cases y with
    | non => cases ry; exact PySem.EqNone.eq_none_none (fin_bl I q (by simp))
    | bl j => cases ry; exact PySem.EqNone.eq_none_bool (fin_bl I q (by simp))
    | int j => obtain ⟨t', rfl⟩ := ry; exact PySem.EqNone.eq_none_int (fin_bl I q (by simp))
    | str j => obtain ⟨t', rfl⟩ := ry; exact PySem.EqNone.eq_none_str (fin_bl I q (by simp))
    | _ => exact absurd (show false = true from hs) Bool.false_ne_true
  | bl i =>
    cases rx
    cases y with
    | non => cases ry; exact PySem.EqNone.eq_bool_none (fin_bl I q (by simp))
    | bl j => cases ry; exact eq_bool (fin_bl I q dec_bl)
    | str j => obtain ⟨t', rfl⟩ := ry; exact PySem.EqMixed.eq_bool_str (fin_bl I q (by simp))
    | _ => exact absurd (show false = true from hs) Bool.false_ne_true
  | int i =>
    obtain ⟨t, rfl⟩ := rx
    cases y with
    | non => cases ry; exact PySem.EqNone.eq_int_none (fin_bl I q (by simp))
    | int j => obtain ⟨t', rfl⟩ := ry; exact eq_int (fin_bl I q dec_int)
    | str j => obtain ⟨t', rfl⟩ := ry; exact PySem.EqMixed.eq_int_str (fin_bl I q (by simp))
    | _ => exact absurd (show false = true from hs) Bool.false_ne_true
  | str i =>
    obtain ⟨t, rfl⟩ := rx
    cases y with
    | non => cases ry; exact PySem.EqNone.eq_str_none (fin_bl I q (by simp))
    | bl j => cases ry; exact PySem.EqMixed.eq_str_bool (fin_bl I q (by simp))
    | int j => obtain ⟨t', rfl⟩ := ry; exact PySem.EqMixed.eq_str_int (fin_bl I q (by simp))
    | str j => obtain ⟨t', rfl⟩ := ry; exact eq_str (fin_bl I q dec_str)
    | _ => exact absurd (show false = true from hs) Bool.false_ne_true
  | byt i =>
    obtain ⟨t, rfl⟩ := rx
    cases y with
    | byt j => obtain ⟨t', rfl⟩ := ry; exact PySem.W.eq_bytes (fin_bl I q dec_byt)
    | _ => exact absurd (show false = true from hs) Bool.false_ne_true
  | _ => cases y <;> exact absurd (show false = true from hs) Bool.false_ne_true
theorem op_ne : OpR X (compareOp .NotEq) rNe := by
  intro pins s σ H x y v u Q I rx ry h
  obtain ⟨hs, q⟩ := h
  cases x with
  | non =>
    cases rx
    cases y with
    | non => cases ry; exact PySem.EqNone.ne_none_none (fin_bl I q (by simp))
    | bl j => cases ry; exact PySem.EqNone.ne_none_bool (fin_bl I q (by simp))
    | int j => obtain ⟨t', rfl⟩ := ry; exact PySem.EqNone.ne_none_int (fin_bl I q (by simp))
    | str j => obtain ⟨t', rfl⟩ := ry; exact PySem.EqNone.ne_none_str (fin_bl I q (by simp))
    | _ => exact absurd (show false = true from hs) Bool.false_ne_true
  | bl i =>
    cases rx
    cases y with
    | non => cases ry; exact PySem.EqNone.ne_bool_none (fin_bl I q (by simp))
    | bl j => cases ry; exact ne_bool (fin_bl I q (congrArg not dec_bl))
    | str j => obtain ⟨t', rfl⟩ := ry; exact PySem.EqMixed.ne_bool_str (fin_bl I q (by simp))
    | _ => exact absurd (show false = true from hs) Bool.false_ne_true
  | int i =>
    obtain ⟨t, rfl⟩ := rx
    cases y with
    | non => cases ry; exact PySem.EqNone.ne_int_none (fin_bl I q (by simp))
    | int j => obtain ⟨t', rfl⟩ := ry; exact ne_int (fin_bl I q (congrArg not dec_int))
    | str j => obtain ⟨t', rfl⟩ := ry; exact PySem.EqMixed.ne_int_str (fin_bl I q (by simp))
    | _ => exact absurd (show false = true from hs) Bool.false_ne_true
  | str i =>
    obtain ⟨t, rfl⟩ := rx
    cases y with
    | non => cases ry; exact PySem.EqNone.ne_str_none (fin_bl I q (by simp))
    | bl j => cases ry; exact PySem.EqMixed.ne_str_bool (fin_bl I q (by simp))
    | int j => obtain ⟨t', rfl⟩ := ry; exact PySem.EqMixed.ne_str_int (fin_bl I q (by simp))
    | str j => obtain ⟨t', rfl⟩ := ry; exact ne_str (fin_bl I q (congrArg not dec_str))
    | _ => exact absurd (show false = true from hs) Bool.false_ne_true
  | byt i =>
    obtain ⟨t, rfl⟩ := rx
    cases y with
    | byt j => obtain ⟨t', rfl⟩ := ry; exact PySem.W.ne_bytes (fin_bl I q (congrArg not dec_byt))
    | _ => exact absurd (show false = true from hs) Bool.false_ne_true
  | _ => cases y <;> exact absurd (show false = true from hs) Bool.false_ne_true

theorem op_lt : OpR X (compareOp .Lt) (rI0 fun i j => .bl (decide (i < j))) := opB0 fun _ _ _ _ _ _ _ q => lt_int q
theorem op_le : OpR X (compareOp .LtE) (rI0 fun i j => .bl (decide (i ≤ j))) := opB0 fun _ _ _ _ _ _ _ q => le_int q
theorem op_gt : OpR X (compareOp .Gt) (rI0 fun i j => .bl (decide (j < i))) := opB0 fun _ _ _ _ _ _ _ q => gt_int q
theorem op_ge : OpR X (compareOp .GtE) (rI0 fun i j => .bl (decide (j ≤ i))) := opB0 fun _ _ _ _ _ _ _ q => ge_int q
theorem op_lt_str : OpR X (compareOp .Lt) (fun x y H Q => ∃ i j, x = .str i ∧ y = .str j ∧ Q (.bl (decide (i.cps.toList < j.cps.toList))) H) := by
  intro pins s σ H x y v u Q I rx ry h
  obtain ⟨i, j, rfl, rfl, q⟩ := h
  obtain ⟨t, rfl⟩ := rx
  obtain ⟨t', rfl⟩ := ry
  exact lt_str (fin_bl I q rfl)
/-- the one string within the other -/
theorem op_in_str : OpR X (compareOp .In) (fun x y H Q => ∃ i j, x = .str i ∧ y = .str j ∧ Q (.bl (!(Builtin.Str.occurrences j i 0 j.length 1).isEmpty)) H) := by
  intro pins s σ H x y v u Q I rx ry h
  obtain ⟨i, j, rfl, rfl, q⟩ := h
  obtain ⟨t, rfl⟩ := rx
  obtain ⟨t', rfl⟩ := ry
  exact in_str (fin_bl I q rfl)

/-- is None, is not None: the right side a value none -/
theorem op_isN : OpR X (compareOp .Is) (fun x y H Q => y = .non ∧ Q (.bl (decide (x = .non))) H) := by
  intro pins s σ H x y v u Q I rx ry h
  obtain ⟨rfl, q⟩ := h
  cases ry
  refine is_none_gen (fin_bl I q ?_)
  cases x <;> first
    | (cases rx; rfl)
    | (obtain ⟨t, rfl⟩ := rx; rfl)
theorem op_notN : OpR X (compareOp .IsNot) (fun x y H Q => y = .non ∧ Q (.bl (!decide (x = .non))) H) := by
  intro pins s σ H x y v u Q I rx ry h
  obtain ⟨rfl, q⟩ := h
  cases ry
  refine isnot_none_gen (fin_bl I q ?_)
  cases x <;> first
    | (cases rx; rfl)
    | (obtain ⟨t, rfl⟩ := rx; rfl)

theorem op_notin_str : OpR X (compareOp .NotIn) (fun x y H Q => ∃ i j, x = .str i ∧ y = .str j ∧ Q (.bl (!(!(Builtin.Str.occurrences j i 0 j.length 1).isEmpty))) H) := by
  intro pins s σ H x y v u Q I rx ry h
  obtain ⟨i, j, rfl, rfl, q⟩ := h
  obtain ⟨t, rfl⟩ := rx
  obtain ⟨t', rfl⟩ := ry
  exact notIn_str (fin_bl I q rfl)
/-- is, is not of two objects that are tracked lists or instances -/
def isObj : HO → Bool
  | .lst _ => true
  | .ins _ _ _ => true
  | _ => false
theorem obj_there {pins : List (Addr × Obj)} {s : Shared} {σ : St} {H : Hp} {a : Addr} {o : HO} (I : Inv X pins σ H s) (h : H a = some o) (p : isObj o = true) : ∃ ob, s.heap.get? a = some ob ∧ ob.cls ≠ .type "tuple" := by
  cases o with
  | lst xs =>
    obtain ⟨_, its, n, _, e⟩ : xs.length ≤ sizeLine ∧ ∃ (its : List Value) (n : Nat), Vals xs its ∧ s.heap.get? a = some { cls := .type "list", data := .seq its.toArray n } := I.hok a _ h
    exact ⟨_, e, (by show Value.type "list" ≠ .type "tuple"; decide +kernel)⟩
  | ins C dx fs =>
    have x := I.hok a _ h
    obtain ⟨_, _, _, e, _⟩ := x
    exact ⟨_, e, (by show Value.ref C ≠ .type "tuple"; exact fun z => by cases z)⟩
  | _ => exact absurd (show false = true from p) Bool.false_ne_true
theorem op_is_ref : OpR X (compareOp .Is) (fun x y H Q => ∃ a b oa ob, x = .ref a ∧ y = .ref b ∧ H a = some oa ∧ isObj oa = true ∧ H b = some ob ∧ isObj ob = true ∧ Q (.bl (decide (a = b))) H) := by
  intro pins s σ H x y v u Q I rx ry h
  obtain ⟨a, b, oa, ob, rfl, rfl, ha, pa, hb, pb, q⟩ := h
  cases rx
  cases ry
  obtain ⟨o1, e1, n1⟩ := obj_there I ha pa
  obtain ⟨o2, e2, _⟩ := obj_there I hb pb
  by_cases z : a = b
  · subst z
    exact wpAny_is_ref_self (fin_bl I q (by simp))
  · exact wpAny_is_ref_other z e1 e2 n1 (fin_bl I q (by simp [z]))
theorem op_isnot_ref : OpR X (compareOp .IsNot) (fun x y H Q => ∃ a b oa ob, x = .ref a ∧ y = .ref b ∧ H a = some oa ∧ isObj oa = true ∧ H b = some ob ∧ isObj ob = true ∧ Q (.bl (!decide (a = b))) H) := by
  intro pins s σ H x y v u Q I rx ry h
  obtain ⟨a, b, oa, ob, rfl, rfl, ha, pa, hb, pb, q⟩ := h
  cases rx
  cases ry
  obtain ⟨o1, e1, n1⟩ := obj_there I ha pa
  obtain ⟨o2, e2, _⟩ := obj_there I hb pb
  by_cases z : a = b
  · subst z
    exact wpAny_isNot_ref_self (fin_bl I q (by simp))
  · exact wpAny_isNot_ref_other z e1 e2 n1 (fin_bl I q (by simp [z]))

/-- two rules for one operation: by cases -/
theorem OpR.or {f : Value → Value → Sem Value} {r r' : R2} (h : OpR X f r) (h' : OpR X f r') : OpR X f (fun x y H Q => r x y H Q ∨ r' x y H Q) := by
  intro pins s σ H x y v u Q I rx ry q
  rcases q with q | q
  · exact h pins s σ H x y v u Q I rx ry q
  · exact h' pins s σ H x y v u Q I rx ry q

theorem nomark (b : Expr) {op : CmpOp} (h : op ≠ .In := by decide) (h2 : op ≠ .NotIn := by decide) : behindInMarks op b = false := by
  have e1 : (op == CmpOp.In) = false := by cases op <;> first | rfl | exact absurd rfl h
  have e2 : (op == CmpOp.NotIn) = false := by cases op <;> first | rfl | exact absurd rfl h2
  cases b <;> simp [behindInMarks, e1, e2]
/-- a comparison as a value; hm: nomark b, or (for in, not in) by with_unfolding_all rfl -/
theorem pe_cmpR {op : CmpOp} {r : R2} (ho : OpR X (compareOp op) r) (ha : PE X a ta) (hb : PE X b tb) (hm : behindInMarks op b = false) : PE X (.Compare a [op] [b] pos) (tOp r ta tb) := by
  intro pins s σ H Q I h
  exact wpAny_Compare1 (binT ha hb I h fun v u s2 x y H2 I2 rx ry q => ho pins s2 σ H2 x y v u Q I2 rx ry q) hm
/-- a reading of a value as a test -/
def tTest (t : TE) : TT := fun σ H Q => t σ H fun x H' => ∃ k, x = .bl k ∧ Q k H'
theorem pt_cmpR {op : CmpOp} {r : R2} (ho : OpR X (compareOp op) r) (ha : PE X a ta) (hb : PE X b tb) (hm : behindInMarks op b = false) : PT X (.Compare a [op] [b] pos) (tTest (tOp r ta tb)) := by
  intro pins s σ H Q I h
  refine wpAny_isTrue_Compare1 (thn (ha pins s σ H _ I h) fun v s1 ⟨x, H1, I1, r1, q1⟩ => thn (hb pins s1 σ H1 _ I1 q1) fun u s2 ⟨y, H2, I2, r2, q2⟩ =>
    thn (ho pins s2 σ H2 x y v u _ I2 r1 r2 q2) fun c s3 ⟨z, H3, I3, r3, k, e, q3⟩ => ?_) hm
  subst e
  cases r3
  exact wpAny_truthy_bool ⟨H3, I3, q3⟩
/-- a op1 b op2 c -/
def tChain (r r' : R2) (ta tb tc : TE) : TE := fun σ H Q => ta σ H fun x H1 => tb σ H1 fun y H2 => r x y H2 fun z H3 => ∃ k, z = .bl k ∧
  (if k = true then tc σ H3 fun w' H4 => r' y w' H4 Q else Q (.bl false) H3)
theorem pe_chain {op op' : CmpOp} {r r' : R2} (ho : OpR X (compareOp op) r) (ho' : OpR X (compareOp op') r') (ha : PE X a ta) (hb : PE X b tb) (hc : PE X c tc)
    (hm : lastMarks [op, op'] [b, c] = false := by with_unfolding_all rfl) : PE X (.Compare a [op, op'] [b, c] pos) (tChain r r' ta tb tc) := by
  intro pins s σ H Q I h
  refine Compare_chain (thn (ha pins s σ H _ I h) fun v s1 ⟨x, H1, I1, r1, q1⟩ => chain_link (thn (hb pins s1 σ H1 _ I1 q1) fun u s2 ⟨y, H2, I2, r2, q2⟩ =>
    thn (ho pins s2 σ H2 x y v u _ I2 r1 r2 q2) fun d s3 ⟨z, H3, I3, r3, k, e, q3⟩ => ?_)) hm
  subst e
  cases r3
  refine wpAny_truthy_bool ?_
  cases k with
  | false => exact ite_ff ⟨.bl false, H3, I3, rfl, q3⟩
  | true => exact ite_tt (chain_last (thn (hc pins s3 σ H3 _ I3 q3) fun w' s4 ⟨z', H4, I4, r4, q4⟩ => ho' pins s4 σ H4 y z' u w' Q I4 r2 r4 q4))
theorem pt_chain {op op' : CmpOp} {r r' : R2} (ho : OpR X (compareOp op) r) (ho' : OpR X (compareOp op') r') (ha : PE X a ta) (hb : PE X b tb) (hc : PE X c tc)
    (hm : lastMarks [op, op'] [b, c] = false := by with_unfolding_all rfl) : PT X (.Compare a [op, op'] [b, c] pos) (tTest (tChain r r' ta tb tc)) := by
  intro pins s σ H Q I h
  refine isTrue_chain (thn (ha pins s σ H _ I h) fun v s1 ⟨x, H1, I1, r1, q1⟩ => test_link (thn (hb pins s1 σ H1 _ I1 q1) fun u s2 ⟨y, H2, I2, r2, q2⟩ =>
    thn (ho pins s2 σ H2 x y v u _ I2 r1 r2 q2) fun d s3 ⟨z, H3, I3, r3, k, e, q3⟩ => ?_)) hm
  subst e
  cases r3
  refine wpAny_truthy_bool ?_
  cases k with
  | false =>
    obtain ⟨k', e', q'⟩ := q3
    cases e'
    exact ite_ff ⟨H3, I3, q'⟩
  | true =>
    refine ite_tt (test_last (thn (hc pins s3 σ H3 _ I3 q3) fun w' s4 ⟨z', H4, I4, r4, q4⟩ => thn (ho' pins s4 σ H4 y z' u w' _ I4 r2 r4 q4) fun d' s5 ⟨z2, H5, I5, r5, k2, e2, q5⟩ => ?_))
    subst e2
    cases r5
    exact wpAny_truthy_bool ⟨H5, I5, q5⟩

/-! ### truth -/
/-- a value's truth by the abstract heap -/
def TruV (K : PySem.W.Frag) (x : V) (H : Hp) (k : Bool) : Prop :=
  match x with
  | .non => k = false
  | .bl b => k = b
  | .int i => k = (i != 0)
  | .str y => y.length ≤ sizeLine ∧ k = ((y.length : Int) != 0)
  | .byt y => y.size ≤ sizeLine ∧ k = ((y.size : Int) != 0)
  | .ref p => (∃ xs, SqL K H p xs ∧ k = !xs.isEmpty) ∨ (∃ xs, SqT K H p xs ∧ k = !xs.isEmpty) ∨ ∃ kvs, H p = some (.dK kvs) ∧ k = !kvs.isEmpty
  | _ => False
theorem isEmpty_kv {κ : Type} {kvs : List (κ × V)} {vs : List (κ × Value)} (r : KV kvs vs) : (!vs.isEmpty) = !kvs.isEmpty := by
  cases r <;> rfl
theorem isEmpty_of {xs : List V} {its : List Value} (r : Vals xs its) : (!its.toArray.isEmpty) = !xs.isEmpty := by
  cases r <;> simp
theorem line63 : (sizeLine : Nat) < 2 ^ 63 := by rw [sizeLine_eq]; decide
theorem tru_ok : TruR X (fun x H Q => ∃ k, TruV X.K x H k ∧ Q k H) := by
  intro pins s σ H x v Q I rx h
  obtain ⟨k, e, q⟩ := h
  have hl := line63
  have hs : sizeLine = 16777216 := sizeLine_eq
  cases x with
  | non =>
    cases rx
    have e' : k = false := e
    subst e'
    exact truthy_none ⟨H, I, q⟩
  | bl b =>
    cases rx
    have e' : k = b := e
    subst e'
    exact wpAny_truthy_bool ⟨H, I, q⟩
  | int i =>
    obtain ⟨t, rfl⟩ := rx
    have e' : k = (i != 0) := e
    subst e'
    exact PySem.P.truthy_int ⟨H, I, q⟩
  | str y =>
    obtain ⟨t, rfl⟩ := rx
    obtain ⟨hy, e'⟩ : y.length ≤ sizeLine ∧ k = ((y.length : Int) != 0) := e
    subst e'
    exact PySem.P.truthy_str (by omega) ⟨H, I.tok _, q⟩
  | byt y =>
    obtain ⟨t, rfl⟩ := rx
    obtain ⟨hy, e'⟩ : y.size ≤ sizeLine ∧ k = ((y.size : Int) != 0) := e
    subst e'
    exact PySem.W.truthy_bytes (by omega) ⟨H, I.tok _, q⟩
  | ref p =>
    cases rx
    have e' : (∃ xs, SqL X.K H p xs ∧ k = !xs.isEmpty) ∨ (∃ xs, SqT X.K H p xs ∧ k = !xs.isEmpty) ∨ ∃ kvs, H p = some (.dK kvs) ∧ k = !kvs.isEmpty := e
    rcases e' with ⟨xs, hx, e'⟩ | ⟨xs, hx, e'⟩ | ⟨kvs, hx, e'⟩
    · subst e'
      obtain ⟨its, r, pl, hz⟩ := I.list hx
      have hlen := r.length
      exact wpAny_truthy_list pl.isList (by simp only [List.size_toArray]; omega) ⟨H, I.tok _, by rw [isEmpty_of r]; exact q⟩
    · subst e'
      obtain ⟨its, r, pl, hz⟩ := I.tuple hx
      have hlen := r.length
      exact truthy_tuple pl (by simp only [List.size_toArray]; omega) ⟨H, I.tok _, by rw [isEmpty_of r]; exact q⟩
    · subst e'
      obtain ⟨hz, hS, vs, r, m⟩ : kvs.length ≤ sizeLine ∧ (p == sysModules) = false ∧ ∃ vs, KV kvs vs ∧ s.heap.DictOf (mixKind X.prog X.w) p vs := I.hok p _ hx
      have hlen : kvs.length = vs.length := Paired.length r
      exact wpAny_truthy_dict hS m (by omega) ⟨H, I.tok _, by rw [isEmpty_kv r]; exact q⟩
  | _ => exact (show False from e).elim
/-- any expression whose test is its value's truth (a name, a call, a subscript, a field ..: he by fun _ => rfl) -/
theorem pt_truth (ha : PE X a ta) (he : ∀ whole, isTrue a X.env whole = (do let v ← whole; standAt a.pos; holding [v] (truthy v))) :
    PT X a (fun σ H Q => ta σ H fun x H' => ∃ k, TruV X.K x H' k ∧ Q k H') := by
  intro pins s σ H Q I h
  exact isTrue_plain (thn (ha pins s σ H _ I h) fun v s1 ⟨x, H1, I1, r1, q1⟩ => tru_ok pins s1 σ H1 x v Q I1 r1 q1) (he _)

/-! ### strs and bytes -/
theorem pe_byt {x : List UInt8} {k : Nat} : PE X (.Constant (.bytes x) k pos) (fun _ H Q => Q (.byt x.toArray) H) := fun _ _ _ H _ I h => PySem.W.Constant_bytes ⟨.byt x.toArray, H, I.tok _, ⟨_, rfl⟩, h⟩
theorem op_add_str : OpR X (binaryOp .Add) (fun x y H Q => ∃ i j, x = .str i ∧ y = .str j ∧ i.length + j.length ≤ sizeLine ∧ Q (.str (i ++ j)) H) := by
  intro pins s σ H x y v u Q I rx ry h
  obtain ⟨i, j, rfl, rfl, hz, q⟩ := h
  obtain ⟨t, rfl⟩ := rx
  obtain ⟨t', rfl⟩ := ry
  exact add_str (fun t' tk => ⟨.str (i ++ j), H, I.tok _, ⟨_, rfl⟩, q⟩) hz
theorem iop_add_str : OpR X (inplaceOp .Add) (fun x y H Q => ∃ i j, x = .str i ∧ y = .str j ∧ i.length + j.length ≤ sizeLine ∧ Q (.str (i ++ j)) H) := by
  intro pins s σ H x y v u Q I rx ry h
  obtain ⟨i, j, rfl, rfl, hz, q⟩ := h
  obtain ⟨t, rfl⟩ := rx
  obtain ⟨t', rfl⟩ := ry
  exact iadd_str (fun t' tk => ⟨.str (i ++ j), H, I.tok _, ⟨_, rfl⟩, q⟩) hz
theorem op_add_byt : OpR X (binaryOp .Add) (fun x y H Q => ∃ i j, x = .byt i ∧ y = .byt j ∧ i.size + j.size ≤ 16777216 ∧ Q (.byt (i ++ j)) H) := by
  intro pins s σ H x y v u Q I rx ry h
  obtain ⟨i, j, rfl, rfl, hz, q⟩ := h
  obtain ⟨t, rfl⟩ := rx
  obtain ⟨t', rfl⟩ := ry
  exact PySem.W.KBy.add_bytes hz (fun t' tk => ⟨.byt (i ++ j), H, I.tok _, ⟨_, rfl⟩, q⟩)

def PlainIxT (b : Expr) : Prop := ∀ o i, subscripted b false o i = operate [o, i] (getItem o i)
/-- s[i], 0 ≤ i < len -/
theorem pe_item_str (ha : PE X a ta) (hb : PE X b tb) (hs : PlainIxT b) :
    PE X (.Subscript a b pos) (tOp (fun x y H Q => ∃ z i c, x = .str z ∧ y = .int i ∧ 0 ≤ i ∧ i < 2 ^ 63 ∧ i < z.length ∧ z.cps[i.toNat]? = some c ∧ Q (.str ⟨#[c]⟩) H) ta tb) := by
  intro pins s σ H Q I h
  refine Subscript_ (binT ha hb I h fun v u s2 x y H2 I2 rx ry q => ?_)
  obtain ⟨z, i, c, rfl, rfl, h0, h63, h1, hc, q⟩ := q
  obtain ⟨t, rfl⟩ := rx
  obtain ⟨t', rfl⟩ := ry
  have e : seqIndex? i z.length = some i.toNat := PySem.StrLaws.seqIndex_nonneg h0 h1
  exact tail_any (typeIs_str s2 z t) slot_str_getitem.lookup (getItem_str (c := c) (by
    have e1 : decide (i < -(2 ^ 63 : Int)) = false := decide_eq_false (by omega)
    have e2 : decide (i ≥ 2 ^ 63) = false := decide_eq_false (by omega)
    rw [e1, e2] <;> rfl) (by rw [e]; exact hc) ⟨.str ⟨#[c]⟩, H2, I2.tok _, ⟨_, rfl⟩, q⟩) (hs _ _)
/-- b[i], 0 ≤ i < len -/
theorem pe_item_byt (ha : PE X a ta) (hb : PE X b tb) (hs : PlainIxT b) :
    PE X (.Subscript a b pos) (tOp (fun x y H Q => ∃ (z : List UInt8) (i : Int), x = .byt z.toArray ∧ y = .int i ∧ z.length ≤ sizeLine ∧ 0 ≤ i ∧ i < z.length ∧ Q (.int ((z.getD i.toNat 0).toNat : Nat)) H) ta tb) := by
  intro pins s σ H Q I h
  refine Subscript_ (binT ha hb I h fun v u s2 x y H2 I2 rx ry q => ?_)
  obtain ⟨z, i, rfl, rfl, hz, h0, h1, q⟩ := q
  obtain ⟨t, rfl⟩ := rx
  obtain ⟨t', rfl⟩ := ry
  have hl : sizeLine = 16777216 := sizeLine_eq
  exact tail_any (PySem.W.typeIs_bytes s2 z.toArray t) PySem.W.FB.slot_bytes_getitem.lookup (PySem.W.getItem_bytes (by omega) h0 h1 ⟨.int ((z.getD i.toNat 0).toNat : Nat), H2, I2.tok _, ⟨_, rfl⟩, q⟩) (hs _ _)

/-! ### scalar builtins, by CallR -/
theorem vals1 {x : V} {us : List Value} (r : Vals [x] us) : ∃ u, us = [u] ∧ RelV x u := by
  cases r with
  | cons r1 r2 => cases r2; exact ⟨_, rfl, r1⟩
theorem vals2 {x y : V} {us : List Value} (r : Vals [x, y] us) : ∃ u w', us = [u, w'] ∧ RelV x u ∧ RelV y w' := by
  cases r with
  | cons r1 r2 =>
    cases r2 with
    | cons r3 r4 => cases r4; exact ⟨_, _, rfl, r1, r3⟩
theorem call_abs : CallR X (.builtin "abs") (fun xs H Q => ∃ i, xs = [.int i] ∧ Q (.int (if i < 0 then -i else i)) H) := by
  intro pins s σ H xs us Q I r h
  obtain ⟨i, rfl, q⟩ := h
  obtain ⟨u, rfl, t, rfl⟩ := vals1 r
  exact call_abs_int fun u tk => ⟨.int (if i < 0 then -i else i), H, I.tok _, ⟨_, rfl⟩, q⟩
theorem call_max2 (hc : X.calm = true) : CallR X (.builtin "max") (fun xs H Q => ∃ i j, xs = [.int i, .int j] ∧ Q (.int (if j > i then j else i)) H) := by
  intro pins s σ H xs us Q I r h
  obtain ⟨i, j, rfl, q⟩ := h
  obtain ⟨u, w', rfl, ⟨t, rfl⟩, ⟨t', rfl⟩⟩ := vals2 r
  refine max_two_ints (I.ok.hd hc) fun h' tk k => ⟨_, H, I.kept k, ?_, q⟩
  by_cases hj : j > i
  · rw [if_pos hj, if_pos hj]; exact ⟨_, rfl⟩
  · rw [if_neg hj, if_neg hj]; exact ⟨_, rfl⟩
theorem call_min2 (hc : X.calm = true) : CallR X (.builtin "min") (fun xs H Q => ∃ i j, xs = [.int i, .int j] ∧ Q (.int (if j < i then j else i)) H) := by
  intro pins s σ H xs us Q I r h
  obtain ⟨i, j, rfl, q⟩ := h
  obtain ⟨u, w', rfl, ⟨t, rfl⟩, ⟨t', rfl⟩⟩ := vals2 r
  refine min_two_ints (I.ok.hd hc) fun h' tk k => ⟨_, H, I.kept k, ?_, q⟩
  by_cases hj : j < i
  · rw [if_pos hj, if_pos hj]; exact ⟨_, rfl⟩
  · rw [if_neg hj, if_neg hj]; exact ⟨_, rfl⟩
theorem call_int1 : CallR X (.type "int") (fun xs H Q => (∃ i, xs = [.int i] ∧ Q (.int i) H) ∨ ∃ k, xs = [.bl k] ∧ Q (.int (if k then 1 else 0)) H) := by
  intro pins s σ H xs us Q I r h
  rcases h with ⟨i, rfl, q⟩ | ⟨k, rfl, q⟩
  · obtain ⟨u, rfl, t, rfl⟩ := vals1 r
    exact call_int_int ⟨.int i, H, I, ⟨_, rfl⟩, q⟩
  · obtain ⟨u, rfl, r1⟩ := vals1 r
    cases r1
    exact call_int_bool ⟨.int (if k then 1 else 0), H, I.tok _, ⟨_, rfl⟩, q⟩
theorem call_bool1 : CallR X (.type "bool") (fun xs H Q => (∃ i, xs = [.int i] ∧ Q (.bl (i != 0)) H) ∨ ∃ k, xs = [.bl k] ∧ Q (.bl k) H) := by
  intro pins s σ H xs us Q I r h
  rcases h with ⟨i, rfl, q⟩ | ⟨k, rfl, q⟩
  · obtain ⟨u, rfl, t, rfl⟩ := vals1 r
    exact call_bool_int ⟨.bl (i != 0), H, I, rfl, q⟩
  · obtain ⟨u, rfl, r1⟩ := vals1 r
    cases r1
    exact call_bool_bool ⟨.bl k, H, I, rfl, q⟩
theorem call_str_int : CallR X (.type "str") (fun xs H Q => ∃ i, xs = [.int i] ∧ i.natAbs.log2 < 1920 ∧ Q (.str (toString i)) H) := by
  intro pins s σ H xs us Q I r h
  obtain ⟨i, rfl, hz, q⟩ := h
  obtain ⟨u, rfl, t, rfl⟩ := vals1 r
  exact PySem.P.str_of_int hz ⟨.str _, H, I.tok _, ⟨_, rfl⟩, q⟩
theorem call_ord : CallR X (.builtin "ord") (fun xs H Q => ∃ x, xs = [.str x] ∧ x.length = 1 ∧ Q (.int (x.cps.getD 0 0 : Nat)) H) := by
  intro pins s σ H xs us Q I r h
  obtain ⟨x, rfl, hz, q⟩ := h
  obtain ⟨u, rfl, t, rfl⟩ := vals1 r
  exact ord_of_one hz ⟨.int _, H, I.tok _, ⟨_, rfl⟩, q⟩
theorem call_chr : CallR X (.builtin "chr") (fun xs H Q => ∃ i, xs = [.int i] ∧ 0 ≤ i ∧ i ≤ 1114111 ∧ Q (.str ⟨#[i.toNat]⟩) H) := by
  intro pins s σ H xs us Q I r h
  obtain ⟨i, rfl, h0, h1, q⟩ := h
  obtain ⟨u, rfl, t, rfl⟩ := vals1 r
  exact chr_of_range h0 h1 ⟨.str _, H, I.tok _, ⟨_, rfl⟩, q⟩
/-- len of a str, a bytes, a list, a tuple -/
def LenV (K : PySem.W.Frag) (x : V) (H : Hp) (n : Nat) : Prop :=
  match x with
  | .str y => y.length ≤ sizeLine ∧ n = y.length
  | .byt y => y.size ≤ sizeLine ∧ n = y.size
  | .ref p => (∃ xs, SqL K H p xs ∧ n = xs.length) ∨ ∃ xs, SqT K H p xs ∧ n = xs.length
  | _ => False
theorem call_len : CallR X (.builtin "len") (fun xs H Q => ∃ x n, xs = [x] ∧ LenV X.K x H n ∧ Q (.int n) H) := by
  intro pins s σ H xs us Q I r h
  obtain ⟨x, n, rfl, e, q⟩ := h
  obtain ⟨u, rfl, rx⟩ := vals1 r
  have hl := line63
  have hs : sizeLine = 16777216 := sizeLine_eq
  cases x with
  | str y =>
    obtain ⟨t, rfl⟩ := rx
    obtain ⟨hy, e'⟩ : y.length ≤ sizeLine ∧ n = y.length := e
    subst e'
    exact len_str (by omega) ⟨.int _, H, I.tok _, ⟨_, rfl⟩, q⟩
  | byt y =>
    obtain ⟨t, rfl⟩ := rx
    obtain ⟨hy, e'⟩ : y.size ≤ sizeLine ∧ n = y.size := e
    subst e'
    exact PySem.W.len_bytes (by omega) ⟨.int _, H, I.tok _, ⟨_, rfl⟩, q⟩
  | ref p =>
    cases rx
    have e' : (∃ xs, SqL X.K H p xs ∧ n = xs.length) ∨ ∃ xs, SqT X.K H p xs ∧ n = xs.length := e
    rcases e' with ⟨xs, hx, e'⟩ | ⟨xs, hx, e'⟩
    · subst e'
      obtain ⟨its, r', pl, hz⟩ := I.list hx
      have hlen := r'.length
      exact Calls.call_len_list pl.isList (by simp only [List.size_toArray]; omega) ⟨.int xs.length, H, I.tok _, ⟨_, by simp only [List.size_toArray]; rw [hlen]⟩, q⟩
    · subst e'
      obtain ⟨its, r', pl, hz⟩ := I.tuple hx
      have hlen := r'.length
      exact len_tuple pl (by simp only [List.size_toArray]; omega) ⟨.int xs.length, H, I.tok _, ⟨_, by simp only [List.size_toArray]; rw [hlen]⟩, q⟩
  | _ => exact (show False from e).elim
/-- divmod: a new tuple -/
theorem call_divmod : CallR X (.builtin "divmod") (fun xs H Q => ∃ i j, xs = [.int i, .int j] ∧ CDiv i j ∧ ∀ p, H p = none → Q (.ref p) (upd H p (.tup [.int (i / j), .int (i % j)]))) := by
  intro pins s σ H xs us Q I r h
  obtain ⟨i, j, rfl, ⟨h1, h2⟩, q⟩ := h
  obtain ⟨u, w', rfl, ⟨t, rfl⟩, ⟨t', rfl⟩⟩ := vals2 r
  refine divmod_int (by omega) ?_ (.inl (PyProof.noPylong_small (by omega)))
  rw [Int.fdiv_eq_ediv_of_nonneg i (by omega), Int.fmod_eq_emod_of_nonneg i (by omega)]
  have hn : H s.heap.objs.size = none := I.hok.fresh (Nat.le_refl _)
  refine ⟨.ref s.heap.objs.size, _, ?_, rfl, q _ hn⟩
  refine I.laid (fun b o e => Heap.get?_push_of_some _ e) (Nat.le_refl _) ⟨by simp only [List.length_cons, List.length_nil]; rw [sizeLine_eq]; decide, [.int (i / j) s.toks, .int (i % j) (s.toks + 1)], .cons ⟨_, rfl⟩ (.cons ⟨_, rfl⟩ .nil), ?_⟩
  exact ⟨_, Heap.get?_push_size s.heap rfl, rfl, 0, rfl⟩
end
end L2

namespace L2
open PySem PySem.Spec PyProof.Rows

/-! ### an instance, its attributes a map -/
structure ObjM (h : Heap) (x dx C : Addr) (mA : Str → Option Value) : Prop where
  obj : h.get? x = some (PySem.W.instObj C dx)
  ns : h.Ns1 dx mA
  ne : dx ≠ x

theorem lookIn_ns {h : Heap} {dx : Addr} {mA : Str → Option Value} (n : h.Ns1 dx mA) : ∃ od, h.get? dx = some od ∧ ∀ name, PySem.W.lookIn name od = some (mA name) := by
  obtain ⟨o, es, ep, ho, hd, hk, _, hm⟩ := n
  refine ⟨o, ho, fun name => ?_⟩
  have e := hm name
  unfold nsFind findBy at e
  rw [← Array.find?_toList] at e
  unfold PySem.W.lookIn
  rw [hd]
  dsimp only
  split
  · rename_i y q
    rw [q] at e
    exact congrArg some e
  · rename_i q
    rw [q] at e
    have a : es.toList.any (·.refKey) = false := by
      rw [List.any_eq_false]
      intro y hy
      obtain ⟨z, t, hkey⟩ := hk y (Array.mem_toList_iff.mp hy)
      simp [DictEntry.refKey, hkey]
    have a' : ¬ es.toList.any (·.refKey) = true := by rw [a]; exact Bool.false_ne_true
    rw [if_neg a']
    exact congrArg some e

theorem ObjM.look {h : Heap} {x dx C : Addr} {mA : Str → Option Value} (I : ObjM h x dx C mA) : ∃ od, PySem.W.InstAt h x (PySem.W.instObj C dx) C (some od) ∧ ∀ name, PySem.W.lookIn name od = some (mA name) :=
  let ⟨od, ho, hl⟩ := lookIn_ns I.ns
  ⟨od, ⟨I.obj, rfl, rfl, ho⟩, hl⟩

section
variable {prog : Program} {w : World} {A : Around} {E : Value → Shared → Prop} {s : Shared} {K : PySem.W.Frag} {x dx C f : Addr} {mA : Str → Option Value} {name : Str} {v : Value}

theorem get_map {expr : Bool} {Q : Value → Shared → Prop} (X : K.In s.heap) (I : ObjM s.heap x dx C mA) (hg : PySem.W.plainGet K C name = true) (hh : PySem.W.hasDictIn K C = true)
    (ha : PySem.W.findIn K (.ref C) name = some none) (hv : mA name = some v) (hv' : PySem.W.handedIn v = true) (h : Q v { s with toks := s.toks + 1 }) :
    wpAny (model prog w) A (getAttr (.ref x) name expr) Q E s := by
  obtain ⟨od, J, hl⟩ := I.look
  exact PySem.W.get_value X J (PySem.W.plainGet_of hg).1 (PySem.W.findObj_own hh ha rfl (by rw [hl, hv])) hv' h

theorem get_const {expr : Bool} {a : Value} {Q : Value → Shared → Prop} (X : K.In s.heap) (I : ObjM s.heap x dx C mA) (hg : PySem.W.plainGet K C name = true) (hh : PySem.W.hasDictIn K C = true)
    (ha : PySem.W.findIn K (.ref C) name = some (some a)) (hn : PySem.W.specialIn K a "__get__" = some none) (hc : PySem.W.copiedNames.contains name = false) (hv : mA name = none) (hv' : PySem.W.handedIn a = true)
    (h : Q a { s with toks := s.toks + 1 }) : wpAny (model prog w) A (getAttr (.ref x) name expr) Q E s := by
  obtain ⟨od, J, hl⟩ := I.look
  exact PySem.W.get_value X J (PySem.W.plainGet_of hg).1 (PySem.W.findObj_cls hh ha hn hv' hc (by rw [hl, hv])) hv' h

theorem get_meth {pl : Sem Bool} {Q : Value × List Value → Shared → Prop} (X : K.In s.heap) (I : ObjM s.heap x dx C mA) (hg : PySem.W.plainGet K C name = true)
    (hf : PySem.W.findIn K (.ref C) name = some (some (.ref f))) (ht : PySem.W.isFn K (.ref f) = true) (hv : mA name = none) (h : Q (.ref f, [.ref x]) s) :
    wpAny (model prog w) A (getMethod (.ref x) name pl) Q E s := by
  obtain ⟨od, J, hl⟩ := I.look
  exact PySem.W.method_fn X J (PySem.W.plainGet_of hg).1 (PySem.W.plainGet_of hg).2 hf (beq_iff_eq.mp ht) (by show (PySem.W.lookIn name od).map (·.isSome) = some false; rw [hl, hv]; rfl) h

theorem set_map {ns : List Str} {Q : Unit → Shared → Prop} (X : K.In s.heap) (I : ObjM s.heap x dx C mA)
    (hs : PySem.W.findIn K (.ref C) "__setattr__" = some (some (.builtin "object.__setattr__"))) (hp : PySem.W.plainOver K C = true) (ht : PySem.W.takerIn K C name = some none) (hh : PySem.W.hasDictIn K C = true)
    (hw : PySem.Within mA ns) (hsz : ns.length ≤ sizeLine)
    (h : ∀ h', ObjM h' x dx C (fun y => if y = name then some v else mA y) → Heap.SameBut dx s.heap h' → Q () { s with heap := h', toks := s.toks + 2 }) :
    wpAny (model prog w) A (setAttr (.ref x) name v) Q E s := by
  obtain ⟨od, J, hl⟩ := I.look
  refine PySem.W.set_plain X J hs (PySem.W.osa_open (s := { s with toks := s.toks + 1 }) (r := none) X J hp ht fun b => ?_)
  obtain ⟨cd, hc, hd'⟩ := PySem.W.any_some hh
  have hx : s.heap.get? x = some ⟨.ref C, some dx, .plain, #[]⟩ := I.obj
  refine wpAny_bind (wpAny_pure (wpAny_bind (wpAny_bind (wpAny_loadPart hx (wpAny_bind (PySem.W.Looks.here (s := { s with toks := s.toks + 1 }) (PySem.W.looks_clsIn X hc) ?_))))))
  rw [hd']
  refine wpAny_pure (a := some dx) (wpAny_bind (wpAny_pure (wpAny_bind ?_)))
  refine wpAny_nsSet1 (s := { s with toks := s.toks + 1 }) I.ns fun h' hn2 hs2 => ?_
  obtain ⟨oD, esD, epD, hoD, hdD, hcD⟩ := hn2.count (PySem.Within.cons name v hw)
  refine wpAny_bind (wpAny_lookBehind hoD (by rw [hdD]; exact pastItsLine_dict (Nat.le_trans hcD (by rw [List.length_cons]; omega))) ?_)
  exact wpAny_pure (h _ ⟨(hs2.2 _ (Ne.symm I.ne)).trans I.obj, hn2, I.ne⟩ hs2)

/-- C(..): the dict at the heap's end, the instance behind it; then its __init__ -/
theorem make_map {R : Result → Shared → Prop} {vs : List Value} {kw : List (Str × Value)} (X : K.In s.heap) (hm : PySem.W.makesIn K C = true)
    (hi : PySem.W.findIn K (.ref C) "__init__" = some (some (.ref f))) (hf : PySem.W.typeIn K (.ref f) = some (.type "function"))
    (h : codeAny (model prog w) (A.under (.builtin "type.__call__" ⟨.ref C :: vs, kw⟩)) (.call (.ref f) ⟨.ref (s.heap.objs.size + 1) :: vs, kw⟩) (PySem.W.InitBack (s.heap.objs.size + 1) R)
      { s with heap := (s.heap.push PySem.W.emptyDict).push (PySem.W.instObj C s.heap.objs.size) }) :
    codeAny (model prog w) A (.call (.ref C) ⟨vs, kw⟩) R s := by
  obtain ⟨hh, g, d, t, os⟩ := s
  exact PySem.W.make_core (PySem.W.makes_of X hm) (PySem.W.looks_findIn X hi) (fun self => PySem.W.bind_fn X self hf) (.inl rfl) h
/-- C() where there is no __init__ but object's -/
theorem make_map0 {R : Result → Shared → Prop} (X : K.In s.heap) (hm : PySem.W.makesIn K C = true)
    (hi : PySem.W.findIn K (.ref C) "__init__" = some (some (.builtin "object.__init__")))
    (hb : ∀ self, PySem.W.Looks (model prog w) s.heap (bindSpecial (.builtin "object.__init__") self) (.builtin "object.__init__", [self]))
    (h : codeAny (model prog w) (A.under (.builtin "type.__call__" ⟨[.ref C], []⟩)) (.call (.builtin "object.__init__") ⟨[.ref (s.heap.objs.size + 1)], []⟩) (PySem.W.InitBack (s.heap.objs.size + 1) R)
      { s with heap := (s.heap.push PySem.W.emptyDict).push (PySem.W.instObj C s.heap.objs.size) }) :
    codeAny (model prog w) A (.call (.ref C) ⟨[], []⟩) R s := by
  obtain ⟨hh, g, d, t, os⟩ := s
  exact PySem.W.make_core (PySem.W.makes_of X hm) (PySem.W.looks_findIn X hi) hb (.inr ⟨rfl, rfl⟩) h
end

/-! ### the attributes as a list of pairs -/
def putF (f : Str) (v : V) : List (Str × V) → List (Str × V)
  | [] => [(f, v)]
  | (g, x) :: r => if g = f then (g, v) :: r else (g, x) :: putF f v r
theorem lookup_putF (f g : Str) (v : V) : ∀ fs : List (Str × V), (putF f v fs).lookup g = if g = f then some v else fs.lookup g
  | [] => by
    show List.lookup g [(f, v)] = _
    by_cases h : g = f
    · have hb : (g == f) = true := beq_iff_eq.mpr h
      simp only [List.lookup, hb, if_pos h]
    · have hb : (g == f) = false := beq_eq_false_iff_ne.mpr h
      simp only [List.lookup, hb, if_neg h]
  | (k, x) :: r => by
    have ih := lookup_putF f g v r
    rw [show putF f v ((k, x) :: r) = (if k = f then (k, v) :: r else (k, x) :: putF f v r) from rfl]
    by_cases hk : k = f
    · rw [if_pos hk]
      by_cases h : g = k
      · have hb : (g == k) = true := beq_iff_eq.mpr h
        simp only [List.lookup, hb, if_pos (h.trans hk)]
      · have hb : (g == k) = false := beq_eq_false_iff_ne.mpr h
        simp only [List.lookup, hb, if_neg (fun e : g = f => h (e.trans hk.symm))]
    · rw [if_neg hk]
      by_cases h : g = k
      · have hb : (g == k) = true := beq_iff_eq.mpr h
        simp only [List.lookup, hb, if_neg (fun e : g = f => hk (h.symm.trans e))]
      · have hb : (g == k) = false := beq_eq_false_iff_ne.mpr h
        simp only [List.lookup, hb]
        exact ih
theorem keys_putF (f : Str) (v : V) : ∀ fs : List (Str × V), f ∈ (putF f v fs).map (·.1) ∧ ∀ g, g ∈ fs.map (·.1) → g ∈ (putF f v fs).map (·.1)
  | [] => ⟨by simp [putF], fun g h => by simp at h⟩
  | (k, x) :: r => by
    obtain ⟨i1, i2⟩ := keys_putF f v r
    rw [show putF f v ((k, x) :: r) = (if k = f then (k, v) :: r else (k, x) :: putF f v r) from rfl]
    by_cases hk : k = f
    · rw [if_pos hk]
      subst hk
      exact ⟨by simp, fun g h => by simpa using h⟩
    · rw [if_neg hk]
      refine ⟨?_, fun g h => ?_⟩
      · rw [List.map_cons]
        exact List.mem_cons_of_mem _ i1
      · rw [List.map_cons] at h ⊢
        rcases List.mem_cons.mp h with e | e
        · exact List.mem_cons.mpr (.inl e)
        · exact List.mem_cons_of_mem _ (i2 g e)
theorem length_putF (f : Str) (v : V) : ∀ fs : List (Str × V), (putF f v fs).length ≤ fs.length + 1
  | [] => by simp [putF]
  | (k, x) :: r => by
    have ih := length_putF f v r
    rw [show putF f v ((k, x) :: r) = (if k = f then (k, v) :: r else (k, x) :: putF f v r) from rfl]
    by_cases hk : k = f
    · rw [if_pos hk, List.length_cons, List.length_cons]; omega
    · rw [if_neg hk, List.length_cons, List.length_cons]; omega

theorem RelO.some_of {v : V} {o : Option Value} (r : RelO (some v) o) : ∃ u, o = some u ∧ RelV v u := by
  cases o with
  | none => exact (show False from r).elim
  | some u => exact ⟨u, rfl, r⟩
theorem RelO.none_of {o : Option Value} (r : RelO none o) : o = none := by
  cases o with
  | none => rfl
  | some u => exact (show False from r).elim
theorem handed_of {v : V} {u : Value} (r : RelV v u) : PySem.W.handedIn u = true := by
  cases v with
  | non => cases (show u = Value.none from r); rfl
  | bl b => cases (show u = Value.bool b from r); rfl
  | int i => obtain ⟨t, e⟩ := (show ∃ t, u = Value.int i t from r); cases e; rfl
  | str x => obtain ⟨t, e⟩ := (show ∃ t, u = Value.str x t from r); cases e; rfl
  | byt b => obtain ⟨t, e⟩ := (show ∃ t, u = Value.bytes b t from r); cases e; rfl
  | flt b => obtain ⟨t, e⟩ := (show ∃ t, u = Value.float b t from r); cases e; rfl
  | ref a => cases (show u = Value.ref a from r); rfl
  | ty n => cases (show u = Value.type n from r); rfl

section
variable {P : Program} {w : World} {H H' : Hp} {h h' : Heap} {a C dx : Addr} {fs fs' : List (Str × V)}
theorem ins_get (hok : HOk P w H h) (e : H a = some (.ins C dx fs)) : ∃ mA, ObjM h a dx C mA ∧ (∀ f, RelO (fs.lookup f) (mA f)) ∧ PySem.Within mA (fs.map (·.1)) ∧ fs.length ≤ 1000 ∧ H dx = some (.own a) := by
  obtain ⟨d, z, ne, ob, mA, n, r, q⟩ := (show ObjOk P w H h a (.ins C dx fs) from hok a _ e)
  exact ⟨mA, ⟨ob, n, ne⟩, r, q, z, d⟩
end

/-! ### what of the text a class must have -/
structure Cls (K : PySem.W.Frag) (C : Addr) : Prop where
  pg : PySem.W.plainGet K C Str.empty = true
  hd : PySem.W.hasDictIn K C = true
  po : PySem.W.plainOver K C = true
  sa : PySem.W.findIn K (.ref C) "__setattr__" = some (some (.builtin "object.__setattr__"))
theorem Cls.get {K : PySem.W.Frag} {C : Addr} (c : Cls K C) (f : Str) : PySem.W.plainGet K C f = true := c.pg
/-- no class of it has the name -/
def NoAttr (K : PySem.W.Frag) (C : Addr) (f : Str) : Prop := PySem.W.findIn K (.ref C) f = some none
theorem NoAttr.taker {K : PySem.W.Frag} {C : Addr} {f : Str} (n : NoAttr K C f) : PySem.W.takerIn K C f = some none := by
  unfold PySem.W.takerIn
  rw [show PySem.W.findIn K (.ref C) f = some none from n]
  rfl
/-- a constant of the class -/
structure Con (K : PySem.W.Frag) (C : Addr) (f : Str) (v : V) (u : Value) : Prop where
  at_ : PySem.W.findIn K (.ref C) f = some (some u)
  rel : RelV v u
  get : PySem.W.specialIn K u "__get__" = some none
  cp : PySem.W.copiedNames.contains f = false
/-- a method: a plain def of the class or of one above it -/
structure Meth (K : PySem.W.Frag) (C : Addr) (m : Str) (f : Addr) : Prop where
  at_ : PySem.W.findIn K (.ref C) m = some (some (.ref f))
  fn : PySem.W.isFn K (.ref f) = true
  kp : PySem.W.keepIn K (.ref f) = true

section
variable {X : Cx} {pins : List (Addr × Obj)} {σ : St} {H : Hp} {s : Shared} {a C dx : Addr} {fs : List (Str × V)} {f : Str} {v : V} {A : Around} {E : Value → Shared → Prop}

theorem getattr_ok {b : Bool} {Q : Value → Shared → Prop} (I : Inv X pins σ H s) (e : H a = some (.ins C dx fs)) (c : Cls X.K C) (n : NoAttr X.K C f) (l : fs.lookup f = some v)
    (h : ∀ u s', Inv X pins σ H s' → RelV v u → Q u s') : wpAny (model X.prog X.w) A (getAttr (.ref a) f b) Q E s := by
  obtain ⟨mA, O, r, _, _, _⟩ := ins_get I.hok e
  obtain ⟨u, hu, ru⟩ := RelO.some_of (v := v) (o := mA f) (by rw [← l]; exact r f)
  exact get_map I.kIn O (c.get f) c.hd n hu (handed_of ru) (h u _ (I.tok _) ru)

theorem getcon_ok {b : Bool} {u : Value} {Q : Value → Shared → Prop} (I : Inv X pins σ H s) (e : H a = some (.ins C dx fs)) (c : Cls X.K C) (k : Con X.K C f v u) (l : fs.lookup f = none)
    (h : ∀ s', Inv X pins σ H s' → Q u s') : wpAny (model X.prog X.w) A (getAttr (.ref a) f b) Q E s := by
  obtain ⟨mA, O, r, _, _, _⟩ := ins_get I.hok e
  have hn : mA f = none := RelO.none_of (by rw [← l]; exact r f)
  exact get_const I.kIn O (c.get f) c.hd k.at_ k.get k.cp hn (handed_of k.rel) (h _ (I.tok _))

theorem getmeth_ok {m : Str} {g : Addr} {pl : Sem Bool} {Q : Value × List Value → Shared → Prop} (I : Inv X pins σ H s) (e : H a = some (.ins C dx fs)) (c : Cls X.K C) (k : Meth X.K C m g) (l : fs.lookup m = none)
    (h : Q (.ref g, [.ref a]) s) : wpAny (model X.prog X.w) A (getMethod (.ref a) m pl) Q E s := by
  obtain ⟨mA, O, r, _, _, _⟩ := ins_get I.hok e
  have hn : mA m = none := RelO.none_of (by rw [← l]; exact r m)
  exact get_meth I.kIn O (c.get m) k.at_ k.fn hn h

theorem setattr_ok {y : V} {u : Value} {Q : Unit → Shared → Prop} (I : Inv X pins σ H s) (e : H a = some (.ins C dx fs)) (c : Cls X.K C) (n : NoAttr X.K C f) (hl : fs.length < 1000) (ry : RelV y u)
    (h : ∀ s', Inv X pins σ (upd H a (.ins C dx (putF f y fs))) s' → Q () s') : wpAny (model X.prog X.w) A (setAttr (.ref a) f u) Q E s := by
  obtain ⟨mA, O, r, wi, _, ho⟩ := ins_get I.hok e
  have hz : (fs.map (·.1)).length ≤ sizeLine := by rw [List.length_map, sizeLine_eq]; omega
  refine set_map I.kIn O c.sa c.po n.taker c.hd wi hz fun h' O' sb => h _ ?_
  have hd : ∃ o, h'.get? dx = some o := let ⟨o, _, _, e', _⟩ := O'.ns; ⟨o, e'⟩
  refine I.write (x := a) (e := dx) (by rw [e]; exact True.intro) (.inr ho) (fun b q hb z => (sb.2 b hb).trans z) hd ?_
  refine ⟨by rw [upd_ne O.ne]; exact ho, ?_, O.ne, O'.obj, _, O'.ns, fun g => ?_, fun g hg => ?_⟩
  · have := length_putF f y fs; omega
  · show RelO ((putF f y fs).lookup g) (if g = f then some u else mA g)
    rw [lookup_putF]
    by_cases q : g = f
    · rw [if_pos q, if_pos q]; exact ry
    · rw [if_neg q, if_neg q]; exact r g
  · by_cases q : g = f
    · rw [q]; exact (keys_putF f y fs).1
    · refine (keys_putF f y fs).2 g (wi g fun z => hg ?_)
      show (if g = f then some u else mA g) = none
      rw [if_neg q]; exact z

/-- a new instance, tracked, without attributes -/
theorem Inv.made (I : Inv X pins σ H s) : Inv X pins σ (upd (upd H s.heap.objs.size (.own (s.heap.objs.size + 1))) (s.heap.objs.size + 1) (.ins C s.heap.objs.size []))
    { s with heap := (s.heap.push PySem.W.emptyDict).push (PySem.W.instObj C s.heap.objs.size) } := by
  have e1 : (s.heap.push PySem.W.emptyDict).get? s.heap.objs.size = some PySem.W.emptyDict := Heap.get?_push_size s.heap rfl
  have e2 : ((s.heap.push PySem.W.emptyDict).push (PySem.W.instObj C s.heap.objs.size)).get? (s.heap.objs.size + 1) = some (PySem.W.instObj C s.heap.objs.size) := by
    have := Heap.get?_push_size (s.heap.push PySem.W.emptyDict) (o := PySem.W.instObj C s.heap.objs.size) rfl
    rwa [Heap.size_push] at this
  have e3 : (s.heap.push PySem.W.emptyDict).Ns s.heap.objs.size (fun _ => none) := ⟨PySem.W.emptyDict, #[], _, e1, rfl, (fun e he => absurd he (by simp)), fun _ => rfl⟩
  have I1 := I.laid (a := s.heap.objs.size) (o := .own (s.heap.objs.size + 1)) (h' := s.heap.push PySem.W.emptyDict) (t' := s.toks) (fun b u q => Heap.get?_push_of_some _ q) (Nat.le_refl _) ⟨_, e1⟩
  refine I1.laid (a := s.heap.objs.size + 1) (o := .ins C s.heap.objs.size []) (t' := s.toks) (fun b u q => Heap.get?_push_of_some _ q) (Nat.le_of_eq (Heap.size_push _ _)) ?_
  have ne : s.heap.objs.size ≠ s.heap.objs.size + 1 := Nat.ne_of_lt (Nat.lt_succ_self _)
  refine ⟨by rw [upd_ne ne, upd_same], Nat.zero_le _, ne, e2, fun _ => none, (Heap.Ns1.of_empty e3).at fun o q => Heap.get?_push_of_some _ q, fun _ => True.intro, fun y hy => absurd rfl hy⟩

/-- e.f where nothing but the object is asked: through attributeBase (super) and the last hold -/
theorem attr_of {prog : Program} {w : World} {env : Env} {e : Expr} {f : Str} {pos : Pos} {s : Shared} {Q : Value → Shared → Prop} (hb : attributeBase e f env (eval e env) = eval e env)
    (h : wpAny (model prog w) A (eval e env) (fun o s₁ => wpAny (model prog w) A (getAttr o f true) Q E s₁) E s) : wpAny (model prog w) A (eval (.Attribute e f pos) env) Q E s :=
  Attribute_any_ h (by rw [arm_eval_Attribute, hb])
end

/-! ### readings and rules -/
/-- e.f, an attribute of the instance -/
def tFld (K : PySem.W.Frag) (ta : TE) (f : Str) : TE := fun σ H Q => ta σ H fun x H1 => ∃ a C dx fs v, x = .ref a ∧ H1 a = some (.ins C dx fs) ∧ Cls K C ∧ NoAttr K C f ∧ fs.lookup f = some v ∧ Q v H1
/-- e.f, a constant of the class -/
def tCon (K : PySem.W.Frag) (ta : TE) (f : Str) : TE := fun σ H Q => ta σ H fun x H1 => ∃ a C dx fs v u, x = .ref a ∧ H1 a = some (.ins C dx fs) ∧ Cls K C ∧ Con K C f v u ∧ fs.lookup f = none ∧ Q v H1
/-- e.f = value -/
def sFld (K : PySem.W.Frag) (ta tv : TE) (f : Str) : TS := fun D σ H => tv σ H fun y H1 => ta σ H1 fun x H2 => ∃ a C dx fs, x = .ref a ∧ H2 a = some (.ins C dx fs) ∧ Cls K C ∧ NoAttr K C f ∧ fs.length < 1000 ∧
  D.nx σ (upd H2 a (.ins C dx (putF f y fs)))
/-- an augmented operator on two values -/
def InOp (X : Cx) (op : Operator) (rd : V → V → Hp → VK → Prop) : Prop :=
  ∀ (pins : List (Addr × Obj)) (s : Shared) (σ : St) (H : Hp) (x y : V) (u v : Value) (Q : VK), Inv X pins σ H s → RelV x u → RelV y v → rd x y H Q → wpAny (model X.prog X.w) X.A (inplaceOp op u v) (EP X pins σ Q) X.xe s
/-- e.f op= value -/
def sFldAug (K : PySem.W.Frag) (ta tv : TE) (rd : V → V → Hp → VK → Prop) (f : Str) : TS := fun D σ H => ta σ H fun x H1 => ∃ a C dx fs v, x = .ref a ∧ H1 a = some (.ins C dx fs) ∧ Cls K C ∧ NoAttr K C f ∧ fs.lookup f = some v ∧
  tv σ H1 fun y H2 => rd v y H2 fun z H3 => ∃ dx' fs', H3 a = some (.ins C dx' fs') ∧ fs'.length < 1000 ∧ D.nx σ (upd H3 a (.ins C dx' (putF f z fs')))

section
variable {X : Cx} {o e value : Expr} {f : Str} {pos pos' tpos : Pos} {ta tv : TE}
theorem pe_fld (he : PE X e ta) (hb : attributeBase e f X.env (eval e X.env) = eval e X.env) : PE X (.Attribute e f pos) (tFld X.K ta f) := by
  intro pins s σ H Q I h
  refine attr_of hb (thn (he pins s σ H _ I h) fun u s1 ⟨x, H1, I1, rx, a, C, dx, fs, v, ex, ea, c, n, l, q⟩ => ?_)
  subst ex
  obtain rfl : u = Value.ref a := rx
  exact getattr_ok I1 ea c n l fun u' s2 I2 ru => ⟨v, H1, I2, ru, q⟩
theorem pe_con (he : PE X e ta) (hb : attributeBase e f X.env (eval e X.env) = eval e X.env) : PE X (.Attribute e f pos) (tCon X.K ta f) := by
  intro pins s σ H Q I h
  refine attr_of hb (thn (he pins s σ H _ I h) fun u s1 ⟨x, H1, I1, rx, a, C, dx, fs, v, u0, ex, ea, c, k, l, q⟩ => ?_)
  subst ex
  obtain rfl : u = Value.ref a := rx
  exact getcon_ok I1 ea c k l fun s2 I2 => ⟨v, H1, I2, k.rel, q⟩
theorem ps_fld (ha : PE X o ta) (hv : PE X value tv) (hs : swapsWith value (some (.Attribute o f pos')) pos.line X.env = pure false) : PS X (.Assign [.Attribute o f pos'] value pos) (sFld X.K ta tv f) := by
  intro pins s σ H D I h
  refine plainObj_wpAny_Assign_Attribute (thn (hv pins s σ H _ I h) fun u s1 ⟨y, H1, I1, ry, q⟩ => thn (ha pins s1 σ H1 _ I1 q) fun ov s2 ⟨x, H2, I2, rx, a, C, dx, fs, ex, ea, c, n, l, q2⟩ => ?_) hs
  subst ex
  obtain rfl : ov = Value.ref a := rx
  exact setattr_ok I2 ea c n l ry fun s3 I3 => ⟨σ, _, I3, q2⟩
theorem ps_fldaug {op : Operator} {rd : V → V → Hp → VK → Prop} (ha : PE X o ta) (hv : PE X value tv) (hop : InOp X op rd) : PS X (.AugAssign (.Attribute o f tpos) op value pos) (sFldAug X.K ta tv rd f) := by
  intro pins s σ H D I h
  refine wpAny_AugAssign_AttributeAny (thn (ha pins s σ H _ I h) fun ov s1 ⟨x, H1, I1, rx, a, C, dx, fs, v, ex, ea, c, n, l, q⟩ => ?_)
  subst ex
  obtain rfl : ov = Value.ref a := rx
  refine getattr_ok I1 ea c n l fun u s2 I2 ru => thn (hv pins s2 σ H1 _ I2 q) fun w3 s3 ⟨y, H2, I3, ry, q3⟩ => thn (hop pins s3 σ H2 v y u w3 _ I3 ru ry q3) fun w4 s4 ⟨z, H3, I4, rz, dx', fs', ea', l', q4⟩ => ?_
  exact setattr_ok I4 ea' c n l' rz fun s5 I5 => ⟨σ, _, I5, q4⟩
def rAdd : V → V → Hp → VK → Prop := fun x y H Q => ∃ i j, x = .int i ∧ y = .int j ∧ Q (.int (i + j)) H
def rSub : V → V → Hp → VK → Prop := fun x y H Q => ∃ i j, x = .int i ∧ y = .int j ∧ Q (.int (i - j)) H
theorem in_add : InOp X .Add rAdd := by
  rintro pins s σ H x y u v Q I rx ry ⟨i, j, rfl, rfl, q⟩
  obtain ⟨t, rfl⟩ := (show ∃ t, u = Value.int i t from rx)
  obtain ⟨t', rfl⟩ := (show ∃ t', v = Value.int j t' from ry)
  exact PyProof.Rows.iadd_int ⟨.int (i + j), H, I.tok _, ⟨_, rfl⟩, q⟩
theorem in_sub : InOp X .Sub rSub := by
  rintro pins s σ H x y u v Q I rx ry ⟨i, j, rfl, rfl, q⟩
  obtain ⟨t, rfl⟩ := (show ∃ t, u = Value.int i t from rx)
  obtain ⟨t', rfl⟩ := (show ∃ t', v = Value.int j t' from ry)
  exact PyProof.Rows.isub_int ⟨.int (i - j), H, I.tok _, ⟨_, rfl⟩, q⟩

/-- what is between an instance and its method: the tree of a method call -/
theorem methcall_of {pl : Sem Bool} {m : Str} {apos : Pos} {args : List Expr} {pins : List (Addr × Obj)} {s : Shared} {σ : St} {H : Hp} {Q : Value → Shared → Prop} {te : TE} (he : PE X e te) (I : Inv X pins σ H s)
    (h : te σ H fun x H1 => ∃ a C dx fs g, x = .ref a ∧ H1 a = some (.ins C dx fs) ∧ Cls X.K C ∧ Meth X.K C m g ∧ fs.lookup m = none ∧
      ∀ s1, Inv X pins σ H1 s1 → wpAny (model X.prog X.w) X.A (callWith pos (.ref g) [.ref a] (backTo pos (starEach args X.env)) (backToKw pos (keywordEach [] X.env))) Q X.xe s1)
    (ht : eval (.Call (.Attribute e m apos) args [] pos) X.env = (do
      let ov ← eval e X.env
      standAt apos.atName
      let (f, first) ← holding [ov] (getMethod ov m pl)
      callWith pos f first (backTo pos (starEach args X.env)) (backToKw pos (keywordEach [] X.env)))) :
    wpAny (model X.prog X.w) X.A (eval (.Call (.Attribute e m apos) args [] pos) X.env) Q X.xe s := by
  refine PySem.W.methodCall_KW (pl := pl) (thn (he pins s σ H _ I h) fun u s1 ⟨x, H1, I1, rx, a, C, dx, fs, g, ex, ea, c, k, l, q⟩ => ?_) ht
  subst ex
  obtain rfl : u = Value.ref a := rx
  exact getmeth_ok I1 ea c k l (q s1 I1)
end

/-! ### isinstance -/
section
variable {X : Cx} {pins : List (Addr × Obj)} {σ : St} {H : Hp} {s : Shared} {A : Around} {E : Value → Shared → Prop} {Q : Value → Shared → Prop} {c : Value} {b : Bool}
/-- the type of a value, as the fragment's deciders take it; for an instance its class -/
inductive TyOf (K : PySem.W.Frag) (H : Hp) : V → Value → Prop where
  | non : TyOf K H .non (.type "NoneType")
  | bl (x : Bool) : TyOf K H (.bl x) (.type "bool")
  | int (i : Int) : TyOf K H (.int i) (.type "int")
  | str (x : Str) : TyOf K H (.str x) (.type "str")
  | flt (x : UInt64) : TyOf K H (.flt x) (.type "float")
  | lst {a : Addr} {xs : List V} (e : H a = some (.lst xs)) : TyOf K H (.ref a) (.type "list")
  | frz {a : Addr} {o : Obj} {xs : List V} (e : H a = some (.frz o (.lst xs))) : TyOf K H (.ref a) (.type "list")
  | tup {a : Addr} {xs : List V} (e : H a = some (.tup xs)) : TyOf K H (.ref a) (.type "tuple")
  | dK {a : Addr} {kvs : List (Key × V)} (e : H a = some (.dK kvs)) : TyOf K H (.ref a) (.type "dict")
  | dT {a : Addr} {kvs : List (List Key × V)} (e : H a = some (.dT kvs)) : TyOf K H (.ref a) (.type "dict")
  | ins {a C dx : Addr} {fs : List (Str × V)} (e : H a = some (.ins C dx fs)) (cl : Cls K C) (ha : PySem.W.findIn K (.ref C) "__class__" = some (some (.builtin "object.__class__")))
      (hn : PySem.W.specialIn K (.builtin "object.__class__") "__get__" = some (some (.builtin "getset_descriptor.__get__"))) (htk : PySem.W.takesIn K (.builtin "object.__class__") = some true)
      (hm : PySem.W.mroIn K C (.type "object") = some true) : TyOf K H (.ref a) (.ref C)
/-- isinstance(x, c) for one class c, a built-in or an own one: kitOne's answer -/
theorem isinst_ok {x : V} {u t : Value} (I : Inv X pins σ H s) (rx : RelV x u) (ty : TyOf X.K H x t) (e : PySem.W.kitOne X.K t c = some b) (h : ∀ tk, Q (.bool b) { s with toks := tk }) :
    wpAny (model X.prog X.w) A (call (.builtin "isinstance") [u, c]) Q E s := by
  cases ty with
  | non => cases (show u = Value.none from rx); exact PySem.W.kia_one PySem.W.kitx_none I.kIn True.intro e (fun z => nomatch z) h
  | bl y => cases (show u = Value.bool y from rx); exact PySem.W.kia_one PySem.W.kitx_bool I.kIn True.intro e (fun z => nomatch z) h
  | int i => obtain ⟨t, q⟩ := (show ∃ t, u = Value.int i t from rx); cases q; exact PySem.W.kia_one PySem.W.kitx_int I.kIn True.intro e (fun z => nomatch z) h
  | str y => obtain ⟨t, q⟩ := (show ∃ t, u = Value.str y t from rx); cases q; exact PySem.W.kia_one PySem.W.kitx_str I.kIn True.intro e (fun z => nomatch z) h
  | flt y => obtain ⟨t, q⟩ := (show ∃ t, u = Value.float y t from rx); cases q; exact PySem.W.kia_one PySem.W.kitx_float I.kIn True.intro e (fun z => nomatch z) h
  | @lst a xs ea =>
    cases (show u = Value.ref a from rx)
    obtain ⟨_, _, n, _, h1⟩ := (show ObjOk X.prog X.w H s.heap a (.lst xs) from I.hok a _ ea)
    exact PySem.W.kia_one PySem.W.kitx_list I.kIn ⟨_, h1, rfl⟩ e (fun z => nomatch z) h
  | @frz a ob xs ea =>
    cases (show u = Value.ref a from rx)
    obtain ⟨_, _, _, n, _, h1⟩ := (show ObjOk X.prog X.w H s.heap a (.frz ob (.lst xs)) from I.hok a _ ea)
    exact PySem.W.kia_one PySem.W.kitx_list I.kIn ⟨_, h1, rfl⟩ e (fun z => nomatch z) h
  | @tup a xs ea =>
    cases (show u = Value.ref a from rx)
    obtain ⟨_, _, _, p⟩ := (show ObjOk X.prog X.w H s.heap a (.tup xs) from I.hok a _ ea)
    obtain ⟨o, h1, h2, _⟩ := p
    exact PySem.W.kia_one PySem.W.kitx_tuple I.kIn ⟨o, h1, h2⟩ e (fun z => nomatch z) h
  | @dK a kvs ea =>
    cases (show u = Value.ref a from rx)
    obtain ⟨_, _, vs, _, p⟩ := (show ObjOk X.prog X.w H s.heap a (.dK kvs) from I.hok a _ ea)
    obtain ⟨o, es, ep, h1, h2, _⟩ := p
    exact PySem.W.kia_one PySem.W.kitx_dict I.kIn ⟨o, h1, h2.1⟩ e (fun z => nomatch z) h
  | @dT a kvs ea =>
    cases (show u = Value.ref a from rx)
    obtain ⟨_, _, xs, _, o, es, ep, h1, h2, _⟩ := (show ObjOk X.prog X.w H s.heap a (.dT kvs) from I.hok a _ ea)
    exact PySem.W.kia_one PySem.W.kitx_dict I.kIn ⟨o, h1, h2.1⟩ e (fun z => nomatch z) h
  | @ins a C dx fs ea cl ha hn htk hm =>
    cases (show u = Value.ref a from rx)
    obtain ⟨mA, O, _⟩ := ins_get I.hok ea
    obtain ⟨od, J, _⟩ := O.look
    exact PySem.W.kia_one (PySem.W.kitx_own (cl.get _) cl.hd ha hn htk hm) I.kIn J e (fun z => nomatch z) h
end
end L2

namespace L2
open PySem PySem.Spec PyProof.Rows

/-! ### room -/
structure Room (k : Nat) (A : Around) : Prop where
  hd : A.handled = none
  dp : A.depth + 3 * k + 5 < recursionLimit
  un : A.units + 16 * k + 200 < cLine
theorem Room.mono {j k : Nat} {A : Around} (r : Room k A) (h : j ≤ k) : Room j A := ⟨r.hd, by have := r.dp; omega, by have := r.un; omega⟩
theorem Room.deeper {k : Nat} {A : Around} (r : Room (k + 1) A) (env : Env) : Room k (A.deeper env) :=
  ⟨r.hd, by have := r.dp; show A.depth + 1 + 3 * k + 5 < _; omega, by have := r.un; show A.units + 3 + 16 * k + 200 < _; omega⟩
theorem Room.in1 {k : Nat} {A : Around} (r : Room (k + 1) A) : Room k A.in1 :=
  ⟨r.hd, by have := r.dp; show A.depth + 3 * k + 5 < _; omega, by have := r.un; show A.units + 1 + 16 * k + 200 < _; omega⟩
theorem make_depth {A : Around} {C : Addr} {us : List Value} {kw : List (Str × Value)} : (A.under (.builtin "type.__call__" ⟨.ref C :: us, kw⟩)).depth = A.depth + 1 := by
  first | rfl | simp [Around.under, Code.weight, Code.isCreation, Code.isGuard, Code.isCaller, Code.frames, Code.isFrame, guardIds]
theorem make_units {A : Around} {C : Addr} {us : List Value} {kw : List (Str × Value)} : (A.under (.builtin "type.__call__" ⟨.ref C :: us, kw⟩)).units = A.units + 1 := by
  first | rfl | simp [Around.under, Code.cUnits, Code.frames, Code.isFrame]
theorem Room.make {k : Nat} {A : Around} (r : Room (k + 1) A) (C : Addr) (us : List Value) (kw : List (Str × Value)) : Room k (A.under (.builtin "type.__call__" ⟨.ref C :: us, kw⟩)) :=
  ⟨r.hd, by have := r.dp; rw [make_depth]; omega, by have := r.un; rw [make_units]; omega⟩
theorem Room.depth {k : Nat} {A : Around} (r : Room k A) : A.depth < recursionLimit := by have := r.dp; omega
theorem Room.units {k : Nat} {A : Around} (r : Room k A) : A.units + 64 < cLine := by have := r.un; omega
theorem Room.units0 {k : Nat} {A : Around} (r : Room k A) : A.units < cLine := by have := r.un; omega

/-! ### argument lists and displays -/
def tNil : TA := fun _ H Q => Q [] H
def tCons (ta : TE) (tr : TA) : TA := fun σ H Q => ta σ H fun x H1 => tr σ H1 fun xs H2 => Q (x :: xs) H2
section
variable {X : Cx} {e : Expr} {es : List Expr} {te : TE} {t : TA} {pos : Pos}
theorem pa_nil : PA X [] tNil := fun _ _ _ _ H Q I h => Calls.spliced_nil ⟨[], H, I, .nil, h⟩
theorem pa_cons (ha : PE X e te) (hr : PA X es t) (hs : starEach (e :: es) X.env = (false, eval e X.env) :: starEach es X.env := by rfl) : PA X (e :: es) (tCons te t) := by
  intro pos pins s σ H Q I h
  rw [hs]
  show wpAny _ _ (spliced ((false, eval e X.env) :: backTo pos (starEach es X.env))) _ _ s
  refine Calls.spliced_cons (thn (ha pins s σ H _ I h) fun u s1 ⟨x, H1, I1, r1, q1⟩ => ?_)
  exact thn (hr pos pins s1 σ H1 _ I1 q1) fun us s2 ⟨xs, H2, I2, r2, q2⟩ => ⟨x :: xs, H2, I2, .cons r1 r2, q2⟩

/-- a tuple, a list of written items -/
def tTup (t : TA) : TE := fun σ H Q => t σ H fun xs H1 => xs.length ≤ sizeLine ∧ ∀ p, H1 p = none → Q (.ref p) (upd H1 p (.tup xs))
def tLst (t : TA) : TE := fun σ H Q => t σ H fun xs H1 => xs.length ≤ sizeLine ∧ ∀ p, H1 p = none → Q (.ref p) (upd H1 p (.lst xs))
theorem pe_tup {x1} (h : PA X es t) : PE X (.Tuple es x1 pos) (tTup t) := by
  intro pins s σ H Q I hq
  refine wpAny_Tuple_spliced (thn (h pos pins s σ H _ I hq) fun us s1 ⟨xs, H1, I1, r, z, q⟩ => ⟨by rw [← r.length]; exact z, ?_⟩)
  have hf : H1 s1.heap.objs.size = none := I1.hok.fresh (Nat.le_refl _)
  refine ⟨.ref s1.heap.objs.size, upd H1 s1.heap.objs.size (.tup xs), I1.laid (t' := s1.toks) (fun b u e => Heap.get?_push_of_some _ e) (Nat.le_refl _) ?_, rfl, q _ hf⟩
  exact ⟨z, us, r, ⟨_, Heap.get?_push_size _ rfl, rfl, _, rfl⟩⟩
theorem pe_lst (h : PA X es t) : PE X (.List es pos) (tLst t) := by
  intro pins s σ H Q I hq
  refine wpAny_List_spliced (thn (h pos pins s σ H _ I hq) fun us s1 ⟨xs, H1, I1, r, z, q⟩ => ⟨by rw [← r.length]; exact z, ?_⟩)
  have hf : H1 s1.heap.objs.size = none := I1.hok.fresh (Nat.le_refl _)
  refine ⟨.ref s1.heap.objs.size, upd H1 s1.heap.objs.size (.lst xs), I1.laid (t' := s1.toks) (fun b u e => Heap.get?_push_of_some _ e) (Nat.le_refl _) ?_, rfl, q _ hf⟩
  exact ⟨z, us, 0, r, Heap.get?_push_size _ rfl⟩
end

/-! ### what a def promises -/
/-- a def's promise: the bound arguments in the parameters' order, the heap, the wanted end, the wanted exception -/
abbrev Sp := List V → Hp → VK → XK → Prop
/-- how an exception lies behind a call (file 08 gives it): the callers' frames, abstract heap and state ahead of the call, the wish, the exception, the state -/
abbrev CXT := List Env → Hp → Shared → XK → Value → Shared → Prop

/-- the state at a call -/
structure Env0 (P : Program) (w : World) (K : PySem.W.Frag) (mg : Str → Option Value) (base : Heap) (A : Around) (outer : List Env) (s : Shared) (H : Hp) : Prop where
  frames : A.frames = some outer
  mod : Mod K mg base
  bs : ∀ b o, base.get? b = some o → s.heap.get? b = some o ∧ H b = none
  bsz : base.objs.size ≤ s.heap.objs.size
  funs : s.heap.FunFrames base outer
  frf : ∀ b ∈ frs outer, H b = none
  hok : HOk P w H s.heap
  bare : AllBare s.gens
/-- a call's end -/
def CE (outer : List Env) (P : Program) (w : World) (H : Hp) (s : Shared) (Q : VK) (u : Value) (s' : Shared) : Prop :=
  ∃ v H', s'.os = s.os ∧ AllBare s'.gens ∧ Un (frs outer) [] H H' s.heap s'.heap ∧ HOk P w H' s'.heap ∧ RelV v u ∧ Q v H'
def CR (CX : CXT) (outer : List Env) (P : Program) (w : World) (H : Hp) (s : Shared) (Q : VK) (E : XK) (r : Result) (s' : Shared) : Prop :=
  match r with
  | .ok (.ret u) => CE outer P w H s Q u s'
  | .ok _ => False
  | .error e => CX outer H s E e s'
structure FnOk (P : Program) (w : World) (K : PySem.W.Frag) (mg : Str → Option Value) (base : Heap) (CX : CXT) (k : Nat) (f : Addr) (fd : FuncData) (ps : List Str) (sp : Sp) : Prop where
  len : ∀ vs H Q E, sp vs H Q E → vs.length = ps.length
  run : ∀ (A : Around) (outer : List Env) (s : Shared) (H : Hp) (args : Args) (us : List Value) (vs : List V) (Q : VK) (E : XK), Room k A → Env0 P w K mg base A outer s H → BindsTo s fd args (ps.zip us) → Vals vs us → sp vs H Q E →
    codeAny (model P w) A (.call (.ref f) args) (CR CX outer P w H s Q E) s
theorem FnOk.mono {P : Program} {w : World} {K : PySem.W.Frag} {mg : Str → Option Value} {base : Heap} {CX : CXT} {j k : Nat} {f : Addr} {fd : FuncData} {ps : List Str} {sp : Sp} (F : FnOk P w K mg base CX j f fd ps sp) (h : j ≤ k) :
    FnOk P w K mg base CX k f fd ps sp := ⟨F.len, fun A outer s H args us vs Q E hr => F.run A outer s H args us vs Q E (hr.mono h)⟩
/-- a weaker promise -/
theorem FnOk.imp {P : Program} {w : World} {K : PySem.W.Frag} {mg : Str → Option Value} {base : Heap} {CX : CXT} {k : Nat} {f : Addr} {fd : FuncData} {ps : List Str} {sp sp' : Sp} (F : FnOk P w K mg base CX k f fd ps sp)
    (h : ∀ vs H Q E, sp' vs H Q E → sp vs H Q E) : FnOk P w K mg base CX k f fd ps sp' :=
  ⟨fun vs H Q E q => F.len vs H Q E (h _ _ _ _ q), fun A outer s H args us vs Q E hr he hb hv hs => F.run A outer s H args us vs Q E hr he hb hv (h _ _ _ _ hs)⟩

theorem Env0.make {P : Program} {w : World} {K : PySem.W.Frag} {mg : Str → Option Value} {base : Heap} {A : Around} {outer : List Env} {s : Shared} {H : Hp} (e : Env0 P w K mg base A outer s H) (C : Addr) (us : List Value) (kw : List (Str × Value)) :
    Env0 P w K mg base (A.under (.builtin "type.__call__" ⟨.ref C :: us, kw⟩)) outer s H := ⟨by first | exact e.frames | (simpa [Around.under, Code.envs, Code.isFrame, pushEnvs] using e.frames), e.mod, e.bs, e.bsz, e.funs, e.frf, e.hok, e.bare⟩
theorem Env0.in1 {P : Program} {w : World} {K : PySem.W.Frag} {mg : Str → Option Value} {base : Heap} {A : Around} {outer : List Env} {s : Shared} {H : Hp} (e : Env0 P w K mg base A outer s H) :
    Env0 P w K mg base A.in1 outer s H := ⟨e.frames, e.mod, e.bs, e.bsz, e.funs, e.frf, e.hok, e.bare⟩

section
variable {X : Cx} {pins : List (Addr × Obj)} {σ : St} {H : Hp} {s s' : Shared}
/-- from a body: what a callee wants -/
theorem Inv.env0 (I : Inv X pins σ H s) : Env0 X.prog X.w X.K X.mg X.base X.A X.stack s H :=
  ⟨I.ok.frames, I.ok.mod, I.bs, Nat.le_trans I.ok.bsz I.sz, I.stack, I.stkFree, I.hok, I.bare⟩
/-- behind a call -/
theorem Inv.after {Q : VK} {u : Value} (I : Inv X pins σ H s) (h : CE X.stack X.prog X.w H s Q u s') : EP X pins σ Q u s' := by
  obtain ⟨v, H', os, bare, un, hok, r, q⟩ := h
  obtain ⟨hh, g, d, t, os'⟩ := s'
  obtain rfl : os' = s.os := os
  exact ⟨v, H', I.call (h' := hh) (g' := g) (d' := d) (t' := t) (ch := []) un hok bare (fun b z => absurd z (by simp)), r, q⟩
end

/-! ### calls -/
/-- f(..): the written arguments, then the defaults dvs; E: what is wanted of an exception -/
def tCall (sp : Sp) (dvs : List V) (E : XK) (t : TA) : TE := fun σ H Q => t σ H fun vs H1 => sp (vs ++ dvs) H1 Q E
/-- o.m(..) of an instance of the class at C -/
def tMeth (C : Addr) (m : Str) (sp : Sp) (dvs : List V) (E : XK) (ta : TE) (t : TA) : TE := fun σ H Q => ta σ H fun x H1 => ∃ a dx fs, x = .ref a ∧ H1 a = some (.ins C dx fs) ∧ fs.lookup m = none ∧
  t σ H1 fun vs H2 => sp (x :: (vs ++ dvs)) H2 Q E
/-- C(..): a new instance and its dict, then __init__ -/
def tMake (C : Addr) (sp : Sp) (dvs : List V) (E : XK) (t : TA) : TE := fun σ H Q => t σ H fun vs H1 => ∀ x dx, H1 x = none → H1 dx = none → dx ≠ x →
  sp (.ref x :: (vs ++ dvs)) (upd (upd H1 dx (.own x)) x (.ins C dx [])) (fun v H2 => v = .non ∧ Q (.ref x) H2) E

/-- how the parameters are bound: us the positional arguments, kw the keywords' values by name, ds the defaults that fill up -/
def Binds (K : PySem.W.Frag) (fd : FuncData) (ps : List Str) (ds : List Value) : Prop :=
  ∀ (s : Shared) (us : List Value), K.In s.heap → (us ++ ds).length = ps.length → BindsTo s fd ⟨us, []⟩ (ps.zip (us ++ ds))
/-- every parameter is given -/
theorem Binds.all {K : PySem.W.Frag} {fd : FuncData} {ps : List Str} (h : ∀ us : List Value, us.length = ps.length → bindArgs fd ⟨us, []⟩ = pure (ps.zip us)) : Binds K fd ps [] := fun s us _ hl => by
  rw [List.append_nil] at hl ⊢
  exact .of_eq (h us hl)

/-- an exception of a callee reaches what this body wants of exceptions -/
def Passes (CX : CXT) (X : Cx) (E : XK) : Prop := ∀ (pins : List (Addr × Obj)) (σ : St) (H : Hp) (s : Shared) (e : Value) (s' : Shared), Inv X pins σ H s → CX X.stack H s E e s' → X.xe e s'

section
variable {X : Cx} {CX : CXT} {k : Nat} {f C : Addr} {fd : FuncData} {ps : List Str} {sp : Sp} {dvs : List V} {ds : List Value} {E : XK} {x m : Str} {p pos apos : Pos} {e o : Expr} {es : List Expr} {ta : TE} {t : TA}

/-- the callee runs -/
theorem run_fn {pins : List (Addr × Obj)} {σ : St} {H : Hp} {s : Shared} {Q : VK} {us : List Value} {vs : List V} (F : FnOk X.prog X.w X.K X.mg X.base CX k f fd ps sp) (hr : Room k X.A) (hb : Binds X.K fd ps ds) (hd : Vals dvs ds) (hx : Passes CX X E)
    (I : Inv X pins σ H s) (r : Vals vs us) (h : sp (vs ++ dvs) H Q E) : wpAny (model X.prog X.w) X.A (call (.ref f) us) (EP X pins σ Q) X.xe s := by
  have r2 : Vals (vs ++ dvs) (us ++ ds) := r.append hd
  have hl : (us ++ ds).length = ps.length := by rw [← r2.length]; exact F.len _ _ _ _ h
  refine wpAny_call (codeAny_mono (F.run X.A X.stack s H ⟨us, []⟩ (us ++ ds) (vs ++ dvs) Q E hr I.env0 (hb s us I.kIn hl) r2 h) fun r s' hq => ?_)
  cases r with
  | error e => exact hx pins σ H s e s' I hq
  | ok fl =>
    cases fl with
    | ret u => exact I.after hq
    | next => exact False.elim hq
    | brk => exact False.elim hq
    | cont => exact False.elim hq

theorem pe_call (F : FnOk X.prog X.w X.K X.mg X.base CX k f fd ps sp) (hr : Room k X.A) (hg : Gl X x) (hm : X.mg x = some (.ref f)) (hk : PySem.W.keepIn X.K (.ref f) = true) (hb : Binds X.K fd ps ds) (hd : Vals dvs ds) (hx : Passes CX X E)
    (ha : PA X (e :: es) t) (hdb : (x == ("__debug__" : Str)) = false := by decide) (he : starEach (e :: es) X.env = (false, eval e X.env) :: starEach es X.env := by rfl) (hpl : (backTo pos (starEach es X.env)).any (·.1) = false := by rfl) :
    PE X (.Call (.Name x p) (e :: es) [] pos) (tCall sp dvs E t) := by
  intro pins s σ H Q I h
  refine wpAny_Call_Name_kw (ld_glob I hg hm ?_ hdb)
  refine PySem.W.callWith_K (h₀ := X.base) I.ok.mod.kin hk (thn (ha pos pins s σ H _ I h) fun us s1 ⟨vs, H1, I1, r, q⟩ => ⟨I1.kIn, ?_⟩) he hpl
  exact run_fn F hr hb hd hx I1 r q
theorem pe_call0 (F : FnOk X.prog X.w X.K X.mg X.base CX k f fd ps sp) (hr : Room k X.A) (hg : Gl X x) (hm : X.mg x = some (.ref f)) (hk : PySem.W.keepIn X.K (.ref f) = true) (hb : Binds X.K fd ps ds) (hd : Vals dvs ds) (hx : Passes CX X E)
    (hdb : (x == ("__debug__" : Str)) = false := by decide) : PE X (.Call (.Name x p) [] [] pos) (tCall sp dvs E tNil) := by
  intro pins s σ H Q I h
  refine wpAny_Call_Name_kw (ld_glob I hg hm ?_ hdb)
  exact PySem.W.callWith_K0 I.kIn hk (run_fn (us := []) F hr hb hd hx I .nil h)

/-- o.m(e, ..) -/
theorem pe_meth {pl : Sem Bool} (he : PE X o ta) (c : Cls X.K C) (hm : Meth X.K C m f) (F : FnOk X.prog X.w X.K X.mg X.base CX k f fd ps sp) (hr : Room k X.A) (hb : Binds X.K fd ps ds) (hd : Vals dvs ds) (hx : Passes CX X E) (ha : PA X (e :: es) t)
    (hst : starEach (e :: es) X.env = (false, eval e X.env) :: starEach es X.env := by rfl) (hpl : (backTo pos (starEach es X.env)).any (·.1) = false := by rfl)
    (ht : eval (.Call (.Attribute o m apos) (e :: es) [] pos) X.env = (do
      let ov ← eval o X.env
      standAt apos.atName
      let (f, first) ← holding [ov] (getMethod ov m pl)
      callWith pos f first (backTo pos (starEach (e :: es) X.env)) (backToKw pos (keywordEach [] X.env))) := by rfl) :
    PE X (.Call (.Attribute o m apos) (e :: es) [] pos) (tMeth C m sp dvs E ta t) := by
  intro pins s σ H Q I h
  refine PySem.W.methodCall_KW (pl := pl) (thn (he pins s σ H _ I h) fun u s1 ⟨x, H1, I1, rx, a, dx, fs, ex, ea, l, q⟩ => ?_) ht
  subst ex
  obtain rfl : u = Value.ref a := rx
  refine getmeth_ok I1 ea c hm l ?_
  refine PySem.W.callWith_K (first := [.ref a]) (h₀ := X.base) I.ok.mod.kin hm.kp (thn (ha pos pins s1 σ H1 _ I1 q) fun us s2 ⟨vs, H2, I2, r, q2⟩ => ⟨I2.kIn, ?_⟩) hst hpl
  exact run_fn (us := .ref a :: us) (vs := .ref a :: vs) F hr hb hd hx I2 (.cons rfl r) q2
/-- o.m() -/
theorem pe_meth0 {pl : Sem Bool} (he : PE X o ta) (c : Cls X.K C) (hm : Meth X.K C m f) (F : FnOk X.prog X.w X.K X.mg X.base CX k f fd ps sp) (hr : Room k X.A) (hb : Binds X.K fd ps ds) (hd : Vals dvs ds) (hx : Passes CX X E)
    (ht : eval (.Call (.Attribute o m apos) [] [] pos) X.env = (do
      let ov ← eval o X.env
      standAt apos.atName
      let (f, first) ← holding [ov] (getMethod ov m pl)
      callWith pos f first (backTo pos (starEach [] X.env)) (backToKw pos (keywordEach [] X.env))) := by rfl) :
    PE X (.Call (.Attribute o m apos) [] [] pos) (tMeth C m sp dvs E ta tNil) := by
  intro pins s σ H Q I h
  refine PySem.W.methodCall_KW (pl := pl) (thn (he pins s σ H _ I h) fun u s1 ⟨x, H1, I1, rx, a, dx, fs, ex, ea, l, q⟩ => ?_) ht
  subst ex
  obtain rfl : u = Value.ref a := rx
  refine getmeth_ok I1 ea c hm l ?_
  exact PySem.W.callWith_K0 (first := [.ref a]) I1.kIn hm.kp (run_fn (us := [.ref a]) (vs := [.ref a]) F hr hb hd hx I1 (.cons rfl .nil) q)

/-- what a class must have to be made -/
structure Mk (K : PySem.W.Frag) (C f : Addr) : Prop where
  makes : PySem.W.makesIn K C = true
  init : PySem.W.findIn K (.ref C) "__init__" = some (some (.ref f))
  fn : PySem.W.isFn K (.ref f) = true
  kp : PySem.W.keepIn K (.ref C) = true

theorem run_make {pins : List (Addr × Obj)} {σ : St} {H : Hp} {s : Shared} {Q : VK} {us : List Value} {vs : List V} (M : Mk X.K C f) (F : FnOk X.prog X.w X.K X.mg X.base CX k f fd ps sp) (hr : Room (k + 1) X.A) (hb : Binds X.K fd ps ds) (hd : Vals dvs ds)
    (hx : Passes CX X E) (I : Inv X pins σ H s) (r : Vals vs us)
    (h : ∀ x dx, H x = none → H dx = none → dx ≠ x → sp (.ref x :: (vs ++ dvs)) (upd (upd H dx (.own x)) x (.ins C dx [])) (fun v H2 => v = .non ∧ Q (.ref x) H2) E) :
    wpAny (model X.prog X.w) X.A (call (.ref C) us) (EP X pins σ Q) X.xe s := by
  have hq := h (s.heap.objs.size + 1) s.heap.objs.size (I.hok.fresh (Nat.le_succ _)) (I.hok.fresh (Nat.le_refl _)) (Nat.ne_of_lt (Nat.lt_succ_self _))
  have I2 := Inv.made (C := C) I
  have r2 : Vals (V.ref (s.heap.objs.size + 1) :: (vs ++ dvs)) (Value.ref (s.heap.objs.size + 1) :: (us ++ ds)) := .cons rfl (r.append hd)
  have hl : (Value.ref (s.heap.objs.size + 1) :: us ++ ds).length = ps.length := by
    have e := r2.length
    rw [F.len _ _ _ _ hq] at e
    exact e.symm
  refine wpAny_call (make_map (f := f) I.kIn M.makes M.init (beq_iff_eq.mp M.fn) (codeAny_mono (F.run _ X.stack _ _ ⟨Value.ref (s.heap.objs.size + 1) :: us, []⟩ (Value.ref (s.heap.objs.size + 1) :: (us ++ ds)) _ _ E (hr.make C us [])
    (I2.env0.make C us []) (hb _ (Value.ref (s.heap.objs.size + 1) :: us) I2.kIn hl) r2 hq) fun r s' hq' => ?_))
  cases r with
  | error e => exact hx pins σ _ _ e s' I2 hq'
  | ok fl =>
    cases fl with
    | ret u =>
      obtain ⟨v, H', I3, rv, ev, q3⟩ := I2.after hq'
      subst ev
      exact ⟨rv, ⟨V.ref (s.heap.objs.size + 1), H', I3, rfl, q3⟩⟩
    | next => exact False.elim hq'
    | brk => exact False.elim hq'
    | cont => exact False.elim hq'
theorem pe_make (M : Mk X.K C f) (F : FnOk X.prog X.w X.K X.mg X.base CX k f fd ps sp) (hr : Room (k + 1) X.A) (hg : Gl X x) (hm : X.mg x = some (.ref C)) (hb : Binds X.K fd ps ds) (hd : Vals dvs ds) (hx : Passes CX X E)
    (ha : PA X (e :: es) t) (hdb : (x == ("__debug__" : Str)) = false := by decide) (he : starEach (e :: es) X.env = (false, eval e X.env) :: starEach es X.env := by rfl) (hpl : (backTo pos (starEach es X.env)).any (·.1) = false := by rfl) :
    PE X (.Call (.Name x p) (e :: es) [] pos) (tMake C sp dvs E t) := by
  intro pins s σ H Q I h
  refine wpAny_Call_Name_kw (ld_glob I hg hm ?_ hdb)
  refine PySem.W.callWith_K (h₀ := X.base) I.ok.mod.kin M.kp (thn (ha pos pins s σ H _ I h) fun us s1 ⟨vs, H1, I1, r, q⟩ => ⟨I1.kIn, ?_⟩) he hpl
  exact run_make M F hr hb hd hx I1 r q
theorem pe_make0 (M : Mk X.K C f) (F : FnOk X.prog X.w X.K X.mg X.base CX k f fd ps sp) (hr : Room (k + 1) X.A) (hg : Gl X x) (hm : X.mg x = some (.ref C)) (hb : Binds X.K fd ps ds) (hd : Vals dvs ds) (hx : Passes CX X E)
    (hdb : (x == ("__debug__" : Str)) = false := by decide) : PE X (.Call (.Name x p) [] [] pos) (tMake C sp dvs E tNil) := by
  intro pins s σ H Q I h
  refine wpAny_Call_Name_kw (ld_glob I hg hm ?_ hdb)
  exact PySem.W.callWith_K0 I.kIn M.kp (run_make (us := []) M F hr hb hd hx I .nil h)
end

/-! ### keywords -/
/-- the values of the keywords, from the left -/
def PK (X : Cx) (kws : List Keyword) (t : TA) : Prop :=
  ∀ (pos : Pos) (pins : List (Addr × Obj)) (s : Shared) (σ : St) (H : Hp) (Q : List V → Hp → Prop), Inv X pins σ H s → t σ H Q → wpAny (model X.prog X.w) X.A (evalAll ((backToKw pos (keywordEach kws X.env)).map (·.2))) (AP X pins σ Q) X.xe s
section
variable {X : Cx} {CX : CXT} {k : Nat} {f C : Addr} {fd : FuncData} {ps ks : List Str} {sp : Sp} {E : XK} {x m : Str} {p pos apos kpos : Pos} {e o : Expr} {es : List Expr} {kws : List Keyword} {te ta : TE} {t tk : TA} {nm : Option Str}
theorem pk_nil : PK X [] tNil := fun _ _ _ _ H Q I h => wpAny_evalAll_nil ⟨[], H, I, .nil, h⟩
theorem pk_cons (ha : PE X e te) (hr : PK X kws t) : PK X (⟨nm, e, kpos⟩ :: kws) (tCons te t) := by
  intro pos pins s σ H Q I h
  show wpAny _ _ (evalAll ((do let v ← eval e X.env; standAt pos; pure v) :: (backToKw pos (keywordEach kws X.env)).map (·.2))) _ _ s
  refine wpAny_evalAll_cons (wpAny_bind (thn (ha pins s σ H _ I h) fun u s1 ⟨x, H1, I1, r1, q1⟩ => wpAny_bind (wpAny_standAt (wpAny_pure ?_))))
  exact thn (hr pos pins s1 σ H1 _ I1 q1) fun us s2 ⟨xs, H2, I2, r2, q2⟩ => ⟨x :: xs, H2, I2, .cons r1 r2, q2⟩

/-- how a call with keywords binds: g puts the positional values us and the keywords' values ws (names ks) in the parameters' order, defaults among them -/
structure KBinds (K : PySem.W.Frag) (fd : FuncData) (ps ks : List Str) (g : List Value → List Value → List Value) (gV : List V → List V → List V) : Prop where
  to : ∀ (s : Shared) (us ws : List Value), K.In s.heap → (g us ws).length = ps.length → BindsTo s fd ⟨us, ks.zip ws⟩ (ps.zip (g us ws))
  rel : ∀ {vs : List V} {us : List Value} {zs : List V} {ws : List Value}, Vals vs us → Vals zs ws → Vals (gV vs zs) (g us ws)
def tCallK (sp : Sp) (gV : List V → List V → List V) (E : XK) (t tk : TA) : TE := fun σ H Q => t σ H fun vs H1 => tk σ H1 fun zs H2 => sp (gV vs zs) H2 Q E
variable {g : List Value → List Value → List Value} {gV : List V → List V → List V}
theorem run_fnk {pins : List (Addr × Obj)} {σ : St} {H : Hp} {s : Shared} {Q : VK} {us ws : List Value} {vs zs : List V} (F : FnOk X.prog X.w X.K X.mg X.base CX k f fd ps sp) (hr : Room k X.A) (hb : KBinds X.K fd ps ks g gV) (hx : Passes CX X E)
    (I : Inv X pins σ H s) (r : Vals vs us) (rz : Vals zs ws) (h : sp (gV vs zs) H Q E) : wpAny (model X.prog X.w) X.A (call (.ref f) us (ks.zip ws)) (EP X pins σ Q) X.xe s := by
  have r2 := hb.rel r rz
  have hl : (g us ws).length = ps.length := by rw [← r2.length]; exact F.len _ _ _ _ h
  refine wpAny_call (codeAny_mono (F.run X.A X.stack s H ⟨us, ks.zip ws⟩ (g us ws) (gV vs zs) Q E hr I.env0 (hb.to s us ws I.kIn hl) r2 h) fun r s' hq => ?_)
  cases r with
  | error e => exact hx pins σ H s e s' I hq
  | ok fl =>
    cases fl with
    | ret u => exact I.after hq
    | next => exact False.elim hq
    | brk => exact False.elim hq
    | cont => exact False.elim hq
/-- f(e, .., k = v, ..) -/
theorem pe_callK (F : FnOk X.prog X.w X.K X.mg X.base CX k f fd ps sp) (hr : Room k X.A) (hg : Gl X x) (hm : X.mg x = some (.ref f)) (hk : PySem.W.keepIn X.K (.ref f) = true) (hb : KBinds X.K fd ps ks g gV) (hx : Passes CX X E)
    (ha : PA X (e :: es) t) (hkw : PK X kws tk) (hall : (backToKw pos (keywordEach kws X.env)).all (·.1.isSome) = true := by rfl) (hks : (backToKw pos (keywordEach kws X.env)).filterMap (·.1) = ks := by rfl)
    (hdb : (x == ("__debug__" : Str)) = false := by decide) (he : starEach (e :: es) X.env = (false, eval e X.env) :: starEach es X.env := by rfl)
    (hpl : ((backTo pos (starEach (e :: es) X.env)).any (·.1) || (backToKw pos (keywordEach kws X.env)).any (·.1.isNone)) = false := by rfl) :
    PE X (.Call (.Name x p) (e :: es) kws pos) (tCallK sp gV E t tk) := by
  intro pins s σ H Q I h
  refine wpAny_Call_Name_kw (ld_glob I hg hm ?_ hdb)
  refine PySem.W.callWith_KW (h₀ := X.base) I.ok.mod.kin hk hall (thn (ha pos pins s σ H _ I h) fun us s1 ⟨vs, H1, I1, r, q⟩ => ?_) hpl he
  refine thn (hkw pos pins s1 σ H1 _ I1 q) fun ws s2 ⟨zs, H2, I2, rz, q2⟩ => ⟨I2.kIn, ?_⟩
  rw [hks]
  exact run_fnk F hr hb hx I2 r rz q2
end

/-! ### a def's body keeps its promise -/
/-- names: the parameters first -/
structure FnScope (N P : List Str) (sc : Scope) : Prop where
  kind : sc.kind = .function
  co : sc.isCoroutine = false
  gen : sc.isGenerator = false
  nd : N.Nodup
  pre : N.take P.length = P
  par : ∀ x ∈ P, sc.names.lookup x = some .local ∨ sc.names.lookup x = some .cell
  nofree : ∀ y ∈ sc.names, y.2 ≠ .free

theorem bindL_out {kindOf : Str → Option NameKind} {x : Str} : ∀ {binds : List (Str × Value)} {m : Str → Option Value}, (∀ v, (x, v) ∉ binds) → bindL kindOf binds m x = m x
  | [], _, _ => rfl
  | (n, v) :: r, m, h => by
    unfold bindL
    rw [bindL_out fun w hw => h w (List.mem_cons_of_mem _ hw)]
    split
    · have : x ≠ n := by rintro rfl; exact h v List.mem_cons_self
      simp [this]
    · rfl
theorem bindC_out {kindOf : Str → Option NameKind} {x : Str} : ∀ {binds : List (Str × Value)} {m : Str → Option Value}, (∀ v, (x, v) ∉ binds) → bindC kindOf binds m x = m x
  | [], _, _ => rfl
  | (n, v) :: r, m, h => by
    unfold bindC
    rw [bindC_out fun w hw => h w (List.mem_cons_of_mem _ hw)]
    split
    · rfl
    · have : x ≠ n := by rintro rfl; exact h v List.mem_cons_self
      simp [this]
theorem bindL_get {kindOf : Str → Option NameKind} {x : Str} {v : Value} : ∀ {P : List Str} {vs : List Value} {i : Nat} {m : Str → Option Value}, P.Nodup → P[i]? = some x → vs[i]? = some v → kindOf x = some .local →
    bindL kindOf (P.zip vs) m x = some v
  | [], _, _, _, _, h, _, _ => by simp at h
  | _ :: _, [], _, _, _, _, h, _ => by simp at h
  | p :: P, w :: vs, 0, m, nd, h1, h2, hk => by
    simp at h1 h2; subst h1; subst h2
    show bindL kindOf ((p, w) :: P.zip vs) m p = _
    unfold bindL
    rw [bindL_out fun v hv => (List.nodup_cons.mp nd).1 (List.of_mem_zip hv).1, if_pos hk]
    simp
  | p :: P, w :: vs, i + 1, m, nd, h1, h2, hk => by
    show bindL kindOf ((p, w) :: P.zip vs) m x = _
    unfold bindL
    exact bindL_get (i := i) (List.nodup_cons.mp nd).2 (by simpa using h1) (by simpa using h2) hk
theorem bindC_get {kindOf : Str → Option NameKind} {x : Str} {v : Value} : ∀ {P : List Str} {vs : List Value} {i : Nat} {m : Str → Option Value}, P.Nodup → P[i]? = some x → vs[i]? = some v → kindOf x ≠ some .local →
    bindC kindOf (P.zip vs) m x = some v
  | [], _, _, _, _, h, _, _ => by simp at h
  | _ :: _, [], _, _, _, _, h, _ => by simp at h
  | p :: P, w :: vs, 0, m, nd, h1, h2, hk => by
    simp at h1 h2; subst h1; subst h2
    show bindC kindOf ((p, w) :: P.zip vs) m p = _
    unfold bindC
    rw [bindC_out fun v hv => (List.nodup_cons.mp nd).1 (List.of_mem_zip hv).1, if_neg hk]
    simp
  | p :: P, w :: vs, i + 1, m, nd, h1, h2, hk => by
    show bindC kindOf ((p, w) :: P.zip vs) m x = _
    unfold bindC
    exact bindC_get (i := i) (List.nodup_cons.mp nd).2 (by simpa using h1) (by simpa using h2) hk

/-- the names' values at the entry -/
def start (N : List Str) (vs : List V) : St := vs.map some ++ List.replicate (N.length - vs.length) none

/-- the context of a def's body, at its entry; an exception leaves the frame, then lies as CX says -/
def cxOf (CX : CXT) (P : Program) (w : World) (K : PySem.W.Frag) (mg : Str → Option Value) (base : Heap) (N : List Str) (qual : Str) (scope : Scope) (f : Addr) (cd : Value) (A : Around) (outer : List Env) (s : Shared) (H : Hp) (E : XK) : Cx where
  prog := P
  w := w
  K := K
  mg := mg
  base := base
  A := A.deeper (envOfC qual scope s.heap.objs.size f cd)
  N := N
  s₀ := s
  H₀ := H
  env := envOfC qual scope s.heap.objs.size f cd
  outer := outer
  stack := envOfC qual scope s.heap.objs.size f cd :: outer
  ex := []
  calm := true
  fn := fun _ => true
  pn := []
  xe := fun e s' => wpAny (model P w) (A.deeper (envOfC qual scope s.heap.objs.size f cd)) (leaving (envOfC qual scope s.heap.objs.size f cd) e) (fun _ s'' => CX outer H s E e s'') (fun e' s'' => CX outer H s E e' s'') s'

theorem cell_has {sc : Scope} {n : Nat} {x : Str} (h : sc.names.lookup x = some .cell) : ∃ c, (cellsFrom n sc.names []).lookup x = some c := by
  have q := PySem.W.cellsFrom_some sc.names n [] (.inl h)
  exact Option.isSome_iff_exists.mp q

theorem inv_start {CX : CXT} {P : Program} {w : World} {K : PySem.W.Frag} {mg : Str → Option Value} {base : Heap} {N ps : List Str} {qual : Str} {scope : Scope} {f : Addr} {cd : Value} {A : Around} {outer : List Env} {s s1 : Shared} {H : Hp} {E : XK} {us : List Value} {vs : List V}
    (S : FnScope N ps scope) (hd : A.handled = none) (e0 : Env0 P w K mg base A outer s H) (hl : vs.length = ps.length) (r : Vals vs us)
    (x : InCallC s s.heap.objs.size (bindL (envOfC qual scope s.heap.objs.size f cd).kindOf (ps.zip us) fun _ => none) (cellsFrom (s.heap.objs.size + 1) scope.names []) (bindC (envOfC qual scope s.heap.objs.size f cd).kindOf (ps.zip us) fun _ => none) s1) :
    Inv (cxOf CX P w K mg base N qual scope f cd A outer s H E) [] (start N vs) H s1 := by
  have hpl : ps.length ≤ N.length := by have := congrArg List.length S.pre; rw [List.length_take] at this; omega
  obtain ⟨h1, tk, rfl, hk⟩ := x.done
  have noA : ∀ b : Addr, b ∉ (cxOf CX P w K mg base N qual scope f cd A outer s H E).ex := fun b z => absurd (show b ∈ ([] : List Addr) from z) (by simp)
  refine ⟨⟨e0.mod, S.kind, rfl, rfl, Nat.le_refl _, fun y z c h1 h2 => ?_, fun y hy => ?_, fun y c _ h => ?_, fun _ => hd, Around.frames_deeper e0.frames, .inr ⟨rfl, rfl⟩, fun b z => absurd z (noA b), e0.bs, e0.bsz, fun b _ _ => noA b, fun b z => absurd z (noA b), e0.funs, e0.frf⟩,
    rfl, e0.bare, Un.kept hk, ⟨_, x.toInCall.ns, fun i y v h1 h2 h3 => ?_⟩, fun y c h => ⟨_, x.cell y c h⟩, e0.hok.fresh (Nat.le_refl _), fun y c h => ?_, fun p hp => absurd (show p ∈ ([] : List (Addr × Obj)) from hp) (by simp), e0.hok.kept hk, ?_⟩
  · exact name_of_addr x.apart (PySem.mem_of_lookup h1) (PySem.mem_of_lookup h2)
  · have hy : scope.names.lookup y = some .cell ∨ scope.names.lookup y = some .free := hy
    rcases hy with hy | hy
    · exact cell_has hy
    · exact absurd rfl (S.nofree _ (PySem.mem_of_lookup hy))
  · exact Nat.le_of_lt (x.above y c (PySem.mem_of_lookup h))
  · have hi : i < vs.length := by
      unfold start at h2
      by_cases hi : i < vs.length
      · exact hi
      · rw [List.getElem?_append_right (by simpa using hi)] at h2
        rw [List.getElem?_replicate] at h2
        split at h2 <;> cases h2
    have ha : vs[i]? = some v := by
      unfold start at h2
      rw [List.getElem?_append_left (by simpa using hi), List.getElem?_map] at h2
      cases e : vs[i]? with
      | none => rw [e] at h2; cases h2
      | some a => rw [e] at h2; cases h2; rfl
    obtain ⟨u, hu, rv⟩ := r.get ha
    have hp : ps[i]? = some y := by
      rw [← S.pre, List.getElem?_take_of_lt (by omega)]; exact h1
    have ndP : ps.Nodup := by rw [← S.pre]; exact S.nd.sublist (List.take_sublist _ _)
    refine ⟨u, rv, ?_⟩
    rcases S.par y (List.mem_of_getElem? hp) with k | k
    · exact .inl ⟨k, bindL_get ndP hp hu k⟩
    · obtain ⟨c, e⟩ := cell_has (n := s.heap.objs.size + 1) k
      refine .inr ⟨.inl k, c, e, ?_⟩
      have q := x.cell y c e
      rw [bindC_get ndP hp hu (by show scope.names.lookup y ≠ _; rw [k]; decide)] at q
      exact q
  · exact e0.hok.fresh (Nat.le_of_lt (x.above y c (PySem.mem_of_lookup h)))
  · unfold start
    show _ = N.length
    rw [List.length_append, List.length_map, List.length_replicate]
    omega

/-- THE RULE: a def (or a method) of the text, by its body. The body's reading t is chosen for each entry; it is run at the parameters' values -/
theorem fn_of {CX : CXT} {P : Program} {w : World} {K : PySem.W.Frag} {mg : Str → Option Value} {base : Heap} {k : Nat} {f : Addr} {name qual : Str} {params : Arguments} {body : List Stmt} {scope : Scope} {dV kV doc pm cdv ct oc : Value} {an od : Option Addr}
    {osl : Array (Option Value)} {N ps : List Str} {sp : Sp} (lk : K.lookup f = some ⟨oc, od, .func (PySem.W.fnOf name qual params body scope dV kV doc pm an cdv ct), osl⟩) (hcd : PySem.W.codeIn K cdv qual = true) (S : FnScope N ps scope)
    (len : ∀ vs H Q E, sp vs H Q E → vs.length = ps.length)
    (hbody : ∀ (A : Around) (outer : List Env) (s : Shared) (H : Hp) (vs : List V) (Q : VK) (E : XK), Room k (A.deeper (envOfC qual scope s.heap.objs.size f cdv)) → sp vs H Q E →
      ∃ t, PSs (cxOf CX P w K mg base N qual scope f cdv A outer s H E) body t ∧ t { nx := fun _ H' => Q .non H', rt := Q } (start N vs) H) :
    FnOk P w K mg base CX (k + 1) f (PySem.W.fnOf name qual params body scope dV kV doc pm an cdv ct) ps sp := by
  refine ⟨len, fun A outer s H args us vs Q E hr e0 hb r hsp => ?_⟩
  have hl := len _ _ _ _ hsp
  have KX : K.In s.heap := e0.mod.kin.keeps fun b o e => (e0.bs b o e).1
  have lim : s.heap.NoLimit := e0.mod.nolimit.keeps fun b o e => (e0.bs b o e).1
  have hkind : ∀ y ∈ ps.zip us, scope.names.lookup y.1 = some .local ∨ (scope.names.lookup y.1 = some .cell ∧ ((cellsFrom (s.heap.objs.size + 1) scope.names []).lookup y.1).isSome = true) := fun ⟨n, v⟩ hy => by
    rcases S.par n (List.of_mem_zip hy).1 with q | q
    · exact .inl q
    · exact .inr ⟨q, PySem.W.cellsFrom_some _ _ _ (.inl q)⟩
  refine codeAny_call_function hr.depth (KX _ _ lk) rfl S.co S.gen rfl (PySem.W.codeRec_of KX hcd) (hb _ _ _ _ ?_)
  refine wpAny_newFunctionEnv_cells S.kind hkind fun env he s1 x => ?_
  subst he
  refine ⟨lim.keeps x.toInCall.keep, codeAny_func ?_⟩
  obtain ⟨t, ht, hq⟩ := hbody A outer s H vs Q E (hr.deeper _) hsp
  have I : Inv (cxOf CX P w K mg base N qual scope f cdv A outer s H E) [] (start N vs) H s1 := inv_start S hr.hd e0 hl r x
  refine wpAny_mono (ht [] s1 (start N vs) H _ I hq) (fun fl s' hs => ?_) fun e s' hs => hs
  have fin : ∀ {σ' : St} {H' : Hp} {v : V} {u : Value}, Inv (cxOf CX P w K mg base N qual scope f cdv A outer s H E) [] σ' H' s' → RelV v u → Q v H' → CE outer P w H s Q u s' :=
    fun {σ' H' v u} J rv q => ⟨v, H', J.os, J.bare, J.base, J.hok, rv, q⟩
  cases fl with
  | ret u =>
    obtain ⟨v, σ', H', J, rv, q⟩ := hs
    exact fin J rv q
  | next =>
    obtain ⟨σ', H', J, q⟩ := hs
    exact fin (v := V.non) (u := Value.none) J rfl q
  | brk =>
    obtain ⟨_, _, _, q⟩ := hs
    exact False.elim q
  | cont =>
    obtain ⟨_, _, _, q⟩ := hs
    exact False.elim q
end L2

namespace L2
open PySem PySem.Spec PyProof.Rows
section
variable {X : Cx} {x : Str} {p pos : Pos} {e : Expr} {es : List Expr} {t : TA} {id T : String} {r : List V → Hp → VK → Prop}

def tCB (r : List V → Hp → VK → Prop) (t : TA) : TE := fun σ H Q => t σ H fun vs H1 => r vs H1 Q
/-- f(e, ..), f a built-in function -/
theorem pe_callB (hc : CallR X (.builtin id) r) (hg : Gl X x) (hm : X.mg x = none) (hv : bootBuiltins x = some (.builtin id)) (ha : PA X (e :: es) t) (hn : x ≠ "__name__" := by decide) (hdb : (x == ("__debug__" : Str)) = false := by decide)
    (he : starEach (e :: es) X.env = (false, eval e X.env) :: starEach es X.env := by rfl) (hpl : (backTo pos (starEach es X.env)).any (·.1) = false := by rfl) : PE X (.Call (.Name x p) (e :: es) [] pos) (tCB r t) := by
  intro pins s σ H Q I h
  refine wpAny_Call_Name_kw (ld_blt I hg hm hv ?_ hn hdb)
  exact PyProof.Rows.callWith_builtin1 (thn (ha pos pins s σ H _ I h) fun us s1 ⟨vs, H1, I1, r1, q1⟩ => hc pins s1 σ H1 vs us Q I1 r1 q1) he hpl
/-- T(e, ..), T a built-in type -/
theorem pe_callTy (hc : CallR X (.type T) r) (hg : Gl X x) (hm : X.mg x = none) (hv : bootBuiltins x = some (.type T)) (ha : PA X (e :: es) t) (hn : x ≠ "__name__" := by decide) (hdb : (x == ("__debug__" : Str)) = false := by decide)
    (he : starEach (e :: es) X.env = (false, eval e X.env) :: starEach es X.env := by rfl) (hpl : (backTo pos (starEach es X.env)).any (·.1) = false := by rfl) : PE X (.Call (.Name x p) (e :: es) [] pos) (tCB r t) := by
  intro pins s σ H Q I h
  refine wpAny_Call_Name_kw (ld_blt I hg hm hv ?_ hn hdb)
  exact PyProof.Rows.callWith_type1 (thn (ha pos pins s σ H _ I h) fun us s1 ⟨vs, H1, I1, r1, q1⟩ => hc pins s1 σ H1 vs us Q I1 r1 q1) he hpl
/-- T() -/
theorem pe_callTy0 (hc : CallR X (.type T) r) (hg : Gl X x) (hm : X.mg x = none) (hv : bootBuiltins x = some (.type T)) (hn : x ≠ "__name__" := by decide) (hdb : (x == ("__debug__" : Str)) = false := by decide) :
    PE X (.Call (.Name x p) [] [] pos) (tCB r tNil) := by
  intro pins s σ H Q I h
  refine wpAny_Call_Name_kw (ld_blt I hg hm hv ?_ hn hdb)
  exact PyProof.Rows.callWith_type0 (hc pins s σ H [] [] Q I .nil h)
end
end L2

namespace HT
open PySem PyProof.Rows

/-- t < u of tuples of ints -/
def lexLt : List Int → List Int → Bool
  | [], [] => false
  | [], _ :: _ => true
  | _ :: _, [] => false
  | x :: xs, y :: ys => if x = y then lexLt xs ys else decide (x < y)
theorem lexLt_cons (x y : Int) (xs ys : List Int) : lexLt (x :: xs) (y :: ys) = if x = y then lexLt xs ys else decide (x < y) := rfl
theorem lexLt_nil_nil : lexLt [] [] = false := rfl
theorem lexLt_nil_cons (y : Int) (ys : List Int) : lexLt [] (y :: ys) = true := rfl
theorem lexLt_cons_nil (x : Int) (xs : List Int) : lexLt (x :: xs) [] = false := rfl

theorem eqAt_int (A : Around) (s : Shared) (a : Int) (t : Tok) (c : Int) (u : Tok) : ∃ e, SeqAt.EqAt A s (.int a t) (.int c u) e ∧ (e = true ↔ a = c) :=
  ⟨(a == c), SeqAt.EqAt.int_int a t c u, by simp⟩
theorem rcLt_int (A : Around) (s : Shared) (a : Int) (t : Tok) (c : Int) (u : Tok) (prog : Program) (w : World) (E : Value → Shared → Prop) (Q : Value → Shared → Prop) (h : Q (.bool (decide (a < c))) s) :
    wpAny (model prog w) A (richCompare .Lt (.int a t) (.int c u)) Q E s :=
  (PyProof.Rows.lt_int h : wpAny (model prog w) A (compareOp .Lt (.int a t) (.int c u)) Q E s)

section
open PySem.SeqAt
open PySem.AutoSeq1 (wpAny_loadPart')
open PySem.MeetsSeq PySem.MeetsSeq2 PySem.MeetsSeq3

theorem tuple_lt_ints (l b : Addr) (items items2 : Array Value) (n n2 : Nat) (dd dd2 : Option Addr) (sl sl2 : Array (Option Value)) (ns ms : List Int) (hi : IntsAre items.toList ns) (hj : IntsAre items2.toList ms) :
    Meets (Builtin.«tuple.__lt__» ⟨[.ref l, .ref b], []⟩)
      (fun _ R s => s.heap.get? l = some { cls := .type "tuple", dict := dd, data := .seq items n, slots := sl } ∧ s.heap.get? b = some { cls := .type "tuple", dict := dd2, data := .seq items2 n2, slots := sl2 } ∧
        R (.ok (.ret (.bool (lexLt ns ms)))) s) :=
  .of_wp fun prog w A R s h => by
    obtain ⟨hp, g, d, tk, os⟩ := s; obtain ⟨hl, hb, h⟩ := h
    have f2 := AutoSeq1.sub_tuple_tuple
    have z1 : items.size = ns.length := by rw [← hi.length]; simp
    have z2 : items2.size = ms.length := by rw [← hj.length]; simp
    wp_walk using wpAny_loadPart' hl, wpAny_loadPart' hb, wpAny_forIn_list _ (fun rest b s' => b.1 = none ∧ s' = ⟨hp, g, d, tk, os⟩ ∧ ∃ (vs ws : List Value) (ns' ms' : List Int), rest = vs.zip ws ∧
      IntsAre vs ns' ∧ IntsAre ws ms' ∧ ns'.length + items2.size = ms'.length + items.size ∧ R (.ok (.ret (.bool (lexLt ns' ms')))) ⟨hp, g, d, tk, os⟩) _
    case turn =>
      rintro ⟨y, x⟩ rest b s' ⟨hb', rfl, vs, ws, ns', ms', hz, hvi, hwi, hlen, hR⟩
      cases hvi with
      | nil => rw [List.zip_nil_left] at hz; cases hz
      | cons a t hvi' =>
        cases hwi with
        | nil => rw [List.zip_nil_right] at hz; cases hz
        | cons c u hwi' =>
          rw [List.zip_cons_cons] at hz
          injection hz with hyx hrest
          injection hyx with hy hx
          subst hy hx
          rw [lexLt_cons] at hR
          simp only [List.length_cons] at hlen
          obtain ⟨e, he, hiff⟩ := eqAt_int A.in1 ⟨hp, g, d, tk, os⟩ a t c u
          refine wpAny_bind (he prog w _ _ ?_)
          cases e with
          | true =>
            rw [if_pos (hiff.mp rfl)] at hR
            wp_walk
            exact ⟨rfl, rfl, _, _, _, _, hrest, hvi', hwi', by omega, hR⟩
          | false =>
            rw [if_neg (fun q => absurd (hiff.mpr q) Bool.false_ne_true)] at hR
            have hri := rcLt_int A.in1 ⟨hp, g, d, tk, os⟩ a t c u prog w
            wp_walk using hri
            exact ⟨_, rfl, by simpa using hR⟩
    case fin =>
      rintro ⟨b1, b2⟩ s' ⟨hb', rfl, vs, ws, ns', ms', hz, hvi, hwi, hlen, hR⟩
      simp only at hb'
      subst hb'
      have hv : lexLt ns' ms' = decide (items.size < items2.size) := by
        cases hvi with
        | nil =>
          cases hwi with
          | nil =>
            simp only [List.length_nil] at hlen
            rw [lexLt_nil_nil]
            exact (decide_eq_false (by omega)).symm
          | cons c u hw =>
            simp only [List.length_nil, List.length_cons] at hlen
            rw [lexLt_nil_cons]
            exact (decide_eq_true (by omega)).symm
        | cons a t hv =>
          cases hwi with
          | nil =>
            simp only [List.length_nil, List.length_cons] at hlen
            rw [lexLt_cons_nil]
            exact (decide_eq_false (by omega)).symm
          | cons c u hw =>
            rw [List.zip_cons_cons] at hz
            cases hz
      rw [hv] at hR
      wp_walk
      exact ⟨_, rfl, by simpa [Builtin.Tuple.tupleCompareSizes] using hR⟩
    case h =>
      exact ⟨rfl, rfl, items.toList, items2.toList, ns, ms, rfl, hi, hj, by omega, h⟩
end

section
variable {prog : Program} {w : World} {A : Around} {E : Value → Shared → Prop} {s : Shared}

theorem lt_tupInts {l b : Addr} {items items2 : Array Value} {ns ms : List Int} {Q : Value → Shared → Prop} (hl : IsTup s.heap l items) (hb : IsTup s.heap b items2) (hi : IntsAre items.toList ns) (hj : IntsAre items2.toList ms)
    (hu : A.units < cLine) (h : Q (.bool (lexLt ns ms)) s) : wpAny (model prog w) A (compareOp .Lt (.ref l) (.ref b)) Q E s := by
  obtain ⟨⟨cls, dd, data, sl⟩, ho, hc, n, hd⟩ := id hl
  obtain ⟨⟨cls2, dd2, data2, sl2⟩, ho2, hc2, n2, hd2⟩ := id hb
  simp only at hc hd hc2 hd2
  subst hc hd hc2 hd2
  exact richCompare_meets_room (op := .Lt) ⟨_, ho, rfl⟩ ⟨_, ho2, rfl⟩ PySem.F.slot_tuple_lt PySem.F.entry_tuple_lt (PySem.F.args_tuple_lt_2 _ _) (tuple_lt_ints l b items items2 n n2 dd dd2 sl sl2 ns ms hi hj)
    ⟨ho, ho2, show Value.bool (lexLt ns ms) ≠ Value.notImplemented ∧ Q (.bool (lexLt ns ms)) s from ⟨(fun x => nomatch x), h⟩⟩ hu

/-- t + u, t not empty -/
theorem cat_tup {t b : Addr} {vs ws : List Value} {Q : Value → Shared → Prop} (ht : IsTup s.heap t vs.toArray) (hb : IsTup s.heap b ws.toArray) (hv : vs ≠ [])
    (h1 : ws = [] → Q (.ref t) s) (h2 : ws ≠ [] → Q (.ref s.heap.objs.size) { s with heap := s.heap.push { cls := .type "tuple", data := .seq (vs ++ ws).toArray } })
    (hsz : vs.length + ws.length ≤ sizeLine) : wpAny (model prog w) A (binaryOp .Add (.ref t) (.ref b)) Q E s := by
  obtain ⟨⟨cls, dd, data, sl⟩, ho, hc, n, hd⟩ := id ht
  obtain ⟨⟨cls2, dd2, data2, sl2⟩, ho2, hc2, n2, hd2⟩ := id hb
  simp only at hc hd hc2 hd2
  subst hc hd hc2 hd2
  have e : vs.toArray ++ ws.toArray = (vs ++ ws).toArray := by simp
  by_cases hw : ws = []
  · exact concat_meets ⟨_, ho, rfl⟩ ⟨_, ho2, rfl⟩ noFill_tuple_add seq_tuple_add PySem.F.slot_tuple_add PySem.F.entry_tuple_add (PySem.F.args_tuple_add_2 _ _)
      (tuple_addW1 t b vs.toArray ws.toArray n n2 dd dd2 sl sl2 (by simpa using hv) (by simp [hw])) ⟨ho, ho2, h1 hw⟩
  · refine concat_meets ⟨_, ho, rfl⟩ ⟨_, ho2, rfl⟩ noFill_tuple_add seq_tuple_add PySem.F.slot_tuple_add PySem.F.entry_tuple_add (PySem.F.args_tuple_add_2 _ _)
      (tuple_addW2 t b vs.toArray ws.toArray n n2 dd dd2 sl sl2 (by simpa using hv) (by simpa using hw) (by rw [List.size_toArray, List.size_toArray]; exact hsz)) ⟨ho, ho2, ?_⟩
    rw [e]
    exact h2 hw

/-! ### t[a:b], not the whole -/
/-- a slice's bound as a place among n (d where it is left out) -/
def sIx (n d : Nat) : Option Int → Nat
  | none => d
  | some v => if v < 0 then (v + (n : Int)).toNat else min v.toNat n
theorem sIx_none (n d : Nat) : sIx n d none = d := rfl
theorem sIx_nat (n d k : Nat) : sIx n d (some (k : Int)) = min k n := by
  show (if (k : Int) < 0 then ((k : Int) + (n : Int)).toNat else min (k : Int).toNat n) = min k n
  rw [if_neg (by omega), Int.toNat_natCast]
theorem sIx_le (n d : Nat) (hd : d ≤ n) (o : Option Int) : sIx n d o ≤ n := by
  cases o with
  | none => exact hd
  | some v =>
    show (if v < 0 then (v + (n : Int)).toNat else min v.toNat n) ≤ n
    by_cases hv : v < 0
    · rw [if_pos hv]; omega
    · rw [if_neg hv]; exact Nat.min_le_right _ _
theorem clip_eq (v : Int) (n d : Nat) : (if v < 0 then max (v + (n : Int)) 0 else min v (n : Int)) = ((sIx n d (some v) : Nat) : Int) := by
  show (if v < 0 then max (v + (n : Int)) 0 else min v (n : Int)) = (((if v < 0 then (v + (n : Int)).toNat else min v.toNat n) : Nat) : Int)
  by_cases hv : v < 0
  · simp only [if_pos hv]; omega
  · simp only [if_neg hv]; omega
theorem adjust_gen (lo hi : Option Int) (n : Nat) : Builtin.Slice.sliceAdjust lo hi 1 (n : Int) = (((sIx n 0 lo : Nat) : Int), ((sIx n n hi : Nat) : Int)) := by
  have h1 : ¬ ((1 : Int) < 0) := by omega
  unfold Builtin.Slice.sliceAdjust
  simp only [h1, if_false]
  refine Prod.ext ?_ ?_
  · cases lo with
    | none => rfl
    | some v => exact clip_eq v n 0
  · cases hi with
    | none => rfl
    | some v => exact clip_eq v n n
theorem places_gen (i j : Nat) : Builtin.Slice.slicePlaces (i : Int) (j : Int) 1 = j - i := by
  unfold Builtin.Slice.slicePlaces
  have h1 : (1 : Int) > 0 := by omega
  simp only [h1, if_true, Int.ediv_one]
  split <;> omega
theorem slicePart_ {v : Value} {o : Option Int} {Q : Option Int → Shared → Prop} (p : IsPart v o) (h : Q o s) : wpAny (model prog w) A (Builtin.Slice.slicePartIndex v) Q E s := by
  cases p with
  | none => exact slicePart_none h
  | int i t => exact slicePart_int h
theorem sliceApplied_gen {sl : Addr} {vl vu : Value} {lo hi : Option Int} {n : Nat} {Q : Int × Int × Nat → Shared → Prop} (hs : s.heap.IsSliceOf sl vl vu .none) (pl : IsPart vl lo) (pu : IsPart vu hi)
    (h : Q (((sIx n 0 lo : Nat) : Int), 1, sIx n n hi - sIx n 0 lo) s) : wpAny (model prog w) A (Builtin.Slice.sliceApplied (.ref sl) (pure (n : Int))) Q E s := by
  obtain ⟨os, hos, hcs, hds⟩ := id hs
  unfold Builtin.Slice.sliceApplied Builtin.Slice.sliceFields
  refine wpAny_bind (wpAny_bind (wpAny_field hos hds (x := vl) rfl (wpAny_bind (wpAny_field hos hds (x := vu) rfl (wpAny_bind (wpAny_field hos hds (x := .none) rfl (wpAny_pure ?_)))))))
  refine wpAny_bind (slicePart_none ?_)
  show wpAny _ _ (if ((1 : Int) == 0) = true then _ else _) _ _ s
  rw [if_neg (by decide)]
  refine wpAny_bind (slicePart_ pl (wpAny_bind (slicePart_ pu (wpAny_bind (wpAny_pure ?_)))))
  show wpAny _ _ (match Builtin.Slice.sliceAdjust lo hi 1 (n : Int) with | (lo, hi) => pure (lo, (1 : Int), Builtin.Slice.slicePlaces lo hi 1)) _ _ s
  rw [adjust_gen lo hi n]
  show wpAny _ _ (pure (((sIx n 0 lo : Nat) : Int), (1 : Int), Builtin.Slice.slicePlaces ((sIx n 0 lo : Nat) : Int) ((sIx n n hi : Nat) : Int) 1)) _ _ s
  rw [places_gen]
  exact wpAny_pure h
theorem pick_gen (xs : Array Value) (i k : Nat) : ((List.range k).filterMap fun (m : Nat) => xs[((i : Int) + (m : Int) * 1).toNat]?).toArray = ((xs.toList.drop i).take k).toArray := by
  have e : (fun (m : Nat) => xs[((i : Int) + (m : Int) * 1).toNat]?) = fun m => xs[i + m]? := by
    funext m
    have : ((i : Int) + (m : Int) * 1).toNat = i + m := by omega
    rw [this]
  rw [e]
  have := pick_run xs i k
  rw [List.filterMap_map] at this
  have e2 : ((fun x => xs[x]?) ∘ fun x => i + x) = fun m => xs[i + m]? := rfl
  rw [e2] at this
  rw [this]

theorem getItem_tuple_cut {t sl : Addr} {items : Array Value} {vl vu : Value} {lo hi : Option Int} {Q : Value → Shared → Prop} (ht : IsTup s.heap t items) (hs : s.heap.IsSliceOf sl vl vu .none) (pl : IsPart vl lo) (pu : IsPart vu hi)
    (hw : ¬ (sIx items.size 0 lo = 0 ∧ sIx items.size items.size hi = items.size))
    (h : Q (.ref s.heap.objs.size) { s with heap := s.heap.push { cls := .type "tuple", data := .seq ((items.toList.drop (sIx items.size 0 lo)).take (sIx items.size items.size hi - sIx items.size 0 lo)).toArray } })
    (hsz : items.size ≤ sizeLine) : wpAny (model prog w) A (getItem (.ref t) (.ref sl)) Q E s := by
  have htake : sizeOk (.seq ((items.toList.drop (sIx items.size 0 lo)).take (sIx items.size items.size hi - sIx items.size 0 lo)).toArray) := by
    show ((items.toList.drop (sIx items.size 0 lo)).take (sIx items.size items.size hi - sIx items.size 0 lo)).toArray.size ≤ sizeLine
    rw [List.size_toArray, List.length_take, List.length_drop, Array.length_toList]
    omega
  have hj : sIx items.size items.size hi ≤ items.size := sIx_le _ _ (Nat.le_refl _) hi
  obtain ⟨os, hos, hcs, hds⟩ := id hs
  have hTs : s.TypeIs (.ref sl) "slice" := ⟨os, hos, hcs⟩
  unfold getItem
  try with_reducible refine wpAny_holding ?_
  first | refine wpAny_bind (wpAny_pure ?_) | skip
  refine wpAny_bind (wpAny_sequenceKey ht.typeIs (by decide) ?_)
  refine wpAny_bind (wpAny_callSpecial?_slot (name := Str.ofString "__getitem__") ht.typeIs PyProof.Rows.slot_tuple_getitem
    (wpAny_call_entry PyProof.Rows.slot_tuple_getitem ht.typeIs entry_tuple_getitem ?_ (args_tuple_getitem _ _)))
  show wpAny _ _ (Builtin.Tuple.tupleItemsOf (.ref t) >>= _) _ _ s
  refine wpAny_bind (tupleItemsOf_ ht ?_)
  refine wpAny_bind (wpAny_typeOf hTs ?_)
  rw [if_pos (by decide)]
  refine wpAny_bind (sliceApplied_gen hs pl pu ?_)
  have hno : ¬ ((((sIx items.size 0 lo : Nat) : Int) == 0 && (1 : Int) == 1 && (sIx items.size items.size hi - sIx items.size 0 lo) == items.size) = true) := by
    intro q
    rw [Bool.and_eq_true, Bool.and_eq_true] at q
    have q1 : ((sIx items.size 0 lo : Nat) : Int) = 0 := eq_of_beq q.1.1
    have q2 : sIx items.size items.size hi - sIx items.size 0 lo = items.size := eq_of_beq q.2
    exact hw ⟨by omega, by omega⟩
  show wpAny _ _ (if (((sIx items.size 0 lo : Nat) : Int) == 0 && (1 : Int) == 1 && (sIx items.size items.size hi - sIx items.size 0 lo) == items.size) = true then _ else _) _ _ s
  rw [if_neg hno, pick_gen]
  first
    | exact wpAny_bind (m := Builtin.Tuple.tupleExact _) (wpAny_newObj_type (wpAny_pure ⟨_, rfl, wpAny_pure h⟩) htake)
    | exact wpAny_bind (m := Builtin.Tuple.tupleExact _) (wpAny_newObj_type (wpAny_bind (wpAny_pure (wpAny_pure ⟨_, rfl, wpAny_pure h⟩))) htake)
    | exact wpAny_bind (wpAny_bind (m := Builtin.Tuple.tupleExact _) (wpAny_newObj_type (wpAny_pure (wpAny_pure ⟨_, rfl, wpAny_pure h⟩)) htake))
    | exact wpAny_bind (wpAny_bind (m := Builtin.Tuple.tupleExact _) (wpAny_newObj_type (wpAny_pure ⟨_, rfl, wpAny_pure h⟩) htake))
end
end HT

namespace L2
open PySem PySem.Spec PyProof.Rows

/-! ### the parts of a slice -/
abbrev TO := St → Hp → (Option Int → Hp → Prop) → Prop
/-- a slice's part (left out, or an int) -/
def PO (X : Cx) (e : Option Expr) (t : TO) : Prop :=
  ∀ (pins : List (Addr × Obj)) (s : Shared) (σ : St) (H : Hp) (Q : Option Int → Hp → Prop), Inv X pins σ H s → t σ H Q →
    wpAny (model X.prog X.w) X.A (evalPart e X.env) (fun u s' => ∃ o H', Inv X pins σ H' s' ∧ IsPart u o ∧ Q o H') X.xe s
def tNoPart : TO := fun _ H Q => Q none H
def tPart (t : TE) : TO := fun σ H Q => t σ H fun x H1 => ∃ i, x = .int i ∧ Q (some i) H1

theorem intsAre_of {ns : List Int} : ∀ {us : List Value}, Vals (ns.map V.int) us → IntsAre us ns := by
  induction ns with
  | nil => intro us r; rw [List.map_nil] at r; cases r; exact .nil
  | cons n ns ih =>
    intro us r
    rw [List.map_cons] at r
    cases r with
    | cons r1 r2 =>
      obtain ⟨t, e⟩ := r1
      subst e
      exact .cons n t (ih r2)

section
variable {X : Cx} {e : Expr} {te : TE} {lo hi : Option Expr} {tl th : TO} {pos p2 : Pos}

theorem po_none : PO X none tNoPart := by
  intro pins s σ H Q I h
  rw [evalPart_none]
  exact wpAny_pure ⟨none, H, I, .none, h⟩
theorem po_some (h : PE X e te) : PO X (some e) (tPart te) := by
  intro pins s σ H Q I hw
  rw [evalPart_some]
  refine thn (h pins s σ H _ I hw) fun u s1 ⟨x, H1, I1, r1, q1⟩ => ?_
  obtain ⟨i, rfl, q⟩ := q1
  obtain ⟨t, rfl⟩ := r1
  exact ⟨some i, H1, I1, .int i t, q⟩

/-- what a slice of a value is, by values: the slice object stands at sl -/
def SlR (X : Cx) (r : V → Option Int → Option Int → Hp → VK → Prop) : Prop :=
  ∀ (pins : List (Addr × Obj)) (s : Shared) (σ : St) (H : Hp) (x : V) (v vl vu : Value) (lo hi : Option Int) (sl : Addr) (Q : VK), Inv X pins σ H s → RelV x v → s.heap.IsSliceOf sl vl vu .none → IsPart vl lo → IsPart vu hi → r x lo hi H Q →
    ∃ T id, typeLookup (.type T) "__getitem__" = pure (some (.builtin id)) ∧ s.TypeIs v T ∧ wpAny (model X.prog X.w) X.A (getItem v (.ref sl)) (EP X pins σ Q) X.xe s
theorem SlR.or {r r' : V → Option Int → Option Int → Hp → VK → Prop} (h : SlR X r) (h' : SlR X r') : SlR X (fun x lo hi H Q => r x lo hi H Q ∨ r' x lo hi H Q) := by
  intro pins s σ H x v vl vu lo hi sl Q I rx hs pl pu q
  rcases q with q | q
  · exact h pins s σ H x v vl vu lo hi sl Q I rx hs pl pu q
  · exact h' pins s σ H x v vl vu lo hi sl Q I rx hs pl pu q
def tSl (r : V → Option Int → Option Int → Hp → VK → Prop) (te : TE) (tl th : TO) : TE := fun σ H Q => te σ H fun x H1 => tl σ H1 fun l H2 => th σ H2 fun u H3 => r x l u H3 Q
/-- a[lo:hi], any a -/
theorem pe_slice {r : V → Option Int → Option Int → Hp → VK → Prop} (hr : SlR X r) (he : PE X e te) (hl : PO X lo tl) (hu : PO X hi th) : PE X (.Subscript e (.Slice lo hi none p2) pos) (tSl r te tl th) := by
  intro pins s σ H Q I h
  refine Subscript_ (thn (he pins s σ H _ I h) fun v s1 ⟨x, H1, I1, r1, q1⟩ => ?_)
  refine wpAny_Slice (thn (hl pins s1 σ H1 _ I1 q1) fun vl s2 ⟨l, H2, I2, pl, q2⟩ => thn (hu pins s2 σ H2 _ I2 q2) fun vu s3 ⟨u, H3, I3, pu, q3⟩ => ?_)
  rw [evalPart_none]
  refine wpAny_pure ?_
  have I4 : Inv X pins σ H3 { s3 with heap := s3.heap.push { cls := .type "slice", data := .fields #[vl, vu, .none] } } := I3.kept (t' := s3.toks) fun b ob q => Heap.get?_push_of_some _ q
  obtain ⟨T, id, hT, ht, hg⟩ := hr pins { s3 with heap := s3.heap.push { cls := .type "slice", data := .fields #[vl, vu, .none] } } σ H3 x v vl vu l u s3.heap.objs.size Q I4 r1 (Heap.IsSliceOf.new ..) pl pu q3
  show wpAny (model X.prog X.w) X.A (subscriptTail e (.Slice lo hi none p2) v (.ref s3.heap.objs.size)) (EP X pins σ Q) X.xe { s3 with heap := s3.heap.push { cls := .type "slice", data := .fields #[vl, vu, .none] } }
  exact tail_any (ops := [.ref s3.heap.objs.size, v]) ht hT hg (by with_unfolding_all rfl)

/-- the items of xs[lo:hi] -/
def cutV (xs : List V) (lo hi : Option Int) : List V := (xs.drop (HT.sIx xs.length 0 lo)).take (HT.sIx xs.length xs.length hi - HT.sIx xs.length 0 lo)
theorem cutV_length (xs : List V) (lo hi : Option Int) : (cutV xs lo hi).length ≤ xs.length := by
  unfold cutV
  rw [List.length_take, List.length_drop]
  omega
/-- t[lo:hi], not the whole of it (the whole would be t itself) -/
def rSlT (K : PySem.W.Frag) : V → Option Int → Option Int → Hp → VK → Prop := fun x lo hi H Q => ∃ a xs, x = .ref a ∧ SqT K H a xs ∧
  ¬ (HT.sIx xs.length 0 lo = 0 ∧ HT.sIx xs.length xs.length hi = xs.length) ∧ ∀ p, H p = none → Q (.ref p) (upd H p (.tup (cutV xs lo hi)))
theorem sl_tup : SlR X (rSlT X.K) := by
  intro pins s σ H x v vl vu lo hi sl Q I rx hs pl pu h
  obtain ⟨a, xs, rfl, hx, hw, q⟩ := h
  cases rx
  obtain ⟨its, r, ht, hz⟩ := I.tuple hx
  have hlen : its.toArray.size = xs.length := by rw [List.size_toArray]; exact r.length.symm
  refine ⟨"tuple", _, PyProof.Rows.slot_tuple_getitem.lookup, ht.typeIs, ?_⟩
  refine HT.getItem_tuple_cut ht hs pl pu (by rw [hlen]; exact hw) ?_ (by rw [hlen]; exact hz)
  rw [hlen]
  refine ⟨.ref s.heap.objs.size, _, I.laid (t' := s.toks) (o := .tup (cutV xs lo hi)) (fun b ob q => Heap.get?_push_of_some _ q) (Nat.le_refl _) ?_, rfl, q _ (I.hok.fresh (Nat.le_refl _))⟩
  exact ⟨Nat.le_trans (cutV_length xs lo hi) hz, _, (r.drop (HT.sIx xs.length 0 lo)).take (HT.sIx xs.length xs.length hi - HT.sIx xs.length 0 lo), IsTup.new _ _⟩

/-! ### t < u, t + u -/
def rLtT (K : PySem.W.Frag) : R2 := fun x y H Q => ∃ a b ns ms, x = .ref a ∧ y = .ref b ∧ SqT K H a (ns.map V.int) ∧ SqT K H b (ms.map V.int) ∧ Q (.bl (HT.lexLt ns ms)) H
theorem op_ltT (hu : X.A.units < cLine) : OpR X (compareOp .Lt) (rLtT X.K) := by
  intro pins s σ H x y v u Q I rx ry h
  obtain ⟨a, b, ns, ms, rfl, rfl, ha, hb, q⟩ := h
  cases rx
  cases ry
  obtain ⟨its, r1, p1, _⟩ := I.tuple ha
  obtain ⟨its2, r2, p2, _⟩ := I.tuple hb
  have i1 : IntsAre its.toArray.toList ns := intsAre_of r1
  have i2 : IntsAre its2.toArray.toList ms := intsAre_of r2
  exact HT.lt_tupInts p1 p2 i1 i2 hu ⟨.bl (HT.lexLt ns ms), H, I, rfl, q⟩
/-- t + u, t not empty: u empty gives t itself -/
def rCatT (K : PySem.W.Frag) : R2 := fun x y H Q => ∃ a b xs ys, x = .ref a ∧ y = .ref b ∧ SqT K H a xs ∧ SqT K H b ys ∧ xs ≠ [] ∧ xs.length + ys.length ≤ sizeLine ∧
  (ys = [] → Q (.ref a) H) ∧ (ys ≠ [] → ∀ p, H p = none → Q (.ref p) (upd H p (.tup (xs ++ ys))))
theorem Vals.nil_iff {xs : List V} {us : List Value} (r : Vals xs us) : us = [] ↔ xs = [] := by
  cases r with
  | nil => simp
  | cons _ _ => simp
theorem op_catT : OpR X (binaryOp .Add) (rCatT X.K) := by
  intro pins s σ H x y v u Q I rx ry h
  obtain ⟨a, b, xs, ys, rfl, rfl, ha, hb, hx, hz, q1, q2⟩ := h
  cases rx
  cases ry
  obtain ⟨its, r1, p1, _⟩ := I.tuple ha
  obtain ⟨its2, r2, p2, _⟩ := I.tuple hb
  refine HT.cat_tup p1 p2 (fun z => hx (r1.nil_iff.mp z)) (fun z => ⟨.ref a, H, I, rfl, q1 (r2.nil_iff.mp z)⟩) (fun z => ?_) (by rw [← r1.length, ← r2.length]; exact hz)
  refine ⟨.ref s.heap.objs.size, _, I.laid (t' := s.toks) (o := .tup (xs ++ ys)) (fun b ob q => Heap.get?_push_of_some _ q) (Nat.le_refl _) ?_, rfl, q2 (fun w => z (r2.nil_iff.mpr w)) _ (I.hok.fresh (Nat.le_refl _))⟩
  exact ⟨by rw [List.length_append]; exact hz, _, r1.append r2, IsTup.new _ _⟩
/-- tuple(t) -/
theorem call_tupleT : CallR X (.type "tuple") (fun xs H Q => ∃ a ys, xs = [.ref a] ∧ SqT X.K H a ys ∧ Q (.ref a) H) := by
  intro pins s σ H xs us Q I r h
  obtain ⟨a, ys, rfl, ha, q⟩ := h
  obtain ⟨u, rfl, ru⟩ := vals1 r
  cases ru
  obtain ⟨its, _, p1, _⟩ := I.tuple ha
  exact call_tuple_same (items := its.toArray) p1 ⟨.ref a, H, I, rfl, q⟩
end
end L2

namespace L2
open PySem PySem.Spec PyProof.Rows

/-! ### places -/
/-- the place that an index of any sign means -/
def ixN (n : Nat) (i : Int) : Option Nat := if 0 ≤ i then (if i < n then some i.toNat else none) else if -(n : Int) ≤ i then some (i + n).toNat else none
def atI {α : Type} (xs : List α) (i : Int) : Option α := (ixN xs.length i).bind fun j => xs[j]?
theorem ixN_seq {n : Nat} {i : Int} {j : Nat} (h : ixN n i = some j) : seqIndex? i n = some j ∧ j < n ∧ -(n : Int) ≤ i ∧ i < n := by
  unfold ixN at h
  by_cases h0 : 0 ≤ i
  · rw [if_pos h0] at h
    by_cases h1 : i < n
    · rw [if_pos h1] at h
      have e : i.toNat = j := Option.some.inj h
      exact ⟨by rw [seqIndex_of h0 h1, e], by omega, by omega, h1⟩
    · rw [if_neg h1] at h; cases h
  · rw [if_neg h0] at h
    by_cases h1 : -(n : Int) ≤ i
    · rw [if_pos h1] at h
      have e : (i + n).toNat = j := Option.some.inj h
      exact ⟨by rw [seqIndex_neg (by omega) h1, e], by omega, h1, by omega⟩
    · rw [if_neg h1] at h; cases h
theorem atI_get {α : Type} {xs : List α} {i : Int} {v : α} (h : atI xs i = some v) : ∃ j, seqIndex? i xs.length = some j ∧ xs[j]? = some v ∧ j < xs.length ∧ -(xs.length : Int) ≤ i ∧ i < xs.length := by
  unfold atI at h
  cases e : ixN xs.length i with
  | none => rw [e] at h; cases h
  | some j =>
    rw [e] at h
    obtain ⟨h1, h2, h3, h4⟩ := ixN_seq e
    exact ⟨j, h1, h, h2, h3, h4⟩
theorem atI_nat {α : Type} {xs : List α} {j : Nat} {v : α} (h : xs[j]? = some v) : atI xs (j : Int) = some v := by
  have hj : j < xs.length := (List.getElem?_eq_some_iff.mp h).1
  have e : ixN xs.length (j : Int) = some j := by
    unfold ixN
    rw [if_pos (by omega), if_pos (by omega)]; simp
  unfold atI; rw [e]; exact h
theorem atI_last {α : Type} (xs : List α) (v : α) : atI (xs ++ [v]) (-1) = some v := by
  have hl : (xs ++ [v]).length = xs.length + 1 := by simp
  have e : ixN (xs ++ [v]).length (-1) = some xs.length := by
    unfold ixN
    rw [hl, if_neg (by decide), if_pos (by omega)]
    congr 1
    omega
  unfold atI
  rw [e]
  show (xs ++ [v])[xs.length]? = some v
  simp

/-! ### what may be subscripted -/
/-- what stands as an index of a plain subscript -/
def PlainIx (b : Expr) : Prop := ∀ o i, subscripted b false o i = operate [o, i] (getItem o i)
/-- a subscript by values -/
def IxR (X : Cx) (r : R2) : Prop :=
  ∀ (value slice : Expr) (pins : List (Addr × Obj)) (s : Shared) (σ : St) (H : Hp) (x y : V) (v u : Value) (Q : VK), Inv X pins σ H s → RelV x v → RelV y u → r x y H Q →
    subscripted slice false v u = operate [v, u] (getItem v u) → wpAny (model X.prog X.w) X.A (subscriptTail value slice v u) (EP X pins σ Q) X.xe s
/-- a call of a builtin's method by values: the receiver, the arguments -/
def MtR (X : Cx) (id : String) (r : V → List V → Hp → VK → Prop) : Prop :=
  ∀ (pins : List (Addr × Obj)) (s : Shared) (σ : St) (H : Hp) (x : V) (xs : List V) (v : Value) (us : List Value) (Q : VK), Inv X pins σ H s → RelV x v → Vals xs us → r x xs H Q →
    wpAny (model X.prog X.w) X.A (call (.builtin id) (v :: us)) (EP X pins σ Q) X.xe s
section
variable {X : Cx} {a b : Expr} {ta tb : TE} {pos : Pos}
theorem IxR.or {r r' : R2} (h : IxR X r) (h' : IxR X r') : IxR X (fun x y H Q => r x y H Q ∨ r' x y H Q) := by
  intro value slice pins s σ H x y v u Q I rx ry q hs
  rcases q with q | q
  · exact h value slice pins s σ H x y v u Q I rx ry q hs
  · exact h' value slice pins s σ H x y v u Q I rx ry q hs
theorem MtR.or {id : String} {r r' : V → List V → Hp → VK → Prop} (h : MtR X id r) (h' : MtR X id r') : MtR X id (fun x xs H Q => r x xs H Q ∨ r' x xs H Q) := by
  intro pins s σ H x xs v us Q I rx rs q
  rcases q with q | q
  · exact h pins s σ H x xs v us Q I rx rs q
  · exact h' pins s σ H x xs v us Q I rx rs q
/-- a[b] -/
theorem pe_ix {r : R2} (hr : IxR X r) (ha : PE X a ta) (hb : PE X b tb) (hs : PlainIx b) : PE X (.Subscript a b pos) (tOp r ta tb) := by
  intro pins s σ H Q I h
  exact Subscript_ (binT ha hb I h fun v u s2 x y H2 I2 rx ry q => hr a b pins s2 σ H2 x y v u Q I2 rx ry q (hs _ _))

def rIxL (K : PySem.W.Frag) : R2 := fun x y H Q => ∃ p xs i v, x = .ref p ∧ y = .int i ∧ SqL K H p xs ∧ atI xs i = some v ∧ Q v H
def rIxT (K : PySem.W.Frag) : R2 := fun x y H Q => ∃ p xs i v, x = .ref p ∧ y = .int i ∧ SqT K H p xs ∧ atI xs i = some v ∧ Q v H
def rIxS : R2 := fun x y H Q => ∃ z i c, x = .str z ∧ y = .int i ∧ z.length ≤ sizeLine ∧ atI z.cps.toList i = some c ∧ Q (.str ⟨#[c]⟩) H
theorem ix_list : IxR X (rIxL X.K) := by
  intro value slice pins s σ H x y v u Q I rx ry h hs
  obtain ⟨p, xs, i, z, rfl, rfl, hq, he, q⟩ := h
  cases rx
  obtain ⟨t, rfl⟩ := ry
  obtain ⟨its, r, pl, hz⟩ := I.list hq
  obtain ⟨j, h1, h2, h3, h4, h5⟩ := atI_get he
  obtain ⟨w, ew, rw'⟩ := r.get h2
  have hl := r.length
  have hn := line63
  have fin : EP X pins σ Q w s := ⟨z, H, I, rw', q⟩
  by_cases h0 : 0 ≤ i
  · have hj : i.toNat = j := by
      rw [seqIndex_of h0 h5] at h1
      exact Option.some.inj h1
    exact item_listR pl.isList h0 (by omega) (by rw [hj]; simpa using ew) fin hs
  · have hj : (i + (its.toArray.size : Int)).toNat = j := by
      rw [seqIndex_neg (by omega) h4] at h1
      rw [List.size_toArray, ← hl]
      exact Option.some.inj h1
    exact subscriptTail_builtinR (x := w) pl.isList.typeIs slot_list_getitem.lookup
      (wpAny_getItem_list_neg (Q := fun r s' => r = w ∧ EP X pins σ Q r s') pl.isList (by omega) (by rw [List.size_toArray] <;> omega) (by omega) (by rw [hj]; simpa using ew) ⟨rfl, fin⟩) hs
theorem ix_tup : IxR X (rIxT X.K) := by
  intro value slice pins s σ H x y v u Q I rx ry h hs
  obtain ⟨p, xs, i, z, rfl, rfl, hq, he, q⟩ := h
  cases rx
  obtain ⟨t, rfl⟩ := ry
  obtain ⟨its, r, pl, hz⟩ := I.tuple hq
  obtain ⟨j, h1, h2, h3, h4, h5⟩ := atI_get he
  obtain ⟨w, ew, rw'⟩ := r.get h2
  have hl := r.length
  have hn := line63
  have fin : EP X pins σ Q w s := ⟨z, H, I, rw', q⟩
  exact subscriptTail_builtinR (x := w) pl.typeIs slot_tuple_getitem.lookup
    (getItem_tuple (j := j) (Q := fun r s' => r = w ∧ EP X pins σ Q r s') pl (by omega) (by omega) (by rw [List.size_toArray, ← hl]; exact h1) (by simpa using ew) ⟨rfl, fin⟩) hs
theorem ix_str : IxR X rIxS := by
  intro value slice pins s σ H x y v u Q I rx ry h hs
  obtain ⟨z, i, c, rfl, rfl, hz, he, q⟩ := h
  obtain ⟨t, rfl⟩ := rx
  obtain ⟨t', rfl⟩ := ry
  obtain ⟨j, h1, h2, h3, h4, h5⟩ := atI_get he
  have hl : z.cps.toList.length = z.length := by simp [Str.length]
  rw [hl] at h1 h4 h5
  have hn := line63
  exact tail_any (typeIs_str s z t) slot_str_getitem.lookup (getItem_str (c := c) (by
    have e1 : decide (i < -(2 ^ 63 : Int)) = false := decide_eq_false (by omega)
    have e2 : decide (i ≥ 2 ^ 63) = false := decide_eq_false (by omega)
    rw [e1, e2, Bool.or_false]) (by rw [h1]; simpa using h2) ⟨.str ⟨#[c]⟩, H, I.tok _, ⟨_, rfl⟩, q⟩) hs
/-- list, tuple or str -/
def rIx (K : PySem.W.Frag) : R2 := fun x y H Q => rIxL K x y H Q ∨ rIxT K x y H Q ∨ rIxS x y H Q
theorem ix_seq : IxR X (rIx X.K) := ix_list.or (ix_tup.or ix_str)

/-! ### xs[i] = v, any sign -/
/-- the list's object behind a store -/
theorem mapSeq_set (its : List Value) (n j : Nat) (u : Value) : Obj.mapSeq (·.setIfInBounds j u) { cls := .type "list", data := .seq its.toArray n } = { cls := .type "list", data := .seq (its.set j u).toArray n } := by
  simp [Obj.mapSeq]
theorem Inv.lst {pins : List (Addr × Obj)} {σ : St} {H : Hp} {s : Shared} {p : Addr} {xs : List V} (I : Inv X pins σ H s) (h : H p = some (.lst xs)) :
    ∃ (its : List Value) (n : Nat), Vals xs its ∧ s.heap.get? p = some { cls := .type "list", data := .seq its.toArray n } ∧ xs.length ≤ sizeLine := by
  obtain ⟨z, its, n, r, e⟩ := I.hok p _ h
  exact ⟨its, n, r, e, z⟩
/-- the list at p is written by an update of its object -/
theorem Inv.lstUpd {pins : List (Addr × Obj)} {σ : St} {H : Hp} {s : Shared} {p : Addr} {xs ys : List V} {its its' : List Value} {n n' : Nat} {f : Obj → Obj} (I : Inv X pins σ H s) (h : H p = some (.lst xs))
    (ho : s.heap.get? p = some { cls := .type "list", data := .seq its.toArray n }) (hf : f { cls := .type "list", data := .seq its.toArray n } = { cls := .type "list", data := .seq its'.toArray n' }) (r : Vals ys its') (hz : ys.length ≤ sizeLine) (t : Nat) :
    Inv X pins σ (upd H p (.lst ys)) { s with heap := s.heap.update p f, toks := t } := by
  have e : (s.heap.update p f).get? p = some { cls := .type "list", data := .seq its'.toArray n' } := by
    rw [Heap.get?_update_self f ho (by rw [hf] <;> rfl), hf]
  refine I.write (x := p) (e := p) (by rw [h]; trivial) (.inl rfl) (fun b u hb q => (Heap.get?_update_other _ _ (Ne.symm hb)).trans q) ⟨_, e⟩ ?_
  exact ⟨hz, its', n', r, e⟩
def rSetL : V → V → V → Hp → (Hp → Prop) → Prop := fun o i v H Q => ∃ p xs k j, o = .ref p ∧ i = .int k ∧ H p = some (.lst xs) ∧ ixN xs.length k = some j ∧ Q (upd H p (.lst (xs.set j v)))
theorem set_list : PSet X rSetL := by
  intro pins s σ H o i v ov iv u Q I ro ri rv h
  obtain ⟨p, xs, k, j, rfl, rfl, hp, hj, q⟩ := h
  cases ro
  obtain ⟨t, rfl⟩ := ri
  obtain ⟨its, n, r, ho, hz⟩ := I.lst hp
  obtain ⟨h1, h2, h3, h4⟩ := ixN_seq hj
  have hl := r.length
  have hn := line63
  have I' : Inv X pins σ (upd H p (.lst (xs.set j v))) { s with heap := s.heap.update p (Obj.mapSeq (·.setIfInBounds j u)) } :=
    I.lstUpd hp ho (mapSeq_set its n j u) (r.set rv j) (by rw [List.length_set]; exact hz) s.toks
  by_cases h0 : 0 ≤ k
  · have hk : k.toNat = j := by
      rw [seqIndex_of h0 h4] at h1
      exact Option.some.inj h1
    exact PySem.W.ki_setAt ho h0 (by omega) (by rw [List.size_toArray, ← hl]; exact h4) (by rw [hk]; exact ⟨_, I', q⟩)
  · have hk : (k + (its.toArray.size : Int)).toNat = j := by
      rw [seqIndex_neg (by omega) h3] at h1
      rw [List.size_toArray, ← hl]
      exact Option.some.inj h1
    exact PySem.W.ki_setBack ho (by omega) (by rw [List.size_toArray, ← hl]; exact h3) (by omega) (by rw [hk]; exact ⟨_, I', q⟩)

/-! ### slices -/
theorem slice_bounds (lo hi : Option Int) (n : Nat) : (sliceBounds lo hi none n).1 = ((HT.sIx n 0 lo : Nat) : Int) ∧ (sliceBounds lo hi none n).2.1 = ((HT.sIx n n hi : Nat) : Int) ∧ (sliceBounds lo hi none n).2.2 = 1 := by
  refine ⟨?_, ?_, rfl⟩
  · cases lo with
    | none => simp [sliceBounds, HT.sIx]
    | some i =>
      simp only [sliceBounds, HT.sIx, Option.getD_none, show (1 : Int) > 0 by decide, if_true]
      by_cases h : i < 0
      · simp only [h, if_true] <;> omega
      · simp only [h, if_false] <;> omega
  · cases hi with
    | none => simp [sliceBounds, HT.sIx]
    | some i =>
      simp only [sliceBounds, HT.sIx, Option.getD_none, show (1 : Int) > 0 by decide, if_true]
      by_cases h : i < 0
      · simp only [h, if_true] <;> omega
      · simp only [h, if_false] <;> omega
theorem slicePick_cut (its : List Value) (lo hi : Option Int) : slicePick its.toArray lo hi none = ((its.drop (HT.sIx its.length 0 lo)).take (HT.sIx its.length its.length hi - HT.sIx its.length 0 lo)).toArray := by
  obtain ⟨h1, h2, h3⟩ := slice_bounds lo hi its.toArray.size
  unfold slicePick
  rw [h1, h2, h3]
  simp only [sliceRange_one, pick_run, List.size_toArray] <;> rfl
/-- xs[lo:hi] of a list: a new list -/
def rSlL (K : PySem.W.Frag) : V → Option Int → Option Int → Hp → VK → Prop := fun x lo hi H Q => ∃ a xs, x = .ref a ∧ SqL K H a xs ∧ ∀ p, H p = none → Q (.ref p) (upd H p (.lst (cutV xs lo hi)))
theorem sl_list : SlR X (rSlL X.K) := by
  intro pins s σ H x v vl vu lo hi sl Q I rx hs pl pu h
  obtain ⟨a, xs, rfl, hx, q⟩ := h
  cases rx
  obtain ⟨its, r, ht, hz⟩ := I.list hx
  have hlen := r.length
  refine ⟨"list", _, slot_list_getitem.lookup, ht.isList.typeIs, ?_⟩
  refine wpAny_getItem_list_slice ht.isList hs pl pu .none (by simp) ?_ (by rw [List.size_toArray] <;> omega)
  rw [slicePick_cut, ← hlen]
  refine ⟨.ref s.heap.objs.size, _, I.laid (t' := s.toks) (o := .lst (cutV xs lo hi)) (fun b ob q => Heap.get?_push_of_some _ q) (Nat.le_refl _) ?_, rfl, q _ (I.hok.fresh (Nat.le_refl _))⟩
  exact ⟨Nat.le_trans (cutV_length xs lo hi) hz, _, 0, (r.drop (HT.sIx xs.length 0 lo)).take (HT.sIx xs.length xs.length hi - HT.sIx xs.length 0 lo), Heap.get?_push_size _ rfl⟩

/-! ### in, not in: flat items -/
def flatV : V → Bool
  | .non => true
  | .bl _ => true
  | .int _ => true
  | .str _ => true
  | _ => false
/-- == of flat values -/
def eqV : V → V → Bool
  | .non, .non => true
  | .bl a, .bl b => a == b
  | .bl a, .int b => (if a then 1 else 0) == b
  | .int a, .bl b => a == (if b then 1 else 0)
  | .int a, .int b => a == b
  | .str a, .str b => a == b
  | _, _ => false
theorem eqAt_V {A : Around} {s : Shared} {y x : V} {u v : Value} (ry : RelV y u) (rx : RelV x v) (fy : flatV y = true) (fx : flatV x = true) : SeqAt.EqAt A s u v (eqV y x) := by
  cases y with
  | non =>
    cases ry
    cases x with
    | non => cases rx; exact SeqAt.EqAt.same _
    | bl b => cases rx; exact SeqAt.EqAt.none_bool b
    | int b => obtain ⟨t, rfl⟩ := rx; exact SeqAt.EqAt.none_int b t
    | str b => obtain ⟨t, rfl⟩ := rx; exact SeqAt.EqAt.none_str b t
    | _ => exact absurd (show false = true from fx) Bool.false_ne_true
  | bl a =>
    cases ry
    cases x with
    | non => cases rx; exact SeqAt.EqAt.bool_none a
    | bl b => cases rx; exact SeqAt.EqAt.bool_bool a b
    | int b => obtain ⟨t, rfl⟩ := rx; exact SeqAt.EqAt.bool_int a b t
    | str b => obtain ⟨t, rfl⟩ := rx; exact SeqAt.EqAt.bool_str a b t
    | _ => exact absurd (show false = true from fx) Bool.false_ne_true
  | int a =>
    obtain ⟨t', rfl⟩ := ry
    cases x with
    | non => cases rx; exact SeqAt.EqAt.int_none a t'
    | bl b => cases rx; exact SeqAt.EqAt.int_bool a t' b
    | int b => obtain ⟨t, rfl⟩ := rx; exact SeqAt.EqAt.int_int a t' b t
    | str b => obtain ⟨t, rfl⟩ := rx; exact SeqAt.EqAt.int_str a t' b t
    | _ => exact absurd (show false = true from fx) Bool.false_ne_true
  | str a =>
    obtain ⟨t', rfl⟩ := ry
    cases x with
    | non => cases rx; exact SeqAt.EqAt.str_none a t'
    | bl b => cases rx; exact SeqAt.EqAt.str_bool a t' b
    | int b => obtain ⟨t, rfl⟩ := rx; exact SeqAt.EqAt.str_int a t' b t
    | str b => obtain ⟨t, rfl⟩ := rx; exact SeqAt.EqAt.str_str a t' b t
    | _ => exact absurd (show false = true from fx) Bool.false_ne_true
  | _ => exact absurd (show false = true from fy) Bool.false_ne_true
/-- the items' answers, read off the values (a value's own answer does not lean on its token) -/
def eqU (x : V) (u : Value) : Bool := match u with
  | .none => eqV .non x
  | .bool b => eqV (.bl b) x
  | .int i _ => eqV (.int i) x
  | .str z _ => eqV (.str z) x
  | _ => false
theorem eqU_of {x y : V} {u : Value} (r : RelV y u) (f : flatV y = true) : eqU x u = eqV y x := by
  cases y with
  | non => cases r; rfl
  | bl b => cases r; rfl
  | int i => obtain ⟨t, rfl⟩ := r; rfl
  | str z => obtain ⟨t, rfl⟩ := r; rfl
  | _ => exact absurd (show false = true from f) Bool.false_ne_true
theorem any_eqU {x : V} : ∀ {xs : List V} {us : List Value}, Vals xs us → xs.all flatV = true → us.any (eqU x) = xs.any fun y => eqV y x
  | _, _, .nil, _ => rfl
  | y :: xs, u :: us, .cons r t, f => by
    rw [List.all_cons, Bool.and_eq_true] at f
    rw [List.any_cons, List.any_cons, eqU_of r f.1, any_eqU t f.2]
theorem mem_eqAt {A : Around} {s : Shared} {x : V} {v : Value} (rx : RelV x v) (fx : flatV x = true) : ∀ {xs : List V} {us : List Value}, Vals xs us → xs.all flatV = true → ∀ u ∈ us, SeqAt.EqAt A s u v (eqU x u)
  | _, _, .nil, _ => fun u hu => by cases hu
  | y :: xs, u :: us, .cons r t, f => fun u' hu => by
    rw [List.all_cons, Bool.and_eq_true] at f
    rcases List.mem_cons.mp hu with rfl | hu
    · rw [eqU_of r f.1]; exact eqAt_V r rx f.1 fx
    · exact mem_eqAt rx fx t f.2 u' hu
def inV (x : V) (xs : List V) : Bool := xs.any fun y => eqV y x
/-- x in a list or tuple of flat items -/
def rIn (K : PySem.W.Frag) (neg : Bool) : R2 := fun x y H Q => ∃ p xs, y = .ref p ∧ (SqL K H p xs ∨ SqT K H p xs) ∧ flatV x = true ∧ xs.all flatV = true ∧ Q (.bl (if neg then !inV x xs else inV x xs)) H
theorem op_in_seq : OpR X (compareOp .In) (rIn X.K false) := by
  intro pins s σ H x y v u Q I rx ry h
  obtain ⟨p, xs, rfl, hq, fx, fs, q⟩ := h
  cases ry
  rcases hq with hq | hq
  · obtain ⟨its, r, pl, hz⟩ := I.list hq
    refine SeqAt.in_listAt (eqU x) pl.isList (fun w hw => mem_eqAt rx fx r fs w (by simpa using hw)) ⟨.bl _, H, I, rfl, ?_⟩
    rw [show its.toArray.any (eqU x) = its.any (eqU x) by simp, any_eqU r fs]
    exact q
  · obtain ⟨its, r, pl, hz⟩ := I.tuple hq
    refine SeqAt.in_tupleAt (eqU x) pl (fun w hw => mem_eqAt rx fx r fs w (by simpa using hw)) ⟨.bl _, H, I, rfl, ?_⟩
    rw [show its.toArray.any (eqU x) = its.any (eqU x) by simp, any_eqU r fs]
    exact q
theorem op_notIn_seq : OpR X (compareOp .NotIn) (rIn X.K true) := by
  intro pins s σ H x y v u Q I rx ry h
  obtain ⟨p, xs, rfl, hq, fx, fs, q⟩ := h
  cases ry
  rcases hq with hq | hq
  · obtain ⟨its, r, pl, hz⟩ := I.list hq
    refine SeqAt.notIn_listAt (eqU x) pl.isList (fun w hw => mem_eqAt rx fx r fs w (by simpa using hw)) ⟨.bl _, H, I, rfl, ?_⟩
    rw [show its.toArray.any (eqU x) = its.any (eqU x) by simp, any_eqU r fs]
    exact q
  · obtain ⟨its, r, pl, hz⟩ := I.tuple hq
    refine SeqAt.notIn_tupleAt (eqU x) pl (fun w hw => mem_eqAt rx fx r fs w (by simpa using hw)) ⟨.bl _, H, I, rfl, ?_⟩
    rw [show its.toArray.any (eqU x) = its.any (eqU x) by simp, any_eqU r fs]
    exact q
theorem op_notIn_str : OpR X (compareOp .NotIn) (fun x y H Q => ∃ i j, x = .str i ∧ y = .str j ∧ Q (.bl (!(!(Builtin.Str.occurrences j i 0 j.length 1).isEmpty))) H) := by
  intro pins s σ H x y v u Q I rx ry h
  obtain ⟨i, j, rfl, rfl, q⟩ := h
  obtain ⟨t, rfl⟩ := rx
  obtain ⟨t', rfl⟩ := ry
  exact notIn_str ⟨.bl _, H, I, rfl, q⟩

/-! ### len, list(x), tuple(x) of any list or tuple that is read -/
theorem call_len_seq : CallR X (.builtin "len") (fun xs H Q => ∃ p ys, xs = [.ref p] ∧ (SqL X.K H p ys ∨ SqT X.K H p ys) ∧ Q (.int ys.length) H) := by
  intro pins s σ H xs us Q I r h
  obtain ⟨p, ys, rfl, hq, q⟩ := h
  obtain ⟨u, rfl, rx⟩ := vals1 r
  cases rx
  have hn := line63
  rcases hq with hq | hq
  · obtain ⟨its, r', pl, hz⟩ := I.list hq
    have hlen := r'.length
    exact Calls.call_len_list pl.isList (by simp only [List.size_toArray] <;> omega) ⟨.int ys.length, H, I.tok _, ⟨s.toks + 1, by rw [List.size_toArray, hlen]⟩, q⟩
  · obtain ⟨its, r', pl, hz⟩ := I.tuple hq
    have hlen := r'.length
    exact len_tuple pl (by simp only [List.size_toArray] <;> omega) ⟨.int ys.length, H, I.tok _, ⟨s.toks + 1, by rw [List.size_toArray, hlen]⟩, q⟩
theorem call_len_str : CallR X (.builtin "len") (fun xs H Q => ∃ z, xs = [.str z] ∧ z.length ≤ sizeLine ∧ Q (.int z.length) H) := by
  intro pins s σ H xs us Q I r h
  obtain ⟨z, rfl, hz, q⟩ := h
  obtain ⟨u, rfl, t, rfl⟩ := vals1 r
  have hn := line63
  exact len_str (by omega) ⟨.int z.length, H, I.tok _, ⟨_, rfl⟩, q⟩
theorem CallR.or {f : Value} {r r' : List V → Hp → VK → Prop} (h : CallR X f r) (h' : CallR X f r') : CallR X f (fun xs H Q => r xs H Q ∨ r' xs H Q) := by
  intro pins s σ H xs us Q I rs q
  rcases q with q | q
  · exact h pins s σ H xs us Q I rs q
  · exact h' pins s σ H xs us Q I rs q
theorem call_list_of : CallR X (.type "list") (fun xs H Q => ∃ p ys, xs = [.ref p] ∧ (SqL X.K H p ys ∨ SqT X.K H p ys) ∧ ∀ l, H l = none → Q (.ref l) (upd H l (.lst ys))) := by
  intro pins s σ H xs us Q I r h
  obtain ⟨p, ys, rfl, hq, q⟩ := h
  obtain ⟨u, rfl, rx⟩ := vals1 r
  cases rx
  have fin : ∀ (its : List Value), Vals ys its → ys.length ≤ sizeLine → ∀ (h' : Heap) (c' : Nat), (∀ b o', s.heap.get? b = some o' → h'.get? b = some o') →
      h'.get? s.heap.objs.size = some { cls := .type "list", dict := none, data := .seq its.toArray c', slots := #[] } → EP X pins σ Q (.ref s.heap.objs.size) { s with heap := h' } := fun its r' hz h' c' kp e =>
    ⟨.ref s.heap.objs.size, _, I.laid (t' := s.toks) kp (Nat.le_refl _) (show ObjOk X.prog X.w _ h' _ (.lst ys) from ⟨hz, its, c', r', e⟩), rfl, q _ (I.hok.fresh (Nat.le_refl _))⟩
  rcases hq with hq | hq
  · obtain ⟨its, r', pl, hz⟩ := I.list hq
    have hlen := r'.length
    obtain ⟨o, ho, hc, n, hd⟩ := pl.isList
    exact call_list_seq p (.inl rfl) ho hc hd (fun h' c' kp e => fin its r' hz h' c' kp e) (by simp only [List.size_toArray] <;> omega)
  · obtain ⟨its, r', pl, hz⟩ := I.tuple hq
    have hlen := r'.length
    obtain ⟨o, ho, hc, n, hd⟩ := pl
    exact call_list_seq p (.inr rfl) ho hc hd (fun h' c' kp e => fin its r' hz h' c' kp e) (by simp only [List.size_toArray] <;> omega)
theorem call_tuple_of : CallR X (.type "tuple") (fun xs H Q => ∃ p ys, xs = [.ref p] ∧ ((SqL X.K H p ys ∧ ∀ l, H l = none → Q (.ref l) (upd H l (.tup ys))) ∨ (SqT X.K H p ys ∧ Q (.ref p) H))) := by
  intro pins s σ H xs us Q I r h
  obtain ⟨p, ys, rfl, h⟩ := h
  obtain ⟨u, rfl, rx⟩ := vals1 r
  cases rx
  rcases h with ⟨hq, q⟩ | ⟨hq, q⟩
  · obtain ⟨its, r', pl, hz⟩ := I.list hq
    have hlen := r'.length
    refine call_tuple_list pl.isList (fun h' kp => ?_) (by simp only [List.size_toArray] <;> omega)
    have I1 : Inv X pins σ H { s with heap := h' } := I.kept (t' := s.toks) kp
    have I2 : Inv X pins σ (upd H h'.objs.size (.tup ys)) { s with heap := h'.push { cls := .type "tuple", data := .seq its.toArray } } :=
      I1.laid (t' := s.toks) (fun b o e => Heap.get?_push_of_some _ e) (Nat.le_refl _) (show ObjOk X.prog X.w _ _ _ (.tup ys) from ⟨hz, its, r', IsTup.new _ _⟩)
    exact ⟨.ref h'.objs.size, _, I2, rfl, q _ (I1.hok.fresh (Nat.le_refl _))⟩
  · obtain ⟨its, r', pl, hz⟩ := I.tuple hq
    exact call_tuple_same pl ⟨.ref p, H, I, rfl, q⟩

/-! ### the call of a builtin's method: o.m(..) -/
/-- the value is of that builtin type -/
def tyV (K : PySem.W.Frag) (T : String) (x : V) (H : Hp) : Prop := match x with
  | .str _ => T = "str"
  | .int _ => T = "int"
  | .ref p => (T = "list" ∧ ∃ xs, SqL K H p xs) ∨ (T = "tuple" ∧ ∃ o, K.lookup p = some o ∧ o.cls = .type "tuple" ∧ o.dict = none) ∨
      (T = "dict" ∧ ((∃ kvs, H p = some (.dK kvs)) ∨ ∃ kvs, H p = some (.dT kvs))) ∨ (T = "set" ∧ ∃ S n, H p = some (.set S n))
  | _ => False
theorem tyV_is {pins : List (Addr × Obj)} {σ : St} {H : Hp} {s : Shared} {T : String} {x : V} {v : Value} (I : Inv X pins σ H s) (r : RelV x v) (ty : tyV X.K T x H) :
    s.TypeIs v T ∧ ∀ a, v = .ref a → ∃ ob, s.heap.get? a = some ob ∧ ob.dict = none := by
  cases x with
  | str z =>
    obtain ⟨t, rfl⟩ := r
    cases (show T = "str" from ty)
    exact ⟨typeIs_str s z t, fun _ e => nomatch e⟩
  | int i =>
    obtain ⟨t, rfl⟩ := r
    cases (show T = "int" from ty)
    exact ⟨typeIs_int s i t, fun _ e => nomatch e⟩
  | ref p =>
    cases r
    rcases ty with ⟨rfl, xs, hq⟩ | ⟨rfl, o, hk, hc, hd⟩ | ⟨rfl, hk⟩ | ⟨rfl, S, n, hk⟩
    · obtain ⟨its, _, pl, _⟩ := I.list hq
      refine ⟨pl.isList.typeIs, fun a e => ?_⟩
      cases e
      obtain ⟨o, n, e, c, hd, _⟩ := pl
      exact ⟨o, e, hd⟩
    · refine ⟨⟨o, I.kIn p o hk, hc⟩, fun a e => ?_⟩
      cases e
      exact ⟨o, I.kIn _ o hk, hd⟩
    · have z : ∃ o, s.heap.get? p = some o ∧ o.ExactDict := by
        rcases hk with ⟨kvs, hk⟩ | ⟨kvs, hk⟩
        · obtain ⟨_, _, _, _, o, _, _, e, ex, _⟩ := I.hok p _ hk
          exact ⟨o, e, ex⟩
        · obtain ⟨_, _, _, _, o, _, _, e, ex, _⟩ := I.hok p _ hk
          exact ⟨o, e, ex⟩
      obtain ⟨o, e, ex⟩ := z
      refine ⟨⟨o, e, ex.1⟩, fun a e2 => ?_⟩
      cases e2
      exact ⟨o, e, ex.2.1⟩
    · obtain ⟨o, _, _, _, e, ex, _⟩ := I.hok p _ hk
      refine ⟨⟨o, e, ex.1⟩, fun a e2 => ?_⟩
      cases e2
      exact ⟨o, e, ex.2.1⟩
  | _ => exact False.elim ty
def tBM0 (K : PySem.W.Frag) (T : String) (r : V → List V → Hp → VK → Prop) (to : TE) : TE := fun σ H Q => to σ H fun x H1 => tyV K T x H1 ∧ r x [] H1 Q
def tBM (K : PySem.W.Frag) (T : String) (r : V → List V → Hp → VK → Prop) (to : TE) (t : TA) : TE := fun σ H Q => to σ H fun x H1 => tyV K T x H1 ∧ t σ H1 fun xs H2 => r x xs H2 Q
variable {o e : Expr} {es : List Expr} {to : TE} {t : TA} {name : Str} {apos cpos : Pos} {T id : String} {r : V → List V → Hp → VK → Prop}
theorem pe_bm0 (pa : PlainAttrs T) (slot : Slot T name id) (hty : typeOf (.builtin id) = pure (.type "method_descriptor")) (hm : MtR X id r) (ho : PE X o to)
    (hbase : attributeBase o name X.env (eval o X.env) = eval o X.env := by rfl) (hline : (apos.endLine == cpos.line) = true := by rfl) : PE X (.Call (.Attribute o name apos) [] [] cpos) (tBM0 X.K T r to) := by
  intro pins s σ H Q I h
  refine wpAny_Call_method0_late hbase hline (thn (ho pins s σ H _ I h) fun v s1 ⟨x, H1, I1, r1, ty, q1⟩ => ?_)
  obtain ⟨h1, h2⟩ := tyV_is I1 r1 ty
  exact ⟨T, id, pa, slot, hty, h1, h2, Calls.callWith_builtin rfl (PySem.evalArgs_none (hm pins s1 σ H1 x [] v [] Q I1 r1 .nil q1))⟩
theorem pe_bm (pa : PlainAttrs T) (slot : Slot T name id) (hty : typeOf (.builtin id) = pure (.type "method_descriptor")) (hm : MtR X id r) (ho : PE X o to) (ha : PA X (e :: es) t)
    (hbase : attributeBase o name X.env (eval o X.env) = eval o X.env := by rfl)
    (hfew : ((backTo cpos (starEach (e :: es) X.env)).all (fun x => !x.1) && (backToKw cpos (keywordEach [] X.env)).all (fun x => x.1.isSome)
      && decide ((e :: es).length + ([] : List Keyword).length + (if ([] : List Keyword).isEmpty then 0 else 1) < 30)) = true := by rfl)
    (hline : (apos.endLine == cpos.line) = true := by rfl) (hs : starEach (e :: es) X.env = (false, eval e X.env) :: starEach es X.env := by rfl) (hplain : (backTo cpos (starEach es X.env)).any (·.1) = false := by rfl) :
    PE X (.Call (.Attribute o name apos) (e :: es) [] cpos) (tBM X.K T r to t) := by
  intro pins s σ H Q I h
  refine wpAny_Call_method_late hbase hfew hline rfl (thn (ho pins s σ H _ I h) fun v s1 ⟨x, H1, I1, r1, ty, q1⟩ => ?_)
  obtain ⟨h1, h2⟩ := tyV_is I1 r1 ty
  refine ⟨T, id, pa, slot, hty, h1, h2, ?_⟩
  have hA := ha cpos pins s1 σ H1 _ I1 q1
  rw [hs] at hA ⊢
  refine Calls.callWith_builtin (by show (false || (backTo cpos (starEach es X.env)).any (·.1)) = false; rw [hplain] <;> rfl) (Calls.evalArgs_plain ?_)
  exact thn hA fun us s2 ⟨vs, H2, I2, r2, q2⟩ => hm pins s2 σ H2 x vs v us Q I2 r1 r2 q2
/- xs.append(e), list.index on a module's tuple .. are MtR facts of 06m -/
end
end L2

namespace L2
open PySem PySem.Spec PyProof.Rows

def MtM (X : Cx) (id : String) (r : V → List V → Hp → VK → Prop) : Prop :=
  ∀ (pins : List (Addr × Obj)) (s : Shared) (σ : St) (H : Hp) (x : V) (xs : List V) (v : Value) (us : List Value) (Q : VK), Inv X pins σ H s → RelV x v → Vals xs us → r x xs H Q →
    wpAny (model X.prog X.w) X.A (call (.builtin id) (v :: us)) (EP X pins σ Q) X.xe s

/-! ### lists of values -/
theorem Vals.one : ∀ {x : V} {us : List Value}, Vals [x] us → ∃ u, us = [u] ∧ RelV x u
  | _, _, .cons r .nil => ⟨_, rfl, r⟩
theorem Vals.two : ∀ {x y : V} {us : List Value}, Vals [x, y] us → ∃ u v, us = [u, v] ∧ RelV x u ∧ RelV y v
  | _, _, _, .cons r (.cons q .nil) => ⟨_, _, rfl, r, q⟩
theorem Vals.zero : ∀ {us : List Value}, Vals [] us → us = []
  | _, .nil => rfl
theorem Vals.dropLast {xs : List V} {us : List Value} (h : Vals xs us) : Vals xs.dropLast us.dropLast := by
  induction h with
  | nil => exact .nil
  | cons r t ih =>
    cases t with
    | nil => exact .nil
    | cons q t' => exact .cons r ih
theorem Vals.eraseIdx : ∀ {xs : List V} {us : List Value} (i : Nat), Vals xs us → Vals (xs.eraseIdx i) (us.eraseIdx i)
  | _, _, _, .nil => .nil
  | _, _, 0, .cons _ t => t
  | _, _, i + 1, .cons r t => .cons r (Vals.eraseIdx i t)
theorem Vals.reverse {xs : List V} {us : List Value} (h : Vals xs us) : Vals xs.reverse us.reverse := by
  induction h with
  | nil => exact .nil
  | cons r t ih => rw [List.reverse_cons, List.reverse_cons]; exact Vals.append ih (.cons r .nil)
theorem Vals.rep {xs : List V} {us : List Value} (h : Vals xs us) : ∀ k : Nat, Vals (List.replicate k xs).flatten (List.replicate k us).flatten
  | 0 => .nil
  | k + 1 => by
    rw [List.replicate_succ, List.replicate_succ, List.flatten_cons, List.flatten_cons]
    exact Vals.append h (Vals.rep h k)
theorem erase_last {α : Type} (l : List α) : l.eraseIdx (l.length - 1) = l.dropLast := by
  induction l with
  | nil => rfl
  | cons a r ih =>
    cases r with
    | nil => rfl
    | cons b r =>
      have e : (a :: b :: r).length - 1 = ((b :: r).length - 1) + 1 := by
        have h1 : (a :: b :: r).length = r.length + 2 := rfl
        have h2 : (b :: r).length = r.length + 1 := rfl
        omega
      rw [e, List.eraseIdx_cons_succ, ih]
      all_goals rfl
theorem len_erase {α : Type} : ∀ (l : List α) (i : Nat), (l.eraseIdx i).length ≤ l.length
  | [], _ => Nat.le_refl _
  | _ :: _, 0 => Nat.le_succ _
  | _ :: r, i + 1 => Nat.succ_le_succ (len_erase r i)
theorem foldl_rep (its : List Value) : ∀ (k : Nat) (acc : List Value),
    List.foldl (fun x1 x2 => x1 ++ x2) acc.toArray (List.replicate k its.toArray) = (acc ++ (List.replicate k its).flatten).toArray
  | 0, acc => by simp
  | k + 1, acc => by
    have e : acc.toArray ++ its.toArray = (acc ++ its).toArray := by simp
    have e2 : (acc ++ its) ++ (List.replicate k its).flatten = acc ++ (List.replicate (k + 1) its).flatten := by
      rw [List.replicate_succ, List.flatten_cons, List.append_assoc]
    rw [← e2, ← foldl_rep its k (acc ++ its), ← e, List.replicate_succ, List.foldl_cons]

section
variable {X : Cx} {pins : List (Addr × Obj)} {σ : St} {H : Hp} {s : Shared} {l b : Addr} {xs ys zs : List V}

/-! ### the two steps: a tracked list is rewritten, a new list is laid -/
theorem Inv.lset {its its' : List Value} {n : Nat} {f : Array Value → Array Value} {t' : Nat} (I : Inv X pins σ H s) (hH : H l = some (.lst xs))
    (e : s.heap.get? l = some { cls := .type "list", data := .seq its.toArray n }) (hf : f its.toArray = its'.toArray) (hv : Vals ys its') (hz : ys.length ≤ sizeLine) :
    Inv X pins σ (upd H l (.lst ys)) { s with heap := s.heap.update l (Obj.mapSeq f), toks := t' } := by
  have q := PySem.IsL.update e f
  rw [hf] at q
  refine I.write (x := l) (e := l) (by rw [hH]; exact trivial) (.inl rfl) (fun b' u hb hu => (Heap.get?_update_other s.heap (Obj.mapSeq f) (Ne.symm hb)).trans hu) ⟨_, q⟩ ?_
  exact ⟨hz, its', _, hv, q⟩
theorem Inv.lnew {its : List Value} {t' : Nat} (I : Inv X pins σ H s) (hv : Vals ys its) (hz : ys.length ≤ sizeLine) :
    Inv X pins σ (upd H s.heap.objs.size (.lst ys)) { s with heap := s.heap.push { cls := .type "list", data := .seq its.toArray }, toks := t' } :=
  I.laid (fun _ _ q => Heap.get?_push_of_some _ q) (Nat.le_refl _) ⟨hz, its, 0, hv, Heap.get?_push_size _ rfl⟩
theorem Inv.fresh (I : Inv X pins σ H s) : H s.heap.objs.size = none := I.hok.fresh (Nat.le_refl _)
theorem Inv.lstM (I : Inv X pins σ H s) (hH : H l = some (.lst xs)) : xs.length ≤ sizeLine ∧ ∃ (its : List Value) (n : Nat), Vals xs its ∧ xs.length = its.length ∧ s.heap.get? l = some { cls := .type "list", data := .seq its.toArray n } := by
  obtain ⟨z, its, n, r, e⟩ := I.hok l _ hH
  exact ⟨z, its, n, r, r.length, e⟩

theorem notLongL {n : Nat} (h : n ≤ sizeLine) : Builtin.List.listTooLong n = false := by
  unfold Builtin.List.listTooLong
  exact decide_eq_false (by omega)
end

section
variable {X : Cx}

/-! ### methods -/
def rAppend : V → List V → Hp → VK → Prop := fun x vs H Q => ∃ l xs y, x = .ref l ∧ vs = [y] ∧ H l = some (.lst xs) ∧ xs.length < sizeLine ∧ Q .non (upd H l (.lst (xs ++ [y])))
theorem mt_append : MtM X "list.append" rAppend := by
  intro pins s σ H x vs v us Q I rx rv h
  obtain ⟨l, xs, y, rfl, rfl, hH, hz, q⟩ := h
  cases rx
  obtain ⟨u, rfl, ru⟩ := rv.one
  obtain ⟨z, its, n, r, hl, e⟩ := I.lstM hH
  refine call_meets F.slot_list_append ⟨_, e, rfl⟩ F.entry_list_append (F.args_list_append_2 _ _) (PySem.list_append l its.toArray n u (by rw [List.size_toArray]; omega)) ⟨e, ?_⟩
  refine ⟨.non, _, I.lset (its' := its ++ [u]) hH e (by simp) (r.append (.cons ru .nil)) ?_, rfl, q⟩
  rw [List.length_append, List.length_singleton]
  omega

def rExtend : V → List V → Hp → VK → Prop := fun x vs H Q => ∃ l b xs zs, x = .ref l ∧ vs = [.ref b] ∧ H l = some (.lst xs) ∧ H b = some (.lst zs) ∧ xs.length + zs.length ≤ sizeLine ∧ Q .non (upd H l (.lst (xs ++ zs)))
theorem mt_extend : MtM X "list.extend" rExtend := by
  intro pins s σ H x vs v us Q I rx rv h
  obtain ⟨l, b, xs, zs, rfl, rfl, hH, hB, hz, q⟩ := h
  cases rx
  obtain ⟨u, rfl, ru⟩ := rv.one
  cases ru
  obtain ⟨z, its, n, r, hl, e⟩ := I.lstM hH
  obtain ⟨z2, its2, n2, r2, hl2, e2⟩ := I.lstM hB
  have hsz : its.toArray.size + its2.toArray.size ≤ sizeLine := by rw [List.size_toArray, List.size_toArray]; omega
  have hlong : ¬ (!its.toArray.isEmpty && Builtin.List.listTooLong (its.toArray.size + its2.toArray.size)) = true := by
    rw [notLongL hsz, Bool.and_false]
    exact Bool.false_ne_true
  refine call_meets F.slot_list_extend ⟨_, e, rfl⟩ F.entry_list_extend (F.args_list_extend_2 _ _)
    (AutoSeq1.list_extend_list_list_0 l its.toArray n b its2.toArray n2 hlong (by rw [List.size_toArray]; omega) (by omega)) ⟨e, e2, ?_⟩
  refine ⟨.non, _, I.lset (its' := its ++ its2) hH e (by simp) (r.append r2) ?_, rfl, q⟩
  rw [List.length_append]
  omega

def rPop : V → List V → Hp → VK → Prop := fun x vs H Q => ∃ l xs y, x = .ref l ∧ vs = [] ∧ H l = some (.lst xs) ∧ xs[xs.length - 1]? = some y ∧ Q y (upd H l (.lst xs.dropLast))
theorem mt_pop : MtM X "list.pop" rPop := by
  intro pins s σ H x vs v us Q I rx rv h
  obtain ⟨l, xs, y, rfl, rfl, hH, hy, q⟩ := h
  cases rx
  have hus := rv.zero
  subst hus
  obtain ⟨z, its, n, r, hl, e⟩ := I.lstM hH
  obtain ⟨u, hu, ru⟩ := r.get hy
  have hy' : its.toArray[its.toArray.size - 1]? = some u := by
    show its.toArray[its.length - 1]? = some u
    rw [← Array.getElem?_toList, ← hl]
    exact hu
  refine call_meets F.slot_list_pop ⟨_, e, rfl⟩ F.entry_list_pop (F.args_list_pop_1 _) (MeetsSeq.list_pop_last l its.toArray n u hy' (by rw [List.size_toArray]; omega)) ⟨e, ?_⟩
  refine ⟨y, _, I.lset (its' := its.dropLast) hH e ?_ r.dropLast ?_, ru, q⟩
  · show its.toArray.eraseIdxIfInBounds (its.toArray.size - 1) = its.dropLast.toArray
    rw [List.size_toArray, List.eraseIdxIfInBounds_toArray, erase_last]
  · rw [List.length_dropLast]
    omega

def rPopAt : V → List V → Hp → VK → Prop := fun x vs H Q => ∃ l xs i k y, x = .ref l ∧ vs = [.int i] ∧ H l = some (.lst xs) ∧ -(2 ^ 63) ≤ i ∧ i < 2 ^ 63 ∧ seqIndex? i xs.length = some k ∧ xs[k]? = some y ∧ Q y (upd H l (.lst (xs.eraseIdx k)))
theorem mt_popAt : MtM X "list.pop" rPopAt := by
  intro pins s σ H x vs v us Q I rx rv h
  obtain ⟨l, xs, i, k, y, rfl, rfl, hH, h1, h2, hk, hy, q⟩ := h
  cases rx
  obtain ⟨u, rfl, ru⟩ := rv.one
  obtain ⟨t, rfl⟩ := ru
  obtain ⟨z, its, n, r, hl, e⟩ := I.lstM hH
  obtain ⟨w, hw, rw'⟩ := r.get hy
  refine call_meets F.slot_list_pop ⟨_, e, rfl⟩ F.entry_list_pop (F.args_list_pop_2 _ _)
    (MeetsSeq.list_pop_at l its.toArray n i t k w (fitsIndex_both h1 h2) (by rw [List.size_toArray, ← hl]; exact hk) (by rw [← Array.getElem?_toList]; exact hw) (by rw [List.size_toArray]; omega)) ⟨e, ?_⟩
  refine ⟨y, _, I.lset (its' := its.eraseIdx k) hH e ?_ (r.eraseIdx k) ?_, rw', q⟩
  · show its.toArray.eraseIdxIfInBounds k = (its.eraseIdx k).toArray
    rw [List.eraseIdxIfInBounds_toArray]
  · have := len_erase xs k
    omega

def rReverse : V → List V → Hp → VK → Prop := fun x vs H Q => ∃ l xs, x = .ref l ∧ vs = [] ∧ H l = some (.lst xs) ∧ Q .non (upd H l (.lst xs.reverse))
theorem mt_reverse : MtM X "list.reverse" rReverse := by
  intro pins s σ H x vs v us Q I rx rv h
  obtain ⟨l, xs, rfl, rfl, hH, q⟩ := h
  cases rx
  have hus := rv.zero
  subst hus
  obtain ⟨z, its, n, r, hl, e⟩ := I.lstM hH
  refine call_meets F.slot_list_reverse ⟨_, e, rfl⟩ F.entry_list_reverse (F.args_list_reverse_1 _) (AutoSeq1.list_reverse_list_0 l its.toArray n (by rw [List.size_toArray]; omega)) ⟨e, ?_⟩
  refine ⟨.non, _, I.lset (its' := its.reverse) hH e (by simp) r.reverse ?_, rfl, q⟩
  rw [List.length_reverse]
  omega

def rClear : V → List V → Hp → VK → Prop := fun x vs H Q => ∃ l xs, x = .ref l ∧ vs = [] ∧ H l = some (.lst xs) ∧ Q .non (upd H l (.lst []))
theorem mt_clear : MtM X "list.clear" rClear := by
  intro pins s σ H x vs v us Q I rx rv h
  obtain ⟨l, xs, rfl, rfl, hH, q⟩ := h
  cases rx
  have hus := rv.zero
  subst hus
  obtain ⟨z, its, n, r, hl, e⟩ := I.lstM hH
  refine call_meets F.slot_list_clear ⟨_, e, rfl⟩ F.entry_list_clear (F.args_list_clear_1 _) (AutoSeq1.list_clear_list_0 l its.toArray n (by rw [List.size_toArray]; omega)) ⟨e, ?_⟩
  exact ⟨.non, _, I.lset (its' := []) (ys := []) hH e rfl .nil (Nat.zero_le _), rfl, q⟩

/-! ### list + list, list += list, list * int -/
def rCat : R2 := fun x y H Q => ∃ l b xs zs, x = .ref l ∧ y = .ref b ∧ H l = some (.lst xs) ∧ H b = some (.lst zs) ∧ xs.length + zs.length ≤ sizeLine ∧ ∀ p, H p = none → Q (.ref p) (upd H p (.lst (xs ++ zs)))
theorem op_cat : OpR X (binaryOp .Add) rCat := by
  intro pins s σ H x y v u Q I rx ry h
  obtain ⟨l, b, xs, zs, rfl, rfl, hH, hB, hz, q⟩ := h
  cases rx
  cases ry
  obtain ⟨z, its, n, r, hl, e⟩ := I.lstM hH
  obtain ⟨z2, its2, n2, r2, hl2, e2⟩ := I.lstM hB
  refine PySem.P.add_list e e2 ?_ (by rw [List.size_toArray, List.size_toArray]; omega)
  have ea : its.toArray ++ its2.toArray = (its ++ its2).toArray := by simp
  rw [ea]
  exact ⟨.ref _, _, I.lnew (t' := s.toks) (r.append r2) (by rw [List.length_append]; omega), rfl, q _ I.fresh⟩
/-- a list times an int (a negative one is nothing) -/
def rRep : R2 := fun x y H Q => ∃ l k xs, x = .ref l ∧ y = .int k ∧ H l = some (.lst xs) ∧ -(2 ^ 63) ≤ k ∧ k < 2 ^ 63 ∧ xs.length * k.toNat ≤ sizeLine ∧
  ∀ p, H p = none → Q (.ref p) (upd H p (.lst (List.replicate k.toNat xs).flatten))
theorem len_rep {α : Type} (xs : List α) (k : Nat) : (List.replicate k xs).flatten.length = k * xs.length := by
  induction k with
  | zero => simp
  | succ k ih => rw [List.replicate_succ, List.flatten_cons, List.length_append, ih, Nat.succ_mul, Nat.add_comm]
theorem op_rep : OpR X (binaryOp .Mult) rRep := by
  intro pins s σ H x y v u Q I rx ry h
  obtain ⟨l, k, xs, rfl, rfl, hH, h1, h2, hz, q⟩ := h
  cases rx
  obtain ⟨t, rfl⟩ := ry
  obtain ⟨z, its, n, r, hl, e⟩ := I.lstM hH
  have hlen : its.toArray.size * k.toNat ≤ sizeLine := by rw [List.size_toArray, ← hl]; exact hz
  have hcap : ¬ its.toArray.size * k.toNat > (2 ^ 63 - 1) / 8 := by
    have : (sizeLine : Nat) ≤ (2 ^ 63 - 1) / 8 := by decide
    omega
  have hfit : ¬ (!Builtin.List.listFitsIndex k) = true := by
    rw [fitsIndex_both h1 h2]
    exact Bool.false_ne_true
  have hlong : ¬ Builtin.List.listTooLong (its.toArray.size * k.toNat) = true := by
    rw [notLongL hlen]
    exact Bool.false_ne_true
  have hnew : List.foldl (fun x1 x2 => x1 ++ x2) #[] (List.replicate (if its.toArray.isEmpty = true then 0 else k.toNat) its.toArray) = (List.replicate k.toNat its).flatten.toArray := by
    have f0 : ∀ m : Nat, List.foldl (fun x1 x2 => x1 ++ x2) #[] (List.replicate m its.toArray) = (List.replicate m its).flatten.toArray := fun m => by
      have := foldl_rep its m []
      rw [List.nil_append] at this
      exact this
    rw [f0]
    cases its with
    | nil => simp
    | cons a r' => rw [if_neg (by simp)]
  refine wpAny_binaryOp_repeat_ref (T := "list") (U := "int") (by decide) ⟨_, e, rfl⟩ (fun s' => typeIs_int s' k t) noFill_list_mul F.fills_int_mul F.slot_int_rmul repeat_list F.slot_int_index.lookup
    (call_meets F.slot_int_rmul (typeIs_int s k t) F.entry_int_rmul (F.args_int_rmul_2 _ _) (int___rmul___int_list k t l its.toArray n)
      ⟨e, rfl, ⟨_, e, rfl⟩, call_meets F.slot_list_mul ⟨_, e, rfl⟩ F.entry_list_mul (F.args_list_mul_2 _ _) (AutoListH.list___mul___list_int_3 l its.toArray n k t hfit hcap hlong) ⟨e, ?_⟩⟩)
  rw [hnew]
  exact ⟨.ref _, _, I.lnew (t' := s.toks) (r.rep k.toNat) (by rw [len_rep, Nat.mul_comm]; exact hz), rfl, q _ I.fresh⟩

/-! ### del xs[i] -/
theorem del_list {pins : List (Addr × Obj)} {s : Shared} {σ : St} {H : Hp} {l : Addr} {xs : List V} {i : Int} {t : Tok} {k : Nat} {Q : Unit → Shared → Prop} (I : Inv X pins σ H s) (hH : H l = some (.lst xs))
    (h1 : -(2 ^ 63) ≤ i) (h2 : i < 2 ^ 63) (hk : seqIndex? i xs.length = some k) (h : ∀ s', Inv X pins σ (upd H l (.lst (xs.eraseIdx k))) s' → Q () s') :
    wpAny (model X.prog X.w) X.A (delItem (.ref l) (.int i t)) Q X.xe s := by
  obtain ⟨z, its, n, r, hl, e⟩ := I.lstM hH
  refine PySem.P.delItem_list (k := k) e (fitsIndex_both h1 h2) (by rw [List.size_toArray, ← hl]; exact hk) (h _ ?_) (by rw [List.size_toArray]; omega)
  refine I.lset (its' := its.eraseIdx k) (t' := s.toks) hH e ?_ (r.eraseIdx k) ?_
  · show its.toArray.eraseIdxIfInBounds k = (its.eraseIdx k).toArray
    rw [List.eraseIdxIfInBounds_toArray]
  · have := len_erase xs k
    omega
end

/-! ### xs[a:b] = ys -/
section
variable {prog : Program} {w : World} {A : Around} {E : Value → Shared → Prop} {s : Shared}
theorem splice_eq (its its2 : List Value) (a c : Nat) : its.toArray.extract 0 a ++ its2.toArray ++ its.toArray.extract c its.toArray.size = (its.take a ++ its2 ++ its.drop c).toArray := by
  apply Array.toList_inj.mp
  first
    | (simp
       exact List.take_of_length_le (by simp))
    | simp [List.take_of_length_le]
    | simp
theorem bounds_run {a c n : Nat} (hac : a ≤ c) (hc : c ≤ n) : sliceBounds (some (a : Int)) (some (c : Int)) none n = ((a : Int), (c : Int), 1) := by
  simp only [sliceBounds, Option.getD_none]
  have h1 : ¬ ((a : Int) < 0) := by omega
  have h2 : ¬ ((c : Int) < 0) := by omega
  simp only [h1, h2, if_false, show (1 : Int) > 0 by decide, if_true]
  congr 1
  · omega
  · congr 1; omega
set_option maxRecDepth 100000 in
/-- list.__setitem__ with a slice of step one and another list -/
theorem setItem_slice {l b sl : Addr} {items new : Array Value} {n n2 : Nat} {vl vu : Value} {a c : Nat} {Q : Unit → Shared → Prop}
    (e : s.heap.get? l = some { cls := .type "list", data := .seq items n }) (e2 : s.heap.get? b = some { cls := .type "list", data := .seq new n2 }) (hne : l ≠ b)
    (hs : s.heap.IsSliceOf sl vl vu .none) (pl : IsPart vl (some (a : Int))) (pu : IsPart vu (some (c : Int))) (hac : a ≤ c) (hc : c ≤ items.size)
    (hsz : items.size + new.size ≤ sizeLine) (h : Q () { s with heap := s.heap.update l (Obj.mapSeq fun xs => xs.extract 0 a ++ new ++ xs.extract c xs.size) }) :
    wpAny (model prog w) A (setItem (.ref l) (.ref sl) (.ref b)) Q E s := by
  have hl : s.heap.IsList l items := PySem.IsL.isList e
  have hb : s.heap.IsList b new := PySem.IsL.isList e2
  obtain ⟨os, hos, hcs, hds⟩ := id hs
  have hTs : s.TypeIs (.ref sl) "slice" := ⟨os, hos, hcs⟩
  have hstep : ¬ ((rawPart none == rawInt 0) = true) := Bool.false_ne_true
  have hsame : Builtin.List.listSameRef (.ref l) (.ref b) = false := by
    unfold Builtin.List.listSameRef
    exact beq_eq_false_iff_ne.mpr hne
  have hmax : (max (a : Int) (c : Int)).toNat = c := by omega
  have hz' : ((fun xs : Array Value => xs.extract 0 a ++ new ++ xs.extract c xs.size) items).size ≤ sizeLine + 1 := by
    simp only [Array.size_append, Array.size_extract]
    omega
  unfold setItem
  try with_reducible refine wpAny_holding ?_
  first | refine wpAny_bind (wpAny_pure ?_) | skip
  refine wpAny_bind (wpAny_sequenceKey hl.typeIs (by decide) ?_)
  refine wpAny_bind (wpAny_callSpecial?_slot (name := Str.ofString "__setitem__") hl.typeIs slot_list_setitem
    (wpAny_call_entry slot_list_setitem hl.typeIs entry_list_setitem ?_ (args_list_setitem _ _ _)))
  show wpAny _ _ (Builtin.List.listSubscript? (.ref sl) >>= _) _ _ s
  refine wpAny_bind ?_
  unfold Builtin.List.listSubscript?
  refine wpAny_bind (wpAny_specialOf hTs slice_no_index ?_)
  simp only [Option.isNone_none, if_true]
  refine wpAny_pure ?_
  show wpAny _ _ (typeOf (.ref sl) >>= _) _ _ s
  refine wpAny_bind (wpAny_typeOf hTs ?_)
  first
    | rw [if_neg (by decide)]
    | refine PySem.W.KFB.if_not (by decide) ?_
  rw [listSliceParts_eq]
  refine wpAny_bind (wpAny_bind (wpAny_field hos hds (x := .none) rfl (wpAny_bind (wpAny_listPart .none ?_))))
  rw [if_neg hstep]
  refine wpAny_bind (wpAny_field hos hds (x := vl) rfl (wpAny_bind (wpAny_listPart pl ?_)))
  refine wpAny_bind (wpAny_field hos hds (x := vu) rfl (wpAny_bind (wpAny_listPart pu (wpAny_pure ?_))))
  first
    | simp only [hsame, Bool.false_eq_true, if_false]
    | refine PySem.W.KFB.if_not hsame ?_
    | (dsimp only
       rw [if_neg (by rw [hsame]; exact Bool.false_ne_true)])
  refine wpAny_bind (m := Builtin.List.listAllItems (.ref b) "must assign iterable to extended slice") ?_
  unfold Builtin.List.listAllItems
  refine wpAny_bind (wpAny_typeOf hb.typeIs ?_)
  first
    | refine PySem.W.KFB.if_so (by decide) ?_
    | rw [if_pos (by decide)]
    | simp only [beq_self_eq_true, Bool.true_or, if_true]
  unfold Builtin.List.listItems
  refine wpAny_bind (wpAny_seqItems e2 rfl (wpAny_pure ?_))
  refine wpAny_bind (wpAny_bind (wpAny_seqItems e rfl (wpAny_pure ?_)))
  refine wpAny_bind (wpAny_of_eq ((sliceIndices_raw (some (a : Int)) (some (c : Int)) none items.size (by simp)).trans (congrArg (pure : Int × Int × Int → Sem (Int × Int × Int)) (bounds_run hac hc))) ?_)
  show wpAny _ _ (if ((1 : Int) == 1) = true then _ else _) _ _ s
  rw [if_pos (by decide)]
  refine wpAny_bind (wpAny_rule ?_)
  first
    | simp only [notLongL hsz, Bool.false_eq_true, if_false]
    | refine PySem.W.KFB.if_not (notLongL hsz) ?_
  first | refine wpAny_bind (wpAny_pure ?_) | skip
  show wpAny _ _ (updateSeq l (fun xs => xs.extract 0 ((a : Int)).toNat ++ new ++ xs.extract (max (a : Int) (c : Int)).toNat xs.size) >>= _) _ _ s
  rw [hmax, Int.toNat_natCast]
  refine wpAny_bind (wpAny_updateSeq (hz := Nat.le_trans (Nat.le_add_right _ _) hsz) (_hz' := hz') e rfl ?_)
  refine wpAny_bind (wpAny_letGo ?_)
  first
    | exact wpAny_bind (wpAny_pure (wpAny_pure ⟨.none, rfl, wpAny_pure h⟩))
    | exact wpAny_pure ⟨.none, rfl, wpAny_pure h⟩
end

section
variable {X : Cx}
/-- xs[a:c] = ys of another list, at the value level: sl is the slice object that was just made -/
theorem set_slice {pins : List (Addr × Obj)} {s : Shared} {σ : St} {H : Hp} {l b sl : Addr} {xs ys : List V} {a c : Int} {vl vu : Value} {Q : Unit → Shared → Prop} (I : Inv X pins σ H s)
    (hH : H l = some (.lst xs)) (hB : H b = some (.lst ys)) (hne : l ≠ b) (hs : s.heap.IsSliceOf sl vl vu .none) (ra : RelV (.int a) vl) (rc : RelV (.int c) vu) (h0 : 0 ≤ a) (hac : a ≤ c) (hc : c ≤ xs.length)
    (hz : xs.length + ys.length ≤ sizeLine) (h : ∀ s', Inv X pins σ (upd H l (.lst (xs.take a.toNat ++ ys ++ xs.drop c.toNat))) s' → Q () s') :
    wpAny (model X.prog X.w) X.A (setItem (.ref l) (.ref sl) (.ref b)) Q X.xe s := by
  obtain ⟨ta, rfl⟩ := ra
  obtain ⟨tc, rfl⟩ := rc
  obtain ⟨z, its, n, r, hl, e⟩ := I.lstM hH
  obtain ⟨z2, its2, n2, r2, hl2, e2⟩ := I.lstM hB
  obtain ⟨a', rfl⟩ := Int.eq_ofNat_of_zero_le h0
  obtain ⟨c', rfl⟩ := Int.eq_ofNat_of_zero_le (Int.le_trans h0 hac)
  simp only [Int.toNat_natCast] at h
  refine setItem_slice (a := a') (c := c') e e2 hne hs (.int _ _) (.int _ _) (by omega) (by rw [List.size_toArray]; omega) (by rw [List.size_toArray, List.size_toArray]; omega) (h _ ?_)
  refine I.lset (its' := its.take a' ++ its2 ++ its.drop c') (t' := s.toks) hH e ?_ (Vals.append (Vals.append (r.take _) r2) (r.drop _)) ?_
  · exact splice_eq its its2 a' c'
  · rw [List.length_append, List.length_append, List.length_take, List.length_drop]
    omega
end
end L2

namespace Att
open PySem PySem.W PySem.Calls PyProof.Rows

/-! ### the script -/
theorem ints_of_wellAll {P : Params} {h : Heap} : ∀ (ns : List Int) (vs : List Value), WellAll P h vs (ns.map WData.int) → IntsAre vs ns := by
  intro ns
  induction ns with
  | nil =>
    intro vs w
    rw [List.map_nil] at w
    cases w
    exact .nil
  | cons n ns ih =>
    intro vs w
    rw [List.map_cons] at w
    cases w with
    | cons a b =>
      cases a
      exact .cons _ _ (ih _ b)

theorem script_of {l : OpenLaw} {n : Nat} (hn : l.most = some n) {P : Params} {h : Heap} {args : List WData} {vals : List Value}
    (hpre : l.row.toRowW.claim.pre args = true) (hwl : WellAll P h vals args) :
    ∃ a vs ns, vals = [Value.ref a] ∧ args = [WData.list (ns.map WData.int)] ∧ h.get? a = some { cls := .type "list", data := .seq vs.toArray } ∧ IntsAre vs ns ∧ ns.length ≤ n := by
  have hsh : WShape.hasAll [] args [.list .int] = true := (pre_splitW hpre).1
  have hc : l.pre.holds [] { args := args } = true := (pre_splitW hpre).2
  obtain ⟨d, r, rfl, h1, h2⟩ := hasAllW_cons hsh
  obtain rfl := hasAllW_nil h2
  obtain ⟨xs, rfl, h3⟩ := hasW_list h1
  obtain ⟨ns, rfl⟩ := items_int h3
  have hlen : ns.length ≤ n := by
    unfold OpenLaw.pre at hc
    have h4 : (WTm.not (.lt (.lit (.int (n : Int))) (.len (.arg 0)))).holds [] { args := [.list (ns.map .int)] } = true := by
      have h4 := (holds_andW hc).1
      rw [hn] at h4
      exact h4
    have h5 := condW_of h4 (w_not (w_lt w_lit (w_len_list (w_arg rfl))))
    rw [List.length_map] at h5
    refine Nat.le_of_not_lt fun q => ?_
    have q' : (n : Int) < ((ns.length : Nat) : Int) := by omega
    first
      | (rw [decide_eq_true q'] at h5; exact absurd h5 (by decide))
      | (simp at h5; omega)
  cases hwl with
  | cons w1 w2 =>
    cases w2
    cases w1 with
    | list ho hall => exact ⟨_, _, ns, rfl, rfl, ho, ints_of_wellAll ns _ hall, hlen⟩

theorem post_true (l : OpenLaw) (args : List WData) : l.row.toRowW.claim.post args (.bool true) args = true :=
  postW_of (r := l.row.toRowW) (X := (true == true))
    (show WShape.has [] (.bool true) .bool = true by first | rfl | decide | simp [WShape.has, WShape.arms, WShape.armsAll])
    (show (WTm.eq .res (.lit (.bool true))).value [] { args := args, res := some (.bool true), after := args } = some (.bool (true == true)) from w_eq_bool (w_res rfl) w_lit) rfl

/-! ### the attachment: holds_open's last premise (the goal 'hc' behind k_head) from a wpAny of the law's body -/
theorem attach {l : OpenLaw} {n : Nat} {q : Program} {loose : List Str} {XP : (Str → Option Value) → Heap → Prop} {YP : World → Heap → Prop} {d : DefRec} {x : Str}
    (hn : l.most = some n) (hdf : d.params.defaults = [])
    (hbind : ∀ pm cd doc v : Value, bindArgs (docDef d.name d.params d.body d.scope pm cd doc) ⟨[v], []⟩ = pure [(x, v)])
    (hx : d.scope.names.lookup x = some .local ∨ d.scope.names.lookup x = some .cell)
    (hk : d.scope.kind = .function) (hco : d.scope.isCoroutine = false) (hgen : d.scope.isGenerator = false)
    (body : ∀ (w : World) (s₀ s₁ s : Shared) (mg mb : Str → Option Value) (fa : Addr) (o : Obj) (pm cd doc : Value) (a : Addr) (vs : List Value) (ns : List Int),
      Ground q loose [] XP w s₀ mg mb s₁.heap → YP w s₁.heap →
      s₁.heap.get? fa = some o → o.data = .func (docDef d.name d.params d.body d.scope pm cd doc) → s₁.heap.CodeRec cd d.name → mg d.name = some (.ref fa) →
      s₁.heap.get? a = some { cls := .type "list", data := .seq vs.toArray } → IntsAre vs ns → ns.length ≤ n →
      s.gens = #[] → s.os = s₁.os →
      Fr s₁.heap s₁.heap.objs.size s.heap (bindL (envOfC d.name d.scope s₁.heap.objs.size fa cd).kindOf [(x, .ref a)] fun _ => none) →
      Cl s₁.heap.objs.size (cellsFrom (s₁.heap.objs.size + 1) d.scope.names []) s.heap (bindC (envOfC d.name d.scope s₁.heap.objs.size fa cd).kindOf [(x, .ref a)] fun _ => none) →
      wpAny (model l.prog w) (callerA.deeper (envOfC d.name d.scope s₁.heap.objs.size fa cd)) (execs d.body (envOfC d.name d.scope s₁.heap.objs.size fa cd))
        (fun f s' => f = .ret (.bool true) ∧ OldK s₁.heap s'.heap ∧ s'.os = s₁.os ∧ AllBare s'.gens) (fun _ _ => False) s) :
    WalkO q loose XP YP l.row.toRowW d [] (fun f vs => PySem.call f vs) := by
  intro w s₀ s₁ mg mb G Y fa o pm cd doc dV kV ho hd hcd hD hmg hg args vals as hpre hlay hrd hwl hlo
  obtain rfl : dV = .none := Dflts.none hD hdf
  obtain rfl : kV = .none := Dflts.noKw hD
  obtain ⟨a, vs, ns, rfl, rfl, hobj, hints, hlen⟩ := script_of hn hpre hwl
  refine enter_call ?_
  refine call_cells_ret (o := o) (by rw [depth_caller]; decide) ho (fd_plain hd) G.T.nolimit hcd (hbind pm cd doc (.ref a)) (fun y hy => ?_) (fun h₁ tk F X => ?_) hco hgen hk
  · obtain rfl : y = (x, Value.ref a) := List.mem_singleton.mp hy
    rcases hx with e | e
    · exact .inl e
    · exact .inr ⟨e, cellsFrom_some _ _ _ (.inl e)⟩
  · refine wpAny_mono (body w s₀ s₁ { s₁ with heap := h₁, toks := tk } mg mb fa o pm cd doc a vs ns G Y ho (fd_plain hd) hcd hmg hobj hints hlen hg rfl F X) (fun f s' hq => ?_) (fun _ _ hq => hq)
    obtain ⟨rfl, h2, h3, h4⟩ := hq
    exact ⟨.inl ⟨.bool true, .bool true, [], rfl, fun _ => rfl, .bool true, post_true l _, fun _ => ⟨List.Pairwise.nil, fun _ hm => (nomatch hm)⟩⟩, h2, h3, h4⟩

/-- the same from a codeAny of the CALL (for a layer whose function contracts speak of calls) -/
theorem attach_call {l : OpenLaw} {n : Nat} {q : Program} {loose : List Str} {XP : (Str → Option Value) → Heap → Prop} {YP : World → Heap → Prop} {d : DefRec}
    (hn : l.most = some n) (hdf : d.params.defaults = [])
    (call : ∀ (w : World) (s₀ s₁ : Shared) (mg mb : Str → Option Value) (fa : Addr) (o : Obj) (pm cd doc : Value) (a : Addr) (vs : List Value) (ns : List Int),
      Ground q loose [] XP w s₀ mg mb s₁.heap → YP w s₁.heap →
      s₁.heap.get? fa = some o → o.data = .func (docDef d.name d.params d.body d.scope pm cd doc) → s₁.heap.CodeRec cd d.name → mg d.name = some (.ref fa) →
      s₁.heap.get? a = some { cls := .type "list", data := .seq vs.toArray } → IntsAre vs ns → ns.length ≤ n → s₁.gens = #[] →
      codeAny (model l.prog w) callerA (.call (.ref fa) ⟨[.ref a], []⟩) (fun r s' => r = .ok (.ret (.bool true)) ∧ OldK s₁.heap s'.heap ∧ s'.os = s₁.os ∧ AllBare s'.gens) s₁) :
    WalkO q loose XP YP l.row.toRowW d [] (fun f vs => PySem.call f vs) := by
  intro w s₀ s₁ mg mb G Y fa o pm cd doc dV kV ho hd hcd hD hmg hg args vals as hpre hlay hrd hwl hlo
  obtain rfl : dV = .none := Dflts.none hD hdf
  obtain rfl : kV = .none := Dflts.noKw hD
  obtain ⟨a, vs, ns, rfl, rfl, hobj, hints, hlen⟩ := script_of hn hpre hwl
  refine enter_call (codeAny_mono (call w s₀ s₁ mg mb fa o pm cd doc a vs ns G Y ho (fd_plain hd) hcd hmg hobj hints hlen hg) fun r s' hq => ?_)
  obtain ⟨rfl, h2, h3, h4⟩ := hq
  exact ⟨.inl ⟨.bool true, .bool true, [], rfl, fun _ => rfl, .bool true, post_true l _, fun _ => ⟨List.Pairwise.nil, fun _ hm => (nomatch hm)⟩⟩, h2, h3, h4⟩

/-- the same where the top left finished generators (o_head chose holds_openN): nothing may have changed at all and no generator may be left -/
theorem attachN {l : OpenLaw} {n : Nat} {q : Program} {loose : List Str} {XP : (Str → Option Value) → Heap → Prop} {YP : World → Heap → Prop} {d : DefRec} {x : Str}
    (hn : l.most = some n) (hdf : d.params.defaults = [])
    (hbind : ∀ pm cd doc v : Value, bindArgs (docDef d.name d.params d.body d.scope pm cd doc) ⟨[v], []⟩ = pure [(x, v)])
    (hx : d.scope.names.lookup x = some .local ∨ d.scope.names.lookup x = some .cell)
    (hk : d.scope.kind = .function) (hco : d.scope.isCoroutine = false) (hgen : d.scope.isGenerator = false)
    (body : ∀ (w : World) (s₀ s₁ s : Shared) (mg mb : Str → Option Value) (fa : Addr) (o : Obj) (pm cd doc : Value) (a : Addr) (vs : List Value) (ns : List Int),
      Ground q loose [] XP w s₀ mg mb s₁.heap → YP w s₁.heap →
      s₁.heap.get? fa = some o → o.data = .func (docDef d.name d.params d.body d.scope pm cd doc) → s₁.heap.CodeRec cd d.name → mg d.name = some (.ref fa) →
      s₁.heap.get? a = some { cls := .type "list", data := .seq vs.toArray } → IntsAre vs ns → ns.length ≤ n →
      s.gens = #[] → s.os = s₁.os →
      Fr s₁.heap s₁.heap.objs.size s.heap (bindL (envOfC d.name d.scope s₁.heap.objs.size fa cd).kindOf [(x, .ref a)] fun _ => none) →
      Cl s₁.heap.objs.size (cellsFrom (s₁.heap.objs.size + 1) d.scope.names []) s.heap (bindC (envOfC d.name d.scope s₁.heap.objs.size fa cd).kindOf [(x, .ref a)] fun _ => none) →
      wpAny (model l.prog w) (callerA.deeper (envOfC d.name d.scope s₁.heap.objs.size fa cd)) (execs d.body (envOfC d.name d.scope s₁.heap.objs.size fa cd))
        (fun f s' => f = .ret (.bool true) ∧ (∀ b o, s₁.heap.get? b = some o → s'.heap.get? b = some o) ∧ s'.os = s₁.os ∧ s'.gens = #[]) (fun _ _ => False) s) :
    WalkN q loose XP YP l.row.toRowW d [] (fun f vs => PySem.call f vs) := by
  intro w s₀ s₁ mg mb G Y fa o pm cd doc dV kV ho hd hcd hD hmg hg args vals as hpre hlay hrd hwl hlo
  obtain rfl : dV = .none := Dflts.none hD hdf
  obtain rfl : kV = .none := Dflts.noKw hD
  obtain ⟨a, vs, ns, rfl, rfl, hobj, hints, hlen⟩ := script_of hn hpre hwl
  refine enter_callW ?_
  refine call_cells_ret (o := o) (by rw [depth_caller]; decide) ho (fd_plain hd) G.T.nolimit hcd (hbind pm cd doc (.ref a)) (fun y hy => ?_) (fun h₁ tk F X => ?_) hco hgen hk
  · obtain rfl : y = (x, Value.ref a) := List.mem_singleton.mp hy
    rcases hx with e | e
    · exact .inl e
    · exact .inr ⟨e, cellsFrom_some _ _ _ (.inl e)⟩
  · refine wpAny_mono (body w s₀ s₁ { s₁ with heap := h₁, toks := tk } mg mb fa o pm cd doc a vs ns G Y ho (fd_plain hd) hcd hmg hobj hints hlen hg rfl F X) (fun f s' hq => ?_) (fun _ _ hq => hq)
    obtain ⟨rfl, h2, h3, h4⟩ := hq
    exact ⟨.inl ⟨.bool true, .bool true, [], rfl, fun _ => rfl, .bool true, post_true l _, fun _ => ⟨List.Pairwise.nil, fun _ hm => (nomatch hm)⟩⟩, h2, h3, h4⟩

/-! ### rules over ANY heap (no ledger) from facts about the written part K: the library's own take a ledger (News) for what they write -/
section
variable {prog : Program} {w : World} {A : Around} {E : Value → Shared → Prop} {s : Shared} {K : Frag}

/-- a def of the module, or a method (qual 'C.m'), entered: the frame is the next address; cells behind it -/
theorem call_fn {R : Result → Shared → Prop} {name qual : Str} {params : Arguments} {body : List Stmt} {scope : Scope} {dV kV doc pm cdv ct oc : Value} {an od : Option Addr} {osl : Array (Option Value)} {f : Addr} {args : Args} {binds : List (Str × Value)}
    (X : K.In s.heap) (hlim : s.heap.NoLimit) (ho : K.lookup f = some ⟨oc, od, .func (fnOf name qual params body scope dV kV doc pm an cdv ct), osl⟩) (hcd : codeIn K cdv qual = true) (hroom : A.depth < recursionLimit)
    (hbind : BindsTo s (fnOf name qual params body scope dV kV doc pm an cdv ct) args binds)
    (hkind : (binds.all fun y => scope.names.lookup y.1 == some .local || scope.names.lookup y.1 == some .cell) = true)
    (h : ∀ s₁, InCallC s s.heap.objs.size (bindL (envOfC qual scope s.heap.objs.size f cdv).kindOf binds fun _ => none) (cellsFrom (s.heap.objs.size + 1) scope.names [])
        (bindC (envOfC qual scope s.heap.objs.size f cdv).kindOf binds fun _ => none) s₁ →
      wpAny (model prog w) (A.deeper (envOfC qual scope s.heap.objs.size f cdv)) (execs body (envOfC qual scope s.heap.objs.size f cdv))
        (fun fl s' => R (.ok (.ret (match fl with | .ret v => v | _ => .none))) s')
        (fun e s' => wpAny (model prog w) (A.deeper (envOfC qual scope s.heap.objs.size f cdv)) (leaving (envOfC qual scope s.heap.objs.size f cdv) e) (fun _ s'' => R (.error e) s'') (fun e' s'' => R (.error e') s'') s') s₁)
    (hco : scope.isCoroutine = false) (hgen : scope.isGenerator = false) (hk : scope.kind = .function) : codeAny (model prog w) A (.call (.ref f) args) R s := by
  refine codeAny_call_function hroom (X _ _ ho) rfl hco hgen rfl (codeRec_of X hcd) (hbind _ _ _ _ ?_)
  refine wpAny_newFunctionEnv_cells hk (kindsX hkind _) fun env he s₁ x => ?_
  subst he
  exact ⟨hlim.keeps x.toInCall.keep, codeAny_func (h s₁ x)⟩

/-- C(..): dict at size, instance at size + 1, then __init__ -/
theorem make_obj {R : Result → Shared → Prop} {C fI : Addr} {rest : List Value} {kw : List (Str × Value)}
    (X : K.In s.heap) (hm : makesIn K C = true) (hi : findIn K (.ref C) "__init__" = some (some (.ref fI))) (hf : isFn K (.ref fI) = true)
    (h : codeAny (model prog w) (A.under (.builtin "type.__call__" ⟨.ref C :: rest, kw⟩)) (.call (.ref fI) ⟨.ref (s.heap.objs.size + 1) :: rest, kw⟩) (InitBack (s.heap.objs.size + 1) R)
      { s with heap := (s.heap.push emptyDict).push (instObj C s.heap.objs.size) }) : codeAny (model prog w) A (.call (.ref C) ⟨rest, kw⟩) R s := by
  obtain ⟨hh, g, d, t, os⟩ := s
  exact make_core (makes_of X hm) (looks_findIn X hi) (fun self => bind_fn X self (beq_iff_eq.mp hf)) (.inl rfl) h

/-- x.name where the instance's dict holds the name and the class does not -/
theorem get_field {x C : Addr} {ox : Obj} {es : List DictEntry} {n : Nat} {name : Str} {expr : Bool} {v : Value} {Q : Value → Shared → Prop}
    (X : K.In s.heap) (I : PySem.W.InstAt s.heap x ox C (some (dictOf es n))) (hg : plainGet K C name = true) (hh : hasDictIn K C = true) (ha : findIn K (.ref C) name = some none)
    (hl : getL name es = some (some v)) (hv : handedIn v = true) (h : Q v { s with toks := s.toks + 1 }) : wpAny (model prog w) A (getAttr (.ref x) name expr) Q E s :=
  get_value X I (plainGet_of hg).1 (findObj_own hh ha rfl hl) hv h

/-- x.m(..): the method found in the class -/
theorem get_method {x C f : Addr} {ox : Obj} {es : List DictEntry} {n : Nat} {name : Str} {pl : Sem Bool} {Q : Value × List Value → Shared → Prop}
    (X : K.In s.heap) (I : PySem.W.InstAt s.heap x ox C (some (dictOf es n))) (hg : plainGet K C name = true) (hf : findIn K (.ref C) name = some (some (.ref f))) (ht : isFn K (.ref f) = true)
    (hl : getL name es = some none) (h : Q (.ref f, [.ref x]) s) : wpAny (model prog w) A (getMethod (.ref x) name pl) Q E s :=
  method_fn X I (plainGet_of hg).1 (plainGet_of hg).2 hf (beq_iff_eq.mp ht) (by show (lookIn name (dictOf es n)).map _ = _; rw [lookIn_dict, hl]; rfl) h

/-! the whole heap as the ledger: makes every rule that writes through a ledger a rule over any heap -/
def noObjs (h : Heap) : Heap := { h with objs := #[] }
theorem noObjs_get (h : Heap) (b : Addr) : (noObjs h).get? b = none := by
  cases e : (noObjs h).get? b with
  | none => rfl
  | some o => exact absurd (Heap.lt_size e) (Nat.not_lt_zero _)
def ledger (h : Heap) (L d : Addr) : List (Addr × Obj) := (List.range h.objs.size).filterMap fun a => if a = L ∨ a = d then none else (h.get? a).map fun o => (a, o)
theorem mem_ledger {h : Heap} {L d a : Addr} {o : Obj} : (a, o) ∈ ledger h L d ↔ a ≠ L ∧ a ≠ d ∧ h.get? a = some o := by
  unfold ledger
  rw [List.mem_filterMap]
  constructor
  · rintro ⟨b, _, e⟩
    split at e
    · cases e
    · rename_i hb
      obtain ⟨o', ho, e'⟩ := Option.map_eq_some_iff.mp e
      cases e'
      exact ⟨fun q => hb (.inl q), fun q => hb (.inr q), ho⟩
  · rintro ⟨n1, n2, ho⟩
    refine ⟨a, List.mem_range.mpr (Heap.lt_size ho), ?_⟩
    rw [if_neg (show ¬ (a = L ∨ a = d) from fun q => q.elim n1 n2), ho] <;> rfl
theorem news_ledger {h : Heap} {L d : Addr} {od : Obj} (hne : d ≠ L) (ho : h.get? d = some od) : News (noObjs h) L h ([] ++ (d, od) :: ledger h L d) := by
  rintro ⟨a, o⟩ hp
  rcases List.mem_cons.mp hp with e | hp
  · cases e
    exact ⟨ho, hne, noObjs_get _ _⟩
  · obtain ⟨n1, n2, e⟩ := mem_ledger.mp hp
    exact ⟨e, n1, noObjs_get _ _⟩
theorem fr_all {h : Heap} {L : Addr} {m : Str → Option Value} (n : h.Ns L m) : Fr (noObjs h) L h m :=
  ⟨n, fun b o e => (by rw [noObjs_get] at e; cases e), Nat.zero_le _⟩
/-- Upd of the head entry (for append_K, setItem_K ..) -/
theorem upd_ledger {h : Heap} {L d : Addr} {o o' : Obj} : Upd d o o' ((d, o) :: ledger h L d) ((d, o') :: ledger h L d) :=
  .head fun ⟨_, _⟩ hp => (mem_ledger.mp hp).2.1

/-- x.name = v over any heap: L is any namespace of the heap (the frame's, say): its map stays, its object is not told; all else but the dict stays -/
theorem set_field {x C dx L : Addr} {ox : Obj} {m : Str → Option Value} {es es' : List DictEntry} {n n' : Nat} {name : Str} {v : Value} {Q : Unit → Shared → Prop}
    (X : K.In s.heap) (I : PySem.W.InstAt s.heap x ox C (some (dictOf es n))) (hd : ox.dict = some dx) (hL : s.heap.Ns L m) (hne : dx ≠ L)
    (hs : findIn K (.ref C) "__setattr__" = some (some (.builtin "object.__setattr__"))) (hp : plainOver K C = true) (ht : takerIn K C name = some none) (hh : hasDictIn K C = true) (hl : (getL name es).isSome = true)
    (e : (putL name (PyData.keyHash w.params name) (.str name (s.toks + 1)) v es, putN name es n) = (es', n')) (hz : es'.length ≤ 1000)
    (h : ∀ h' : Heap, h'.Ns L m → h'.get? dx = some (dictOf es' n') → (∀ b o, b ≠ dx → b ≠ L → s.heap.get? b = some o → h'.get? b = some o) → Q () { s with heap := h', toks := s.toks + 2 }) :
    wpAny (model prog w) A (setAttr (.ref x) name v) Q E s := by
  obtain ⟨e1, e2⟩ := Prod.mk.inj e
  have hdx : s.heap.get? dx = some (dictOf es n) := by
    have := I.dict
    rw [hd] at this
    exact this
  refine set_plain X I hs (osa_dict (s := { s with toks := s.toks + 1 }) (h₀ := noObjs s.heap) (L := L) (m := m) (od := dictOf es n) (od' := dictOf es' n') (es := es') (n := n') (pre := []) (post := ledger s.heap L dx)
    (fr_all hL) (news_ledger hne hdx) X I hd hp ht hh hl (fun _ q => nomatch q) (fun ⟨_, _⟩ q => (mem_ledger.mp q).2.1) (by rw [putName_dict, e1, e2]) rfl hz fun h' F' N' => ?_)
  exact h h' F'.ns (N'.get (List.Mem.head _)) fun b o n1 n2 ho => N'.get (List.Mem.tail _ (mem_ledger.mpr ⟨n2, n1, ho⟩))
end
end Att

namespace L2
open PySem PySem.Spec PyProof.Rows

theorem vals_ints : ∀ {vs : List Value} {ns : List Int}, IntsAre vs ns → Vals (ns.map V.int) vs
  | _, _, .nil => .nil
  | _, _, .cons n t h => .cons ⟨t, rfl⟩ (vals_ints h)

/-- nothing is tracked but the script, known to the object (or it is an object of the module) -/
def Only (H : Hp) : Prop := ∀ b, H b = none ∨ ∃ o xs, H b = some (.frz o (.lst xs))

/-- THE HEAD: the law's promise, at the heap behind the top. F, the promise of the law's def, may use that base is part of the heap (so K.In base, base.Ns mainGlobals mg stand in Mod) -/
theorem law_call {P : Program} {w : World} {K : PySem.W.Frag} {mg mb : Str → Option Value} {CX : CXT} {k : Nat} {fa a : Addr} {fd : FuncData} {x : Str} {sp : Sp} {s₁ : Shared} {vs : List Value} {ns : List Int}
    (KX : K.In s₁.heap) (hns : s₁.heap.Ns mainGlobals mg) (hb : s₁.heap.Ns builtinsNs mb) (hbb : ∀ x : Str, x ≠ "__name__" → mb x = bootBuiltins x) (hlim : s₁.heap.NoLimit) (hg : s₁.gens = #[])
    (ha : s₁.heap.get? a = some { cls := .type "list", data := .seq vs.toArray }) (hi : IntsAre vs ns) (hl : ns.length ≤ sizeLine) (hr : Room k callerA)
    (F : ∀ base : Heap, K.In base → base.Ns mainGlobals mg → FnOk P w K mg base CX k fa fd [x] sp) (hbind : ∀ (s : Shared) (u : Value), BindsTo s fd ⟨[u], []⟩ [(x, u)])
    (hsp : ∀ H : Hp, Only H → SqL K H a (ns.map V.int) → sp [.ref a] H (fun v _ => v = .bl true) fun _ _ _ => False)
    (hCX : ∀ H e s', CX [] H s₁ (fun _ _ _ => False) e s' → False) :
    codeAny (model P w) callerA (.call (.ref fa) ⟨[.ref a], []⟩) (fun r s' => r = .ok (.ret (.bool true)) ∧ OldK s₁.heap s'.heap ∧ s'.os = s₁.os ∧ AllBare s'.gens) s₁ := by
  have rv := vals_ints hi
  have lenV := hi.length
  -- from an abstract heap in which nothing but the script may be tracked
  have core : ∀ H : Hp, Only H → SqL K H a (ns.map V.int) → HOk P w H s₁.heap → (∀ b, H b ≠ none → b = a) → (H a ≠ none → K.lookup a = none) →
      codeAny (model P w) callerA (.call (.ref fa) ⟨[.ref a], []⟩) (fun r s' => r = .ok (.ret (.bool true)) ∧ OldK s₁.heap s'.heap ∧ s'.os = s₁.os ∧ AllBare s'.gens) s₁ := by
    intro H hO hS hok hA hK
    have base_of : ∀ {b : Addr} {o : Obj}, s₁.heap.get? b = some o → H b = none → (hidT s₁.heap H).get? b = some o := fun e n => hidT_get e n
    have noA : ∀ {b : Addr} {o : Obj} {es : Array DictEntry} {ep : Nat}, s₁.heap.get? b = some o → o.data = .dict es ep → H b = none := fun {b o es ep} e d => by
      cases q : H b with
      | none => rfl
      | some u =>
        have e' : b = a := hA b (by rw [q]; simp)
        subst e'
        rw [ha] at e; cases e
        have d' : Data.seq vs.toArray _ = Data.dict es ep := d
        cases d'
    have nsK : ∀ {b : Addr} {m : Str → Option Value}, s₁.heap.Ns b m → (hidT s₁.heap H).Ns b m := fun {b m} ⟨o, es, ep, e, d, r⟩ => ⟨o, es, ep, base_of e (noA e d), d, r⟩
    have hKb : K.In (hidT s₁.heap H) := fun b o e => base_of (KX b o e) (by
      cases q : H b with
      | none => rfl
      | some u =>
        have e' : b = a := hA b (by rw [q]; simp)
        subst e'
        rw [hK (by rw [q]; simp)] at e; cases e)
    have hM : Mod K mg (hidT s₁.heap H) := ⟨hKb, nsK hns, ⟨mb, nsK hb, hbb⟩, let ⟨mc, h1, h2⟩ := hlim; ⟨mc, nsK h1, h2⟩⟩
    have e0 : Env0 P w K mg (hidT s₁.heap H) callerA [] s₁ H := ⟨rfl, hM, fun b o e => of_hidT e, Nat.le_of_eq (hidT_size _ _), trivial, fun b hb => absurd (show b ∈ ([] : List Addr) from hb) (by simp), hok, .of_eq hg⟩
    refine codeAny_mono ((F _ hKb (nsK hns)).run callerA [] s₁ H ⟨[.ref a], []⟩ [.ref a] [.ref a] _ _ hr e0 (hbind s₁ (.ref a)) (.cons rfl .nil) (hsp H hO hS)) fun r s' h => ?_
    cases r with
    | error e => exact (hCX H e s' h).elim
    | ok fl =>
      cases fl with
      | next => exact False.elim h
      | brk => exact False.elim h
      | cont => exact False.elim h
      | ret u =>
        obtain ⟨v, H', os, bare, un, hok', r', q⟩ := h
        have q' : v = .bl true := q
        subst q'
        obtain rfl : u = Value.bool true := r'
        refine ⟨rfl, OldK.of_keep fun b o e => ?_, os, bare⟩
        cases q : H b with
        | none => exact un.keep b o e q (by intro z; exact absurd (show b ∈ ([] : List Addr) from z) (by simp)) (by simp)
        | some u =>
          rcases hO b with z | ⟨ob, xs, z⟩
          · rw [q] at z; cases z
          · have z2 := un.frzs b ob _ z
            obtain ⟨e1, _⟩ := hok b _ z
            obtain ⟨e2, _⟩ := hok' b _ z2
            rw [e] at e1; cases e1
            exact e2
  cases hk : K.lookup a with
  | some o =>
    -- the script is one of the module's own objects
    have e := KX a o hk
    rw [ha] at e
    cases e
    refine core (fun _ => none) (fun _ => .inl rfl) (.inr ⟨_, vs.toArray, _, hk, rfl, rfl, rfl, by rw [List.size_toArray, lenV]; exact hl, by simpa using rv⟩) (fun b u z => by have z' : (none : Option HO) = some u := z; cases z') (fun b z => absurd rfl z) fun z => absurd rfl z
  | none =>
    refine core (fun b => if b = a then some (.frz { cls := .type "list", data := .seq vs.toArray } (.lst (ns.map V.int))) else none) (fun b => ?_) (.inl (.inr ⟨{ cls := .type "list", data := .seq vs.toArray }, if_pos rfl⟩)) (fun b u z => ?_) (fun b z => ?_) fun _ => hk
    · by_cases hb : b = a
      · exact .inr ⟨_, _, if_pos hb⟩
      · exact .inl (if_neg hb)
    · by_cases hb : b = a
      · have z' := (if_pos hb).symm.trans z
        cases z'
        subst hb
        exact ⟨ha, by rw [List.length_map]; exact hl, vs, _, rv, ha⟩
      · have z' := (if_neg hb).symm.trans z
        cases z'
    · by_cases hb : b = a
      · exact hb
      · exact absurd (if_neg hb) z
end L2

namespace L2
open PySem PySem.Spec PyProof.Rows

abbrev KOf {K : PySem.W.Frag} {h : Heap} (_ : K.In h) : PySem.W.Frag := K

/-- the goal that k_head leaves (case hc), from the law's promise. F gives the function object fd (K's own) once, then the promise over every base -/
theorem walk_of {l : PySem.W.OpenLaw} {n k : Nat} {q : Program} {loose : List Str} {XP : (Str → Option Value) → Heap → Prop} {YP : World → Heap → Prop} {d : DefRec} {K : Params → PySem.W.Frag} {CX : World → CXT} {sp : World → Sp} {x : Str}
    (hn : l.most = some n) (hn2 : n ≤ sizeLine) (hdf : d.params.defaults = []) (hr : Room k callerA)
    (hY : ∀ (w : World) (h : Heap), YP w h → (K w.params).In h)
    (F : ∀ (w : World) (mg : Str → Option Value) (fa : Addr) (h : Heap), (K w.params).In h → h.Ns mainGlobals mg → mg d.name = some (.ref fa) →
      ∃ fd : FuncData, (∀ (s : Shared) (u : Value), BindsTo s fd ⟨[u], []⟩ [(x, u)]) ∧
        ∀ base : Heap, (K w.params).In base → base.Ns mainGlobals mg → FnOk l.prog w (K w.params) mg base (CX w) k fa fd [x] (sp w))
    (hsp : ∀ (w : World) (H : Hp) (a : Addr) (ns : List Int), ns.length ≤ n → Only H → SqL (K w.params) H a (ns.map V.int) → sp w [.ref a] H (fun v _ => v = .bl true) fun _ _ _ => False)
    (hCX : ∀ (w : World) (H : Hp) (s : Shared) (e : Value) (s' : Shared), CX w [] H s (fun _ _ _ => False) e s' → False) :
    PySem.W.WalkO q loose XP YP l.row.toRowW d [] (fun f vs => PySem.call f vs) := by
  refine Att.attach_call hn hdf fun w s₀ s₁ mg mb fa o pm cd doc a vs ns G Y ho hd hcd hmg hobj hints hlen hg => ?_
  have KX := hY w _ Y
  obtain ⟨fd, hb, hF⟩ := F w mg fa _ KX G.T.g hmg
  exact law_call KX G.T.g G.T.b G.T.builtins G.T.nolimit hg hobj hints (Nat.le_trans hlen hn2) hr hF hb (fun H hO hS => hsp w H a ns hlen hO hS) fun H e s' => hCX w H s₁ e s'
/-- the same where the promise hangs on the written part alone: (sp := My.sp_law), no hole under a binder -/
theorem walk_ofK {l : PySem.W.OpenLaw} {n k : Nat} {q : Program} {loose : List Str} {XP : (Str → Option Value) → Heap → Prop} {YP : World → Heap → Prop} {d : DefRec} {K : Params → PySem.W.Frag} {CX : CXT} {sp : PySem.W.Frag → Sp} {x : Str}
    (hn : l.most = some n) (hn2 : n ≤ sizeLine) (hdf : d.params.defaults = []) (hr : Room k callerA)
    (hY : ∀ (w : World) (h : Heap), YP w h → (K w.params).In h)
    (F : ∀ (w : World) (mg : Str → Option Value) (fa : Addr) (h : Heap), (K w.params).In h → h.Ns mainGlobals mg → mg d.name = some (.ref fa) →
      ∃ fd : FuncData, (∀ (s : Shared) (u : Value), BindsTo s fd ⟨[u], []⟩ [(x, u)]) ∧
        ∀ base : Heap, (K w.params).In base → base.Ns mainGlobals mg → FnOk l.prog w (K w.params) mg base CX k fa fd [x] (sp (K w.params)))
    (hsp : ∀ (K : PySem.W.Frag) (H : Hp) (a : Addr) (ns : List Int), ns.length ≤ n → Only H → SqL K H a (ns.map V.int) → sp K [.ref a] H (fun v _ => v = .bl true) fun _ _ _ => False)
    (hCX : ∀ (H : Hp) (s : Shared) (e : Value) (s' : Shared), CX [] H s (fun _ _ _ => False) e s' → False) :
    PySem.W.WalkO q loose XP YP l.row.toRowW d [] (fun f vs => PySem.call f vs) :=
  walk_of (K := K) (CX := fun _ => CX) (sp := fun w => sp (K w.params)) hn hn2 hdf hr hY F (fun w H a ns h1 h2 h3 => hsp (K w.params) H a ns h1 h2 h3) fun _ H s e s' => hCX H s e s'
end L2

/- THE LAST THEOREM (shape; LID, My.* are yours):
   My.Adr: a structure of the addresses that your layer names (classes, functions); My.Txt K t: a structure (Prop) of the equations over K;
   My.txt_mk : {K} {implicit addresses ..} (e1 : nsIn K mainGlobals "law" = some (some (.ref f))) (e2 : K.lookup f = some ⟨oc, od, .func (fnOf "law" "law" params body scope dV kV doc pm an cdv ct), sl⟩) (e3 : codeIn K cdv "law" = true) .. : ∃ t, My.Txt K t

set_option maxRecDepth 100000 in
set_option maxHeartbeats 0 in
theorem PySem.Challenge.cw_LID_holds : PySem.Challenge.rw_LID.Holds := by
  w_on; o_law; k_head; (case hw => w_witness2)
  k_fill
  refine L2.walk_of (l := PySem.Challenge.rw_LID) (n := 63) (k := 40) (x := "script") (CX := fun w => ..) (sp := fun _ => My.sp_law) rfl (by decide) rfl ⟨rfl, by decide, by decide⟩ (fun w h Y => PySem.W.kIn_of Y) ?F ?S ?C
  case F =>
    intro w mg fa h KX G hmg
    have T : ∃ t, My.Txt (L2.KOf KX) t := by
      dsimp only [L2.KOf]                          -- K must stand as «<heap const> w.params» for k_is
      refine' My.txt_mk ?e1 ?e2 ?e3 ..
      (case e1 => PySem.W.k_is)                    -- in the order: a name -> its address -> its object -> its parts
      (case e2 => PySem.W.k_is)
      ..
    obtain ⟨t, T⟩ := T
    have e0 := hmg.symm.trans (PySem.W.mg_of KX G T.law)
    cases e0                                       -- fa is the law's own address
    exact ⟨_, fun s u => .of_eq rfl, fun base kb nb => My.law_fn T kb nb⟩     -- if «.of_eq rfl» comes too early: refine' ⟨_, ?b, fun base kb nb => My.law_fn T kb nb⟩; exact fun s u => .of_eq rfl
  case S => exact fun w H a ns hl hO hS => ..
  case C => exact ..
(the tactic k_is has no namespace: write k_is) -/

/-! SHORT WORDS over the layer: a def of the text, its body, what a loop and a test want. -/
namespace L2
open PySem PySem.Spec PyProof.Rows

/-! ### the text by places -/
/-- the j-th statement of a class's body -/
def inClass (s : Stmt) (j : Nat) : Stmt := match s with
  | .ClassDef _ _ _ body _ _ _ _ _ _ _ => body.getD j (.Pass ⟨0, 0, 0, 0⟩)
  | _ => .Pass ⟨0, 0, 0, 0⟩
def defArgs (s : Stmt) : Arguments := match s with
  | .FunctionDef _ a _ _ _ _ _ _ _ _ => a
  | _ => { posonlyargs := [], args := [], vararg := none, kwonlyargs := [], kw_defaults := [], kwarg := none, defaults := [] }
def defBody (s : Stmt) : List Stmt := match s with
  | .FunctionDef _ _ b _ _ _ _ _ _ _ => b
  | _ => []
def defScope (s : Stmt) : Scope := match s with
  | .FunctionDef _ _ _ _ _ _ sc _ _ _ => sc
  | _ => { kind := .function, names := [], isGenerator := false, isCoroutine := false }

/-! ### no exception leaves a def -/
abbrev CX0 : CXT := fun _ _ _ _ _ _ => False
abbrev E0 : XK := fun _ _ _ => False
theorem pass0 {X : Cx} : Passes CX0 X E0 := fun _ _ _ _ _ _ _ h => h.elim

/-! ### a def (or method) of the text as it stands behind the top -/
structure Fun (K : PySem.W.Frag) (x qual : Str) (st : Stmt) (f : Addr) (fd : FuncData) : Prop where
  ex : ∃ (oc : Value) (od : Option Addr) (kV doc pm : Value) (an : Option Addr) (cdv ct : Value) (osl : Array (Option Value)),
    fd = PySem.W.fnOf x qual (defArgs st) (defBody st) (defScope st) .none kV doc pm an cdv ct ∧ K.lookup f = some ⟨oc, od, .func fd, osl⟩ ∧ PySem.W.codeIn K cdv qual = true
  kp : PySem.W.keepIn K (.ref f) = true
section
variable {P : Program} {w : World} {K : PySem.W.Frag} {mg : Str → Option Value} {base : Heap}
/-- THE RULE for a def: its body as a term of rules, and the reading of that term -/
theorem Fun.ok {x qual : Str} {st : Stmt} {f : Addr} {fd : FuncData} {N ps : List Str} {k : Nat} {sp : Sp} (F : Fun K x qual st f fd) (S : FnScope N ps (defScope st)) (len : ∀ vs H Q E, sp vs H Q E → vs.length = ps.length)
    (hbody : ∀ (cdv : Value) (A : Around) (outer : List Env) (s : Shared) (H : Hp) (vs : List V) (Q : VK) (E : XK), Room k (A.deeper (envOfC qual (defScope st) s.heap.objs.size f cdv)) → sp vs H Q E →
      ∃ t, PSs (cxOf CX0 P w K mg base N qual (defScope st) f cdv A outer s H E).nox (defBody st) t ∧ t { nx := fun _ H' => Q .non H', rt := Q } (start N vs) H) : FnOk P w K mg base CX0 (k + 1) f fd ps sp := by
  obtain ⟨oc, od, kV, doc, pm, an, cdv, ct, osl, rfl, lk, hcd⟩ := F.ex
  refine fn_of lk hcd S len fun A outer s H vs Q E hr hsp => ?_
  obtain ⟨t, h, q⟩ := hbody cdv A outer s H vs Q E hr hsp
  exact ⟨t, h.nox, q⟩
/-- how its arguments bind (no defaults): h is «fun _ _ _ _ _ _ us hl => match us, hl with | [_, _], _ => rfl», one _ a parameter -/
theorem Fun.binds {x qual : Str} {st : Stmt} {f : Addr} {fd : FuncData} {ps : List Str} (F : Fun K x qual st f fd)
    (h : ∀ (kV doc pm : Value) (an : Option Addr) (cdv ct : Value) (us : List Value), us.length = ps.length → bindArgs (PySem.W.fnOf x qual (defArgs st) (defBody st) (defScope st) .none kV doc pm an cdv ct) ⟨us, []⟩ = pure (ps.zip us)) : Binds K fd ps [] := by
  obtain ⟨oc, od, kV, doc, pm, an, cdv, ct, osl, rfl, lk, hcd⟩ := F.ex
  exact .all (h kV doc pm an cdv ct)
theorem fun_mk {x qual : Str} {st : Stmt} {f : Addr} {oc : Value} {od an : Option Addr} {osl : Array (Option Value)} {kV doc pm cdv ct : Value} (l : K.lookup f = some ⟨oc, od, .func (PySem.W.fnOf x qual (defArgs st) (defBody st) (defScope st) .none kV doc pm an cdv ct), osl⟩)
    (c : PySem.W.codeIn K cdv qual = true) (k : PySem.W.keepIn K (.ref f) = true) : Fun K x qual st f (PySem.W.fnOf x qual (defArgs st) (defBody st) (defScope st) .none kV doc pm an cdv ct) := ⟨⟨oc, od, kV, doc, pm, an, cdv, ct, osl, rfl, l, c⟩, k⟩
end
theorem hu_of {A : Around} {k : Nat} (hr : Room k A) : A.units + 1 < cLine := Nat.lt_of_le_of_lt (Nat.add_le_add_left (by decide : 1 ≤ 64) _) hr.units
theorem small1000 {n : Nat} (h : n ≤ 1000) : n < sizeLine := Nat.lt_of_le_of_lt h (by decide)

/-! ### expressions in short: the name that stands in the i-th slot -/
section
variable {X : Cx}
theorem pv (i : Nat) {x : Str} {pos : Pos} (hN : X.N[i]? = some x := by rfl) (hv : Vis X.env.scope x := by first | exact Or.inl rfl | exact Or.inr (Or.inl rfl) | exact Or.inr (Or.inr rfl)) (hd : (x == ("__debug__" : Str)) = false := by decide)
    (hcd : (x == ("__classdict__" : Str)) = false := by decide) : PE X (.Name x pos) (tVar i) := pe_var hN hv hd hcd
end

/-! ### tests -/
theorem iteF {A B : Prop} (h : B) : if false = true then A else B := by
  rw [if_neg Bool.false_ne_true]
  exact h
theorem iteT {A B : Prop} (h : A) : if true = true then A else B := by
  rw [if_pos rfl]
  exact h
theorem ite2 {c A B : Prop} [Decidable c] (h1 : c → A) (h2 : ¬ c → B) : if c then A else B := by
  by_cases h : c
  · rw [if_pos h]
    exact h1 h
  · rw [if_neg h]
    exact h2 h
theorem iteNS {c A B : Prop} [Decidable c] (hc : c) (h : B) : if (!decide c) = true then A else B := by
  rw [decide_eq_true hc]
  exact iteF h

/-! ### heaps -/
/-- all that was tracked is as it was -/
def Same (H H' : Hp) : Prop := ∀ b o, H b = some o → H' b = some o
theorem Same.refl (H : Hp) : Same H H := fun _ _ h => h
theorem Same.trans {H H1 H2 : Hp} (a : Same H H1) (b : Same H1 H2) : Same H H2 := fun c o h => b c o (a c o h)
theorem Same.free {H H' : Hp} (e : Same H H') {l : Addr} (h : H' l = Option.none) : H l = Option.none := by
  cases q : H l with
  | none => rfl
  | some o =>
    rw [e l o q] at h
    cases h
theorem Same.seq {K : PySem.W.Frag} {H H' : Hp} {a : Addr} {xs : List V} (e : Same H H') (h : SqL K H a xs) : SqL K H' a xs := by
  rcases h with (h | ⟨o, h⟩) | h
  · exact .inl (.inl (e _ _ h))
  · exact .inl (.inr ⟨o, e _ _ h⟩)
  · exact .inr h

end L2

set_option Elab.async false
set_option linter.all false
set_option maxRecDepth 100000
set_option maxHeartbeats 1000000
namespace L2
open PySem PySem.Spec PyProof.Rows

/-! ### lists of pairs as tables -/
section
variable {κ : Type} [DecidableEq κ]
def valV (kvs : List (κ × V)) (k : κ) : Option V := (kvs.find? fun kv => decide (kv.1 = k)).map (·.2)
/-- in its place, or at the end -/
def putK (kvs : List (κ × V)) (k : κ) (v : V) : List (κ × V) :=
  if (kvs.any fun kv => decide (kv.1 = k)) = true then kvs.map (fun kv => if kv.1 = k then (kv.1, v) else kv) else kvs ++ [(k, v)]
def dropK (kvs : List (κ × V)) (k : κ) : List (κ × V) := kvs.filter fun kv => decide (kv.1 ≠ k)

theorem valV_nil {k : κ} : valV ([] : List (κ × V)) k = none := rfl
theorem valV_pos {p : κ × V} {r : List (κ × V)} {k : κ} (e : p.1 = k) : valV (p :: r) k = some p.2 := by simp [valV, List.find?_cons, e]
theorem valV_neg {p : κ × V} {r : List (κ × V)} {k : κ} (e : ¬ p.1 = k) : valV (p :: r) k = valV r k := by simp [valV, List.find?_cons, e]
theorem valV_any (k : κ) : ∀ kvs : List (κ × V), (kvs.any fun kv => decide (kv.1 = k)) = (valV kvs k).isSome
  | [] => rfl
  | p :: r => by
    rw [List.any_cons]
    by_cases e : p.1 = k
    · simp only [valV_pos e, decide_eq_true e, Bool.true_or, Option.isSome_some]
    · rw [valV_neg e, decide_eq_false e, Bool.false_or]; exact valV_any k r
theorem valV_map (k j : κ) (y : V) : ∀ kvs : List (κ × V), valV (kvs.map fun kv => if kv.1 = k then (kv.1, y) else kv) j = (valV kvs j).map fun x => if j = k then y else x
  | [] => rfl
  | p :: r => by
    have ih := valV_map k j y r
    rw [List.map_cons]
    by_cases h : p.1 = k
    · rw [if_pos h]
      by_cases e : p.1 = j
      · rw [valV_pos (p := (p.1, y)) e, valV_pos e, Option.map_some, if_pos (e.symm.trans h)]
      · rw [valV_neg (p := (p.1, y)) e, valV_neg e, ih]
    · rw [if_neg h]
      by_cases e : p.1 = j
      · rw [valV_pos (p := p) e, valV_pos e, Option.map_some, if_neg (fun z => h (e.trans z))]
      · rw [valV_neg (p := p) e, valV_neg e, ih]
theorem valV_snoc (k j : κ) (y : V) : ∀ kvs : List (κ × V), valV kvs k = none → valV (kvs ++ [(k, y)]) j = if j = k then some y else valV kvs j
  | [], _ => by
    by_cases e : k = j
    · rw [if_pos e.symm]; exact valV_pos (p := (k, y)) e
    · rw [if_neg (fun z => e z.symm)]; exact valV_neg (p := (k, y)) e
  | p :: r, hn => by
    rw [List.cons_append]
    have hk : ¬ p.1 = k := fun z => by rw [valV_pos z] at hn; cases hn
    rw [valV_neg hk] at hn
    have ih := valV_snoc k j y r hn
    by_cases e : p.1 = j
    · rw [valV_pos e, valV_pos e, if_neg (fun z => hk (e.trans z))]
    · rw [valV_neg e, valV_neg e, ih]
theorem valV_put (kvs : List (κ × V)) (k j : κ) (y : V) : valV (putK kvs k y) j = if j = k then some y else valV kvs j := by
  unfold putK
  by_cases a : (kvs.any fun kv => decide (kv.1 = k)) = true
  · rw [if_pos a, valV_map]
    rw [valV_any] at a
    by_cases e : j = k
    · obtain ⟨x, hx⟩ := Option.isSome_iff_exists.mp a
      rw [if_pos e, e, hx, Option.map_some, if_pos rfl]
    · rw [if_neg e]
      cases valV kvs j with
      | none => rfl
      | some x => rw [Option.map_some, if_neg e]
  · rw [if_neg a]
    refine valV_snoc k j y kvs ?_
    rw [valV_any] at a
    cases q : valV kvs k with
    | none => rfl
    | some x => rw [q] at a; exact (a rfl).elim
theorem length_putK (kvs : List (κ × V)) (k : κ) (v : V) : (putK kvs k v).length ≤ kvs.length + 1 := by
  unfold putK
  split
  · rw [List.length_map]; omega
  · rw [List.length_append, List.length_cons, List.length_nil]; omega
theorem putK_new {kvs : List (κ × V)} {k : κ} (v : V) (h : valV kvs k = none) : putK kvs k v = kvs ++ [(k, v)] := by
  unfold putK
  rw [valV_any, h]
  exact if_neg (by decide)

theorem RelO.isSome_eq {o : Option V} {u : Option Value} (r : RelO o u) : o.isSome = u.isSome := by
  cases o with
  | none => cases u with
    | none => rfl
    | some _ => exact (show False from r).elim
  | some _ => cases u with
    | none => exact (show False from r).elim
    | some _ => rfl
theorem RelO.getD {o : Option V} {u : Option Value} {d : V} {d' : Value} (r : RelO o u) (rd : RelV d d') : RelV (o.getD d) (u.getD d') := by
  cases o with
  | none => cases u with
    | none => exact rd
    | some _ => exact (show False from r).elim
  | some _ => cases u with
    | none => exact (show False from r).elim
    | some _ => exact r

/-- raw tables of the same keys -/
theorem KV.val {kvs : List (κ × V)} {vs : List (κ × Value)} (r : KV kvs vs) (k : κ) : RelO (valV kvs k) (valueAt vs k) := by
  unfold KV at r
  induction r with
  | nil => exact True.intro
  | @cons p q ps qs h t ih =>
    obtain ⟨h1, h2⟩ := h
    by_cases e : p.1 = k
    · have e' : q.1 = k := h1.symm.trans e
      have b : valueAt (q :: qs) k = some q.2 := by simp [valueAt, List.find?_cons, e']
      rw [valV_pos e, b]; exact h2
    · have e' : ¬ q.1 = k := fun z => e (h1.trans z)
      have b : valueAt (q :: qs) k = valueAt qs k := by simp [valueAt, List.find?_cons, e']
      rw [valV_neg e, b]; exact ih
theorem KV.any {kvs : List (κ × V)} {vs : List (κ × Value)} (r : KV kvs vs) (k : κ) : (kvs.any fun kv => decide (kv.1 = k)) = vs.any fun kv => decide (kv.1 = k) := by
  unfold KV at r
  induction r with
  | nil => rfl
  | cons h t ih => rw [List.any_cons, List.any_cons, ih, h.1]
theorem KV.repl {kvs : List (κ × V)} {vs : List (κ × Value)} (r : KV kvs vs) (k : κ) {y : V} {u : Value} (ry : RelV y u) :
    KV (kvs.map fun kv => if kv.1 = k then (kv.1, y) else kv) (vs.map fun kv => if kv.1 = k then (kv.1, u) else kv) := by
  unfold KV at r ⊢
  induction r with
  | nil => exact .nil
  | @cons p q ps qs h t ih =>
    rw [List.map_cons, List.map_cons]
    refine .cons ?_ ih
    obtain ⟨h1, h2⟩ := h
    by_cases e : p.1 = k
    · rw [if_pos e, if_pos (h1.symm.trans e)]; exact ⟨h1, ry⟩
    · rw [if_neg e, if_neg (fun z => e (h1.trans z))]; exact ⟨h1, h2⟩
theorem KV.put {kvs : List (κ × V)} {vs : List (κ × Value)} (r : KV kvs vs) (k : κ) {y : V} {u : Value} (ry : RelV y u) : KV (putK kvs k y) (stored vs k u) := by
  unfold putK stored
  rw [r.any k]
  by_cases e : (vs.any fun kv => decide (kv.1 = k)) = true
  · rw [if_pos e, if_pos e]; exact r.repl k ry
  · rw [if_neg e, if_neg e]; exact Paired.snoc r ⟨rfl, ry⟩
theorem KV.drop {kvs : List (κ × V)} {vs : List (κ × Value)} (r : KV kvs vs) (k : κ) : KV (dropK kvs k) (without vs k) := by
  unfold KV at r ⊢
  unfold dropK without
  induction r with
  | nil => exact .nil
  | @cons p q ps qs h t ih =>
    obtain ⟨h1, h2⟩ := h
    rw [List.filter_cons, List.filter_cons]
    by_cases e : p.1 = k
    · have a : ¬ decide (p.1 ≠ k) = true := by simp [e]
      have b : ¬ decide (q.1 ≠ k) = true := by simp [h1.symm.trans e]
      rw [if_neg a, if_neg b]; exact ih
    · have e' : ¬ q.1 = k := fun z => e (h1.trans z)
      have a : decide (p.1 ≠ k) = true := by simp [e]
      have b : decide (q.1 ≠ k) = true := by simp [e']
      rw [if_pos a, if_pos b]; exact .cons ⟨h1, h2⟩ ih
theorem KV.keys {kvs : List (κ × V)} {vs : List (κ × Value)} (r : KV kvs vs) : kvs.map (·.1) = vs.map (·.1) := by
  unfold KV at r
  induction r with
  | nil => rfl
  | cons h t ih => rw [List.map_cons, List.map_cons, ih, h.1]
theorem KV.length {kvs : List (κ × V)} {vs : List (κ × Value)} (r : KV kvs vs) : kvs.length = vs.length := Paired.length r
theorem dropK_le (kvs : List (κ × V)) (k : κ) : (dropK kvs k).length ≤ kvs.length := List.length_filter_le _ _
end


/-! ### a tracked dict, its keys ints and texts or tuples of these -/
theorem kV_is {P : Program} {w : World} {k : Key} {u : Value} (r : RelV (kV k) u) : (mixKind P w).is k u = true := by
  cases k with
  | inl i => obtain ⟨t, e⟩ := (show ∃ t, u = Value.int i t from r); subst e; exact mixKind_int P w i t
  | inr x => obtain ⟨t, e⟩ := (show ∃ t, u = Value.str x t from r); subst e; exact mixKind_str P w x t
theorem kV_inj {a b : Key} (e : kV a = kV b) : a = b := by
  cases a with
  | inl i => cases b with
    | inl j => have e' : V.int i = V.int j := e; injection e' with e'; rw [e']
    | inr y => exact nomatch (show V.int i = V.str y from e)
  | inr x => cases b with
    | inl j => exact nomatch (show V.str x = V.int j from e)
    | inr y => have e' : V.str x = V.str y := e; injection e' with e'; rw [e']
theorem kVs_inj : ∀ {a b : List Key}, a.map kV = b.map kV → a = b
  | [], [], _ => rfl
  | [], _ :: _, e => by simp at e
  | _ :: _, [], e => by simp at e
  | x :: xs, y :: ys, e => by
    rw [List.map_cons, List.map_cons] at e
    injection e with e1 e2
    rw [kV_inj e1, kVs_inj e2]
theorem items_are {P : Program} {w : World} : ∀ {ks : List Key} {us : List Value}, Vals (ks.map kV) us → ItemsAre (mixKind P w) ks us
  | [], _, r => by rw [List.map_nil] at r; cases r; exact .nil
  | k :: ks, _, r => by
    rw [List.map_cons] at r
    cases r with
    | cons h t => exact .cons (kV_is h) (items_are t)

/-- raw entries of a dict with tuple keys -/
abbrev KT (H : Hp) : List (List Key × V) → List (List Key × Addr × Value) → Prop := Paired fun p q => p.1 = q.1 ∧ H q.2.1 = some (.tup (p.1.map kV)) ∧ RelV p.2 q.2.2
theorem KT.val {H : Hp} {kvs : List (List Key × V)} {xs : List (List Key × Addr × Value)} (r : KT H kvs xs) (k : List Key) : RelO (valV kvs k) ((atKey xs k).map (·.2)) := by
  induction r with
  | nil => exact True.intro
  | @cons p q ps qs h t ih =>
    obtain ⟨h1, _, h2⟩ := h
    by_cases e : p.1 = k
    · have e' : q.1 = k := h1.symm.trans e
      have b : atKey (q :: qs) k = some q.2 := by simp [atKey, List.find?_cons, e']
      rw [valV_pos e, b]; exact h2
    · have e' : ¬ q.1 = k := fun z => e (h1.trans z)
      have b : atKey (q :: qs) k = atKey qs k := by simp [atKey, List.find?_cons, e']
      rw [valV_neg e, b]; exact ih
theorem KT.repl {H : Hp} {kvs : List (List Key × V)} {xs : List (List Key × Addr × Value)} (r : KT H kvs xs) (k : List Key) {y : V} {u : Value} (ry : RelV y u) :
    KT H (kvs.map fun kv => if kv.1 = k then (kv.1, y) else kv) (xs.map (putAt k u)) := by
  induction r with
  | nil => exact .nil
  | @cons p q ps qs h t ih =>
    rw [List.map_cons, List.map_cons]
    refine .cons ?_ ih
    obtain ⟨h1, h2, h3⟩ := h
    unfold putAt
    by_cases e : p.1 = k
    · rw [if_pos e, if_pos (h1.symm.trans e)]; exact ⟨h1, h2, ry⟩
    · rw [if_neg e, if_neg (fun z => e (h1.trans z))]; exact ⟨h1, h2, h3⟩
theorem KT.put {H : Hp} {kvs : List (List Key × V)} {xs : List (List Key × Addr × Value)} (r : KT H kvs xs) (k : List Key) {b : Addr} {y : V} {u : Value} (hb : H b = some (.tup (k.map kV))) (ry : RelV y u) :
    KT H (putK kvs k y) (storedH xs k b u) := by
  have e : (kvs.any fun kv => decide (kv.1 = k)) = (atKey xs k).isSome := by
    rw [valV_any, (r.val k).isSome_eq, Option.isSome_map]
  unfold putK storedH
  rw [e]
  by_cases q : (atKey xs k).isSome = true
  · rw [if_pos q, if_pos q]; exact r.repl k ry
  · rw [if_neg q, if_neg q]; exact Paired.snoc r ⟨rfl, hb, ry⟩
theorem KT.keeps {H H' : Hp} {kvs : List (List Key × V)} {xs : List (List Key × Addr × Value)} (r : KT H kvs xs) (ht : ∀ b ys, H b = some (.tup ys) → H' b = some (.tup ys)) : KT H' kvs xs :=
  Paired.mapP r fun _ _ z => ⟨z.1, ht _ _ z.2.1, z.2.2⟩

section
variable {P : Program} {w : World} {H : Hp} {h : Heap} {a : Addr}
theorem rd_of {u : HO} (ok : HOk P w H h) (e : Rd H a u) : ObjOk P w H h a u := e.ok ok
theorem dk_rd {kvs : List (Key × V)} (ok : HOk P w H h) (e : Rd H a (.dK kvs)) : kvs.length ≤ sizeLine ∧ (a == sysModules) = false ∧ ∃ vs, KV kvs vs ∧ h.DictOf (mixKind P w) a vs :=
  show ObjOk P w H h a (.dK kvs) from rd_of ok e
theorem dk_of {kvs : List (Key × V)} (ok : HOk P w H h) (e : H a = some (.dK kvs)) : kvs.length ≤ sizeLine ∧ (a == sysModules) = false ∧ ∃ vs, KV kvs vs ∧ h.DictOf (mixKind P w) a vs := dk_rd ok (.inl e)
/-- a tracked tuple of ints and texts is a key -/
theorem key_of {ks : List Key} (ok : HOk P w H h) (e : H a = some (.tup (ks.map kV))) : (tupleKind (mixKind P w)).is h ks a := by
  obtain ⟨_, its, r, o, h1, h2, n, h3⟩ := (show ObjOk P w H h a (.tup (ks.map kV)) from ok a _ e)
  exact ⟨o, its.toArray, n, h1, h2, h3, by simpa using items_are r⟩
theorem dt_rd {kvs : List (List Key × V)} (ok : HOk P w H h) (e : Rd H a (.dT kvs)) : kvs.length ≤ sizeLine ∧ (a == sysModules) = false ∧
    ∃ xs, KT H kvs xs ∧ h.DictOfH (tupleKind (mixKind P w)) a xs := by
  obtain ⟨z, y, xs, r, o, es, ep, h1, h2, h3, h4, h5⟩ := (show ObjOk P w H h a (.dT kvs) from rd_of ok e)
  refine ⟨z, y, xs, r, o, es, ep, h1, h2, h3, h4, fun x hx => ?_, h5⟩
  have all : ∀ {l : List (List Key × V)} {m : List (List Key × Addr × Value)}, KT H l m → ∀ x ∈ m, (tupleKind (mixKind P w)).is h x.1 x.2.1 := by
    intro l m q
    induction q with
    | nil => intro x hx; exact nomatch hx
    | @cons p q ps qs hq t ih =>
      intro x hx
      rcases List.mem_cons.mp hx with e | hx
      · subst e
        exact key_of ok (by rw [← hq.1]; exact hq.2.1)
      · exact ih x hx
  exact all r x hx
theorem dt_of {kvs : List (List Key × V)} (ok : HOk P w H h) (e : H a = some (.dT kvs)) : kvs.length ≤ sizeLine ∧ (a == sysModules) = false ∧
    ∃ xs, KT H kvs xs ∧ h.DictOfH (tupleKind (mixKind P w)) a xs := dt_rd ok (.inl e)
end

/-- what the dict at a holds at the key y -/
def DGet (H : Hp) (a : Addr) (y : V) (r : Option V) : Prop :=
  (∃ kvs k, Rd H a (.dK kvs) ∧ y = kV k ∧ r = valV kvs k) ∨ ∃ kvs k b, Rd H a (.dT kvs) ∧ y = .ref b ∧ H b = some (.tup (k.map kV)) ∧ r = valV kvs k
/-- the heap behind a[y] = v -/
def DPut (H : Hp) (a : Addr) (y v : V) (H' : Hp) : Prop :=
  (∃ kvs k, H a = some (.dK kvs) ∧ y = kV k ∧ kvs.length < sizeLine ∧ H' = upd H a (.dK (putK kvs k v))) ∨
  ∃ kvs k b, H a = some (.dT kvs) ∧ y = .ref b ∧ H b = some (.tup (k.map kV)) ∧ kvs.length < sizeLine ∧ H' = upd H a (.dT (putK kvs k v))
theorem DGet.k {H : Hp} {a : Addr} {kvs : List (Key × V)} {k : Key} (e : H a = some (.dK kvs)) : DGet H a (kV k) (valV kvs k) := .inl ⟨kvs, k, .inl e, rfl, rfl⟩
theorem DGet.t {H : Hp} {a b : Addr} {kvs : List (List Key × V)} {k : List Key} (e : H a = some (.dT kvs)) (eb : H b = some (.tup (k.map kV))) : DGet H a (.ref b) (valV kvs k) := .inr ⟨kvs, k, b, .inl e, rfl, eb, rfl⟩
theorem DPut.k {H : Hp} {a : Addr} {kvs : List (Key × V)} {k : Key} {v : V} (e : H a = some (.dK kvs)) (hl : kvs.length < sizeLine) : DPut H a (kV k) v (upd H a (.dK (putK kvs k v))) := .inl ⟨kvs, k, e, rfl, hl, rfl⟩
theorem DPut.t {H : Hp} {a b : Addr} {kvs : List (List Key × V)} {k : List Key} {v : V} (e : H a = some (.dT kvs)) (eb : H b = some (.tup (k.map kV))) (hl : kvs.length < sizeLine) :
    DPut H a (.ref b) v (upd H a (.dT (putK kvs k v))) := .inr ⟨kvs, k, b, e, rfl, eb, hl, rfl⟩


section
variable {X : Cx} {pins : List (Addr × Obj)} {σ : St} {H : Hp} {s : Shared} {a : Addr} {y v : V} {u r : Value} {o : Option V} {A : Around} {E : Value → Shared → Prop}

theorem Inv.big (I : Inv X pins σ H s) : sysModules < s.heap.objs.size := by
  have h : mainGlobals < s.heap.objs.size := (I.mod.glob.keeps I.bk).lt
  exact Nat.lt_trans (by decide) h

/-- d[y], there -/
theorem d_getItem {Q : Value → Shared → Prop} (hu : A.units + 1 < cLine) (I : Inv X pins σ H s) (g : DGet H a y (some v)) (ry : RelV y u) (h : ∀ w' s', Inv X pins σ H s' → RelV v w' → Q w' s') :
    wpAny (model X.prog X.w) A (getItem (.ref a) u) Q E s := by
  rcases g with ⟨kvs, k, e, ey, l⟩ | ⟨kvs, k, b, e, ey, eb, l⟩
  · subst ey
    obtain ⟨z, hd, vs, rel, dd⟩ := dk_rd I.hok e
    obtain ⟨w', hw, rw'⟩ := RelO.some_of (v := v) (o := valueAt vs k) (by rw [l]; exact rel.val k)
    exact wpAny_getItem_of (kV_is ry) dd.mapOf hw (h w' _ (I.tok _) rw')
  · subst ey
    cases (show u = Value.ref b from ry)
    obtain ⟨z, hd, xs, rel, dd⟩ := dt_rd I.hok e
    obtain ⟨w', hw, rw'⟩ := RelO.some_of (v := v) (o := (atKey xs k).map (·.2)) (by rw [l]; exact rel.val k)
    obtain ⟨p, hp, hp2⟩ := Option.map_eq_some_iff.mp hw
    refine wpAny_getItem_heap (tupleKind_room_in1 hu) (key_of I.hok eb) dd hp ?_
    rw [hp2]
    exact h w' _ (I.tok _) rw'
/-- y in d -/
theorem d_in {Q : Value → Shared → Prop} (hu : A.units + 1 < cLine) (I : Inv X pins σ H s) (g : DGet H a y o) (ry : RelV y u) (h : ∀ s', Inv X pins σ H s' → Q (.bool o.isSome) s') :
    wpAny (model X.prog X.w) A (compareOp .In u (.ref a)) Q E s := by
  rcases g with ⟨kvs, k, e, ey, l⟩ | ⟨kvs, k, b, e, ey, eb, l⟩
  · subst ey
    obtain ⟨z, hd, vs, rel, dd⟩ := dk_rd I.hok e
    refine wpAny_in_of (kV_is ry) hd dd.mapOf ?_
    rw [← (rel.val k).isSome_eq, ← l]
    exact h _ (I.tok _)
  · subst ey
    cases (show u = Value.ref b from ry)
    obtain ⟨z, hd, xs, rel, dd⟩ := dt_rd I.hok e
    refine wpAny_in_heap (tupleKind_room_in1 hu) (key_of I.hok eb) hd dd ?_
    have q := (rel.val k).isSome_eq
    rw [Option.isSome_map] at q
    rw [← q, ← l]
    exact h _ (I.tok _)
theorem d_notIn {Q : Value → Shared → Prop} (hu : A.units + 1 < cLine) (I : Inv X pins σ H s) (g : DGet H a y o) (ry : RelV y u) (h : ∀ s', Inv X pins σ H s' → Q (.bool (!o.isSome)) s') :
    wpAny (model X.prog X.w) A (compareOp .NotIn u (.ref a)) Q E s := by
  rcases g with ⟨kvs, k, e, ey, l⟩ | ⟨kvs, k, b, e, ey, eb, l⟩
  · subst ey
    obtain ⟨z, hd, vs, rel, dd⟩ := dk_rd I.hok e
    refine wpAny_notIn_of (kV_is ry) hd dd.mapOf ?_
    rw [← (rel.val k).isSome_eq, ← l]
    exact h _ (I.tok _)
  · subst ey
    cases (show u = Value.ref b from ry)
    obtain ⟨z, hd, xs, rel, dd⟩ := dt_rd I.hok e
    refine wpAny_notIn_heap (tupleKind_room_in1 hu) (key_of I.hok eb) hd dd ?_
    have q := (rel.val k).isSome_eq
    rw [Option.isSome_map] at q
    rw [← q, ← l]
    exact h _ (I.tok _)
/-- a dict's object is replaced -/
theorem d_write {h' : Heap} {t' : Nat} {ob : HO} (I : Inv X pins σ H s) (mu : Mut (H a)) (hs : Heap.SameBut a s.heap h') (he : ∃ q, h'.get? a = some q) (new : ObjOk X.prog X.w (upd H a ob) h' a ob) :
    Inv X pins σ (upd H a ob) { s with heap := h', toks := t' } :=
  I.write (x := a) (e := a) mu (.inl rfl) (fun b q hb z => (hs.2 b hb).trans z) he new
theorem dk_new {P : Program} {w : World} {H' : Hp} {h' : Heap} {kvs : List (Key × V)} {vs : List (Key × Value)} (z : kvs.length ≤ sizeLine) (hd : (a == sysModules) = false) (rel : KV kvs vs) (dd : h'.DictOf (mixKind P w) a vs) :
    ObjOk P w H' h' a (.dK kvs) := ⟨z, hd, vs, rel, dd⟩
/-- d[y] = v -/
theorem d_setItem {H' : Hp} {Q : Unit → Shared → Prop} (hu : A.units + 1 < cLine) (I : Inv X pins σ H s) (g : DPut H a y v H') (ry : RelV y u) (rv : RelV v r) (h : ∀ s', Inv X pins σ H' s' → Q () s') :
    wpAny (model X.prog X.w) A (setItem (.ref a) u r) Q E s := by
  rcases g with ⟨kvs, k, e, ey, l, eH⟩ | ⟨kvs, k, b, e, ey, eb, l, eH⟩
  · subst ey eH
    obtain ⟨z, hd, vs, rel, dd⟩ := dk_of I.hok e
    have hz : vs.length ≤ sizeLine := by rw [← rel.length]; exact z
    have hl : (putK kvs k v).length ≤ sizeLine := by have := length_putK kvs k v; omega
    refine wpAny_setItem_pairs (hsz := hz) (kV_is ry) dd fun h' dd' hs => h _ ?_
    have he : ∃ q, h'.get? a = some q := let ⟨q, _, _, hq, _⟩ := dd'; ⟨q, hq⟩
    exact d_write I (by rw [e]; exact True.intro) hs he (dk_new hl hd (rel.put k rv) dd')
  · subst ey eH
    cases (show u = Value.ref b from ry)
    obtain ⟨z, hd, xs, rel, dd⟩ := dt_of I.hok e
    have hz : xs.length ≤ sizeLine := by rw [← Paired.length rel]; exact z
    have hl : (putK kvs k v).length ≤ sizeLine := by have := length_putK kvs k v; omega
    refine wpAny_setItem_heap (hsz := hz) (tupleKind_room_in1 hu) (key_of I.hok eb) dd fun h' dd' hs => h _ ?_
    obtain ⟨q, es, ep, hq, h2, h3, h4, _, h5⟩ := dd'
    refine d_write I (by rw [e]; exact True.intro) hs ⟨q, hq⟩ ⟨hl, hd, _, (rel.put k eb rv).keeps fun c ys ec => ?_, q, es, ep, hq, h2, h3, h4, h5⟩
    rw [upd_ne (ne_of ec e (fun z => nomatch z))]
    exact ec
end

section
variable {X : Cx} {pins : List (Addr × Obj)} {σ : St} {H : Hp} {s : Shared} {a : Addr} {kvs : List (Key × V)} {k : Key} {u : Value} {A : Around} {E : Value → Shared → Prop}
/-- del d[k] -/
theorem d_delItem {Q : Unit → Shared → Prop} (I : Inv X pins σ H s) (e : H a = some (.dK kvs)) (ry : RelV (kV k) u) (l : (valV kvs k).isSome = true) (h : ∀ s', Inv X pins σ (upd H a (.dK (dropK kvs k))) s' → Q () s') :
    wpAny (model X.prog X.w) A (delItem (.ref a) u) Q E s := by
  obtain ⟨z, hd, vs, rel, dd⟩ := dk_of I.hok e
  refine wpAny_delItem_slot dd.typeIs (by decide) PySem.F.slot_dict_delitem
    (call_meetsIn PySem.F.slot_dict_delitem dd.typeIs PySem.F.entry_dict_delitem (PySem.F.args_dict_delitem_2 _ _) (meets_dict_delitem_pairs (mixKind X.prog X.w) a (kV_is ry)) ⟨vs, dd, by rw [← rel.length]; exact z, by rw [← (rel.val k).isSome_eq]; exact l, fun h' dd' hs => h _ ?_⟩)
  have he : ∃ q, h'.get? a = some q := let ⟨q, _, _, hq, _⟩ := dd'; ⟨q, hq⟩
  exact d_write I (by rw [e]; exact True.intro) hs he (dk_new (Nat.le_trans (dropK_le kvs k) z) hd (rel.drop k) dd')
/-- d.pop(k[, x]), there -/
theorem d_pop {v : V} {more : List Value} {Q : Value → Shared → Prop} (I : Inv X pins σ H s) (e : H a = some (.dK kvs)) (ry : RelV (kV k) u) (l : valV kvs k = some v) (hm : more = [] ∨ ∃ x, more = [x])
    (h : ∀ w' s', Inv X pins σ (upd H a (.dK (dropK kvs k))) s' → RelV v w' → Q w' s') : wpAny (model X.prog X.w) A (call (.builtin "dict.pop") (.ref a :: u :: more)) Q E s := by
  obtain ⟨z, hd, vs, rel, dd⟩ := dk_of I.hok e
  obtain ⟨w', hw, rw'⟩ := RelO.some_of (v := v) (o := valueAt vs k) (by rw [← l]; exact rel.val k)
  have hp : (keyPart u).isSome = true := by
    cases k with
    | inl i => obtain ⟨t, q⟩ := (show ∃ t, u = Value.int i t from ry); subst q; rfl
    | inr x => obtain ⟨t, q⟩ := (show ∃ t, u = Value.str x t from ry); subst q; rfl
  have ha : argsOk "dict.pop" ⟨.ref a :: u :: more, []⟩ := by
    rcases hm with q | ⟨x, q⟩
    · subst q; exact PySem.F.args_dict_pop_2 _ _
    · subst q; exact PySem.F.args_dict_pop_3 _ _ _
  refine call_meetsIn PySem.F.slot_dict_pop dd.typeIs PySem.F.entry_dict_pop ha (meets_dict_pop_there (mixKind X.prog X.w) a (kV_is ry) more hm hp)
    ⟨vs, w', dd, by rw [← rel.length]; exact z, hw, fun h' dd' hs => h w' _ ?_ rw'⟩
  have he : ∃ q, h'.get? a = some q := let ⟨q, _, _, hq, _⟩ := dd'; ⟨q, hq⟩
  exact d_write I (by rw [e]; exact True.intro) hs he (dk_new (Nat.le_trans (dropK_le kvs k) z) hd (rel.drop k) dd')
/-- d.pop(k, x), not there -/
theorem d_popD {r : Value} {Q : Value → Shared → Prop} (I : Inv X pins σ H s) (e : H a = some (.dK kvs)) (ry : RelV (kV k) u) (l : valV kvs k = none) (h : ∀ s', Inv X pins σ H s' → Q r s') :
    wpAny (model X.prog X.w) A (call (.builtin "dict.pop") [.ref a, u, r]) Q E s := by
  obtain ⟨z, hd, vs, rel, dd⟩ := dk_of I.hok e
  have hn : valueAt vs k = none := RelO.none_of (by rw [← l]; exact rel.val k)
  have hp : (keyPart u).isSome = true := by
    cases k with
    | inl i => obtain ⟨t, q⟩ := (show ∃ t, u = Value.int i t from ry); subst q; rfl
    | inr x => obtain ⟨t, q⟩ := (show ∃ t, u = Value.str x t from ry); subst q; rfl
  exact call_meetsIn PySem.F.slot_dict_pop dd.typeIs PySem.F.entry_dict_pop (PySem.F.args_dict_pop_3 _ _ _) (meets_dict_pop_default (mixKind X.prog X.w) a (kV_is ry) hd hp r) ⟨vs, dd, hn, h _ (I.tok _)⟩
/-- d.clear() -/
theorem d_clear {Q : Value → Shared → Prop} (I : Inv X pins σ H s) (e : H a = some (.dK kvs)) (h : ∀ s', Inv X pins σ (upd H a (.dK [])) s' → Q .none s') : wpAny (model X.prog X.w) A (call (.builtin "dict.clear") [.ref a]) Q E s := by
  obtain ⟨z, hd, vs, rel, dd⟩ := dk_of I.hok e
  refine call_meetsIn PySem.F.slot_dict_clear dd.typeIs PySem.F.entry_dict_clear (PySem.F.args_dict_clear_1 _) (meets_dict_clear (mixKind X.prog X.w) a) ⟨vs, dd, by rw [← rel.length]; exact z, fun h' dd' hs => h _ ?_⟩
  have he : ∃ q, h'.get? a = some q := let ⟨q, _, _, hq, _⟩ := dd'; ⟨q, hq⟩
  exact d_write (t' := s.toks) I (by rw [e]; exact True.intro) hs he (dk_new (Nat.zero_le _) hd .nil dd')
/-- len(d) -/
theorem d_len {Q : Value → Shared → Prop} (I : Inv X pins σ H s) (e : Rd H a (.dK kvs)) (h : ∀ t s', Inv X pins σ H s' → Q (.int kvs.length t) s') : wpAny (model X.prog X.w) A (call (.builtin "len") [.ref a]) Q E s := by
  obtain ⟨z, hd, vs, rel, dd⟩ := dk_rd I.hok e
  refine call_len_dict hd dd (by rw [← rel.length]; rw [sizeLine_eq] at z; omega) ?_
  rw [← rel.length]
  exact h _ _ (I.tok _)
/-- if d -/
theorem d_truth {Q : Bool → Shared → Prop} (I : Inv X pins σ H s) (e : Rd H a (.dK kvs)) (h : ∀ s', Inv X pins σ H s' → Q (!kvs.isEmpty) s') : wpAny (model X.prog X.w) A (truthy (.ref a)) Q E s := by
  obtain ⟨z, hd, vs, rel, dd⟩ := dk_rd I.hok e
  refine wpAny_truthy_dict hd dd (by rw [← rel.length]; rw [sizeLine_eq] at z; omega) ?_
  have q : kvs.isEmpty = vs.isEmpty := by cases rel <;> rfl
  rw [← q]
  exact h _ (I.tok _)
end


/-! ### readings and rules -/
/-- the element of a subscription, not a slice -/
def NoSl (i : Expr) : Prop := ∀ ov iv, subscripted i false ov iv = operate [ov, iv] (getItem ov iv)
theorem subD_of {prog : Program} {w : World} {A : Around} {E : Value → Shared → Prop} {s : Shared} {env : Env} {value slice : Expr} {pos : Pos} {T id : String} {Q : Value → Shared → Prop}
    (hl : typeLookup (.type T) "__getitem__" = pure (some (.builtin id))) (hs : NoSl slice)
    (h : wpAny (model prog w) A (eval value env) (fun o s₁ => wpAny (model prog w) A (eval slice env) (fun i s₂ => s₂.TypeIs o T ∧ wpAny (model prog w) A (getItem o i) Q E s₂) E s₁) E s) :
    wpAny (model prog w) A (eval (.Subscript value slice pos) env) Q E s := by
  refine Subscript_ (wpAny_mono h (fun o s₁ h₁ => wpAny_mono h₁ (fun i s₂ h₂ => ?_) fun _ _ x => x) fun _ _ x => x)
  obtain ⟨hT, h₂⟩ := h₂
  unfold subscriptTail
  refine wpAny_bind ?_
  rw [getitemInPython_of_ne hT.not_modules]
  refine wpAny_bind (wpAny_specialOf hT hl ?_)
  have fin : wpAny (model prog w) A (subscripted slice false o i) (fun r s₃ => wpAny (model prog w) A (letTemporaryGo value o r >>= fun _ => pure r) Q E s₃) E s₂ := by
    rw [hs o i]
    exact wpAny_operating (wpAny_mono h₂ (fun r s₃ h₃ => wpAny_bind (wpAny_letTemporaryGo (wpAny_pure h₃))) fun _ _ x => x)
  first
    | exact wpAny_pure (wpAny_bind fin)
    | exact wpAny_bind (wpAny_pure (wpAny_bind fin))
    | exact wpAny_bind fin

theorem dict_typeIs {X : Cx} {pins : List (Addr × Obj)} {σ : St} {H : Hp} {s : Shared} {a : Addr} {y : V} {o : Option V} (I : Inv X pins σ H s) (g : DGet H a y o) : s.TypeIs (.ref a) "dict" := by
  rcases g with ⟨kvs, k, e, _, _⟩ | ⟨kvs, k, b, e, _, _, _⟩
  · obtain ⟨_, _, vs, _, dd⟩ := dk_rd I.hok e
    exact dd.typeIs
  · obtain ⟨_, _, xs, _, dd⟩ := dt_rd I.hok e
    exact dd.typeIs
theorem dict_noDict {X : Cx} {pins : List (Addr × Obj)} {σ : St} {H : Hp} {s : Shared} {a : Addr} {y : V} {o : Option V} (I : Inv X pins σ H s) (g : DGet H a y o) :
    ∀ b, Value.ref a = .ref b → ∃ ob, s.heap.get? b = some ob ∧ ob.dict = none := fun b q => by
  cases q
  rcases g with ⟨kvs, k, e, _, _⟩ | ⟨kvs, k, b, e, _, _, _⟩
  · obtain ⟨_, _, vs, _, ob, _, _, h1, h2, _⟩ := dk_rd I.hok e
    exact ⟨ob, h1, h2.2.1⟩
  · obtain ⟨_, _, xs, _, ob, _, _, h1, h2, _⟩ := dt_rd I.hok e
    exact ⟨ob, h1, h2.2.1⟩

/-- d[y] -/
def tDGet (td ty : TE) : TE := fun σ H Q => td σ H fun x H1 => ty σ H1 fun y H2 => ∃ a v, x = .ref a ∧ DGet H2 a y (some v) ∧ Q v H2
/-- y in d, y not in d -/
def tDIn (ty td : TE) : TE := fun σ H Q => ty σ H fun y H1 => td σ H1 fun x H2 => ∃ a o, x = .ref a ∧ DGet H2 a y o ∧ Q (.bl o.isSome) H2
def tDNotIn (ty td : TE) : TE := fun σ H Q => ty σ H fun y H1 => td σ H1 fun x H2 => ∃ a o, x = .ref a ∧ DGet H2 a y o ∧ Q (.bl (!o.isSome)) H2
/-- d[y] = v -/
def sDPut (td ty tv : TE) : TS := fun D σ H => tv σ H fun v H1 => td σ H1 fun x H2 => ty σ H2 fun y H3 => ∃ a H4, x = .ref a ∧ DPut H3 a y v H4 ∧ D.nx σ H4
/-- d[y] op= v -/
def sDAug (td ty tv : TE) (rd : V → V → Hp → VK → Prop) : TS := fun D σ H => td σ H fun x H1 => ty σ H1 fun y H2 => ∃ a v, x = .ref a ∧ DGet H2 a y (some v) ∧
  tv σ H2 fun y2 H3 => rd v y2 H3 fun z H4 => ∃ H5, DPut H4 a y z H5 ∧ D.nx σ H5
/-- del d[y] -/
def sDDel (td ty : TE) : TS := fun D σ H => td σ H fun x H1 => ty σ H1 fun y H2 => ∃ a kvs k, x = .ref a ∧ H2 a = some (.dK kvs) ∧ y = kV k ∧ (valV kvs k).isSome = true ∧ D.nx σ (upd H2 a (.dK (dropK kvs k)))

section
variable {X : Cx} {o i e value : Expr} {pos pos' tpos : Pos} {td ty tv : TE}
theorem pe_dget (hu : X.A.units + 1 < cLine) (ho : PE X o td) (hi : PE X i ty) (hs : NoSl i) : PE X (.Subscript o i pos) (tDGet td ty) := by
  intro pins s σ H Q I h
  refine subD_of PySem.F.slot_dict_getitem.lookup hs (thn (ho pins s σ H _ I h) fun u s1 ⟨x, H1, I1, rx, q1⟩ => thn (hi pins s1 σ H1 _ I1 q1) fun iv s2 ⟨y, H2, I2, ry, a, v, ex, g, q2⟩ => ?_)
  subst ex
  obtain rfl : u = Value.ref a := rx
  exact ⟨dict_typeIs I2 g, d_getItem hu I2 g ry fun w' s3 I3 rw' => ⟨v, H2, I3, rw', q2⟩⟩
theorem pc_din (hu : X.A.units + 1 < cLine) (hi : PE X i ty) (ho : PE X o td) : PC X .In i o (tDIn ty td) := by
  intro pins s σ H Q I h
  refine thn (hi pins s σ H _ I h) fun iv s1 ⟨y, H1, I1, ry, q1⟩ => thn (ho pins s1 σ H1 _ I1 q1) fun u s2 ⟨x, H2, I2, rx, a, ov, ex, g, q2⟩ => ?_
  subst ex
  obtain rfl : u = Value.ref a := rx
  exact d_in hu I2 g ry fun s3 I3 => ⟨.bl ov.isSome, H2, I3, rfl, q2⟩
theorem pc_dnotin (hu : X.A.units + 1 < cLine) (hi : PE X i ty) (ho : PE X o td) : PC X .NotIn i o (tDNotIn ty td) := by
  intro pins s σ H Q I h
  refine thn (hi pins s σ H _ I h) fun iv s1 ⟨y, H1, I1, ry, q1⟩ => thn (ho pins s1 σ H1 _ I1 q1) fun u s2 ⟨x, H2, I2, rx, a, ov, ex, g, q2⟩ => ?_
  subst ex
  obtain rfl : u = Value.ref a := rx
  exact d_notIn hu I2 g ry fun s3 I3 => ⟨.bl (!ov.isSome), H2, I3, rfl, q2⟩
theorem ps_dput (hu : X.A.units + 1 < cLine) (ho : PE X o td) (hi : PE X i ty) (hv : PE X value tv) (hs : swapsWith value (some (.Subscript o i pos')) pos.line X.env = pure false) :
    PS X (.Assign [.Subscript o i pos'] value pos) (sDPut td ty tv) := by
  intro pins s σ H D I h
  refine wpAny_Assign_Subscript (thn (hv pins s σ H _ I h) fun r s1 ⟨v, H1, I1, rv, q1⟩ => thn (ho pins s1 σ H1 _ I1 q1) fun u s2 ⟨x, H2, I2, rx, q2⟩ => thn (hi pins s2 σ H2 _ I2 q2) fun iv s3 ⟨y, H3, I3, ry, a, H4, ex, g, q3⟩ => ?_) hs
  subst ex
  obtain rfl : u = Value.ref a := rx
  exact d_setItem hu I3 g ry rv fun s4 I4 => ⟨σ, H4, I4, q3⟩
theorem ps_daug {op : Operator} {rd : V → V → Hp → VK → Prop} (hu : X.A.units + 1 < cLine) (ho : PE X o td) (hi : PE X i ty) (hv : PE X value tv) (hop : InOp X op rd)
    (ha : ∀ ov iv new, augStore i ov iv new = (do holding [new, ov, iv] (setItem ov iv new); release [new, ov, iv] []; pure .next)) : PS X (.AugAssign (.Subscript o i tpos) op value pos) (sDAug td ty tv rd) := by
  intro pins s σ H D I h
  refine wpAny_AugAssign_SubscriptAny (thn (ho pins s σ H _ I h) fun u s1 ⟨x, H1, I1, rx, q1⟩ => thn (hi pins s1 σ H1 _ I1 q1) fun iv s2 ⟨y, H2, I2, ry, a, v, ex, g, q2⟩ => ?_) ha
  subst ex
  obtain rfl : u = Value.ref a := rx
  refine d_getItem hu I2 g ry fun w' s3 I3 rw' => thn (hv pins s3 σ H2 _ I3 q2) fun w2 s4 ⟨y2, H3, I4, ry2, q3⟩ => thn (hop pins s4 σ H3 v y2 w' w2 _ I4 rw' ry2 q3) fun w3 s5 ⟨z, H4, I5, rz, H5, g5, q4⟩ => ?_
  exact d_setItem hu I5 g5 ry rz fun s6 I6 => ⟨σ, H5, I6, q4⟩
theorem ps_ddel (ho : PE X o td) (hi : PE X i ty) : PS X (.Delete [.Subscript o i tpos] pos) (sDDel td ty) := by
  intro pins s σ H D I h
  refine wpAny_Delete (wpAny_deleteEach_cons (wpAny_delete_Subscript (thn (ho pins s σ H _ I h) fun u s1 ⟨x, H1, I1, rx, q1⟩ => thn (hi pins s1 σ H1 _ I1 q1) fun iv s2 ⟨y, H2, I2, ry, a, kvs, k, ex, e, ey, l, q2⟩ => ?_)))
  subst ex ey
  obtain rfl : u = Value.ref a := rx
  exact d_delItem I2 e ry l fun s3 I3 => wpAny_deleteEach_nil ⟨σ, _, I3, q2⟩
end


/-! ### displays -/
theorem dk_empty {P : Program} {w : World} {H : Hp} (h : Heap) (hb : sysModules < h.objs.size) : ObjOk P w H (h.push { cls := .type "dict", data := .dict #[] }) h.objs.size (.dK []) :=
  ⟨Nat.zero_le _, beq_eq_false_iff_ne.mpr (Ne.symm (Nat.ne_of_lt hb)), [], .nil, Heap.DictOf.new h⟩
theorem dt_empty {P : Program} {w : World} {H : Hp} (h : Heap) (hb : sysModules < h.objs.size) : ObjOk P w H (h.push { cls := .type "dict", data := .dict #[] }) h.objs.size (.dT []) :=
  ⟨Nat.zero_le _, beq_eq_false_iff_ne.mpr (Ne.symm (Nat.ne_of_lt hb)), [], .nil, _, #[], 0, Heap.get?_push_size _ rfl, ⟨rfl, rfl, rfl⟩, rfl, rfl, List.nodup_nil⟩
/-- {}, to be a dict of the kind that is wanted -/
def tDNewK : TE := fun _ H Q => ∀ p, H p = none → Q (.ref p) (upd H p (.dK []))
def tDNewT : TE := fun _ H Q => ∀ p, H p = none → Q (.ref p) (upd H p (.dT []))
section
variable {X : Cx} {pos : Pos}
theorem pe_dnewK : PE X (.Dict [] [] pos) tDNewK := fun pins s σ H Q I h =>
  wpAny_Dict_empty ⟨.ref s.heap.objs.size, _, I.laid (a := s.heap.objs.size) (o := .dK []) (t' := s.toks) (fun _ _ q => Heap.get?_push_of_some _ q) (Nat.le_refl _) (dk_empty s.heap I.big), rfl, h _ (I.hok.fresh (Nat.le_refl _))⟩
theorem pe_dnewT : PE X (.Dict [] [] pos) tDNewT := fun pins s σ H Q I h =>
  wpAny_Dict_empty ⟨.ref s.heap.objs.size, _, I.laid (a := s.heap.objs.size) (o := .dT []) (t' := s.toks) (fun _ _ q => Heap.get?_push_of_some _ q) (Nat.le_refl _) (dt_empty s.heap I.big), rfl, h _ (I.hok.fresh (Nat.le_refl _))⟩
end

/-- the pairs of a display, from the left -/
def tPairs : List (TE × TE) → St → Hp → (List (V × V) → Hp → Prop) → Prop
  | [], _, H, Q => Q [] H
  | (tk, tv) :: r, σ, H, Q => tk σ H fun x H1 => tv σ H1 fun y H2 => tPairs r σ H2 fun ps H3 => Q ((x, y) :: ps) H3
abbrev VV : List (V × V) → List (Value × Value) → Prop := Paired fun p q => RelV p.1 q.1 ∧ RelV p.2 q.2
def PPs (X : Cx) (pos : Pos) (keys : List (Option Expr)) (values : List Expr) (trs : List (TE × TE)) : Prop :=
  ∀ (pins : List (Addr × Obj)) (s : Shared) (σ : St) (H : Hp) (Q : List (V × V) → Hp → Prop), Inv X pins σ H s → tPairs trs σ H Q →
    wpAny (model X.prog X.w) X.A (evalPairs (pairTrees keys values X.env pos)) (fun vs s' => ∃ ps H', Inv X pins σ H' s' ∧ VV ps vs ∧ Q ps H') X.xe s
theorem pps_nil {X : Cx} {pos : Pos} : PPs X pos [] [] [] := fun pins s σ H Q I h => pairTrees_nil_walk ⟨[], H, I, .nil, h⟩
theorem pps_cons {X : Cx} {pos : Pos} {k v : Expr} {ks : List (Option Expr)} {vs : List Expr} {tk tv : TE} {trs : List (TE × TE)} (hk : PE X k tk) (hv : PE X v tv) (hr : PPs X pos ks vs trs) :
    PPs X pos (some k :: ks) (v :: vs) ((tk, tv) :: trs) := fun pins s σ H Q I h =>
  pairTrees_cons_walk (thn (hk pins s σ H _ I h) fun u s1 ⟨x, H1, I1, rx, q1⟩ => thn (hv pins s1 σ H1 _ I1 q1) fun w2 s2 ⟨y, H2, I2, ry, q2⟩ =>
    thn (hr pins s2 σ H2 _ I2 q2) fun ws s3 ⟨ps, H3, I3, rel, q3⟩ => ⟨(x, y) :: ps, H3, I3, .cons ⟨rx, ry⟩ rel, q3⟩)

def mergeK (kvs more : List (Key × V)) : List (Key × V) := more.foldl (fun acc kv => putK acc kv.1 kv.2) kvs
theorem KV.merge : ∀ {more : List (Key × V)} {rs : List (Key × Value)} {kvs : List (Key × V)} {vs : List (Key × Value)}, KV more rs → KV kvs vs → KV (mergeK kvs more) (merged vs rs) := by
  intro more rs kvs vs r
  unfold KV at r
  induction r generalizing kvs vs with
  | nil => intro q; exact q
  | @cons p q ps qs h t ih =>
    intro r0
    have e : KV (putK kvs p.1 p.2) (stored vs q.1 q.2) := by
      have := r0.put p.1 h.2
      rw [← h.1]; exact this
    exact ih e
theorem length_mergeK : ∀ (more kvs : List (Key × V)), (mergeK kvs more).length ≤ kvs.length + more.length
  | [], kvs => by show kvs.length ≤ kvs.length + 0; omega
  | p :: r, kvs => by
    have h1 := length_mergeK r (putK kvs p.1 p.2)
    have h2 := length_putK kvs p.1 p.2
    show (mergeK (putK kvs p.1 p.2) r).length ≤ _
    rw [List.length_cons]; omega
theorem carries_of {P : Program} {w : World} : ∀ {kvs : List (Key × V)} {ws : List (Value × Value)}, VV (kvs.map fun kv => (kV kv.1, kv.2)) ws → ∃ rs, Carries (mixKind P w) ws rs ∧ KV kvs rs
  | [], _, r => by rw [List.map_nil] at r; cases r; exact ⟨[], True.intro, .nil⟩
  | p :: kvs, _, r => by
    rw [List.map_cons] at r
    cases r with
    | @cons a b as bs h t =>
      obtain ⟨rs, c, q⟩ := carries_of (P := P) (w := w) t
      obtain ⟨b1, b2⟩ := b
      exact ⟨(p.1, b2) :: rs, ⟨kV_is h.1, rfl, c⟩, .cons ⟨rfl, h.2⟩ q⟩
/-- {k: v, ..} with keys ints and texts; the new dict stands empty while the pairs are made -/
def tDisp (trs : List (TE × TE)) : TE := fun σ H Q => ∀ p, H p = none → tPairs trs σ (upd H p (.dK [])) fun ps H2 => H2 p = some (.dK []) ∧ ∃ kvs : List (Key × V), ps = kvs.map (fun kv => (kV kv.1, kv.2)) ∧ kvs.length ≤ 15 ∧ Q (.ref p) (upd H2 p (.dK (mergeK [] kvs)))
theorem pe_disp {X : Cx} {pos : Pos} {keys : List (Option Expr)} {values : List Expr} {trs : List (TE × TE)} (h : PPs X pos keys values trs) (hall : keys.all (·.isSome) = true) (hl : keys.length = values.length) (h0 : keys ≠ [])
    (h15 : keys.length ≤ 15) : PE X (.Dict keys values pos) (tDisp trs) := by
  intro pins s σ H Q I q
  have hn := I.hok.fresh (Nat.le_refl s.heap.objs.size)
  have I1 := I.laid (a := s.heap.objs.size) (o := .dK []) (h' := s.heap.push { cls := .type "dict", data := .dict #[] }) (t' := s.toks) (fun _ _ q => Heap.get?_push_of_some _ q) (Nat.le_refl _) (dk_empty s.heap I.big)
  refine wpAny_Dict_walk (knd := mixKind X.prog X.w) hall hl h0 h15 (thn (h pins _ σ _ _ I1 (q _ hn)) fun ws s2 ⟨ps, H2, I2, rel, e, kvs, ep, lk, q2⟩ => ?_)
  subst ep
  obtain ⟨rs, c, rk⟩ := carries_of (P := X.prog) (w := X.w) rel
  obtain ⟨z, hd, vs0, r0, dd⟩ := dk_of I2.hok e
  cases r0
  refine ⟨rs, c, dd, fun h' dd' hs => ⟨.ref s.heap.objs.size, _, ?_, rfl, q2⟩⟩
  have hz : (mergeK [] kvs).length ≤ sizeLine := by
    have h1 := length_mergeK kvs []
    rw [List.length_nil] at h1
    rw [sizeLine_eq]; omega
  have he : ∃ q, h'.get? s.heap.objs.size = some q := let ⟨q, _, _, hq, _⟩ := dd'; ⟨q, hq⟩
  exact d_write I2 (by rw [e]; exact True.intro) hs he (dk_new hz hd (rk.merge .nil) dd')


/-! ### methods -/
/-- a method call o.m(e) of a built-in, with one argument: what must be seen of the text -/
structure M1 (X : Cx) (o : Expr) (m : Str) (apos : Pos) (e : Expr) (cpos : Pos) : Prop where
  base : attributeBase o m X.env (eval o X.env) = eval o X.env
  few : ((backTo cpos (starEach [e] X.env)).all (fun x => !x.1) && (backToKw cpos (keywordEach [] X.env)).all (fun x => x.1.isSome)
    && decide (([e] : List Expr).length + ([] : List Keyword).length + (if ([] : List Keyword).isEmpty then 0 else 1) < 30)) = true
  line : (apos.endLine == cpos.line) = true
  trees : backTo cpos (starEach [e] X.env) = [(false, eval e X.env)]
structure M2 (X : Cx) (o : Expr) (m : Str) (apos : Pos) (e f : Expr) (cpos : Pos) : Prop where
  base : attributeBase o m X.env (eval o X.env) = eval o X.env
  few : ((backTo cpos (starEach [e, f] X.env)).all (fun x => !x.1) && (backToKw cpos (keywordEach [] X.env)).all (fun x => x.1.isSome)
    && decide (([e, f] : List Expr).length + ([] : List Keyword).length + (if ([] : List Keyword).isEmpty then 0 else 1) < 30)) = true
  line : (apos.endLine == cpos.line) = true
  trees : backTo cpos (starEach [e, f] X.env) = [(false, eval e X.env), (false, eval f X.env)]

/-- a is a dict, whatever its keys -/
def IsD (H : Hp) (a : Addr) : Prop := (∃ kvs, Rd H a (.dK kvs)) ∨ ∃ kvs, Rd H a (.dT kvs)
theorem isD_at {X : Cx} {pins : List (Addr × Obj)} {σ : St} {H : Hp} {s : Shared} {a : Addr} (I : Inv X pins σ H s) (d : IsD H a) :
    s.TypeIs (.ref a) "dict" ∧ (∀ b, Value.ref a = .ref b → ∃ ob, s.heap.get? b = some ob ∧ ob.dict = none) ∧ (a == sysModules) = false := by
  rcases d with ⟨kvs, e⟩ | ⟨kvs, e⟩
  · obtain ⟨_, hd, vs, _, dd⟩ := dk_rd I.hok e
    refine ⟨dd.typeIs, fun b q => ?_, hd⟩
    cases q
    obtain ⟨ob, _, _, h1, h2, _⟩ := dd
    exact ⟨ob, h1, h2.2.1⟩
  · obtain ⟨_, hd, xs, _, dd⟩ := dt_rd I.hok e
    refine ⟨dd.typeIs, fun b q => ?_, hd⟩
    cases q
    obtain ⟨ob, _, _, h1, h2, _⟩ := dd
    exact ⟨ob, h1, h2.2.1⟩

section
variable {X : Cx} {pins : List (Addr × Obj)} {σ : St} {H : Hp} {s : Shared} {a : Addr} {y d : V} {u r : Value} {o : Option V} {A : Around} {E : Value → Shared → Prop}
/-- d.get(y) -/
theorem d_get1 {Q : Value → Shared → Prop} (hu : A.units + 1 < cLine) (I : Inv X pins σ H s) (g : DGet H a y o) (ry : RelV y u) (h : ∀ w' s', Inv X pins σ H s' → RelV (o.getD .non) w' → Q w' s') :
    wpAny (model X.prog X.w) A (call (.builtin "dict.get") [.ref a, u]) Q E s := by
  rcases g with ⟨kvs, k, e, ey, l⟩ | ⟨kvs, k, b, e, ey, eb, l⟩
  · subst ey
    obtain ⟨z, hd, vs, rel, dd⟩ := dk_rd I.hok e
    refine call_meetsIn PySem.F.slot_dict_get dd.typeIs PySem.F.entry_dict_get (PySem.F.args_dict_get_2 _ _) (meets_dict_get (mixKind X.prog X.w) a (kV_is ry) hd) ⟨_, dd.mapOf, h _ _ (I.tok _) ?_⟩
    rw [l]
    exact (rel.val k).getD rfl
  · subst ey
    cases (show u = Value.ref b from ry)
    obtain ⟨z, hd, xs, rel, dd⟩ := dt_rd I.hok e
    refine call_meetsIn PySem.F.slot_dict_get dd.typeIs PySem.F.entry_dict_get (PySem.F.args_dict_get_2 _ _) (meetsH_dict_get (tupleKind (mixKind X.prog X.w)) a b hd) ⟨tupleKind_room_in1 hu, k, xs, key_of I.hok eb, dd, h _ _ (I.tok _) ?_⟩
    rw [l]
    exact (rel.val k).getD rfl
/-- d.get(y, x) -/
theorem d_get2 {Q : Value → Shared → Prop} (hu : A.units + 1 < cLine) (I : Inv X pins σ H s) (g : DGet H a y o) (ry : RelV y u) (rd : RelV d r) (h : ∀ w' s', Inv X pins σ H s' → RelV (o.getD d) w' → Q w' s') :
    wpAny (model X.prog X.w) A (call (.builtin "dict.get") [.ref a, u, r]) Q E s := by
  rcases g with ⟨kvs, k, e, ey, l⟩ | ⟨kvs, k, b, e, ey, eb, l⟩
  · subst ey
    obtain ⟨z, hd, vs, rel, dd⟩ := dk_rd I.hok e
    refine call_meetsIn PySem.F.slot_dict_get dd.typeIs PySem.F.entry_dict_get (PySem.F.args_dict_get_3 _ _ _) (meets_dict_get_default (mixKind X.prog X.w) a (kV_is ry) hd r) ⟨_, dd.mapOf, h _ _ (I.tok _) ?_⟩
    rw [l]
    exact (rel.val k).getD rd
  · subst ey
    cases (show u = Value.ref b from ry)
    obtain ⟨z, hd, xs, rel, dd⟩ := dt_rd I.hok e
    refine call_meetsIn PySem.F.slot_dict_get dd.typeIs PySem.F.entry_dict_get (PySem.F.args_dict_get_3 _ _ _) (meetsH_dict_get_default (tupleKind (mixKind X.prog X.w)) a b hd r) ⟨tupleKind_room_in1 hu, k, xs, key_of I.hok eb, dd, h _ _ (I.tok _) ?_⟩
    rw [l]
    exact (rel.val k).getD rd
end

def tDGet1 (td ty : TE) : TE := fun σ H Q => td σ H fun x H1 => ∃ a, x = .ref a ∧ IsD H1 a ∧ ty σ H1 fun y H2 => ∃ o, DGet H2 a y o ∧ Q (o.getD .non) H2
def tDGet2 (td ty tx : TE) : TE := fun σ H Q => td σ H fun x H1 => ∃ a, x = .ref a ∧ IsD H1 a ∧ ty σ H1 fun y H2 => tx σ H2 fun z H3 => ∃ o, DGet H3 a y o ∧ Q (o.getD z) H3
/-- d.pop(k): there; d.pop(k, x): there or not -/
def tDPop1 (td ty : TE) : TE := fun σ H Q => td σ H fun x H1 => ∃ a, x = .ref a ∧ IsD H1 a ∧ ty σ H1 fun y H2 => ∃ kvs k v, H2 a = some (.dK kvs) ∧ y = kV k ∧ valV kvs k = some v ∧ Q v (upd H2 a (.dK (dropK kvs k)))
def tDPop2 (td ty tx : TE) : TE := fun σ H Q => td σ H fun x H1 => ∃ a, x = .ref a ∧ IsD H1 a ∧ ty σ H1 fun y H2 => tx σ H2 fun z H3 => ∃ kvs k, H3 a = some (.dK kvs) ∧ y = kV k ∧
  (∀ v, valV kvs k = some v → Q v (upd H3 a (.dK (dropK kvs k)))) ∧ (valV kvs k = none → Q z H3)
section
variable {X : Cx} {o e f : Expr} {apos cpos : Pos} {td ty tx : TE}
theorem pe_dget1 (hu : X.A.units + 1 < cLine) (ho : PE X o td) (he : PE X e ty) (m : M1 X o "get" apos e cpos) : PE X (.Call (.Attribute o "get" apos) [e] [] cpos) (tDGet1 td ty) := by
  intro pins s σ H Q I h
  refine wpAny_Call_method m.base m.few m.line PySem.F.plainAttrs_dict PySem.F.slot_dict_get PySem.F.type_dict_get (thn (ho pins s σ H _ I h) fun u s1 ⟨x, H1, I1, rx, a, ex, d, q1⟩ => ?_)
  subst ex
  obtain rfl : u = Value.ref a := rx
  obtain ⟨t1, t2, _⟩ := isD_at I1 d
  refine ⟨t1, t2, ?_⟩
  rw [m.trees]
  refine Calls.callWith_builtin rfl (Calls.evalArgs_plain (Calls.spliced_cons (thn (he pins s1 σ H1 _ I1 q1) fun iv s2 ⟨y, H2, I2, ry, ov, g, q2⟩ => Calls.spliced_nil ?_)))
  exact d_get1 hu I2 g ry fun w' s3 I3 rw' => ⟨_, H2, I3, rw', q2⟩
theorem pe_dget2 (hu : X.A.units + 1 < cLine) (ho : PE X o td) (he : PE X e ty) (hf : PE X f tx) (m : M2 X o "get" apos e f cpos) : PE X (.Call (.Attribute o "get" apos) [e, f] [] cpos) (tDGet2 td ty tx) := by
  intro pins s σ H Q I h
  refine wpAny_Call_method m.base m.few m.line PySem.F.plainAttrs_dict PySem.F.slot_dict_get PySem.F.type_dict_get (thn (ho pins s σ H _ I h) fun u s1 ⟨x, H1, I1, rx, a, ex, d, q1⟩ => ?_)
  subst ex
  obtain rfl : u = Value.ref a := rx
  obtain ⟨t1, t2, _⟩ := isD_at I1 d
  refine ⟨t1, t2, ?_⟩
  rw [m.trees]
  refine Calls.callWith_builtin rfl (Calls.evalArgs_plain (Calls.spliced_cons (thn (he pins s1 σ H1 _ I1 q1) fun iv s2 ⟨y, H2, I2, ry, q2⟩ =>
    Calls.spliced_cons (thn (hf pins s2 σ H2 _ I2 q2) fun fv s3 ⟨z, H3, I3, rz, ov, g, q3⟩ => Calls.spliced_nil ?_))))
  exact d_get2 hu I3 g ry rz fun w' s4 I4 rw' => ⟨_, H3, I4, rw', q3⟩
theorem pe_dpop1 (ho : PE X o td) (he : PE X e ty) (m : M1 X o "pop" apos e cpos) : PE X (.Call (.Attribute o "pop" apos) [e] [] cpos) (tDPop1 td ty) := by
  intro pins s σ H Q I h
  refine wpAny_Call_method m.base m.few m.line PySem.F.plainAttrs_dict PySem.F.slot_dict_pop PySem.F.type_dict_pop (thn (ho pins s σ H _ I h) fun u s1 ⟨x, H1, I1, rx, a, ex, d, q1⟩ => ?_)
  subst ex
  obtain rfl : u = Value.ref a := rx
  obtain ⟨t1, t2, _⟩ := isD_at I1 d
  refine ⟨t1, t2, ?_⟩
  rw [m.trees]
  refine Calls.callWith_builtin rfl (Calls.evalArgs_plain (Calls.spliced_cons (thn (he pins s1 σ H1 _ I1 q1) fun iv s2 ⟨y, H2, I2, ry, kvs, k, v, ea, ey, l, q2⟩ => Calls.spliced_nil ?_)))
  subst ey
  exact d_pop I2 ea ry l (.inl rfl) fun w' s3 I3 rw' => ⟨v, _, I3, rw', q2⟩
theorem pe_dpop2 (ho : PE X o td) (he : PE X e ty) (hf : PE X f tx) (m : M2 X o "pop" apos e f cpos) : PE X (.Call (.Attribute o "pop" apos) [e, f] [] cpos) (tDPop2 td ty tx) := by
  intro pins s σ H Q I h
  refine wpAny_Call_method m.base m.few m.line PySem.F.plainAttrs_dict PySem.F.slot_dict_pop PySem.F.type_dict_pop (thn (ho pins s σ H _ I h) fun u s1 ⟨x, H1, I1, rx, a, ex, d, q1⟩ => ?_)
  subst ex
  obtain rfl : u = Value.ref a := rx
  obtain ⟨t1, t2, _⟩ := isD_at I1 d
  refine ⟨t1, t2, ?_⟩
  rw [m.trees]
  refine Calls.callWith_builtin rfl (Calls.evalArgs_plain (Calls.spliced_cons (thn (he pins s1 σ H1 _ I1 q1) fun iv s2 ⟨y, H2, I2, ry, q2⟩ =>
    Calls.spliced_cons (thn (hf pins s2 σ H2 _ I2 q2) fun fv s3 ⟨z, H3, I3, rz, kvs, k, ea, ey, q3, q4⟩ => Calls.spliced_nil ?_))))
  subst ey
  cases l : valV kvs k with
  | some v => exact d_pop I3 ea ry l (.inr ⟨fv, rfl⟩) fun w' s4 I4 rw' => ⟨v, _, I4, rw', q3 v l⟩
  | none => exact d_popD I3 ea ry l fun s4 I4 => ⟨z, H3, I4, rz, q4 l⟩
end

/-! ### dict(d): a copy -/
section
variable {X : Cx} {pins : List (Addr × Obj)} {σ : St} {H : Hp} {s : Shared} {a : Addr} {kvs : List (Key × V)} {A : Around} {E : Value → Shared → Prop}
theorem d_copyOf {Q : Value → Shared → Prop} (I : Inv X pins σ H s) (e : Rd H a (.dK kvs)) (h : ∀ p s', H p = none → Inv X pins σ (upd H p (.dK kvs)) s' → Q (.ref p) s') : wpAny (model X.prog X.w) A (call (.type "dict") [.ref a]) Q E s := by
  obtain ⟨z, hd, vs, rel, dd⟩ := dk_rd I.hok e
  refine kt_call_dict hd dd (by rw [← rel.length]; exact z) fun h' dd' hs => ?_
  refine h _ _ (I.hok.fresh (Nat.le_refl _)) (I.laid (a := s.heap.objs.size) (o := .dK kvs) (t' := s.toks) (fun b q hq => ?_) (Nat.le_refl _) (dk_new z (beq_eq_false_iff_ne.mpr (Ne.symm (Nat.ne_of_lt I.big))) rel dd'))
  exact (hs.2 b (Nat.ne_of_lt (Heap.lt_size hq))).trans (Heap.get?_push_of_some _ hq)
end


section
variable {X : Cx} {pins : List (Addr × Obj)} {σ : St} {H : Hp} {s : Shared} {a : Addr} {y : V} {u : Value} {A : Around} {E : Value → Shared → Prop}
/-- d[y], not there: a KeyError -/
theorem d_missing {Q : Value → Shared → Prop} (hu : A.units + 1 < cLine) (hh : A.handled = none) (I : Inv X pins σ H s) (g : DGet H a y none) (ry : RelV y u)
    (h : ∀ h' e t', Heap.NewExc s.heap h' e "KeyError" → E (.ref e) { s with heap := h', toks := t' }) : wpAny (model X.prog X.w) A (getItem (.ref a) u) Q E s := by
  rcases g with ⟨kvs, k, e, ey, l⟩ | ⟨kvs, k, b, e, ey, eb, l⟩
  · subst ey
    obtain ⟨z, hd, vs, rel, dd⟩ := dk_rd I.hok e
    have hn : valueAt vs k = none := RelO.none_of (by rw [l]; exact rel.val k)
    exact wpAny_getItem_missing_of (kV_is ry) hd hh dd.mapOf hn fun h' ex ne => h h' ex _ ne
  · subst ey
    cases (show u = Value.ref b from ry)
    obtain ⟨z, hd, xs, rel, dd⟩ := dt_rd I.hok e
    have hn : (atKey xs k).map (·.2) = none := RelO.none_of (by rw [l]; exact rel.val k)
    exact wpAny_getItem_missing_heap (tupleKind_room_in1 hu) (key_of I.hok eb) hd hh dd (Option.map_eq_none_iff.mp hn) fun h' ex ne => h h' ex _ ne
end
end L2
namespace L2
open PySem PySem.Spec PyProof.Rows
/-! ### a dict's pairs: keys that differ -/
section
variable {κ : Type} [DecidableEq κ]
theorem valV_not {kvs : List (κ × V)} {k : κ} (h : valV kvs k = none) : ¬ k ∈ kvs.map (·.1) := by
  intro m
  obtain ⟨p, hp, e⟩ := List.mem_map.mp m
  have q : (kvs.any fun kv => decide (kv.1 = k)) = true := List.any_eq_true.mpr ⟨p, hp, decide_eq_true e⟩
  rw [valV_any, h] at q
  exact absurd q (by simp)
theorem valV_in {kvs : List (κ × V)} {k : κ} {v : V} (h : valV kvs k = some v) : k ∈ kvs.map (·.1) := by
  have q : (kvs.any fun kv => decide (kv.1 = k)) = true := by
    rw [valV_any, h]
    all_goals rfl
  obtain ⟨p, hp, e⟩ := List.any_eq_true.mp q
  exact List.mem_map.mpr ⟨p, hp, of_decide_eq_true e⟩
theorem nd_snoc : ∀ {l : List κ} {k : κ}, l.Nodup → ¬ k ∈ l → (l ++ [k]).Nodup
  | [], k, _, _ => by simp
  | a :: r, k, h, hk => by
    obtain ⟨h1, h2⟩ := List.nodup_cons.mp h
    show (a :: (r ++ [k])).Nodup
    refine List.nodup_cons.mpr ⟨fun m => ?_, nd_snoc h2 fun m => hk (List.mem_cons.mpr (Or.inr m))⟩
    rcases List.mem_append.mp m with q | q
    · exact h1 q
    · exact hk (List.mem_cons.mpr (Or.inl (List.mem_singleton.mp q).symm))
theorem nd_putK {kvs : List (κ × V)} {k : κ} (v : V) (hn : (kvs.map (·.1)).Nodup) (h : valV kvs k = none) : ((putK kvs k v).map (·.1)).Nodup := by
  rw [putK_new v h, List.map_append]
  exact nd_snoc hn (valV_not h)
theorem dropK_pos {p : κ × V} {r : List (κ × V)} {k : κ} (e : p.1 = k) : dropK (p :: r) k = dropK r k := by
  unfold dropK
  rw [List.filter_cons, if_neg (by simp [e])]
theorem dropK_neg {p : κ × V} {r : List (κ × V)} {k : κ} (e : ¬ p.1 = k) : dropK (p :: r) k = p :: dropK r k := by
  unfold dropK
  rw [List.filter_cons, if_pos (by simp [e])]
theorem dropK_no : ∀ {kvs : List (κ × V)} {k : κ}, ¬ k ∈ kvs.map (·.1) → dropK kvs k = kvs
  | [], _, _ => rfl
  | p :: r, k, h => by
    have h' : ¬ k ∈ r.map (·.1) := fun m => by
      obtain ⟨q, hq, e⟩ := List.mem_map.mp m
      exact h (List.mem_map.mpr ⟨q, List.mem_cons.mpr (Or.inr hq), e⟩)
    rw [dropK_neg fun e => h (List.mem_map.mpr ⟨p, List.mem_cons.mpr (Or.inl rfl), e⟩), dropK_no h']
theorem dropK_mem {kvs : List (κ × V)} {k : κ} {p : κ × V} (h : p ∈ dropK kvs k) : p ∈ kvs := (List.mem_filter.mp h).1
theorem nd_dropK : ∀ {kvs : List (κ × V)} {k : κ}, (kvs.map (·.1)).Nodup → ((dropK kvs k).map (·.1)).Nodup
  | [], _, _ => List.nodup_nil
  | p :: r, k, h => by
    have h : (p.1 :: r.map (·.1)).Nodup := h
    obtain ⟨h1, h2⟩ := List.nodup_cons.mp h
    by_cases e : p.1 = k
    · rw [dropK_pos e]
      exact nd_dropK h2
    · rw [dropK_neg e]
      show (p.1 :: (dropK r k).map (·.1)).Nodup
      refine List.nodup_cons.mpr ⟨fun m => h1 ?_, nd_dropK h2⟩
      obtain ⟨q, hq, eq⟩ := List.mem_map.mp m
      exact List.mem_map.mpr ⟨q, dropK_mem hq, eq⟩
theorem dropK_len : ∀ {kvs : List (κ × V)} {k : κ}, (kvs.map (·.1)).Nodup → k ∈ kvs.map (·.1) → (dropK kvs k).length + 1 = kvs.length
  | [], _, _, m => by simp at m
  | p :: r, k, h, m => by
    have h : (p.1 :: r.map (·.1)).Nodup := h
    have m : k = p.1 ∨ k ∈ r.map (·.1) := List.mem_cons.mp m
    obtain ⟨h1, h2⟩ := List.nodup_cons.mp h
    by_cases e : p.1 = k
    · subst e
      rw [dropK_pos rfl, dropK_no h1]
      all_goals rfl
    · have m' : k ∈ r.map (·.1) := m.resolve_left fun z => e z.symm
      have q := dropK_len h2 m'
      rw [dropK_neg e, List.length_cons, List.length_cons]
      omega
end
end L2

set_option Elab.async false
set_option linter.all false
set_option maxRecDepth 100000
set_option maxHeartbeats 1000000
namespace L2
open PySem PySem.Spec PyProof.Rows

/-! ### list comprehensions -/
/-- the closure that a block takes from the frame around it -/
def closOf (env : Env) : List (Str × NameKind) → List (Str × Addr) → List (Str × Addr)
  | [], acc => acc
  | (n, k) :: r, acc => closOf env r (if k == .free then (n, (env.cells.lookup n).getD 0) :: acc else acc)

theorem closureFor_closOf {scope : Scope} {env : Env} (h : ∀ y ∈ scope.names, y.2 = .free → ∃ c, env.cells.lookup y.1 = some c) :
    closureFor scope env = pure (closOf env scope.names []) := by
  have key : ∀ (l : List (Str × NameKind)) (acc : List (Str × Addr)), (∀ y ∈ l, y.2 = .free → ∃ c, env.cells.lookup y.1 = some c) →
      (forIn l acc fun (x : Str × NameKind) (r : List (Str × Addr)) =>
        (if x.2 == NameKind.free then do
          let c ← cellOf env x.1
          pure (ForInStep.yield ((x.1, c) :: r))
        else pure (ForInStep.yield r) : Sem (ForInStep (List (Str × Addr))))) = pure (closOf env l acc) := by
    intro l
    induction l with
    | nil => intro acc _; rfl
    | cons y r ih =>
      intro acc hy
      obtain ⟨n, k⟩ := y
      rw [List.forIn_cons]
      by_cases hk : k = .free
      · subst hk
        obtain ⟨c, hc⟩ := hy (n, .free) List.mem_cons_self rfl
        have e1 : cellOf env n = pure c := by unfold cellOf; rw [hc]
        simp only [beq_self_eq_true, if_true]
        rw [e1]
        show (pure c >>= fun c => pure (ForInStep.yield ((n, c) :: acc))) >>= _ = _
        have e2 : closOf env ((n, NameKind.free) :: r) acc = closOf env r ((n, c) :: acc) := by
          have hc' : env.cells.lookup n = some c := hc
          show closOf env r (if (NameKind.free == NameKind.free) = true then (n, (env.cells.lookup n).getD 0) :: acc else acc) = _
          rw [hc']
          rfl
        rw [e2]
        exact ih _ fun z hz => hy z (List.mem_cons_of_mem _ hz)
      · have hb : (k == NameKind.free) = false := by simpa using hk
        simp only [hb, Bool.false_eq_true, if_false]
        have e2 : closOf env ((n, k) :: r) acc = closOf env r acc := by
          show closOf env r (if (k == NameKind.free) = true then _ else acc) = _
          rw [hb]; rfl
        rw [e2]
        exact ih _ fun z hz => hy z (List.mem_cons_of_mem _ hz)
  unfold closureFor
  have e := key scope.names [] h
  have e3 : ∀ (f : Str × NameKind → List (Str × Addr) → Sem (ForInStep (List (Str × Addr)))), (f = fun x r => (if x.2 == NameKind.free then do
          let c ← cellOf env x.1
          pure (ForInStep.yield ((x.1, c) :: r))
        else pure (ForInStep.yield r))) → (forIn scope.names [] f >>= fun r => pure r) = (pure (closOf env scope.names []) : Sem (List (Str × Addr))) := by
    intro f hf
    rw [hf, e]
    rfl
  exact e3 _ rfl

theorem closOf_lookup {env : Env} {x : Str} : ∀ (l : List (Str × NameKind)) (acc : List (Str × Addr)) (c : Addr), (closOf env l acc).lookup x = some c →
    ((∃ y ∈ l, y.1 = x ∧ y.2 = .free) ∧ (env.cells.lookup x).getD 0 = c) ∨ acc.lookup x = some c
  | [], acc, c, h => .inr h
  | (n, k) :: r, acc, c, h => by
    rcases closOf_lookup r _ c h with ⟨⟨y, hy, e⟩, q⟩ | q
    · exact .inl ⟨⟨y, List.mem_cons_of_mem _ hy, e⟩, q⟩
    · by_cases hk : k = .free
      · subst hk
        have q' : List.lookup x ((n, (env.cells.lookup n).getD 0) :: acc) = some c := q
        rw [List.lookup_cons] at q'
        cases hx : x == n with
        | true =>
          rw [hx] at q'
          have hx' : x = n := by simpa using hx
          subst hx'
          exact .inl ⟨⟨_, List.mem_cons_self, rfl, rfl⟩, Option.some.inj q'⟩
        | false => rw [hx] at q'; exact .inr q'
      · have hb : (k == NameKind.free) = false := by simpa using hk
        rw [hb] at q
        exact .inr q
theorem closOf_has {env : Env} {x : Str} : ∀ (l : List (Str × NameKind)) (acc : List (Str × Addr)), ((∃ y ∈ l, y.1 = x ∧ y.2 = .free) ∨ (acc.lookup x).isSome) → ((closOf env l acc).lookup x).isSome
  | [], acc, h => by
    rcases h with ⟨y, hy, _⟩ | h
    · cases hy
    · exact h
  | (n, k) :: r, acc, h => by
    show ((closOf env r (if (k == NameKind.free) = true then _ else acc)).lookup x).isSome
    refine closOf_has r _ ?_
    rcases h with ⟨y, hy, e1, e2⟩ | h
    · rcases List.mem_cons.mp hy with rfl | hy
      · have e2' : k = .free := e2
        have e1' : n = x := e1
        subst e2' e1'
        refine .inr ?_
        simp [List.lookup_cons]
      · exact .inl ⟨y, hy, e1, e2⟩
    · refine .inr ?_
      split
      · rw [List.lookup_cons]
        split
        · rfl
        · exact h
      · exact h

/-- what a block's scope is: src tells, of each name, where it stands in the frame around (none: the block's own) -/
structure CpScope (X : Cx) (scope : Scope) (N : List Str) (src : List (Option Nat)) : Prop where
  kind : scope.kind = .function
  nocell : ∀ y ∈ scope.names, y.2 ≠ .cell
  locs : ∀ y ∈ scope.names, y.2 = .local → scope.names.lookup y.1 = some .local
  frees : ∀ y ∈ scope.names, y.2 = .free → scope.names.lookup y.1 = some .free ∧ X.env.scope.names.lookup y.1 = some .cell
  nd : N.Nodup
  len : src.length = N.length
  cap : ∀ (i j : Nat), src[i]? = some (some j) → X.N[j]? = N[i]? ∧ (N[i]?).elim False (fun x => scope.names.lookup x = some .free)
/-- the names' values at the block's entry -/
def cst (src : List (Option Nat)) (σ : St) : St := src.map fun o => o.bind fun j => (σ[j]?).join

theorem lookup_relabel_free {env : Env} (hk : env.scope.kind = .function) : ∀ {names : List (Str × NameKind)} {x : Str}, names.lookup x = some .free → env.kindOf x = some .cell →
    (names.map fun (n, k) => if (k == NameKind.free && env.scope.kind == .function && env.kindOf n == some .cell) then (n, NameKind.cell) else (n, k)).lookup x = some .cell
  | [], _, h, _ => by simp at h
  | (n, k) :: r, x, h, hc => by
    have ih := @lookup_relabel_free env hk r x
    show List.lookup x ((if (k == NameKind.free && env.scope.kind == .function && env.kindOf n == some .cell) = true then (n, NameKind.cell) else (n, k)) :: _) = _
    cases hx : x == n with
    | true =>
      simp only [List.lookup_cons, hx] at h
      cases h
      have hx' : x = n := by simpa using hx
      subst hx'
      rw [if_pos (by rw [hk, hc]; rfl)]
      simp [List.lookup_cons]
    | false =>
      simp only [List.lookup_cons, hx] at h
      by_cases hq : (k == NameKind.free && env.scope.kind == .function && env.kindOf n == some .cell) = true
      · rw [if_pos hq]; simp only [List.lookup_cons, hx]; exact ih h hc
      · rw [if_neg hq]; simp only [List.lookup_cons, hx]; exact ih h hc
theorem relabel_lookup_inv {env : Env} : ∀ {names : List (Str × NameKind)} {x : Str} {k' : NameKind},
    (names.map fun (n, k) => if (k == NameKind.free && env.scope.kind == .function && env.kindOf n == some .cell) then (n, NameKind.cell) else (n, k)).lookup x = some k' →
      names.lookup x = some k' ∨ (names.lookup x = some .free ∧ k' = .cell)
  | [], _, _, h => by simp at h
  | (n, k) :: r, x, k', h => by
    have ih := @relabel_lookup_inv env r x k'
    have h : List.lookup x ((if (k == NameKind.free && env.scope.kind == .function && env.kindOf n == some .cell) = true then (n, NameKind.cell) else (n, k)) :: _) = _ := h
    cases hx : x == n with
    | true =>
      by_cases hq : (k == NameKind.free && env.scope.kind == .function && env.kindOf n == some .cell) = true
      · rw [if_pos hq] at h
        have h1 := h
        simp only [List.lookup_cons, hx]
        have : k = .free := by
          have := (Bool.and_eq_true _ _ ▸ (Bool.and_eq_true _ _ ▸ hq).1).1
          simpa using this
        subst this
        refine .inr ⟨rfl, ?_⟩
        have h2 : List.lookup x ((n, NameKind.cell) :: (r.map fun (n, k) => if (k == NameKind.free && env.scope.kind == .function && env.kindOf n == some .cell) then (n, NameKind.cell) else (n, k))) = some k' := h1
        simp only [List.lookup_cons, hx] at h2
        exact (Option.some.inj h2).symm
      · rw [if_neg hq] at h
        simp only [List.lookup_cons, hx] at h ⊢
        exact .inl h
    | false =>
      have h' : List.lookup x (r.map fun (n, k) => if (k == NameKind.free && env.scope.kind == .function && env.kindOf n == some .cell) then (n, NameKind.cell) else (n, k)) = some k' := by
        by_cases hq : (k == NameKind.free && env.scope.kind == .function && env.kindOf n == some .cell) = true
        · rw [if_pos hq] at h
          simpa only [List.lookup_cons, hx] using h
        · rw [if_neg hq] at h
          simpa only [List.lookup_cons, hx] using h
      simp only [List.lookup_cons, hx]
      exact ih h'

/-- the block's context -/
def Cx.block (X : Cx) (scope : Scope) (N : List Str) (fp : List Addr) (s₀ : Shared) (H₀ : Hp) (C : Addr) : Cx where
  prog := X.prog
  w := X.w
  K := X.K
  mg := X.mg
  base := X.base
  A := X.A
  N := N
  s₀ := s₀
  H₀ := H₀
  env := compEnvC scope (closOf X.env scope.names []) C X.env
  outer := X.stack
  stack := X.stack
  ex := fp
  calm := X.calm
  fn := fun _ => false
  pn := []
  xe := fun _ _ => False

theorem join_some {o : Option (Option V)} {v : V} (h : o.join = some v) : o = some (some v) := by
  cases o with
  | none => cases h
  | some z => cases z with
    | none => cases h
    | some z => rw [show z = v from Option.some.inj h]

theorem Inv.enter {X : Cx} {scope : Scope} {N : List Str} {src : List (Option Nat)} {pins : List (Addr × Obj)} {σ : St} {H : Hp} {s s4 : Shared} {fp : List Addr} (S : CpScope X scope N src) (I : Inv X pins σ H s)
    (f2 : ∀ b ∈ fp, FpOk X pins H b) (lt : ∀ b ∈ fp, b < s.heap.objs.size) (hns : s4.heap.Ns s.heap.objs.size fun _ => none) (hk : ∀ b o, s.heap.get? b = some o → s4.heap.get? b = some o) (hos : s4.os = s.os) (hg : s4.gens = s.gens) :
    Inv (X.block scope N fp s H s.heap.objs.size) [] (cst src σ) H s4 := by
  have cells : ∀ x c, (closOf X.env scope.names []).lookup x = some c → X.env.cells.lookup x = some c := fun x c e => by
    rcases closOf_lookup _ _ _ e with ⟨⟨y, hy, e1, e2⟩, q⟩ | q
    · obtain ⟨c', hc'⟩ := I.ok.has y.1 (.inl (S.frees y hy e2).2)
      rw [e1] at hc'
      rw [hc'] at q ⊢
      exact congrArg some q
    · cases q
  refine ⟨⟨I.mod, S.kind, I.ok.glob, I.ok.blt, Nat.le_refl _, fun x y c h1 h2 => I.ok.inj x y c (cells x c h1) (cells y c h2), fun x hx => ?_, fun x c h => absurd (show false = true from h) Bool.false_ne_true, I.ok.hd, I.ok.frames, .inl rfl, fun b hb => ?_, I.bs,
      Nat.le_trans I.ok.bsz I.sz, fun b o e hb => ?_, fun b hb z => ?_, I.stack, I.stkFree⟩, hos, ?_, Un.kept hk, ⟨fun _ => none, hns, fun i x v h1 h2 h3 => ?_⟩, fun x c e => ?_, I.fresh, fun x c e => I.freeC x c (cells x c e), fun p hp => ?_, I.hok.kept hk, ?_⟩
  · have hx' : (scope.names.map fun (n, k) => if (k == NameKind.free && X.env.scope.kind == .function && X.env.kindOf n == some .cell) then (n, NameKind.cell) else (n, k)).lookup x = some .cell ∨ (scope.names.map fun (n, k) => if (k == NameKind.free && X.env.scope.kind == .function && X.env.kindOf n == some .cell) then (n, NameKind.cell) else (n, k)).lookup x = some .free := hx
    have hf : scope.names.lookup x = some .free := by
      rcases hx' with h | h
      · rcases relabel_lookup_inv h with h | h
        · exact absurd rfl (S.nocell _ (PySem.mem_of_lookup h))
        · exact h.1
      · rcases relabel_lookup_inv h with h | h
        · exact h
        · cases h.2
    have hsome := closOf_has (env := X.env) (x := x) scope.names [] (.inl ⟨_, PySem.mem_of_lookup hf, rfl, rfl⟩)
    exact Option.isSome_iff_exists.mp hsome
  · exact ⟨Nat.ne_of_lt (lt b hb), fun x c e => (f2 b hb).2.2.2.2.1 x c (cells x c e)⟩
  · have hb' : b ∈ fp := hb
    rcases (f2 b hb').2.2.2.1 with z | z
    · exact I.ok.noex b o e z
    · exact absurd (Nat.lt_of_lt_of_le (Heap.lt_size e) (Nat.le_trans I.ok.bsz z)) (Nat.lt_irrefl _)
  · have hb' : b ∈ fp := hb
    have z' : b ∈ frs X.stack := z
    rcases List.mem_cons.mp (I.stkSub b z') with e | e
    · exact (f2 b hb').2.1 e
    · exact (f2 b hb').2.2.1 e
  · rw [hg]; exact I.bare
  · have h2' : (src.map fun o => o.bind fun j => (σ[j]?).join)[i]? = some (some v) := h2
    rw [List.getElem?_map] at h2'
    cases e : src[i]? with
    | none => rw [e] at h2'; cases h2'
    | some o =>
      rw [e] at h2'
      cases o with
      | none => cases h2'
      | some j =>
        have h4 : (σ[j]?).join = some v := Option.some.inj h2'
        have h5 := join_some h4
        obtain ⟨c1, c2⟩ := S.cap i j e
        have h1' : N[i]? = some x := h1
        rw [h1'] at c1 c2
        have c2' : scope.names.lookup x = some .free := c2
        have c3 := (S.frees _ (PySem.mem_of_lookup c2') rfl).2
        obtain ⟨m, hn, hl⟩ := I.loc
        obtain ⟨u, r, l⟩ := hl j x v c1 h5 (.inr (.inl c3))
        refine ⟨u, r, ?_⟩
        have c3' : X.env.kindOf x = some .cell := c3
        rcases l with ⟨k, _⟩ | ⟨_, c, e1, z⟩
        · rw [c3'] at k; cases k
        · refine .inr ⟨.inl (lookup_relabel_free I.ok.kind c2' c3'), c, ?_, ?_⟩
          · have hs := closOf_has (env := X.env) (x := x) scope.names [] (.inl ⟨_, PySem.mem_of_lookup c2', rfl, rfl⟩)
            obtain ⟨c', hc'⟩ := Option.isSome_iff_exists.mp hs
            have := cells x c' hc'
            rw [e1] at this
            cases this
            exact hc'
          · obtain ⟨o, ho, hd⟩ := z
            exact ⟨o, hk c o ho, hd⟩
  · obtain ⟨v, o, ho, hd⟩ := I.cell x c (cells x c e)
    exact ⟨v, o, hk c o ho, hd⟩
  · exact absurd (show p ∈ ([] : List (Addr × Obj)) from hp) (by simp)
  · show (src.map _).length = N.length
    rw [List.length_map]
    exact S.len
/-- a block's tests -/
def PIf (X : Cx) (ifs : List Expr) (t : TT) : Prop :=
  ∀ (pins : List (Addr × Obj)) (s : Shared) (σ : St) (H : Hp) (Q : Bool → Hp → Prop), Inv X pins σ H s → t σ H Q →
    wpAny (model X.prog X.w) X.A (forIn ifs true fun c r => if r = true then do let ok ← isTrue c X.env (eval c X.env); pure (ForInStep.yield ok) else pure (ForInStep.yield r)) (TP X pins σ Q) X.xe s
def tTrue : TT := fun _ H Q => Q true H
theorem pif_nil {X : Cx} : PIf X [] tTrue := fun pins s σ H Q I h => wpAny_tests_nil ⟨H, I, h⟩
theorem pif_one {X : Cx} {c : Expr} {t : TT} (h : PT X c t) : PIf X [c] t := fun pins s σ H Q I hq => wpAny_tests_one (h pins s σ H Q I hq)

/-- what is wanted of a block that fills the list at l -/
def CWant (J : It) (src : List (Option Nat)) (g : TG) (tc : TT) (te : TE) (Q : VK) (σ : St) (H : Hp) (l : Addr) : Prop :=
  ∃ W : Nat → Nat → St → Hp → Prop, (∃ m, W 0 m (cst src σ) (upd H l (.lst []))) ∧ ∀ i m σ' H, W i m σ' H →
    (J.stop i H ∧ Q (.ref l) H) ∨ (J.go i H ∧ ∃ N : St → Hp → Prop, (∀ σ' H', N σ' H' → ∃ m', m' < m ∧ W (i + 1) m' σ' H') ∧ ∀ x H', J.yld i H x H' → g x σ' H' fun σ2 H2 => tc σ2 H2 fun b H3 =>
      if b = true then te σ2 H3 fun v H4 => ∃ xs, H4 l = some (.lst xs) ∧ xs.length < sizeLine ∧ N σ2 (upd H4 l (.lst (xs ++ [v]))) else N σ2 H3)
theorem comp_run {J : It} {src : List (Option Nat)} {g : TG} {tc : TT} {te : TE} {Q : VK} {σ : St} {H : Hp} {l : Addr} (n : Nat) (Iv : Nat → St → Hp → Prop) (h0 : Iv 0 (cst src σ) (upd H l (.lst [])))
    (hs : ∀ i σ' Hc, i < n → Iv i σ' Hc → J.go i Hc ∧ ∀ x H', J.yld i Hc x H' → g x σ' H' fun σ2 H2 => tc σ2 H2 fun b H3 =>
      if b = true then te σ2 H3 fun v H4 => ∃ xs, H4 l = some (.lst xs) ∧ xs.length < sizeLine ∧ Iv (i + 1) σ2 (upd H4 l (.lst (xs ++ [v]))) else Iv (i + 1) σ2 H3)
    (hd : ∀ σ' Hc, Iv n σ' Hc → J.stop n Hc ∧ Q (.ref l) Hc) : CWant J src g tc te Q σ H l := by
  refine ⟨fun i m σ' Hc => m = n - i ∧ i ≤ n ∧ Iv i σ' Hc, ⟨n, by simp, Nat.zero_le _, h0⟩, ?_⟩
  rintro i m σ' Hc ⟨rfl, hi, p⟩
  by_cases hlt : i < n
  · obtain ⟨go, step⟩ := hs i σ' Hc hlt p
    exact .inr ⟨go, Iv (i + 1), fun σ2 H2 p' => ⟨n - (i + 1), by omega, rfl, hlt, p'⟩, step⟩
  · have e : i = n := by omega
    subst e
    exact .inl (hd σ' Hc p)

theorem comp_core {X : Cx} {elt tg iter : Expr} {ifs : List Expr} {scope : Scope} {pos : Pos} {N : List Str} {src : List (Option Nat)} {g : TG} {tc : TT} {te : TE} {pins : List (Addr × Obj)} {σ : St} {H2 : Hp} {s2 : Shared}
    {fp : List Addr} {it : Addr} {tn : Nat → Heap → Prop} {J : It} {Q : VK} {E : Value → Shared → Prop} {RR : Value → Addr → Result → Shared → Prop} (S : CpScope X scope N src) (hc : X.calm = true)
    (hg : ∀ fp s₀ H₀ C, PG (X.block scope N fp s₀ H₀ C) tg g) (ht : ∀ fp s₀ H₀ C, PIf (X.block scope N fp s₀ H₀ C) ifs tc) (he : ∀ fp s₀ H₀ C, PE (X.block scope N fp s₀ H₀ C) elt te)
    (I2 : Inv X pins σ H2 s2) (T : Turn X.prog X.w X.K tg J fp it tn) (st2 : tn 0 s2.heap) (f2 : ∀ b ∈ fp, FpOk X pins H2 b) (hw : ∀ l, H2 l = none → CWant J src g tc te Q σ H2 l)
    (hRR : ∀ l C H' s', Inv X pins σ H' s' → (∃ m, s'.heap.Ns C m) → FpOk X pins H' C → Q (.ref l) H' → RR (.ref l) C (.ok .next) s') :
    wpAny (model X.prog X.w) X.A (newList []) (fun acc s₃ => wpAny (model X.prog X.w) X.A (newFunctionEnv scope X.env.globals (closOf X.env scope.names []) [] X.env.qual none .none (some X.env)) (fun cenv s₄ =>
      codeAny (model X.prog X.w) X.A (.compStart (.ListComp elt [⟨tg, iter, ifs, 0⟩] scope pos) 0 (.ref it) acc { cenv with scope := relabel scope X.env }) (RR acc cenv.locals) s₄) E s₃) E s2 := by
  have hl0 : H2 s2.heap.objs.size = none := I2.fresh
  have I3 : Inv X pins σ (upd H2 s2.heap.objs.size (.lst [])) { s2 with heap := s2.heap.push { cls := .type "list", data := .seq ([] : List Value).toArray } } := I2.lnew (ys := []) (its := []) (t' := s2.toks) .nil (Nat.zero_le _)
  have ltf : ∀ b ∈ fp, b < s2.heap.objs.size := fun b hb => by
    obtain ⟨o, e, _⟩ := T.obj _ _ st2 b hb
    exact Heap.lt_size e
  have f3 : ∀ b ∈ fp, FpOk X pins (upd H2 s2.heap.objs.size (.lst [])) b := fun b hb => ⟨by rw [upd_ne (Nat.ne_of_lt (ltf b hb))]; exact (f2 b hb).1, (f2 b hb).2⟩
  obtain ⟨W, ⟨m0, w0⟩, turn⟩ := hw _ hl0
  refine wpAny_newObj_type (wpAny_newFunctionEnv S.nocell (by intro y hy; simp at hy) (fun h₁ hns₁ hsb₁ => ?_) S.kind)
  dsimp only at hns₁ hsb₁ ⊢
  revert I3 f3
  intro I3 f3
  have st1 : tn 0 (s2.heap.push { cls := .type "list", data := .seq ([] : List Value).toArray }) := T.keep _ _ _ st2 fun b hb o e => Heap.get?_push_of_some _ e
  have lt3 : ∀ b ∈ fp, b < (s2.heap.push { cls := .type "list", data := .seq ([] : List Value).toArray }).objs.size := fun b hb => by rw [Heap.size_push]; exact Nat.lt_succ_of_lt (ltf b hb)
  generalize hH : s2.heap.push { cls := .type "list", data := .seq ([] : List Value).toArray } = h3 at I3 st1 lt3 hns₁ hsb₁ ⊢
  have hk : ∀ b o, h3.get? b = some o → h₁.get? b = some o := fun b o e => hsb₁.extBut b o (Nat.ne_of_lt (Heap.lt_size e)) (Heap.get?_push_of_some _ e)
  have Ib : Inv (X.block scope N fp { s2 with heap := h3 } (upd H2 s2.heap.objs.size (.lst [])) h3.objs.size) [] (cst src σ) (upd H2 s2.heap.objs.size (.lst [])) { s2 with heap := h₁, toks := s2.toks + ([] : List (Str × Value)).length } :=
    Inv.enter (s := { s2 with heap := h3 }) S I3 f3 lt3 hns₁ hk rfl rfl
  have fpB : ∀ {H' : Hp}, (∀ b ∈ fp, H' b = none) → ∀ b ∈ fp, FpOk (X.block scope N fp { s2 with heap := h3 } (upd H2 s2.heap.objs.size (.lst [])) h3.objs.size) [] H' b := fun hn b hb =>
    ⟨hn b hb, (Ib.ok.exf b hb).1, Ib.ok.exfs b hb, .inl hb, (Ib.ok.exf b hb).2, fun p hp => absurd (show p ∈ ([] : List (Addr × Obj)) from hp) (by simp)⟩
  have tn1 : tn 0 h₁ := T.keep _ _ _ st1 fun b _ o e => hk b o e
  have loop : ∀ s₃ : Shared, s₃ = { s2 with heap := h₁, toks := s2.toks + ([] : List (Str × Value)).length } →
      codeAny (model X.prog X.w) X.A (.compLoop (.ListComp elt [⟨tg, iter, ifs, 0⟩] scope pos) 0 (.ref it) (.ref s2.heap.objs.size) (compEnvC scope (closOf X.env scope.names []) h3.objs.size X.env))
        (RR (.ref s2.heap.objs.size) h3.objs.size) s₃ := by
    rintro s₃ rfl
    refine codeAny_loop rfl (fun n s' => ∃ i σ' H', Inv (X.block scope N fp { s2 with heap := h3 } (upd H2 s2.heap.objs.size (.lst [])) h3.objs.size) [] σ' H' s' ∧ tn i s'.heap ∧ (∀ b ∈ fp, H' b = none) ∧ W i n σ' H') ?_ m0
      ⟨0, _, _, Ib, tn1, fun b hb => (f3 b hb).1, w0⟩
    rintro n s5 ⟨i, σ5, H5, I5, st5, fr5, w5⟩
    show wpAny _ X.A ((compTurn (.ListComp elt [⟨tg, iter, ifs, 0⟩] scope pos) 0 (.ref it) (.ref s2.heap.objs.size) (compEnvC scope (closOf X.env scope.names []) h3.objs.size X.env)).onRaise (fun x => do noteFrame x (compEnvC scope (closOf X.env scope.names []) h3.objs.size X.env); theTreesLotGoes x)) _ _ s5
    refine wpAny_noted ?_
    rw [compTurn_list]
    refine wpAny_bind (wpAny_standAt (wpAny_bind ?_))
    rcases turn i n σ5 H5 w5 with ⟨stop, qn⟩ | ⟨go, N', hN', step⟩
    · refine thn (T.done (X.block scope N fp { s2 with heap := h3 } (upd H2 s2.heap.objs.size (.lst [])) h3.objs.size) rfl rfl rfl hc i [] s5 σ5 H5 _ I5 (fpB fr5) st5 stop) fun r s6 ⟨hr, I6⟩ => ?_
      subst hr
      refine wpAny_pure ?_
      have u6 : Un (frs X.stack) fp (upd H2 s2.heap.objs.size (.lst [])) H5 h3 s6.heap := I6.base
      have hf6 : H5 h3.objs.size = none := I6.free
      have I7 : Inv X pins σ H5 s6 := I3.call' (ch := fp) I6.os u6 I6.hok I6.bare fun b hb => ⟨(f3 b hb).2.2.2.1, (f3 b hb).2.1, (f3 b hb).2.2.2.2.1, (f3 b hb).2.2.2.2.2⟩
      obtain ⟨m, hm, _⟩ := I6.loc
      exact hRR _ _ H5 s6 I7 ⟨m, hm⟩ (I3.fpOk (Nat.le_refl _) hf6) qn
    · refine thn (T.item (X.block scope N fp { s2 with heap := h3 } (upd H2 s2.heap.objs.size (.lst [])) h3.objs.size) rfl rfl rfl hc i [] s5 σ5 H5 _ I5 (fpB fr5) st5 go) fun r s6 ⟨u, hr, h6⟩ => ?_
      subst hr
      refine wpAny_bind (thn h6 fun _ s7 ⟨x, H7, I7, r7, y7, st7, fr7⟩ => ?_)
      have I7' := I7.pinned (fpB fr7) (T.obj _ _ st7)
      have fin : ∀ {σ9 : St} {H9 : Hp} {s9 : Shared}, Inv (X.block scope N fp { s2 with heap := h3 } (upd H2 s2.heap.objs.size (.lst [])) h3.objs.size) ([] ++ pinsAt fp s7.heap) σ9 H9 s9 → N' σ9 H9 →
          ∃ m, m < n ∧ ∃ i σ' H', Inv (X.block scope N fp { s2 with heap := h3 } (upd H2 s2.heap.objs.size (.lst [])) h3.objs.size) [] σ' H' s9 ∧ tn i s9.heap ∧ (∀ b ∈ fp, H' b = none) ∧ W i m σ' H' := fun {σ9 H9 s9} I9 n9 => by
        obtain ⟨m', hm, w9⟩ := hN' σ9 H9 n9
        refine ⟨m', hm, i + 1, σ9, H9, I9.unpinned, T.keep _ _ _ st7 fun b hb o e => (I9.pin (b, o) (List.mem_append_right _ (List.mem_append_right _ (mem_pinsAt hb e)))).1, fun b hb => ?_, w9⟩
        obtain ⟨o, e, d⟩ := T.obj _ _ st7 b hb
        exact (I9.pin (b, o) (List.mem_append_right _ (List.mem_append_right _ (mem_pinsAt hb e)))).2.1
      refine wpAny_bind (wpAny_mono (hg fp _ _ _ _ s7 σ5 H7 x u _ I7' r7 (step x H7 y7)) (fun _ s8 ⟨σ8, H8, I8, q8⟩ => ?_) fun _ _ z => False.elim z)
      refine wpAny_bind (wpAny_mono (ht fp _ _ _ _ s8 σ8 H8 _ I8 q8) (fun ok s9 ⟨H9, I9, q9⟩ => ?_) fun _ _ z => False.elim z)
      cases ok with
      | false => exact wpAny_pure ⟨rfl, fin I9 q9⟩
      | true =>
        refine wpAny_bind (wpAny_bind (wpAny_mono (he fp _ _ _ _ s9 σ8 H9 _ I9 q9) (fun v s10 ⟨y, H10, I10, r10, xs, hx, hz, q10⟩ => ?_) fun _ _ z => False.elim z))
        refine wpAny_bind (wpAny_mono (mt_append (X := X.block scope N fp { s2 with heap := h3 } (upd H2 s2.heap.objs.size (.lst [])) h3.objs.size) _ s10 σ8 H10 (.ref s2.heap.objs.size) [y] _ [v] (fun _ H11 => N' σ8 H11) I10 rfl (.cons r10 .nil) ⟨_, xs, y, rfl, rfl, hx, hz, q10⟩)
          (fun _ s11 ⟨_, H11, I11, _, q11⟩ => wpAny_pure (wpAny_pure ⟨rfl, fin I11 q11⟩)) fun _ _ z => False.elim z)
  exact codeAny_compStart_list (loop _ rfl) (T.self _ 0 _ _ _ tn1 (loop _ rfl))

/-- [elt for tg in iter if ..] -/
def tComp (src : List (Option Nat)) (wi : TI) (g : TG) (tc : TT) (te : TE) : TE := fun σ H Q => wi σ H fun J H1 => ∀ l, H1 l = none → CWant J src g tc te Q σ H1 l
theorem pe_comp {X : Cx} {elt tg iter : Expr} {ifs : List Expr} {scope : Scope} {pos : Pos} {N : List Str} {src : List (Option Nat)} {wi : TI} {g : TG} {tc : TT} {te : TE} (S : CpScope X scope N src) (hc : X.calm = true)
    (hi : PI X tg iter wi) (hg : ∀ fp s₀ H₀ C, PG (X.block scope N fp s₀ H₀ C) tg g) (ht : ∀ fp s₀ H₀ C, PIf (X.block scope N fp s₀ H₀ C) ifs tc) (he : ∀ fp s₀ H₀ C, PE (X.block scope N fp s₀ H₀ C) elt te)
    (hs : ∀ x, foldedSetIterable iter X.env x = pure x := by intro _; rfl) : PE X (.ListComp elt [⟨tg, iter, ifs, 0⟩] scope pos) (tComp src wi g tc te) := by
  intro pins s σ H Q I h
  rw [eval_ListComp]
  refine wpAny_comprehension_free (use := none) rfl hs (closureFor_closOf fun y hy e => I.ok.has y.1 (.inl (S.frees y hy e).2)) S.kind S.locs ?_
  refine thn (hi pins s σ H _ I h) fun v s1 h1 => thn h1 fun itv s2 h2 => ?_
  obtain ⟨it, fp, tn, J, H2, e, I2, T, st2, f2, hw⟩ := h2
  subst e
  refine comp_core (RR := fun acc C => compPost (model X.prog X.w) X.A X.xe none (EP X pins σ Q) acc C) S hc hg ht he I2 T st2 f2 hw ?_
  intro l C H' s' I' hm fC q
  obtain ⟨m, hm⟩ := hm
  refine ⟨m, hm, fun h' hs' => ?_⟩
  exact ⟨.ref l, H', I'.turned (t' := s'.toks) (fun b o hb e => hs'.extBut b o hb e) fC.1 fC.2.1 fC.2.2.2.1 fC.2.2.2.2.1 fC.2.2.2.2.2, rfl, q⟩
/-- x = [elt for tg in iter if ..] -/
theorem ps_setc {X : Cx} {i : Nat} {x : Str} {pos' spos : Pos} {elt tg iter : Expr} {ifs : List Expr} {scope : Scope} {pos : Pos} {N : List Str} {src : List (Option Nat)} {wi : TI} {g : TG} {tc : TT} {te : TE} (hN : X.N.Nodup) (hix : X.N[i]? = some x) (hx : Loc X.env.scope x)
    (S : CpScope X scope N src) (hc : X.calm = true)
    (hi : PI X tg iter wi) (hg : ∀ fp s₀ H₀ C, PG (X.block scope N fp s₀ H₀ C) tg g) (ht : ∀ fp s₀ H₀ C, PIf (X.block scope N fp s₀ H₀ C) ifs tc) (he : ∀ fp s₀ H₀ C, PE (X.block scope N fp s₀ H₀ C) elt te)
    (hsw : swapsWith (.ListComp elt [⟨tg, iter, ifs, 0⟩] scope pos) (some (.Name x pos')) spos.line X.env = pure true := by rfl)
    (hs : ∀ x, foldedSetIterable iter X.env x = pure x := by intro _; rfl) (hf : X.fn x = true ∨ X.env.scope.names.lookup x = some .local := by first | exact .inl rfl | exact .inr rfl | assumption) :
    PS X (.Assign [.Name x pos'] (.ListComp elt [⟨tg, iter, ifs, 0⟩] scope pos) spos) (tAsg (tComp src wi g tc te) (gName i)) := by
  intro pins s σ H D I h
  rw [exec_Assign_Name_used _ _ _ _ hsw]
  refine wpAny_bind (wpAny_standAt (wpAny_bind ?_))
  show wpAny _ X.A (do let _ ← comprehension (.ListComp elt [⟨tg, iter, ifs, 0⟩] scope pos) scope X.env _ (newList []) false (eval iter X.env) (some (assign (.Name x pos') X.env))) _ _ s
  refine wpAny_bind (wpAny_mono (wpAny_comprehension_free (use := some (assign (.Name x pos') X.env)) (Q := fun _ s' => SP X pins D .next s') rfl hs (closureFor_closOf fun y hy e => I.ok.has y.1 (.inl (S.frees y hy e).2)) S.kind S.locs
    (thn (hi pins s σ H _ I h) fun v s1 h1 => thn h1 fun itv s2 h2 => ?_)) (fun _ s' hq => wpAny_pure (wpAny_pure hq)) fun _ _ e => e)
  obtain ⟨it, fp, tn, J, H2, e, I2, T, st2, f2, hw⟩ := h2
  subst e
  refine comp_core (Q := fun v H' => D.nx (σ.set i (some v)) H') (RR := fun acc C => compPost (model X.prog X.w) X.A X.xe (some (assign (.Name x pos') X.env)) (fun _ s' => SP X pins D .next s') acc C) S hc hg ht he I2 T st2 f2 hw ?_
  intro l C H' s' I' hm fC q
  obtain ⟨m, hm⟩ := hm
  show wpAny _ X.A (assign (.Name x pos') X.env (.ref l)) _ _ _
  refine wpAny_assign_Name (store_ok2 I' hN hix hx (v := .ref l) rfl (fun s'' I'' ⟨a, sb, ha⟩ => ?_) hf)
  have hCa : C ≠ a := by
    rcases ha with rfl | ha
    · exact fC.2.1
    · exact fun z => fC.2.2.2.2.1 x a ha z.symm
  refine ⟨m, hm.sameBut sb hCa, fun h' hs' => ?_⟩
  exact ⟨_, H', I''.turned (t' := s''.toks) (fun b o hb e => hs'.extBut b o hb e) fC.1 fC.2.1 fC.2.2.2.1 fC.2.2.2.2.1 fC.2.2.2.2.2, q⟩
end L2

set_option Elab.async false
set_option linter.all false
set_option maxRecDepth 100000
set_option maxHeartbeats 1000000
namespace L2
open PySem PySem.Spec PyProof.Rows

/-! ### what enumerate and zip hand out -/
theorem Inv.turnedNew {X : Cx} {pins : List (Addr × Obj)} {σ : St} {H : Hp} {s : Shared} {h' : Heap} {ch : List Addr} {t : Addr} {o : HO} {t' : Nat} (I : Inv X pins σ H s) (hsz : s.heap.objs.size ≤ t)
    (k : ∀ b ob, b ∉ ch → s.heap.get? b = some ob → h'.get? b = some ob) (hch : ∀ b ∈ ch, FpOk X pins H b) (new : ObjOk X.prog X.w (upd H t o) h' t o) :
    Inv X pins σ (upd H t o) { s with heap := h', toks := t' } := by
  have hn : H t = none := I.hok.fresh hsz
  have nt : ∀ {b ob}, s.heap.get? b = some ob → b ≠ t := fun q => Nat.ne_of_lt (Nat.lt_of_lt_of_le (Heap.lt_size q) hsz)
  have u : Un (frs X.stack) ch H (upd H t o) s.heap h' :=
    ⟨fun b ob q _ _ hx => k b ob hx q, fun b ob q _ _ hx => ⟨ob.slots, k b ob hx q⟩, fun b ob q n _ => by rw [upd_ne (nt q)]; exact n, fun b ob q hx => ⟨ob, k b ob hx q⟩,
      fun b xs q => by rw [upd_ne (ne_of_none q hn)]; exact q, fun b ob xs q => by rw [upd_ne (ne_of_none q hn)]; exact q, fun b ps q => ⟨#[], by rw [upd_ne (ne_of_none q hn), q]; simp⟩⟩
  refine I.call (g' := s.gens) (t' := t') (d' := s.drawn) u (fun b ob e => ?_) I.bare fun b hb => ⟨(hch b hb).2.2.2.1, (hch b hb).2.1, (hch b hb).2.2.2.2.1, (hch b hb).2.2.2.2.2⟩
  by_cases hb : b = t
  · subst hb; rw [upd_same] at e; cases e; exact new
  · rw [upd_ne hb] at e
    have ntr : ∀ {c u}, H c = some u → c ∉ ch := fun q z => by rw [(hch _ z).1] at q; cases q
    refine (I.hok b ob e).stay (fun c v hc q => k c v ?_ q) (fun c q => by rw [upd_ne (ne_of_none q hn)]; exact q) fun c xs q => by rw [upd_ne (ne_of_none q hn)]; exact q
    rcases hc with z | z
    · rw [z]; exact ntr e
    · exact ntr z
/-- nothing new, several turned -/
theorem Inv.turnedAll {X : Cx} {pins : List (Addr × Obj)} {σ : St} {H : Hp} {s : Shared} {h' : Heap} {ch : List Addr} {t' : Nat} (I : Inv X pins σ H s)
    (k : ∀ b ob, b ∉ ch → s.heap.get? b = some ob → h'.get? b = some ob) (hch : ∀ b ∈ ch, FpOk X pins H b) : Inv X pins σ H { s with heap := h', toks := t' } := by
  have u : Un (frs X.stack) ch H H s.heap h' :=
    ⟨fun b ob q _ _ hx => k b ob hx q, fun b ob q _ _ hx => ⟨ob.slots, k b ob hx q⟩, fun b ob q n _ => n, fun b ob q hx => ⟨ob, k b ob hx q⟩, fun b xs q => q, fun b ob xs q => q, fun b ps q => ⟨#[], by rw [q]; simp⟩⟩
  refine I.call (g' := s.gens) (t' := t') (d' := s.drawn) u (fun b ob e => ?_) I.bare fun b hb => ⟨(hch b hb).2.2.2.1, (hch b hb).2.1, (hch b hb).2.2.2.2.1, (hch b hb).2.2.2.2.2⟩
  have ntr : ∀ {c u}, H c = some u → c ∉ ch := fun q z => by rw [(hch _ z).1] at q; cases q
  refine (I.hok b ob e).stay (fun c v hc q => k c v ?_ q) (fun c q => q) fun c xs q => q
  rcases hc with z | z
  · rw [z]; exact ntr e
  · exact ntr z

/-- enumerate of the list at a -/
def Ite (K : PySem.W.Frag) (a : Addr) : It :=
  ⟨fun i H => ∃ xs x, SqL K H a xs ∧ xs[i]? = some x, fun i H x H' => ∃ t y, H t = none ∧ x = .ref t ∧ H' = upd H t (.tup [.int i, y]) ∧ ∀ xs, SqL K H a xs → xs[i]? = some y, fun i H => ∃ xs, SqL K H a xs ∧ xs.length ≤ i⟩
theorem fp2 {X : Cx} {pins : List (Addr × Obj)} {H H' : Hp} {b : Addr} (h : FpOk X pins H b) (hn : H' b = none) : FpOk X pins H' b := ⟨hn, h.2⟩
theorem turn_enum {P : Program} {w : World} {K : PySem.W.Frag} {elts : List Expr} {x1 : Nat} {pos : Pos} (a e it : Addr) (hne : e ≠ it) :
    Turn P w K (.Tuple elts x1 pos) (Ite K a) [e, it] e (fun i h => (∃ old, IsEnum h e it i old) ∧ h.IsListIter it a i) where
  mem := by simp
  obj := fun i h st b hb => by
    obtain ⟨⟨old, he⟩, hit⟩ := st
    have q : b = e ∨ b = it := by simpa using hb
    rcases q with rfl | rfl
    · exact ⟨_, he, fun v z => by
        have z' : Data.fields _ = Data.cell v := z
        cases z'⟩
    · obtain ⟨o, e1, c, d⟩ := hit
      exact ⟨o, e1, fun v z => by rw [d] at z; cases z⟩
  keep := fun i h h' st k => by
    obtain ⟨⟨old, he⟩, hit⟩ := st
    exact ⟨⟨old, k e (by simp) _ he⟩, hit.at fun o z => k it (by simp) o z⟩
  item := by
    intro X hP hw hK hc i pins s σ H E I hf st hg
    subst hP hw hK
    obtain ⟨⟨old, he⟩, hit⟩ := st
    obtain ⟨xs, x, hq, hx⟩ := hg
    obtain ⟨its, rv, p, hz⟩ := I.list hq
    obtain ⟨u, hu, ru⟩ := rv.get hx
    have elt : e < s.heap.objs.size := Heap.lt_size he
    have ilt : it < s.heap.objs.size := by obtain ⟨_, z, _⟩ := hit; exact Heap.lt_size z
    refine wpAny_pyNext_enum_item he hit p.isList (x := u) (by simpa using hu) hne fun h1 ho hit1 hT hsz1 hk1 => ?_
    refine ⟨_, rfl, wpAny_letOwnedTupleGo_enum ho fun h2 he2 hs2 => ?_⟩
    replace hs2 : Heap.SameBut e h1 h2 := hs2
    have kk : ∀ b ob, b ∉ [e, it] → s.heap.get? b = some ob → h2.get? b = some ob := fun b ob hb q => by
      have hb' : b ≠ e ∧ b ≠ it := by simpa using hb
      exact hs2.extBut b ob hb'.1 (hk1 b ob hb'.1 hb'.2 q)
    have hT2 : h2.get? s.heap.objs.size = some { cls := .type "tuple", data := .seq #[.int i s.toks, u] } := (hs2.2 _ (Nat.ne_of_gt elt)).trans hT
    refine ⟨.ref s.heap.objs.size, upd H s.heap.objs.size (.tup [.int i, x]), I.turnedNew (ch := [e, it]) (Nat.le_refl _) kk hf ?_, rfl, ⟨_, x, I.fresh, rfl, rfl, fun ys hy => by rw [I.list_inj hy hq]; exact hx⟩, ⟨⟨u, by simpa using he2⟩, hit1.at fun o z => (hs2.2 it hne.symm).trans z⟩, fun b hb => ?_⟩
    · exact ⟨by show 2 ≤ sizeLine; decide, [.int i s.toks, u], .cons ⟨_, rfl⟩ (.cons ru .nil), ⟨_, hT2, rfl, _, rfl⟩⟩
    · have hb' : b = e ∨ b = it := by simpa using hb
      have : b ≠ s.heap.objs.size := by
        rcases hb' with rfl | rfl
        · exact Nat.ne_of_lt elt
        · exact Nat.ne_of_lt ilt
      rw [upd_ne this]
      exact (hf b hb).1
  done := by
    intro X hP hw hK hc i pins s σ H E I hf st hg
    subst hP hw hK
    obtain ⟨⟨old, he⟩, hit⟩ := st
    obtain ⟨xs, hq, hx⟩ := hg
    obtain ⟨its, rv, p, hz⟩ := I.list hq
    have hl := rv.length
    refine wpAny_pyNext_enum_end (I.ok.hd hc) he hit p.isList (by simp; omega) fun h' eb => ⟨rfl, I.turnedAll (ch := [e, it]) (t' := s.toks) (fun b o hb q => eb b o (fun z => hb (by simp [z])) q) hf⟩
  self := fun _ _ _ _ _ st h => by
    obtain ⟨⟨old, he⟩, _⟩ := st
    exact wpAny_pyIter_enum he h
def iEnum (K : PySem.W.Frag) (ta : TA) : TI := fun σ H R => ta σ H fun vs H1 => ∃ a, vs = [.ref a] ∧ (∃ xs, SqL K H1 a xs) ∧ R (Ite K a) H1
theorem pi_enum {X : Cx} {elts : List Expr} {x1 : Nat} {tpos : Pos} {a : Expr} {ta : TA} {p pos : Pos} (hg : Gl X "enumerate") (hm : X.mg "enumerate" = none) (ha : PA X [a] ta) (hs : starEach [a] X.env = [(false, eval a X.env)] := by rfl) :
    PI X (.Tuple elts x1 tpos) (.Call (.Name "enumerate" p) [a] [] pos) (iEnum X.K ta) := by
  intro pins s σ H R I h
  refine Call_ (ld_blt I hg hm boot_enumerate (PyProof.Rows.callWith_type1 (thn (ha pos pins s σ H _ I h) fun us s1 ⟨vs, H1, I1, r1, q1⟩ => ?_) hs rfl))
  obtain ⟨a, e, ⟨xs, hq⟩, q⟩ := q1
  subst e
  cases r1 with
  | cons r rr =>
    cases rr
    cases r
    obtain ⟨its, rv, pl, hz⟩ := I1.list hq
    refine call_enumerate_list pl.isList fun h' he hit hsz hk => ?_
    refine wpAny_pyIter_enum he ?_
    have I2 : Inv X pins σ H1 { s1 with heap := h' } := I1.kept (t' := s1.toks) fun b o q => hk b o q
    refine ⟨_, [s1.heap.objs.size + 1, s1.heap.objs.size], _, _, H1, rfl, I2, turn_enum a _ _ (Nat.succ_ne_self _), ⟨⟨_, he⟩, hit⟩, fun b hb => ?_, q⟩
    have hb' : b = s1.heap.objs.size + 1 ∨ b = s1.heap.objs.size := by simpa using hb
    rcases hb' with rfl | rfl
    · exact I1.fpOk (Nat.le_succ _) (I1.hok.fresh (Nat.le_succ _))
    · exact I1.fpOk (Nat.le_refl _) (I1.hok.fresh (Nat.le_refl _))
end L2

set_option Elab.async false
set_option linter.all false
set_option maxRecDepth 100000
set_option maxHeartbeats 1000000
namespace L2
open PySem PySem.Spec PyProof.Rows

/-! ### zip of two lists, of two tuples -/
section
variable {prog : Program} {w : World} {A : Around} {E : Value → Shared → Prop} {s : Shared}
theorem nextOf_tup {j t : Addr} {k : Nat} {ar : Array Value} {x : Value} {Q : Value → Shared → Prop} (hj : s.heap.IsTupleIter j t k) (ht : s.heap.IsTuple t ar) (hx : ar[k]? = some x)
    (hQ : ∀ h', h'.IsTupleIter j t (k + 1) → Heap.SameBut j s.heap h' → Q x { s with heap := h' }) : wpAny (model prog w) A (Builtin.SmallTypes.nextOf (.ref j)) Q E s := by
  obtain ⟨ob, e0, hcl, hdt⟩ := id hj
  obtain ⟨ot, e1, _, nt, hdl⟩ := ht
  unfold Builtin.SmallTypes.nextOf
  refine wpAny_bind (wpAny_callSpecial?_slot (name := Str.ofString "__next__") hj.typeIs F.slot_tuple_iterator_next (wpAny_call_entry F.slot_tuple_iterator_next hj.typeIs F.entry_tuple_iterator_next ?_ (F.args_tuple_iterator_next_1 _)))
  show wpAny _ _ (field (.ref j) 0 >>= _) _ _ s
  refine wpAny_bind (wpAny_field e0 hdt (x := .ref t) rfl ?_)
  show wpAny _ _ (if (Value.ref t == Value.none) = true then _ else _) _ _ s
  rw [if_neg (show ¬ ((Value.ref t == Value.none) = true) from Bool.false_ne_true)]
  show wpAny _ _ (field (.ref j) 1 >>= _) _ _ s
  refine wpAny_bind (wpAny_field e0 hdt (x := .int k 0) rfl ?_)
  show wpAny _ _ (seqItems? (.ref t) >>= _) _ _ s
  refine wpAny_bind (wpAny_seqItems e1 hdl ?_)
  simp only [Int.toNat_natCast, hx]
  refine wpAny_bind (wpAny_setField e0 hdt (by simp) (wpAny_pure ⟨x, rfl, wpAny_pure (hQ _ ?_ (Heap.SameBut.update ..))⟩))
  exact ⟨_, Heap.get?_update_self _ e0 (Obj.isFreed_of_fields (Obj.data_mapFields hdt _)), (Obj.cls_mapFields ..).trans hcl, by rw [Obj.data_mapFields hdt]; simp [rawInt]⟩
theorem nextOf_tup_end {j t : Addr} {k : Nat} {ar : Array Value} {Q : Value → Shared → Prop} (hh : A.handled = none) (hj : s.heap.IsTupleIter j t k) (ht : s.heap.IsTuple t ar) (hx : ar[k]? = none)
    (hE : ∀ h' e, Heap.ExtBut j s.heap h' → (∃ o, h'.get? e = some o ∧ o.cls = .type "StopIteration") → E (.ref e) { s with heap := h' }) : wpAny (model prog w) A (Builtin.SmallTypes.nextOf (.ref j)) Q E s := by
  obtain ⟨ob, e0, hcl, hdt⟩ := id hj
  obtain ⟨ot, e1, _, nt, hdl⟩ := ht
  unfold Builtin.SmallTypes.nextOf
  refine wpAny_bind (wpAny_callSpecial?_slot (name := Str.ofString "__next__") hj.typeIs F.slot_tuple_iterator_next (wpAny_call_entry F.slot_tuple_iterator_next hj.typeIs F.entry_tuple_iterator_next ?_ (F.args_tuple_iterator_next_1 _)))
  show wpAny _ _ (field (.ref j) 0 >>= _) _ _ s
  refine wpAny_bind (wpAny_field e0 hdt (x := .ref t) rfl ?_)
  show wpAny _ _ (if (Value.ref t == Value.none) = true then _ else _) _ _ s
  rw [if_neg (show ¬ ((Value.ref t == Value.none) = true) from Bool.false_ne_true)]
  show wpAny _ _ (field (.ref j) 1 >>= _) _ _ s
  refine wpAny_bind (wpAny_field e0 hdt (x := .int k 0) rfl ?_)
  show wpAny _ _ (seqItems? (.ref t) >>= _) _ _ s
  refine wpAny_bind (wpAny_seqItems e1 hdl ?_)
  simp only [Int.toNat_natCast, hx]
  refine wpAny_bind (wpAny_rule (wpAny_bind (wpAny_setField e0 hdt (by simp) ?_)))
  show wpAny _ _ (newExc (.type "StopIteration") [] >>= _) _ _ _
  refine wpAny_bind ?_
  simp only [newExc, newTuple]
  refine wpAny_bind (wpAny_newObj_type ?_ (by size_fits))
  refine wpAny_bind (m := firstArgMember _ _) (wpAny_of_eq (a := Value.none) (by first | rfl | (simp only [firstArgMember]; rfl)) ?_)
  refine wpAny_newObj_type ?_ (by size_fits)
  simp only [raiseNew]
  refine wpAny_bind (wpAny_handled ?_)
  first | rw [show A.in1.handled = none from hh] | rw [hh]
  refine wpAny_bind (wpAny_pure (wpAny_throw ?_))
  exact hE _ _ (((Heap.SameBut.update ..).extBut.push _).push _) ⟨_, Heap.get?_push_size _ rfl, rfl⟩

/-- a list or a tuple, and an iterator over it -/
def IsSq (b : Bool) (h : Heap) (l : Addr) (ar : Array Value) : Prop := if b = true then h.IsList l ar else h.IsTuple l ar
def IsSqIt (b : Bool) (h : Heap) (j l : Addr) (k : Nat) : Prop := if b = true then h.IsListIter j l k else h.IsTupleIter j l k
theorem IsSq.at' {b : Bool} {h h' : Heap} {l : Addr} {ar : Array Value} (x : IsSq b h l ar) (k : ∀ o, h.get? l = some o → h'.get? l = some o) : IsSq b h' l ar := by
  cases b with
  | true => obtain ⟨o, e, r⟩ := (show h.IsList l ar from x); exact (show h'.IsList l ar from ⟨o, k o e, r⟩)
  | false => obtain ⟨o, e, r⟩ := (show h.IsTuple l ar from x); exact (show h'.IsTuple l ar from ⟨o, k o e, r⟩)
theorem IsSqIt.at' {b : Bool} {h h' : Heap} {j l : Addr} {i : Nat} (x : IsSqIt b h j l i) (k : ∀ o, h.get? j = some o → h'.get? j = some o) : IsSqIt b h' j l i := by
  cases b with
  | true => obtain ⟨o, e, r⟩ := (show h.IsListIter j l i from x); exact (show h'.IsListIter j l i from ⟨o, k o e, r⟩)
  | false => obtain ⟨o, e, r⟩ := (show h.IsTupleIter j l i from x); exact (show h'.IsTupleIter j l i from ⟨o, k o e, r⟩)
theorem IsSqIt.obj {b : Bool} {h : Heap} {j l : Addr} {i : Nat} (x : IsSqIt b h j l i) : ∃ o, h.get? j = some o ∧ ∀ v, o.data ≠ .cell v := by
  cases b with
  | true => obtain ⟨o, e, _, d⟩ := (show h.IsListIter j l i from x); exact ⟨o, e, fun v z => by rw [d] at z; cases z⟩
  | false => obtain ⟨o, e, _, d⟩ := (show h.IsTupleIter j l i from x); exact ⟨o, e, fun v z => by rw [d] at z; cases z⟩
theorem nextOf_sq {b : Bool} {j l : Addr} {k : Nat} {ar : Array Value} {x : Value} {Q : Value → Shared → Prop} (hj : IsSqIt b s.heap j l k) (hl : IsSq b s.heap l ar) (hx : ar[k]? = some x)
    (hQ : ∀ h', IsSqIt b h' j l (k + 1) → Heap.SameBut j s.heap h' → Q x { s with heap := h' }) : wpAny (model prog w) A (Builtin.SmallTypes.nextOf (.ref j)) Q E s := by
  cases b with
  | true => exact wpAny_nextOf_list_item (show s.heap.IsListIter j l k from hj) (show s.heap.IsList l ar from hl) hx fun h' a b => hQ h' a b
  | false => exact nextOf_tup (show s.heap.IsTupleIter j l k from hj) (show s.heap.IsTuple l ar from hl) hx fun h' a b => hQ h' a b
theorem nextOf_sq_end {b : Bool} {j l : Addr} {k : Nat} {ar : Array Value} {Q : Value → Shared → Prop} (hh : A.handled = none) (hj : IsSqIt b s.heap j l k) (hl : IsSq b s.heap l ar) (hx : ar[k]? = none)
    (hE : ∀ h' e, Heap.ExtBut j s.heap h' → (∃ o, h'.get? e = some o ∧ o.cls = .type "StopIteration") → E (.ref e) { s with heap := h' }) : wpAny (model prog w) A (Builtin.SmallTypes.nextOf (.ref j)) Q E s := by
  cases b with
  | true => exact wpAny_nextOf_list_end hh (show s.heap.IsListIter j l k from hj) (show s.heap.IsList l ar from hl) hx hE
  | false => exact nextOf_tup_end hh (show s.heap.IsTupleIter j l k from hj) (show s.heap.IsTuple l ar from hl) hx hE

theorem zipNext_item {b : Bool} {z TI TO i1 i2 l1 l2 : Addr} {k1 k2 : Nat} {xs ys : Array Value} {x y v0 v1 : Value} {Q : Value → Shared → Prop} (D : ZipApart z TI TO i1 i2 l1 l2)
    (hz : IsZip s.heap z TI TO .none) (hTI : IsPair s.heap TI (.ref i1) (.ref i2)) (hTO : IsPair s.heap TO v0 v1)
    (h1 : IsSqIt b s.heap i1 l1 k1) (h2 : IsSqIt b s.heap i2 l2 k2) (hl1 : IsSq b s.heap l1 xs) (hl2 : IsSq b s.heap l2 ys) (hx : xs[k1]? = some x) (hy : ys[k2]? = some y)
    (hQ : ∀ h', IsZip h' z TI TO (rawInt s.heap.objs.size) → IsPair h' TO x y → IsSqIt b h' i1 l1 (k1 + 1) → IsSqIt b h' i2 l2 (k2 + 1) → IsPair h' s.heap.objs.size x y →
      (∀ c o, c ≠ z → c ≠ TO → c ≠ i1 → c ≠ i2 → s.heap.get? c = some o → h'.get? c = some o) → Q (.ref s.heap.objs.size) { s with heap := h' }) :
    wpAny (model prog w) A (Builtin.«zip.__next__» ⟨[.ref z], []⟩) (fun fin s' => ∃ v, fin = .done (.ret v) ∧ Q v s') E s := by
  show wpAny _ _ (field (.ref z) 2 >>= _) _ _ _
  refine wpAny_bind (wpAny_field hz rfl (x := .bool false) rfl ?_)
  show wpAny _ _ (field (.ref z) 3 >>= _) _ _ _
  refine wpAny_bind (wpAny_field hz rfl (x := .ref TI) rfl ?_)
  refine wpAny_bind (wpAny_seqItems hTI rfl ?_)
  show wpAny _ _ (Builtin.SmallTypes.ownedTupleIsFree (.ref z) >>= _) _ _ _
  refine wpAny_bind ?_
  unfold Builtin.SmallTypes.ownedTupleIsFree
  refine wpAny_bind (wpAny_field hz rfl (x := .none) rfl (wpAny_pure ?_))
  simp only [if_true]
  refine wpAny_bind (wpAny_rule ?_)
  refine wpAny_bind (wpAny_field hz rfl (x := .ref TO) rfl ?_)
  refine wpAny_bind (wpAny_setField_rec hz (by simp) fun g1 hzA sA => ?_)
  replace hzA : IsZip g1 z TI TO .ellipsis := hzA
  refine wpAny_bind ?_
  simp only [List.zipIdx_cons, List.zipIdx_nil, List.forIn_cons, List.forIn_nil]
  refine wpAny_bind (wpAny_bind (wpAny_onRaise ?_))
  show wpAny _ _ (Builtin.SmallTypes.nextOf (.ref i1) >>= _) _ _ _
  refine wpAny_bind (nextOf_sq (b := b) (h1.at' fun o e => sA.extBut _ o D.i1z e) (hl1.at' fun o e => sA.extBut _ o D.l1z e) hx fun g2 h1B sB => wpAny_pure ?_)
  have TOB : IsPair g2 TO v0 v1 := sB.extBut _ _ D.TOi1 (sA.extBut _ _ D.TOz hTO)
  refine wpAny_bind (wpAny_seqItems TOB rfl ?_)
  refine wpAny_bind (wpAny_updateSeq_pair TOB fun g3 TOC sC => ?_)
  replace TOC : IsPair g3 TO x v1 := TOC
  refine wpAny_bind (wpAny_letGo (wpAny_pure ?_))
  refine wpAny_bind (wpAny_bind (wpAny_onRaise ?_))
  show wpAny _ _ (Builtin.SmallTypes.nextOf (.ref i2) >>= _) _ _ _
  refine wpAny_bind (nextOf_sq (b := b) (h2.at' fun o e => sC.extBut _ o D.TOi2.symm (sB.extBut _ o D.i12.symm (sA.extBut _ o D.i2z e))) (hl2.at' fun o e => sC.extBut _ o D.l2TO (sB.extBut _ o D.l2i1 (sA.extBut _ o D.l2z e))) hy fun g4 h2D sD => wpAny_pure ?_)
  have TOD : IsPair g4 TO x v1 := sD.extBut _ _ D.TOi2 TOC
  refine wpAny_bind (wpAny_seqItems TOD rfl ?_)
  refine wpAny_bind (wpAny_updateSeq_pair TOD fun g5 TOE sE => ?_)
  replace TOE : IsPair g5 TO x y := TOE
  refine wpAny_bind (wpAny_letGo (wpAny_pure (wpAny_pure ?_)))
  refine wpAny_bind (wpAny_seqItems TOE rfl ?_)
  refine wpAny_bind (wpAny_newTuple ?_)
  have hsz : g5.objs.size = s.heap.objs.size := by rw [sE.1, sD.1, sC.1, sB.1, sA.1]
  have hzE : IsZip g5 z TI TO .ellipsis := sE.extBut _ _ D.TOz.symm (sD.extBut _ _ D.i2z.symm (sC.extBut _ _ D.TOz.symm (sB.extBut _ _ D.i1z.symm hzA)))
  have hkE : ∀ c o, c ≠ z → c ≠ TO → c ≠ i1 → c ≠ i2 → s.heap.get? c = some o → g5.get? c = some o := fun c o c1 c2 c3 c4 e => sE.extBut _ _ c2 (sD.extBut _ _ c4 (sC.extBut _ _ c2 (sB.extBut _ _ c3 (sA.extBut _ _ c1 e))))
  have h1E : IsSqIt b g5 i1 l1 (k1 + 1) := h1B.at' fun o e => sE.extBut _ o D.TOi1.symm (sD.extBut _ o D.i12 (sC.extBut _ o D.TOi1.symm e))
  have h2E : IsSqIt b g5 i2 l2 (k2 + 1) := h2D.at' fun o e => sE.extBut _ o D.TOi2.symm e
  have zlt : z < g5.objs.size := Heap.lt_size hzE
  show wpAny _ _ (Builtin.SmallTypes.ownedTupleHandOut (.ref z) (.ref g5.objs.size) >>= _) _ _ _
  refine wpAny_bind ?_
  unfold Builtin.SmallTypes.ownedTupleHandOut
  have hzF : IsZip (g5.push { cls := .type "tuple", data := .seq #[x, y] }) z TI TO .ellipsis := Heap.get?_push_of_some _ hzE
  refine wpAny_bind (wpAny_setField_rec hzF (by simp) fun g7 hzG sG => ?_)
  replace hzG : IsZip g7 z TI TO (rawInt g5.objs.size) := hzG
  refine wpAny_setField_rec hzG (by simp) fun g8 hzI sI => ?_
  replace hzI : IsZip g8 z TI TO (rawInt g5.objs.size) := hzI
  have up : ∀ c o, c ≠ z → g5.get? c = some o → g8.get? c = some o := fun c o c1 e => sI.extBut _ _ c1 (sG.extBut _ _ c1 (Heap.get?_push_of_some _ e))
  have hTI8 : IsPair g8 g5.objs.size x y := sI.extBut _ _ (Nat.ne_of_gt zlt) (sG.extBut _ _ (Nat.ne_of_gt zlt) (Heap.get?_push_size _ rfl))
  rw [hsz] at hzI hTI8
  refine wpAny_pure ⟨_, rfl, ?_⟩
  show Q (.ref g5.objs.size) _
  rw [hsz]
  exact hQ g8 hzI (up _ _ D.TOz TOE) (h1E.at' fun o e => up _ o D.i1z e) (h2E.at' fun o e => up _ o D.i2z e) hTI8 fun c o c1 c2 c3 c4 e => up c o c1 (hkE c o c1 c2 c3 c4 e)

theorem zipNext_end {b : Bool} {z TI TO i1 i2 l1 l2 : Addr} {k1 k2 : Nat} {xs ys : Array Value} {v0 v1 : Value} {Q : Fin → Shared → Prop} (hh : A.handled = none) (D : ZipApart z TI TO i1 i2 l1 l2)
    (hz : IsZip s.heap z TI TO .none) (hTI : IsPair s.heap TI (.ref i1) (.ref i2)) (hTO : IsPair s.heap TO v0 v1)
    (h1 : IsSqIt b s.heap i1 l1 k1) (h2 : IsSqIt b s.heap i2 l2 k2) (hl1 : IsSq b s.heap l1 xs) (hl2 : IsSq b s.heap l2 ys) (hend : xs[k1]? = none ∨ ys[k2]? = none)
    (hE : ∀ h' e, (∀ c o, c ≠ z → c ≠ TO → c ≠ i1 → c ≠ i2 → s.heap.get? c = some o → h'.get? c = some o) → (∃ o, h'.get? e = some o ∧ o.cls = .type "StopIteration") → E (.ref e) { s with heap := h' }) :
    wpAny (model prog w) A (Builtin.«zip.__next__» ⟨[.ref z], []⟩) Q E s := by
  show wpAny _ _ (field (.ref z) 2 >>= _) _ _ _
  refine wpAny_bind (wpAny_field hz rfl (x := .bool false) rfl ?_)
  show wpAny _ _ (field (.ref z) 3 >>= _) _ _ _
  refine wpAny_bind (wpAny_field hz rfl (x := .ref TI) rfl ?_)
  refine wpAny_bind (wpAny_seqItems hTI rfl ?_)
  show wpAny _ _ (Builtin.SmallTypes.ownedTupleIsFree (.ref z) >>= _) _ _ _
  refine wpAny_bind ?_
  unfold Builtin.SmallTypes.ownedTupleIsFree
  refine wpAny_bind (wpAny_field hz rfl (x := .none) rfl (wpAny_pure ?_))
  simp only [if_true]
  refine wpAny_bind (wpAny_rule ?_)
  refine wpAny_bind (wpAny_field hz rfl (x := .ref TO) rfl ?_)
  refine wpAny_bind (wpAny_setField_rec hz (by simp) fun g1 hzA sA => ?_)
  replace hzA : IsZip g1 z TI TO .ellipsis := hzA
  refine wpAny_bind ?_
  simp only [List.zipIdx_cons, List.zipIdx_nil, List.forIn_cons, List.forIn_nil]
  refine wpAny_bind (wpAny_bind (wpAny_onRaise ?_))
  show wpAny _ _ (Builtin.SmallTypes.nextOf (.ref i1) >>= _) _ _ _
  cases hx : xs[k1]? with
  | none =>
    refine wpAny_bind (nextOf_sq_end (b := b) hh (h1.at' fun o e => sA.extBut _ o D.i1z e) (hl1.at' fun o e => sA.extBut _ o D.l1z e) hx fun g2 ex sB he => ?_)
    obtain ⟨oe, hoe, hce⟩ := he
    have hzB : IsZip g2 z TI TO .ellipsis := sB _ _ D.i1z.symm hzA
    have hez : ex ≠ z := fun q => by subst q; rw [hzB] at hoe; cases hoe; simp at hce
    refine wpAny_setField_rec hzB (by simp) fun g3 _ sC => hE g3 ex (fun c o c1 _ c3 _ q => sC.extBut _ _ c1 (sB _ _ c3 (sA.extBut _ _ c1 q))) ⟨oe, sC.extBut _ _ hez hoe, hce⟩
  | some x =>
    have hy : ys[k2]? = none := by rcases hend with h | h; rw [hx] at h; cases h; exact h
    refine wpAny_bind (nextOf_sq (b := b) (h1.at' fun o e => sA.extBut _ o D.i1z e) (hl1.at' fun o e => sA.extBut _ o D.l1z e) hx fun g2 h1B sB => wpAny_pure ?_)
    have TOB : IsPair g2 TO v0 v1 := sB.extBut _ _ D.TOi1 (sA.extBut _ _ D.TOz hTO)
    refine wpAny_bind (wpAny_seqItems TOB rfl ?_)
    refine wpAny_bind (wpAny_updateSeq_pair TOB fun g3 TOC sC => ?_)
    refine wpAny_bind (wpAny_letGo (wpAny_pure ?_))
    refine wpAny_bind (wpAny_bind (wpAny_onRaise ?_))
    show wpAny _ _ (Builtin.SmallTypes.nextOf (.ref i2) >>= _) _ _ _
    refine wpAny_bind (nextOf_sq_end (b := b) hh (h2.at' fun o e => sC.extBut _ o D.TOi2.symm (sB.extBut _ o D.i12.symm (sA.extBut _ o D.i2z e))) (hl2.at' fun o e => sC.extBut _ o D.l2TO (sB.extBut _ o D.l2i1 (sA.extBut _ o D.l2z e))) hy fun g4 ex sD he => ?_)
    obtain ⟨oe, hoe, hce⟩ := he
    have hzD : IsZip g4 z TI TO .ellipsis := sD _ _ D.i2z.symm (sC.extBut _ _ D.TOz.symm (sB.extBut _ _ D.i1z.symm hzA))
    have hez : ex ≠ z := fun q => by subst q; rw [hzD] at hoe; cases hoe; simp at hce
    refine wpAny_setField_rec hzD (by simp) fun g5 _ sE => hE g5 ex (fun c o c1 c2 c3 c4 q => sE.extBut _ _ c1 (sD _ _ c4 (sC.extBut _ _ c2 (sB.extBut _ _ c3 (sA.extBut _ _ c1 q))))) ⟨oe, sE.extBut _ _ hez hoe, hce⟩
end

abbrev zpIt (b : Bool) (l : Addr) : Obj := { cls := .type (if b = true then "list_iterator" else "tuple_iterator"), data := .fields #[.ref l, .int 0 0] }
abbrev zp2 (b : Bool) (h : Heap) (l1 l2 : Addr) : Heap := (h.push (zpIt b l1)).push (zpIt b l2)
abbrev zp3 (b : Bool) (h : Heap) (l1 l2 : Addr) : Heap := (zp2 b h l1 l2).push { cls := .type "tuple", data := .seq #[.ref h.objs.size, .ref (h.push (zpIt b l1)).objs.size] }
abbrev zp4 (b : Bool) (h : Heap) (l1 l2 : Addr) : Heap := (zp3 b h l1 l2).push { cls := .type "tuple", data := .seq #[.none, .none] }
abbrev zp5 (b : Bool) (h : Heap) (l1 l2 : Addr) : Heap := (zp4 b h l1 l2).push { cls := .type "zip", data := .fields #[.none, .bool false, .bool false, .ref (zp2 b h l1 l2).objs.size, .ref (zp3 b h l1 l2).objs.size] }
theorem zipNew_tt (l1 l2 : Addr) (xs ys : Array Value) :
    Meets (Builtin.«zip.__new__» ⟨[.type "zip", .ref l1, .ref l2], []⟩) (fun _ R s => s.heap.IsTuple l1 xs ∧ s.heap.IsTuple l2 ys ∧ R (.ok (.ret (.ref (zp4 false s.heap l1 l2).objs.size))) { s with heap := zp5 false s.heap l1 l2 }) :=
  .of_wp fun prog w A R s h => by
    obtain ⟨hp, g, d, tk, os⟩ := s; obtain ⟨hl1, hl2, h⟩ := h
    have hsub := sub_zip
    have hL1 : Heap.IsTuple (Shared.heap ⟨hp, g, d, tk, os⟩) l1 xs := hl1
    have hL2 : Heap.IsTuple (Shared.heap ⟨hp.push { cls := .type "tuple_iterator", data := .fields #[.ref l1, .int 0 0] }, g, d, tk, os⟩) l2 ys := Heap.IsTuple.push hl2 _
    wp_walk using wpAny_pyIter_tuple hL1, wpAny_pyIter_tuple hL2
    exact ⟨_, rfl, h⟩
section
variable {prog : Program} {w : World} {A : Around} {E : Value → Shared → Prop} {s : Shared}
theorem callZip {b : Bool} {l1 l2 : Addr} {xs ys : Array Value} {Q : Value → Shared → Prop} (hl1 : IsSq b s.heap l1 xs) (hl2 : IsSq b s.heap l2 ys)
    (h : ∀ h', IsZip h' (s.heap.objs.size + 4) (s.heap.objs.size + 2) (s.heap.objs.size + 3) .none → IsPair h' (s.heap.objs.size + 2) (.ref s.heap.objs.size) (.ref (s.heap.objs.size + 1)) →
      IsPair h' (s.heap.objs.size + 3) .none .none → IsSqIt b h' s.heap.objs.size l1 0 → IsSqIt b h' (s.heap.objs.size + 1) l2 0 → (∀ c o, s.heap.get? c = some o → h'.get? c = some o) → Q (.ref (s.heap.objs.size + 4)) { s with heap := h' }) :
    wpAny (model prog w) A (call (.type "zip") [.ref l1, .ref l2]) Q E s := by
  cases b with
  | true => exact call_zip_2 (show s.heap.IsList l1 xs from hl1) (show s.heap.IsList l2 ys from hl2) fun h' a1 a2 a3 a4 a5 _ a7 => h h' a1 a2 a3 a4 a5 a7
  | false =>
    refine callType_new F.called_zip (by decide) (F.typeCall_zip_2 _ _) (F.newCall_zip_2 _ _) (fun obj => F.args_object_init_3 obj _ _) F.entry_zip_new (zipNew_tt l1 l2 xs ys) ⟨hl1, hl2, ?_⟩
    have q1 : (s.heap.push (zpIt false l1)).objs.size = s.heap.objs.size + 1 := Heap.size_push ..
    have q2 : (zp2 false s.heap l1 l2).objs.size = s.heap.objs.size + 2 := by rw [Heap.size_push, q1]
    have q3 : (zp3 false s.heap l1 l2).objs.size = s.heap.objs.size + 3 := by rw [Heap.size_push, q2]
    have q4 : (zp4 false s.heap l1 l2).objs.size = s.heap.objs.size + 4 := by rw [Heap.size_push, q3]
    have p5 : (zp5 false s.heap l1 l2).get? (zp4 false s.heap l1 l2).objs.size = some _ := Heap.get?_push_size _ rfl
    have p4 : (zp5 false s.heap l1 l2).get? (zp3 false s.heap l1 l2).objs.size = some _ := Heap.get?_push_of_some _ (Heap.get?_push_size _ rfl)
    have p3 : (zp5 false s.heap l1 l2).get? (zp2 false s.heap l1 l2).objs.size = some _ := Heap.get?_push_of_some _ (Heap.get?_push_of_some _ (Heap.get?_push_size _ rfl))
    have p2 : (zp5 false s.heap l1 l2).get? (s.heap.push (zpIt false l1)).objs.size = some _ := Heap.get?_push_of_some _ (Heap.get?_push_of_some _ (Heap.get?_push_of_some _ (Heap.get?_push_size _ rfl)))
    have p1 : (zp5 false s.heap l1 l2).get? s.heap.objs.size = some _ := Heap.get?_push_of_some _ (Heap.get?_push_of_some _ (Heap.get?_push_of_some _ (Heap.get?_push_of_some _ (Heap.get?_push_size _ rfl))))
    show _ ∧ _
    rw [q2, q3, q4] at p5
    rw [q1, q2] at p3
    rw [q3] at p4
    rw [q1] at p2
    rw [q4]
    exact ⟨⟨_, p5, rfl⟩, h _ p5 p3 p4 (show Heap.IsTupleIter _ _ _ _ from ⟨_, p1, rfl, rfl⟩) (show Heap.IsTupleIter _ _ _ _ from ⟨_, p2, rfl, rfl⟩) fun c o x =>
      Heap.get?_push_of_some _ (Heap.get?_push_of_some _ (Heap.get?_push_of_some _ (Heap.get?_push_of_some _ (Heap.get?_push_of_some _ x))))⟩
end

/-- what is read as a list (a tuple) -/
def SqB (b : Bool) (K : PySem.W.Frag) (H : Hp) (a : Addr) (xs : List V) : Prop := if b = true then SqL K H a xs else SqT K H a xs
theorem Inv.sqB {X : Cx} {pins : List (Addr × Obj)} {σ : St} {H : Hp} {s : Shared} {b : Bool} {a : Addr} {xs : List V} (I : Inv X pins σ H s) (h : SqB b X.K H a xs) : ∃ its : List Value, Vals xs its ∧ IsSq b s.heap a its.toArray ∧ xs.length ≤ sizeLine := by
  cases b with
  | true =>
    obtain ⟨its, r, p, z⟩ := I.list (show SqL X.K H a xs from h)
    exact ⟨its, r, p.isList, z⟩
  | false =>
    obtain ⟨its, r, p, z⟩ := I.tuple (show SqT X.K H a xs from h)
    exact ⟨its, r, (show s.heap.IsTuple a its.toArray from p), z⟩
theorem Inv.sqB_inj {X : Cx} {pins : List (Addr × Obj)} {σ : St} {H : Hp} {s : Shared} {b : Bool} {a : Addr} {xs ys : List V} (I : Inv X pins σ H s) (h : SqB b X.K H a xs) (h' : SqB b X.K H a ys) : xs = ys := by
  cases b with
  | true => exact I.list_inj (show SqL X.K H a xs from h) (show SqL X.K H a ys from h')
  | false => exact I.tuple_inj (show SqT X.K H a xs from h) (show SqT X.K H a ys from h')
/-- zip of the two at a and c -/
def Itz (b : Bool) (K : PySem.W.Frag) (a c : Addr) : It :=
  ⟨fun i H => ∃ xs ys x y, SqB b K H a xs ∧ SqB b K H c ys ∧ xs[i]? = some x ∧ ys[i]? = some y,
   fun i H v H' => ∃ t x y, H t = none ∧ v = .ref t ∧ H' = upd H t (.tup [x, y]) ∧ (∀ xs, SqB b K H a xs → xs[i]? = some x) ∧ ∀ ys, SqB b K H c ys → ys[i]? = some y,
   fun i H => ∃ xs ys, SqB b K H a xs ∧ SqB b K H c ys ∧ (xs.length ≤ i ∨ ys.length ≤ i)⟩
theorem ap_sq {X : Cx} {pins : List (Addr × Obj)} {σ : St} {H : Hp} {s : Shared} {b : Bool} {a j : Addr} {xs : List V} (I : Inv X pins σ H s) (h : SqB b X.K H a xs) (f : FpOk X pins H j) : a ≠ j := by
  intro e
  subst e
  have key : ∀ {o}, X.K.lookup a = some o → False := fun {o} q => by
    have q1 := I.mod.kin a o q
    rcases f.2.2.2.1 with z | z
    · exact I.ok.noex a o q1 z
    · exact absurd (Nat.lt_of_lt_of_le (Heap.lt_size q1) (Nat.le_trans I.ok.bsz z)) (Nat.lt_irrefl _)
  cases b with
  | true =>
    rcases (show SqL X.K H a xs from h) with (h | ⟨o, h⟩) | ⟨o, its, n, hk, _⟩
    · rw [f.1] at h; cases h
    · rw [f.1] at h; cases h
    · exact key hk
  | false =>
    rcases (show SqT X.K H a xs from h) with (h | ⟨o, h⟩) | ⟨o, its, n, hk, _⟩
    · rw [f.1] at h; cases h
    · rw [f.1] at h; cases h
    · exact key hk
structure ZpA (z TI TO i1 i2 : Addr) : Prop where
  TIz : TI ≠ z
  TOz : TO ≠ z
  i1z : i1 ≠ z
  i2z : i2 ≠ z
  TITO : TI ≠ TO
  TIi1 : TI ≠ i1
  TIi2 : TI ≠ i2
  TOi1 : TO ≠ i1
  TOi2 : TO ≠ i2
  i12 : i1 ≠ i2
theorem turn_zip {P : Program} {w : World} {K : PySem.W.Frag} {elts : List Expr} {x1 : Nat} {pos : Pos} (b : Bool) (a c z TI TO i1 i2 : Addr) (D0 : ZpA z TI TO i1 i2) :
    Turn P w K (.Tuple elts x1 pos) (Itz b K a c) [z, TI, TO, i1, i2] z (fun i h => IsZip h z TI TO .none ∧ IsPair h TI (.ref i1) (.ref i2) ∧ (∃ u v, IsPair h TO u v) ∧ IsSqIt b h i1 a i ∧ IsSqIt b h i2 c i) where
  mem := by simp
  obj := fun i h st d hd => by
    obtain ⟨hz, hTI, ⟨u, v, hTO⟩, h1, h2⟩ := st
    have q : d = z ∨ d = TI ∨ d = TO ∨ d = i1 ∨ d = i2 := by simpa using hd
    rcases q with rfl | rfl | rfl | rfl | rfl
    · exact ⟨_, hz, fun v z => by
        have z' : Data.fields _ = Data.cell v := z
        cases z'⟩
    · exact ⟨_, hTI, fun v z => by
        have z' : Data.seq _ _ = Data.cell v := z
        cases z'⟩
    · exact ⟨_, hTO, fun v z => by
        have z' : Data.seq _ _ = Data.cell v := z
        cases z'⟩
    · exact h1.obj
    · exact h2.obj
  keep := fun i h h' st k => by
    obtain ⟨hz, hTI, ⟨u, v, hTO⟩, h1, h2⟩ := st
    exact ⟨k z (by simp) _ hz, k TI (by simp) _ hTI, ⟨u, v, k TO (by simp) _ hTO⟩, h1.at' fun o e => k i1 (by simp) o e, h2.at' fun o e => k i2 (by simp) o e⟩
  item := by
    intro X hP hw hK hc i pins s σ H E I hf st hg
    subst hP hw hK
    obtain ⟨hz, hTI, ⟨u0, v0, hTO⟩, h1, h2⟩ := st
    obtain ⟨xs, ys, x, y, hq1, hq2, hx, hy⟩ := hg
    obtain ⟨its1, rv1, p1, hz1⟩ := I.sqB hq1
    obtain ⟨its2, rv2, p2, hz2⟩ := I.sqB hq2
    obtain ⟨u1, hu1, ru1⟩ := rv1.get hx
    obtain ⟨u2, hu2, ru2⟩ := rv2.get hy
    have D : ZipApart z TI TO i1 i2 a c := ⟨D0.TIz, D0.TOz, D0.i1z, D0.i2z, D0.TITO, D0.TIi1, D0.TIi2, D0.TOi1, D0.TOi2, D0.i12,
      ap_sq I hq1 (hf z (by simp)), ap_sq I hq1 (hf TO (by simp)), ap_sq I hq1 (hf i1 (by simp)), ap_sq I hq1 (hf i2 (by simp)), ap_sq I hq2 (hf z (by simp)), ap_sq I hq2 (hf TO (by simp)), ap_sq I hq2 (hf i1 (by simp)), ap_sq I hq2 (hf i2 (by simp))⟩
    have zlt : z < s.heap.objs.size := Heap.lt_size hz
    have hT : s.TypeIs (.ref z) "zip" := ⟨_, hz, rfl⟩
    unfold pyNext
    refine wpAny_bind (wpAny_attempt (wpAny_callSpecial?_slot (name := Str.ofString "__next__") hT F.slot_zip_next (wpAny_call_entry F.slot_zip_next hT F.entry_zip_next
      (zipNext_item (b := b) D hz hTI hTO h1 h2 p1 p2 (x := u1) (y := u2) (by simpa using hu1) (by simpa using hu2) fun h' a1 a2 a3 a4 a5 a7 => wpAny_pure ?_) (F.args_zip_next_1 _))))
    refine ⟨_, rfl, wpAny_letOwnedTupleGo_zip a1 fun g hz' hs' => ?_⟩
    replace hs' : Heap.SameBut z h' g := hs'
    have kk : ∀ d ob, d ∉ [z, TI, TO, i1, i2] → s.heap.get? d = some ob → g.get? d = some ob := fun d ob hd q => by
      have hd' : d ≠ z ∧ d ≠ TI ∧ d ≠ TO ∧ d ≠ i1 ∧ d ≠ i2 := by simpa using hd
      exact hs'.extBut _ _ hd'.1 (a7 d ob hd'.1 hd'.2.2.1 hd'.2.2.2.1 hd'.2.2.2.2 q)
    have hT2 : g.get? s.heap.objs.size = some { cls := .type "tuple", data := .seq #[u1, u2] } := hs'.extBut _ _ (Nat.ne_of_gt zlt) a5
    refine ⟨.ref s.heap.objs.size, upd H s.heap.objs.size (.tup [x, y]), I.turnedNew (ch := [z, TI, TO, i1, i2]) (t' := s.toks) (Nat.le_refl _) kk hf ?_, rfl,
      ⟨_, x, y, I.fresh, rfl, rfl, fun zs hq => by rw [I.sqB_inj hq hq1]; exact hx, fun zs hq => by rw [I.sqB_inj hq hq2]; exact hy⟩,
      ⟨hz', hs'.extBut _ _ D.TIz (a7 _ _ D.TIz D.TITO D.TIi1 D.TIi2 hTI), ⟨_, _, hs'.extBut _ _ D.TOz a2⟩, a3.at' fun o e => hs'.extBut _ _ D.i1z e, a4.at' fun o e => hs'.extBut _ _ D.i2z e⟩, fun d hd => ?_⟩
    · exact ⟨by show 2 ≤ sizeLine; decide, [u1, u2], .cons ru1 (.cons ru2 .nil), ⟨_, hT2, rfl, _, rfl⟩⟩
    · have dlt : d < s.heap.objs.size := by
        have q : d = z ∨ d = TI ∨ d = TO ∨ d = i1 ∨ d = i2 := by simpa using hd
        rcases q with rfl | rfl | rfl | rfl | rfl
        · exact zlt
        · exact Heap.lt_size hTI
        · exact Heap.lt_size hTO
        · obtain ⟨o, e, _⟩ := h1.obj; exact Heap.lt_size e
        · obtain ⟨o, e, _⟩ := h2.obj; exact Heap.lt_size e
      rw [upd_ne (Nat.ne_of_lt dlt)]
      exact (hf d hd).1
  done := by
    intro X hP hw hK hc i pins s σ H E I hf st hg
    subst hP hw hK
    obtain ⟨hz, hTI, ⟨u0, v0, hTO⟩, h1, h2⟩ := st
    obtain ⟨xs, ys, hq1, hq2, hlen⟩ := hg
    obtain ⟨its1, rv1, p1, hz1⟩ := I.sqB hq1
    obtain ⟨its2, rv2, p2, hz2⟩ := I.sqB hq2
    have e1 := rv1.length
    have e2 := rv2.length
    have D : ZipApart z TI TO i1 i2 a c := ⟨D0.TIz, D0.TOz, D0.i1z, D0.i2z, D0.TITO, D0.TIi1, D0.TIi2, D0.TOi1, D0.TOi2, D0.i12,
      ap_sq I hq1 (hf z (by simp)), ap_sq I hq1 (hf TO (by simp)), ap_sq I hq1 (hf i1 (by simp)), ap_sq I hq1 (hf i2 (by simp)), ap_sq I hq2 (hf z (by simp)), ap_sq I hq2 (hf TO (by simp)), ap_sq I hq2 (hf i1 (by simp)), ap_sq I hq2 (hf i2 (by simp))⟩
    have hT : s.TypeIs (.ref z) "zip" := ⟨_, hz, rfl⟩
    unfold pyNext
    refine wpAny_bind (wpAny_attempt (wpAny_callSpecial?_slot (name := Str.ofString "__next__") hT F.slot_zip_next (wpAny_call_entry F.slot_zip_next hT F.entry_zip_next
      (zipNext_end (b := b) (I.ok.hd hc) D hz hTI hTO h1 h2 p1 p2 (by rcases hlen with h | h; exact .inl (by simp; omega); exact .inr (by simp; omega)) fun h' e hk he => ?_) (F.args_zip_next_1 _))))
    obtain ⟨o, ho, hcl⟩ := he
    refine wpAny_bind (wpAny_isInstance (T := "StopIteration") (b := true) ⟨o, ho, hcl⟩ isSubtype_stop ?_)
    exact wpAny_pure ⟨rfl, I.turnedAll (ch := [z, TI, TO, i1, i2]) (t' := s.toks) (fun d ob hd q => by
      have hd' : d ≠ z ∧ d ≠ TI ∧ d ≠ TO ∧ d ≠ i1 ∧ d ≠ i2 := by simpa using hd
      exact hk d ob hd'.1 hd'.2.2.1 hd'.2.2.2.1 hd'.2.2.2.2 q) hf⟩
  self := fun _ _ _ _ _ st h => wpAny_pyIter_zip st.1 h
def iZip (b : Bool) (K : PySem.W.Frag) (ta : TA) : TI := fun σ H R => ta σ H fun vs H1 => ∃ a c, vs = [.ref a, .ref c] ∧ (∃ xs, SqB b K H1 a xs) ∧ (∃ ys, SqB b K H1 c ys) ∧ R (Itz b K a c) H1
theorem zip_started {X : Cx} {b : Bool} {elts : List Expr} {x1 : Nat} {tpos : Pos} {pins : List (Addr × Obj)} {σ : St} {H1 : Hp} {s1 : Shared} {R : It → Hp → Prop} {a c : Addr} {xs ys : List V} (I1 : Inv X pins σ H1 s1) (hq1 : SqB b X.K H1 a xs) (hq2 : SqB b X.K H1 c ys) (q : R (Itz b X.K a c) H1) :
    wpAny (model X.prog X.w) X.A (call (.type "zip") [.ref a, .ref c]) (fun v s2 => wpAny (model X.prog X.w) X.A (pyIter v) (PIE X pins σ (.Tuple elts x1 tpos) R) X.xe s2) X.xe s1 := by
  obtain ⟨its1, rv1, p1, hz1⟩ := I1.sqB hq1
  obtain ⟨its2, rv2, p2, hz2⟩ := I1.sqB hq2
  refine callZip p1 p2 fun h' a1 a2 a3 a4 a5 hk => ?_
  refine wpAny_pyIter_zip a1 ?_
  have I2 : Inv X pins σ H1 { s1 with heap := h' } := I1.kept (t' := s1.toks) fun b o q => hk b o q
  have ne : ∀ i j : Nat, i ≠ j → s1.heap.objs.size + i ≠ s1.heap.objs.size + j := fun i j h e => h (Nat.add_left_cancel e)
  refine ⟨_, [s1.heap.objs.size + 4, s1.heap.objs.size + 2, s1.heap.objs.size + 3, s1.heap.objs.size, s1.heap.objs.size + 1], _, _, H1, rfl, I2, turn_zip b a c _ _ _ _ _ ⟨ne 2 4 (by decide), ne 3 4 (by decide), ne 0 4 (by decide), ne 1 4 (by decide), ne 2 3 (by decide), ne 2 0 (by decide), ne 2 1 (by decide), ne 3 0 (by decide), ne 3 1 (by decide), ne 0 1 (by decide)⟩,
    ⟨a1, a2, ⟨_, _, a3⟩, a4, a5⟩, fun d hd => ?_, q⟩
  have hd' : d = s1.heap.objs.size + 4 ∨ d = s1.heap.objs.size + 2 ∨ d = s1.heap.objs.size + 3 ∨ d = s1.heap.objs.size ∨ d = s1.heap.objs.size + 1 := by simpa using hd
  have hle : s1.heap.objs.size ≤ d := by
    rcases hd' with e | e | e | e | e <;> rw [e]
    · exact Nat.le_add_right _ _
    · exact Nat.le_add_right _ _
    · exact Nat.le_add_right _ _
    · exact Nat.le_refl _
    · exact Nat.le_add_right _ _
  exact I1.fpOk hle (I1.hok.fresh hle)
theorem pi_zip {X : Cx} (b : Bool) {elts : List Expr} {x1 : Nat} {tpos : Pos} {a c : Expr} {ta : TA} {p pos : Pos} (hg : Gl X "zip") (hm : X.mg "zip" = none) (ha : PA X [a, c] ta) (hs : starEach [a, c] X.env = [(false, eval a X.env), (false, eval c X.env)] := by rfl) (hs2 : starEach [c] X.env = [(false, eval c X.env)] := by rfl) :
    PI X (.Tuple elts x1 tpos) (.Call (.Name "zip" p) [a, c] [] pos) (iZip b X.K ta) := by
  intro pins s σ H R I h
  refine Call_ (ld_blt I hg hm boot_zip (PyProof.Rows.callWith_type1 (thn (ha pos pins s σ H _ I h) fun us s1 ⟨vs, H1, I1, r1, q1⟩ => ?_) (by rw [hs, hs2]) (by rw [hs2]; rfl)))
  obtain ⟨a, c, e, ⟨xs, hq1⟩, ⟨ys, hq2⟩, q⟩ := q1
  subst e
  cases r1 with
  | cons r rr =>
    cases rr with
    | cons r' rr =>
      cases rr
      cases r
      cases r'
      exact zip_started I1 hq1 hq2 q
/-- zip of two that are both lists or both tuples, as it comes -/
def iZipE (K : PySem.W.Frag) (ta : TA) : TI := fun σ H R => ta σ H fun vs H1 => ∃ (b : Bool) (a c : Addr), vs = [.ref a, .ref c] ∧ (∃ xs, SqB b K H1 a xs) ∧ (∃ ys, SqB b K H1 c ys) ∧ R (Itz b K a c) H1
theorem pi_zipE {X : Cx} {elts : List Expr} {x1 : Nat} {tpos : Pos} {a c : Expr} {ta : TA} {p pos : Pos} (hg : Gl X "zip") (hm : X.mg "zip" = none) (ha : PA X [a, c] ta) (hs : starEach [a, c] X.env = [(false, eval a X.env), (false, eval c X.env)] := by rfl) (hs2 : starEach [c] X.env = [(false, eval c X.env)] := by rfl) :
    PI X (.Tuple elts x1 tpos) (.Call (.Name "zip" p) [a, c] [] pos) (iZipE X.K ta) := by
  intro pins s σ H R I h
  refine Call_ (ld_blt I hg hm boot_zip (PyProof.Rows.callWith_type1 (thn (ha pos pins s σ H _ I h) fun us s1 ⟨vs, H1, I1, r1, q1⟩ => ?_) (by rw [hs, hs2]) (by rw [hs2]; rfl)))
  obtain ⟨b, a, c, e, ⟨xs, hq1⟩, ⟨ys, hq2⟩, q⟩ := q1
  subst e
  cases r1 with
  | cons r rr =>
    cases rr with
    | cons r' rr =>
      cases rr
      cases r
      cases r'
      exact zip_started I1 hq1 hq2 q
end L2

set_option Elab.async false
set_option linter.all false
set_option maxRecDepth 100000
set_option maxHeartbeats 4000000
namespace L2
open PySem PySem.Spec PyProof.Rows
theorem lk_list_keys : typeLookup (.type "list") "keys" = pure none := by rw [typeLookup_type, builtinLookup_eq_fast]; kernel_rfl
theorem lk_list_getattr : typeLookup (.type "list") "__getattr__" = pure none := by rw [typeLookup_type, builtinLookup_eq_fast]; kernel_rfl
theorem sub_attr : isSubtype (.type "AttributeError") (.type "AttributeError") = pure true := by rw [isSubtype_type]; kernel_rfl
section
variable {prog : Program} {w : World} {A : Around} {E : Value → Shared → Prop} {h : Heap} {g : Array GenState} {d : Drawn} {t : Nat} {os : OsState} {a : Addr} {o : Obj}
theorem raise_attr {α : Type} {Q : α → Shared → Prop} {u : Value} {x msg : Str} (hh : A.handled = none) (hm : msg.length ≤ sizeLine)
    (hE : ∀ h' e tk, (∀ b o, h.get? b = some o → h'.get? b = some o) → (∃ o, h'.get? e = some o ∧ o.cls = .type "AttributeError") → E (.ref e) ⟨h', g, d, tk, os⟩) :
    wpAny (model prog w) A (raiseAttrError u x msg : Sem α) Q E ⟨h, g, d, t, os⟩ := by
  unfold raiseAttrError
  refine wpAny_bind (wpAny_mkStr ?_ hm)
  simp only [newExc, newTuple]
  refine wpAny_bind (wpAny_bind (wpAny_newObj_type ?_ (by size_fits)))
  refine wpAny_bind (m := firstArgMember _ _) (wpAny_of_eq (a := Value.none) (by first | rfl | (simp only [firstArgMember]; rfl)) ?_)
  refine wpAny_newObj_type ?_ (by size_fits)
  refine wpAny_bind (wpAny_mkText ?_)
  dsimp only
  refine wpAny_bind ?_
  unfold noteAttr
  generalize hh1 : h.push { cls := .type "tuple", data := .seq #[.str msg t] } = h1
  have k1 : ∀ b o, h.get? b = some o → h1.get? b = some o := fun b o q => by rw [← hh1]; exact Heap.get?_push_of_some _ q
  have hg : (h1.push { cls := .type "AttributeError", data := .fields #[.ref h.objs.size, .none, .none, .none, .bool false, .none, unsetMember, unsetMember] }).get? h1.objs.size = some _ := Heap.get?_push_size _ rfl
  have k2 : ∀ b o, h.get? b = some o → (h1.push { cls := .type "AttributeError", data := .fields #[.ref h.objs.size, .none, .none, .none, .bool false, .none, unsetMember, unsetMember] }).get? b = some o := fun b o q => Heap.get?_push_of_some _ (k1 b o q)
  have nb : ∀ b o, h.get? b = some o → b ≠ h1.objs.size := fun b o q => Nat.ne_of_lt (Heap.lt_size (k1 b o q))
  show wpAny _ _ (lacksNameAndObj (.ref h1.objs.size) >>= _) _ _ ⟨h1.push { cls := .type "AttributeError", data := .fields #[.ref h.objs.size, .none, .none, .none, .bool false, .none, unsetMember, unsetMember] }, g, d, t + 1 + 1, os⟩
  generalize hh2 : h1.push { cls := .type "AttributeError", data := .fields #[.ref h.objs.size, .none, .none, .none, .bool false, .none, unsetMember, unsetMember] } = h2 at hg k2
  generalize h1.objs.size = e at hg nb
  clear hh2 k1 hh1
  have hT : (⟨h2, g, d, t + 1 + 1, os⟩ : Shared).TypeIs (.ref e) "AttributeError" := ⟨_, hg, rfl⟩
  refine wpAny_bind ?_
  unfold lacksNameAndObj
  refine wpAny_bind (wpAny_isInstance hT sub_attr ?_)
  simp only [Bool.not_true, Bool.false_eq_true, if_false]
  refine wpAny_bind (wpAny_load hg ?_)
  show wpAny _ _ (pure true) _ _ _
  refine wpAny_pure ?_
  simp only [if_true]
  refine wpAny_bind (wpAny_rule (wpAny_bind (wpAny_typeOf hT ?_)))
  show wpAny _ _ (layMembers e 6 #[_, u]) _ _ _
  unfold layMembers
  refine wpAny_bind (wpAny_load hg ?_)
  show wpAny _ _ (update e _) _ _ _
  refine wpAny_update hg ?_
  refine wpAny_raiseNew_none hh (hE _ _ _ (fun b o q => ?_) ⟨_, Heap.get?_update_self _ hg rfl, rfl⟩)
  exact (Heap.get?_update_other _ _ (nb b o q).symm).trans (k2 b o q)
theorem nokeys_entry {tk : Tok} {Q : PySem.Fin → Shared → Prop} {its : Array Value} {n : Nat} (hx : h.get? a = some { cls := .type "list", dict := none, data := .seq its n, slots := #[] }) (hh : A.handled = none)
    (hE : ∀ h' e tk, (∀ b o, h.get? b = some o → h'.get? b = some o) → (∃ o, h'.get? e = some o ∧ o.cls = .type "AttributeError") → E (.ref e) ⟨h', g, d, tk, os⟩) :
    wpAny (model prog w) A (Builtin.«object.__getattribute__» ⟨[.ref a, .str "keys" tk], []⟩) Q E ⟨h, g, d, t, os⟩ := by
  have hT : (⟨h, g, d, t, os⟩ : Shared).TypeIs (.ref a) "list" := ⟨_, hx, rfl⟩
  have f4 := lk_list_keys
  repeat (any_goals (first | assumption | wp_step))
  refine raise_attr hh (by decide +kernel) hE
theorem nokeys_by {tk : Tok} {Q : Value → Shared → Prop} {its : Array Value} {n : Nat} (hx : h.get? a = some { cls := .type "list", dict := none, data := .seq its n, slots := #[] }) (hh : A.handled = none)
    (hE : ∀ h' e tk, (∀ b o, h.get? b = some o → h'.get? b = some o) → (∃ o, h'.get? e = some o ∧ o.cls = .type "AttributeError") → E (.ref e) ⟨h', g, d, tk, os⟩) :
    wpAny (model prog w) A (getAttrBy (.ref a) (.str "keys" tk) false) Q E ⟨h, g, d, t, os⟩ := by
  have hT : (⟨h, g, d, t, os⟩ : Shared).TypeIs (.ref a) "list" := ⟨_, hx, rfl⟩
  have f2 := F.slot_list_getattribute.lookup
  have f3 := F.slot_list_getattribute.bind (.ref a)
  repeat (any_goals (first | assumption | wp_step))
  refine codeAny_call_builtin F.slot_list_getattribute.plain F.entry_list_ga (F.slot_list_getattribute.check _ _ _ _ _ _ _ _ (show (⟨h, g, d, t, os⟩ : Shared).TypeIs (.ref a) "list" from ⟨_, hx, rfl⟩) (F.args_list_getattribute_2 _ _) (nokeys_entry hx ?_ ?_))
  · exact hh
  · intro h' e tk k q
    obtain ⟨oe, he, hc⟩ := q
    have hT2 : (⟨h', g, d, tk, os⟩ : Shared).TypeIs (.ref e) "AttributeError" := ⟨_, he, hc⟩
    have f5 := sub_attr
    have f6 := lk_list_getattr
    show wpAny _ A (getattributeRaised (Value.ref a) _ (Value.type "list") (.ref e) none false false) _ _ _
    have done := hE h' e tk k ⟨oe, he, hc⟩
    unfold getattributeRaised
    repeat (any_goals (first | assumption | wp_step))
theorem nokeys {Q : Option Value → Shared → Prop} {its : Array Value} {n : Nat} (hx : h.get? a = some { cls := .type "list", dict := none, data := .seq its n, slots := #[] }) (hh : A.handled = none)
    (hq : ∀ h' tk, (∀ b o, h.get? b = some o → h'.get? b = some o) → Q none ⟨h', g, d, tk, os⟩) : wpAny (model prog w) A (getAttr? (.ref a) "keys") Q E ⟨h, g, d, t, os⟩ := by
  unfold getAttr? getAttrBy?
  refine wpAny_bind (wpAny_mkText (wpAny_bind (wpAny_attempt (nokeys_by hx hh fun h' e tk k q => ?_))))
  obtain ⟨oe, he, hc⟩ := q
  refine wpAny_bind (wpAny_isInstance (T := "AttributeError") (b := true) ⟨_, he, hc⟩ sub_attr ?_)
  exact wpAny_pure (hq h' tk k)
end
end L2

set_option Elab.async false
set_option linter.all false
set_option maxRecDepth 100000
set_option maxHeartbeats 4000000
namespace L2
open PySem PySem.Spec PyProof.Rows
theorem entry_dict_update_loop : entryFor table "dict.update.loop" = some Builtin.«dict.update.loop» := entryFor_of_fast (by kernel_rfl)
theorem plain_dict_update_loop : plainId "dict.update.loop" = true := by decide +kernel
theorem stored_len {K : Type} [DecidableEq K] (kvs : List (K × Value)) (k : K) (v : Value) : (stored kvs k v).length ≤ kvs.length + 1 := by
  unfold stored
  split
  · rw [List.length_map]; omega
  · rw [List.length_append]; exact Nat.le_refl _
section
variable {prog : Program} {w : World} {A : Around} {E : Value → Shared → Prop} {K : Type} [DecidableEq K] {knd : KeyKind prog w K} {R : Result → Shared → Prop}
theorem dict_loop {d it l : Addr} {its : Array Value} {more : List (K × Value)} (hh : A.handled = none) (hlen : more.length = its.size) (hsz : its.size ≤ 1000) (hdl : l ≠ d) (hdi : it ≠ d) (hil : l ≠ it) :
    ∀ (k i : Nat) (tk0 : Tok) (s : Shared) (kvs : List (K × Value)), its.size - i = k → i ≤ its.size → kvs.length ≤ i → s.heap.IsListIter it l i → s.heap.IsList l its → s.heap.DictOf knd d kvs →
      (∀ (j : Nat) (q : K × Value), more[j]? = some q → ∃ t kv, its[j]? = some (.ref t) ∧ s.heap.IsTuple t #[kv, q.2] ∧ knd.is q.1 kv = true) →
      (∀ h' tk, h'.DictOf knd d (merged kvs (more.drop i)) → (∀ b o, b ≠ d → b ≠ it → s.heap.get? b = some o → h'.get? b = some o) → R (.ok (.ret .none)) { s with heap := h', toks := tk }) →
      codeAny (model prog w) A (.builtin "dict.update.loop" ⟨[.ref d, .ref it, .int i tk0, .none], []⟩) R s := by
  intro k
  induction k with
  | zero =>
    intro i tk0 s kvs hk hi hkl hit hl hd hp hR
    have e : i = its.size := by omega
    subst e
    refine codeAny_builtin entry_dict_update_loop ?_
    rw [Around.under_plainId plain_dict_update_loop _]
    show wpAny _ A.in1 (pyNext (.ref it) >>= _) _ _ s
    refine wpAny_bind (wpAny_pyNext_list_end hh hit hl (by simp) fun h' eb => ?_)
    show wpAny _ A.in1 (Builtin.Dict.addKeywords d [] >>= _) _ _ _
    refine wpAny_bind (wpAny_pure (wpAny_pure ?_))
    refine hR h' s.toks ?_ fun b o _ hb q => eb b o hb q
    rw [List.drop_eq_nil_of_le (by omega)]
    exact hd.extBut eb hdi.symm
  | succ k ih =>
    intro i tk0 s kvs hk hi hkl hit hl hd hp hR
    have hlt : i < its.size := by omega
    have hlm : i < more.length := by omega
    obtain ⟨t, kv, hu, ht, hkey⟩ := hp i more[i] (by simp [hlm])
    refine codeAny_builtin entry_dict_update_loop ?_
    rw [Around.under_plainId plain_dict_update_loop _]
    show wpAny _ A.in1 (pyNext (.ref it) >>= _) _ _ s
    refine wpAny_bind (wpAny_pyNext_list_item hit hl hu fun h1 hit1 sb1 => ?_)
    have nti : t ≠ it := fun z => by
      subst z
      obtain ⟨o, e1, c1, _⟩ := ht
      obtain ⟨o', e2, c2, _⟩ := hit
      rw [e1] at e2; cases e2; rw [c1] at c2; exact absurd c2 (by decide)
    have ntd : t ≠ d := fun z => by
      subst z
      obtain ⟨o, e1, c1, _⟩ := ht
      obtain ⟨o', _, _, e2, c2, _⟩ := hd
      rw [e1] at e2; cases e2; rw [c2.1] at c1; exact absurd c1 (by decide)
    have ht1 : h1.IsTuple t #[kv, more[i].2] := ht.extBut sb1.extBut nti
    have hd1 : h1.DictOf knd d kvs := hd.extBut sb1.extBut hdi.symm
    show wpAny _ A.in1 (holding [.ref t] _ >>= _) _ _ _
    refine wpAny_bind (wpAny_holding ?_)
    refine wpAny_bind (m := (Builtin.Dict.pairItems (.ref t)).tryCatch _) ?_
    refine wpAny_tryCatch ?_
    unfold Builtin.Dict.pairItems
    refine wpAny_bind (wpAny_typeOf ht1.typeIs ?_)
    obtain ⟨ot, e1, c1, n1, d1⟩ := id ht1
    rw [if_pos (by decide)]
    refine wpAny_bind (wpAny_seqItems e1 d1 ?_)
    refine wpAny_pure ?_
    show wpAny _ A.in1 (holding [kv, more[i].2] (dictSet d kv more[i].2)) _ _ _
    refine wpAny_holding (wpAny_dictSet_pairs hkey hd1 (fun h2 hd2 sb2 => ?_) (by have := (by decide : 1000 ≤ sizeLine); omega))
    replace sb2 : Heap.SameBut d h1 h2 := sb2
    have kk : ∀ b o, b ≠ d → b ≠ it → s.heap.get? b = some o → h2.get? b = some o := fun b o b1 b2 q => sb2.extBut b o b1 (sb1.extBut b o b2 q)
    refine wpAny_pure ⟨plainId_quiet plain_dict_update_loop _, ?_⟩
    have hik : ((i : Int) + 1) = ((i + 1 : Nat) : Int) := by omega
    show codeAny _ _ (.builtin "dict.update.loop" ⟨[.ref d, .ref it, rawInt ((i : Int) + 1), .none], []⟩) _ _
    rw [hik]
    refine ih (i + 1) 0 _ (stored kvs more[i].1 more[i].2) (by omega) (by omega) ?_ (hit1.extBut sb2.extBut hdi) ((hl.extBut sb1.extBut hil).extBut sb2.extBut hdl) hd2 ?_ ?_
    · have := stored_len kvs more[i].1 more[i].2
      omega
    · intro j q hq
      obtain ⟨t', kv', a1, a2, a3⟩ := hp j q hq
      have n1 : t' ≠ it := fun z => by
        subst z
        obtain ⟨o, e1, c1, _⟩ := a2
        obtain ⟨o', e2, c2, _⟩ := hit
        rw [e1] at e2; cases e2; rw [c1] at c2; exact absurd c2 (by decide)
      have n2 : t' ≠ d := fun z => by
        subst z
        obtain ⟨o, e1, c1, _⟩ := a2
        obtain ⟨o', _, _, e2, c2, _⟩ := hd
        rw [e1] at e2; cases e2; rw [c2.1] at c1; exact absurd c1 (by decide)
      exact ⟨t', kv', a1, (a2.extBut sb1.extBut n1).extBut sb2.extBut n2, a3⟩
    · intro h' tk hd' k'
      refine hR h' tk ?_ fun b o b1 b2 q => k' b o b1 b2 (kk b o b1 b2 q)
      rw [List.drop_eq_getElem_cons hlm]
      exact hd'
theorem call_dict_list {l : Addr} {its : Array Value} {c : Nat} {more : List (K × Value)} {s : Shared} {Q : Value → Shared → Prop} (hh : A.handled = none) (hl : s.heap.get? l = some { cls := .type "list", dict := none, data := .seq its c, slots := #[] }) (hlen : more.length = its.size) (hsz : its.size ≤ 1000)
    (hp : ∀ (j : Nat) (q : K × Value), more[j]? = some q → ∃ t kv, its[j]? = some (.ref t) ∧ s.heap.IsTuple t #[kv, q.2] ∧ knd.is q.1 kv = true)
    (h : ∀ h' tk, h'.DictOf knd s.heap.objs.size (merged [] more) → (∀ b o, s.heap.get? b = some o → h'.get? b = some o) → Q (.ref s.heap.objs.size) { s with heap := h', toks := tk }) :
    wpAny (model prog w) A (call (.type "dict") [.ref l]) Q E s := by
  refine callType_codes (Q₁ := fun obj s₁ => obj = .ref s.heap.objs.size ∧ s₁ = { s with heap := s.heap.push { cls := .type "dict", data := .dict #[] } }) F.kt_called_dict (F.kt_typeCall_dict_1 _) F.entry_dict_init (kt_code_dict_new _ ⟨rfl, rfl⟩) ?_
  rintro obj s₁ ⟨rfl, rfl⟩
  have hnew : (s.heap.push { cls := .type "dict", data := .dict #[] }).DictOf knd s.heap.objs.size [] := Heap.DictOf.new s.heap
  have hl1 : (s.heap.push { cls := .type "dict", data := .dict #[] }).get? l = some { cls := .type "list", dict := none, data := .seq its c, slots := #[] } := Heap.get?_push_of_some _ hl
  have k1 : ∀ b o, s.heap.get? b = some o → (s.heap.push { cls := .type "dict", data := .dict #[] }).get? b = some o := fun b o q => Heap.get?_push_of_some _ q
  have llt : l < s.heap.objs.size := Heap.lt_size hl
  generalize s.heap.push { cls := .type "dict", data := .dict #[] } = h1 at hnew hl1 k1
  refine ⟨hnew.typeIs, F.args_dict_init_2 _ _, ?_⟩
  unfold Builtin.«dict.__init__»
  refine wpAny_bind ?_
  unfold Builtin.Dict.selfAndRest
  refine wpAny_bind (wpAny_notOrdered_dict hnew.typeIs ?_)
  show wpAny _ _ (pure (s.heap.objs.size, [Value.ref l])) _ _ _
  refine wpAny_pure ?_
  show wpAny _ _ (Builtin.Dict.updateFrom "dict.__init__" s.heap.objs.size (.ref l) [] .none) _ _ _
  unfold Builtin.Dict.updateFrom
  refine wpAny_bind (wpAny_typeOf (T := "list") ⟨_, hl1, rfl⟩ ?_)
  rw [if_pos (by decide)]
  refine wpAny_bind (nokeys hl1 hh fun h2 tk2 k2 => ?_)
  have hl2 := k2 _ _ hl1
  have hd2 : h2.DictOf knd s.heap.objs.size [] := let ⟨o, es, ep, ho, r⟩ := hnew; ⟨o, es, ep, k2 _ _ ho, r⟩
  have dlt : s.heap.objs.size < h2.objs.size := by obtain ⟨_, _, _, ho, _⟩ := hd2; exact Heap.lt_size ho
  simp only [Option.isNone_none, if_true]
  refine wpAny_bind (wpAny_rule ?_)
  have hL : Heap.IsList h2 l its := ⟨_, hl2, rfl, _, rfl⟩
  refine wpAny_bind (wpAny_pyIter_list (s := { s with heap := h2, toks := tk2 }) hL ?_)
  refine wpAny_pure ⟨plainId_quiet plain_dict_update_loop _, ?_⟩
  have hit : (h2.push { cls := .type "list_iterator", data := .fields #[.ref l, .int 0 0] }).IsListIter h2.objs.size l 0 := ⟨_, Heap.get?_push_size _ rfl, rfl, rfl⟩
  refine dict_loop (A := A.in1) (knd := knd) (more := more) hh hlen hsz (Nat.ne_of_lt llt) (Nat.ne_of_gt dlt) (Nat.ne_of_lt (Nat.lt_trans llt dlt)) its.size 0 0 { s with heap := h2.push { cls := .type "list_iterator", data := .fields #[.ref l, .int 0 0] }, toks := tk2 } [] rfl (Nat.zero_le _) (Nat.le_refl _) hit (hL.push _) (hd2.push _) ?_ ?_
  · intro j q hq
    obtain ⟨t, kv, a1, a2, a3⟩ := hp j q hq
    obtain ⟨o, e, r⟩ := a2
    exact ⟨t, kv, a1, ⟨o, Heap.get?_push_of_some _ (k2 _ _ (k1 _ _ e)), r⟩, a3⟩
  · intro h' tk hd' k'
    rw [List.drop_zero] at hd'
    refine ⟨rfl, h h' tk hd' fun b o q => k' b o (Nat.ne_of_lt (Heap.lt_size q)) (Nat.ne_of_lt (Heap.lt_size (k2 _ _ (k1 _ _ q)))) (Heap.get?_push_of_some _ (k2 _ _ (k1 _ _ q)))⟩
end

/-! ### dict(list of pairs) -/
/-- v is a pair of a key and a value -/
def PairAt (H : Hp) (v : V) (p : Key × V) : Prop := ∃ t, v = .ref t ∧ H t = some (.tup [kV p.1, p.2])
def rDictL (K : PySem.W.Frag) : List V → Hp → VK → Prop := fun vs H Q => ∃ l xs kvs, vs = [.ref l] ∧ H l = some (.lst xs) ∧ Paired (PairAt H) xs kvs ∧ xs.length ≤ 1000 ∧ (kvs.map (·.1)).Nodup ∧ ∀ d, H d = none → Q (.ref d) (upd H d (.dK kvs))
theorem pairs_vals {X : Cx} {pins : List (Addr × Obj)} {σ : St} {H : Hp} {s : Shared} (I : Inv X pins σ H s) : ∀ {xs : List V} {kvs : List (Key × V)} {its : List Value}, Paired (PairAt H) xs kvs → Vals xs its →
    ∃ more : List (Key × Value), KV kvs more ∧ ∀ (j : Nat) (q : Key × Value), more[j]? = some q → ∃ t kv, its[j]? = some (.ref t) ∧ s.heap.IsTuple t #[kv, q.2] ∧ (mixKind X.prog X.w).is q.1 kv = true
  | _, _, _, .nil, .nil => ⟨[], .nil, fun j q h => by simp at h⟩
  | _, _, _, .cons hp tp, .cons rv tr => by
    obtain ⟨more, hk, hm⟩ := pairs_vals I tp tr
    obtain ⟨t, rfl, ht⟩ := hp
    cases rv
    obtain ⟨_, its', rt, hi⟩ := I.hok t _ ht
    obtain ⟨u1, u2, rfl, r1, r2⟩ := rt.two
    refine ⟨(_, u2) :: more, .cons ⟨rfl, r2⟩ hk, fun j q h => ?_⟩
    cases j with
    | zero =>
      simp at h
      subst h
      exact ⟨t, u1, rfl, hi, kV_is r1⟩
    | succ j =>
      obtain ⟨t', kv, a1, a2, a3⟩ := hm j q (by simpa using h)
      exact ⟨t', kv, by simpa using a1, a2, a3⟩
theorem call_dictL {X : Cx} (hc : X.calm = true) : CallR X (.type "dict") (rDictL X.K) := by
  intro pins s σ H vs us Q I rv h
  obtain ⟨l, xs, kvs, rfl, hl, hp, hz, hn, q⟩ := h
  obtain ⟨u, rfl, ru⟩ := rv.one
  cases ru
  obtain ⟨z, its, n, r, hlen, e⟩ := I.lstM hl
  obtain ⟨more, hkv, hm⟩ := pairs_vals I hp r
  have hlm : kvs.length = more.length := Paired.length hkv
  have hlx : xs.length = kvs.length := Paired.length hp
  refine call_dict_list (knd := mixKind X.prog X.w) (more := more) (I.ok.hd hc) e (by rw [List.size_toArray]; omega) (by rw [List.size_toArray]; omega) (fun j q hj => ?_) fun h' tk dd k => ?_
  · obtain ⟨t, kv, a1, a2, a3⟩ := hm j q hj
    exact ⟨t, kv, by simpa using a1, a2, a3⟩
  · refine ⟨.ref s.heap.objs.size, upd H s.heap.objs.size (.dK kvs), I.laid k (Nat.le_refl _) ?_, rfl, q _ I.fresh⟩
    rw [merged_nil_of_nodup more (by rw [← hkv.keys]; exact hn)] at dd
    exact dk_new (by have := (by decide : 1000 ≤ sizeLine); omega) (by have := I.big; exact beq_false_of_ne (Nat.ne_of_gt this)) hkv dd
/-- keys that may stand twice: the last one's value stays -/
def rDictM : List V → Hp → VK → Prop := fun vs H Q => ∃ l xs kvs, vs = [.ref l] ∧ H l = some (.lst xs) ∧ Paired (PairAt H) xs kvs ∧ xs.length ≤ 1000 ∧ ∀ d, H d = none → Q (.ref d) (upd H d (.dK (mergeK [] kvs)))
theorem call_dictM {X : Cx} (hc : X.calm = true) : CallR X (.type "dict") rDictM := by
  intro pins s σ H vs us Q I rv h
  obtain ⟨l, xs, kvs, rfl, hl, hp, hz, q⟩ := h
  obtain ⟨u, rfl, ru⟩ := rv.one
  cases ru
  obtain ⟨z, its, n, r, hlen, e⟩ := I.lstM hl
  obtain ⟨more, hkv, hm⟩ := pairs_vals I hp r
  have hlm : kvs.length = more.length := Paired.length hkv
  have hlx : xs.length = kvs.length := Paired.length hp
  refine call_dict_list (knd := mixKind X.prog X.w) (more := more) (I.ok.hd hc) e (by rw [List.size_toArray]; omega) (by rw [List.size_toArray]; omega) (fun j q hj => ?_) fun h' tk dd k => ?_
  · obtain ⟨t, kv, a1, a2, a3⟩ := hm j q hj
    exact ⟨t, kv, by simpa using a1, a2, a3⟩
  · refine ⟨.ref s.heap.objs.size, upd H s.heap.objs.size (.dK (mergeK [] kvs)), I.laid k (Nat.le_refl _) ?_, rfl, q _ I.fresh⟩
    have hml := length_mergeK kvs []
    exact dk_new (by have := (by decide : 1000 ≤ sizeLine); rw [List.length_nil] at hml; omega) (by have := I.big; exact beq_false_of_ne (Nat.ne_of_gt this)) (hkv.merge .nil) dd
end L2

set_option Elab.async false
set_option linter.all false
set_option maxRecDepth 100000
set_option maxHeartbeats 1000000
namespace L2
open PySem PySem.Spec PyProof.Rows

/-! ### all, any of a list of truths -/
def rBools (f : List Bool → Bool) : List V → Hp → VK → Prop := fun vs H Q => ∃ l bs, vs = [.ref l] ∧ H l = some (.lst (bs.map V.bl)) ∧ Q (.bl (f bs)) H
theorem all_range {bs : List Bool} {tr : Nat → Bool} (h : ∀ i b, bs[i]? = some b → tr i = b) : (List.range bs.length).all tr = bs.all id := by
  rw [Bool.eq_iff_iff, List.all_eq_true, List.all_eq_true]
  constructor
  · intro q b hb
    obtain ⟨i, hi, e⟩ := List.mem_iff_getElem.mp hb
    have := q i (List.mem_range.mpr hi)
    rw [h i b (by rw [List.getElem?_eq_getElem hi, e])] at this
    exact this
  · intro q i hi
    have hi' := List.mem_range.mp hi
    rw [h i bs[i] (List.getElem?_eq_getElem hi')]
    exact q _ (List.getElem_mem hi')
theorem any_range {bs : List Bool} {tr : Nat → Bool} (h : ∀ i b, bs[i]? = some b → tr i = b) : (List.range bs.length).any tr = bs.any id := by
  rw [Bool.eq_iff_iff, List.any_eq_true, List.any_eq_true]
  constructor
  · rintro ⟨i, hi, q⟩
    have hi' := List.mem_range.mp hi
    rw [h i bs[i] (List.getElem?_eq_getElem hi')] at q
    exact ⟨_, List.getElem_mem hi', q⟩
  · rintro ⟨b, hb, q⟩
    obtain ⟨i, hi, e⟩ := List.mem_iff_getElem.mp hb
    exact ⟨i, List.mem_range.mpr hi, by rw [h i b (by rw [List.getElem?_eq_getElem hi, e])]; exact q⟩
theorem vals_bl : ∀ {bs : List Bool} {us : List Value}, Vals (bs.map V.bl) us → us = bs.map Value.bool
  | [], _, .nil => rfl
  | b :: r, _, .cons q t => by
    cases (show _ = Value.bool b from q)
    rw [vals_bl t]
    rfl
theorem call_all {X : Cx} (hc : X.calm = true) : CallR X (.builtin "all") (rBools fun bs => bs.all id) := by
  intro pins s σ H vs us Q I rv h
  obtain ⟨l, bs, rfl, hl, q⟩ := h
  obtain ⟨u, rfl, ru⟩ := rv.one
  cases ru
  obtain ⟨z, its, n, r, hlen, e⟩ := I.lstM hl
  have e2 := vals_bl r
  subst e2
  have llt : l < s.heap.objs.size := Heap.lt_size e
  have hL : s.heap.IsList l (bs.map Value.bool).toArray := ⟨_, e, rfl, _, rfl⟩
  refine call_all_walk (wpAny_pyIter_list hL ⟨s.heap.objs.size, [s.heap.objs.size, l], [s.heap.objs.size], _, _, _, fun i => bs[i]?.getD true, rfl, Walks.list (A := X.A.in1) (show X.A.in1.handled = none from I.ok.hd hc) s.heap.objs.size l (Nat.ne_of_lt llt) (bs.map Value.bool).toArray,
    (show Heap.IsListIter _ _ _ _ ∧ Heap.IsList _ _ _ from ⟨⟨_, Heap.get?_push_size _ rfl, rfl, rfl⟩, hL.push _⟩), fun i v s' Q' E' hv hq => ?_, fun h' tk k => ?_⟩)
  · have hv' : (bs.map Value.bool)[i]? = some v := by simpa using hv
    rw [List.getElem?_map] at hv'
    cases eb : bs[i]? with
    | none => rw [eb] at hv'; cases hv'
    | some b =>
      rw [eb] at hv'
      cases hv'
      have hq' : Q' b s' := by dsimp only at hq; rw [eb] at hq; exact hq
      exact wpAny_pure hq'
  · have ez : ((bs.map Value.bool).toArray).size = bs.length := by simp
    rw [ez, all_range (bs := bs) (tr := fun i => bs[i]?.getD true) (fun i b hb => by rw [hb]; rfl)]
    refine ⟨.bl _, H, I.kept fun b o qq => k b o ?_ (Heap.get?_push_of_some _ qq), rfl, q⟩
    intro hb
    have : b = s.heap.objs.size := by simpa using hb
    subst this
    exact absurd (Heap.lt_size qq) (Nat.lt_irrefl _)
theorem call_any {X : Cx} (hc : X.calm = true) : CallR X (.builtin "any") (rBools fun bs => bs.any id) := by
  intro pins s σ H vs us Q I rv h
  obtain ⟨l, bs, rfl, hl, q⟩ := h
  obtain ⟨u, rfl, ru⟩ := rv.one
  cases ru
  obtain ⟨z, its, n, r, hlen, e⟩ := I.lstM hl
  have e2 := vals_bl r
  subst e2
  have llt : l < s.heap.objs.size := Heap.lt_size e
  have hL : s.heap.IsList l (bs.map Value.bool).toArray := ⟨_, e, rfl, _, rfl⟩
  refine call_any_walk (wpAny_pyIter_list hL ⟨s.heap.objs.size, [s.heap.objs.size, l], [s.heap.objs.size], _, _, _, fun i => bs[i]?.getD true, rfl, Walks.list (A := X.A.in1) (show X.A.in1.handled = none from I.ok.hd hc) s.heap.objs.size l (Nat.ne_of_lt llt) (bs.map Value.bool).toArray,
    (show Heap.IsListIter _ _ _ _ ∧ Heap.IsList _ _ _ from ⟨⟨_, Heap.get?_push_size _ rfl, rfl, rfl⟩, hL.push _⟩), fun i v s' Q' E' hv hq => ?_, fun h' tk k => ?_⟩)
  · have hv' : (bs.map Value.bool)[i]? = some v := by simpa using hv
    rw [List.getElem?_map] at hv'
    cases eb : bs[i]? with
    | none => rw [eb] at hv'; cases hv'
    | some b =>
      rw [eb] at hv'
      cases hv'
      have hq' : Q' b s' := by dsimp only at hq; rw [eb] at hq; exact hq
      exact wpAny_pure hq'
  · have ez : ((bs.map Value.bool).toArray).size = bs.length := by simp
    rw [ez, any_range (bs := bs) (tr := fun i => bs[i]?.getD true) (fun i b hb => by rw [hb]; rfl)]
    refine ⟨.bl _, H, I.kept fun b o qq => k b o ?_ (Heap.get?_push_of_some _ qq), rfl, q⟩
    intro hb
    have : b = s.heap.objs.size := by simpa using hb
    subst this
    exact absurd (Heap.lt_size qq) (Nat.lt_irrefl _)

/-! ### isinstance with a built-in class -/
/-- the kind of a value by its name -/
inductive Knd (H : Hp) : V → String → Prop where
  | non : Knd H .non "NoneType"
  | bl {x : Bool} : Knd H (.bl x) "bool"
  | int {i : Int} : Knd H (.int i) "int"
  | str {x : Str} : Knd H (.str x) "str"
  | lst {a : Addr} {xs : List V} (e : H a = some (.lst xs)) : Knd H (.ref a) "list"
  | tup {a : Addr} {xs : List V} (e : H a = some (.tup xs)) : Knd H (.ref a) "tuple"
  | dK {a : Addr} {kvs : List (Key × V)} (e : H a = some (.dK kvs)) : Knd H (.ref a) "dict"
theorem Knd.ty {K : PySem.W.Frag} {H : Hp} {v : V} {n : String} (h : Knd H v n) : TyOf K H v (.type n) := by
  cases h with
  | non => exact .non
  | bl => exact .bl _
  | int => exact .int _
  | str => exact .str _
  | lst e => exact .lst e
  | tup e => exact .tup e
  | dK e => exact .dK e
/-- isinstance of kinds -/
def isiK (a b : String) : Bool := a == b || (a == "bool" && b == "int")
def kinds : List String := ["NoneType", "bool", "int", "str", "list", "tuple", "dict"]
theorem kit_all {K : PySem.W.Frag} : ∀ a ∈ kinds, ∀ b ∈ kinds, PySem.W.kitOne K (.type a) (.type b) = some (isiK a b) := by
  intro a ha b hb
  have ha' : a = "NoneType" ∨ a = "bool" ∨ a = "int" ∨ a = "str" ∨ a = "list" ∨ a = "tuple" ∨ a = "dict" := by simpa [kinds] using ha
  have hb' : b = "NoneType" ∨ b = "bool" ∨ b = "int" ∨ b = "str" ∨ b = "list" ∨ b = "tuple" ∨ b = "dict" := by simpa [kinds] using hb
  rcases ha' with rfl | rfl | rfl | rfl | rfl | rfl | rfl <;> rcases hb' with rfl | rfl | rfl | rfl | rfl | rfl | rfl <;> rfl
def rIsi : List V → Hp → VK → Prop := fun vs H Q => ∃ x n T, vs = [x, .ty T] ∧ Knd H x n ∧ T ∈ kinds ∧ Q (.bl (isiK n T)) H
theorem Knd.mem {H : Hp} {v : V} {n : String} (h : Knd H v n) : n ∈ kinds := by cases h <;> simp [kinds]
theorem call_isi {X : Cx} : CallR X (.builtin "isinstance") rIsi := by
  intro pins s σ H vs us Q I rv h
  obtain ⟨x, n, T, rfl, hk, hT, q⟩ := h
  obtain ⟨u1, u2, rfl, r1, r2⟩ := rv.two
  cases (show u2 = Value.type T from r2)
  exact isinst_ok I r1 hk.ty (kit_all n hk.mem T hT) fun tk => ⟨.bl _, H, I.tok tk, rfl, q⟩
end L2

set_option Elab.async false
set_option linter.all false
set_option maxRecDepth 100000
set_option maxHeartbeats 1000000
namespace L2
open PySem PySem.Spec PyProof.Rows

/-! ### readings that compute -/
section
variable {X : Cx} {e a b c o i : Expr} {es : List Expr} {t t' ta tb tc td te : TE} {pos p p2 : Pos}
theorem PE.imp (h : PE X e t) (hi : ∀ σ H Q, t' σ H Q → t σ H Q) : PE X e t' := fun pins s σ H Q I q => h pins s σ H Q I (hi σ H Q q)
theorem PT.imp {t t' : TT} (h : PT X e t) (hi : ∀ σ H Q, t' σ H Q → t σ H Q) : PT X e t' := fun pins s σ H Q I q => h pins s σ H Q I (hi σ H Q q)
theorem PG.imp {t t' : TG} (h : PG X e t) (hi : ∀ v σ H Q, t' v σ H Q → t v σ H Q) : PG X e t' := fun pins s σ H v u Q I r q => h pins s σ H v u Q I r (hi v σ H Q q)
theorem PGs.imp {t t' : TGs} (h : PGs X es t) (hi : ∀ v σ H Q, t' v σ H Q → t v σ H Q) : PGs X es t' := fun pins s σ H v u Q I r q => h pins s σ H v u Q I r (hi v σ H Q q)
theorem OpR.imp {f : Value → Value → Sem Value} {r r' : R2} (h : OpR X f r) (hi : ∀ x y H Q, r' x y H Q → r x y H Q) : OpR X f r' := fun pins s σ H x y v u Q I rx ry q => h pins s σ H x y v u Q I rx ry (hi x y H Q q)
theorem CallR.imp {f : Value} {r r' : List V → Hp → VK → Prop} (h : CallR X f r) (hi : ∀ vs H Q, r' vs H Q → r vs H Q) : CallR X f r' := fun pins s σ H xs us Q I rv q => h pins s σ H xs us Q I rv (hi xs H Q q)
theorem IxR.imp {r r' : R2} (h : IxR X r) (hi : ∀ x y H Q, r' x y H Q → r x y H Q) : IxR X r' := fun value slice pins s σ H x y v u Q I rx ry q hs => h value slice pins s σ H x y v u Q I rx ry (hi x y H Q q) hs
theorem MtR.imp {id : String} {r r' : V → List V → Hp → VK → Prop} (h : MtR X id r) (hi : ∀ x vs H Q, r' x vs H Q → r x vs H Q) : MtR X id r' := fun pins s σ H x xs v us Q I rx rv q => h pins s σ H x xs v us Q I rx rv (hi x xs H Q q)
theorem PSet.imp {t t' : TSet} (h : PSet X t) (hi : ∀ o i v H Q, t' o i v H Q → t o i v H Q) : PSet X t' := fun pins s σ H o i v ov iv u Q I r1 r2 r3 q => h pins s σ H o i v ov iv u Q I r1 r2 r3 (hi o i v H Q q)
theorem SlR.imp {r r' : V → Option Int → Option Int → Hp → VK → Prop} (h : SlR X r) (hi : ∀ x l u H Q, r' x l u H Q → r x l u H Q) : SlR X r' := fun pins s σ H x v vl vu lo hi' sl Q I rx hs pl pu q => h pins s σ H x v vl vu lo hi' sl Q I rx hs pl pu (hi x lo hi' H Q q)

/-! names -/
def fVar (i : Nat) : TE := fun σ H Q => match σ[i]? with
  | some (some v) => Q v H
  | _ => False
theorem qv (i : Nat) {x : Str} {pos : Pos} (hN : X.N[i]? = some x := by rfl) (hv : Vis X.env.scope x := by first | exact Or.inl rfl | exact Or.inr (Or.inl rfl) | exact Or.inr (Or.inr rfl)) (hd : (x == ("__debug__" : Str)) = false := by decide)
    (hcd : (x == ("__classdict__" : Str)) = false := by decide) : PE X (.Name x pos) (fVar i) := (pe_var hN hv hd hcd).imp fun σ H Q q => by
  unfold fVar at q
  split at q
  · rename_i v e; exact ⟨v, e, q⟩
  · exact q.elim
/-! ints -/
def fI (g : Int → Int → V) : R2 := fun x y H Q => match x, y with
  | .int i, .int j => Q (g i j) H
  | _, _ => False
def fIC (C : Int → Int → Prop) (g : Int → Int → V) : R2 := fun x y H Q => match x, y with
  | .int i, .int j => C i j ∧ Q (g i j) H
  | _, _ => False
theorem fI.r {g : Int → Int → V} {x y : V} {H : Hp} {Q : VK} (h : fI g x y H Q) : rI0 g x y H Q := by
  unfold fI at h
  split at h
  · exact ⟨_, _, rfl, rfl, h⟩
  · exact h.elim
theorem fIC.r {C : Int → Int → Prop} {g : Int → Int → V} {x y : V} {H : Hp} {Q : VK} (h : fIC C g x y H Q) : rI C g x y H Q := by
  unfold fIC at h
  split at h
  · exact ⟨_, _, rfl, rfl, h.1, h.2⟩
  · exact h.elim
theorem q_add : OpR X (binaryOp .Add) (fI fun i j => .int (i + j)) := op_add.imp fun _ _ _ _ => fI.r
theorem q_sub : OpR X (binaryOp .Sub) (fI fun i j => .int (i - j)) := op_sub.imp fun _ _ _ _ => fI.r
theorem q_mul : OpR X (binaryOp .Mult) (fIC CMul fun i j => .int (i * j)) := op_mul.imp fun _ _ _ _ => fIC.r
theorem q_mod : OpR X (binaryOp .Mod) (fIC (fun _ j => 0 < j) fun i j => .int (i % j)) := op_mod.imp fun _ _ _ _ => fIC.r
theorem q_fdiv : OpR X (binaryOp .FloorDiv) (fIC CDiv fun i j => .int (i / j)) := op_fdiv.imp fun _ _ _ _ => fIC.r
theorem q_pow : OpR X (binaryOp .Pow) (fIC CPow fun i j => .int (i ^ j.toNat)) := op_pow.imp fun _ _ _ _ => fIC.r
theorem q_lt : OpR X (compareOp .Lt) (fI fun i j => .bl (decide (i < j))) := op_lt.imp fun _ _ _ _ => fI.r
theorem q_le : OpR X (compareOp .LtE) (fI fun i j => .bl (decide (i ≤ j))) := op_le.imp fun _ _ _ _ => fI.r
theorem q_gt : OpR X (compareOp .Gt) (fI fun i j => .bl (decide (i > j))) := op_gt.imp fun _ _ _ _ => fI.r
theorem q_ge : OpR X (compareOp .GtE) (fI fun i j => .bl (decide (i ≥ j))) := op_ge.imp fun _ _ _ _ => fI.r
theorem q_iadd : PIp X .Add (fI fun i j => .int (i + j)) := fun pins s σ H x y v u Q I rx ry q => iop_add pins s σ H x y v u Q I rx ry q.r
def fNeg : V → Hp → VK → Prop := fun x H Q => match x with
  | .int i => Q (.int (-i)) H
  | _ => False
theorem q_neg : UnR X (unaryOp .USub) fNeg := fun pins s σ H x v Q I rx q => by
  cases x <;> first
    | exact False.elim q
    | exact un_neg pins s σ H _ v Q I rx ⟨_, rfl, q⟩
def fEq : R2 := fun x y H Q => match x, y with
  | .int i, .int j => Q (.bl (decide (i = j))) H
  | .bl i, .bl j => Q (.bl (decide (i = j))) H
  | .str i, .str j => Q (.bl (decide (i = j))) H
  | _, _ => False
def fNe : R2 := fun x y H Q => match x, y with
  | .int i, .int j => Q (.bl (!decide (i = j))) H
  | .bl i, .bl j => Q (.bl (!decide (i = j))) H
  | .str i, .str j => Q (.bl (!decide (i = j))) H
  | _, _ => False
theorem dI (i j : Int) : decide (V.int i = V.int j) = decide (i = j) := by simp
theorem dB (i j : Bool) : decide (V.bl i = V.bl j) = decide (i = j) := by simp
theorem dS (i j : Str) : decide (V.str i = V.str j) = decide (i = j) := by simp
theorem q_eq : OpR X (compareOp .Eq) fEq := op_eq.imp fun x y H Q h => by
  unfold fEq at h
  split at h
  · exact ⟨rfl, by rw [dI]; exact h⟩
  · exact ⟨rfl, by rw [dB]; exact h⟩
  · exact ⟨rfl, by rw [dS]; exact h⟩
  · exact h.elim
theorem q_ne : OpR X (compareOp .NotEq) fNe := op_ne.imp fun x y H Q h => by
  unfold fNe at h
  split at h
  · exact ⟨rfl, by rw [dI]; exact h⟩
  · exact ⟨rfl, by rw [dB]; exact h⟩
  · exact ⟨rfl, by rw [dS]; exact h⟩
  · exact h.elim
/-- x is None -/
def isNon : V → Bool
  | .non => true
  | _ => false
def fIsN (f : Bool → Bool) : R2 := fun x y H Q => match y with
  | .non => Q (.bl (f (isNon x))) H
  | _ => False
theorem dN (x : V) : decide (x = V.non) = isNon x := by cases x <;> simp [isNon]
theorem q_isN : OpR X (compareOp .Is) (fIsN id) := op_isN.imp fun x y H Q h => by
  unfold fIsN at h
  split at h
  · exact ⟨rfl, by rw [dN]; exact h⟩
  · exact h.elim
theorem q_notN : OpR X (compareOp .IsNot) (fIsN not) := op_notN.imp fun x y H Q h => by
  unfold fIsN at h
  split at h
  · exact ⟨rfl, by rw [dN]; exact h⟩
  · exact h.elim
/-! truths -/
def fAnd (ta tb : TE) : TE := fun σ H Q => ta σ H fun x H1 => match x with
  | .bl c => if c = true then tb σ H1 Q else Q (.bl false) H1
  | _ => False
def fOr (ta tb : TE) : TE := fun σ H Q => ta σ H fun x H1 => match x with
  | .bl c => if c = true then Q (.bl true) H1 else tb σ H1 Q
  | _ => False
def fNot (ta : TE) : TE := fun σ H Q => ta σ H fun x H1 => match x with
  | .bl c => Q (.bl (!c)) H1
  | _ => False
def fB (t : TE) : TT := fun σ H Q => t σ H fun x H1 => match x with
  | .bl c => Q c H1
  | _ => False
variable {rest : List Expr}
theorem q_and (ha : PE X a ta) (hb : PE X (.BoolOp .And (b :: rest) pos) tb) : PE X (.BoolOp .And (a :: b :: rest) pos) (fAnd ta tb) := by
  intro pins s σ H Q I h
  refine BoolOp_and (thn (ha pins s σ H _ I h) fun v s1 ⟨x, H1, I1, r1, q1⟩ => ?_)
  cases x <;> first
    | exact False.elim q1
    | (rename_i c
       cases r1
       refine wpAny_truthy_bool ?_
       cases c with
       | true => exact hb pins s1 σ H1 Q I1 q1
       | false => exact ⟨.bl false, H1, I1, rfl, q1⟩)
theorem q_or (ha : PE X a ta) (hb : PE X (.BoolOp .Or (b :: rest) pos) tb) : PE X (.BoolOp .Or (a :: b :: rest) pos) (fOr ta tb) := by
  intro pins s σ H Q I h
  refine BoolOp_or (thn (ha pins s σ H _ I h) fun v s1 ⟨x, H1, I1, r1, q1⟩ => ?_)
  cases x <;> first
    | exact False.elim q1
    | (rename_i c
       cases r1
       refine wpAny_truthy_bool ?_
       cases c with
       | false => exact hb pins s1 σ H1 Q I1 q1
       | true => exact ⟨.bl true, H1, I1, rfl, q1⟩)
theorem q_not (ha : PE X a ta) : PE X (.UnaryOp .Not a pos) (fNot ta) := by
  intro pins s σ H Q I h
  refine UnaryOp_ (thn (ha pins s σ H _ I h) fun v s1 ⟨x, H1, I1, r1, q1⟩ => ?_)
  cases x <;> first
    | exact False.elim q1
    | (rename_i c
       cases r1
       exact not_of (wpAny_truthy_bool ⟨.bl (!c), H1, I1, rfl, q1⟩))
theorem qt_val {t : TE} (h : PE X e t) (he : ∀ whole, isTrue e X.env whole = (do let v ← whole; standAt e.pos; holding [v] (truthy v)) := by intro _; rfl) : PT X e (fB t) := by
  intro pins s σ H Q I hw
  refine isTrue_plain (thn (h pins s σ H _ I hw) fun v s1 ⟨x, H1, I1, r1, q1⟩ => ?_) (he _)
  cases x <;> first
    | exact False.elim q1
    | (cases r1
       exact wpAny_truthy_bool ⟨H1, I1, q1⟩)
theorem qt_cmp {op : CmpOp} {r : R2} (ho : OpR X (compareOp op) r) (ha : PE X a ta) (hb : PE X b tb) (hm : behindInMarks op b = false) : PT X (.Compare a [op] [b] pos) (fB (tOp r ta tb)) := by
  intro pins s σ H Q I h
  refine wpAny_isTrue_Compare1 (thn (ha pins s σ H _ I h) fun v s1 ⟨x, H1, I1, r1, q1⟩ => thn (hb pins s1 σ H1 _ I1 q1) fun u s2 ⟨y, H2, I2, r2, q2⟩ =>
    thn (ho pins s2 σ H2 x y v u _ I2 r1 r2 q2) fun c s3 ⟨z, H3, I3, r3, q3⟩ => ?_) hm
  cases z <;> first
    | exact False.elim q3
    | (cases r3
       exact wpAny_truthy_bool ⟨H3, I3, q3⟩)
theorem qt_pc {op : CmpOp} {t : TE} (h : PC X op a b t) (h1 : behindInMarks op b = false := by first | exact nobehind _ (by decide) (by decide) | rfl) : PT X (.Compare a [op] [b] pos) (fB t) := by
  intro pins s σ H Q I hw
  refine wpAny_isTrue_Compare1 (thn (h pins s σ H _ I hw) fun v s1 h1 => thn h1 fun u s2 h2 => thn h2 fun c s3 ⟨x, H1, I1, r1, q1⟩ => ?_) h1
  cases x <;> first
    | exact False.elim q1
    | (cases r1
       exact wpAny_truthy_bool ⟨H1, I1, q1⟩)
def fChain (r r' : R2) (ta tb tc : TE) : TE := fun σ H Q => ta σ H fun x H1 => tb σ H1 fun y H2 => r x y H2 fun z H3 => match z with
  | .bl k => (if k = true then tc σ H3 fun w' H4 => r' y w' H4 Q else Q (.bl false) H3)
  | _ => False
theorem q_chain {op op' : CmpOp} {g : Int → Int → Bool} {r' : R2} (ho : OpR X (compareOp op) (fI fun i j => .bl (g i j))) (ho' : OpR X (compareOp op') r') (ha : PE X a ta) (hb : PE X b tb) (hc : PE X c tc)
    (hm : lastMarks [op, op'] [b, c] = false := by with_unfolding_all rfl) : PE X (.Compare a [op, op'] [b, c] pos) (fChain (fI fun i j => .bl (g i j)) r' ta tb tc) := by
  intro pins s σ H Q I h
  refine Compare_chain (thn (ha pins s σ H _ I h) fun v s1 ⟨x, H1, I1, r1, q1⟩ => chain_link (thn (hb pins s1 σ H1 _ I1 q1) fun u s2 ⟨y, H2, I2, r2, q2⟩ =>
    thn (ho pins s2 σ H2 x y v u (fun z H3 => ∃ k, z = .bl k ∧ (if k = true then tc σ H3 fun w' H4 => r' y w' H4 Q else Q (.bl false) H3)) I2 r1 r2 ?_) fun d s3 ⟨z, H3, I3, r3, k, e, q3⟩ => ?_)) hm
  · dsimp only at q2
    unfold fI at q2 ⊢
    cases x <;> cases y <;> first
      | exact q2.elim
      | exact ⟨_, rfl, q2⟩
  · subst e
    cases r3
    refine wpAny_truthy_bool ?_
    cases k with
    | false => exact ite_ff ⟨.bl false, H3, I3, rfl, q3⟩
    | true => exact ite_tt (chain_last (thn (hc pins s3 σ H3 _ I3 q3) fun w' s4 ⟨z', H4, I4, r4, q4⟩ => ho' pins s4 σ H4 y z' u w' Q I4 r2 r4 q4))
/-! lists and tuples that are read -/
def seqOf (H : Hp) (p : Addr) : Option (List V) := match H p with
  | some (.lst xs) => some xs
  | some (.tup xs) => some xs
  | some (.frz _ (.lst xs)) => some xs
  | _ => none
theorem seqOf_or {K : PySem.W.Frag} {H : Hp} {p : Addr} {xs : List V} (h : seqOf H p = some xs) : SqL K H p xs ∨ SqT K H p xs := by
  unfold seqOf at h
  split at h
  · rename_i ys e; cases h; exact .inl (.inl (.inl e))
  · rename_i ys e; cases h; exact .inr (SqT.of e)
  · rename_i o ys e; cases h; exact .inl (.inl (.inr ⟨_, e⟩))
  · cases h
def fIx : R2 := fun x y H Q => match x, y with
  | .ref p, .int i => match seqOf H p with
    | some xs => match atI xs i with
      | some v => Q v H
      | none => False
    | none => False
  | _, _ => False
theorem q_ix : IxR X fIx := (ix_list.or ix_tup).imp fun x y H Q h => by
  unfold fIx at h
  split at h
  · split at h
    · rename_i xs e
      split at h
      · rename_i v ev
        rcases seqOf_or (K := X.K) e with z | z
        · exact .inl ⟨_, _, _, _, rfl, rfl, z, ev, h⟩
        · exact .inr ⟨_, _, _, _, rfl, rfl, z, ev, h⟩
      · exact h.elim
    · exact h.elim
  · exact h.elim
def fLen : List V → Hp → VK → Prop := fun vs H Q => match vs with
  | [.ref p] => match seqOf H p with
    | some xs => Q (.int xs.length) H
    | none => False
  | _ => False
theorem q_len : CallR X (.builtin "len") fLen := call_len_seq.imp fun vs H Q h => by
  unfold fLen at h
  split at h
  · split at h
    · rename_i xs e; exact ⟨_, xs, rfl, seqOf_or e, h⟩
    · exact h.elim
  · exact h.elim
def fListOf : List V → Hp → VK → Prop := fun vs H Q => match vs with
  | [.ref p] => match seqOf H p with
    | some xs => ∀ l, H l = none → Q (.ref l) (upd H l (.lst xs))
    | none => False
  | _ => False
theorem q_listOf : CallR X (.type "list") fListOf := call_list_of.imp fun vs H Q h => by
  unfold fListOf at h
  split at h
  · split at h
    · rename_i xs e; exact ⟨_, xs, rfl, seqOf_or e, h⟩
    · exact h.elim
  · exact h.elim
def fMin : List V → Hp → VK → Prop := fun vs H Q => match vs with
  | [.int i, .int j] => Q (.int (if j < i then j else i)) H
  | _ => False
theorem q_min (hc : X.calm = true) : CallR X (.builtin "min") fMin := (call_min2 hc).imp fun vs H Q h => by
  unfold fMin at h
  split at h
  · exact ⟨_, _, rfl, h⟩
  · exact h.elim
def fSlL : V → Option Int → Option Int → Hp → VK → Prop := fun x lo hi H Q => match x with
  | .ref a => match H a with
    | some (.lst xs) => ∀ p, H p = none → Q (.ref p) (upd H p (.lst (cutV xs lo hi)))
    | _ => False
  | _ => False
theorem q_slL : SlR X fSlL := sl_list.imp fun x l u H Q h => by
  unfold fSlL at h
  split at h
  · split at h
    · rename_i xs e; exact ⟨_, xs, rfl, SqL.of e, h⟩
    · exact h.elim
  · exact h.elim
def fAppend : V → List V → Hp → VK → Prop := fun x vs H Q => match x, vs with
  | .ref l, [y] => match H l with
    | some (.lst xs) => xs.length < sizeLine ∧ Q .non (upd H l (.lst (xs ++ [y])))
    | _ => False
  | _, _ => False
theorem q_append : MtR X "list.append" fAppend := MtR.imp (r := rAppend) (fun pins s σ H x xs v us Q I rx rv q => mt_append pins s σ H x xs v us Q I rx rv q) fun x vs H Q h => by
  unfold fAppend at h
  split at h
  · split at h
    · rename_i xs e; exact ⟨_, xs, _, rfl, rfl, e, h.1, h.2⟩
    · exact h.elim
  · exact h.elim
/-- o.m(..) of a list that is tracked -/
def fBM (r : V → List V → Hp → VK → Prop) (to : TE) (t : TA) : TE := fun σ H Q => to σ H fun x H1 => (∃ a xs, x = .ref a ∧ H1 a = some (.lst xs)) ∧ t σ H1 fun xs H2 => r x xs H2 Q
def fSetL : TSet := fun o i v H Q => match o, i with
  | .ref p, .int k => match H p with
    | some (.lst xs) => match ixN xs.length k with
      | some j => Q (upd H p (.lst (xs.set j v)))
      | none => False
    | _ => False
  | _, _ => False
theorem q_setL : PSet X fSetL := set_list.imp fun o i v H Q h => by
  unfold fSetL at h
  split at h
  · split at h
    · rename_i xs e
      split at h
      · rename_i j ej; exact ⟨_, xs, _, j, rfl, rfl, e, ej, h⟩
      · exact h.elim
    · exact h.elim
  · exact h.elim
/-! targets -/
def fGNil : TGs := fun vs σ H Q => match vs with
  | [] => Q σ H
  | _ => False
def fGCons (t : TG) (u : TGs) : TGs := fun vs σ H Q => match vs with
  | v :: r => t v σ H fun σ' H' => u r σ' H' Q
  | [] => False
theorem qgs_nil : PGs X [] fGNil := pgs_nil.imp fun v σ H Q h => by
  unfold fGNil at h
  split at h
  · exact ⟨rfl, h⟩
  · exact h.elim
theorem qgs_cons {t : TG} {u : TGs} (h1 : PG X e t) (h2 : PGs X es u) (hs : (assignEach (e :: es) X.env).map (·.2) = assign e X.env :: (assignEach es X.env).map (·.2) := by rfl) : PGs X (e :: es) (fGCons t u) := (pgs_cons h1 h2 hs).imp fun v σ H Q h => by
  unfold fGCons at h
  split at h
  · exact ⟨_, _, rfl, h⟩
  · exact h.elim
def fGTup (n : Nat) (t : TGs) : TG := fun v σ H Q => match v with
  | .ref a => match H a with
    | some (.tup xs) => xs.length = n ∧ t xs σ H Q
    | _ => False
  | _ => False
theorem qg_tup {k : Nat} {t : TGs} {n : Nat} (hc : X.calm = true) (h : PGs X es t) (hn : (assignEach es X.env).length = n := by rfl) (hst : (assignEach es X.env).findIdx? (·.1) = none := by rfl) : PG X (.Tuple es k pos) (fGTup n t) :=
  (pg_tup hc h hn hst).imp fun v σ H Q q => by
    unfold fGTup at q
    split at q
    · split at q
      · rename_i xs e; exact ⟨_, xs, rfl, SqT.of e, q.1, q.2⟩
      · exact q.elim
    · exact q.elim
/-! dicts by ints -/
def fDIn (f : Bool → Bool) (ty td : TE) : TE := fun σ H Q => ty σ H fun y H1 => td σ H1 fun x H2 => match y, x with
  | .int n, .ref a => match H2 a with
    | some (.dK kvs) => Q (.bl (f (valV kvs (Sum.inl n : Key)).isSome)) H2
    | _ => False
  | _, _ => False
def fDGet (td ty : TE) : TE := fun σ H Q => td σ H fun x H1 => ty σ H1 fun y H2 => match x, y with
  | .ref a, .int n => match H2 a with
    | some (.dK kvs) => match valV kvs (Sum.inl n : Key) with
      | some v => Q v H2
      | none => False
    | _ => False
  | _, _ => False
end
section
variable {X : Cx} {o i : Expr} {td ty : TE} {pos : Pos}
theorem PC.imp {op : CmpOp} {a b : Expr} {t t' : TE} (h : PC X op a b t) (hi : ∀ σ H Q, t' σ H Q → t σ H Q) : PC X op a b t' := fun pins s σ H Q I q => h pins s σ H Q I (hi σ H Q q)
theorem fDIn_r {f : Bool → Bool} {H2 : Hp} {Q : VK} {y x : V} (h : (match y, x with
  | .int n, .ref a => match H2 a with
    | some (.dK kvs) => Q (.bl (f (valV kvs (Sum.inl n : Key)).isSome)) H2
    | _ => False
  | _, _ => False)) : ∃ a ov, x = .ref a ∧ DGet H2 a y ov ∧ Q (.bl (f ov.isSome)) H2 := by
  cases y <;> cases x <;> first
    | exact h.elim
    | (rename_i n a
       dsimp only at h
       split at h
       · rename_i kvs e; exact ⟨a, _, rfl, DGet.k (k := Sum.inl n) e, h⟩
       · exact h.elim)
theorem q_din (hu : X.A.units + 1 < cLine) (hi : PE X i ty) (ho : PE X o td) : PC X .In i o (fDIn id ty td) := by
  intro pins s σ H Q I h
  refine thn (hi pins s σ H _ I h) fun iv s1 ⟨y, H1, I1, ry, q1⟩ => thn (ho pins s1 σ H1 _ I1 q1) fun u s2 ⟨x, H2, I2, rx, q2⟩ => ?_
  obtain ⟨a, ov, ex, g, q3⟩ := fDIn_r q2
  subst ex
  obtain rfl : u = Value.ref a := rx
  exact d_in hu I2 g ry fun s' I3 => ⟨.bl ov.isSome, H2, I3, rfl, q3⟩
theorem q_dnotin (hu : X.A.units + 1 < cLine) (hi : PE X i ty) (ho : PE X o td) : PC X .NotIn i o (fDIn not ty td) := by
  intro pins s σ H Q I h
  refine thn (hi pins s σ H _ I h) fun iv s1 ⟨y, H1, I1, ry, q1⟩ => thn (ho pins s1 σ H1 _ I1 q1) fun u s2 ⟨x, H2, I2, rx, q2⟩ => ?_
  obtain ⟨a, ov, ex, g, q3⟩ := fDIn_r q2
  subst ex
  obtain rfl : u = Value.ref a := rx
  exact d_notIn hu I2 g ry fun s' I3 => ⟨.bl (!ov.isSome), H2, I3, rfl, q3⟩
theorem q_dget (hu : X.A.units + 1 < cLine) (ho : PE X o td) (hi : PE X i ty) (hs : NoSl i) : PE X (.Subscript o i pos) (fDGet td ty) := by
  intro pins s σ H Q I h
  refine subD_of PySem.F.slot_dict_getitem.lookup hs (thn (ho pins s σ H _ I h) fun u s1 ⟨x, H1, I1, rx, q1⟩ => thn (hi pins s1 σ H1 _ I1 q1) fun iv s2 ⟨y, H2, I2, ry, q2⟩ => ?_)
  cases x <;> cases y <;> first
    | exact False.elim q2
    | (dsimp only at q2
       split at q2
       · rename_i kvs e
         split at q2
         · rename_i v ev
           cases rx
           have g : ∀ {a : Addr} {n : Int}, H2 a = some (.dK kvs) → valV kvs (Sum.inl n : Key) = some v → DGet H2 a (.int n) (some v) := fun e1 e2 => e2 ▸ DGet.k (k := Sum.inl _) e1
           have g := g e ev
           exact ⟨dict_typeIs I2 g, d_getItem hu I2 g ry fun w' s3 I3 rw' => ⟨v, H2, I3, rw', q2⟩⟩
         · exact q2.elim
       · exact q2.elim)
/-! methods of lists -/
theorem q_bm {e : Expr} {es : List Expr} {to : TE} {t : TA} {name : Str} {apos cpos : Pos} {id : String} {r : V → List V → Hp → VK → Prop} (pa : PlainAttrs "list") (slot : Slot "list" name id) (hty : typeOf (.builtin id) = pure (.type "method_descriptor")) (hm : MtR X id r) (ho : PE X o to) (ha : PA X (e :: es) t)
    (hbase : attributeBase o name X.env (eval o X.env) = eval o X.env := by rfl)
    (hfew : ((backTo cpos (starEach (e :: es) X.env)).all (fun x => !x.1) && (backToKw cpos (keywordEach [] X.env)).all (fun x => x.1.isSome)
      && decide ((e :: es).length + ([] : List Keyword).length + (if ([] : List Keyword).isEmpty then 0 else 1) < 30)) = true := by rfl)
    (hline : (apos.endLine == cpos.line) = true := by rfl) (hs : starEach (e :: es) X.env = (false, eval e X.env) :: starEach es X.env := by rfl) (hplain : (backTo cpos (starEach es X.env)).any (·.1) = false := by rfl) :
    PE X (.Call (.Attribute o name apos) (e :: es) [] cpos) (fBM r to t) := by
  intro pins s σ H Q I h
  refine wpAny_Call_method_late hbase hfew hline rfl (thn (ho pins s σ H _ I h) fun v s1 ⟨x, H1, I1, r1, ⟨a, xs, ex, ea⟩, q1⟩ => ?_)
  subst ex
  obtain ⟨h1, h2⟩ := tyV_is (T := "list") I1 r1 (.inl ⟨rfl, _, SqL.of ea⟩)
  refine ⟨"list", id, pa, slot, hty, h1, h2, ?_⟩
  have hA := ha cpos pins s1 σ H1 _ I1 q1
  rw [hs] at hA ⊢
  refine Calls.callWith_builtin (by show (false || (backTo cpos (starEach es X.env)).any (·.1)) = false; rw [hplain] <;> rfl) (Calls.evalArgs_plain ?_)
  exact thn hA fun us s2 ⟨vs, H2, I2, r2, q2⟩ => hm pins s2 σ H2 _ vs v us Q I2 r1 r2 q2
end
/-! kinds -/
inductive Kd where
  | non | bl | int | str | lst | tup | dct
  deriving DecidableEq
def Kd.nm : Kd → String
  | .non => "NoneType"
  | .bl => "bool"
  | .int => "int"
  | .str => "str"
  | .lst => "list"
  | .tup => "tuple"
  | .dct => "dict"
def kd (H : Hp) (v : V) : Option Kd := match v with
  | .non => some .non
  | .bl _ => some .bl
  | .int _ => some .int
  | .str _ => some .str
  | .ref a => match H a with
    | some (.lst _) => some .lst
    | some (.tup _) => some .tup
    | some (.dK _) => some .dct
    | _ => none
  | _ => none
def isi (a b : Kd) : Bool := match a, b with
  | .bl, .int => true
  | .non, .non => true
  | .bl, .bl => true
  | .int, .int => true
  | .str, .str => true
  | .lst, .lst => true
  | .tup, .tup => true
  | .dct, .dct => true
  | _, _ => false
theorem kd_knd {H : Hp} {v : V} {k : Kd} (h : kd H v = some k) : Knd H v k.nm := by
  unfold kd at h
  split at h
  · cases h; exact .non
  · cases h; exact .bl
  · cases h; exact .int
  · cases h; exact .str
  · split at h
    · rename_i e; cases h; exact .lst e
    · rename_i e; cases h; exact .tup e
    · rename_i e; cases h; exact .dK e
    · cases h
  · cases h
theorem isi_K (a b : Kd) : isiK a.nm b.nm = isi a b := by cases a <;> cases b <;> rfl
theorem Kd.mem (b : Kd) : b.nm ∈ kinds := by cases b <;> simp [kinds, Kd.nm]
def fIsi (T : Kd) : List V → Hp → VK → Prop := fun vs H Q => match vs with
  | [x, y] => y = .ty T.nm ∧ match kd H x with
    | some k => Q (.bl (isi k T)) H
    | none => False
  | _ => False
theorem q_isi {X : Cx} (T : Kd) : CallR X (.builtin "isinstance") (fIsi T) := call_isi.imp fun vs H Q h => by
  unfold fIsi at h
  split at h
  · obtain ⟨rfl, h⟩ := h
    split at h
    · rename_i k e
      exact ⟨_, _, _, rfl, kd_knd e, Kd.mem T, by rw [isi_K]; exact h⟩
    · exact h.elim
  · exact h.elim
/-! x op= e -/
def fAug (i : Nat) (te : TE) (ti : TIp) : TS := fun D σ H => match σ[i]? with
  | some (some x) => te σ H fun y H1 => ti x y H1 fun z H2 => D.nx (σ.set i (some z)) H2
  | _ => False
theorem qs_aug {X : Cx} {pos : Pos} {i : Nat} {x : Str} {e : Expr} {te : TE} {op : Operator} {ti : TIp} {pos' : Pos} (hN : X.N.Nodup) (hi : X.N[i]? = some x) (hx : Loc X.env.scope x) (he : PE X e te) (ho : PIp X op ti) (hf : X.fn x = true ∨ X.env.scope.names.lookup x = some .local := by first | exact .inl rfl | exact .inr rfl | assumption) :
    PS X (.AugAssign (.Name x pos') op e pos) (fAug i te ti) := fun pins s σ H D I h => ps_aug hN hi hx he ho hf pins s σ H D I (by
  unfold fAug at h
  split at h
  · rename_i x e; exact ⟨x, e, h⟩
  · exact h.elim)
/-! a slice's part -/
def fPart (t : TE) : TO := fun σ H Q => t σ H fun x H1 => match x with
  | .int i => Q (some i) H1
  | _ => False
theorem qo_some {X : Cx} {e : Expr} {te : TE} (h : PE X e te) : PO X (some e) (fPart te) := by
  intro pins s σ H Q I hw
  rw [evalPart_some]
  refine thn (h pins s σ H _ I hw) fun u s1 ⟨x, H1, I1, r1, q1⟩ => ?_
  cases x <;> first
    | exact False.elim q1
    | (obtain ⟨t, rfl⟩ := r1
       exact ⟨some _, H1, I1, .int _ t, q1⟩)
/-! all -/
def fBools (f : List Bool → Bool) : List V → Hp → VK → Prop := fun vs H Q => match vs with
  | [.ref l] => match H l with
    | some (.lst xs) => ∃ bs : List Bool, xs = bs.map V.bl ∧ Q (.bl (f bs)) H
    | _ => False
  | _ => False
theorem fBools_r {f : List Bool → Bool} {vs : List V} {H : Hp} {Q : VK} (h : fBools f vs H Q) : rBools f vs H Q := by
  unfold fBools at h
  split at h
  · split at h
    · rename_i xs e
      obtain ⟨bs, rfl, h⟩ := h
      exact ⟨_, bs, rfl, e, h⟩
    · exact h.elim
  · exact h.elim
theorem q_all {X : Cx} (hc : X.calm = true) : CallR X (.builtin "all") (fBools fun bs => bs.all id) := (call_all hc).imp fun _ _ _ => fBools_r
theorem q_any {X : Cx} (hc : X.calm = true) : CallR X (.builtin "any") (fBools fun bs => bs.any id) := (call_any hc).imp fun _ _ _ => fBools_r
/-! dict(pairs) -/
def fDictL : List V → Hp → VK → Prop := fun vs H Q => match vs with
  | [.ref l] => match H l with
    | some (.lst xs) => ∃ kvs : List (Key × V), Paired (PairAt H) xs kvs ∧ xs.length ≤ 1000 ∧ (kvs.map (·.1)).Nodup ∧ ∀ d, H d = none → Q (.ref d) (upd H d (.dK kvs))
    | _ => False
  | _ => False
theorem q_dictL {X : Cx} (hc : X.calm = true) : CallR X (.type "dict") fDictL := (call_dictL hc).imp fun vs H Q h => by
  unfold fDictL at h
  split at h
  · split at h
    · rename_i xs e
      obtain ⟨kvs, h1, h2, h3, h4⟩ := h
      exact ⟨_, xs, kvs, rfl, e, h1, h2, h3, h4⟩
    · exact h.elim
  · exact h.elim
/-! tuples of ints in order -/
def fLtT : R2 := fun x y H Q => match x, y with
  | .ref a, .ref b => match H a, H b with
    | some (.tup [.int i, .int j]), some (.tup [.int k, .int l]) => Q (.bl (HT.lexLt [i, j] [k, l])) H
    | _, _ => False
  | _, _ => False
theorem q_ltT {X : Cx} (hu : X.A.units < cLine) : OpR X (compareOp .Lt) fLtT := (op_ltT hu).imp fun x y H Q h => by
  unfold fLtT at h
  split at h
  · split at h
    · rename_i a b _ _ i j k l e1 e2
      exact ⟨a, b, [i, j], [k, l], rfl, rfl, SqT.of e1, SqT.of e2, h⟩
    · exact h.elim
  · exact h.elim
/-! the block's scope, checked -/
def capB (XN : List Str) (names : List (Str × NameKind)) : List Str → List (Option Nat) → Bool
  | [], [] => true
  | x :: N, none :: r => capB XN names N r
  | x :: N, some j :: r => (XN[j]? == some x) && (names.lookup x == some .free) && capB XN names N r
  | _, _ => false
theorem capB_ok {XN : List Str} {names : List (Str × NameKind)} : ∀ {N : List Str} {src : List (Option Nat)}, capB XN names N src = true → src.length = N.length ∧ ∀ (i j : Nat), src[i]? = some (some j) → XN[j]? = N[i]? ∧ (N[i]?).elim False (fun x => names.lookup x = some .free)
  | [], [], _ => ⟨rfl, fun i j e => by simp at e⟩
  | x :: N, none :: r, h => by
    obtain ⟨h1, h2⟩ := capB_ok (N := N) (src := r) h
    refine ⟨by simp [h1], fun i j e => ?_⟩
    cases i with
    | zero => simp at e
    | succ i => exact h2 i j (by simpa using e)
  | x :: N, some k :: r, h => by
    have h' : ((XN[k]? == some x) && (names.lookup x == some .free) && capB XN names N r) = true := h
    rw [Bool.and_eq_true, Bool.and_eq_true] at h'
    obtain ⟨h1, h2⟩ := capB_ok (N := N) (src := r) h'.2
    refine ⟨by simp [h1], fun i j e => ?_⟩
    cases i with
    | zero =>
      have e' : k = j := by simpa using e
      subst e'
      exact ⟨by simpa using h'.1.1, by simpa using h'.1.2⟩
    | succ i => exact h2 i j (by simpa using e)
def nodupB : List Str → Bool
  | [] => true
  | x :: r => !(r.contains x) && nodupB r
theorem nodupB_ok : ∀ {l : List Str}, nodupB l = true → l.Nodup
  | [], _ => List.nodup_nil
  | x :: r, h => by
    have h' : (!(r.contains x) && nodupB r) = true := h
    rw [Bool.and_eq_true] at h'
    exact List.nodup_cons.mpr ⟨by simpa using h'.1, nodupB_ok h'.2⟩
def cpB (XN : List Str) (outer : List (Str × NameKind)) (scope : Scope) (N : List Str) (src : List (Option Nat)) : Bool :=
  (scope.kind == .function) && scope.names.all (fun y => y.2 != .cell) && scope.names.all (fun y => y.2 != .local || scope.names.lookup y.1 == some .local) &&
    scope.names.all (fun y => y.2 != .free || (scope.names.lookup y.1 == some .free && outer.lookup y.1 == some .cell)) && nodupB N && capB XN scope.names N src
theorem CpScope.of {X : Cx} {scope : Scope} {N : List Str} {src : List (Option Nat)} (h : cpB X.N X.env.scope.names scope N src = true) : CpScope X scope N src := by
  unfold cpB at h
  simp only [Bool.and_eq_true] at h
  obtain ⟨⟨⟨⟨⟨h1, h2⟩, h3⟩, h4⟩, h5⟩, h6⟩ := h
  rw [List.all_eq_true] at h2 h3 h4
  obtain ⟨l, c⟩ := capB_ok h6
  refine ⟨by simpa using h1, fun y hy => by simpa using h2 y hy, fun y hy e => ?_, fun y hy e => ?_, nodupB_ok h5, l, c⟩
  · have := h3 y hy
    rw [e] at this
    simpa using this
  · have := h4 y hy
    rw [e] at this
    simpa using this
end L2

set_option Elab.async false
set_option linter.all false
set_option maxRecDepth 100000
set_option maxHeartbeats 1000000
namespace L2
open PySem PySem.Spec PyProof.Rows
/-! ### loops over enumerate, zip -/
theorem for_enum {K : PySem.W.Frag} {a : Addr} {xs : List V} {g : TG} {tb : TS} {D : Ends} {σ : St} {H : Hp} (Pv : Nat → St → Hp → Prop) (h0 : Pv 0 σ H) (hl : ∀ i σ H, i ≤ xs.length → Pv i σ H → SqL K H a xs)
    (hs : ∀ i x σ H t, xs[i]? = some x → Pv i σ H → H t = none → g (.ref t) σ (upd H t (.tup [.int i, x])) fun σ2 H2 => tb { D with nx := Pv (i + 1), ct := Pv (i + 1), bk := D.nx } σ2 H2) (hd : ∀ σ H, Pv xs.length σ H → D.nx σ H) :
    ∃ W : Nat → Nat → St → Hp → Prop, (∃ m, W 0 m σ H) ∧ ∀ i m σ H, W i m σ H →
      ((Ite K a).stop i H ∧ D.nx σ H) ∨ ((Ite K a).go i H ∧ ∃ N : St → Hp → Prop, (∀ σ' H', N σ' H' → ∃ m', m' < m ∧ W (i + 1) m' σ' H') ∧ ∀ x H', (Ite K a).yld i H x H' → g x σ H' fun σ2 H2 => tb { D with nx := N, ct := N, bk := D.nx } σ2 H2) := by
  refine ⟨fun i m σ H => m = xs.length - i ∧ i ≤ xs.length ∧ Pv i σ H, ⟨xs.length, by simp, Nat.zero_le _, h0⟩, ?_⟩
  rintro i m σ H ⟨rfl, hi, p⟩
  have q := hl i σ H hi p
  by_cases hlt : i < xs.length
  · refine .inr ⟨⟨xs, xs[i], q, by simp [hlt]⟩, Pv (i + 1), fun σ' H' p' => ⟨xs.length - (i + 1), by omega, rfl, hlt, p'⟩, fun x H' y => ?_⟩
    obtain ⟨t, z, ht, e1, e2, y⟩ := y
    subst e1 e2
    exact hs i z σ _ t (y xs q) p ht
  · have e : i = xs.length := by omega
    subst e
    exact .inl ⟨⟨xs, q, Nat.le_refl _⟩, hd σ H p⟩
/-- what a loop walks, found first -/
theorem tFor_hide {wi : TI} {g : TG} {tb : TS} {D : Ends} {σ : St} {H : Hp} (J : It) (H1 : Hp) (h1 : ∀ R : It → Hp → Prop, R J H1 → wi σ H R)
    (h2 : ∃ W : Nat → Nat → St → Hp → Prop, (∃ m, W 0 m σ H1) ∧ ∀ i m σ H, W i m σ H → (J.stop i H ∧ D.nx σ H) ∨ (J.go i H ∧ ∃ N : St → Hp → Prop, (∀ σ' H', N σ' H' → ∃ m', m' < m ∧ W (i + 1) m' σ' H') ∧ ∀ x H', J.yld i H x H' → g x σ H' fun σ2 H2 => tb { D with nx := N, ct := N, bk := D.nx } σ2 H2)) :
    tFor wi g tb D σ H := h1 _ h2
theorem tComp_hide {src : List (Option Nat)} {wi : TI} {g : TG} {tc : TT} {te : TE} {Q : VK} {σ : St} {H : Hp} (J : It) (H1 : Hp) (h1 : ∀ R : It → Hp → Prop, R J H1 → wi σ H R) (h2 : ∀ l, H1 l = none → CWant J src g tc te Q σ H1 l) : tComp src wi g tc te σ H Q := h1 _ h2
theorem tComp_hideA {src : List (Option Nat)} {wi : TI} {g : TG} {tc : TT} {te : TE} {Q : VK} {σ : St} {H : Hp} (J : Addr → It) (H1 : Addr → Hp) (ok : Addr → Prop) (h1 : ∀ R : It → Hp → Prop, (∀ p, ok p → R (J p) (H1 p)) → wi σ H R)
    (h2 : ∀ p, ok p → ∀ l, H1 p l = none → CWant (J p) src g tc te Q σ (H1 p) l) : tComp src wi g tc te σ H Q := h1 _ h2
/-! ### heaps that grow -/
theorem same_new {H : Hp} {p : Addr} (h : H p = none) (o : HO) : Same H (upd H p o) := fun b u q => by rw [upd_ne (ne_of_none q h)]; exact q
theorem same_upd {H H' : Hp} {p : Addr} {o : HO} (s : Same H H') (h : H p = none) : Same H (upd H' p o) := fun b u q => by rw [upd_ne (ne_of_none q h)]; exact s b u q
/-- two whole numbers in a tuple -/
def Pr (H : Hp) (v : V) (p : Int × Int) : Prop := ∃ t, v = .ref t ∧ H t = some (.tup [.int p.1, .int p.2])
theorem Pr.same {H H' : Hp} {v : V} {p : Int × Int} (h : Pr H v p) (s : Same H H') : Pr H' v p := let ⟨t, e, q⟩ := h; ⟨t, e, s _ _ q⟩
/-- tuples stay, and what is known to the object -/
def isImm : HO → Bool
  | .tup _ => true
  | .frz _ _ => true
  | _ => false
def TupS (H H' : Hp) : Prop := ∀ b o, isImm o = true → H b = some o → H' b = some o
theorem Same.tups {H H' : Hp} (s : Same H H') : TupS H H' := fun b o _ q => s b _ q
theorem TupS.trans {H H1 H2 : Hp} (a : TupS H H1) (b : TupS H1 H2) : TupS H H2 := fun c o i q => b c o i (a c o i q)
theorem TupS.refl (H : Hp) : TupS H H := fun _ _ _ q => q
theorem tups_lst {H : Hp} {l : Addr} {xs ys : List V} (h : H l = some (.lst xs)) : TupS H (upd H l (.lst ys)) := fun b o i q => by
  have : b ≠ l := fun z => by rw [z, h] at q; cases q; cases i
  rw [upd_ne this]
  exact q
theorem tups_new {H : Hp} {l : Addr} {o : HO} (h : H l = none) : TupS H (upd H l o) := (same_new h o).tups
theorem Pr.tups {H H' : Hp} {v : V} {p : Int × Int} (h : Pr H v p) (s : TupS H H') : Pr H' v p := let ⟨t, e, q⟩ := h; ⟨t, e, s _ _ rfl q⟩
/-- the script -/
def Scr (K : PySem.W.Frag) (H : Hp) (a : Addr) (ns : List Int) : Prop :=
  (∃ o, H a = some (.frz o (.lst (ns.map V.int)))) ∨ ∃ (o : Obj) (its : Array Value) (n : Nat), K.lookup a = some o ∧ o.cls = .type "list" ∧ o.dict = none ∧ o.data = .seq its n ∧ its.size ≤ sizeLine ∧ Vals (ns.map V.int) its.toList
theorem Scr.sq {K : PySem.W.Frag} {H : Hp} {a : Addr} {ns : List Int} (h : Scr K H a ns) : SqL K H a (ns.map V.int) := h.elim (fun ⟨o, q⟩ => .inl (.inr ⟨o, q⟩)) .inr
theorem Scr.of {K : PySem.W.Frag} {H : Hp} {a : Addr} {ns : List Int} (h : SqL K H a (ns.map V.int)) (o : Only H) : Scr K H a ns := by
  rcases h with (h | ⟨ob, h⟩) | h
  · rcases o a with z | ⟨ob, xs, z⟩
    · rw [h] at z; cases z
    · rw [h] at z; cases z
  · exact .inl ⟨ob, h⟩
  · exact .inr h
theorem Scr.tups {K : PySem.W.Frag} {H H' : Hp} {a : Addr} {ns : List Int} (h : Scr K H a ns) (s : TupS H H') : Scr K H' a ns := h.elim (fun ⟨o, q⟩ => .inl ⟨o, s _ _ rfl q⟩) .inr
abbrev Prs (H : Hp) : List V → List (Int × Int) → Prop := Paired (Pr H)
theorem Prs.tups {H H' : Hp} (s : TupS H H') {xs : List V} {ps : List (Int × Int)} (h : Prs H xs ps) : Prs H' xs ps := Paired.mapP h fun _ _ q => q.tups s
theorem Prs.same {H H' : Hp} (s : Same H H') {xs : List V} {ps : List (Int × Int)} (h : Prs H xs ps) : Prs H' xs ps := Prs.tups s.tups h
theorem paired_left {α β : Type} {F : α → β → Prop} : ∀ {xs : List α} {ys : List β} {i : Nat} {x : α}, Paired F xs ys → xs[i]? = some x → ∃ y, ys[i]? = some y ∧ F x y
  | _, _, _, _, .nil, e => by simp at e
  | _, _, 0, _, .cons r _, e => by simp at e; subst e; exact ⟨_, rfl, r⟩
  | _, _, i + 1, y, .cons _ t, e => by
    obtain ⟨u, h1, h2⟩ := paired_left (i := i) t (by simpa using e)
    exact ⟨u, by simpa using h1, h2⟩
theorem paired_right {α β : Type} {F : α → β → Prop} : ∀ {xs : List α} {ys : List β} {i : Nat} {y : β}, Paired F xs ys → ys[i]? = some y → ∃ x, xs[i]? = some x ∧ F x y
  | _, _, _, _, .nil, e => by simp at e
  | _, _, 0, _, .cons r _, e => by simp at e; subst e; exact ⟨_, rfl, r⟩
  | _, _, i + 1, y, .cons _ t, e => by
    obtain ⟨u, h1, h2⟩ := paired_right (i := i) t (by simpa using e)
    exact ⟨u, by simpa using h1, h2⟩
theorem paired_snoc {α β : Type} {F : α → β → Prop} {a : α} {b : β} {l₁ : List α} {l₂ : List β} (h : Paired F l₁ l₂) (r : F a b) : Paired F (l₁ ++ [a]) (l₂ ++ [b]) := Paired.snoc h r
theorem drop_get {α : Type} {l : List α} {i : Nat} {x : α} (h : l[i]? = some x) : l.drop i = x :: l.drop (i + 1) := by
  obtain ⟨h1, h2⟩ := List.getElem?_eq_some_iff.mp h
  rw [List.drop_eq_getElem_cons h1, h2]
theorem take_get {α : Type} {l : List α} {i : Nat} {x : α} (h : l[i]? = some x) : l.take (i + 1) = l.take i ++ [x] := by
  obtain ⟨h1, h2⟩ := List.getElem?_eq_some_iff.mp h
  rw [List.take_succ, h]
  rfl
/-! ### data: numbers, truths, texts, tuples, lists -/
inductive Dt where
  | non
  | bl (b : Bool)
  | int (i : Int)
  | str (x : Str)
  | tup (ds : List Dt)
  | lst (ds : List Dt)
mutual
def Rep (H : Hp) : Dt → V → Prop
  | .non, v => v = .non
  | .bl b, v => v = .bl b
  | .int i, v => v = .int i
  | .str x, v => v = .str x
  | .tup ds, v => ∃ a vs, v = .ref a ∧ H a = some (.tup vs) ∧ Reps H ds vs
  | .lst ds, v => ∃ a vs, v = .ref a ∧ H a = some (.lst vs) ∧ Reps H ds vs
def Reps (H : Hp) : List Dt → List V → Prop
  | [], vs => vs = []
  | d :: ds, vs => ∃ v r, vs = v :: r ∧ Rep H d v ∧ Reps H ds r
end
mutual
theorem Rep.same {H H' : Hp} (s : Same H H') : ∀ (d : Dt) {v : V}, Rep H d v → Rep H' d v
  | .non, _, h => by rw [Rep] at *; exact h
  | .bl _, _, h => by rw [Rep] at *; exact h
  | .int _, _, h => by rw [Rep] at *; exact h
  | .str _, _, h => by rw [Rep] at *; exact h
  | .tup ds, _, h => by
    rw [Rep] at *
    obtain ⟨a, vs, e, q, r⟩ := h
    exact ⟨a, vs, e, s _ _ q, Reps.same s ds r⟩
  | .lst ds, _, h => by
    rw [Rep] at *
    obtain ⟨a, vs, e, q, r⟩ := h
    exact ⟨a, vs, e, s _ _ q, Reps.same s ds r⟩
theorem Reps.same {H H' : Hp} (s : Same H H') : ∀ (ds : List Dt) {vs : List V}, Reps H ds vs → Reps H' ds vs
  | [], _, h => by rw [Reps] at *; exact h
  | d :: ds, _, h => by
    rw [Reps] at *
    obtain ⟨v, r, e, h1, h2⟩ := h
    exact ⟨v, r, e, Rep.same s d h1, Reps.same s ds h2⟩
end
theorem Reps.len {H : Hp} : ∀ {ds : List Dt} {vs : List V}, Reps H ds vs → vs.length = ds.length
  | [], _, h => by rw [Reps] at h; subst h; rfl
  | d :: ds, _, h => by
    rw [Reps] at h
    obtain ⟨v, r, e, h1, h2⟩ := h
    rw [e, List.length_cons, List.length_cons, Reps.len h2]
theorem Reps.at {H : Hp} : ∀ {ds : List Dt} {vs : List V} {i : Nat} {v : V}, Reps H ds vs → vs[i]? = some v → ∃ d, ds[i]? = some d ∧ Rep H d v
  | [], _, i, v, h, e => by rw [Reps] at h; rw [h] at e; simp at e
  | d :: ds, _, i, v, h, e => by
    rw [Reps] at h
    obtain ⟨w, r, e1, h1, h2⟩ := h
    subst e1
    cases i with
    | zero => simp at e; subst e; exact ⟨d, rfl, h1⟩
    | succ i =>
      obtain ⟨d', q1, q2⟩ := Reps.at h2 (i := i) (by simpa using e)
      exact ⟨d', by simpa using q1, q2⟩
def pairD (p : Int × Int) : Dt := .tup [.int p.1, .int p.2]
theorem Pr.rep {H : Hp} {v : V} {p : Int × Int} (h : Pr H v p) : Rep H (pairD p) v := by
  obtain ⟨t, e, q⟩ := h
  rw [pairD, Rep]
  refine ⟨t, _, e, q, ?_⟩
  rw [Reps]
  refine ⟨_, _, rfl, (by rw [Rep]), ?_⟩
  rw [Reps]
  exact ⟨_, _, rfl, (by rw [Rep]), (by rw [Reps])⟩
theorem Prs.reps {H : Hp} : ∀ {xs : List V} {ps : List (Int × Int)}, Prs H xs ps → Reps H (ps.map pairD) xs
  | _, _, .nil => by rw [List.map_nil, Reps]
  | _, _, .cons r t => by rw [List.map_cons, Reps]; exact ⟨_, _, rfl, r.rep, Prs.reps t⟩
theorem ints_reps {H : Hp} : ∀ (ns : List Int), Reps H (ns.map Dt.int) (ns.map V.int)
  | [] => by rw [List.map_nil, Reps, List.map_nil]
  | n :: r => by rw [List.map_cons, Reps, List.map_cons]; exact ⟨_, _, rfl, (by rw [Rep]), ints_reps r⟩
end L2

set_option Elab.async false
set_option linter.all false
set_option maxRecDepth 100000
set_option maxHeartbeats 1000000
namespace L2
open PySem PySem.Spec PyProof.Rows
def fMax : List V → Hp → VK → Prop := fun vs H Q => match vs with
  | [.int i, .int j] => Q (.int (if i < j then j else i)) H
  | _ => False
theorem q_max {X : Cx} (hc : X.calm = true) : CallR X (.builtin "max") fMax := (call_max2 hc).imp fun vs H Q h => by
  unfold fMax at h
  split at h
  · refine ⟨_, _, rfl, ?_⟩
    first | exact h | (rename_i i j; by_cases c : i < j <;> simp_all)
  · exact h.elim
/-! in a list -/
def fInL (neg : Bool) : R2 := fun x y H Q => match y with
  | .ref p => match seqOf H p with
    | some xs => flatV x = true ∧ xs.all flatV = true ∧ Q (.bl (if neg = true then !inV x xs else inV x xs)) H
    | none => False
  | _ => False
theorem fInL_r {K : PySem.W.Frag} {neg : Bool} {x y : V} {H : Hp} {Q : VK} (h : fInL neg x y H Q) : rIn K neg x y H Q := by
  unfold fInL at h
  split at h
  · split at h
    · rename_i xs e
      obtain ⟨h1, h2, h3⟩ := h
      exact ⟨_, xs, rfl, seqOf_or e, h1, h2, h3⟩
    · exact h.elim
  · exact h.elim
theorem q_inL {X : Cx} : OpR X (compareOp .In) (fInL false) := op_in_seq.imp fun _ _ _ _ => fInL_r
theorem q_notinL {X : Cx} : OpR X (compareOp .NotIn) (fInL true) := op_notIn_seq.imp fun _ _ _ _ => fInL_r
theorem flat_ints (ns : List Int) : (ns.map V.int).all flatV = true := by
  rw [List.all_eq_true]
  intro v hv
  obtain ⟨n, _, e⟩ := List.mem_map.mp hv
  rw [← e]
  rfl
theorem inV_ints (n : Int) (ns : List Int) : inV (.int n) (ns.map V.int) = decide (n ∈ ns) := by
  rw [Bool.eq_iff_iff, inV, List.any_eq_true, decide_eq_true_iff]
  constructor
  · rintro ⟨v, hv, e⟩
    obtain ⟨m, hm, e2⟩ := List.mem_map.mp hv
    subst e2
    have : m = n := by simpa [eqV] using e
    rw [← this]
    exact hm
  · intro h
    exact ⟨.int n, List.mem_map_of_mem h, by simp [eqV]⟩
end L2

set_option Elab.async false
set_option linter.all false
set_option maxRecDepth 100000
set_option maxHeartbeats 1000000
namespace L2
open PySem PySem.Spec PyProof.Rows

/-! ### sorted, of numbers -/
def rSortL : List V → Hp → VK → Prop := fun vs H Q => ∃ (p : Addr) (ns : List Int), vs = [.ref p] ∧ H p = some (.lst (ns.map V.int)) ∧ ns.length < 64 ∧
  ∀ (l : Addr) (ms : List Int), H l = none → ms.Perm ns → ms.Pairwise (· ≤ ·) → Q (.ref l) (upd H l (.lst (ms.map V.int)))
theorem call_sortL {X : Cx} : CallR X (.builtin "sorted") rSortL := by
  intro pins s σ H xs us Q I r h
  obtain ⟨p, ns, rfl, e, h64, q⟩ := h
  obtain ⟨u, rfl, rx⟩ := vals1 r
  cases rx
  obtain ⟨its, r', pl, hz⟩ := I.list (SqL.of e)
  have hI := intsAre_of r'
  have hlen := r'.length
  rw [List.length_map] at hlen
  refine sorted_ints pl.isList hI (by omega) fun out ms a1 a2 a3 => ?_
  obtain ⟨c, hc⟩ := sortedAll_at s.heap its out
  have hml := a2.length_eq
  have hz2 := line63
  refine ⟨.ref (s.heap.objs.size + 1), _, I.laid (t' := s.toks) (fun _ _ => sortedAll_old) (Nat.le_succ _) (show ObjOk X.prog X.w _ _ _ (.lst (ms.map V.int)) from ⟨?_, out.toList, c, vals_ints a1, ?_⟩), rfl, q _ ms (I.hok.fresh (Nat.le_succ _)) a2 a3⟩
  · rw [List.length_map, hml]; exact Nat.le_trans (Nat.le_of_lt h64) (by decide)
  · rw [hc]
theorem keys_ints {P : Program} {w : World} : ∀ {kvs : List (Key × V)} {vs : List (Key × Value)} {ns : List Int}, KV kvs vs → kvs.map (·.1) = ns.map Sum.inl → ∀ {us : List Value}, us.length = vs.length → (∀ (j : Nat) (v : Value), us[j]? = some v → ∃ k x, vs[j]? = some (k, x) ∧ (mixKind P w).is k v = true) → IntsAre us ns
  | [], _, ns, .nil, hk, us, hl, _ => by
    cases ns with
    | nil => cases us with
      | nil => exact .nil
      | cons _ _ => simp at hl
    | cons _ _ => simp at hk
  | kv :: kvs, _, ns, .cons (b := b) r t, hk, us, hl, hv => by
    cases ns with
    | nil => simp at hk
    | cons n ns =>
      cases us with
      | nil => simp at hl
      | cons u us =>
        rw [List.map_cons, List.map_cons] at hk
        injection hk with hk1 hk2
        obtain ⟨k, x, e1, e2⟩ := hv 0 u rfl
        simp only [List.getElem?_cons_zero, Option.some.injEq] at e1
        have hkn : k = Sum.inl n := by rw [← hk1, r.1, e1]
        rw [hkn] at e2
        rcases keyIs_shape (show keyIs (Sum.inl n) u = true from e2) with ⟨i, t', ei, ev⟩ | ⟨y, t', ei, ev⟩
        · cases ei
          rw [ev]
          refine .cons n t' (keys_ints (P := P) (w := w) t hk2 (by simpa using hl) fun j v hj => ?_)
          obtain ⟨k', x', z1, z2⟩ := hv (j + 1) v (by simpa using hj)
          exact ⟨k', x', by simpa using z1, z2⟩
        · cases ei
def rSortD : List V → Hp → VK → Prop := fun vs H Q => ∃ (p : Addr) (kvs : List (Key × V)) (ns : List Int), vs = [.ref p] ∧ H p = some (.dK kvs) ∧ kvs.map (·.1) = ns.map Sum.inl ∧ ns.length < 64 ∧
  ∀ (l : Addr) (ms : List Int), H l = none → ms.Perm ns → ms.Pairwise (· ≤ ·) → Q (.ref l) (upd H l (.lst (ms.map V.int)))
theorem call_sortD {X : Cx} (hc : X.calm = true) : CallR X (.builtin "sorted") rSortD := by
  intro pins s σ H xs us Q I r h
  obtain ⟨p, kvs, ns, rfl, e, hk, h64, q⟩ := h
  obtain ⟨u, rfl, rx⟩ := vals1 r
  cases rx
  obtain ⟨z, lo, vs', rel, dd⟩ := dk_of I.hok e
  obtain ⟨ep, hat⟩ := dd.dictAt
  have hkl := rel.length
  refine Calls.call_function_entry kind_sorted plain_sorted entry_sorted (args_sorted1 _) ?_
  unfold Builtin.«sorted»
  refine wpAny_bind (m := checkCount "sorted" 1 1 _) (wpAny_pure ?_)
  refine wpAny_bind (PySem.W.kdu_collect (PySem.W.kdl_dict (knd := mixKind X.prog X.w) (kvs := vs') (ep := ep) lo) (I.ok.hd hc) hat (by omega) fun h' tk acc hkp hacc => ?_)
  have hl : acc.toList.length = vs'.length := by rw [Array.length_toList]; exact hacc.1
  have hI : IntsAre acc.toList ns := keys_ints rel hk hl fun j v ej => hacc.2 j v (by rw [← Array.getElem?_toList]; exact ej)
  have hnl : ns.length = kvs.length := by
    have := congrArg List.length hk
    simpa using this.symm
  refine wpAny_bind (wpAny_newList ?_ (by omega))
  have hoL : (h'.push (seqObj "list" acc.toList.toArray 0)).get? h'.objs.size = some (seqObj "list" acc.toList.toArray 0) := Heap.get?_push_size _ rfl
  show wpAny _ _ _ _ _ { s with heap := h'.push (seqObj "list" acc.toList.toArray 0), toks := tk }
  refine wpAny_bind (wpAny_holding (wpAny_call_entry slot_list_sort ⟨_, hoL, rfl⟩ entry_list_sort (list_sort_tree hoL hI (by omega) fun out ms a1 a2 a3 => ⟨_, rfl, ?_⟩) (args_list_sort _)))
  refine wpAny_pure ⟨_, rfl, ?_⟩
  have hlt : ∀ b o, h'.get? b = some o → b < h'.objs.size := fun b o eb => Heap.lt_size eb
  have kp : ∀ b o, h'.get? b = some o → (sortedHeap (h'.push (seqObj "list" acc.toList.toArray 0)) h'.objs.size acc.toList out).get? b = some o := fun b o eb => by
    rw [sortedHeap_old (Nat.ne_of_lt (hlt b o eb)) (by rw [size_push']; exact Nat.lt_succ_of_lt (hlt b o eb)), Heap.get?_push_ne _ _ _ (Nat.ne_of_lt (hlt b o eb))]
    exact eb
  obtain ⟨c, hcc⟩ := sortedHeap_at (out := out) hoL
  have hml := a2.length_eq
  have I1 : Inv X pins σ H { s with heap := h', toks := tk } := I.kept hkp
  refine ⟨.ref h'.objs.size, _, I1.laid (t' := tk) kp (Nat.le_refl _) (show ObjOk X.prog X.w _ _ _ (.lst (ms.map V.int)) from ⟨?_, out.toList, c, vals_ints a1, ?_⟩), rfl, q _ ms (I1.hok.fresh (Nat.le_refl _)) a2 a3⟩
  · rw [List.length_map, hml]; exact Nat.le_trans (Nat.le_of_lt h64) (by decide)
  · rw [hcc]
end L2

set_option Elab.async false
set_option linter.all false
set_option maxRecDepth 100000
set_option maxHeartbeats 1000000
namespace L2
open PySem PySem.Spec PyProof.Rows

/-! ### == and != of data -/
mutual
def eqP : Dt → Dt → Bool
  | .non, .non => true
  | .bl a, .bl b => a == b
  | .bl a, .int b => (if a then 1 else 0) == b
  | .int a, .bl b => a == (if b then 1 else 0)
  | .int a, .int b => a == b
  | .str a, .str b => a == b
  | .tup a, .tup b => eqPs a b
  | .lst a, .lst b => eqPs a b
  | _, _ => false
def eqPs : List Dt → List Dt → Bool
  | [], [] => true
  | a :: r, b :: t => eqP a b && eqPs r t
  | _, _ => false
end
mutual
def depP : Dt → Nat
  | .tup a => depPs a + 1
  | .lst a => depPs a + 1
  | _ => 0
def depPs : List Dt → Nat
  | [] => 0
  | a :: r => max (depP a) (depPs r)
end
/-- the items' answers by their places -/
def eqAtN (a b : List Dt) (j : Nat) : Bool := match a[j]?, b[j]? with
  | some x, some y => eqP x y
  | _, _ => false
theorem eqPs_len : ∀ {a b : List Dt}, a.length ≠ b.length → eqPs a b = false
  | [], [], h => absurd rfl h
  | [], _ :: _, _ => by simp [eqPs]
  | _ :: _, [], _ => by simp [eqPs]
  | x :: a, y :: b, h => by
    rw [eqPs, eqPs_len (by simpa using h), Bool.and_false]
theorem range_all : ∀ (n : Nat) (f : Nat → Bool), (List.range (n + 1)).all f = (f 0 && (List.range n).all fun j => f (j + 1)) := fun n f => by
  rw [List.range_succ_eq_map, List.all_cons, List.all_map]
  rfl
theorem eqPs_range : ∀ {a b : List Dt}, a.length = b.length → eqPs a b = (List.range a.length).all (eqAtN a b)
  | [], [], _ => by rw [eqPs]; rfl
  | [], _ :: _, h => by simp at h
  | _ :: _, [], h => by simp at h
  | x :: a, y :: b, h => by
    rw [eqPs, eqPs_range (a := a) (b := b) (by simpa using h), List.length_cons, range_all]
    rfl
theorem depPs_at : ∀ {a : List Dt} {j : Nat} {d : Dt}, a[j]? = some d → depP d ≤ depPs a
  | [], _, _, h => by simp at h
  | x :: a, 0, d, h => by
    simp at h; subst h
    rw [depPs]; omega
  | x :: a, j + 1, d, h => by
    have := depPs_at (a := a) (j := j) (by simpa using h)
    rw [depPs]; omega
/-- a flat value -/
def flatD : Dt → Option V
  | .non => some .non
  | .bl b => some (.bl b)
  | .int i => some (.int i)
  | .str x => some (.str x)
  | _ => none
theorem eqP_flat {d e : Dt} {x y : V} (hd : flatD d = some x) (he : flatD e = some y) : eqP d e = eqV x y := by
  cases d <;> cases e <;> simp only [flatD, Option.some.injEq, reduceCtorEq] at hd he <;> subst hd <;> subst he <;> simp [eqP, eqV]
theorem rep_flat {H : Hp} {d : Dt} {x v : V} (hd : flatD d = some x) (h : Rep H d v) : v = x ∧ flatV x = true := by
  cases d <;> simp only [flatD, Option.some.injEq, reduceCtorEq] at hd <;> subst hd <;> rw [Rep] at h <;> exact ⟨h, rfl⟩
section
variable {X : Cx} {pins : List (Addr × Obj)} {σ : St} {H : Hp} {s : Shared}
theorem Inv.tupE (I : Inv X pins σ H s) {a : Addr} {vs : List V} (e : H a = some (.tup vs)) : ∃ its : List Value, Vals vs its ∧ s.heap.IsTuple a its.toArray := by
  obtain ⟨its, r, p, _⟩ := I.tuple (SqT.of e)
  exact ⟨its, r, p⟩
theorem Inv.lstE (I : Inv X pins σ H s) {a : Addr} {vs : List V} (e : H a = some (.lst vs)) : ∃ its : List Value, Vals vs its ∧ s.heap.IsList a its.toArray := by
  obtain ⟨its, r, p, _⟩ := I.list (SqL.of e)
  exact ⟨its, r, p.isList⟩
mutual
theorem eqP_refl : ∀ d : Dt, eqP d d = true
  | .non => by simp [eqP]
  | .bl _ => by simp [eqP]
  | .int _ => by simp [eqP]
  | .str _ => by simp [eqP]
  | .tup a => by rw [eqP]; exact eqPs_refl a
  | .lst a => by rw [eqP]; exact eqPs_refl a
theorem eqPs_refl : ∀ a : List Dt, eqPs a a = true
  | [] => by rw [eqPs]
  | d :: r => by rw [eqPs, eqP_refl d, eqPs_refl r]; rfl
end
mutual
/-- one heap's thing is one datum -/
theorem Rep.inj {H : Hp} : ∀ {d e : Dt} {v : V}, Rep H d v → Rep H e v → d = e
  | .non, e, v, h1, h2 => by rw [Rep] at h1; subst h1; cases e <;> simp [Rep] at h2 ⊢
  | .bl _, e, v, h1, h2 => by rw [Rep] at h1; subst h1; cases e <;> simp [Rep] at h2 ⊢; exact h2
  | .int _, e, v, h1, h2 => by rw [Rep] at h1; subst h1; cases e <;> simp [Rep] at h2 ⊢; exact h2
  | .str _, e, v, h1, h2 => by rw [Rep] at h1; subst h1; cases e <;> simp [Rep] at h2 ⊢; exact h2
  | .tup ds, e, v, h1, h2 => by
    rw [Rep] at h1
    obtain ⟨a, vs, rfl, q, r⟩ := h1
    cases e with
    | tup es =>
      rw [Rep] at h2
      obtain ⟨a', vs', e', q', r'⟩ := h2
      cases e'
      rw [q] at q'; cases q'
      rw [Reps.inj r r']
    | lst es =>
      rw [Rep] at h2
      obtain ⟨a', vs', e', q', r'⟩ := h2
      cases e'
      rw [q] at q'; cases q'
    | non => rw [Rep] at h2; cases h2
    | bl _ => rw [Rep] at h2; cases h2
    | int _ => rw [Rep] at h2; cases h2
    | str _ => rw [Rep] at h2; cases h2
  | .lst ds, e, v, h1, h2 => by
    rw [Rep] at h1
    obtain ⟨a, vs, rfl, q, r⟩ := h1
    cases e with
    | lst es =>
      rw [Rep] at h2
      obtain ⟨a', vs', e', q', r'⟩ := h2
      cases e'
      rw [q] at q'; cases q'
      rw [Reps.inj r r']
    | tup es =>
      rw [Rep] at h2
      obtain ⟨a', vs', e', q', r'⟩ := h2
      cases e'
      rw [q] at q'; cases q'
    | non => rw [Rep] at h2; cases h2
    | bl _ => rw [Rep] at h2; cases h2
    | int _ => rw [Rep] at h2; cases h2
    | str _ => rw [Rep] at h2; cases h2
theorem Reps.inj {H : Hp} : ∀ {ds es : List Dt} {vs : List V}, Reps H ds vs → Reps H es vs → ds = es
  | [], es, vs, h1, h2 => by
    rw [Reps] at h1; subst h1
    cases es with
    | nil => rfl
    | cons e es => rw [Reps] at h2; obtain ⟨_, _, z, _⟩ := h2; cases z
  | d :: ds, es, vs, h1, h2 => by
    rw [Reps] at h1
    obtain ⟨v, r, rfl, q1, q2⟩ := h1
    cases es with
    | nil => rw [Reps] at h2; cases h2
    | cons e es =>
      rw [Reps] at h2
      obtain ⟨v', r', z, p1, p2⟩ := h2
      cases z
      rw [Rep.inj q1 p1, Reps.inj q2 p2]
end
theorem eqP_ref_flat {d e : Dt} (hd : flatD d = none) {y : V} (he : flatD e = some y) : eqP d e = false ∧ eqP e d = false := by
  cases d <;> cases e <;> simp only [flatD, Option.some.injEq, reduceCtorEq] at hd he <;> simp [eqP]
theorem eqAt_D : ∀ (n : Nat) {A : Around} (I : Inv X pins σ H s) {d e : Dt} {x y : V} {u v : Value}, depP d ≤ n → A.units + n < cLine → Rep H d x → Rep H e y → RelV x u → RelV y v → SeqAt.EqAt A s u v (eqP d e) := by
  intro n
  induction n with
  | zero =>
    intro A I d e x y u v hn hu rd re rx ry
    have hf : ∃ z, flatD d = some z := by
      cases d <;> simp only [depP, flatD] at hn ⊢ <;> first | exact ⟨_, rfl⟩ | omega
    obtain ⟨z, hz⟩ := hf
    obtain ⟨rfl, fz⟩ := rep_flat hz rd
    cases he : flatD e with
    | some y' =>
      obtain ⟨rfl, fy⟩ := rep_flat he re
      rw [eqP_flat hz he]
      exact eqAt_V rx ry fz fy
    | none =>
      rw [(eqP_ref_flat he hz).2]
      have hu0 : A.units < cLine := by omega
      cases e <;> simp only [flatD, reduceCtorEq] at he
      · rw [Rep] at re
        obtain ⟨a, vs, rfl, q, _⟩ := re
        cases ry
        obtain ⟨its, _, p⟩ := I.tupE q
        cases d <;> simp only [flatD, Option.some.injEq, reduceCtorEq] at hz <;> subst hz
        · cases rx; exact SeqAt.EqAt.none_tuple p hu0
        · cases rx; exact SeqAt.EqAt.bool_tuple _ p hu0
        · obtain ⟨t, rfl⟩ := rx; exact SeqAt.EqAt.int_tuple _ _ p hu0
        · obtain ⟨t, rfl⟩ := rx; exact SeqAt.EqAt.str_tuple _ _ p hu0
      · rw [Rep] at re
        obtain ⟨a, vs, rfl, q, _⟩ := re
        cases ry
        obtain ⟨its, _, p⟩ := I.lstE q
        cases d <;> simp only [flatD, Option.some.injEq, reduceCtorEq] at hz <;> subst hz
        · cases rx; exact SeqAt.EqAt.none_list p hu0
        · cases rx; exact SeqAt.EqAt.bool_list _ p hu0
        · obtain ⟨t, rfl⟩ := rx; exact SeqAt.EqAt.int_list _ _ p hu0
        · obtain ⟨t, rfl⟩ := rx; exact SeqAt.EqAt.str_list _ _ p hu0
  | succ n ih =>
    intro A I d e x y u v hn hu rd re rx ry
    have hu0 : A.units < cLine := by omega
    have items : ∀ {ds es : List Dt} {vs ws : List V} {its its2 : List Value}, depPs ds ≤ n → Reps H ds vs → Reps H es ws → Vals vs its → Vals ws its2 →
        ∀ j (h1 : j < its.toArray.size) (h2 : j < its2.toArray.size), SeqAt.EqAt A.in1 s its.toArray[j] its2.toArray[j] (eqAtN ds es j) := by
      intro ds es vs ws its its2 hdp r1 r2 w1 w2 j h1 h2
      rw [List.size_toArray] at h1 h2
      have l1 := w1.length
      have l2 := w2.length
      obtain ⟨u', e1, q1⟩ := w1.get (i := j) (x := vs[j]'(by omega)) (List.getElem?_eq_getElem _)
      obtain ⟨v', e2, q2⟩ := w2.get (i := j) (x := ws[j]'(by omega)) (List.getElem?_eq_getElem _)
      obtain ⟨d', f1, g1⟩ := r1.at (i := j) (List.getElem?_eq_getElem (by omega))
      obtain ⟨e', f2, g2⟩ := r2.at (i := j) (List.getElem?_eq_getElem (by omega))
      rw [List.getElem?_eq_getElem h1] at e1
      rw [List.getElem?_eq_getElem h2] at e2
      cases e1; cases e2
      have hj : eqAtN ds es j = eqP d' e' := by unfold eqAtN; rw [f1, f2]
      rw [hj]
      have := depPs_at f1
      exact ih (A := A.in1) I (by omega) (by show A.units + 1 + n < cLine; omega) g1 g2 q1 q2
    cases hf : flatD d with
    | some z =>
      refine ih I ?_ (by omega) rd re rx ry
      cases d <;> simp only [flatD, reduceCtorEq] at hf <;> simp [depP]
    | none =>
      cases he : flatD e with
      | some y' =>
        rw [(eqP_ref_flat hf he).1]
        obtain ⟨rfl, fy⟩ := rep_flat he re
        cases d <;> simp only [flatD, reduceCtorEq] at hf
        · rw [Rep] at rd
          obtain ⟨a, vs, rfl, q, _⟩ := rd
          cases rx
          obtain ⟨its, _, p⟩ := I.tupE q
          cases e <;> simp only [flatD, Option.some.injEq, reduceCtorEq] at he <;> subst he
          · cases ry; exact SeqAt.EqAt.tuple_none p hu0
          · cases ry; exact SeqAt.EqAt.tuple_bool _ p hu0
          · obtain ⟨t, rfl⟩ := ry; exact SeqAt.EqAt.tuple_int _ _ p hu0
          · obtain ⟨t, rfl⟩ := ry; exact SeqAt.EqAt.tuple_str _ _ p hu0
        · rw [Rep] at rd
          obtain ⟨a, vs, rfl, q, _⟩ := rd
          cases rx
          obtain ⟨its, _, p⟩ := I.lstE q
          cases e <;> simp only [flatD, Option.some.injEq, reduceCtorEq] at he <;> subst he
          · cases ry; exact SeqAt.EqAt.list_none p hu0
          · cases ry; exact SeqAt.EqAt.list_bool _ p hu0
          · obtain ⟨t, rfl⟩ := ry; exact SeqAt.EqAt.list_int _ _ p hu0
          · obtain ⟨t, rfl⟩ := ry; exact SeqAt.EqAt.list_str _ _ p hu0
      | none =>
        cases d <;> simp only [flatD, reduceCtorEq] at hf <;> cases e <;> simp only [flatD, reduceCtorEq] at he
        · rename_i ds es
          have hn' : depPs ds ≤ n := by rw [depP] at hn; omega
          have rd0 := rd
          have re0 := re
          rw [Rep] at rd
          rw [Rep] at re
          obtain ⟨a, vs, rfl, q, r1⟩ := rd
          obtain ⟨b, ws, rfl, q2, r2⟩ := re
          cases rx; cases ry
          by_cases hab : a = b
          · subst hab
            rw [Rep.inj rd0 re0, eqP_refl]
            exact SeqAt.EqAt.same _
          · obtain ⟨its, w1, p1⟩ := I.tupE q
            obtain ⟨its2, w2, p2⟩ := I.tupE q2
            have k := SeqAt.RcAt.tuples p1 p2 hu0 (items hn' r1 r2 w1 w2)
            have e0 : ((List.range (min its.toArray.size its2.toArray.size)).all (eqAtN ds es) && its.toArray.size == its2.toArray.size) = eqP (.tup ds) (.tup es) := by
              have l1 := w1.length
              have l2 := w2.length
              have l3 := r1.len
              have l4 := r2.len
              rw [eqP, List.size_toArray, List.size_toArray]
              by_cases hl : ds.length = es.length
              · rw [eqPs_range hl, ← l1, ← l2, l3, l4, hl, Nat.min_self]
                simp
              · rw [eqPs_len hl]
                have : (its.length == its2.length) = false := by
                  rw [beq_eq_false_iff_ne]; omega
                rw [this, Bool.and_false]
            rw [e0] at k
            exact .of_refs hab k
        · rename_i ds es
          rw [Rep] at rd
          rw [Rep] at re
          obtain ⟨a, vs, rfl, q, r1⟩ := rd
          obtain ⟨b, ws, rfl, q2, r2⟩ := re
          cases rx; cases ry
          obtain ⟨its, w1, p1⟩ := I.tupE q
          obtain ⟨its2, w2, p2⟩ := I.lstE q2
          have : eqP (.tup ds) (.lst es) = false := by simp [eqP]
          rw [this]
          exact SeqAt.EqAt.tuple_list p1 p2 hu0
        · rename_i ds es
          rw [Rep] at rd
          rw [Rep] at re
          obtain ⟨a, vs, rfl, q, r1⟩ := rd
          obtain ⟨b, ws, rfl, q2, r2⟩ := re
          cases rx; cases ry
          obtain ⟨its, w1, p1⟩ := I.lstE q
          obtain ⟨its2, w2, p2⟩ := I.tupE q2
          have : eqP (.lst ds) (.tup es) = false := by simp [eqP]
          rw [this]
          exact SeqAt.EqAt.list_tuple p1 p2 hu0
        · rename_i ds es
          have hn' : depPs ds ≤ n := by rw [depP] at hn; omega
          have rd0 := rd
          have re0 := re
          rw [Rep] at rd
          rw [Rep] at re
          obtain ⟨a, vs, rfl, q, r1⟩ := rd
          obtain ⟨b, ws, rfl, q2, r2⟩ := re
          cases rx; cases ry
          by_cases hab : a = b
          · subst hab
            rw [Rep.inj rd0 re0, eqP_refl]
            exact SeqAt.EqAt.same _
          · obtain ⟨its, w1, p1⟩ := I.lstE q
            obtain ⟨its2, w2, p2⟩ := I.lstE q2
            have l1 := w1.length
            have l2 := w2.length
            have l3 := r1.len
            have l4 := r2.len
            refine .of_refs hab ?_
            rw [eqP]
            by_cases hl : ds.length = es.length
            · rw [eqPs_range hl]
              have k := SeqAt.RcAt.lists p1 p2 (by rw [List.size_toArray, List.size_toArray]; omega) hu0 (items hn' r1 r2 w1 w2)
              rw [List.size_toArray, ← l1, l3] at k
              exact k
            · rw [eqPs_len hl]
              exact SeqAt.RcAt.lists_lengths p1 p2 (by rw [List.size_toArray, List.size_toArray]; simp; omega) hu0
end
end L2

set_option Elab.async false
set_option linter.all false
set_option maxRecDepth 100000
set_option maxHeartbeats 1000000
namespace L2
open PySem PySem.Spec PyProof.Rows

/-! ### max(numbers, default=d) -/
section
variable {prog : Program} {w : World} {A : Around} {R : Result → Shared → Prop} {I : Addr} {fp wr : List Addr} {n : Nat} {P : Nat → Value → Prop} {St : Nat → Heap → Prop}
def Best (val : Nat → Int) (n : Nat) (m : Int) : Prop := (∃ i, i < n ∧ m = val i) ∧ ∀ i, i < n → val i ≤ m
theorem Best.up {val : Nat → Int} {j : Nat} {m : Int} (h : Best val j m) (hb : val j > m) : Best val (j + 1) (val j) :=
  ⟨⟨j, Nat.lt_succ_self _, rfl⟩, fun i hi => by
    rcases Nat.lt_succ_iff_lt_or_eq.mp hi with z | z
    · have := h.2 i z; omega
    · rw [z]; exact Int.le_refl _⟩
theorem Best.keep {val : Nat → Int} {j : Nat} {m : Int} (h : Best val j m) (hb : ¬ val j > m) : Best val (j + 1) m :=
  ⟨let ⟨i, hi, e⟩ := h.1; ⟨i, Nat.lt_succ_of_lt hi, e⟩, fun i hi => by
    rcases Nat.lt_succ_iff_lt_or_eq.mp hi with z | z
    · exact h.2 i z
    · rw [z]; omega⟩
theorem max_name : (toString "max" ++ toString ".loop" : String) = "max.loop" := by decide
theorem max_loop_kw (W : Walks prog w A.in1 I fp wr n P St) (val : Nat → Int) (hval : ∀ i v, P i v → ∃ t : Tok, v = Value.int (val i) t) (kw : List (Str × Value)) (S : Addr) (hSf : S ∉ fp) :
    ∀ (k j : Nat) (s : Shared) (m : Int) (t : Tok) (c : Nat), n - j = k → j ≤ n → St j s.heap → Best val j m →
    s.heap.get? S = some { cls := .type "list", dict := none, data := .seq #[.int m t, .int m t] c, slots := #[] } →
    (∀ m' t' h' tk, Best val n m' → (∀ b o, b ∉ wr → b ≠ S → s.heap.get? b = some o → h'.get? b = some o) → R (.ok (.ret (.int m' t'))) { s with heap := h', toks := tk }) →
    codeAny (model prog w) A (.builtin "max.loop" ⟨[.ref I, .none, .ref S], kw⟩) R s := by
  have hSw : S ∉ wr := fun z => hSf (W.sub _ z)
  intro k
  induction k with
  | zero =>
    intro j s m t c hk hj hst hb hS hR
    have hin : j = n := by omega
    subst hin
    refine codeAny_builtin PySem.F.entry_max_loop ?_
    rw [Around.under_plainId PySem.F.plain_max_loop _]
    show wpAny _ A.in1 (seqItems? (.ref S) >>= _) _ _ s
    refine wpAny_bind (wpAny_seqItems hS rfl ?_)
    show wpAny _ A.in1 (tryCatch (pyNext (.ref I)) _ >>= _) _ _ s
    refine wpAny_bind (wpAny_tryCatch (W.done s _ _ hst fun h' tk kp => ?_))
    have hS' := kp S _ hSw hS
    show wpAny _ A.in1 (updateSeq S (fun _ => #[]) >>= _) _ _ _
    refine wpAny_bind ?_
    refine wpAny_updateSeq hS' rfl (wpAny_bind (wpAny_letGo (wpAny_pure ?_)))
    exact hR m t _ tk hb fun b o hbw hbS e => (Heap.get?_update_other _ _ (Ne.symm hbS)).trans (kp b o hbw e)
  | succ k ih =>
    intro j s m t c hk hj hst hb hS hR
    have hlt : j < n := by omega
    refine codeAny_builtin PySem.F.entry_max_loop ?_
    rw [Around.under_plainId PySem.F.plain_max_loop _]
    show wpAny _ A.in1 (seqItems? (.ref S) >>= _) _ _ s
    refine wpAny_bind (wpAny_seqItems hS rfl ?_)
    show wpAny _ A.in1 (tryCatch (pyNext (.ref I)) _ >>= _) _ _ s
    refine wpAny_bind (wpAny_tryCatch (W.item j s _ _ hlt hst fun v h' tk hP hst' kp => ?_))
    obtain ⟨t', rfl⟩ := hval j v hP
    have hS' := kp S _ hSw hS
    show wpAny _ A.in1 (tryCatch (holding [.int (val j) t', .int (val j) t'] (richCompare .Gt (.int (val j) t') (.int m t) >>= _)) _ >>= _) _ _ _
    refine wpAny_bind (wpAny_tryCatch (wpAny_holding (wpAny_bind (gt_int ?_))))
    refine wpAny_bind (wpAny_holding (wpAny_truthy_bool ?_))
    refine wpAny_bind (wpAny_letGo (wpAny_pure ?_))
    by_cases hc : val j > m
    · rw [decide_eq_true (show m < val j from hc)]
      simp only [if_true]
      refine wpAny_bind ?_
      refine wpAny_updateSeq hS' rfl (wpAny_bind (wpAny_letGo ?_))
      rw [max_name]
      refine wpAny_pure ⟨plainId_quiet PySem.F.plain_max_loop _, ih (j + 1) _ (val j) t' _ (by omega) hlt (W.frame _ _ _ hst' fun b hbf o e => ?_) (hb.up hc) (Heap.get?_update_self _ hS' rfl) fun m' u h'' tk'' hB k'' => ?_⟩
      · exact (Heap.get?_update_other _ _ (fun z : S = b => hSf (by rw [z]; exact hbf))).trans e
      · exact hR m' u h'' tk'' hB fun b o hbw hbS e => k'' b o hbw hbS ((Heap.get?_update_other _ _ (Ne.symm hbS)).trans (kp b o hbw e))
    · rw [decide_eq_false (show ¬ m < val j from hc)]
      simp only [Bool.false_eq_true, if_false]
      refine wpAny_bind (wpAny_letGo ?_)
      rw [max_name]
      refine wpAny_pure ⟨plainId_quiet PySem.F.plain_max_loop _, ih (j + 1) _ m t c (by omega) hlt hst' (hb.keep hc) hS' fun m' u h'' tk'' hB k'' => ?_⟩
      exact hR m' u h'' tk'' hB fun b o hbw hbS e => k'' b o hbw hbS (kp b o hbw e)
end
section
variable {X : Cx}
theorem args_max_default (a d : Value) : argsOk "max" ⟨[a], [(Str.ofString "default", d)]⟩ := by unfold argsOk; kernel_rfl
/-- a list of numbers, and what is told where there are none -/
def rMaxD : List V → List V → Hp → VK → Prop := fun vs zs H Q => ∃ (p : Addr) (ns : List Int) (d : Int), vs = [.ref p] ∧ zs = [.int d] ∧ H p = some (.lst (ns.map V.int)) ∧
  ∀ m, (ns = [] → m = d) → (ns ≠ [] → m ∈ ns) → (∀ x ∈ ns, x ≤ m) → Q (.int m) H
theorem call_maxD (hc : X.calm = true) : ∀ (pins : List (Addr × Obj)) (s : Shared) (σ : St) (H : Hp) (xs zs : List V) (us ws : List Value) (Q : VK), Inv X pins σ H s → Vals xs us → Vals zs ws → rMaxD xs zs H Q →
    wpAny (model X.prog X.w) X.A (call (.builtin "max") us ([Str.ofString "default"].zip ws)) (EP X pins σ Q) X.xe s := by
  intro pins s σ H xs zs us ws Q I r rz h
  obtain ⟨p, ns, d, rfl, rfl, e, q⟩ := h
  obtain ⟨u, rfl, rx⟩ := vals1 r
  cases rx
  obtain ⟨dv, rfl, td, rfl⟩ := vals1 rz
  obtain ⟨z, its, c, r', hlen, e'⟩ := I.lstM e
  have hI := intsAre_of r'
  have plt : p < s.heap.objs.size := Heap.lt_size e'
  have hL : s.heap.IsList p its.toArray := ⟨_, e', rfl, _, rfl⟩
  refine kmk_tree PySem.F.kind_max PySem.F.plain_max PySem.F.entry_max (args_max_default _ _) ?_
  show wpAny _ X.A.in1 (Builtin.Builtins.bindParams "max" ["key", "default"] 0 ⟨[], [(Str.ofString "default", .int d td)]⟩ >>= _) _ _ s
  refine wpAny_bind (wpAny_of_eq (show Builtin.Builtins.bindParams "max" ["key", "default"] 0 ⟨[], [(Str.ofString "default", .int d td)]⟩ = pure [none, some (.int d td)] from rfl) ?_)
  refine wpAny_bind (wpAny_pure ?_)
  refine wpAny_bind (wpAny_pyIter_list hL ?_)
  refine wpAny_bind (wpAny_newList ?_ (Nat.zero_le _))
  rw [max_name]
  have hS : (s.heap.push { cls := .type "list_iterator", data := .fields #[.ref p, .int 0 0] }).objs.size = s.heap.objs.size + 1 := size_push' ..
  have W := Walks.list (prog := X.prog) (w := X.w) (A := X.A.in1) (show X.A.in1.handled = none from I.ok.hd hc) s.heap.objs.size p (Nat.ne_of_lt plt) its.toArray
  have hsz : its.toArray.size = ns.length := by rw [List.size_toArray, ← hlen, List.length_map]
  have hval : ∀ (i : Nat) (v : Value), its.toArray[i]? = some v → ∃ t : Tok, v = Value.int (ns[i]?.getD 0) t := fun i v hv => by
    have hv' : its[i]? = some v := by simpa using hv
    have hi : i < ns.length := by
      have := (List.getElem?_eq_some_iff.mp hv').1
      rw [List.length_map] at hlen
      omega
    obtain ⟨u, e1, t, e2⟩ := r'.get (i := i) (x := .int ns[i]) (by rw [List.getElem?_map, List.getElem?_eq_getElem hi]; rfl)
    rw [hv'] at e1
    cases e1
    exact ⟨t, by rw [e2, List.getElem?_eq_getElem hi]; rfl⟩
  have kp0 : ∀ (h' : Heap) (tk : Nat), (∀ b o, b ∉ [s.heap.objs.size] → b ≠ (s.heap.push { cls := .type "list_iterator", data := .fields #[.ref p, .int 0 0] }).objs.size → ((s.heap.push { cls := .type "list_iterator", data := .fields #[.ref p, .int 0 0] }).push { cls := .type "list", data := .seq #[] }).get? b = some o → h'.get? b = some o) →
      Inv X pins σ H { s with heap := h', toks := tk } := fun h' tk k => I.kept fun b o qq => k b o (by
        intro z
        have : b = s.heap.objs.size := by simpa using z
        exact absurd (Heap.lt_size qq) (by rw [this]; exact Nat.lt_irrefl _)) (by rw [hS]; exact Nat.ne_of_lt (Nat.lt_succ_of_lt (Heap.lt_size qq))) (Heap.get?_push_of_some _ (Heap.get?_push_of_some _ qq))
  have hst0 : (fun i (h : Heap) => h.IsListIter s.heap.objs.size p i ∧ h.IsList p its.toArray) 0 ((s.heap.push { cls := .type "list_iterator", data := .fields #[.ref p, .int 0 0] }).push { cls := .type "list", data := .seq #[] }) :=
    ⟨⟨_, Heap.get?_push_of_some _ (Heap.get?_push_size _ rfl), rfl, rfl⟩, (hL.push _).push _⟩
  have hSg : ((s.heap.push { cls := .type "list_iterator", data := .fields #[.ref p, .int 0 0] }).push { cls := .type "list", data := .seq #[] }).get? (s.heap.push { cls := .type "list_iterator", data := .fields #[.ref p, .int 0 0] }).objs.size = some { cls := .type "list", dict := none, data := .seq #[] 0, slots := #[] } := Heap.get?_push_size _ rfl
  have hSf : (s.heap.push { cls := .type "list_iterator", data := .fields #[.ref p, .int 0 0] }).objs.size ∉ [s.heap.objs.size, p] := by
    rw [hS]
    intro z
    rcases List.mem_cons.mp z with z | z
    · exact absurd z (Nat.succ_ne_self _)
    · have z := List.mem_singleton.mp z
      rw [← z] at plt
      exact Nat.lt_irrefl _ (Nat.lt_of_succ_lt plt)
  refine wpAny_pure ⟨plainId_quiet PySem.F.plain_max_loop _, ?_⟩
  refine codeAny_builtin PySem.F.entry_max_loop ?_
  rw [Around.under_plainId PySem.F.plain_max_loop _]
  show wpAny _ X.A.in1 (seqItems? (.ref _) >>= _) _ _ _
  refine wpAny_bind (wpAny_seqItems hSg rfl ?_)
  show wpAny _ X.A.in1 (tryCatch (pyNext (.ref s.heap.objs.size)) _ >>= _) _ _ _
  cases hn : ns with
  | nil =>
    have h0 : its.toArray.size = 0 := by rw [hsz, hn]; rfl
    refine wpAny_bind (wpAny_tryCatch (W.done _ _ _ (by rw [h0]; exact hst0) fun h' tk kp => ?_))
    refine wpAny_bind (wpAny_rule (wpAny_pure ?_))
    exact ⟨.int d, H, kp0 h' tk fun b o h1 _ h3 => kp b o h1 h3, ⟨td, rfl⟩, q d (fun _ => rfl) (fun z => absurd hn z) (by rw [hn]; intro x hx; cases hx)⟩
  | cons n0 rest =>
    have hpos : 0 < its.toArray.size := by rw [hsz, hn]; simp
    refine wpAny_bind (wpAny_tryCatch (W.item 0 _ _ _ hpos hst0 fun v h' tk hP hst' kp => ?_))
    obtain ⟨t', rfl⟩ := hval 0 v hP
    have hS' := kp _ _ (fun z => hSf (List.mem_cons.mpr (.inl (List.mem_singleton.mp z)))) hSg
    show wpAny _ X.A.in1 (updateSeq _ (fun _ => #[_, _]) >>= _) _ _ _
    refine wpAny_bind ?_
    refine wpAny_updateSeq hS' rfl ?_
    rw [max_name]
    refine wpAny_pure ⟨plainId_quiet PySem.F.plain_max_loop _, max_loop_kw W (fun i => ns[i]?.getD 0) hval _ _ hSf _ 1 _ _ t' _ rfl hpos (W.frame _ _ _ hst' fun b hbf o e => ?_) ⟨⟨0, Nat.one_pos, rfl⟩, fun i hi => by
      have : i = 0 := by omega
      subst this; exact Int.le_refl _⟩ (Heap.get?_update_self _ hS' rfl) fun m u h'' tk'' hB k'' => ?_⟩
    · exact (Heap.get?_update_other _ _ (fun z => hSf (by rw [z]; exact hbf))).trans e
    · refine ⟨.int m, H, kp0 h'' tk'' fun b o h1 h2 h3 => k'' b o h1 h2 ((Heap.get?_update_other _ _ (Ne.symm h2)).trans (kp b o h1 h3)), ⟨u, rfl⟩, q m (fun z => by rw [hn] at z; cases z) (fun _ => ?_) fun x hx => ?_⟩
      · obtain ⟨i, hi, e1⟩ := hB.1
        rw [hsz] at hi
        rw [e1]
        show ns[i]?.getD 0 ∈ ns
        rw [List.getElem?_eq_getElem hi]
        exact List.getElem_mem hi
      · obtain ⟨i, hi, e1⟩ := List.mem_iff_getElem.mp hx
        have : ns[i]?.getD 0 ≤ m := hB.2 i (by rw [hsz]; exact hi)
        rw [List.getElem?_eq_getElem hi] at this
        rw [← e1]
        exact this
/-- f(e, k=g): a built-in with one keyword -/
def tCBK (r : List V → List V → Hp → VK → Prop) (t tk : TA) : TE := fun σ H Q => t σ H fun vs H1 => tk σ H1 fun zs H2 => r vs zs H2 Q
theorem pe_callBK {x k : Str} {p kp pos : Pos} {e g : Expr} {t tk : TA} {id : String} {r : List V → List V → Hp → VK → Prop}
    (hcall : ∀ (pins : List (Addr × Obj)) (s : Shared) (σ : St) (H : Hp) (xs zs : List V) (us ws : List Value) (Q : VK), Inv X pins σ H s → Vals xs us → Vals zs ws → r xs zs H Q →
      wpAny (model X.prog X.w) X.A (call (.builtin id) us ([k].zip ws)) (EP X pins σ Q) X.xe s)
    (hg : Gl X x) (hm : X.mg x = none) (hv : bootBuiltins x = some (.builtin id)) (ha : PA X [e] t) (hk : PK X [⟨some k, g, kp⟩] tk) (hn : x ≠ "__name__" := by decide) (hdb : (x == ("__debug__" : Str)) = false := by decide)
    (he : backTo pos (starEach [e] X.env) = (false, eval e X.env) :: backTo pos (starEach [] X.env) := by rfl) (hpl : (backTo pos (starEach [e] X.env)).any (·.1) = false := by rfl) : PE X (.Call (.Name x p) [e] [⟨some k, g, kp⟩] pos) (tCBK r t tk) := by
  intro pins s σ H Q I h
  refine wpAny_Call_Name_kw (ld_blt I hg hm hv ?_ hn hdb)
  refine callWith_kw (thn (ha pos pins s σ H _ I h) fun us s1 ⟨vs, H1, I1, r1, q1⟩ => thn (hk pos pins s1 σ H1 _ I1 q1) fun ws s2 ⟨zs, H2, I2, r2, q2⟩ => ?_) he hpl
  exact hcall pins s2 σ H2 vs zs us ws Q I2 r1 r2 q2
end
end L2

set_option Elab.async false
set_option linter.all false
set_option maxRecDepth 100000
set_option maxHeartbeats 1000000
namespace L2
open PySem PySem.Spec PyProof.Rows
section
variable {X : Cx} {pins : List (Addr × Obj)} {σ : St} {H : Hp} {s : Shared}
theorem items_D (n : Nat) {A : Around} (I : Inv X pins σ H s) {ds es : List Dt} {vs ws : List V} {its its2 : List Value} (hdp : depPs ds ≤ n) (hu : A.units + n < cLine) (r1 : Reps H ds vs) (r2 : Reps H es ws) (w1 : Vals vs its) (w2 : Vals ws its2) :
    ∀ j (h1 : j < its.toArray.size) (h2 : j < its2.toArray.size), SeqAt.EqAt A s its.toArray[j] its2.toArray[j] (eqAtN ds es j) := by
  intro j h1 h2
  rw [List.size_toArray] at h1 h2
  have l1 := w1.length
  have l2 := w2.length
  obtain ⟨u', e1, q1⟩ := w1.get (i := j) (x := vs[j]'(by omega)) (List.getElem?_eq_getElem _)
  obtain ⟨v', e2, q2⟩ := w2.get (i := j) (x := ws[j]'(by omega)) (List.getElem?_eq_getElem _)
  obtain ⟨d', f1, g1⟩ := r1.at (i := j) (List.getElem?_eq_getElem (by omega))
  obtain ⟨e', f2, g2⟩ := r2.at (i := j) (List.getElem?_eq_getElem (by omega))
  rw [List.getElem?_eq_getElem h1] at e1
  rw [List.getElem?_eq_getElem h2] at e2
  cases e1; cases e2
  have hj : eqAtN ds es j = eqP d' e' := by unfold eqAtN; rw [f1, f2]
  rw [hj]
  have := depPs_at f1
  exact eqAt_D n I (by omega) hu g1 g2 q1 q2
theorem tup_answer {ds es : List Dt} {vs ws : List V} {its its2 : List Value} (r1 : Reps H ds vs) (r2 : Reps H es ws) (w1 : Vals vs its) (w2 : Vals ws its2) :
    ((List.range (min its.toArray.size its2.toArray.size)).all (eqAtN ds es) && its.toArray.size == its2.toArray.size) = eqPs ds es := by
  have l1 := w1.length
  have l2 := w2.length
  have l3 := r1.len
  have l4 := r2.len
  rw [List.size_toArray, List.size_toArray]
  by_cases hl : ds.length = es.length
  · rw [eqPs_range hl, ← l1, ← l2, l3, l4, hl, Nat.min_self]
    simp
  · rw [eqPs_len hl]
    have : (its.length == its2.length) = false := by
      rw [beq_eq_false_iff_ne]; omega
    rw [this, Bool.and_false]
/-- x == y, x != y: both lists, or both tuples, of data -/
def rEqD (neg : Bool) : R2 := fun x y H Q => ∃ d e, Rep H d x ∧ Rep H e y ∧ depP d ≤ 20 ∧ ((∃ ds es, d = .lst ds ∧ e = .lst es) ∨ ∃ ds es, d = .tup ds ∧ e = .tup es) ∧ Q (.bl (if neg = true then !eqP d e else eqP d e)) H
theorem op_eqD (hu : X.A.units + 64 < cLine) : OpR X (compareOp .Eq) (rEqD false) := by
  intro pins s σ H x y v u Q I rx ry h
  obtain ⟨d, e, rd, re, hd, hk, q⟩ := h
  have hu0 : X.A.units < cLine := by omega
  rcases hk with ⟨ds, es, rfl, rfl⟩ | ⟨ds, es, rfl, rfl⟩
  · have hn' : depPs ds ≤ 20 := by rw [depP] at hd; omega
    rw [Rep] at rd re
    obtain ⟨a, vs, rfl, q1, r1⟩ := rd
    obtain ⟨b, ws, rfl, q2, r2⟩ := re
    cases rx; cases ry
    obtain ⟨its, w1, p1⟩ := I.lstE q1
    obtain ⟨its2, w2, p2⟩ := I.lstE q2
    have l1 := w1.length
    have l2 := w2.length
    have l3 := r1.len
    have l4 := r2.len
    by_cases hl : ds.length = es.length
    · refine SeqAt.RcAt.lists (e := eqAtN ds es) p1 p2 (by rw [List.size_toArray, List.size_toArray]; omega) hu0 (items_D 20 I hn' (by show X.A.units + 1 + 20 < cLine; omega) r1 r2 w1 w2) _ _ _ _ ⟨.bl _, H, I, rfl, ?_⟩
      rw [List.size_toArray, ← l1, l3, ← eqPs_range hl]
      rw [eqP] at q
      exact q
    · refine SeqAt.RcAt.lists_lengths p1 p2 (by rw [List.size_toArray, List.size_toArray]; simp; omega) hu0 _ _ _ _ ⟨.bl _, H, I, rfl, ?_⟩
      rw [eqP, eqPs_len hl] at q
      exact q
  · have hn' : depPs ds ≤ 20 := by rw [depP] at hd; omega
    rw [Rep] at rd re
    obtain ⟨a, vs, rfl, q1, r1⟩ := rd
    obtain ⟨b, ws, rfl, q2, r2⟩ := re
    cases rx; cases ry
    obtain ⟨its, w1, p1⟩ := I.tupE q1
    obtain ⟨its2, w2, p2⟩ := I.tupE q2
    refine SeqAt.RcAt.tuples (e := eqAtN ds es) p1 p2 hu0 (items_D 20 I hn' (by show X.A.units + 1 + 20 < cLine; omega) r1 r2 w1 w2) _ _ _ _ ⟨.bl _, H, I, rfl, ?_⟩
    rw [tup_answer r1 r2 w1 w2]
    rw [eqP] at q
    exact q
theorem op_neD (hu : X.A.units + 64 < cLine) : OpR X (compareOp .NotEq) (rEqD true) := by
  intro pins s σ H x y v u Q I rx ry h
  obtain ⟨d, e, rd, re, hd, hk, q⟩ := h
  have hu0 : X.A.units < cLine := by omega
  rcases hk with ⟨ds, es, rfl, rfl⟩ | ⟨ds, es, rfl, rfl⟩
  · have hn' : depPs ds ≤ 20 := by rw [depP] at hd; omega
    rw [Rep] at rd re
    obtain ⟨a, vs, rfl, q1, r1⟩ := rd
    obtain ⟨b, ws, rfl, q2, r2⟩ := re
    cases rx; cases ry
    obtain ⟨its, w1, p1⟩ := I.lstE q1
    obtain ⟨its2, w2, p2⟩ := I.lstE q2
    have l1 := w1.length
    have l2 := w2.length
    have l3 := r1.len
    have l4 := r2.len
    by_cases hl : ds.length = es.length
    · refine SeqAt.RcNeAt.lists (e := eqAtN ds es) p1 p2 (by rw [List.size_toArray, List.size_toArray]; omega) hu0 (items_D 20 I hn' (by show X.A.units + 1 + 20 < cLine; omega) r1 r2 w1 w2) _ _ _ _ ⟨.bl _, H, I, rfl, ?_⟩
      rw [List.size_toArray, ← l1, l3, ← eqPs_range hl]
      rw [eqP] at q
      exact q
    · refine SeqAt.RcNeAt.lists_lengths p1 p2 (by rw [List.size_toArray, List.size_toArray]; simp; omega) hu0 _ _ _ _ ⟨.bl _, H, I, rfl, ?_⟩
      rw [eqP, eqPs_len hl] at q
      exact q
  · have hn' : depPs ds ≤ 20 := by rw [depP] at hd; omega
    rw [Rep] at rd re
    obtain ⟨a, vs, rfl, q1, r1⟩ := rd
    obtain ⟨b, ws, rfl, q2, r2⟩ := re
    cases rx; cases ry
    obtain ⟨its, w1, p1⟩ := I.tupE q1
    obtain ⟨its2, w2, p2⟩ := I.tupE q2
    refine SeqAt.RcNeAt.tuples (e := eqAtN ds es) p1 p2 hu0 (items_D 20 I hn' (by show X.A.units + 1 + 20 < cLine; omega) r1 r2 w1 w2) _ _ _ _ ⟨.bl _, H, I, rfl, ?_⟩
    rw [tup_answer r1 r2 w1 w2]
    rw [eqP] at q
    exact q
/-! ### x in a list of data -/
theorem RelV.inj' {x y : V} {u : Value} (h1 : RelV x u) (h2 : RelV y u) : x = y := Option.some.inj (h1.abs.symm.trans h2.abs)
open Classical in
noncomputable def eqW (H : Hp) (d : Dt) (u : Value) : Bool := if h : ∃ c, ∃ x, RelV x u ∧ Rep H c x then eqP h.choose d else false
theorem eqW_of {H : Hp} {d c : Dt} {x : V} {u : Value} (r : RelV x u) (p : Rep H c x) : eqW H d u = eqP c d := by
  unfold eqW
  have h : ∃ c, ∃ x, RelV x u ∧ Rep H c x := ⟨c, x, r, p⟩
  rw [dif_pos h]
  obtain ⟨y, r2, p2⟩ := h.choose_spec
  have := RelV.inj' r r2
  subst this
  rw [Rep.inj p2 p]
theorem any_eqW {H : Hp} {d : Dt} : ∀ {cs : List Dt} {xs : List V} {us : List Value}, Reps H cs xs → Vals xs us → us.any (eqW H d) = cs.any fun c => eqP c d
  | [], _, _, h, r => by
    rw [Reps] at h; subst h
    cases r
    rfl
  | c :: cs, _, _, h, r => by
    rw [Reps] at h
    obtain ⟨v, t, rfl, h1, h2⟩ := h
    cases r with
    | cons r1 r2 => rw [List.any_cons, List.any_cons, eqW_of r1 h1, any_eqW h2 r2]
def rInD (neg : Bool) : R2 := fun x y H Q => ∃ (d : Dt) (p : Addr) (xs : List V) (cs : List Dt), Rep H d x ∧ y = .ref p ∧ H p = some (.lst xs) ∧ Reps H cs xs ∧ depPs cs ≤ 20 ∧ Q (.bl (if neg = true then !cs.any (fun c => eqP c d) else cs.any fun c => eqP c d)) H
theorem in_items (hu : X.A.units + 64 < cLine) (I : Inv X pins σ H s) {d : Dt} {x : V} {v : Value} {cs : List Dt} {xs : List V} {its : List Value} (rd : Rep H d x) (rx : RelV x v) (rc : Reps H cs xs) (r : Vals xs its) (hd : depPs cs ≤ 20) :
    ∀ y, y ∈ its.toArray → SeqAt.EqAt X.A.in1 s y v (eqW H d y) := by
  intro y hy
  have hy' : y ∈ its := by simpa using hy
  obtain ⟨j, hj, e⟩ := List.mem_iff_getElem.mp hy'
  have l1 := r.length
  obtain ⟨u', e1, q1⟩ := r.get (i := j) (x := xs[j]'(by omega)) (List.getElem?_eq_getElem _)
  obtain ⟨c, f1, g1⟩ := rc.at (i := j) (List.getElem?_eq_getElem (by omega))
  rw [List.getElem?_eq_getElem hj] at e1
  cases e1
  rw [← e, eqW_of q1 g1]
  have := depPs_at f1
  exact eqAt_D 20 I (by omega) (by show X.A.units + 1 + 20 < cLine; omega) g1 rd q1 rx
theorem op_inD (hu : X.A.units + 64 < cLine) : OpR X (compareOp .In) (rInD false) := by
  intro pins s σ H x y v u Q I rx ry h
  obtain ⟨d, p, xs, cs, rd, rfl, e, rc, hd, q⟩ := h
  cases ry
  obtain ⟨its, r, pl⟩ := I.lstE e
  refine SeqAt.in_listAt (eqW H d) pl (in_items hu I rd rx rc r hd) ⟨.bl _, H, I, rfl, ?_⟩
  rw [show its.toArray.any (eqW H d) = its.any (eqW H d) by simp, any_eqW rc r]
  exact q
theorem op_notinD (hu : X.A.units + 64 < cLine) : OpR X (compareOp .NotIn) (rInD true) := by
  intro pins s σ H x y v u Q I rx ry h
  obtain ⟨d, p, xs, cs, rd, rfl, e, rc, hd, q⟩ := h
  cases ry
  obtain ⟨its, r, pl⟩ := I.lstE e
  refine SeqAt.notIn_listAt (eqW H d) pl (in_items hu I rd rx rc r hd) ⟨.bl _, H, I, rfl, ?_⟩
  rw [show its.toArray.any (eqW H d) = its.any (eqW H d) by simp, any_eqW rc r]
  exact q
end
end L2

set_option Elab.async false
set_option linter.all false
set_option maxRecDepth 100000
set_option maxHeartbeats 1000000
namespace L2
open PySem PySem.Spec PyProof.Rows
/-! ### dicts by numbers: d[k] = v, d.get(k, z); lists: +, clear; tuples: slices; int(truth): readings that compute -/
section
variable {X : Cx} {o i e f value : Expr} {td ty tv tx : TE} {pos pos' apos cpos : Pos}
def sDPutF (td ty tv : TE) : TS := fun D σ H => tv σ H fun v H1 => td σ H1 fun x H2 => ty σ H2 fun y H3 => match x, y with
  | .ref a, .int n => match H3 a with
    | some (.dK kvs) => kvs.length < sizeLine ∧ D.nx σ (upd H3 a (.dK (putK kvs (Sum.inl n : Key) v)))
    | _ => False
  | _, _ => False
theorem dput_r {x y : V} {H3 : Hp} {R : List (Key × V) → Addr → Int → Prop} (h : match x, y with
  | .ref a, .int n => match H3 a with
    | some (.dK kvs) => R kvs a n
    | _ => False
  | _, _ => False) : ∃ a n kvs, x = .ref a ∧ y = .int n ∧ H3 a = some (.dK kvs) ∧ R kvs a n := by
  split at h
  · split at h
    · rename_i e; exact ⟨_, _, _, rfl, rfl, e, h⟩
    · exact h.elim
  · exact h.elim
theorem dget2_r {y : V} {a : Addr} {H3 : Hp} {R : List (Key × V) → Int → Prop} (h : match y with
  | .int n => match H3 a with
    | some (.dK kvs) => R kvs n
    | _ => False
  | _ => False) : ∃ n kvs, y = .int n ∧ H3 a = some (.dK kvs) ∧ R kvs n := by
  split at h
  · split at h
    · rename_i e; exact ⟨_, _, rfl, e, h⟩
    · exact h.elim
  · exact h.elim
theorem q_dput (hu : X.A.units + 1 < cLine) (ho : PE X o td) (hi : PE X i ty) (hv : PE X value tv) (hs : swapsWith value (some (.Subscript o i pos')) pos.line X.env = pure false := by rfl) :
    PS X (.Assign [.Subscript o i pos'] value pos) (sDPutF td ty tv) := by
  intro pins s σ H D I h
  refine wpAny_Assign_Subscript (thn (hv pins s σ H _ I h) fun r s1 ⟨v, H1, I1, rv, q1⟩ => thn (ho pins s1 σ H1 _ I1 q1) fun u s2 ⟨x, H2, I2, rx, q2⟩ => thn (hi pins s2 σ H2 _ I2 q2) fun iv s3 ⟨y, H3, I3, ry, q3⟩ => ?_) hs
  obtain ⟨a, n, kvs, rfl, rfl, ea, q4, q5⟩ := dput_r (R := fun kvs a n => kvs.length < sizeLine ∧ D.nx σ (upd H3 a (.dK (putK kvs (Sum.inl n : Key) v)))) q3
  obtain rfl : u = Value.ref a := rx
  exact d_setItem hu I3 (DPut.k (k := Sum.inl n) ea q4) ry rv fun s4 I4 => ⟨σ, _, I4, q5⟩
def fDGet2 (td ty tx : TE) : TE := fun σ H Q => td σ H fun x H1 => match x with
  | .ref a => (∃ kvs, H1 a = some (.dK kvs)) ∧ ty σ H1 fun y H2 => tx σ H2 fun z H3 => match y with
    | .int n => match H3 a with
      | some (.dK kvs) => Q ((valV kvs (Sum.inl n : Key)).getD z) H3
      | _ => False
    | _ => False
  | _ => False
theorem q_dget2 (hu : X.A.units + 1 < cLine) (ho : PE X o td) (he : PE X e ty) (hf : PE X f tx) (m : M2 X o "get" apos e f cpos := by exact ⟨rfl, rfl, rfl, rfl⟩) : PE X (.Call (.Attribute o "get" apos) [e, f] [] cpos) (fDGet2 td ty tx) := by
  intro pins s σ H Q I h
  refine wpAny_Call_method m.base m.few m.line PySem.F.plainAttrs_dict PySem.F.slot_dict_get PySem.F.type_dict_get (thn (ho pins s σ H _ I h) fun u s1 ⟨x, H1, I1, rx, q1⟩ => ?_)
  cases x <;> first
    | exact False.elim q1
    | (rename_i a
       dsimp only at q1
       obtain ⟨⟨kvs0, e0⟩, q1⟩ := q1
       obtain rfl : u = Value.ref a := rx
       obtain ⟨t1, t2, _⟩ := isD_at I1 (.inl ⟨kvs0, .inl e0⟩)
       refine ⟨t1, t2, ?_⟩
       rw [m.trees]
       refine Calls.callWith_builtin rfl (Calls.evalArgs_plain (Calls.spliced_cons (thn (he pins s1 σ H1 _ I1 q1) fun iv s2 ⟨y, H2, I2, ry, q2⟩ =>
         Calls.spliced_cons (thn (hf pins s2 σ H2 _ I2 q2) fun fv s3 ⟨z, H3, I3, rz, q3⟩ => Calls.spliced_nil ?_))))
       obtain ⟨n, kvs, rfl, ea, q4⟩ := dget2_r (R := fun kvs n => Q ((valV kvs (Sum.inl n : Key)).getD z) H3) q3
       exact d_get2 hu I3 (DGet.k (k := Sum.inl n) ea) ry rz fun w' s4 I4 rw' => ⟨_, H3, I4, rw', q4⟩)
def fCat : R2 := fun x y H Q => match x, y with
  | .ref l, .ref b => match H l, H b with
    | some (.lst xs), some (.lst zs) => xs.length + zs.length ≤ sizeLine ∧ ∀ p, H p = none → Q (.ref p) (upd H p (.lst (xs ++ zs)))
    | _, _ => False
  | _, _ => False
theorem q_cat : OpR X (binaryOp .Add) fCat := op_cat.imp fun x y H Q h => by
  unfold fCat at h
  split at h
  · split at h
    · rename_i e1 e2; exact ⟨_, _, _, _, rfl, rfl, e1, e2, h.1, h.2⟩
    · exact h.elim
  · exact h.elim
def fClear : V → List V → Hp → VK → Prop := fun x vs H Q => match x, vs with
  | .ref l, [] => match H l with
    | some (.lst _) => Q .non (upd H l (.lst []))
    | _ => False
  | _, _ => False
theorem q_clear : MtR X "list.clear" fClear := MtR.imp (r := rClear) (fun pins s σ H x xs v us Q I rx rv q => mt_clear pins s σ H x xs v us Q I rx rv q) fun x vs H Q h => by
  unfold fClear at h
  split at h
  · split at h
    · rename_i xs e; exact ⟨_, xs, rfl, rfl, e, h⟩
    · exact h.elim
  · exact h.elim
def fBM0 (r : V → List V → Hp → VK → Prop) (to : TE) : TE := fun σ H Q => to σ H fun x H1 => (∃ a xs, x = .ref a ∧ H1 a = some (.lst xs)) ∧ r x [] H1 Q
theorem q_bm0 {to : TE} {name : Str} {id : String} {r : V → List V → Hp → VK → Prop} (pa : PlainAttrs "list") (slot : Slot "list" name id) (hty : typeOf (.builtin id) = pure (.type "method_descriptor")) (hm : MtR X id r) (ho : PE X o to)
    (hbase : attributeBase o name X.env (eval o X.env) = eval o X.env := by rfl) (hline : (apos.endLine == cpos.line) = true := by rfl) : PE X (.Call (.Attribute o name apos) [] [] cpos) (fBM0 r to) := by
  intro pins s σ H Q I h
  refine wpAny_Call_method0_late hbase hline (thn (ho pins s σ H _ I h) fun v s1 ⟨x, H1, I1, r1, ⟨a, xs, ex, ea⟩, q1⟩ => ?_)
  subst ex
  obtain ⟨h1, h2⟩ := tyV_is (T := "list") I1 r1 (.inl ⟨rfl, _, SqL.of ea⟩)
  exact ⟨"list", id, pa, slot, hty, h1, h2, Calls.callWith_builtin rfl (PySem.evalArgs_none (hm pins s1 σ H1 _ [] v [] Q I1 r1 .nil q1))⟩
/-- the first lo .. hi of a tuple, not the whole of it -/
def fSlT : V → Option Int → Option Int → Hp → VK → Prop := fun x lo hi H Q => match x with
  | .ref a => match H a with
    | some (.tup xs) => ¬ (HT.sIx xs.length 0 lo = 0 ∧ HT.sIx xs.length xs.length hi = xs.length) ∧ ∀ p, H p = none → Q (.ref p) (upd H p (.tup (cutV xs lo hi)))
    | _ => False
  | _ => False
theorem q_slT : SlR X fSlT := sl_tup.imp fun x l u H Q h => by
  unfold fSlT at h
  split at h
  · split at h
    · rename_i xs e; exact ⟨_, xs, rfl, SqT.of e, h.1, h.2⟩
    · exact h.elim
  · exact h.elim
def fInt1 : List V → Hp → VK → Prop := fun vs H Q => match vs with
  | [.bl k] => Q (.int (if k = true then 1 else 0)) H
  | [.int i] => Q (.int i) H
  | _ => False
theorem q_int1 : CallR X (.type "int") fInt1 := call_int1.imp fun vs H Q h => by
  unfold fInt1 at h
  split at h
  · exact .inr ⟨_, rfl, h⟩
  · exact .inl ⟨_, rfl, h⟩
  · exact h.elim
end
end L2

set_option Elab.async false
set_option linter.all false
set_option maxRecDepth 100000
set_option maxHeartbeats 1000000
namespace L2
open PySem PySem.Spec PyProof.Rows
/-! ### (a, b, ..) = a list of that length -/
section
variable {prog : Program} {w : World} {A : Around} {E : Value → Shared → Prop}
theorem drawL {it l : Addr} {items : Array Value} (hne : l ≠ it) : ∀ (n i : Nat) (s : Shared) (Q : List Value → Shared → Prop), s.heap.IsListIter it l i → s.heap.IsList l items → i + n ≤ items.size →
    (∀ h', h'.IsListIter it l (i + n) → Heap.SameBut it s.heap h' → Q ((items.toList.drop i).take n) { s with heap := h' }) → wpAny (model prog w) A (draw (.ref it) n) Q E s
  | 0, i, s, Q, hit, _, _, hQ => wpAny_pure (by simpa using hQ s.heap hit (Heap.SameBut.refl ..))
  | n + 1, i, s, Q, hit, hl, hle, hQ => by
    have hlt : i < items.size := by omega
    show wpAny _ _ (pyNext (.ref it) >>= _) Q E s
    refine wpAny_bind (wpAny_pyNext_list_item hit hl (x := items[i]) (by simp [hlt]) fun h1 hit1 hs1 => ?_)
    refine wpAny_bind (wpAny_holding (drawL hne n (i + 1) _ _ hit1 (hl.extBut hs1.extBut hne) (by omega) fun h2 hit2 hs2 => wpAny_pure ?_))
    have z := hQ h2 (by rw [show i + (n + 1) = i + 1 + n by omega]; exact hit2) (hs1.trans hs2)
    have hd : items.toList.drop i = items[i] :: items.toList.drop (i + 1) := by simp [List.drop_eq_getElem_cons, hlt]
    rw [hd, List.take_succ_cons] at z
    exact z
theorem unpackL {s : Shared} {l : Addr} {items : Array Value} {Q : List Value → Shared → Prop} (hh : A.handled = none) (hl : s.heap.IsList l items)
    (hQ : ∀ h', Heap.ExtBut s.heap.objs.size s.heap h' → Q items.toList { s with heap := h' }) : wpAny (model prog w) A (unpackItems (.ref l) items.size none) Q E s := by
  have hne : l ≠ s.heap.objs.size := by obtain ⟨o, ho, _⟩ := hl; exact Nat.ne_of_lt (Heap.lt_size ho)
  unfold unpackItems
  refine wpAny_bind ?_
  unfold notIterableAtAll
  refine wpAny_bind (wpAny_specialOf hl.typeIs slot_list_iter.lookup ?_)
  refine wpAny_pure ?_
  simp only [Bool.false_eq_true, if_false]
  refine wpAny_bind (wpAny_holding (wpAny_pyIter_list hl ?_))
  refine wpAny_bind (wpAny_holding (drawL hne items.size 0 _ _ ⟨_, Heap.get?_push_size _ rfl, rfl, rfl⟩ (hl.push _) (by omega) fun h1 hit1 hs1 => ?_))
  rw [show List.take items.size (List.drop 0 items.toList) = items.toList by rw [List.drop_zero]; exact List.take_of_length_le (by simp)]
  rw [if_neg (by simp)]
  refine wpAny_bind (wpAny_holding (wpAny_pyNext_list_end hh hit1 ((hl.push _).extBut hs1.extBut hne) (by simp) fun h2 he2 => ?_))
  simp only [Option.isSome_none, Bool.false_eq_true, if_false]
  exact wpAny_pure (hQ h2 fun b o hb e => he2 b o hb (hs1.extBut b o hb (Heap.get?_push_of_some _ e)))
end
section
variable {X : Cx} {es : List Expr} {pos : Pos}
def fGLst (n : Nat) (t : TGs) : TG := fun v σ H Q => match v with
  | .ref a => match H a with
    | some (.lst xs) => xs.length = n ∧ t xs σ H Q
    | _ => False
  | _ => False
theorem qg_lst {k : Nat} {t : TGs} {n : Nat} (hc : X.calm = true) (h : PGs X es t) (hn : (assignEach es X.env).length = n := by rfl) (hst : (assignEach es X.env).findIdx? (·.1) = none := by rfl) : PG X (.Tuple es k pos) (fGLst n t) := by
  intro pins s σ H v u Q I r hw
  have hw' : ∃ a xs, v = .ref a ∧ H a = some (.lst xs) ∧ xs.length = n ∧ t xs σ H Q := by
    unfold fGLst at hw
    split at hw
    · split at hw
      · rename_i e; exact ⟨_, _, rfl, e, hw.1, hw.2⟩
      · exact hw.elim
    · exact hw.elim
  obtain ⟨a, xs, rfl, e, hl, hw⟩ := hw'
  cases r
  obtain ⟨its, rv, ht⟩ := I.lstE e
  rw [assign_Tuple]
  refine wpAny_bind (wpAny_standAt ?_)
  unfold unpack
  have hsz : (assignEach es X.env).length = its.toArray.size := by rw [hn, ← hl, List.size_toArray]; exact rv.length
  rw [hsz, hst]
  refine wpAny_bind (wpAny_holding (unpackL (I.ok.hd hc) ht fun h' hx => ?_))
  have I1 : Inv X pins σ H { s with heap := h' } := I.kept (t' := s.toks) fun b o q => hx b o (Nat.ne_of_lt (Heap.lt_size q)) q
  exact h pins _ σ H xs _ Q I1 (by simpa using rv) hw
end
end L2

set_option Elab.async false
set_option linter.all false
set_option maxRecDepth 100000
set_option maxHeartbeats 4000000
namespace My
open PySem L2
theorem sl0 : (0 ≤ sizeLine) = True := eq_true (by decide)
theorem sl1 : (1 ≤ sizeLine) = True := eq_true (by decide)
theorem sl2 : (2 ≤ sizeLine) = True := eq_true (by decide)
theorem sl3 : (3 ≤ sizeLine) = True := eq_true (by decide)
theorem sl4 : (4 ≤ sizeLine) = True := eq_true (by decide)
theorem szl {n : Nat} (h : n ≤ 1000) : n ≤ sizeLine := Nat.le_trans h (by decide)
theorem szl' {n : Nat} (h : n ≤ 1000) : n < sizeLine := Nat.lt_of_le_of_lt h (by decide)
def top (i : Nat) : Stmt := PySem.Challenge.pw_touchall_k30_what_a_chain_names.main.body.getD i (.Pass ⟨0, 0, 0, 0⟩)
/-- a def as it stands behind the top -/
structure DefAt (K : PySem.W.Frag) (mg : Str → Option Value) (x : Str) (st : Stmt) (ps : List Str) (f : Addr) (fd : FuncData) : Prop where
  F : Fun K x x st f fd
  b : Binds K fd ps []
  m : mg x = some (.ref f)
/-- built-in names that the text leaves as they are -/
structure Blt (mg : Str → Option Value) : Prop where
  len : mg "len" = none
  isinstance : mg "isinstance" = none
  all : mg "all" = none
  min : mg "min" = none
  list : mg "list" = none
  dict : mg "dict" = none
  int : mg "int" = none
  bool : mg "bool" = none
  str : mg "str" = none
  tuple : mg "tuple" = none
  range : mg "range" = none
  enumerate : mg "enumerate" = none
  zip : mg "zip" = none
  max : mg "max" = none
  any : mg "any" = none
  sum : mg "sum" = none
  sorted : mg "sorted" = none
/-- the text's own numbers -/
structure Cst (mg : Str → Option Value) (t1 t2 t3 t4 : Tok) : Prop where
  MOST_PLACES : mg "MOST_PLACES" = some (.int 40 t1)
  MOST_TIES : mg "MOST_TIES" = some (.int 120 t2)
  LAST_PLACE : mg "LAST_PLACE" = some (.int 999 t3)
  MOST_PRICE : mg "MOST_PRICE" = some (.int 1000000000000 t4)
section
variable {P : Program} {w : World} {K : PySem.W.Frag} {mg : Str → Option Value} {base : Heap} {c1 c2 c3 c4 : Tok}
theorem at0 {α : Type} {x : α} {r : List α} : atI (x :: r) 0 = some x := by
  have e : atI (x :: r) ((0 : Nat) : Int) = some x := atI_nat rfl
  exact e
theorem at1 {α : Type} {x y : α} {r : List α} : atI (x :: y :: r) 1 = some y := by
  have e : atI (x :: y :: r) ((1 : Nat) : Int) = some y := atI_nat rfl
  exact e
theorem at2 {α : Type} {x y z : α} {r : List α} : atI (x :: y :: z :: r) 2 = some z := by
  have e : atI (x :: y :: z :: r) ((2 : Nat) : Int) = some z := atI_nat rfl
  exact e
theorem ix30 : ixN 3 0 = some 0 := rfl
theorem ix31 : ixN 3 1 = some 1 := rfl
theorem ix32 : ixN 3 2 = some 2 := rfl
/-- the drawing's state -/
def StO (o : HO) : Prop := ∃ c st fl, o = .lst [.int c, .int st, .bl fl] ∧ 0 ≤ st ∧ st < 4294967296
theorem StO.imm {o : HO} (h : StO o) : isImm o = false := by obtain ⟨_, _, _, rfl, _⟩ := h; rfl
def spBegun (K : PySem.W.Frag) : Sp := fun vs H Q _ => ∃ a k ns, vs = [.ref a, .int k] ∧ Scr K H a ns ∧ 0 ≤ k ∧ k ≤ 1000 ∧ ∀ s o, H s = none → StO o → Q (.ref s) (upd H s o)
def spTake : Sp := fun vs H Q _ => ∃ s o m, vs = [.ref s, .int m] ∧ H s = some o ∧ StO o ∧ 1 ≤ m ∧ m < 1073741824 ∧ ∀ d o, 0 ≤ d → d < m → StO o → Q (.int d) (upd H s o)
theorem cmR {i j : Int} (h1 : -(2 ^ 64) < j) (h2 : j < 2 ^ 64) : CMul i j := .inr ⟨h1, h2⟩
theorem cmL {i j : Int} (h1 : -(2 ^ 64) < i) (h2 : i < 2 ^ 64) : CMul i j := .inl ⟨h1, h2⟩
/-- all but the one at s stays -/
def But (s : Addr) (H H' : Hp) : Prop := ∀ b o, b ≠ s → H b = some o → H' b = some o
theorem But.refl (s : Addr) (H : Hp) : But s H H := fun _ _ _ q => q
theorem But.trans {s : Addr} {H H1 H2 : Hp} (a : But s H H1) (b : But s H1 H2) : But s H H2 := fun c o n q => b c o n (a c o n q)
theorem But.at (s : Addr) (H : Hp) (o : HO) : But s H (upd H s o) := fun b u n q => by rw [upd_ne n]; exact q
theorem But.new {s t : Addr} {H : Hp} {o : HO} (h : H t = none) : But s H (upd H t o) := fun b u n q => by rw [upd_ne (ne_of_none q h)]; exact q
theorem But.tups {s : Addr} {H H' : Hp} (h : But s H H') {o : HO} (e : H s = some o) (i : isImm o = false) : TupS H H' := fun b u z q => h b u (fun x => by rw [x, e] at q; cases q; rw [i] at z; cases z) q
theorem at3 {α : Type} {x y z u : α} {r : List α} : atI (x :: y :: z :: u :: r) 3 = some u := by
  have e : atI (x :: y :: z :: u :: r) ((3 : Nat) : Int) = some u := atI_nat rfl
  exact e
/-- marks of numbers -/
def mk (as : List Int) : List (Key × V) := as.map fun n => (Sum.inl n, V.bl true)
/-- each number once, in order -/
def dd (acc : List Int) : List Int → List Int
  | [] => acc
  | n :: r => dd (if n ∈ acc then acc else acc ++ [n]) r
theorem put_mk (as : List Int) (n : Int) : putK (mk as) (Sum.inl n : Key) (V.bl true) = mk (if n ∈ as then as else as ++ [n]) := by
  have key : ∀ as : List Int, ((mk as).any fun kv => decide (kv.1 = (Sum.inl n : Key))) = decide (n ∈ as) := by
    intro as
    induction as with
    | nil => rfl
    | cons a r ih =>
      show (decide ((Sum.inl a : Key) = Sum.inl n) || _) = _
      have e : decide ((Sum.inl a : Key) = Sum.inl n) = decide (n = a) := by
        by_cases h : a = n
        · subst h; simp
        · rw [decide_eq_false (fun z => h (Sum.inl.inj z)), decide_eq_false (fun z => h z.symm)]
      have ih' : ((mk r).any fun kv => decide (kv.1 = (Sum.inl n : Key))) = decide (n ∈ r) := ih
      rw [e]
      show (decide (n = a) || (mk r).any _) = _
      rw [ih']
      simp
  have rep : ∀ as : List Int, ((mk as).map fun kv => if kv.1 = (Sum.inl n : Key) then (kv.1, V.bl true) else kv) = mk as := by
    intro as
    unfold mk
    rw [List.map_map]
    refine List.map_congr_left fun a _ => ?_
    show (if (Sum.inl a : Key) = Sum.inl n then ((Sum.inl a : Key), V.bl true) else (Sum.inl a, V.bl true)) = _
    split <;> rfl
  unfold putK
  rw [key]
  by_cases h : n ∈ as
  · rw [decide_eq_true h, if_pos h]
    simp only [if_true]
    exact rep as
  · rw [decide_eq_false h, if_neg h]
    simp only [Bool.false_eq_true, if_false]
    unfold mk
    rw [List.map_append]
    rfl
theorem merge_mk : ∀ (ns acc : List Int), mergeK (mk acc) (mk ns) = mk (dd acc ns)
  | [], _ => rfl
  | n :: r, acc => by
    show mergeK (putK (mk acc) (Sum.inl n : Key) (V.bl true)) (mk r) = _
    rw [put_mk, merge_mk r]
    rfl
theorem dd_nodup : ∀ (ns : List Int) {acc : List Int}, acc.Nodup → (dd acc ns).Nodup
  | [], _, h => h
  | n :: r, acc, h => by
    rw [dd]
    refine dd_nodup r ?_
    split
    · exact h
    · rename_i c; exact nd_snoc h c
theorem dd_mem : ∀ (ns : List Int) {acc : List Int} {x : Int}, x ∈ dd acc ns ↔ x ∈ acc ∨ x ∈ ns
  | [], acc, x => by rw [dd]; simp
  | n :: r, acc, x => by
    rw [dd, dd_mem r]
    split
    · rename_i c
      constructor
      · rintro (h | h)
        · exact .inl h
        · exact .inr (List.mem_cons_of_mem _ h)
      · rintro (h | h)
        · exact .inl h
        · rcases List.mem_cons.mp h with h | h
          · rw [h]; exact .inl c
          · exact .inr h
    · constructor
      · rintro (h | h)
        · rcases List.mem_append.mp h with h | h
          · exact .inl h
          · rw [List.mem_singleton.mp h]; exact .inr (List.mem_cons_self ..)
        · exact .inr (List.mem_cons_of_mem _ h)
      · rintro (h | h)
        · exact .inl (List.mem_append_left _ h)
        · rcases List.mem_cons.mp h with h | h
          · rw [h]; exact .inl (List.mem_append_right _ (List.mem_singleton.mpr rfl))
          · exact .inr h
theorem dd_len : ∀ (ns : List Int) {acc : List Int}, (dd acc ns).length ≤ acc.length + ns.length
  | [], acc => by rw [dd]; simp
  | n :: r, acc => by
    rw [dd]
    split
    · have := dd_len r (acc := acc)
      simp; omega
    · have := dd_len r (acc := acc ++ [n])
      simp at this ⊢; omega
theorem keys_mk (as : List Int) : (mk as).map (·.1) = as.map Sum.inl := by
  unfold mk
  rw [List.map_map]
  rfl
/-- the numbers of xs, each once, rising -/
def SortOf (ms xs : List Int) : Prop := ms.Pairwise (· < ·) ∧ ∀ x, x ∈ ms ↔ x ∈ xs
theorem lt_of_sorted {ms : List Int} (h : ms.Pairwise (· ≤ ·)) (n : ms.Nodup) : ms.Pairwise (· < ·) := by
  refine (h.and n).imp fun q => ?_
  have := q.1
  have := q.2
  omega
theorem SortOf.uniq : ∀ {ms ns xs : List Int}, SortOf ms xs → SortOf ns xs → ms = ns := by
  have key : ∀ (ms ns : List Int), ms.Pairwise (· < ·) → ns.Pairwise (· < ·) → (∀ x, x ∈ ms ↔ x ∈ ns) → ms = ns := by
    intro ms
    induction ms with
    | nil =>
      intro ns _ _ h
      cases ns with
      | nil => rfl
      | cons a r => exact absurd ((h a).mpr (List.mem_cons_self ..)) (by simp)
    | cons a r ih =>
      intro ns h1 h2 h
      cases ns with
      | nil => exact absurd ((h a).mp (List.mem_cons_self ..)) (by simp)
      | cons b t =>
        rw [List.pairwise_cons] at h1 h2
        have e : a = b := by
          have m1 := (h a).mp (List.mem_cons_self ..)
          have m2 := (h b).mpr (List.mem_cons_self ..)
          rcases List.mem_cons.mp m1 with z | z
          · exact z
          · rcases List.mem_cons.mp m2 with y | y
            · exact y.symm
            · have := h1.1 b y
              have := h2.1 a z
              omega
        subst e
        congr 1
        refine ih t h1.2 h2.2 fun x => ?_
        constructor
        · intro hx
          rcases List.mem_cons.mp ((h x).mp (List.mem_cons_of_mem _ hx)) with z | z
          · have := h1.1 x hx; omega
          · exact z
        · intro hx
          rcases List.mem_cons.mp ((h x).mpr (List.mem_cons_of_mem _ hx)) with z | z
          · have := h2.1 x hx; omega
          · exact z
  intro ms ns xs h1 h2
  exact key ms ns h1.1 h2.1 fun x => (h1.2 x).trans (h2.2 x).symm
/-- a link: a word and one or two places -/
def Lnk (H : Hp) (v : V) (l : Str × List Int) : Prop := ∃ t, v = .ref t ∧ H t = some (.tup (.str l.1 :: l.2.map V.int))
theorem Lnk.tups {H H' : Hp} {v : V} {l : Str × List Int} (h : Lnk H v l) (s : TupS H H') : Lnk H' v l := let ⟨t, e, q⟩ := h; ⟨t, e, s _ _ rfl q⟩
abbrev Lks (H : Hp) : List V → List (Str × List Int) → Prop := Paired (Lnk H)
theorem Lks.tups {H H' : Hp} (s : TupS H H') {xs : List V} {ls : List (Str × List Int)} (h : Lks H xs ls) : Lks H' xs ls := Paired.mapP h fun _ _ q => q.tups s
def lastN (l : Str × List Int) : Int := l.2.getLast?.getD 0
def OkL (l : Str × List Int) : Prop := l.2.length = 1 ∨ l.2.length = 2
/-- the last one's place in the tuple -/
theorem at_last {l : Str × List Int} (h : OkL l) : atI (V.str l.1 :: l.2.map V.int) (-1) = some (.int (lastN l)) := by
  obtain ⟨w, r⟩ := l
  unfold lastN
  rcases h with h | h
  · match r, h with
    | [a], _ => rfl
  · match r, h with
    | [a, b], _ => rfl
def BES : Str := "beside"
def insOf (ls : List (Str × List Int)) : List Int := (ls.filter fun l => decide (l.1 = BES)).map lastN
def outsOf (ls : List (Str × List Int)) : List Int := (ls.filter fun l => !decide (l.1 = BES)).map lastN
def spMarkedM : Sp := fun vs H Q _ => ∃ (u : Addr) (ns : List Int), vs = [.ref u] ∧ H u = some (.lst (ns.map V.int)) ∧ ns.length ≤ 60 ∧ ∀ d H', Same H H' → H d = none → H' d = some (.dK (mk (dd [] ns))) → Q (.ref d) H'
def spFixedBy : Sp := fun vs H Q _ => ∃ (c : Addr) (xs : List V) (ls : List (Str × List Int)), vs = [.ref c] ∧ H c = some (.lst xs) ∧ Lks H xs ls ∧ (∀ l ∈ ls, OkL l) ∧ ls.length ≤ 60 ∧
  ∀ (t a b : Addr) (ms ns : List Int) (H' : Hp), Same H H' → H a = none → H b = none → a ≠ b → H' t = some (.tup [.ref a, .ref b]) → H' a = some (.lst (ms.map V.int)) → H' b = some (.lst (ns.map V.int)) → SortOf ms (insOf ls) → SortOf ns (outsOf ls) → Q (.ref t) H'
theorem ok_marked {f : Addr} {fd : FuncData}  (B : Blt mg) (D : DefAt K mg "marked" (top 1) ["places"] f fd) : FnOk P w K mg base CX0 1 f fd ["places"] spMarkedM := by
  have sc : FnScope ["places"] ["places"] (defScope (top 1)) := ⟨rfl, rfl, rfl, by decide +kernel, rfl, by decide +kernel, by decide +kernel⟩
  refine D.F.ok sc (fun vs H Q E h => ?_) (fun cdv A outer s H vs Q E hr h => ?_)
  · obtain ⟨u, ns, rfl, _⟩ := h
    rfl
  obtain ⟨u, ns, rfl, eu, hl, h⟩ := h
  have hu := hu_of hr
  have hu0 : _ < PySem.cLine := Nat.lt_of_succ_lt hu
  refine ⟨_, (pss_one (ps_ret (pe_callTy (call_dictM rfl) rfl B.dict PyProof.Rows.boot_dict (pa_cons (pe_comp (CpScope.of (N := ["place"]) (src := [none]) (by rfl)) rfl (pi_list (qv 0)) (fun _ _ _ _ => (pg_name (i := 0) (nodupB_ok (l := ["place"]) (by rfl)) rfl (Or.inl rfl))) (fun _ _ _ _ => pif_nil) (fun _ _ _ _ => (pe_tup (pa_cons (qv 0) (pa_cons pe_bl pa_nil))))) pa_nil)))), ?_⟩
  try simp only [tSeq, tNext, tDrop, tRet, tRetN, tIfS, tAsg, gName, fAug, tOp, tUn, tC, fVar, fI, fIC, fNeg, fEq, fNe, fIsN, isNon, fAnd, fOr, fNot, fB, tNot, tAnd, tOr, fChain, fIx, fLen, fListOf, fMin, fMax, fInL, fSlL, tSl, fPart, tNoPart, fAppend, fBM, fSetL, gSub, fGNil, fGCons, fGTup, fGLst, fDGet2, sDPutF, fCat, fClear, fBM0, fSlT, fInt1, tCBK, fDIn, fDGet, fIsi, fBools, fDictL, fLtT, tCall, tCB, tCons, tNil, tTup, tLst, tIf, tTrue, Kd.nm, L2.start, List.map_cons, List.map_nil, List.length_cons, List.length_nil, Nat.reduceAdd, Nat.reduceSub, List.replicate_succ, List.replicate_zero, List.getElem?_cons_zero, List.getElem?_cons_succ, List.set_cons_zero, List.set_cons_succ, List.append_nil, List.nil_append, List.cons_append, eq_self, true_and, and_true, if_true, Bool.false_eq_true, if_false, Bool.not_true, Bool.not_false, id_eq, sl0, sl1, sl2, sl3, sl4]
  refine tComp_hide (Itl K u) H (fun R hR => ?_) (fun l hl0 => comp_run ns.length (fun i σ' Hc => ∃ w1 xs, σ' = [w1] ∧ Same H Hc ∧ Hc l = some (.lst xs) ∧ Paired (PairAt Hc) xs (mk (ns.take i))) ⟨none, [], rfl, same_new hl0 _, upd_same, .nil⟩ ?_ ?_)
  · unfold iList
    try simp only [tSeq, tNext, tDrop, tRet, tRetN, tIfS, tAsg, gName, fAug, tOp, tUn, tC, fVar, fI, fIC, fNeg, fEq, fNe, fIsN, isNon, fAnd, fOr, fNot, fB, tNot, tAnd, tOr, fChain, fIx, fLen, fListOf, fMin, fMax, fInL, fSlL, tSl, fPart, tNoPart, fAppend, fBM, fSetL, gSub, fGNil, fGCons, fGTup, fGLst, fDGet2, sDPutF, fCat, fClear, fBM0, fSlT, fInt1, tCBK, fDIn, fDGet, fIsi, fBools, fDictL, fLtT, tCall, tCB, tCons, tNil, tTup, tLst, tIf, tTrue, Kd.nm, L2.start, List.map_cons, List.map_nil, List.length_cons, List.length_nil, Nat.reduceAdd, Nat.reduceSub, List.replicate_succ, List.replicate_zero, List.getElem?_cons_zero, List.getElem?_cons_succ, List.set_cons_zero, List.set_cons_succ, List.append_nil, List.nil_append, List.cons_append, eq_self, true_and, and_true, if_true, Bool.false_eq_true, if_false, Bool.not_true, Bool.not_false, id_eq, sl0, sl1, sl2, sl3, sl4]
    exact ⟨u, rfl, ⟨_, SqL.of eu⟩, hR⟩
  · rintro k σ' Hc hk ⟨w1, xs, rfl, s4, ez, pz⟩
    have x1 : ns[k]? = some ns[k] := List.getElem?_eq_getElem hk
    generalize ns[k] = n at x1
    have X1 : (ns.map V.int)[k]? = some (.int n) := by rw [List.getElem?_map, x1]; rfl
    have z1 : SqL K Hc u (ns.map V.int) := SqL.of (s4 _ _ eu)
    refine ⟨⟨_, _, z1, X1⟩, ?_⟩
    rintro y H' ⟨rfl, hy⟩
    have E1 : V.int n = y := Option.some.inj (X1.symm.trans (hy _ z1))
    subst E1
    try simp only [tSeq, tNext, tDrop, tRet, tRetN, tIfS, tAsg, gName, fAug, tOp, tUn, tC, fVar, fI, fIC, fNeg, fEq, fNe, fIsN, isNon, fAnd, fOr, fNot, fB, tNot, tAnd, tOr, fChain, fIx, fLen, fListOf, fMin, fMax, fInL, fSlL, tSl, fPart, tNoPart, fAppend, fBM, fSetL, gSub, fGNil, fGCons, fGTup, fGLst, fDGet2, sDPutF, fCat, fClear, fBM0, fSlT, fInt1, tCBK, fDIn, fDGet, fIsi, fBools, fDictL, fLtT, tCall, tCB, tCons, tNil, tTup, tLst, tIf, tTrue, Kd.nm, L2.start, List.map_cons, List.map_nil, List.length_cons, List.length_nil, Nat.reduceAdd, Nat.reduceSub, List.replicate_succ, List.replicate_zero, List.getElem?_cons_zero, List.getElem?_cons_succ, List.set_cons_zero, List.set_cons_succ, List.append_nil, List.nil_append, List.cons_append, eq_self, true_and, and_true, if_true, Bool.false_eq_true, if_false, Bool.not_true, Bool.not_false, id_eq, sl0, sl1, sl2, sl3, sl4]
    intro t ht
    have hxl : xs.length = k := by
      have := Paired.length pz
      unfold mk at this
      rw [List.length_map, List.length_take] at this
      omega
    refine ⟨_, same_new ht _ _ _ ez, szl' (by omega), _, _, rfl, same_upd (s4.trans (same_new ht _)) hl0, upd_same, ?_⟩
    have nl : l ≠ t := ne_of_none ez ht
    have ks : ∀ v p, PairAt H' v p → PairAt (upd (upd H' t (.tup [.int n, .bl true])) l (.lst (xs ++ [.ref t]))) v p := fun v p ⟨b, e1, e2⟩ => ⟨b, e1, by
      rw [upd_ne (fun z => by rw [z, ez] at e2; cases e2), upd_ne (ne_of_none e2 ht)]
      exact e2⟩
    rw [take_get x1]
    unfold mk
    rw [List.map_append]
    exact paired_snoc (Paired.mapP pz ks) ⟨t, rfl, by rw [upd_ne nl.symm, upd_same]; rfl⟩
  rintro σ' HE ⟨w1, xs, rfl, sE, eE, pE⟩
  refine ⟨⟨_, SqL.of (sE _ _ eu), by rw [List.length_map]; exact Nat.le_refl _⟩, ?_⟩
  rw [List.take_length] at pE
  have hxl : xs.length = ns.length := by
    have := Paired.length pE
    unfold mk at this
    rw [List.length_map] at this
    exact this
  try simp only [tSeq, tNext, tDrop, tRet, tRetN, tIfS, tAsg, gName, fAug, tOp, tUn, tC, fVar, fI, fIC, fNeg, fEq, fNe, fIsN, isNon, fAnd, fOr, fNot, fB, tNot, tAnd, tOr, fChain, fIx, fLen, fListOf, fMin, fMax, fInL, fSlL, tSl, fPart, tNoPart, fAppend, fBM, fSetL, gSub, fGNil, fGCons, fGTup, fGLst, fDGet2, sDPutF, fCat, fClear, fBM0, fSlT, fInt1, tCBK, fDIn, fDGet, fIsi, fBools, fDictL, fLtT, tCall, tCB, tCons, tNil, tTup, tLst, tIf, tTrue, Kd.nm, L2.start, List.map_cons, List.map_nil, List.length_cons, List.length_nil, Nat.reduceAdd, Nat.reduceSub, List.replicate_succ, List.replicate_zero, List.getElem?_cons_zero, List.getElem?_cons_succ, List.set_cons_zero, List.set_cons_succ, List.append_nil, List.nil_append, List.cons_append, eq_self, true_and, and_true, if_true, Bool.false_eq_true, if_false, Bool.not_true, Bool.not_false, id_eq, sl0, sl1, sl2, sl3, sl4]
  refine ⟨l, xs, mk ns, rfl, eE, pE, by omega, fun d hd => ?_⟩
  have e0 : mergeK [] (mk ns) = mk (dd [] ns) := merge_mk ns []
  rw [e0]
  exact h d _ (sE.trans (same_new hd _)) (sE.free hd) upd_same
end
end My

set_option Elab.async false
set_option linter.all false
set_option maxRecDepth 100000
set_option maxHeartbeats 4000000
namespace My
open PySem L2
section
variable {P : Program} {w : World} {K : PySem.W.Frag} {mg : Str → Option Value} {base : Heap} {c1 c2 c3 c4 : Tok}
theorem ins_take {ls : List (Str × List Int)} {i : Nat} {l : Str × List Int} (h : ls[i]? = some l) : insOf (ls.take (i + 1)) = insOf (ls.take i) ++ if decide (l.1 = BES) = true then [lastN l] else [] := by
  unfold insOf
  rw [take_get h, List.filter_append, List.map_append]
  congr 1
  rw [List.filter_cons]
  split <;> simp
theorem outs_take {ls : List (Str × List Int)} {i : Nat} {l : Str × List Int} (h : ls[i]? = some l) : outsOf (ls.take (i + 1)) = outsOf (ls.take i) ++ if decide (l.1 = BES) = true then [] else [lastN l] := by
  unfold outsOf
  rw [take_get h, List.filter_append, List.map_append]
  congr 1
  rw [List.filter_cons]
  by_cases c : l.1 = BES <;> simp [c]
theorem ins_len (ls : List (Str × List Int)) (i : Nat) : (insOf (ls.take i)).length ≤ ls.length := by
  unfold insOf
  rw [List.length_map]
  exact Nat.le_trans (List.length_filter_le _ _) (by rw [List.length_take]; omega)
theorem outs_len (ls : List (Str × List Int)) (i : Nat) : (outsOf (ls.take i)).length ≤ ls.length := by
  unfold outsOf
  rw [List.length_map]
  exact Nat.le_trans (List.length_filter_le _ _) (by rw [List.length_take]; omega)
theorem sort_dd {ms ns : List Int} (hp : ms.Perm (dd [] ns)) (hs : ms.Pairwise (· ≤ ·)) : SortOf ms ns := by
  refine ⟨lt_of_sorted hs (hp.nodup_iff.mpr (dd_nodup ns List.nodup_nil)), fun x => ?_⟩
  rw [hp.mem_iff, dd_mem]
  simp
theorem ok_fixed_by {f : Addr} {fd : FuncData} {f_marked : Addr} {d_marked : FuncData} (B : Blt mg) (D : DefAt K mg "fixed_by" (top 3) ["chain"] f fd) (D_marked : DefAt K mg "marked" (top 1) ["places"] f_marked d_marked) (G_marked : FnOk P w K mg base CX0 1 f_marked d_marked ["places"] spMarkedM) : FnOk P w K mg base CX0 2 f fd ["chain"] spFixedBy := by
  have sc : FnScope ["chain", "ins", "outs"] ["chain"] (defScope (top 3)) := ⟨rfl, rfl, rfl, by decide +kernel, rfl, by decide +kernel, by decide +kernel⟩
  refine D.F.ok sc (fun vs H Q E h => ?_) (fun cdv A outer s H vs Q E hr h => ?_)
  · obtain ⟨c, xs, ls, rfl, _⟩ := h
    rfl
  obtain ⟨c, xs, ls, rfl, ec, pl, ok, hl, h⟩ := h
  have hlx : xs.length = ls.length := Paired.length pl
  have hu := hu_of hr
  have hu0 : _ < PySem.cLine := Nat.lt_of_succ_lt hu
  refine ⟨_, (pss_cons (ps_set (i := 1) sc.nd rfl (Or.inl rfl) (pe_call G_marked (hr.mono (by decide)) rfl D_marked.m D_marked.F.kp D_marked.b .nil pass0 (pa_cons (pe_comp (CpScope.of (N := ["link"]) (src := [none]) (by rfl)) rfl (pi_list (qv 0)) (fun _ _ _ _ => (pg_name (i := 0) (nodupB_ok (l := ["link"]) (by rfl)) rfl (Or.inl rfl))) (fun _ _ _ _ => (pif_one (qt_cmp q_eq (pe_ix q_ix (qv 0) pe_int (fun _ _ => rfl)) pe_str (nomark _)))) (fun _ _ _ _ => (pe_ix q_ix (qv 0) (pe_un q_neg pe_int) (fun _ _ => rfl)))) pa_nil))) (pss_cons (ps_set (i := 2) sc.nd rfl (Or.inl rfl) (pe_call G_marked (hr.mono (by decide)) rfl D_marked.m D_marked.F.kp D_marked.b .nil pass0 (pa_cons (pe_comp (CpScope.of (N := ["link"]) (src := [none]) (by rfl)) rfl (pi_list (qv 0)) (fun _ _ _ _ => (pg_name (i := 0) (nodupB_ok (l := ["link"]) (by rfl)) rfl (Or.inl rfl))) (fun _ _ _ _ => (pif_one (qt_cmp q_ne (pe_ix q_ix (qv 0) pe_int (fun _ _ => rfl)) pe_str (nomark _)))) (fun _ _ _ _ => (pe_ix q_ix (qv 0) (pe_un q_neg pe_int) (fun _ _ => rfl)))) pa_nil))) (pss_one (ps_ret (pe_tup (pa_cons (pe_callB (call_sortD rfl) rfl B.sorted PyProof.Rows.boot_sorted (pa_cons (qv 1) pa_nil)) (pa_cons (pe_callB (call_sortD rfl) rfl B.sorted PyProof.Rows.boot_sorted (pa_cons (qv 2) pa_nil)) pa_nil))))))), ?_⟩
  try simp only [tSeq, tNext, tDrop, tRet, tRetN, tIfS, tAsg, gName, fAug, tOp, tUn, tC, fVar, fI, fIC, fNeg, fEq, fNe, fIsN, isNon, fAnd, fOr, fNot, fB, tNot, tAnd, tOr, fChain, fIx, fLen, fListOf, fMin, fMax, fInL, fSlL, tSl, fPart, tNoPart, fAppend, fBM, fSetL, gSub, fGNil, fGCons, fGTup, fGLst, fDGet2, sDPutF, fCat, fClear, fBM0, fSlT, fInt1, tCBK, fDIn, fDGet, fIsi, fBools, fDictL, fLtT, tCall, tCB, tCons, tNil, tTup, tLst, tIf, tTrue, Kd.nm, L2.start, List.map_cons, List.map_nil, List.length_cons, List.length_nil, Nat.reduceAdd, Nat.reduceSub, List.replicate_succ, List.replicate_zero, List.getElem?_cons_zero, List.getElem?_cons_succ, List.set_cons_zero, List.set_cons_succ, List.append_nil, List.nil_append, List.cons_append, eq_self, true_and, and_true, if_true, Bool.false_eq_true, if_false, Bool.not_true, Bool.not_false, id_eq, sl0, sl1, sl2, sl3, sl4]
  
  refine tComp_hide (Itl K c) H (fun R hR => ?_) (fun l1 h1 => comp_run ls.length (fun i σ' Hc => ∃ w1, σ' = [w1] ∧ Same H Hc ∧ Hc l1 = some (.lst ((insOf (ls.take i)).map V.int))) ⟨none, rfl, same_new h1 _, upd_same⟩ ?_ ?_)
  · unfold iList
    try simp only [tSeq, tNext, tDrop, tRet, tRetN, tIfS, tAsg, gName, fAug, tOp, tUn, tC, fVar, fI, fIC, fNeg, fEq, fNe, fIsN, isNon, fAnd, fOr, fNot, fB, tNot, tAnd, tOr, fChain, fIx, fLen, fListOf, fMin, fMax, fInL, fSlL, tSl, fPart, tNoPart, fAppend, fBM, fSetL, gSub, fGNil, fGCons, fGTup, fGLst, fDGet2, sDPutF, fCat, fClear, fBM0, fSlT, fInt1, tCBK, fDIn, fDGet, fIsi, fBools, fDictL, fLtT, tCall, tCB, tCons, tNil, tTup, tLst, tIf, tTrue, Kd.nm, L2.start, List.map_cons, List.map_nil, List.length_cons, List.length_nil, Nat.reduceAdd, Nat.reduceSub, List.replicate_succ, List.replicate_zero, List.getElem?_cons_zero, List.getElem?_cons_succ, List.set_cons_zero, List.set_cons_succ, List.append_nil, List.nil_append, List.cons_append, eq_self, true_and, and_true, if_true, Bool.false_eq_true, if_false, Bool.not_true, Bool.not_false, id_eq, sl0, sl1, sl2, sl3, sl4]
    exact ⟨c, rfl, ⟨_, SqL.of ec⟩, hR⟩
  · rintro k σ' Hc hk ⟨w1, rfl, s4, ez⟩
    have hkx : k < xs.length := by omega
    have x1 : xs[k]? = some xs[k] := List.getElem?_eq_getElem hkx
    obtain ⟨lk, hlk, px⟩ := paired_left pl x1
    have z1 : SqL K Hc c xs := SqL.of (s4 _ _ ec)
    refine ⟨⟨_, _, z1, x1⟩, ?_⟩
    rintro y H' ⟨rfl, hy⟩
    have E1 : xs[k] = y := Option.some.inj (x1.symm.trans (hy _ z1))
    obtain ⟨t, e1, e2⟩ := px.tups s4.tups
    rw [E1] at e1
    subst e1
    have okl := ok lk (List.mem_of_getElem? hlk)
    have ft := ins_take hlk
    try simp only [tSeq, tNext, tDrop, tRet, tRetN, tIfS, tAsg, gName, fAug, tOp, tUn, tC, fVar, fI, fIC, fNeg, fEq, fNe, fIsN, isNon, fAnd, fOr, fNot, fB, tNot, tAnd, tOr, fChain, fIx, fLen, fListOf, fMin, fMax, fInL, fSlL, tSl, fPart, tNoPart, fAppend, fBM, fSetL, gSub, fGNil, fGCons, fGTup, fGLst, fDGet2, sDPutF, fCat, fClear, fBM0, fSlT, fInt1, tCBK, fDIn, fDGet, fIsi, fBools, fDictL, fLtT, tCall, tCB, tCons, tNil, tTup, tLst, tIf, tTrue, Kd.nm, L2.start, List.map_cons, List.map_nil, List.length_cons, List.length_nil, Nat.reduceAdd, Nat.reduceSub, List.replicate_succ, List.replicate_zero, List.getElem?_cons_zero, List.getElem?_cons_succ, List.set_cons_zero, List.set_cons_succ, List.append_nil, List.nil_append, List.cons_append, eq_self, true_and, and_true, if_true, Bool.false_eq_true, if_false, Bool.not_true, Bool.not_false, id_eq, sl0, sl1, sl2, sl3, sl4, seqOf, e2, at0, at_last okl]
    rw [ft]
    refine ite2 (fun c1 => ?_) (fun c1 => ?_)
    · rw [if_pos (show decide (lk.1 = BES) = true from c1)]
      refine ⟨_, ez, ?_, _, rfl, same_upd s4 h1, ?_⟩
      · rw [List.length_map]
        have := ins_len ls k
        exact szl' (by omega)
      · rw [List.map_append]
        first | rfl | exact upd_same
    · rw [if_neg (show ¬ decide (lk.1 = BES) = true from c1), List.append_nil]
      exact ⟨_, rfl, s4, ez⟩
  
  rintro σ' H1 ⟨w1, rfl, s1, e1⟩
  refine ⟨⟨_, SqL.of (s1 _ _ ec), by rw [hlx]; exact Nat.le_refl _⟩, ?_⟩
  rw [List.take_length] at e1
  have n1 := ins_len ls ls.length
  rw [List.take_length] at n1
  try simp only [tSeq, tNext, tDrop, tRet, tRetN, tIfS, tAsg, gName, fAug, tOp, tUn, tC, fVar, fI, fIC, fNeg, fEq, fNe, fIsN, isNon, fAnd, fOr, fNot, fB, tNot, tAnd, tOr, fChain, fIx, fLen, fListOf, fMin, fMax, fInL, fSlL, tSl, fPart, tNoPart, fAppend, fBM, fSetL, gSub, fGNil, fGCons, fGTup, fGLst, fDGet2, sDPutF, fCat, fClear, fBM0, fSlT, fInt1, tCBK, fDIn, fDGet, fIsi, fBools, fDictL, fLtT, tCall, tCB, tCons, tNil, tTup, tLst, tIf, tTrue, Kd.nm, L2.start, List.map_cons, List.map_nil, List.length_cons, List.length_nil, Nat.reduceAdd, Nat.reduceSub, List.replicate_succ, List.replicate_zero, List.getElem?_cons_zero, List.getElem?_cons_succ, List.set_cons_zero, List.set_cons_succ, List.append_nil, List.nil_append, List.cons_append, eq_self, true_and, and_true, if_true, Bool.false_eq_true, if_false, Bool.not_true, Bool.not_false, id_eq, sl0, sl1, sl2, sl3, sl4]
  refine ⟨l1, insOf ls, rfl, e1, by omega, fun d1 H2 s2 hd1 ed1 => ?_⟩
  try simp only [tSeq, tNext, tDrop, tRet, tRetN, tIfS, tAsg, gName, fAug, tOp, tUn, tC, fVar, fI, fIC, fNeg, fEq, fNe, fIsN, isNon, fAnd, fOr, fNot, fB, tNot, tAnd, tOr, fChain, fIx, fLen, fListOf, fMin, fMax, fInL, fSlL, tSl, fPart, tNoPart, fAppend, fBM, fSetL, gSub, fGNil, fGCons, fGTup, fGLst, fDGet2, sDPutF, fCat, fClear, fBM0, fSlT, fInt1, tCBK, fDIn, fDGet, fIsi, fBools, fDictL, fLtT, tCall, tCB, tCons, tNil, tTup, tLst, tIf, tTrue, Kd.nm, L2.start, List.map_cons, List.map_nil, List.length_cons, List.length_nil, Nat.reduceAdd, Nat.reduceSub, List.replicate_succ, List.replicate_zero, List.getElem?_cons_zero, List.getElem?_cons_succ, List.set_cons_zero, List.set_cons_succ, List.append_nil, List.nil_append, List.cons_append, eq_self, true_and, and_true, if_true, Bool.false_eq_true, if_false, Bool.not_true, Bool.not_false, id_eq, sl0, sl1, sl2, sl3, sl4]
  have ec2 := (s1.trans s2) _ _ ec
  have pl2 := Lks.tups (s1.trans s2).tups pl
  
  refine tComp_hide (Itl K c) H2 (fun R hR => ?_) (fun l3 h3 => comp_run ls.length (fun i σ' Hc => ∃ w1, σ' = [w1] ∧ Same H2 Hc ∧ Hc l3 = some (.lst ((outsOf (ls.take i)).map V.int))) ⟨none, rfl, same_new h3 _, upd_same⟩ ?_ ?_)
  · unfold iList
    try simp only [tSeq, tNext, tDrop, tRet, tRetN, tIfS, tAsg, gName, fAug, tOp, tUn, tC, fVar, fI, fIC, fNeg, fEq, fNe, fIsN, isNon, fAnd, fOr, fNot, fB, tNot, tAnd, tOr, fChain, fIx, fLen, fListOf, fMin, fMax, fInL, fSlL, tSl, fPart, tNoPart, fAppend, fBM, fSetL, gSub, fGNil, fGCons, fGTup, fGLst, fDGet2, sDPutF, fCat, fClear, fBM0, fSlT, fInt1, tCBK, fDIn, fDGet, fIsi, fBools, fDictL, fLtT, tCall, tCB, tCons, tNil, tTup, tLst, tIf, tTrue, Kd.nm, L2.start, List.map_cons, List.map_nil, List.length_cons, List.length_nil, Nat.reduceAdd, Nat.reduceSub, List.replicate_succ, List.replicate_zero, List.getElem?_cons_zero, List.getElem?_cons_succ, List.set_cons_zero, List.set_cons_succ, List.append_nil, List.nil_append, List.cons_append, eq_self, true_and, and_true, if_true, Bool.false_eq_true, if_false, Bool.not_true, Bool.not_false, id_eq, sl0, sl1, sl2, sl3, sl4]
    exact ⟨c, rfl, ⟨_, SqL.of ec2⟩, hR⟩
  · rintro k σ' Hc hk ⟨w1, rfl, s4, ez⟩
    have hkx : k < xs.length := by omega
    have x1 : xs[k]? = some xs[k] := List.getElem?_eq_getElem hkx
    obtain ⟨lk, hlk, px⟩ := paired_left pl2 x1
    have z1 : SqL K Hc c xs := SqL.of (s4 _ _ ec2)
    refine ⟨⟨_, _, z1, x1⟩, ?_⟩
    rintro y H' ⟨rfl, hy⟩
    have E1 : xs[k] = y := Option.some.inj (x1.symm.trans (hy _ z1))
    obtain ⟨t, e1, e2⟩ := px.tups s4.tups
    rw [E1] at e1
    subst e1
    have okl := ok lk (List.mem_of_getElem? hlk)
    have ft := outs_take hlk
    try simp only [tSeq, tNext, tDrop, tRet, tRetN, tIfS, tAsg, gName, fAug, tOp, tUn, tC, fVar, fI, fIC, fNeg, fEq, fNe, fIsN, isNon, fAnd, fOr, fNot, fB, tNot, tAnd, tOr, fChain, fIx, fLen, fListOf, fMin, fMax, fInL, fSlL, tSl, fPart, tNoPart, fAppend, fBM, fSetL, gSub, fGNil, fGCons, fGTup, fGLst, fDGet2, sDPutF, fCat, fClear, fBM0, fSlT, fInt1, tCBK, fDIn, fDGet, fIsi, fBools, fDictL, fLtT, tCall, tCB, tCons, tNil, tTup, tLst, tIf, tTrue, Kd.nm, L2.start, List.map_cons, List.map_nil, List.length_cons, List.length_nil, Nat.reduceAdd, Nat.reduceSub, List.replicate_succ, List.replicate_zero, List.getElem?_cons_zero, List.getElem?_cons_succ, List.set_cons_zero, List.set_cons_succ, List.append_nil, List.nil_append, List.cons_append, eq_self, true_and, and_true, if_true, Bool.false_eq_true, if_false, Bool.not_true, Bool.not_false, id_eq, sl0, sl1, sl2, sl3, sl4, seqOf, e2, at0, at_last okl]
    rw [ft]
    refine ite2 (fun c1 => ?_) (fun c1 => ?_)
    · rw [if_neg (show ¬ decide (lk.1 = BES) = true by unfold BES; simpa using c1)]
      refine ⟨_, ez, ?_, _, rfl, same_upd s4 h3, ?_⟩
      · rw [List.length_map]
        have := outs_len ls k
        exact szl' (by omega)
      · rw [List.map_append]
        first | rfl | exact upd_same
    · rw [if_pos (show decide (lk.1 = BES) = true by unfold BES; simpa using c1), List.append_nil]
      exact ⟨_, rfl, s4, ez⟩
  
  rintro σ' H3 ⟨w1, rfl, s3, e3⟩
  refine ⟨⟨_, SqL.of (s3 _ _ ec2), by rw [hlx]; exact Nat.le_refl _⟩, ?_⟩
  rw [List.take_length] at e3
  have n3 := outs_len ls ls.length
  rw [List.take_length] at n3
  try simp only [tSeq, tNext, tDrop, tRet, tRetN, tIfS, tAsg, gName, fAug, tOp, tUn, tC, fVar, fI, fIC, fNeg, fEq, fNe, fIsN, isNon, fAnd, fOr, fNot, fB, tNot, tAnd, tOr, fChain, fIx, fLen, fListOf, fMin, fMax, fInL, fSlL, tSl, fPart, tNoPart, fAppend, fBM, fSetL, gSub, fGNil, fGCons, fGTup, fGLst, fDGet2, sDPutF, fCat, fClear, fBM0, fSlT, fInt1, tCBK, fDIn, fDGet, fIsi, fBools, fDictL, fLtT, tCall, tCB, tCons, tNil, tTup, tLst, tIf, tTrue, Kd.nm, L2.start, List.map_cons, List.map_nil, List.length_cons, List.length_nil, Nat.reduceAdd, Nat.reduceSub, List.replicate_succ, List.replicate_zero, List.getElem?_cons_zero, List.getElem?_cons_succ, List.set_cons_zero, List.set_cons_succ, List.append_nil, List.nil_append, List.cons_append, eq_self, true_and, and_true, if_true, Bool.false_eq_true, if_false, Bool.not_true, Bool.not_false, id_eq, sl0, sl1, sl2, sl3, sl4]
  refine ⟨l3, outsOf ls, rfl, e3, by omega, fun d3 H4 s4 hd3 ed3 => ?_⟩
  try simp only [tSeq, tNext, tDrop, tRet, tRetN, tIfS, tAsg, gName, fAug, tOp, tUn, tC, fVar, fI, fIC, fNeg, fEq, fNe, fIsN, isNon, fAnd, fOr, fNot, fB, tNot, tAnd, tOr, fChain, fIx, fLen, fListOf, fMin, fMax, fInL, fSlL, tSl, fPart, tNoPart, fAppend, fBM, fSetL, gSub, fGNil, fGCons, fGTup, fGLst, fDGet2, sDPutF, fCat, fClear, fBM0, fSlT, fInt1, tCBK, fDIn, fDGet, fIsi, fBools, fDictL, fLtT, tCall, tCB, tCons, tNil, tTup, tLst, tIf, tTrue, Kd.nm, L2.start, List.map_cons, List.map_nil, List.length_cons, List.length_nil, Nat.reduceAdd, Nat.reduceSub, List.replicate_succ, List.replicate_zero, List.getElem?_cons_zero, List.getElem?_cons_succ, List.set_cons_zero, List.set_cons_succ, List.append_nil, List.nil_append, List.cons_append, eq_self, true_and, and_true, if_true, Bool.false_eq_true, if_false, Bool.not_true, Bool.not_false, id_eq, sl0, sl1, sl2, sl3, sl4]
  have lin : (dd [] (insOf ls)).length < 64 := by have := dd_len (insOf ls) (acc := []); simp at this; omega
  have lout : (dd [] (outsOf ls)).length < 64 := by have := dd_len (outsOf ls) (acc := []); simp at this; omega
  refine ⟨d1, mk (dd [] (insOf ls)), dd [] (insOf ls), rfl, (s3.trans s4) _ _ ed1, keys_mk _, lin, fun a ms ha p1 q1 => ?_⟩
  have s5 := same_new ha (.lst (ms.map V.int))
  refine ⟨d3, mk (dd [] (outsOf ls)), dd [] (outsOf ls), rfl, s5 _ _ ed3, keys_mk _, lout, fun b ns hb p2 q2 => ?_⟩
  intro t ht
  have sAll := ((s1.trans s2).trans (s3.trans s4)).trans (s5.trans ((same_new hb (.lst (ns.map V.int))).trans (same_new ht (.tup [.ref a, .ref b]))))
  have hab : a ≠ b := fun z => by rw [← z, upd_same] at hb; cases hb
  have hat : a ≠ t := fun z => by rw [← z, upd_ne hab, upd_same] at ht; cases ht
  have hbt : b ≠ t := fun z => by rw [← z, upd_same] at ht; cases ht
  refine h t a b ms ns _ sAll (((s1.trans s2).trans (s3.trans s4)).free ha) ((((s1.trans s2).trans (s3.trans s4)).trans s5).free hb) hab upd_same ?_ ?_ (sort_dd p1 q1) (sort_dd p2 q2)
  · rw [upd_ne hat, upd_ne hab, upd_same]
  · rw [upd_ne hbt, upd_same]
theorem ok_law_begun {f : Addr} {fd : FuncData}  (B : Blt mg) (D : DefAt K mg "_law_begun" (top 5) ["_law_script", "_law_k"] f fd) : FnOk P w K mg base CX0 1 f fd ["_law_script", "_law_k"] (spBegun K) := by
  have sc : FnScope ["_law_script", "_law_k", "_law_cell", "_law_mixed"] ["_law_script", "_law_k"] (defScope (top 5)) := ⟨rfl, rfl, rfl, by decide +kernel, rfl, by decide +kernel, by decide +kernel⟩
  refine D.F.ok sc (fun vs H Q E h => ?_) (fun cdv A outer s H vs Q E hr h => ?_)
  · obtain ⟨a, k, ns, rfl, _⟩ := h
    rfl
  obtain ⟨a, k, ns, rfl, hs, k0, k1, h⟩ := h
  have hu := hu_of hr
  have hu0 : _ < PySem.cLine := Nat.lt_of_succ_lt hu
  refine ⟨_, (pss_cons (ps_set (i := 2) sc.nd rfl (Or.inl rfl) pe_int) (pss_cons (ps_if (qt_cmp q_lt (qv 1) (pe_callB call_len_seq rfl B.len PySem.boot_len (pa_cons (qv 0) pa_nil)) (nomark _)) (pss_one (ps_set (i := 2) sc.nd rfl (Or.inl rfl) (pe_ix ix_list (qv 0) (qv 1) (fun _ _ => rfl)))) pss_nil) (pss_cons (ps_set (i := 3) sc.nd rfl (Or.inl rfl) (pe_op q_add (pe_op q_add (pe_op q_mod (qv 2) pe_int) (pe_op q_mul pe_int (qv 1))) (pe_op q_mul pe_int (pe_op q_fdiv (qv 1) pe_int)))) (pss_one (ps_ret (pe_lst (pa_cons (qv 2) (pa_cons (pe_op q_mod (qv 3) pe_int) (pa_cons (pe_cmpR q_ge (qv 2) (pe_op q_pow pe_int pe_int) (nomark _)) pa_nil))))))))), ?_⟩
  try simp only [tSeq, tNext, tDrop, tRet, tRetN, tIfS, tAsg, gName, fAug, tOp, tUn, tC, fVar, fI, fIC, fNeg, fEq, fNe, fIsN, isNon, fAnd, fOr, fNot, fB, tNot, tAnd, tOr, fChain, fIx, fLen, fListOf, fMin, fMax, fInL, fSlL, tSl, fPart, tNoPart, fAppend, fBM, fSetL, gSub, fGNil, fGCons, fGTup, fGLst, fDGet2, sDPutF, fCat, fClear, fBM0, fSlT, fInt1, tCBK, fDIn, fDGet, fIsi, fBools, fDictL, fLtT, tCall, tCB, tCons, tNil, tTup, tLst, tIf, tTrue, Kd.nm, L2.start, List.map_cons, List.map_nil, List.length_cons, List.length_nil, Nat.reduceAdd, Nat.reduceSub, List.replicate_succ, List.replicate_zero, List.getElem?_cons_zero, List.getElem?_cons_succ, List.set_cons_zero, List.set_cons_succ, List.append_nil, List.nil_append, List.cons_append, eq_self, true_and, and_true, if_true, Bool.false_eq_true, if_false, Bool.not_true, Bool.not_false, id_eq, sl0, sl1, sl2, sl3, sl4]
  refine ⟨a, _, rfl, .inl hs.sq, ?_⟩
  try simp only [tSeq, tNext, tDrop, tRet, tRetN, tIfS, tAsg, gName, fAug, tOp, tUn, tC, fVar, fI, fIC, fNeg, fEq, fNe, fIsN, isNon, fAnd, fOr, fNot, fB, tNot, tAnd, tOr, fChain, fIx, fLen, fListOf, fMin, fMax, fInL, fSlL, tSl, fPart, tNoPart, fAppend, fBM, fSetL, gSub, fGNil, fGCons, fGTup, fGLst, fDGet2, sDPutF, fCat, fClear, fBM0, fSlT, fInt1, tCBK, fDIn, fDGet, fIsi, fBools, fDictL, fLtT, tCall, tCB, tCons, tNil, tTup, tLst, tIf, tTrue, Kd.nm, L2.start, List.map_cons, List.map_nil, List.length_cons, List.length_nil, Nat.reduceAdd, Nat.reduceSub, List.replicate_succ, List.replicate_zero, List.getElem?_cons_zero, List.getElem?_cons_succ, List.set_cons_zero, List.set_cons_succ, List.append_nil, List.nil_append, List.cons_append, eq_self, true_and, and_true, if_true, Bool.false_eq_true, if_false, Bool.not_true, Bool.not_false, id_eq, sl0, sl1, sl2, sl3, sl4, List.length_map, rIxL]
  have q0 : ∀ n : Int, 0 ≤ n % 2147483629 := fun n => Int.emod_nonneg _ (by decide)
  have q1 : ∀ n : Int, n % 2147483629 < 2147483629 := fun n => Int.emod_lt_of_pos _ (by decide)
  have cp : CPow 10 18 := ⟨by decide, by decide, by decide⟩
  have cd : CDiv k 7 := ⟨by decide, by decide⟩
  refine ite2 (fun c => ?_) (fun c => ?_)
  · have c' : k < (ns.length : Int) := of_decide_eq_true c
    have hk : k.toNat < ns.length := by omega
    have e1 : atI (ns.map V.int) ((k.toNat : Nat) : Int) = some (.int ns[k.toNat]) := atI_nat (by rw [List.getElem?_map, List.getElem?_eq_getElem hk]; rfl)
    rw [show ((k.toNat : Nat) : Int) = k by omega] at e1
    refine ⟨a, _, k, _, rfl, rfl, hs.sq, e1, ?_⟩
    try simp only [tSeq, tNext, tDrop, tRet, tRetN, tIfS, tAsg, gName, fAug, tOp, tUn, tC, fVar, fI, fIC, fNeg, fEq, fNe, fIsN, isNon, fAnd, fOr, fNot, fB, tNot, tAnd, tOr, fChain, fIx, fLen, fListOf, fMin, fMax, fInL, fSlL, tSl, fPart, tNoPart, fAppend, fBM, fSetL, gSub, fGNil, fGCons, fGTup, fGLst, fDGet2, sDPutF, fCat, fClear, fBM0, fSlT, fInt1, tCBK, fDIn, fDGet, fIsi, fBools, fDictL, fLtT, tCall, tCB, tCons, tNil, tTup, tLst, tIf, tTrue, Kd.nm, L2.start, List.map_cons, List.map_nil, List.length_cons, List.length_nil, Nat.reduceAdd, Nat.reduceSub, List.replicate_succ, List.replicate_zero, List.getElem?_cons_zero, List.getElem?_cons_succ, List.set_cons_zero, List.set_cons_succ, List.append_nil, List.nil_append, List.cons_append, eq_self, true_and, and_true, if_true, Bool.false_eq_true, if_false, Bool.not_true, Bool.not_false, id_eq, sl0, sl1, sl2, sl3, sl4]
    exact ⟨by decide, cmL (by decide) (by decide), cd, cmL (by decide) (by decide), by decide, cp, fun p hp => h p _ hp ⟨_, _, _, rfl, q0 _, by have := q1 (ns[k.toNat] % 2147483629 + 104729 * k + 7919 * (k / 7)); omega⟩⟩
  · exact ⟨by decide, cmL (by decide) (by decide), cd, cmL (by decide) (by decide), by decide, cp, fun p hp => h p _ hp ⟨_, _, _, rfl, q0 _, by have := q1 (0 % 2147483629 + 104729 * k + 7919 * (k / 7)); omega⟩⟩
theorem ok_law_take {f : Addr} {fd : FuncData}  (B : Blt mg) (D : DefAt K mg "_law_take" (top 6) ["_law_state", "_law_many"] f fd) : FnOk P w K mg base CX0 1 f fd ["_law_state", "_law_many"] spTake := by
  have sc : FnScope ["_law_state", "_law_many", "_law_digit", "_law_number"] ["_law_state", "_law_many"] (defScope (top 6)) := ⟨rfl, rfl, rfl, by decide +kernel, rfl, by decide +kernel, by decide +kernel⟩
  refine D.F.ok sc (fun vs H Q E h => ?_) (fun cdv A outer s H vs Q E hr h => ?_)
  · obtain ⟨s, o, m, rfl, _⟩ := h
    rfl
  obtain ⟨st, o, m, rfl, es, ⟨c, x, fl, rfl, x0, x1⟩, m0, m1, h⟩ := h
  have hu := hu_of hr
  have hu0 : _ < PySem.cLine := Nat.lt_of_succ_lt hu
  refine ⟨_, (pss_cons (ps_if (qt_val (pe_ix q_ix (qv 0) pe_int (fun _ _ => rfl))) (pss_cons (ps_set (i := 2) sc.nd rfl (Or.inl rfl) (pe_op q_mod (pe_ix q_ix (qv 0) pe_int (fun _ _ => rfl)) (qv 1))) (pss_cons (ps_asg (pe_op q_fdiv (pe_ix q_ix (qv 0) pe_int (fun _ _ => rfl)) (qv 1)) (pg_sub (qv 0) pe_int q_setL)) (pss_cons (ps_asg (pe_cmpR q_gt (pe_ix q_ix (qv 0) pe_int (fun _ _ => rfl)) pe_int (nomark _)) (pg_sub (qv 0) pe_int q_setL)) (pss_one (ps_ret (qv 2)))))) pss_nil) (pss_cons (ps_asg (pe_op q_mod (pe_op q_add (pe_op q_mul (pe_ix q_ix (qv 0) pe_int (fun _ _ => rfl)) pe_int) pe_int) pe_int) (pg_sub (qv 0) pe_int q_setL)) (pss_cons (ps_set (i := 3) sc.nd rfl (Or.inl rfl) (pe_op q_fdiv (pe_op q_mod (pe_op q_mul (pe_ix q_ix (qv 0) pe_int (fun _ _ => rfl)) (pe_ix q_ix (qv 0) pe_int (fun _ _ => rfl))) pe_int) pe_int)) (pss_cons (ps_if (qt_cmp q_gt (qv 1) (pe_op q_pow pe_int pe_int) (nomark _)) (pss_cons (ps_asg (pe_op q_mod (pe_op q_add (pe_op q_mul (pe_ix q_ix (qv 0) pe_int (fun _ _ => rfl)) pe_int) pe_int) pe_int) (pg_sub (qv 0) pe_int q_setL)) (pss_one (ps_set (i := 3) sc.nd rfl (Or.inl rfl) (pe_op q_add (pe_op q_mul (qv 3) pe_int) (pe_ix q_ix (qv 0) pe_int (fun _ _ => rfl)))))) pss_nil) (pss_one (ps_ret (pe_op q_mod (qv 3) (qv 1)))))))), ?_⟩
  try simp only [tSeq, tNext, tDrop, tRet, tRetN, tIfS, tAsg, gName, fAug, tOp, tUn, tC, fVar, fI, fIC, fNeg, fEq, fNe, fIsN, isNon, fAnd, fOr, fNot, fB, tNot, tAnd, tOr, fChain, fIx, fLen, fListOf, fMin, fMax, fInL, fSlL, tSl, fPart, tNoPart, fAppend, fBM, fSetL, gSub, fGNil, fGCons, fGTup, fGLst, fDGet2, sDPutF, fCat, fClear, fBM0, fSlT, fInt1, tCBK, fDIn, fDGet, fIsi, fBools, fDictL, fLtT, tCall, tCB, tCons, tNil, tTup, tLst, tIf, tTrue, Kd.nm, L2.start, List.map_cons, List.map_nil, List.length_cons, List.length_nil, Nat.reduceAdd, Nat.reduceSub, List.replicate_succ, List.replicate_zero, List.getElem?_cons_zero, List.getElem?_cons_succ, List.set_cons_zero, List.set_cons_succ, List.append_nil, List.nil_append, List.cons_append, eq_self, true_and, and_true, if_true, Bool.false_eq_true, if_false, Bool.not_true, Bool.not_false, id_eq, sl0, sl1, sl2, sl3, sl4, seqOf, es, at0, at1, at2, ix30, ix31, ix32, upd_same, upd_upd]
  have lo : ∀ n : Int, 0 ≤ n % m := fun n => Int.emod_nonneg _ (by omega)
  have hi : ∀ n : Int, n % m < m := fun n => Int.emod_lt_of_pos _ (by omega)
  have y0 : 0 ≤ (x * 48271 + 39373) % 2147483647 := Int.emod_nonneg _ (by decide)
  have y1 : (x * 48271 + 39373) % 2147483647 < 2147483647 := Int.emod_lt_of_pos _ (by decide)
  generalize (x * 48271 + 39373) % 2147483647 = y at y0 y1
  have z0 : 0 ≤ (y * 48271 + 39373) % 2147483647 := Int.emod_nonneg _ (by decide)
  have z1 : (y * 48271 + 39373) % 2147483647 < 2147483647 := Int.emod_lt_of_pos _ (by decide)
  generalize (y * 48271 + 39373) % 2147483647 = z at z0 z1
  have cd : CDiv c m := ⟨by omega, by omega⟩
  have cd2 : ∀ n : Int, CDiv n 16 := fun n => ⟨by decide, by decide⟩
  have cp : CPow 10 6 := ⟨by decide, by decide, by decide⟩
  refine ite2 (fun _ => ⟨by omega, cd, h _ _ (lo _) (hi _) ⟨_, _, _, rfl, x0, x1⟩⟩) (fun _ => ⟨cmR (by decide) (by decide), by decide, cmL (by omega) (by omega), by decide, cd2 _, cp, ?_⟩)
  refine ite2 (fun _ => ⟨cmR (by decide) (by decide), by decide, cmR (by decide) (by decide), by omega, h _ _ (lo _) (hi _) ⟨_, _, _, rfl, z0, by omega⟩⟩) (fun _ => ⟨by omega, h _ _ (lo _) (hi _) ⟨_, _, _, rfl, y0, by omega⟩⟩)
end
end My

set_option Elab.async false
set_option linter.all false
set_option maxRecDepth 100000
set_option maxHeartbeats 4000000
namespace My
open PySem L2
section
variable {P : Program} {w : World} {K : PySem.W.Frag} {mg : Str → Option Value} {base : Heap} {c1 c2 c3 c4 : Tok}
theorem dd_snoc : ∀ (xs acc : List Int) (n : Int), dd acc (xs ++ [n]) = if n ∈ dd acc xs then dd acc xs else dd acc xs ++ [n]
  | [], acc, n => rfl
  | x :: r, acc, n => by
    rw [List.cons_append, dd, dd_snoc r]
    rfl
theorem dd_ins {ls : List (Str × List Int)} {i : Nat} {l : Str × List Int} (h : ls[i]? = some l) (c : l.1 = BES) : dd [] (insOf (ls.take (i + 1))) = (if lastN l ∈ dd [] (insOf (ls.take i)) then dd [] (insOf (ls.take i)) else dd [] (insOf (ls.take i)) ++ [lastN l]) ∧ outsOf (ls.take (i + 1)) = outsOf (ls.take i) := by
  rw [ins_take h, outs_take h, if_pos (decide_eq_true c), if_pos (decide_eq_true c), dd_snoc, List.append_nil]
  exact ⟨rfl, rfl⟩
theorem dd_outs {ls : List (Str × List Int)} {i : Nat} {l : Str × List Int} (h : ls[i]? = some l) (c : ¬ l.1 = BES) : dd [] (outsOf (ls.take (i + 1))) = (if lastN l ∈ dd [] (outsOf (ls.take i)) then dd [] (outsOf (ls.take i)) else dd [] (outsOf (ls.take i)) ++ [lastN l]) ∧ insOf (ls.take (i + 1)) = insOf (ls.take i) := by
  rw [ins_take h, outs_take h, if_neg (show ¬ decide (l.1 = BES) = true by simpa using c), if_neg (show ¬ decide (l.1 = BES) = true by simpa using c), dd_snoc, List.append_nil]
  exact ⟨rfl, rfl⟩
theorem dd_ins_len (ls : List (Str × List Int)) (i : Nat) : (dd [] (insOf (ls.take i))).length ≤ ls.length := by
  have h1 := dd_len (insOf (ls.take i)) (acc := [])
  have h2 := ins_len ls i
  rw [List.length_nil] at h1
  omega
theorem dd_outs_len (ls : List (Str × List Int)) (i : Nat) : (dd [] (outsOf (ls.take i))).length ≤ ls.length := by
  have h1 := dd_len (outsOf (ls.take i)) (acc := [])
  have h2 := outs_len ls i
  rw [List.length_nil] at h1
  omega
theorem ok_law_due {f : Addr} {fd : FuncData}  (B : Blt mg) (D : DefAt K mg "_law_due" (top 11) ["_law_chain_here"] f fd) : FnOk P w K mg base CX0 2 f fd ["_law_chain_here"] spFixedBy := by
  have sc : FnScope ["_law_chain_here", "_law_found", "_law_one", "_law_side"] ["_law_chain_here"] (defScope (top 11)) := ⟨rfl, rfl, rfl, by decide +kernel, rfl, by decide +kernel, by decide +kernel⟩
  refine D.F.ok sc (fun vs H Q E h => ?_) (fun cdv A outer s H vs Q E hr h => ?_)
  · obtain ⟨c, xs, ls, rfl, _⟩ := h
    rfl
  obtain ⟨c, xs, ls, rfl, ec, pl, ok, hl, h⟩ := h
  have hlx : xs.length = ls.length := Paired.length pl
  have hu := hu_of hr
  have hu0 : _ < PySem.cLine := Nat.lt_of_succ_lt hu
  refine ⟨_, (pss_cons (ps_set (i := 1) sc.nd rfl (Or.inl rfl) (pe_lst (pa_cons (pe_lst pa_nil) (pa_cons (pe_lst pa_nil) pa_nil)))) (pss_cons (ps_for PassesOwn.never rfl (pi_list (qv 0)) (pg_name (i := 2) sc.nd rfl (Or.inl rfl)) (pss_cons (ps_set (i := 3) sc.nd rfl (Or.inl rfl) (pe_ix q_ix (qv 1) (pe_callTy q_int1 rfl B.int PyProof.Rows.boot_int (pa_cons (pe_cmpR q_ne (pe_ix q_ix (qv 2) pe_int (fun _ _ => rfl)) pe_str (nomark _)) pa_nil)) (fun _ _ => rfl))) (pss_one (ps_if (qt_cmp q_notinL (pe_ix q_ix (qv 2) (pe_un q_neg pe_int) (fun _ _ => rfl)) (qv 3) (by with_unfolding_all rfl)) (pss_one (ps_expr (q_bm PySem.F.plainAttrs_list PySem.F.slot_list_append PySem.F.type_list_append q_append (qv 3) (pa_cons (pe_ix q_ix (qv 2) (pe_un q_neg pe_int) (fun _ _ => rfl)) pa_nil)))) pss_nil)))) (pss_one (ps_ret (pe_tup (pa_cons (pe_callB call_sortL rfl B.sorted PyProof.Rows.boot_sorted (pa_cons (pe_ix q_ix (qv 1) pe_int (fun _ _ => rfl)) pa_nil)) (pa_cons (pe_callB call_sortL rfl B.sorted PyProof.Rows.boot_sorted (pa_cons (pe_ix q_ix (qv 1) pe_int (fun _ _ => rfl)) pa_nil)) pa_nil))))))), ?_⟩
  try simp only [tSeq, tNext, tDrop, tRet, tRetN, tIfS, tAsg, gName, fAug, tOp, tUn, tC, fVar, fI, fIC, fNeg, fEq, fNe, fIsN, isNon, fAnd, fOr, fNot, fB, tNot, tAnd, tOr, fChain, fIx, fLen, fListOf, fMin, fMax, fInL, fSlL, tSl, fPart, tNoPart, fAppend, fBM, fSetL, gSub, fGNil, fGCons, fGTup, fGLst, fDGet2, sDPutF, fCat, fClear, fBM0, fSlT, fInt1, tCBK, fDIn, fDGet, fIsi, fBools, fDictL, fLtT, tCall, tCB, tCons, tNil, tTup, tLst, tIf, tTrue, Kd.nm, L2.start, List.map_cons, List.map_nil, List.length_cons, List.length_nil, Nat.reduceAdd, Nat.reduceSub, List.replicate_succ, List.replicate_zero, List.getElem?_cons_zero, List.getElem?_cons_succ, List.set_cons_zero, List.set_cons_succ, List.append_nil, List.nil_append, List.cons_append, eq_self, true_and, and_true, if_true, Bool.false_eq_true, if_false, Bool.not_true, Bool.not_false, id_eq, sl0, sl1, sl2, sl3, sl4]
  intro a ha b hb f hf
  have hab : a ≠ b := fun z => by rw [← z, upd_same] at hb; cases hb
  have haf : a ≠ f := fun z => by rw [← z, upd_ne hab, upd_same] at hf; cases hf
  have hbf : b ≠ f := fun z => by rw [← z, upd_same] at hf; cases hf
  have s0 : Same H (upd (upd (upd H a (.lst [])) b (.lst [])) f (.lst [.ref a, .ref b])) := (same_new ha _).trans ((same_new hb _).trans (same_new hf _))
  have ha0 := ha
  have hb0 : H b = none := by rw [upd_ne hab.symm] at hb; exact hb
  refine tFor_hide (Itl K c) _ (fun R hR => ?_) (for_list (K := K) (a := c) (xs := xs) (fun j σ H1 => ∃ v1 v2, σ = [some (.ref c), some (.ref f), v1, v2] ∧ Same H H1 ∧ H1 f = some (.lst [.ref a, .ref b]) ∧ H1 a = some (.lst ((dd [] (insOf (ls.take j))).map V.int)) ∧ H1 b = some (.lst ((dd [] (outsOf (ls.take j))).map V.int))) ⟨none, none, rfl, s0, upd_same, by rw [upd_ne haf, upd_ne hab, upd_same]; rfl, by rw [upd_ne hbf, upd_same]; rfl⟩ (fun j σ H1 _ ⟨_, _, _, s1, _⟩ => SqL.of (s1 _ _ ec)) ?_ ?_)
  · unfold iList
    try simp only [tSeq, tNext, tDrop, tRet, tRetN, tIfS, tAsg, gName, fAug, tOp, tUn, tC, fVar, fI, fIC, fNeg, fEq, fNe, fIsN, isNon, fAnd, fOr, fNot, fB, tNot, tAnd, tOr, fChain, fIx, fLen, fListOf, fMin, fMax, fInL, fSlL, tSl, fPart, tNoPart, fAppend, fBM, fSetL, gSub, fGNil, fGCons, fGTup, fGLst, fDGet2, sDPutF, fCat, fClear, fBM0, fSlT, fInt1, tCBK, fDIn, fDGet, fIsi, fBools, fDictL, fLtT, tCall, tCB, tCons, tNil, tTup, tLst, tIf, tTrue, Kd.nm, L2.start, List.map_cons, List.map_nil, List.length_cons, List.length_nil, Nat.reduceAdd, Nat.reduceSub, List.replicate_succ, List.replicate_zero, List.getElem?_cons_zero, List.getElem?_cons_succ, List.set_cons_zero, List.set_cons_succ, List.append_nil, List.nil_append, List.cons_append, eq_self, true_and, and_true, if_true, Bool.false_eq_true, if_false, Bool.not_true, Bool.not_false, id_eq, sl0, sl1, sl2, sl3, sl4]
    exact ⟨c, rfl, ⟨_, SqL.of (s0 _ _ ec)⟩, hR⟩
  · rintro j y σ H1 hj ⟨v1, v2, rfl, s1, ef, ea, eb⟩
    obtain ⟨lk, hlk, px⟩ := paired_left pl hj
    obtain ⟨t, rfl, e2⟩ := px.tups s1.tups
    have okl := ok lk (List.mem_of_getElem? hlk)
    have la := dd_ins_len ls j
    have lb := dd_outs_len ls j
    by_cases hw : lk.1 = BES
    · obtain ⟨d1, d2⟩ := dd_ins hlk hw
      have dw : decide (lk.1 = (Str.ofString "beside")) = true := decide_eq_true hw
      try simp only [tSeq, tNext, tDrop, tRet, tRetN, tIfS, tAsg, gName, fAug, tOp, tUn, tC, fVar, fI, fIC, fNeg, fEq, fNe, fIsN, isNon, fAnd, fOr, fNot, fB, tNot, tAnd, tOr, fChain, fIx, fLen, fListOf, fMin, fMax, fInL, fSlL, tSl, fPart, tNoPart, fAppend, fBM, fSetL, gSub, fGNil, fGCons, fGTup, fGLst, fDGet2, sDPutF, fCat, fClear, fBM0, fSlT, fInt1, tCBK, fDIn, fDGet, fIsi, fBools, fDictL, fLtT, tCall, tCB, tCons, tNil, tTup, tLst, tIf, tTrue, Kd.nm, L2.start, List.map_cons, List.map_nil, List.length_cons, List.length_nil, Nat.reduceAdd, Nat.reduceSub, List.replicate_succ, List.replicate_zero, List.getElem?_cons_zero, List.getElem?_cons_succ, List.set_cons_zero, List.set_cons_succ, List.append_nil, List.nil_append, List.cons_append, eq_self, true_and, and_true, if_true, Bool.false_eq_true, if_false, Bool.not_true, Bool.not_false, id_eq, sl0, sl1, sl2, sl3, sl4, seqOf, e2, at0, dw, at_last okl, ef, ea, flatV, flat_ints, inV_ints]
      refine ite2 (fun c1 => ?_) (fun c1 => ?_)
      · have c2 : ¬ lastN lk ∈ dd [] (insOf (ls.take j)) := by simpa using c1
        refine ⟨⟨a, _, rfl, ea⟩, szl' (by rw [List.length_map]; omega), _, _, rfl, same_upd s1 ha0, by rw [upd_ne haf.symm]; exact ef, ?_, ?_⟩
        · rw [upd_same, d1, if_neg c2, List.map_append]
          rfl
        · rw [upd_ne hab.symm, d2]
          exact eb
      · have c2 : lastN lk ∈ dd [] (insOf (ls.take j)) := by simpa using c1
        refine ⟨_, _, rfl, s1, ?_, ?_⟩
        · rw [d1, if_pos c2]
        · rw [d2]
          exact eb
    · obtain ⟨d1, d2⟩ := dd_outs hlk hw
      have dw : decide (lk.1 = (Str.ofString "beside")) = false := decide_eq_false hw
      try simp only [tSeq, tNext, tDrop, tRet, tRetN, tIfS, tAsg, gName, fAug, tOp, tUn, tC, fVar, fI, fIC, fNeg, fEq, fNe, fIsN, isNon, fAnd, fOr, fNot, fB, tNot, tAnd, tOr, fChain, fIx, fLen, fListOf, fMin, fMax, fInL, fSlL, tSl, fPart, tNoPart, fAppend, fBM, fSetL, gSub, fGNil, fGCons, fGTup, fGLst, fDGet2, sDPutF, fCat, fClear, fBM0, fSlT, fInt1, tCBK, fDIn, fDGet, fIsi, fBools, fDictL, fLtT, tCall, tCB, tCons, tNil, tTup, tLst, tIf, tTrue, Kd.nm, L2.start, List.map_cons, List.map_nil, List.length_cons, List.length_nil, Nat.reduceAdd, Nat.reduceSub, List.replicate_succ, List.replicate_zero, List.getElem?_cons_zero, List.getElem?_cons_succ, List.set_cons_zero, List.set_cons_succ, List.append_nil, List.nil_append, List.cons_append, eq_self, true_and, and_true, if_true, Bool.false_eq_true, if_false, Bool.not_true, Bool.not_false, id_eq, sl0, sl1, sl2, sl3, sl4, seqOf, e2, at0, at1, dw, at_last okl, ef, eb, flatV, flat_ints, inV_ints]
      refine ite2 (fun c1 => ?_) (fun c1 => ?_)
      · have c2 : ¬ lastN lk ∈ dd [] (outsOf (ls.take j)) := by simpa using c1
        refine ⟨⟨b, _, rfl, eb⟩, szl' (by rw [List.length_map]; omega), _, _, rfl, same_upd s1 hb0, by rw [upd_ne hbf.symm]; exact ef, ?_, ?_⟩
        · rw [upd_ne hab, d2]
          exact ea
        · rw [upd_same, d1, if_neg c2, List.map_append]
          rfl
      · have c2 : lastN lk ∈ dd [] (outsOf (ls.take j)) := by simpa using c1
        refine ⟨_, _, rfl, s1, ?_, ?_⟩
        · rw [d2]
          exact ea
        · rw [d1, if_pos c2]
  rintro σ H1 ⟨v1, v2, rfl, s1, ef, ea, eb⟩
  rw [hlx, List.take_length] at ea eb
  have la := dd_ins_len ls ls.length
  have lb := dd_outs_len ls ls.length
  rw [List.take_length] at la lb
  try simp only [tSeq, tNext, tDrop, tRet, tRetN, tIfS, tAsg, gName, fAug, tOp, tUn, tC, fVar, fI, fIC, fNeg, fEq, fNe, fIsN, isNon, fAnd, fOr, fNot, fB, tNot, tAnd, tOr, fChain, fIx, fLen, fListOf, fMin, fMax, fInL, fSlL, tSl, fPart, tNoPart, fAppend, fBM, fSetL, gSub, fGNil, fGCons, fGTup, fGLst, fDGet2, sDPutF, fCat, fClear, fBM0, fSlT, fInt1, tCBK, fDIn, fDGet, fIsi, fBools, fDictL, fLtT, tCall, tCB, tCons, tNil, tTup, tLst, tIf, tTrue, Kd.nm, L2.start, List.map_cons, List.map_nil, List.length_cons, List.length_nil, Nat.reduceAdd, Nat.reduceSub, List.replicate_succ, List.replicate_zero, List.getElem?_cons_zero, List.getElem?_cons_succ, List.set_cons_zero, List.set_cons_succ, List.append_nil, List.nil_append, List.cons_append, eq_self, true_and, and_true, if_true, Bool.false_eq_true, if_false, Bool.not_true, Bool.not_false, id_eq, sl0, sl1, sl2, sl3, sl4, seqOf, ef, at0, at1]
  refine ⟨a, _, rfl, ea, by omega, fun p ms hp p1 q1 => ?_⟩
  have s5 := same_new hp (.lst (ms.map V.int))
  try simp only [tSeq, tNext, tDrop, tRet, tRetN, tIfS, tAsg, gName, fAug, tOp, tUn, tC, fVar, fI, fIC, fNeg, fEq, fNe, fIsN, isNon, fAnd, fOr, fNot, fB, tNot, tAnd, tOr, fChain, fIx, fLen, fListOf, fMin, fMax, fInL, fSlL, tSl, fPart, tNoPart, fAppend, fBM, fSetL, gSub, fGNil, fGCons, fGTup, fGLst, fDGet2, sDPutF, fCat, fClear, fBM0, fSlT, fInt1, tCBK, fDIn, fDGet, fIsi, fBools, fDictL, fLtT, tCall, tCB, tCons, tNil, tTup, tLst, tIf, tTrue, Kd.nm, L2.start, List.map_cons, List.map_nil, List.length_cons, List.length_nil, Nat.reduceAdd, Nat.reduceSub, List.replicate_succ, List.replicate_zero, List.getElem?_cons_zero, List.getElem?_cons_succ, List.set_cons_zero, List.set_cons_succ, List.append_nil, List.nil_append, List.cons_append, eq_self, true_and, and_true, if_true, Bool.false_eq_true, if_false, Bool.not_true, Bool.not_false, id_eq, sl0, sl1, sl2, sl3, sl4, seqOf, s5 _ _ ef, at0, at1]
  refine ⟨b, _, rfl, s5 _ _ eb, by omega, fun q ns hq p2 q2 => ?_⟩
  intro t ht
  have sAll := s1.trans (s5.trans ((same_new hq (.lst (ns.map V.int))).trans (same_new ht (.tup [.ref p, .ref q]))))
  have hpq : p ≠ q := fun z => by rw [← z, upd_same] at hq; cases hq
  have hpt : p ≠ t := fun z => by rw [← z, upd_ne hpq, upd_same] at ht; cases ht
  have hqt : q ≠ t := fun z => by rw [← z, upd_same] at ht; cases ht
  refine h t p q ms ns _ sAll (s1.free hp) ((s1.trans s5).free hq) hpq upd_same ?_ ?_ (sort_dd p1 q1) (sort_dd p2 q2)
  · rw [upd_ne hpt, upd_ne hpq, upd_same]
  · rw [upd_ne hqt, upd_same]
end
end My

set_option Elab.async false
set_option linter.all false
set_option maxRecDepth 100000
set_option maxHeartbeats 4000000
namespace My
open PySem L2
section
variable {P : Program} {w : World} {K : PySem.W.Frag} {mg : Str → Option Value} {base : Heap} {c1 c2 c3 c4 : Tok}
/-- what the dues come to at a place -/
def paid (ds : List (Int × Int × Int)) (p : Int) : Int := (ds.map fun d => (if d.1 = p then d.2.2 else 0) + (if d.2.1 = p then d.2.2 else 0)).sum
theorem paid_snoc (ds : List (Int × Int × Int)) (d : Int × Int × Int) (p : Int) : paid (ds ++ [d]) p = paid ds p + (if d.1 = p then d.2.2 else 0) + (if d.2.1 = p then d.2.2 else 0) := by
  unfold paid
  rw [List.map_append, List.sum_append]
  simp
  omega
structure Pap (ps ts : List (Int × Int)) (ds : List (Int × Int × Int)) (hv : Int → Int) : Prop where
  loose : ∀ p ∈ ps, paid ds p.1 < 2 * p.2 → hv p.1 = 0
  tie : ∀ t ∈ ts, (0 ≤ hv t.1 ∧ hv t.1 ≤ 2) ∧ (0 ≤ hv t.2 ∧ hv t.2 ≤ 2) ∧ 2 ≤ hv t.1 + hv t.2
  due : ∀ t ∈ ts, ∀ d ∈ ds, (d.1, d.2.1) = t → hv t.1 + hv t.2 = 2
  lp : ps.length ≤ 9
  lt : ts.length ≤ 81
  ld : ds.length ≤ 81
def WebAt (H : Hp) (v : V) (ps ts : List (Int × Int)) : Prop :=
  ∃ u pa ta xs ys, v = .ref u ∧ H u = some (.tup [.ref pa, .ref ta]) ∧ H pa = some (.lst xs) ∧ H ta = some (.lst ys) ∧ Prs H xs ps ∧ Prs H ys ts
theorem WebAt.same {H H' : Hp} {v : V} {ps ts : List (Int × Int)} (h : WebAt H v ps ts) (s : Same H H') : WebAt H' v ps ts := by
  obtain ⟨u, pa, ta, xs, ys, e, h1, h2, h3, h4, h5⟩ := h
  exact ⟨u, pa, ta, xs, ys, e, s _ _ h1, s _ _ h2, s _ _ h3, Prs.same s h4, Prs.same s h5⟩
def Tr (H : Hp) (v : V) (d : Int × Int × Int) : Prop := ∃ t, v = .ref t ∧ H t = some (.tup [.int d.1, .int d.2.1, .int d.2.2])
theorem Tr.tups {H H' : Hp} {v : V} {d : Int × Int × Int} (h : Tr H v d) (s : TupS H H') : Tr H' v d := let ⟨t, e, q⟩ := h; ⟨t, e, s _ _ rfl q⟩
abbrev Trs (H : Hp) : List V → List (Int × Int × Int) → Prop := Paired (Tr H)
theorem Trs.tups {H H' : Hp} (s : TupS H H') {xs : List V} {ds : List (Int × Int × Int)} (h : Trs H xs ds) : Trs H' xs ds := Paired.mapP h fun _ _ q => q.tups s
def GoodL (hv : Int → Int) (l : Str × List Int) : Prop := OkL l ∧ (l.1 = BES → l.2.length = 2 ∧ hv (lastN l) = 2) ∧ (¬ l.1 = BES → hv (lastN l) = 0)
theorem at_two {l : Str × List Int} (h : l.2.length = 2) : atI (V.str l.1 :: l.2.map V.int) 2 = some (.int (lastN l)) := by
  obtain ⟨w, r⟩ := l
  match r, h with
  | [a, b], _ => rfl
theorem ins_good {hv : Int → Int} {ls : List (Str × List Int)} (h : ∀ l ∈ ls, GoodL hv l) {u : Int} (hu : u ∈ insOf ls) : hv u = 2 := by
  obtain ⟨l, hl, e⟩ := List.mem_map.mp hu
  obtain ⟨h1, h2⟩ := List.mem_filter.mp hl
  rw [← e]
  exact ((h l h1).2.1 (of_decide_eq_true h2)).2
theorem outs_good {hv : Int → Int} {ls : List (Str × List Int)} (h : ∀ l ∈ ls, GoodL hv l) {u : Int} (hu : u ∈ outsOf ls) : hv u = 0 := by
  obtain ⟨l, hl, e⟩ := List.mem_map.mp hu
  obtain ⟨h1, h2⟩ := List.mem_filter.mp hl
  rw [← e]
  exact (h l h1).2.2 (by simpa using h2)
theorem any_pair (ps : List (Int × Int)) (t : Int × Int) : ((ps.map pairD).any fun c => eqP c (pairD t)) = decide (t ∈ ps) := by
  induction ps with
  | nil => rfl
  | cons p r ih =>
    rw [List.map_cons, List.any_cons, ih]
    have e : eqP (pairD p) (pairD t) = decide (t = p) := by
      unfold pairD
      simp only [eqP, eqPs, Bool.and_true]
      by_cases h : t = p
      · subst h; simp
      · rw [decide_eq_false h]
        obtain ⟨a, b⟩ := p
        obtain ⟨c, d⟩ := t
        by_cases h1 : a = c
        · subst h1
          have : ¬ b = d := fun z => h (by rw [z])
          simp [this]
        · simp [h1]
    rw [e]
    simp
theorem dep_pairs (ps : List (Int × Int)) : depPs (ps.map pairD) ≤ 20 := by
  have : depPs (ps.map pairD) ≤ 1 := by
    induction ps with
    | nil => rw [List.map_nil, depPs]; omega
    | cons p r ih => rw [List.map_cons, depPs, pairD, depP]; simp [depPs, depP]; omega
  omega
/-- the dict of what is paid -/
def PaidD (kvs : List (Key × V)) (ds : List (Int × Int × Int)) : Prop := kvs.length ≤ 2 * ds.length ∧ ∀ p : Int, (valV kvs (Sum.inl p : Key)).getD (.int 0) = .int (paid ds p)
theorem PaidD.put {kvs : List (Key × V)} {ds : List (Int × Int × Int)} (h : PaidD kvs ds) (d : Int × Int × Int) :
    PaidD (putK (putK kvs (Sum.inl d.1 : Key) (.int (paid ds d.1 + d.2.2))) (Sum.inl d.2.1 : Key) (.int (paid ds d.2.1 + (if d.1 = d.2.1 then d.2.2 else 0) + d.2.2))) (ds ++ [d]) := by
  refine ⟨?_, fun p => ?_⟩
  · have h1 := length_putK (putK kvs (Sum.inl d.1 : Key) (.int (paid ds d.1 + d.2.2))) (Sum.inl d.2.1 : Key) (.int (paid ds d.2.1 + (if d.1 = d.2.1 then d.2.2 else 0) + d.2.2))
    have h2 := length_putK kvs (Sum.inl d.1 : Key) (.int (paid ds d.1 + d.2.2))
    have := h.1
    rw [List.length_append, List.length_singleton]
    omega
  · have h2 := h.2 p
    rw [valV_put, paid_snoc]
    by_cases c2 : p = d.2.1
    · subst c2
      rw [if_pos rfl]
      simp
    · have n2 : ¬ d.2.1 = p := fun z => c2 z.symm
      rw [if_neg (fun z => c2 (Sum.inl.inj z)), valV_put, if_neg n2]
      by_cases c1 : p = d.1
      · subst c1
        rw [if_pos rfl, if_pos rfl]
        simp
      · have n1 : ¬ d.1 = p := fun z => c1 z.symm
        rw [if_neg (fun z => c1 (Sum.inl.inj z)), if_neg n1, h2]
        simp
theorem PaidD.mid {kvs : List (Key × V)} {ds : List (Int × Int × Int)} (h : PaidD kvs ds) (d : Int × Int × Int) :
    (valV (putK kvs (Sum.inl d.1 : Key) (.int (paid ds d.1 + d.2.2))) (Sum.inl d.2.1 : Key)).getD (.int 0) = .int (paid ds d.2.1 + (if d.1 = d.2.1 then d.2.2 else 0)) := by
  have h2 := h.2 d.2.1
  rw [valV_put]
  by_cases c : d.1 = d.2.1
  · rw [if_pos (by rw [c]), if_pos c, ← c]; rfl
  · rw [if_neg (fun z => c (Sum.inl.inj z).symm), if_neg c, h2]; simp
def spNext : Sp := fun vs H Q _ => ∃ (wv : V) (da ca : Addr) (dx xs : List V) (ps ts : List (Int × Int)) (ds : List (Int × Int × Int)) (ls : List (Str × List Int)) (hv : Int → Int), vs = [wv, .ref da, .ref ca] ∧ WebAt H wv ps ts ∧ H da = some (.lst dx) ∧ Trs H dx ds ∧ H ca = some (.lst xs) ∧ Lks H xs ls ∧ Pap ps ts ds hv ∧ (∀ l ∈ ls, GoodL hv l) ∧ ls.length ≤ 60 ∧
  ∀ (f : Addr) (ys : List V) (ms : List (Str × List Int)) (H' : Hp), Same H H' → H f = none → H' f = some (.lst ys) → Lks H' ys ms → (∀ l ∈ ms, GoodL hv l) → ms.length ≤ 400 → Q (.ref f) H'
theorem ne_lb : ¬ (Str.ofString "loose") = BES := by unfold BES; decide
theorem ne_tb : ¬ (Str.ofString "tight") = BES := by unfold BES; decide
theorem tFor_hideI {ι : Type} {wi : TI} {g : TG} {tb : TS} {D : Ends} {σ : St} {H : Hp} (J : ι → It) (H1 : ι → Hp) (ok : ι → Prop) (h1 : ∀ R : It → Hp → Prop, (∀ i, ok i → R (J i) (H1 i)) → wi σ H R)
    (h2 : ∀ i0, ok i0 → ∃ W : Nat → Nat → St → Hp → Prop, (∃ m, W 0 m σ (H1 i0)) ∧ ∀ i m σ H, W i m σ H → ((J i0).stop i H ∧ D.nx σ H) ∨ ((J i0).go i H ∧ ∃ N : St → Hp → Prop, (∀ σ' H', N σ' H' → ∃ m', m' < m ∧ W (i + 1) m' σ' H') ∧ ∀ x H', (J i0).yld i H x H' → g x σ H' fun σ2 H2 => tb { D with nx := N, ct := N, bk := D.nx } σ2 H2)) :
    tFor wi g tb D σ H := h1 _ h2
theorem tups_keep {H : Hp} {f : Addr} {xs : List V} (e : H f = some (.lst xs)) (ys : List V) : TupS H (upd H f (.lst ys)) := tups_lst e
theorem ok_law_next {f : Addr} {fd : FuncData}  (B : Blt mg) (D : DefAt K mg "_law_next" (top 9) ["_law_web", "_law_dues", "_law_chain_here"] f fd) : FnOk P w K mg base CX0 2 f fd ["_law_web", "_law_dues", "_law_chain_here"] spNext := by
  have sc : FnScope ["_law_web", "_law_dues", "_law_chain_here", "_law_ins", "_law_outs", "_law_paid", "_law_one", "_law_other", "_law_amount", "_law_found", "_law_tied", "_law_u", "_law_v"] ["_law_web", "_law_dues", "_law_chain_here"] (defScope (top 9)) := ⟨rfl, rfl, rfl, by decide +kernel, rfl, by decide +kernel, by decide +kernel⟩
  refine D.F.ok sc (fun vs H Q E h => ?_) (fun cdv A outer s H vs Q E hr h => ?_)
  · obtain ⟨wv, da, ca, dx, xs, ps, ts, ds, ls, hv, rfl, _⟩ := h
    rfl
  obtain ⟨wv, da, ca, dx, xs, ps, ts, ds, ls, hv, rfl, hw, ed, pd, ec, pl, pap, ok, hl, h⟩ := h
  have hlx : xs.length = ls.length := Paired.length pl
  obtain ⟨u, pa, ta, px, tx, rfl, eu, epa, eta, pp, pt⟩ := hw
  have hpx : px.length = ps.length := Paired.length pp
  have htx : tx.length = ts.length := Paired.length pt
  have hdx : dx.length = ds.length := Paired.length pd
  have hlp := pap.lp
  have hlt := pap.lt
  have hld := pap.ld
  have hu := hu_of hr
  have hu0 : _ < PySem.cLine := Nat.lt_of_succ_lt hu
  refine ⟨_, (pss_cons (ps_setc (i := 3) sc.nd rfl (Or.inl rfl) (CpScope.of (N := ["_law_one"]) (src := [none]) (by rfl)) rfl (pi_list (qv 2)) (fun _ _ _ _ => (pg_name (i := 0) (nodupB_ok (l := ["_law_one"]) (by rfl)) rfl (Or.inl rfl))) (fun _ _ _ _ => (pif_one (qt_cmp q_eq (pe_ix q_ix (qv 0) pe_int (fun _ _ => rfl)) pe_str (nomark _)))) (fun _ _ _ _ => (pe_ix q_ix (qv 0) pe_int (fun _ _ => rfl)))) (pss_cons (ps_setc (i := 4) sc.nd rfl (Or.inl rfl) (CpScope.of (N := ["_law_one"]) (src := [none]) (by rfl)) rfl (pi_list (qv 2)) (fun _ _ _ _ => (pg_name (i := 0) (nodupB_ok (l := ["_law_one"]) (by rfl)) rfl (Or.inl rfl))) (fun _ _ _ _ => (pif_one (qt_cmp q_ne (pe_ix q_ix (qv 0) pe_int (fun _ _ => rfl)) pe_str (nomark _)))) (fun _ _ _ _ => (pe_ix q_ix (qv 0) (pe_un q_neg pe_int) (fun _ _ => rfl)))) (pss_cons (ps_set (i := 5) sc.nd rfl (Or.inr rfl) pe_dnewK) (pss_cons (ps_for PassesOwn.never rfl (pi_list (qv 1)) (qg_tup (n := 3) rfl (qgs_cons (pg_name (i := 6) sc.nd rfl (Or.inl rfl)) (qgs_cons (pg_name (i := 7) sc.nd rfl (Or.inl rfl)) (qgs_cons (pg_name (i := 8) sc.nd rfl (Or.inl rfl)) qgs_nil)))) (pss_cons (q_dput hu (qv 5) (qv 6) (pe_op q_add (q_dget2 hu (qv 5) (qv 6) pe_int) (qv 8))) (pss_one (q_dput hu (qv 5) (qv 7) (pe_op q_add (q_dget2 hu (qv 5) (qv 7) pe_int) (qv 8)))))) (pss_cons (ps_setc (i := 9) sc.nd rfl (Or.inl rfl) (CpScope.of (N := ["_law_place", "_law_price", "_law_paid"]) (src := [none, none, some 5]) (by rfl)) rfl (pi_list (pe_ix q_ix (qv 0) pe_int (fun _ _ => rfl))) (fun _ _ _ _ => (qg_tup (n := 2) rfl (qgs_cons (pg_name (i := 0) (nodupB_ok (l := ["_law_place", "_law_price", "_law_paid"]) (by rfl)) rfl (Or.inl rfl)) (qgs_cons (pg_name (i := 1) (nodupB_ok (l := ["_law_place", "_law_price", "_law_paid"]) (by rfl)) rfl (Or.inl rfl)) qgs_nil)))) (fun _ _ _ _ => (pif_one (qt_cmp q_lt (q_dget2 hu (qv 2) (qv 0) pe_int) (pe_op q_mul pe_int (qv 1)) (nomark _)))) (fun _ _ _ _ => (pe_tup (pa_cons pe_str (pa_cons (qv 0) pa_nil))))) (pss_cons (ps_setc (i := 10) sc.nd rfl (Or.inl rfl) (CpScope.of (N := ["_law_due_here"]) (src := [none]) (by rfl)) rfl (pi_list (qv 1)) (fun _ _ _ _ => (pg_name (i := 0) (nodupB_ok (l := ["_law_due_here"]) (by rfl)) rfl (Or.inl rfl))) (fun _ _ _ _ => pif_nil) (fun _ _ _ _ => (pe_slice q_slT (qv 0) po_none (qo_some pe_int)))) (pss_cons (ps_for PassesOwn.never rfl (pi_list (pe_ix q_ix (qv 0) pe_int (fun _ _ => rfl))) (qg_tup (n := 2) rfl (qgs_cons (pg_name (i := 6) sc.nd rfl (Or.inl rfl)) (qgs_cons (pg_name (i := 7) sc.nd rfl (Or.inl rfl)) qgs_nil))) (pss_one (ps_for PassesOwn.never rfl (pi_list (pe_lst (pa_cons (pe_tup (pa_cons (qv 6) (pa_cons (qv 7) pa_nil))) (pa_cons (pe_tup (pa_cons (qv 7) (pa_cons (qv 6) pa_nil))) pa_nil)))) (qg_tup (n := 2) rfl (qgs_cons (pg_name (i := 11) sc.nd rfl (Or.inl rfl)) (qgs_cons (pg_name (i := 12) sc.nd rfl (Or.inl rfl)) qgs_nil))) (pss_cons (ps_if (qt_cmp q_inL (qv 11) (qv 4) (by with_unfolding_all rfl)) (pss_one (ps_expr (q_bm PySem.F.plainAttrs_list PySem.F.slot_list_append PySem.F.type_list_append q_append (qv 9) (pa_cons (pe_tup (pa_cons pe_str (pa_cons (qv 11) (pa_cons (qv 12) pa_nil)))) pa_nil)))) pss_nil) (pss_one (ps_if (PW.pt (pw_and (qt_cmp q_inL (qv 11) (qv 3) (by with_unfolding_all rfl)) (pw_and1 (qt_cmp (op_inD hr.units) (pe_tup (pa_cons (qv 6) (pa_cons (qv 7) pa_nil))) (qv 10) (by with_unfolding_all rfl))))) (pss_one (ps_expr (q_bm PySem.F.plainAttrs_list PySem.F.slot_list_append PySem.F.type_list_append q_append (qv 9) (pa_cons (pe_tup (pa_cons pe_str (pa_cons (qv 11) (pa_cons (qv 12) pa_nil)))) pa_nil)))) pss_nil)))))) (pss_one (ps_ret (qv 9)))))))))), ?_⟩
  try simp only [tSeq, tNext, tDrop, tRet, tRetN, tIfS, tAsg, gName, fAug, tOp, tUn, tC, fVar, fI, fIC, fNeg, fEq, fNe, fIsN, isNon, fAnd, fOr, fNot, fB, tNot, tAnd, tOr, fChain, fIx, fLen, fListOf, fMin, fMax, fInL, fSlL, tSl, fPart, tNoPart, fAppend, fBM, fSetL, gSub, fGNil, fGCons, fGTup, fGLst, fDGet2, sDPutF, tDNewK, fCat, fClear, fBM0, fSlT, fInt1, tCBK, fDIn, fDGet, fIsi, fBools, fDictL, fLtT, tCall, tCB, tCons, tNil, tTup, tLst, tIf, tTrue, Kd.nm, L2.start, List.map_cons, List.map_nil, List.length_cons, List.length_nil, Nat.reduceAdd, Nat.reduceSub, List.replicate_succ, List.replicate_zero, List.getElem?_cons_zero, List.getElem?_cons_succ, List.set_cons_zero, List.set_cons_succ, List.append_nil, List.nil_append, List.cons_append, eq_self, true_and, and_true, if_true, Bool.false_eq_true, if_false, Bool.not_true, Bool.not_false, id_eq, sl0, sl1, sl2, sl3, sl4]
  
  refine tComp_hide (Itl K ca) H (fun R hR => ?_) (fun l1 h1 => comp_run ls.length (fun i σ' Hc => ∃ w1, σ' = [w1] ∧ Same H Hc ∧ Hc l1 = some (.lst ((insOf (ls.take i)).map V.int))) ⟨none, rfl, same_new h1 _, upd_same⟩ ?_ ?_)
  · unfold iList
    try simp only [tSeq, tNext, tDrop, tRet, tRetN, tIfS, tAsg, gName, fAug, tOp, tUn, tC, fVar, fI, fIC, fNeg, fEq, fNe, fIsN, isNon, fAnd, fOr, fNot, fB, tNot, tAnd, tOr, fChain, fIx, fLen, fListOf, fMin, fMax, fInL, fSlL, tSl, fPart, tNoPart, fAppend, fBM, fSetL, gSub, fGNil, fGCons, fGTup, fGLst, fDGet2, sDPutF, tDNewK, fCat, fClear, fBM0, fSlT, fInt1, tCBK, fDIn, fDGet, fIsi, fBools, fDictL, fLtT, tCall, tCB, tCons, tNil, tTup, tLst, tIf, tTrue, Kd.nm, L2.start, List.map_cons, List.map_nil, List.length_cons, List.length_nil, Nat.reduceAdd, Nat.reduceSub, List.replicate_succ, List.replicate_zero, List.getElem?_cons_zero, List.getElem?_cons_succ, List.set_cons_zero, List.set_cons_succ, List.append_nil, List.nil_append, List.cons_append, eq_self, true_and, and_true, if_true, Bool.false_eq_true, if_false, Bool.not_true, Bool.not_false, id_eq, sl0, sl1, sl2, sl3, sl4]
    exact ⟨ca, rfl, ⟨_, SqL.of ec⟩, hR⟩
  · rintro k σ' Hc hk ⟨w1, rfl, s4, ez⟩
    have hkx : k < xs.length := by omega
    have x1 : xs[k]? = some xs[k] := List.getElem?_eq_getElem hkx
    obtain ⟨lk, hlk, px⟩ := paired_left pl x1
    have z1 : SqL K Hc ca xs := SqL.of (s4 _ _ ec)
    refine ⟨⟨_, _, z1, x1⟩, ?_⟩
    rintro y H' ⟨rfl, hy⟩
    have E1 : xs[k] = y := Option.some.inj (x1.symm.trans (hy _ z1))
    obtain ⟨t, e1, e2⟩ := px.tups s4.tups
    rw [E1] at e1
    subst e1
    have okl := ok lk (List.mem_of_getElem? hlk)
    by_cases hb : lk.1 = BES
    · have db : decide (lk.1 = (Str.ofString "beside")) = true := decide_eq_true hb
      have ft := ins_take hlk
      try simp only [tSeq, tNext, tDrop, tRet, tRetN, tIfS, tAsg, gName, fAug, tOp, tUn, tC, fVar, fI, fIC, fNeg, fEq, fNe, fIsN, isNon, fAnd, fOr, fNot, fB, tNot, tAnd, tOr, fChain, fIx, fLen, fListOf, fMin, fMax, fInL, fSlL, tSl, fPart, tNoPart, fAppend, fBM, fSetL, gSub, fGNil, fGCons, fGTup, fGLst, fDGet2, sDPutF, tDNewK, fCat, fClear, fBM0, fSlT, fInt1, tCBK, fDIn, fDGet, fIsi, fBools, fDictL, fLtT, tCall, tCB, tCons, tNil, tTup, tLst, tIf, tTrue, Kd.nm, L2.start, List.map_cons, List.map_nil, List.length_cons, List.length_nil, Nat.reduceAdd, Nat.reduceSub, List.replicate_succ, List.replicate_zero, List.getElem?_cons_zero, List.getElem?_cons_succ, List.set_cons_zero, List.set_cons_succ, List.append_nil, List.nil_append, List.cons_append, eq_self, true_and, and_true, if_true, Bool.false_eq_true, if_false, Bool.not_true, Bool.not_false, id_eq, sl0, sl1, sl2, sl3, sl4, seqOf, e2, at0, db, at_two (okl.2.1 hb).1]
      rw [ft, if_pos (decide_eq_true hb)]
      refine ⟨_, ez, ?_, _, rfl, same_upd s4 h1, ?_⟩
      · rw [List.length_map]
        have := ins_len ls k
        exact szl' (by omega)
      · rw [List.map_append]
        first | rfl | exact upd_same
    · have db : decide (lk.1 = (Str.ofString "beside")) = false := decide_eq_false hb
      have ft := ins_take hlk
      try simp only [tSeq, tNext, tDrop, tRet, tRetN, tIfS, tAsg, gName, fAug, tOp, tUn, tC, fVar, fI, fIC, fNeg, fEq, fNe, fIsN, isNon, fAnd, fOr, fNot, fB, tNot, tAnd, tOr, fChain, fIx, fLen, fListOf, fMin, fMax, fInL, fSlL, tSl, fPart, tNoPart, fAppend, fBM, fSetL, gSub, fGNil, fGCons, fGTup, fGLst, fDGet2, sDPutF, tDNewK, fCat, fClear, fBM0, fSlT, fInt1, tCBK, fDIn, fDGet, fIsi, fBools, fDictL, fLtT, tCall, tCB, tCons, tNil, tTup, tLst, tIf, tTrue, Kd.nm, L2.start, List.map_cons, List.map_nil, List.length_cons, List.length_nil, Nat.reduceAdd, Nat.reduceSub, List.replicate_succ, List.replicate_zero, List.getElem?_cons_zero, List.getElem?_cons_succ, List.set_cons_zero, List.set_cons_succ, List.append_nil, List.nil_append, List.cons_append, eq_self, true_and, and_true, if_true, Bool.false_eq_true, if_false, Bool.not_true, Bool.not_false, id_eq, sl0, sl1, sl2, sl3, sl4, seqOf, e2, at0, db]
      rw [ft, if_neg (show ¬ decide (lk.1 = BES) = true by simpa using hb), List.append_nil]
      exact ⟨_, rfl, s4, ez⟩
  
  rintro σ' H1 ⟨w1, rfl, s1, e1⟩
  refine ⟨⟨_, SqL.of (s1 _ _ ec), by rw [hlx]; exact Nat.le_refl _⟩, ?_⟩
  rw [List.take_length] at e1
  have ec1 := s1 _ _ ec
  have pl1 := Lks.tups s1.tups pl
  try simp only [tSeq, tNext, tDrop, tRet, tRetN, tIfS, tAsg, gName, fAug, tOp, tUn, tC, fVar, fI, fIC, fNeg, fEq, fNe, fIsN, isNon, fAnd, fOr, fNot, fB, tNot, tAnd, tOr, fChain, fIx, fLen, fListOf, fMin, fMax, fInL, fSlL, tSl, fPart, tNoPart, fAppend, fBM, fSetL, gSub, fGNil, fGCons, fGTup, fGLst, fDGet2, sDPutF, tDNewK, fCat, fClear, fBM0, fSlT, fInt1, tCBK, fDIn, fDGet, fIsi, fBools, fDictL, fLtT, tCall, tCB, tCons, tNil, tTup, tLst, tIf, tTrue, Kd.nm, L2.start, List.map_cons, List.map_nil, List.length_cons, List.length_nil, Nat.reduceAdd, Nat.reduceSub, List.replicate_succ, List.replicate_zero, List.getElem?_cons_zero, List.getElem?_cons_succ, List.set_cons_zero, List.set_cons_succ, List.append_nil, List.nil_append, List.cons_append, eq_self, true_and, and_true, if_true, Bool.false_eq_true, if_false, Bool.not_true, Bool.not_false, id_eq, sl0, sl1, sl2, sl3, sl4]
  
  refine tComp_hide (Itl K ca) H1 (fun R hR => ?_) (fun l2 h2 => comp_run ls.length (fun i σ' Hc => ∃ w1, σ' = [w1] ∧ Same H1 Hc ∧ Hc l2 = some (.lst ((outsOf (ls.take i)).map V.int))) ⟨none, rfl, same_new h2 _, upd_same⟩ ?_ ?_)
  · unfold iList
    try simp only [tSeq, tNext, tDrop, tRet, tRetN, tIfS, tAsg, gName, fAug, tOp, tUn, tC, fVar, fI, fIC, fNeg, fEq, fNe, fIsN, isNon, fAnd, fOr, fNot, fB, tNot, tAnd, tOr, fChain, fIx, fLen, fListOf, fMin, fMax, fInL, fSlL, tSl, fPart, tNoPart, fAppend, fBM, fSetL, gSub, fGNil, fGCons, fGTup, fGLst, fDGet2, sDPutF, tDNewK, fCat, fClear, fBM0, fSlT, fInt1, tCBK, fDIn, fDGet, fIsi, fBools, fDictL, fLtT, tCall, tCB, tCons, tNil, tTup, tLst, tIf, tTrue, Kd.nm, L2.start, List.map_cons, List.map_nil, List.length_cons, List.length_nil, Nat.reduceAdd, Nat.reduceSub, List.replicate_succ, List.replicate_zero, List.getElem?_cons_zero, List.getElem?_cons_succ, List.set_cons_zero, List.set_cons_succ, List.append_nil, List.nil_append, List.cons_append, eq_self, true_and, and_true, if_true, Bool.false_eq_true, if_false, Bool.not_true, Bool.not_false, id_eq, sl0, sl1, sl2, sl3, sl4]
    exact ⟨ca, rfl, ⟨_, SqL.of ec1⟩, hR⟩
  · rintro k σ' Hc hk ⟨w1, rfl, s4, ez⟩
    have hkx : k < xs.length := by omega
    have x1 : xs[k]? = some xs[k] := List.getElem?_eq_getElem hkx
    obtain ⟨lk, hlk, px⟩ := paired_left pl1 x1
    have z1 : SqL K Hc ca xs := SqL.of (s4 _ _ ec1)
    refine ⟨⟨_, _, z1, x1⟩, ?_⟩
    rintro y H' ⟨rfl, hy⟩
    have E1 : xs[k] = y := Option.some.inj (x1.symm.trans (hy _ z1))
    obtain ⟨t, e1, e2⟩ := px.tups s4.tups
    rw [E1] at e1
    subst e1
    have okl := ok lk (List.mem_of_getElem? hlk)
    have ft := outs_take hlk
    try simp only [tSeq, tNext, tDrop, tRet, tRetN, tIfS, tAsg, gName, fAug, tOp, tUn, tC, fVar, fI, fIC, fNeg, fEq, fNe, fIsN, isNon, fAnd, fOr, fNot, fB, tNot, tAnd, tOr, fChain, fIx, fLen, fListOf, fMin, fMax, fInL, fSlL, tSl, fPart, tNoPart, fAppend, fBM, fSetL, gSub, fGNil, fGCons, fGTup, fGLst, fDGet2, sDPutF, tDNewK, fCat, fClear, fBM0, fSlT, fInt1, tCBK, fDIn, fDGet, fIsi, fBools, fDictL, fLtT, tCall, tCB, tCons, tNil, tTup, tLst, tIf, tTrue, Kd.nm, L2.start, List.map_cons, List.map_nil, List.length_cons, List.length_nil, Nat.reduceAdd, Nat.reduceSub, List.replicate_succ, List.replicate_zero, List.getElem?_cons_zero, List.getElem?_cons_succ, List.set_cons_zero, List.set_cons_succ, List.append_nil, List.nil_append, List.cons_append, eq_self, true_and, and_true, if_true, Bool.false_eq_true, if_false, Bool.not_true, Bool.not_false, id_eq, sl0, sl1, sl2, sl3, sl4, seqOf, e2, at0, at_last okl.1]
    rw [ft]
    refine ite2 (fun c1 => ?_) (fun c1 => ?_)
    · rw [if_neg (show ¬ decide (lk.1 = BES) = true by unfold BES; simpa using c1)]
      refine ⟨_, ez, ?_, _, rfl, same_upd s4 h2, ?_⟩
      · rw [List.length_map]
        have := outs_len ls k
        exact szl' (by omega)
      · rw [List.map_append]
        first | rfl | exact upd_same
    · rw [if_pos (show decide (lk.1 = BES) = true by unfold BES; simpa using c1), List.append_nil]
      exact ⟨_, rfl, s4, ez⟩
  
  rintro σ' H2 ⟨w1, rfl, s2, e2⟩
  refine ⟨⟨_, SqL.of (s2 _ _ ec1), by rw [hlx]; exact Nat.le_refl _⟩, ?_⟩
  rw [List.take_length] at e2
  have e1' := s2 _ _ e1
  have s02 := s1.trans s2
  try simp only [tSeq, tNext, tDrop, tRet, tRetN, tIfS, tAsg, gName, fAug, tOp, tUn, tC, fVar, fI, fIC, fNeg, fEq, fNe, fIsN, isNon, fAnd, fOr, fNot, fB, tNot, tAnd, tOr, fChain, fIx, fLen, fListOf, fMin, fMax, fInL, fSlL, tSl, fPart, tNoPart, fAppend, fBM, fSetL, gSub, fGNil, fGCons, fGTup, fGLst, fDGet2, sDPutF, tDNewK, fCat, fClear, fBM0, fSlT, fInt1, tCBK, fDIn, fDGet, fIsi, fBools, fDictL, fLtT, tCall, tCB, tCons, tNil, tTup, tLst, tIf, tTrue, Kd.nm, L2.start, List.map_cons, List.map_nil, List.length_cons, List.length_nil, Nat.reduceAdd, Nat.reduceSub, List.replicate_succ, List.replicate_zero, List.getElem?_cons_zero, List.getElem?_cons_succ, List.set_cons_zero, List.set_cons_succ, List.append_nil, List.nil_append, List.cons_append, eq_self, true_and, and_true, if_true, Bool.false_eq_true, if_false, Bool.not_true, Bool.not_false, id_eq, sl0, sl1, sl2, sl3, sl4]
  intro pd0 hpd
  have s3 := same_new hpd (.dK [])
  refine tFor_hide (Itl K da) _ (fun R hR => ?_) (for_list (K := K) (a := da) (xs := dx) (fun j σ H3 => ∃ v1 v2 v3 v4 v5 v6 v7 kvs, σ = [some (.ref u), some (.ref da), some (.ref ca), some (.ref l1), some (.ref l2), some (.ref pd0), v1, v2, v3, v4, v5, v6, v7] ∧ Same H2 H3 ∧ H3 pd0 = some (.dK kvs) ∧ PaidD kvs (ds.take j)) ⟨none, none, none, none, none, none, none, [], rfl, s3, upd_same, ⟨by simp, fun p => rfl⟩⟩ (fun j σ H3 _ ⟨_, _, _, _, _, _, _, _, _, s3', _⟩ => SqL.of ((s02.trans s3') _ _ ed)) ?_ ?_)
  · unfold iList
    try simp only [tSeq, tNext, tDrop, tRet, tRetN, tIfS, tAsg, gName, fAug, tOp, tUn, tC, fVar, fI, fIC, fNeg, fEq, fNe, fIsN, isNon, fAnd, fOr, fNot, fB, tNot, tAnd, tOr, fChain, fIx, fLen, fListOf, fMin, fMax, fInL, fSlL, tSl, fPart, tNoPart, fAppend, fBM, fSetL, gSub, fGNil, fGCons, fGTup, fGLst, fDGet2, sDPutF, tDNewK, fCat, fClear, fBM0, fSlT, fInt1, tCBK, fDIn, fDGet, fIsi, fBools, fDictL, fLtT, tCall, tCB, tCons, tNil, tTup, tLst, tIf, tTrue, Kd.nm, L2.start, List.map_cons, List.map_nil, List.length_cons, List.length_nil, Nat.reduceAdd, Nat.reduceSub, List.replicate_succ, List.replicate_zero, List.getElem?_cons_zero, List.getElem?_cons_succ, List.set_cons_zero, List.set_cons_succ, List.append_nil, List.nil_append, List.cons_append, eq_self, true_and, and_true, if_true, Bool.false_eq_true, if_false, Bool.not_true, Bool.not_false, id_eq, sl0, sl1, sl2, sl3, sl4]
    exact ⟨da, rfl, ⟨_, SqL.of ((s02.trans s3) _ _ ed)⟩, hR⟩
  · rintro j y σ H3 hj ⟨v1, v2, v3, v4, v5, v6, v7, kvs, rfl, s3', ek, pk⟩
    obtain ⟨d, hd, px⟩ := paired_left pd hj
    obtain ⟨t, rfl, e3⟩ := px.tups (s02.trans s3').tups
    have g1 := pk.2 d.1
    have lk := pk.1
    try simp only [tSeq, tNext, tDrop, tRet, tRetN, tIfS, tAsg, gName, fAug, tOp, tUn, tC, fVar, fI, fIC, fNeg, fEq, fNe, fIsN, isNon, fAnd, fOr, fNot, fB, tNot, tAnd, tOr, fChain, fIx, fLen, fListOf, fMin, fMax, fInL, fSlL, tSl, fPart, tNoPart, fAppend, fBM, fSetL, gSub, fGNil, fGCons, fGTup, fGLst, fDGet2, sDPutF, tDNewK, fCat, fClear, fBM0, fSlT, fInt1, tCBK, fDIn, fDGet, fIsi, fBools, fDictL, fLtT, tCall, tCB, tCons, tNil, tTup, tLst, tIf, tTrue, Kd.nm, L2.start, List.map_cons, List.map_nil, List.length_cons, List.length_nil, Nat.reduceAdd, Nat.reduceSub, List.replicate_succ, List.replicate_zero, List.getElem?_cons_zero, List.getElem?_cons_succ, List.set_cons_zero, List.set_cons_succ, List.append_nil, List.nil_append, List.cons_append, eq_self, true_and, and_true, if_true, Bool.false_eq_true, if_false, Bool.not_true, Bool.not_false, id_eq, sl0, sl1, sl2, sl3, sl4, e3, ek, upd_same, g1, pk.mid d, upd_upd]
    have hjl : (ds.take j).length ≤ ds.length := by rw [List.length_take]; omega
    have z1 := length_putK kvs (Sum.inl d.1 : Key) (.int (paid (ds.take j) d.1 + d.2.2))
    refine ⟨⟨_, rfl⟩, szl' (by omega), ⟨_, rfl⟩, szl' (by omega), _, _, _, _, _, _, _, _, rfl, same_upd s3' hpd, rfl, ?_⟩
    rw [take_get hd]
    exact pk.put d
  rintro σ H3 ⟨v1, v2, v3, v4, v5, v6, v7, kvs, rfl, s3', ek, pk⟩
  rw [hdx, List.take_length] at pk
  have s03 := s02.trans s3'
  have eu3 := s03 _ _ eu
  have epa3 := s03 _ _ epa
  have pp3 := Prs.same s03 pp
  clear s3 hpd
  try simp only [tSeq, tNext, tDrop, tRet, tRetN, tIfS, tAsg, gName, fAug, tOp, tUn, tC, fVar, fI, fIC, fNeg, fEq, fNe, fIsN, isNon, fAnd, fOr, fNot, fB, tNot, tAnd, tOr, fChain, fIx, fLen, fListOf, fMin, fMax, fInL, fSlL, tSl, fPart, tNoPart, fAppend, fBM, fSetL, gSub, fGNil, fGCons, fGTup, fGLst, fDGet2, sDPutF, tDNewK, fCat, fClear, fBM0, fSlT, fInt1, tCBK, fDIn, fDGet, fIsi, fBools, fDictL, fLtT, tCall, tCB, tCons, tNil, tTup, tLst, tIf, tTrue, Kd.nm, L2.start, List.map_cons, List.map_nil, List.length_cons, List.length_nil, Nat.reduceAdd, Nat.reduceSub, List.replicate_succ, List.replicate_zero, List.getElem?_cons_zero, List.getElem?_cons_succ, List.set_cons_zero, List.set_cons_succ, List.append_nil, List.nil_append, List.cons_append, eq_self, true_and, and_true, if_true, Bool.false_eq_true, if_false, Bool.not_true, Bool.not_false, id_eq, sl0, sl1, sl2, sl3, sl4]
  refine tComp_hide (Itl K pa) H3 (fun R hR => ?_) (fun f0 hf0 => comp_run ps.length (fun i σ' Hc => ∃ w1 w2 ys ms, σ' = [w1, w2, some (.ref pd0)] ∧ Same H3 Hc ∧ Hc f0 = some (.lst ys) ∧ Lks Hc ys ms ∧ (∀ l ∈ ms, GoodL hv l) ∧ ms.length ≤ i) ⟨none, none, [], [], rfl, same_new hf0 _, upd_same, .nil, (fun l hl => by cases hl), Nat.zero_le _⟩ ?_ ?_)
  · unfold iList
    try simp only [tSeq, tNext, tDrop, tRet, tRetN, tIfS, tAsg, gName, fAug, tOp, tUn, tC, fVar, fI, fIC, fNeg, fEq, fNe, fIsN, isNon, fAnd, fOr, fNot, fB, tNot, tAnd, tOr, fChain, fIx, fLen, fListOf, fMin, fMax, fInL, fSlL, tSl, fPart, tNoPart, fAppend, fBM, fSetL, gSub, fGNil, fGCons, fGTup, fGLst, fDGet2, sDPutF, tDNewK, fCat, fClear, fBM0, fSlT, fInt1, tCBK, fDIn, fDGet, fIsi, fBools, fDictL, fLtT, tCall, tCB, tCons, tNil, tTup, tLst, tIf, tTrue, Kd.nm, L2.start, List.map_cons, List.map_nil, List.length_cons, List.length_nil, Nat.reduceAdd, Nat.reduceSub, List.replicate_succ, List.replicate_zero, List.getElem?_cons_zero, List.getElem?_cons_succ, List.set_cons_zero, List.set_cons_succ, List.append_nil, List.nil_append, List.cons_append, eq_self, true_and, and_true, if_true, Bool.false_eq_true, if_false, Bool.not_true, Bool.not_false, id_eq, sl0, sl1, sl2, sl3, sl4, seqOf, eu3, at0]
    exact ⟨pa, rfl, ⟨_, SqL.of epa3⟩, hR⟩
  · rintro k σ' Hc hk ⟨w1, w2, ys, ms, rfl, s4, ez, pz, gz, lz⟩
    have hkx : k < px.length := by omega
    have x1 : px[k]? = some px[k] := List.getElem?_eq_getElem hkx
    obtain ⟨p, hp, qx⟩ := paired_left pp3 x1
    have z1 : SqL K Hc pa px := SqL.of (s4 _ _ epa3)
    refine ⟨⟨_, _, z1, x1⟩, ?_⟩
    rintro y H' ⟨rfl, hy⟩
    have E1 : px[k] = y := Option.some.inj (x1.symm.trans (hy _ z1))
    obtain ⟨t, e1, e4⟩ := qx.same s4
    rw [E1] at e1
    subst e1
    have g1 := pk.2 p.1
    have ek4 := s4 _ _ ek
    have hyl : ys.length = ms.length := Paired.length pz
    try simp only [tSeq, tNext, tDrop, tRet, tRetN, tIfS, tAsg, gName, fAug, tOp, tUn, tC, fVar, fI, fIC, fNeg, fEq, fNe, fIsN, isNon, fAnd, fOr, fNot, fB, tNot, tAnd, tOr, fChain, fIx, fLen, fListOf, fMin, fMax, fInL, fSlL, tSl, fPart, tNoPart, fAppend, fBM, fSetL, gSub, fGNil, fGCons, fGTup, fGLst, fDGet2, sDPutF, tDNewK, fCat, fClear, fBM0, fSlT, fInt1, tCBK, fDIn, fDGet, fIsi, fBools, fDictL, fLtT, tCall, tCB, tCons, tNil, tTup, tLst, tIf, tTrue, Kd.nm, L2.start, List.map_cons, List.map_nil, List.length_cons, List.length_nil, Nat.reduceAdd, Nat.reduceSub, List.replicate_succ, List.replicate_zero, List.getElem?_cons_zero, List.getElem?_cons_succ, List.set_cons_zero, List.set_cons_succ, List.append_nil, List.nil_append, List.cons_append, eq_self, true_and, and_true, if_true, Bool.false_eq_true, if_false, Bool.not_true, Bool.not_false, id_eq, sl0, sl1, sl2, sl3, sl4, seqOf, e4, ek4, g1]
    refine ⟨⟨_, rfl⟩, cmL (by decide) (by decide), ?_⟩
    refine ite2 (fun c1 => ?_) (fun c1 => ?_)
    · intro t2 ht2
      have c2 : paid ds p.1 < 2 * p.2 := of_decide_eq_true c1
      refine ⟨_, same_new ht2 _ _ _ ez, szl' (by omega), _, _, _, ms ++ [((Str.ofString "loose"), [p.1])], rfl, same_upd (s4.trans (same_new ht2 _)) hf0, upd_same, ?_, fun l hl => ?_, by rw [List.length_append, List.length_singleton]; omega⟩
      · have ks := (tups_new (o := .tup [.str (Str.ofString "loose"), .int p.1]) ht2).trans (tups_lst (ys := ys ++ [.ref t2]) (same_new ht2 (.tup [.str (Str.ofString "loose"), .int p.1]) _ _ ez))
        refine paired_snoc (Lks.tups ks pz) ⟨t2, rfl, ?_⟩
        rw [upd_ne (ne_of_none ez ht2).symm, upd_same]
        rfl
      · rcases List.mem_append.mp hl with hl | hl
        · exact gz l hl
        · rw [List.mem_singleton.mp hl]
          refine ⟨.inl rfl, fun z => ?_, fun _ => pap.loose p (List.mem_of_getElem? hp) c2⟩
          exact absurd z ne_lb
    · exact ⟨_, _, _, ms, rfl, s4, ez, pz, gz, by omega⟩
  rintro σ' H4 ⟨w1, w2, ys, ms, rfl, s4, ez, pz, gz, lz⟩
  refine ⟨⟨_, SqL.of (s4 _ _ epa3), by rw [hpx]; exact Nat.le_refl _⟩, ?_⟩
  try simp only [tSeq, tNext, tDrop, tRet, tRetN, tIfS, tAsg, gName, fAug, tOp, tUn, tC, fVar, fI, fIC, fNeg, fEq, fNe, fIsN, isNon, fAnd, fOr, fNot, fB, tNot, tAnd, tOr, fChain, fIx, fLen, fListOf, fMin, fMax, fInL, fSlL, tSl, fPart, tNoPart, fAppend, fBM, fSetL, gSub, fGNil, fGCons, fGTup, fGLst, fDGet2, sDPutF, tDNewK, fCat, fClear, fBM0, fSlT, fInt1, tCBK, fDIn, fDGet, fIsi, fBools, fDictL, fLtT, tCall, tCB, tCons, tNil, tTup, tLst, tIf, tTrue, Kd.nm, L2.start, List.map_cons, List.map_nil, List.length_cons, List.length_nil, Nat.reduceAdd, Nat.reduceSub, List.replicate_succ, List.replicate_zero, List.getElem?_cons_zero, List.getElem?_cons_succ, List.set_cons_zero, List.set_cons_succ, List.append_nil, List.nil_append, List.cons_append, eq_self, true_and, and_true, if_true, Bool.false_eq_true, if_false, Bool.not_true, Bool.not_false, id_eq, sl0, sl1, sl2, sl3, sl4]
  have ez4 := ez
  have s04 := s03.trans s4
  have hf04 : H f0 = none := s03.free hf0
  have ed4 := s04 _ _ ed
  have pd4 := Trs.tups s04.tups pd
  refine tComp_hide (Itl K da) H4 (fun R hR => ?_) (fun d0 hd0 => comp_run ds.length (fun i σ' Hc => ∃ w1 zs, σ' = [w1] ∧ Same H4 Hc ∧ Hc d0 = some (.lst zs) ∧ Prs Hc zs ((ds.take i).map fun d => (d.1, d.2.1))) ⟨none, [], rfl, same_new hd0 _, upd_same, .nil⟩ ?_ ?_)
  · unfold iList
    try simp only [tSeq, tNext, tDrop, tRet, tRetN, tIfS, tAsg, gName, fAug, tOp, tUn, tC, fVar, fI, fIC, fNeg, fEq, fNe, fIsN, isNon, fAnd, fOr, fNot, fB, tNot, tAnd, tOr, fChain, fIx, fLen, fListOf, fMin, fMax, fInL, fSlL, tSl, fPart, tNoPart, fAppend, fBM, fSetL, gSub, fGNil, fGCons, fGTup, fGLst, fDGet2, sDPutF, tDNewK, fCat, fClear, fBM0, fSlT, fInt1, tCBK, fDIn, fDGet, fIsi, fBools, fDictL, fLtT, tCall, tCB, tCons, tNil, tTup, tLst, tIf, tTrue, Kd.nm, L2.start, List.map_cons, List.map_nil, List.length_cons, List.length_nil, Nat.reduceAdd, Nat.reduceSub, List.replicate_succ, List.replicate_zero, List.getElem?_cons_zero, List.getElem?_cons_succ, List.set_cons_zero, List.set_cons_succ, List.append_nil, List.nil_append, List.cons_append, eq_self, true_and, and_true, if_true, Bool.false_eq_true, if_false, Bool.not_true, Bool.not_false, id_eq, sl0, sl1, sl2, sl3, sl4]
    exact ⟨da, rfl, ⟨_, SqL.of ed4⟩, hR⟩
  · rintro k σ' Hc hk ⟨w1, zs, rfl, s5, e5, p5⟩
    have hkx : k < dx.length := by omega
    have x1 : dx[k]? = some dx[k] := List.getElem?_eq_getElem hkx
    obtain ⟨d, hd, qx⟩ := paired_left pd4 x1
    have z1 : SqL K Hc da dx := SqL.of (s5 _ _ ed4)
    refine ⟨⟨_, _, z1, x1⟩, ?_⟩
    rintro y H' ⟨rfl, hy⟩
    have E1 : dx[k] = y := Option.some.inj (x1.symm.trans (hy _ z1))
    obtain ⟨t, e1, e6⟩ := qx.tups s5.tups
    rw [E1] at e1
    subst e1
    try simp only [tSeq, tNext, tDrop, tRet, tRetN, tIfS, tAsg, gName, fAug, tOp, tUn, tC, fVar, fI, fIC, fNeg, fEq, fNe, fIsN, isNon, fAnd, fOr, fNot, fB, tNot, tAnd, tOr, fChain, fIx, fLen, fListOf, fMin, fMax, fInL, fSlL, tSl, fPart, tNoPart, fAppend, fBM, fSetL, gSub, fGNil, fGCons, fGTup, fGLst, fDGet2, sDPutF, tDNewK, fCat, fClear, fBM0, fSlT, fInt1, tCBK, fDIn, fDGet, fIsi, fBools, fDictL, fLtT, tCall, tCB, tCons, tNil, tTup, tLst, tIf, tTrue, Kd.nm, L2.start, List.map_cons, List.map_nil, List.length_cons, List.length_nil, Nat.reduceAdd, Nat.reduceSub, List.replicate_succ, List.replicate_zero, List.getElem?_cons_zero, List.getElem?_cons_succ, List.set_cons_zero, List.set_cons_succ, List.append_nil, List.nil_append, List.cons_append, eq_self, true_and, and_true, if_true, Bool.false_eq_true, if_false, Bool.not_true, Bool.not_false, id_eq, sl0, sl1, sl2, sl3, sl4, seqOf, e6]
    refine ⟨by decide, fun t2 ht2 => ?_⟩
    have hzl : zs.length = k := by
      have := Paired.length p5
      rw [List.length_map, List.length_take] at this
      omega
    refine ⟨_, same_new ht2 _ _ _ e5, szl' (by omega), _, _, rfl, same_upd (s5.trans (same_new ht2 _)) hd0, upd_same, ?_⟩
    have ks := (tups_new (o := .tup [.int d.1, .int d.2.1]) ht2).trans (tups_lst (ys := zs ++ [.ref t2]) (same_new ht2 (.tup [.int d.1, .int d.2.1]) _ _ e5))
    rw [take_get hd, List.map_append]
    refine paired_snoc (Prs.tups ks p5) ⟨t2, rfl, ?_⟩
    show upd (upd _ t2 (.tup [.int d.1, .int d.2.1])) d0 _ t2 = _
    rw [upd_ne (ne_of_none e5 ht2).symm, upd_same]
  rintro σ' H5 ⟨w1', zs, rfl, s5, e5, p5⟩
  refine ⟨⟨_, SqL.of (s5 _ _ ed4), by rw [hdx]; exact Nat.le_refl _⟩, ?_⟩
  rw [List.take_length] at p5
  have s05 := s04.trans s5
  have ez5 := s5 _ _ ez
  have pz5 := Lks.tups s5.tups pz
  have e1_5 : H5 l1 = some (.lst ((insOf ls).map V.int)) := (s2.trans (s3'.trans (s4.trans s5))) _ _ e1
  have e2_5 : H5 l2 = some (.lst ((outsOf ls).map V.int)) := (s3'.trans (s4.trans s5)) _ _ e2
  have hf5 : H3 f0 = none := hf0
  have eu5 := s05 _ _ eu
  have eta5 := s05 _ _ eta
  have pt5 := Prs.same s05 pt
  have hd3 : H3 d0 = none := s4.free hd0
  have hdf : d0 ≠ f0 := fun z => by rw [z, ez4] at hd0; cases hd0
  try simp only [tSeq, tNext, tDrop, tRet, tRetN, tIfS, tAsg, gName, fAug, tOp, tUn, tC, fVar, fI, fIC, fNeg, fEq, fNe, fIsN, isNon, fAnd, fOr, fNot, fB, tNot, tAnd, tOr, fChain, fIx, fLen, fListOf, fMin, fMax, fInL, fSlL, tSl, fPart, tNoPart, fAppend, fBM, fSetL, gSub, fGNil, fGCons, fGTup, fGLst, fDGet2, sDPutF, tDNewK, fCat, fClear, fBM0, fSlT, fInt1, tCBK, fDIn, fDGet, fIsi, fBools, fDictL, fLtT, tCall, tCB, tCons, tNil, tTup, tLst, tIf, tTrue, Kd.nm, L2.start, List.map_cons, List.map_nil, List.length_cons, List.length_nil, Nat.reduceAdd, Nat.reduceSub, List.replicate_succ, List.replicate_zero, List.getElem?_cons_zero, List.getElem?_cons_succ, List.set_cons_zero, List.set_cons_succ, List.append_nil, List.nil_append, List.cons_append, eq_self, true_and, and_true, if_true, Bool.false_eq_true, if_false, Bool.not_true, Bool.not_false, id_eq, sl0, sl1, sl2, sl3, sl4]
  refine tFor_hide (Itl K ta) H5 (fun R hR => ?_) (for_list (K := K) (a := ta) (xs := tx) (fun j σ H6 => ∃ v1 v2 v3 v4 v5 ys ms, σ = [some (.ref u), some (.ref da), some (.ref ca), some (.ref l1), some (.ref l2), some (.ref pd0), v1, v2, v3, some (.ref f0), some (.ref d0), v4, v5] ∧ Same H3 H6 ∧ H6 f0 = some (.lst ys) ∧ Lks H6 ys ms ∧ (∀ l ∈ ms, GoodL hv l) ∧ ms.length ≤ 9 + 4 * j ∧ H6 d0 = some (.lst zs) ∧ TupS H5 H6) ⟨_, _, _, _, _, ys, ms, rfl, s4.trans s5, ez5, pz5, gz, by omega, e5, TupS.refl _⟩ (fun j σ H6 _ ⟨_, _, _, _, _, _, _, _, s6, _⟩ => SqL.of (s6 _ _ (s03 _ _ eta))) ?_ ?_)
  · unfold iList
    try simp only [tSeq, tNext, tDrop, tRet, tRetN, tIfS, tAsg, gName, fAug, tOp, tUn, tC, fVar, fI, fIC, fNeg, fEq, fNe, fIsN, isNon, fAnd, fOr, fNot, fB, tNot, tAnd, tOr, fChain, fIx, fLen, fListOf, fMin, fMax, fInL, fSlL, tSl, fPart, tNoPart, fAppend, fBM, fSetL, gSub, fGNil, fGCons, fGTup, fGLst, fDGet2, sDPutF, tDNewK, fCat, fClear, fBM0, fSlT, fInt1, tCBK, fDIn, fDGet, fIsi, fBools, fDictL, fLtT, tCall, tCB, tCons, tNil, tTup, tLst, tIf, tTrue, Kd.nm, L2.start, List.map_cons, List.map_nil, List.length_cons, List.length_nil, Nat.reduceAdd, Nat.reduceSub, List.replicate_succ, List.replicate_zero, List.getElem?_cons_zero, List.getElem?_cons_succ, List.set_cons_zero, List.set_cons_succ, List.append_nil, List.nil_append, List.cons_append, eq_self, true_and, and_true, if_true, Bool.false_eq_true, if_false, Bool.not_true, Bool.not_false, id_eq, sl0, sl1, sl2, sl3, sl4, seqOf, eu5, at1]
    exact ⟨ta, rfl, ⟨_, SqL.of eta5⟩, hR⟩
  · rintro j y σ H6 hj ⟨v1, v2, v3, v4, v5, ys, ms, rfl, s6, e6, p6, g6, l6, d6, t6⟩
    obtain ⟨tt, htt, qx⟩ := paired_left pt5 hj
    obtain ⟨t, rfl, e7⟩ := qx.tups t6
    have ptt := pap.tie tt (List.mem_of_getElem? htt)
    have dtt := pap.due tt (List.mem_of_getElem? htt)
    try simp only [tSeq, tNext, tDrop, tRet, tRetN, tIfS, tAsg, gName, fAug, tOp, tUn, tC, fVar, fI, fIC, fNeg, fEq, fNe, fIsN, isNon, fAnd, fOr, fNot, fB, tNot, tAnd, tOr, fChain, fIx, fLen, fListOf, fMin, fMax, fInL, fSlL, tSl, fPart, tNoPart, fAppend, fBM, fSetL, gSub, fGNil, fGCons, fGTup, fGLst, fDGet2, sDPutF, tDNewK, fCat, fClear, fBM0, fSlT, fInt1, tCBK, fDIn, fDGet, fIsi, fBools, fDictL, fLtT, tCall, tCB, tCons, tNil, tTup, tLst, tIf, tTrue, Kd.nm, L2.start, List.map_cons, List.map_nil, List.length_cons, List.length_nil, Nat.reduceAdd, Nat.reduceSub, List.replicate_succ, List.replicate_zero, List.getElem?_cons_zero, List.getElem?_cons_succ, List.set_cons_zero, List.set_cons_succ, List.append_nil, List.nil_append, List.cons_append, eq_self, true_and, and_true, if_true, Bool.false_eq_true, if_false, Bool.not_true, Bool.not_false, id_eq, sl0, sl1, sl2, sl3, sl4, e7]
    refine tFor_hideI (ι := Addr × Hp) (fun i => Itl K i.1) (fun i => i.2) (fun i => ∃ x1 x2, Same H6 i.2 ∧ H6 i.1 = none ∧ i.2 i.1 = some (.lst [x1, x2]) ∧ Pr i.2 x1 (tt.1, tt.2) ∧ Pr i.2 x2 (tt.2, tt.1)) (fun R hR => ?_) (fun i0 ok0 => ?_)
    · unfold iList
      try simp only [tSeq, tNext, tDrop, tRet, tRetN, tIfS, tAsg, gName, fAug, tOp, tUn, tC, fVar, fI, fIC, fNeg, fEq, fNe, fIsN, isNon, fAnd, fOr, fNot, fB, tNot, tAnd, tOr, fChain, fIx, fLen, fListOf, fMin, fMax, fInL, fSlL, tSl, fPart, tNoPart, fAppend, fBM, fSetL, gSub, fGNil, fGCons, fGTup, fGLst, fDGet2, sDPutF, tDNewK, fCat, fClear, fBM0, fSlT, fInt1, tCBK, fDIn, fDGet, fIsi, fBools, fDictL, fLtT, tCall, tCB, tCons, tNil, tTup, tLst, tIf, tTrue, Kd.nm, L2.start, List.map_cons, List.map_nil, List.length_cons, List.length_nil, Nat.reduceAdd, Nat.reduceSub, List.replicate_succ, List.replicate_zero, List.getElem?_cons_zero, List.getElem?_cons_succ, List.set_cons_zero, List.set_cons_succ, List.append_nil, List.nil_append, List.cons_append, eq_self, true_and, and_true, if_true, Bool.false_eq_true, if_false, Bool.not_true, Bool.not_false, id_eq, sl0, sl1, sl2, sl3, sl4]
      intro q1 hq1 q2 hq2 q3 hq3
      have n12 : q1 ≠ q2 := fun z => by rw [← z, upd_same] at hq2; cases hq2
      have n13 : q1 ≠ q3 := fun z => by rw [← z, upd_ne n12, upd_same] at hq3; cases hq3
      have n23 : q2 ≠ q3 := fun z => by rw [← z, upd_same] at hq3; cases hq3
      have sq := (same_new hq1 (.tup [.int tt.1, .int tt.2])).trans ((same_new hq2 (.tup [.int tt.2, .int tt.1])).trans (same_new hq3 (.lst [.ref q1, .ref q2])))
      have eq1 : upd (upd (upd H6 q1 (.tup [.int tt.1, .int tt.2])) q2 (.tup [.int tt.2, .int tt.1])) q3 (.lst [.ref q1, .ref q2]) q1 = some (.tup [.int tt.1, .int tt.2]) := by rw [upd_ne n13, upd_ne n12, upd_same]
      have eq2 : upd (upd (upd H6 q1 (.tup [.int tt.1, .int tt.2])) q2 (.tup [.int tt.2, .int tt.1])) q3 (.lst [.ref q1, .ref q2]) q2 = some (.tup [.int tt.2, .int tt.1]) := by rw [upd_ne n23, upd_same]
      exact ⟨q3, rfl, ⟨_, SqL.of upd_same⟩, hR (q3, upd (upd (upd H6 q1 (.tup [.int tt.1, .int tt.2])) q2 (.tup [.int tt.2, .int tt.1])) q3 (.lst [.ref q1, .ref q2])) ⟨.ref q1, .ref q2, sq, ((same_new hq1 (.tup [.int tt.1, .int tt.2])).trans (same_new hq2 (.tup [.int tt.2, .int tt.1]))).free hq3, upd_same, ⟨q1, rfl, eq1⟩, ⟨q2, rfl, eq2⟩⟩⟩
    obtain ⟨a0, Hn⟩ := i0
    obtain ⟨x1, x2, sn, ha0, en, pr1, pr2⟩ := ok0
    dsimp only at sn en pr1 pr2 ha0
    have pq : Prs Hn [x1, x2] [(tt.1, tt.2), (tt.2, tt.1)] := .cons pr1 (.cons pr2 .nil)
    have hf6 : a0 ≠ f0 := fun z => by rw [z, e6] at ha0; cases ha0
    have hd6 : a0 ≠ d0 := fun z => by rw [z, d6] at ha0; cases ha0
    have h3a : H3 a0 = none := s6.free ha0
    refine for_list (K := K) (a := a0) (xs := [x1, x2]) (fun k σ H7 => ∃ v4 v5 ys ms, σ = [some (.ref u), some (.ref da), some (.ref ca), some (.ref l1), some (.ref l2), some (.ref pd0), some (.int tt.1), some (.int tt.2), v3, some (.ref f0), some (.ref d0), v4, v5] ∧ Same H3 H7 ∧ H7 f0 = some (.lst ys) ∧ Lks H7 ys ms ∧ (∀ l ∈ ms, GoodL hv l) ∧ ms.length ≤ 9 + 4 * j + 2 * k ∧ H7 d0 = some (.lst zs) ∧ TupS Hn H7 ∧ H7 a0 = some (.lst [x1, x2])) ⟨_, _, ys, ms, rfl, s6.trans sn, sn _ _ e6, Lks.tups sn.tups p6, g6, by omega, sn _ _ d6, TupS.refl _, en⟩ (fun k σ H7 _ ⟨_, _, _, _, _, _, _, _, _, _, _, _, e⟩ => SqL.of e) ?_ ?_
    · rintro k y σ H7 hk ⟨v4, v5, ys, ms, rfl, s7, e7', p7, g7, l7, d7, t7, a7⟩
      obtain ⟨q, hq, qx⟩ := paired_left pq hk
      obtain ⟨t', rfl, e8⟩ := qx.tups t7
      have hk2 : k < 2 := by
        have := (List.getElem?_eq_some_iff.mp hk).1
        simpa using this
      have hqq : (q.1 = tt.1 ∧ q.2 = tt.2) ∨ (q.1 = tt.2 ∧ q.2 = tt.1) := by
        have := List.mem_of_getElem? hq
        simp at this
        rcases this with z | z <;> subst z <;> simp
      have hqt := hqq
      have e1_7 : H7 l1 = some (.lst ((insOf ls).map V.int)) := s7 _ _ ((s2.trans s3') _ _ e1)
      have e2_7 : H7 l2 = some (.lst ((outsOf ls).map V.int)) := s7 _ _ (s3' _ _ e2)
      have hyl : ys.length = ms.length := Paired.length p7
      have hjt : j < tx.length := (List.getElem?_eq_some_iff.mp hj).1
      have mslen : ms.length ≤ 340 := by omega
      generalize hB : tIfS (tAnd (fB (tOp (fInL false) (fVar 11) (fVar 3))) (fB (tOp (rInD false) (tTup (tCons (fVar 6) (tCons (fVar 7) tNil))) (fVar 10)))) (tDrop (fBM fAppend (fVar 9) (tCons (tTup (tCons (tC (V.str (Str.ofString "tight"))) (tCons (fVar 11) (tCons (fVar 12) tNil)))) tNil))) tNext = B2
      have grow : ∀ (H8 : Hp) (ys : List V) (ms : List (Str × List Int)) (p : Addr) (l : Str × List Int), H8 p = none → GoodL hv l → Same H3 H8 ∧ H8 f0 = some (.lst ys) ∧ Lks H8 ys ms ∧ (∀ l ∈ ms, GoodL hv l) ∧ ms.length ≤ 350 ∧ H8 d0 = some (.lst zs) ∧ TupS Hn H8 ∧ H8 a0 = some (.lst [x1, x2]) → 
          ∃ ys' ms', Same H3 (upd (upd H8 p (.tup (.str l.1 :: l.2.map V.int))) f0 (.lst (ys ++ [.ref p]))) ∧ (upd (upd H8 p (.tup (.str l.1 :: l.2.map V.int))) f0 (.lst (ys ++ [.ref p]))) f0 = some (.lst ys') ∧ Lks (upd (upd H8 p (.tup (.str l.1 :: l.2.map V.int))) f0 (.lst (ys ++ [.ref p]))) ys' ms' ∧ (∀ l ∈ ms', GoodL hv l) ∧ ms'.length ≤ ms.length + 1 ∧ (upd (upd H8 p (.tup (.str l.1 :: l.2.map V.int))) f0 (.lst (ys ++ [.ref p]))) d0 = some (.lst zs) ∧ TupS Hn (upd (upd H8 p (.tup (.str l.1 :: l.2.map V.int))) f0 (.lst (ys ++ [.ref p]))) ∧ (upd (upd H8 p (.tup (.str l.1 :: l.2.map V.int))) f0 (.lst (ys ++ [.ref p]))) a0 = some (.lst [x1, x2]) := by
        rintro H8 ys ms p l hp gl ⟨s8, e9, p8, g8, l8, d8, t8, a8⟩
        have npf : f0 ≠ p := ne_of_none e9 hp
        have npd : d0 ≠ p := ne_of_none d8 hp
        have npa : a0 ≠ p := ne_of_none a8 hp
        have ks := (tups_new (o := .tup (.str l.1 :: l.2.map V.int)) hp).trans (tups_lst (ys := ys ++ [.ref p]) (same_new hp (.tup (.str l.1 :: l.2.map V.int)) _ _ e9))
        refine ⟨ys ++ [.ref p], ms ++ [l], same_upd (s8.trans (same_new hp _)) hf0, upd_same, paired_snoc (Lks.tups ks p8) ⟨p, rfl, by rw [upd_ne npf.symm, upd_same]⟩, fun l' hl' => ?_, by rw [List.length_append, List.length_singleton]; omega, by rw [upd_ne hdf, upd_ne npd]; exact d8, t8.trans ks, by rw [upd_ne hf6, upd_ne npa]; exact a8⟩
        rcases List.mem_append.mp hl' with z | z
        · exact g8 l' z
        · rw [List.mem_singleton.mp z]; exact gl
      have key : ∀ (D' : Ends) (H8 : Hp) (ys : List V) (ms : List (Str × List Int)), (∀ (H9 : Hp) (ys : List V) (ms : List (Str × List Int)), Same H3 H9 ∧ H9 f0 = some (.lst ys) ∧ Lks H9 ys ms ∧ (∀ l ∈ ms, GoodL hv l) ∧ ms.length ≤ 9 + 4 * j + 2 * k + 2 ∧ H9 d0 = some (.lst zs) ∧ TupS Hn H9 ∧ H9 a0 = some (.lst [x1, x2]) → D'.nx [some (.ref u), some (.ref da), some (.ref ca), some (.ref l1), some (.ref l2), some (.ref pd0), some (.int tt.1), some (.int tt.2), v3, some (.ref f0), some (.ref d0), some (.int q.1), some (.int q.2)] H9) → Same H3 H8 ∧ H8 f0 = some (.lst ys) ∧ Lks H8 ys ms ∧ (∀ l ∈ ms, GoodL hv l) ∧ ms.length ≤ 9 + 4 * j + 2 * k + 1 ∧ H8 d0 = some (.lst zs) ∧ TupS Hn H8 ∧ H8 a0 = some (.lst [x1, x2]) → B2 D' [some (.ref u), some (.ref da), some (.ref ca), some (.ref l1), some (.ref l2), some (.ref pd0), some (.int tt.1), some (.int tt.2), v3, some (.ref f0), some (.ref d0), some (.int q.1), some (.int q.2)] H8 := by
        rintro D' H8 ys ms hD ⟨s8, e9, p8, g8, l8, d8, t8, a8⟩
        have e1_8 : H8 l1 = some (.lst ((insOf ls).map V.int)) := s8 _ _ ((s2.trans s3') _ _ e1)
        have hyl8 : ys.length = ms.length := Paired.length p8
        subst hB
        try simp only [tSeq, tNext, tDrop, tRet, tRetN, tIfS, tAsg, gName, fAug, tOp, tUn, tC, fVar, fI, fIC, fNeg, fEq, fNe, fIsN, isNon, fAnd, fOr, fNot, fB, tNot, tAnd, tOr, fChain, fIx, fLen, fListOf, fMin, fMax, fInL, fSlL, tSl, fPart, tNoPart, fAppend, fBM, fSetL, gSub, fGNil, fGCons, fGTup, fGLst, fDGet2, sDPutF, tDNewK, fCat, fClear, fBM0, fSlT, fInt1, tCBK, fDIn, fDGet, fIsi, fBools, fDictL, fLtT, tCall, tCB, tCons, tNil, tTup, tLst, tIf, tTrue, Kd.nm, L2.start, List.map_cons, List.map_nil, List.length_cons, List.length_nil, Nat.reduceAdd, Nat.reduceSub, List.replicate_succ, List.replicate_zero, List.getElem?_cons_zero, List.getElem?_cons_succ, List.set_cons_zero, List.set_cons_succ, List.append_nil, List.nil_append, List.cons_append, eq_self, true_and, and_true, if_true, Bool.false_eq_true, if_false, Bool.not_true, Bool.not_false, id_eq, sl0, sl1, sl2, sl3, sl4, seqOf, e1_8, flatV, flat_ints, inV_ints]
        refine ite2 (fun c1 => ?_) (fun c1 => hD H8 ys ms ⟨s8, e9, p8, g8, by omega, d8, t8, a8⟩)
        intro p hp
        have c2 : q.1 ∈ insOf ls := of_decide_eq_true c1
        have kp := same_new hp (.tup [.int tt.1, .int tt.2])
        have p5' : Prs (upd H8 p (.tup [.int tt.1, .int tt.2])) zs (ds.map fun d => (d.1, d.2.1)) := Prs.tups (((t6.trans sn.tups).trans t8).trans kp.tups) p5
        refine ⟨pairD tt, d0, zs, (ds.map fun d => (d.1, d.2.1)).map pairD, Pr.rep ⟨p, rfl, upd_same⟩, rfl, kp _ _ d8, Prs.reps p5', dep_pairs _, ?_⟩
        rw [any_pair]
        try simp only [tSeq, tNext, tDrop, tRet, tRetN, tIfS, tAsg, gName, fAug, tOp, tUn, tC, fVar, fI, fIC, fNeg, fEq, fNe, fIsN, isNon, fAnd, fOr, fNot, fB, tNot, tAnd, tOr, fChain, fIx, fLen, fListOf, fMin, fMax, fInL, fSlL, tSl, fPart, tNoPart, fAppend, fBM, fSetL, gSub, fGNil, fGCons, fGTup, fGLst, fDGet2, sDPutF, tDNewK, fCat, fClear, fBM0, fSlT, fInt1, tCBK, fDIn, fDGet, fIsi, fBools, fDictL, fLtT, tCall, tCB, tCons, tNil, tTup, tLst, tIf, tTrue, Kd.nm, L2.start, List.map_cons, List.map_nil, List.length_cons, List.length_nil, Nat.reduceAdd, Nat.reduceSub, List.replicate_succ, List.replicate_zero, List.getElem?_cons_zero, List.getElem?_cons_succ, List.set_cons_zero, List.set_cons_succ, List.append_nil, List.nil_append, List.cons_append, eq_self, true_and, and_true, if_true, Bool.false_eq_true, if_false, Bool.not_true, Bool.not_false, id_eq, sl0, sl1, sl2, sl3, sl4, Bool.false_eq_true, if_false]
        have e9p := kp _ _ e9
        have hf8 : ∀ {o : HO}, upd H8 p o f0 = some (.lst ys) := fun {o} => by rw [upd_ne (ne_of_none e9 hp)]; exact e9
        have st8 : Same H3 (upd H8 p (.tup [.int tt.1, .int tt.2])) ∧ (upd H8 p (.tup [.int tt.1, .int tt.2])) f0 = some (.lst ys) ∧ Lks (upd H8 p (.tup [.int tt.1, .int tt.2])) ys ms ∧ (∀ l ∈ ms, GoodL hv l) ∧ ms.length ≤ 9 + 4 * j + 2 * k + 1 ∧ (upd H8 p (.tup [.int tt.1, .int tt.2])) d0 = some (.lst zs) ∧ TupS Hn (upd H8 p (.tup [.int tt.1, .int tt.2])) ∧ (upd H8 p (.tup [.int tt.1, .int tt.2])) a0 = some (.lst [x1, x2]) := ⟨s8.trans kp, e9p, Lks.tups kp.tups p8, g8, l8, kp _ _ d8, t8.trans kp.tups, kp _ _ a8⟩
        refine ite2 (fun c3 => ?_) (fun c3 => hD _ ys ms ⟨st8.1, st8.2.1, st8.2.2.1, g8, by omega, st8.2.2.2.2.2.1, st8.2.2.2.2.2.2⟩)
        refine ⟨⟨f0, _, rfl, e9p⟩, fun p2 hp2 => ?_⟩
        have n2 : f0 ≠ p2 := ne_of_none e9p hp2
        try simp only [tSeq, tNext, tDrop, tRet, tRetN, tIfS, tAsg, gName, fAug, tOp, tUn, tC, fVar, fI, fIC, fNeg, fEq, fNe, fIsN, isNon, fAnd, fOr, fNot, fB, tNot, tAnd, tOr, fChain, fIx, fLen, fListOf, fMin, fMax, fInL, fSlL, tSl, fPart, tNoPart, fAppend, fBM, fSetL, gSub, fGNil, fGCons, fGTup, fGLst, fDGet2, sDPutF, tDNewK, fCat, fClear, fBM0, fSlT, fInt1, tCBK, fDIn, fDGet, fIsi, fBools, fDictL, fLtT, tCall, tCB, tCons, tNil, tTup, tLst, tIf, tTrue, Kd.nm, L2.start, List.map_cons, List.map_nil, List.length_cons, List.length_nil, Nat.reduceAdd, Nat.reduceSub, List.replicate_succ, List.replicate_zero, List.getElem?_cons_zero, List.getElem?_cons_succ, List.set_cons_zero, List.set_cons_succ, List.append_nil, List.nil_append, List.cons_append, eq_self, true_and, and_true, if_true, Bool.false_eq_true, if_false, Bool.not_true, Bool.not_false, id_eq, sl0, sl1, sl2, sl3, sl4, upd_ne n2, e9p]
        refine ⟨szl' (by omega), ?_⟩
        have c4 : tt ∈ ds.map fun d => (d.1, d.2.1) := of_decide_eq_true c3
        obtain ⟨d, hd, ed⟩ := List.mem_map.mp c4
        have sum2 := dtt d hd ed
        have hv1 := ins_good ok c2
        have gl : GoodL hv ((Str.ofString "tight"), [q.1, q.2]) := by
          refine ⟨.inr rfl, fun z => absurd z ne_tb, fun _ => ?_⟩
          show hv q.2 = 0
          rcases hqt with ⟨a1, a2⟩ | ⟨a1, a2⟩
          · rw [a1] at hv1; rw [a2]; omega
          · rw [a1] at hv1; rw [a2]; omega
        obtain ⟨ys', ms', w1, w2, w3, w4, w5, w6, w7, w8⟩ := grow _ ys ms p2 ((Str.ofString "tight"), [q.1, q.2]) hp2 gl ⟨st8.1, st8.2.1, st8.2.2.1, g8, by omega, st8.2.2.2.2.2.1, st8.2.2.2.2.2.2⟩
        exact hD _ ys' ms' ⟨w1, w2, w3, w4, by omega, w6, w7, w8⟩
      try simp only [tSeq, tNext, tDrop, tRet, tRetN, tIfS, tAsg, gName, fAug, tOp, tUn, tC, fVar, fI, fIC, fNeg, fEq, fNe, fIsN, isNon, fAnd, fOr, fNot, fB, tNot, tAnd, tOr, fChain, fIx, fLen, fListOf, fMin, fMax, fInL, fSlL, tSl, fPart, tNoPart, fAppend, fBM, fSetL, gSub, fGNil, fGCons, fGTup, fGLst, fDGet2, sDPutF, tDNewK, fCat, fClear, fBM0, fSlT, fInt1, tCBK, fDIn, fDGet, fIsi, fBools, fDictL, fLtT, tCall, tCB, tCons, tNil, tTup, tLst, tIf, tTrue, Kd.nm, L2.start, List.map_cons, List.map_nil, List.length_cons, List.length_nil, Nat.reduceAdd, Nat.reduceSub, List.replicate_succ, List.replicate_zero, List.getElem?_cons_zero, List.getElem?_cons_succ, List.set_cons_zero, List.set_cons_succ, List.append_nil, List.nil_append, List.cons_append, eq_self, true_and, and_true, if_true, Bool.false_eq_true, if_false, Bool.not_true, Bool.not_false, id_eq, sl0, sl1, sl2, sl3, sl4, e8, seqOf, e2_7, flatV, flat_ints, inV_ints]
      refine ite2 (fun c1 => ?_) (fun c1 => ?_)
      · have c2 : q.1 ∈ outsOf ls := of_decide_eq_true c1
        refine ⟨⟨f0, _, rfl, e7'⟩, fun p hp => ?_⟩
        have n2 : f0 ≠ p := ne_of_none e7' hp
        try simp only [tSeq, tNext, tDrop, tRet, tRetN, tIfS, tAsg, gName, fAug, tOp, tUn, tC, fVar, fI, fIC, fNeg, fEq, fNe, fIsN, isNon, fAnd, fOr, fNot, fB, tNot, tAnd, tOr, fChain, fIx, fLen, fListOf, fMin, fMax, fInL, fSlL, tSl, fPart, tNoPart, fAppend, fBM, fSetL, gSub, fGNil, fGCons, fGTup, fGLst, fDGet2, sDPutF, tDNewK, fCat, fClear, fBM0, fSlT, fInt1, tCBK, fDIn, fDGet, fIsi, fBools, fDictL, fLtT, tCall, tCB, tCons, tNil, tTup, tLst, tIf, tTrue, Kd.nm, L2.start, List.map_cons, List.map_nil, List.length_cons, List.length_nil, Nat.reduceAdd, Nat.reduceSub, List.replicate_succ, List.replicate_zero, List.getElem?_cons_zero, List.getElem?_cons_succ, List.set_cons_zero, List.set_cons_succ, List.append_nil, List.nil_append, List.cons_append, eq_self, true_and, and_true, if_true, Bool.false_eq_true, if_false, Bool.not_true, Bool.not_false, id_eq, sl0, sl1, sl2, sl3, sl4, upd_ne n2, e7']
        refine ⟨szl' (by omega), ?_⟩
        have hv1 := outs_good ok c2
        have gl : GoodL hv ((Str.ofString "beside"), [q.1, q.2]) := by
          refine ⟨.inr rfl, fun _ => ⟨rfl, ?_⟩, fun z => absurd rfl z⟩
          show hv q.2 = 2
          rcases hqt with ⟨a1, a2⟩ | ⟨a1, a2⟩
          · rw [a1] at hv1; rw [a2]; omega
          · rw [a1] at hv1; rw [a2]; omega
        obtain ⟨ys', ms', w1, w2, w3, w4, w5, w6, w7, w8⟩ := grow _ ys ms p ((Str.ofString "beside"), [q.1, q.2]) hp gl ⟨s7, e7', p7, g7, by omega, d7, t7, a7⟩
        refine key _ _ ys' ms' (fun H9 ys ms z => ⟨_, _, ys, ms, rfl, z.1, z.2.1, z.2.2.1, z.2.2.2.1, by have := z.2.2.2.2.1; omega, z.2.2.2.2.2⟩) ⟨w1, w2, w3, w4, by omega, w6, w7, w8⟩
      · refine key _ _ ys ms (fun H9 ys ms z => ⟨_, _, ys, ms, rfl, z.1, z.2.1, z.2.2.1, z.2.2.2.1, by have := z.2.2.2.2.1; omega, z.2.2.2.2.2⟩) ⟨s7, e7', p7, g7, by omega, d7, t7, a7⟩
    · rintro σ H7 ⟨v4, v5, ys, ms, rfl, s7, e7', p7, g7, l7, d7, t7, a7⟩
      exact ⟨_, _, _, _, _, ys, ms, rfl, s7, e7', p7, g7, by simp at l7; omega, d7, (t6.trans sn.tups).trans t7⟩
  rintro σ H6 ⟨v1, v2, v3, v4, v5, ys, ms, rfl, s6, e6, p6, g6, l6, d6, t6⟩
  try simp only [tSeq, tNext, tDrop, tRet, tRetN, tIfS, tAsg, gName, fAug, tOp, tUn, tC, fVar, fI, fIC, fNeg, fEq, fNe, fIsN, isNon, fAnd, fOr, fNot, fB, tNot, tAnd, tOr, fChain, fIx, fLen, fListOf, fMin, fMax, fInL, fSlL, tSl, fPart, tNoPart, fAppend, fBM, fSetL, gSub, fGNil, fGCons, fGTup, fGLst, fDGet2, sDPutF, tDNewK, fCat, fClear, fBM0, fSlT, fInt1, tCBK, fDIn, fDGet, fIsi, fBools, fDictL, fLtT, tCall, tCB, tCons, tNil, tTup, tLst, tIf, tTrue, Kd.nm, L2.start, List.map_cons, List.map_nil, List.length_cons, List.length_nil, Nat.reduceAdd, Nat.reduceSub, List.replicate_succ, List.replicate_zero, List.getElem?_cons_zero, List.getElem?_cons_succ, List.set_cons_zero, List.set_cons_succ, List.append_nil, List.nil_append, List.cons_append, eq_self, true_and, and_true, if_true, Bool.false_eq_true, if_false, Bool.not_true, Bool.not_false, id_eq, sl0, sl1, sl2, sl3, sl4]
  refine h f0 ys ms H6 (s03.trans s6) hf04 e6 p6 g6 (by omega)
end
end My

set_option Elab.async false
set_option linter.all false
set_option maxRecDepth 100000
set_option maxHeartbeats 4000000
namespace My
open PySem L2
section
variable {P : Program} {w : World} {K : PySem.W.Frag} {mg : Str → Option Value} {base : Heap} {c1 c2 c3 c4 : Tok}
def linkD (l : Str × List Int) : Dt := .tup (.str l.1 :: l.2.map Dt.int)
theorem Lnk.rep {H : Hp} {v : V} {l : Str × List Int} (h : Lnk H v l) : Rep H (linkD l) v := by
  obtain ⟨t, e, q⟩ := h
  rw [linkD, Rep]
  refine ⟨t, _, e, q, ?_⟩
  rw [Reps]
  exact ⟨_, _, rfl, (by rw [Rep]), ints_reps _⟩
theorem Lks.reps {H : Hp} : ∀ {xs : List V} {ls : List (Str × List Int)}, Lks H xs ls → Reps H (ls.map linkD) xs
  | _, _, .nil => by rw [List.map_nil, Reps]
  | _, _, .cons r t => by rw [List.map_cons, Reps]; exact ⟨_, _, rfl, r.rep, Lks.reps t⟩
theorem dep_ints (ns : List Int) : depPs (ns.map Dt.int) = 0 := by
  induction ns with
  | nil => rw [List.map_nil, depPs]
  | cons n r ih => simp [depPs, ih, depP]
theorem dep_links (ls : List (Str × List Int)) : depPs (ls.map linkD) ≤ 1 := by
  induction ls with
  | nil => rw [List.map_nil, depPs]; omega
  | cons l r ih =>
    have e : depP (linkD l) = 1 := by simp [linkD, depP, depPs, dep_ints]
    rw [List.map_cons, depPs, e]
    omega
theorem eq_links : ∀ (ls : List (Str × List Int)), eqP (.lst (ls.map linkD)) (.lst []) = ls.isEmpty
  | [] => by simp [eqP, eqPs]
  | _ :: _ => by simp [eqP, eqPs]
theorem ne_st {H : Hp} {st a : Addr} {o : HO} {xs : List V} (e : H st = some o) (so : StO o) (ea : H a = some (.lst xs)) (hx : ∀ v ∈ xs, ∃ t, v = .ref t) : a ≠ st := fun z => by
  rw [z, e] at ea
  obtain ⟨c, x, fl, rfl, _⟩ := so
  cases ea
  obtain ⟨t, e⟩ := hx (.int c) (List.mem_cons_self ..)
  cases e
theorem prs_refs {H : Hp} : ∀ {xs : List V} {ps : List (Int × Int)}, Prs H xs ps → ∀ v ∈ xs, ∃ t, v = .ref t
  | _, _, .nil => fun v h => by cases h
  | _, _, .cons r t => fun v h => by
    rcases List.mem_cons.mp h with z | z
    · obtain ⟨b, e, _⟩ := r; rw [z]; exact ⟨b, e⟩
    · exact prs_refs t v z
theorem trs_refs {H : Hp} : ∀ {xs : List V} {ps : List (Int × Int × Int)}, Trs H xs ps → ∀ v ∈ xs, ∃ t, v = .ref t
  | _, _, .nil => fun v h => by cases h
  | _, _, .cons r t => fun v h => by
    rcases List.mem_cons.mp h with z | z
    · obtain ⟨b, e, _⟩ := r; rw [z]; exact ⟨b, e⟩
    · exact trs_refs t v z
theorem lks_refs {H : Hp} : ∀ {xs : List V} {ps : List (Str × List Int)}, Lks H xs ps → ∀ v ∈ xs, ∃ t, v = .ref t
  | _, _, .nil => fun v h => by cases h
  | _, _, .cons r t => fun v h => by
    rcases List.mem_cons.mp h with z | z
    · obtain ⟨b, e, _⟩ := r; rw [z]; exact ⟨b, e⟩
    · exact lks_refs t v z
theorem WebAt.but {H H' : Hp} {v : V} {ps ts : List (Int × Int)} {st : Addr} {o : HO} (h : WebAt H v ps ts) (e : H st = some o) (so : StO o) (b : But st H H') : WebAt H' v ps ts := by
  obtain ⟨u, pa, ta, xs, ys, rfl, h1, h2, h3, h4, h5⟩ := h
  have n1 := ne_st e so h2 (prs_refs h4)
  have n2 := ne_st e so h3 (prs_refs h5)
  have n3 : u ≠ st := fun z => by
    rw [z, e] at h1
    obtain ⟨c, x, fl, rfl, _⟩ := so
    cases h1
  have tp := b.tups e so.imm
  exact ⟨u, pa, ta, xs, ys, rfl, b _ _ n3 h1, b _ _ n1 h2, b _ _ n2 h3, Prs.tups tp h4, Prs.tups tp h5⟩
def spChain : Sp := fun vs H Q _ => ∃ (st : Addr) (o : HO) (wv : V) (da : Addr) (most : Int) (dx : List V) (ps ts : List (Int × Int)) (ds : List (Int × Int × Int)) (hv : Int → Int), vs = [.ref st, wv, .ref da, .int most] ∧ H st = some o ∧ StO o ∧ 0 ≤ most ∧ most ≤ 30 ∧ WebAt H wv ps ts ∧ H da = some (.lst dx) ∧ Trs H dx ds ∧ Pap ps ts ds hv ∧
  ∀ (c : Addr) (ys : List V) (ms : List (Str × List Int)) (H' : Hp) (o' : HO), But st H H' → H c = none → H' st = some o' → StO o' → H' c = some (.lst ys) → Lks H' ys ms → (∀ l ∈ ms, GoodL hv l) → ms.length ≤ 30 → Q (.ref c) H'
theorem but_upd {s p : Addr} {H H' : Hp} {o : HO} (b : But s H H') (h : H p = none) : But s H (upd H' p o) := fun x u nx q => by rw [upd_ne (ne_of_none q h)]; exact b x u nx q
theorem But.same {s : Addr} {H H' : Hp} (h : Same H H') : But s H H' := fun b o _ q => h b o q
theorem ok_law_chain {f : Addr} {fd : FuncData} {f_law_take : Addr} {d_law_take : FuncData} {f_law_next : Addr} {d_law_next : FuncData} (B : Blt mg) (D : DefAt K mg "_law_chain" (top 10) ["_law_state", "_law_web", "_law_dues", "_law_most"] f fd) (D_law_take : DefAt K mg "_law_take" (top 6) ["_law_state", "_law_many"] f_law_take d_law_take) (G_law_take : FnOk P w K mg base CX0 1 f_law_take d_law_take ["_law_state", "_law_many"] spTake) (D_law_next : DefAt K mg "_law_next" (top 9) ["_law_web", "_law_dues", "_law_chain_here"] f_law_next d_law_next) (G_law_next : FnOk P w K mg base CX0 2 f_law_next d_law_next ["_law_web", "_law_dues", "_law_chain_here"] spNext) : FnOk P w K mg base CX0 3 f fd ["_law_state", "_law_web", "_law_dues", "_law_most"] spChain := by
  have sc : FnScope ["_law_state", "_law_web", "_law_dues", "_law_most", "_law_chain_here", "_law_k", "_law_some"] ["_law_state", "_law_web", "_law_dues", "_law_most"] (defScope (top 10)) := ⟨rfl, rfl, rfl, by decide +kernel, rfl, by decide +kernel, by decide +kernel⟩
  refine D.F.ok sc (fun vs H Q E h => ?_) (fun cdv A outer s H vs Q E hr h => ?_)
  · obtain ⟨st, o, wv, da, most, dx, ps, ts, ds, hv, rfl, _⟩ := h
    rfl
  obtain ⟨st, o, wv, da, most, dx, ps, ts, ds, hv, rfl, es, so, m0, m1, hw, ed, pd, pap, h⟩ := h
  have nda : da ≠ st := ne_st es so ed (trs_refs pd)
  have hu := hu_of hr
  have hu0 : _ < PySem.cLine := Nat.lt_of_succ_lt hu
  refine ⟨_, (pss_cons (ps_set (i := 4) sc.nd rfl (Or.inl rfl) (pe_lst pa_nil)) (pss_cons (ps_for PassesOwn.never rfl (pi_range1 rfl B.range (pa_cons (pe_call G_law_take (hr.mono (by decide)) rfl D_law_take.m D_law_take.F.kp D_law_take.b .nil pass0 (pa_cons (qv 0) (pa_cons (pe_op q_add (qv 3) pe_int) pa_nil))) pa_nil)) (pg_name (i := 5) sc.nd rfl (Or.inl rfl)) (pss_cons (ps_set (i := 6) sc.nd rfl (Or.inl rfl) (pe_call G_law_next (hr.mono (by decide)) rfl D_law_next.m D_law_next.F.kp D_law_next.b .nil pass0 (pa_cons (qv 1) (pa_cons (qv 2) (pa_cons (qv 4) pa_nil))))) (pss_one (ps_if (qt_cmp (op_neD hr.units) (qv 6) (pe_lst pa_nil) (nomark _)) (pss_one (ps_expr (q_bm PySem.F.plainAttrs_list PySem.F.slot_list_append PySem.F.type_list_append q_append (qv 4) (pa_cons (pe_ix q_ix (qv 6) (pe_call G_law_take (hr.mono (by decide)) rfl D_law_take.m D_law_take.F.kp D_law_take.b .nil pass0 (pa_cons (qv 0) (pa_cons (pe_callB q_len rfl B.len PySem.boot_len (pa_cons (qv 6) pa_nil)) pa_nil))) (fun _ _ => rfl)) pa_nil)))) pss_nil)))) (pss_one (ps_ret (qv 4))))), ?_⟩
  try simp only [tSeq, tNext, tDrop, tRet, tRetN, tIfS, tAsg, gName, fAug, tOp, tUn, tC, fVar, fI, fIC, fNeg, fEq, fNe, fIsN, isNon, fAnd, fOr, fNot, fB, tNot, tAnd, tOr, fChain, fIx, fLen, fListOf, fMin, fMax, fInL, fSlL, tSl, fPart, tNoPart, fAppend, fBM, fSetL, gSub, fGNil, fGCons, fGTup, fGLst, fDGet2, sDPutF, tDNewK, fCat, fClear, fBM0, fSlT, fInt1, tCBK, fDIn, fDGet, fIsi, fBools, fDictL, fLtT, tCall, tCB, tCons, tNil, tTup, tLst, tIf, tTrue, Kd.nm, L2.start, List.map_cons, List.map_nil, List.length_cons, List.length_nil, Nat.reduceAdd, Nat.reduceSub, List.replicate_succ, List.replicate_zero, List.getElem?_cons_zero, List.getElem?_cons_succ, List.set_cons_zero, List.set_cons_succ, List.append_nil, List.nil_append, List.cons_append, eq_self, true_and, and_true, if_true, Bool.false_eq_true, if_false, Bool.not_true, Bool.not_false, id_eq, sl0, sl1, sl2, sl3, sl4]
  intro c hc
  have nc : c ≠ st := (ne_of_none es hc).symm
  have s0 := same_new hc (.lst [])
  refine tFor_hideI (ι := Int × HO) (fun i => Itr 0 i.1.toNat) (fun i => upd (upd H c (.lst [])) st i.2) (fun i => 0 ≤ i.1 ∧ i.1 ≤ 30 ∧ StO i.2) (fun R hR => ?_) (fun i0 ok0 => ?_)
  · unfold iRng1
    try simp only [tSeq, tNext, tDrop, tRet, tRetN, tIfS, tAsg, gName, fAug, tOp, tUn, tC, fVar, fI, fIC, fNeg, fEq, fNe, fIsN, isNon, fAnd, fOr, fNot, fB, tNot, tAnd, tOr, fChain, fIx, fLen, fListOf, fMin, fMax, fInL, fSlL, tSl, fPart, tNoPart, fAppend, fBM, fSetL, gSub, fGNil, fGCons, fGTup, fGLst, fDGet2, sDPutF, tDNewK, fCat, fClear, fBM0, fSlT, fInt1, tCBK, fDIn, fDGet, fIsi, fBools, fDictL, fLtT, tCall, tCB, tCons, tNil, tTup, tLst, tIf, tTrue, Kd.nm, L2.start, List.map_cons, List.map_nil, List.length_cons, List.length_nil, Nat.reduceAdd, Nat.reduceSub, List.replicate_succ, List.replicate_zero, List.getElem?_cons_zero, List.getElem?_cons_succ, List.set_cons_zero, List.set_cons_succ, List.append_nil, List.nil_append, List.cons_append, eq_self, true_and, and_true, if_true, Bool.false_eq_true, if_false, Bool.not_true, Bool.not_false, id_eq, sl0, sl1, sl2, sl3, sl4]
    refine ⟨st, o, most + 1, rfl, s0 _ _ es, so, by omega, by omega, fun d o1 d0 d1 so1 => ?_⟩
    exact ⟨d, rfl, by omega, by omega, hR (d, o1) ⟨d0, by show d ≤ 30; omega, so1⟩⟩
  obtain ⟨n, o1⟩ := i0
  obtain ⟨n0, n1, so1⟩ := ok0
  dsimp only at n0 n1 so1
  refine for_range (n := n.toNat) (fun i σ H1 => ∃ v1 v2 o' ys ms, σ = [some (.ref st), some wv, some (.ref da), some (.int most), some (.ref c), v1, v2] ∧ But st H H1 ∧ H1 st = some o' ∧ StO o' ∧ H1 c = some (.lst ys) ∧ Lks H1 ys ms ∧ (∀ l ∈ ms, GoodL hv l) ∧ ms.length ≤ i) ⟨none, none, o1, [], [], rfl, (But.same s0).trans (But.at _ _ _), upd_same, so1, by dsimp only; rw [upd_ne nc, upd_same], .nil, (fun l hl => by cases hl), Nat.zero_le _⟩ ?_ ?_
  · rintro i σ H1 hi ⟨v1, v2, o', ys, ms, rfl, b1, e1, so', ec, pc, gc, lc⟩
    have w1 := hw.but es so b1
    have ed1 := b1 _ _ nda ed
    have pd1 := Trs.tups (b1.tups es so.imm) pd
    have hyl : ys.length = ms.length := Paired.length pc
    try simp only [tSeq, tNext, tDrop, tRet, tRetN, tIfS, tAsg, gName, fAug, tOp, tUn, tC, fVar, fI, fIC, fNeg, fEq, fNe, fIsN, isNon, fAnd, fOr, fNot, fB, tNot, tAnd, tOr, fChain, fIx, fLen, fListOf, fMin, fMax, fInL, fSlL, tSl, fPart, tNoPart, fAppend, fBM, fSetL, gSub, fGNil, fGCons, fGTup, fGLst, fDGet2, sDPutF, tDNewK, fCat, fClear, fBM0, fSlT, fInt1, tCBK, fDIn, fDGet, fIsi, fBools, fDictL, fLtT, tCall, tCB, tCons, tNil, tTup, tLst, tIf, tTrue, Kd.nm, L2.start, List.map_cons, List.map_nil, List.length_cons, List.length_nil, Nat.reduceAdd, Nat.reduceSub, List.replicate_succ, List.replicate_zero, List.getElem?_cons_zero, List.getElem?_cons_succ, List.set_cons_zero, List.set_cons_succ, List.append_nil, List.nil_append, List.cons_append, eq_self, true_and, and_true, if_true, Bool.false_eq_true, if_false, Bool.not_true, Bool.not_false, id_eq, sl0, sl1, sl2, sl3, sl4]
    refine ⟨wv, da, c, dx, ys, ps, ts, ds, ms, hv, rfl, w1, ed1, pd1, ec, pc, pap, gc, by omega, fun f zs ls H2 s2 hf e2 p2 g2 l2 => ?_⟩
    have hzl : zs.length = ls.length := Paired.length p2
    try simp only [tSeq, tNext, tDrop, tRet, tRetN, tIfS, tAsg, gName, fAug, tOp, tUn, tC, fVar, fI, fIC, fNeg, fEq, fNe, fIsN, isNon, fAnd, fOr, fNot, fB, tNot, tAnd, tOr, fChain, fIx, fLen, fListOf, fMin, fMax, fInL, fSlL, tSl, fPart, tNoPart, fAppend, fBM, fSetL, gSub, fGNil, fGCons, fGTup, fGLst, fDGet2, sDPutF, tDNewK, fCat, fClear, fBM0, fSlT, fInt1, tCBK, fDIn, fDGet, fIsi, fBools, fDictL, fLtT, tCall, tCB, tCons, tNil, tTup, tLst, tIf, tTrue, Kd.nm, L2.start, List.map_cons, List.map_nil, List.length_cons, List.length_nil, Nat.reduceAdd, Nat.reduceSub, List.replicate_succ, List.replicate_zero, List.getElem?_cons_zero, List.getElem?_cons_succ, List.set_cons_zero, List.set_cons_succ, List.append_nil, List.nil_append, List.cons_append, eq_self, true_and, and_true, if_true, Bool.false_eq_true, if_false, Bool.not_true, Bool.not_false, id_eq, sl0, sl1, sl2, sl3, sl4]
    intro e hE
    have s3 := same_new hE (.lst [])
    refine ⟨.lst (ls.map linkD), .lst [], ?_, ?_, ?_, .inl ⟨_, _, rfl, rfl⟩, ?_⟩
    · rw [Rep]
      exact ⟨f, zs, rfl, s3 _ _ e2, Lks.reps (Lks.tups s3.tups p2)⟩
    · rw [Rep]
      exact ⟨e, [], rfl, upd_same, by rw [Reps]⟩
    · rw [depP]
      have := dep_links ls
      omega
    rw [eq_links]
    try simp only [tSeq, tNext, tDrop, tRet, tRetN, tIfS, tAsg, gName, fAug, tOp, tUn, tC, fVar, fI, fIC, fNeg, fEq, fNe, fIsN, isNon, fAnd, fOr, fNot, fB, tNot, tAnd, tOr, fChain, fIx, fLen, fListOf, fMin, fMax, fInL, fSlL, tSl, fPart, tNoPart, fAppend, fBM, fSetL, gSub, fGNil, fGCons, fGTup, fGLst, fDGet2, sDPutF, tDNewK, fCat, fClear, fBM0, fSlT, fInt1, tCBK, fDIn, fDGet, fIsi, fBools, fDictL, fLtT, tCall, tCB, tCons, tNil, tTup, tLst, tIf, tTrue, Kd.nm, L2.start, List.map_cons, List.map_nil, List.length_cons, List.length_nil, Nat.reduceAdd, Nat.reduceSub, List.replicate_succ, List.replicate_zero, List.getElem?_cons_zero, List.getElem?_cons_succ, List.set_cons_zero, List.set_cons_succ, List.append_nil, List.nil_append, List.cons_append, eq_self, true_and, and_true, if_true, Bool.false_eq_true, if_false, Bool.not_true, Bool.not_false, id_eq, sl0, sl1, sl2, sl3, sl4]
    refine ite2 (fun c1 => ?_) (fun c1 => ?_)
    · have hls : ls ≠ [] := fun z => by rw [z] at c1; simp at c1
      have hpos : 0 < ls.length := List.length_pos_iff.mpr hls
      refine ⟨⟨c, _, rfl, (s2.trans s3) _ _ ec⟩, ?_⟩
      try simp only [tSeq, tNext, tDrop, tRet, tRetN, tIfS, tAsg, gName, fAug, tOp, tUn, tC, fVar, fI, fIC, fNeg, fEq, fNe, fIsN, isNon, fAnd, fOr, fNot, fB, tNot, tAnd, tOr, fChain, fIx, fLen, fListOf, fMin, fMax, fInL, fSlL, tSl, fPart, tNoPart, fAppend, fBM, fSetL, gSub, fGNil, fGCons, fGTup, fGLst, fDGet2, sDPutF, tDNewK, fCat, fClear, fBM0, fSlT, fInt1, tCBK, fDIn, fDGet, fIsi, fBools, fDictL, fLtT, tCall, tCB, tCons, tNil, tTup, tLst, tIf, tTrue, Kd.nm, L2.start, List.map_cons, List.map_nil, List.length_cons, List.length_nil, Nat.reduceAdd, Nat.reduceSub, List.replicate_succ, List.replicate_zero, List.getElem?_cons_zero, List.getElem?_cons_succ, List.set_cons_zero, List.set_cons_succ, List.append_nil, List.nil_append, List.cons_append, eq_self, true_and, and_true, if_true, Bool.false_eq_true, if_false, Bool.not_true, Bool.not_false, id_eq, sl0, sl1, sl2, sl3, sl4, seqOf, s3 _ _ e2]
      refine ⟨st, o', _, rfl, (s2.trans s3) _ _ e1, so', by omega, by omega, fun d o2 d0 d1 so2 => ?_⟩
      have nf : f ≠ st := fun z => by rw [z, e1] at hf; cases hf
      have hd : d.toNat < zs.length := by omega
      obtain ⟨lk, hlk, px⟩ := paired_left p2 (List.getElem?_eq_getElem hd)
      have at1 : atI zs d = some zs[d.toNat] := by
        have e0 : atI zs ((d.toNat : Nat) : Int) = some zs[d.toNat] := atI_nat (List.getElem?_eq_getElem hd)
        rw [show ((d.toNat : Nat) : Int) = d by omega] at e0
        exact e0
      have b4 : But st H1 (upd (upd H2 e (.lst [])) st o2) := ((But.same s2).trans (But.same s3)).trans (But.at _ _ _)
      have ef4 : upd (upd H2 e (.lst [])) st o2 f = some (.lst zs) := by rw [upd_ne nf]; exact s3 _ _ e2
      have ec4 := b4 _ _ nc ec
      have es4 : upd (upd H2 e (.lst [])) st o2 st = some o2 := upd_same
      have tp : TupS H2 (upd (upd H2 e (.lst [])) st o2) := s3.tups.trans ((But.at st _ _).tups ((s2.trans s3) _ _ e1) so'.imm)
      generalize upd (upd H2 e (.lst [])) st o2 = H4 at b4 ef4 ec4 es4 tp
      try simp only [tSeq, tNext, tDrop, tRet, tRetN, tIfS, tAsg, gName, fAug, tOp, tUn, tC, fVar, fI, fIC, fNeg, fEq, fNe, fIsN, isNon, fAnd, fOr, fNot, fB, tNot, tAnd, tOr, fChain, fIx, fLen, fListOf, fMin, fMax, fInL, fSlL, tSl, fPart, tNoPart, fAppend, fBM, fSetL, gSub, fGNil, fGCons, fGTup, fGLst, fDGet2, sDPutF, tDNewK, fCat, fClear, fBM0, fSlT, fInt1, tCBK, fDIn, fDGet, fIsi, fBools, fDictL, fLtT, tCall, tCB, tCons, tNil, tTup, tLst, tIf, tTrue, Kd.nm, L2.start, List.map_cons, List.map_nil, List.length_cons, List.length_nil, Nat.reduceAdd, Nat.reduceSub, List.replicate_succ, List.replicate_zero, List.getElem?_cons_zero, List.getElem?_cons_succ, List.set_cons_zero, List.set_cons_succ, List.append_nil, List.nil_append, List.cons_append, eq_self, true_and, and_true, if_true, Bool.false_eq_true, if_false, Bool.not_true, Bool.not_false, id_eq, sl0, sl1, sl2, sl3, sl4, seqOf, ef4, at1, ec4]
      refine ⟨szl' (by omega), _, _, o2, ys ++ [zs[d.toNat]], ms ++ [lk], rfl, but_upd (b1.trans b4) hc, by rw [upd_ne nc.symm]; exact es4, so2, upd_same, paired_snoc (Lks.tups ((s2.tups.trans tp).trans (tups_lst ec4)) pc) (px.tups (tp.trans (tups_lst ec4))), fun l hl => ?_, by rw [List.length_append, List.length_singleton]; omega⟩
      rcases List.mem_append.mp hl with z | z
      · exact gc l z
      · rw [List.mem_singleton.mp z]
        exact g2 lk (List.mem_of_getElem? hlk)
    · exact ⟨_, _, o', ys, ms, rfl, (b1.trans (But.same s2)).trans (But.same s3), (s2.trans s3) _ _ e1, so', (s2.trans s3) _ _ ec, Lks.tups (s2.trans s3).tups pc, gc, by omega⟩
  · rintro σ H1 ⟨v1, v2, o', ys, ms, rfl, b1, e1, so', ec, pc, gc, lc⟩
    exact h c ys ms H1 o' b1 hc e1 so' ec pc gc (by omega)
end
end My

set_option Elab.async false
set_option linter.all false
set_option maxRecDepth 100000
set_option maxHeartbeats 4000000
namespace My
open PySem L2
section
variable {P : Program} {w : World} {K : PySem.W.Frag} {mg : Str → Option Value} {base : Heap} {c1 c2 c3 c4 : Tok}
/-- what is due at the i-th -/
def praw (raw : List (Int × Int × Int)) (i : Int) : Int := paid raw i
theorem praw_snoc (ds : List (Int × Int × Int)) (d : Int × Int × Int) (p : Int) : praw (ds ++ [d]) p = praw ds p + (if d.1 = p then d.2.2 else 0) + (if d.2.1 = p then d.2.2 else 0) := paid_snoc ds d p
/-- the k-th number -/
def nth (xs : List Int) (k : Int) : Int := (xs[k.toNat]?).getD 0
theorem at_nth {xs : List Int} {k : Int} (h0 : 0 ≤ k) (h1 : k < xs.length) : atI (xs.map V.int) k = some (.int (nth xs k)) := by
  have hk : k.toNat < xs.length := by omega
  have e : atI (xs.map V.int) ((k.toNat : Nat) : Int) = some (.int xs[k.toNat]) := atI_nat (by rw [List.getElem?_map, List.getElem?_eq_getElem hk]; rfl)
  rw [show ((k.toNat : Nat) : Int) = k by omega] at e
  rw [e]
  unfold nth
  rw [List.getElem?_eq_getElem hk]
  rfl
theorem ix_nth {n : Nat} {k : Int} (h0 : 0 ≤ k) (h1 : k < n) : ixN n k = some k.toNat := by
  unfold ixN
  rw [if_pos h0, if_pos h1]
theorem nth_set {xs : List Int} {k i v : Int} (h0 : 0 ≤ k) (h1 : k < xs.length) (hi : 0 ≤ i) : nth (xs.set k.toNat v) i = if k = i then v else nth xs i := by
  unfold nth
  rw [List.getElem?_set]
  by_cases c : k = i
  · subst c
    have : k.toNat < xs.length := by omega
    simp [this]
  · have : ¬ k.toNat = i.toNat := by omega
    rw [if_neg this, if_neg c]
structure RawOk (hs : List Int) (raw : List (Int × Int × Int)) : Prop where
  ix : ∀ r ∈ raw, 0 ≤ r.1 ∧ r.1 < r.2.1 ∧ r.2.1 < hs.length
  pos : ∀ r ∈ raw, 0 ≤ r.2.2
  two : ∀ r ∈ raw, 2 ≤ nth hs r.1 + nth hs r.2.1
  due : ∀ r ∈ raw, 0 < r.2.2 → nth hs r.1 + nth hs r.2.1 = 2
  len : raw.length ≤ 81
  hl : hs.length ≤ 9
  hb : ∀ h ∈ hs, 0 ≤ h ∧ h ≤ 2
/-- the h of a number -/
def hvOf : List Int → List Int → Int → Int
  | n :: ns, h :: hs, p => if n = p then h else hvOf ns hs p
  | _, _, _ => 0
theorem hvOf_at : ∀ {ns hs : List Int} {k : Nat} {p h : Int}, ns.Pairwise (· < ·) → ns[k]? = some p → hs[k]? = some h → hvOf ns hs p = h
  | [], _, _, _, _, _, e, _ => by simp at e
  | _ :: _, [], _, _, _, _, _, e => by simp at e
  | n :: ns, x :: hs, 0, p, h, _, e1, e2 => by
    simp at e1 e2
    subst e1; subst e2
    rw [hvOf, if_pos rfl]
  | n :: ns, x :: hs, k + 1, p, h, hp, e1, e2 => by
    rw [List.pairwise_cons] at hp
    have e1' : ns[k]? = some p := by simpa using e1
    have := hp.1 p (List.mem_of_getElem? e1')
    rw [hvOf, if_neg (by omega)]
    exact hvOf_at hp.2 e1' (by simpa using e2)
theorem hv_nth {ns hs : List Int} (hp : ns.Pairwise (· < ·)) (hl : ns.length = hs.length) {k : Int} (h0 : 0 ≤ k) (h1 : k < hs.length) : hvOf ns hs (nth ns k) = nth hs k := by
  have a1 : k.toNat < ns.length := by omega
  have a2 : k.toNat < hs.length := by omega
  unfold nth
  rw [List.getElem?_eq_getElem a1, List.getElem?_eq_getElem a2]
  exact hvOf_at hp (List.getElem?_eq_getElem a1) (List.getElem?_eq_getElem a2)
theorem nth_inj {ns : List Int} (hp : ns.Pairwise (· < ·)) {k j : Int} (k0 : 0 ≤ k) (k1 : k < ns.length) (j0 : 0 ≤ j) (j1 : j < ns.length) (e : nth ns k = nth ns j) : k = j := by
  have a1 : k.toNat < ns.length := by omega
  have a2 : j.toNat < ns.length := by omega
  unfold nth at e
  rw [List.getElem?_eq_getElem a1, List.getElem?_eq_getElem a2] at e
  have e' : ns[k.toNat] = ns[j.toNat] := e
  rcases Nat.lt_trichotomy k.toNat j.toNat with z | z | z
  · have := List.pairwise_iff_getElem.mp hp _ _ a1 a2 z
    omega
  · omega
  · have := List.pairwise_iff_getElem.mp hp _ _ a2 a1 z
    omega
theorem nth_mem {hs : List Int} {k : Int} (h0 : 0 ≤ k) (h1 : k < hs.length) : nth hs k ∈ hs := by
  have a : k.toNat < hs.length := by omega
  unfold nth
  rw [List.getElem?_eq_getElem a]
  exact List.getElem_mem a
def duesOf (ns : List Int) (tw : Int) (raw : List (Int × Int × Int)) : List (Int × Int × Int) := (raw.filter fun r => decide (r.2.2 > 0)).map fun r => (nth ns r.1, nth ns r.2.1, r.2.2 * tw)
theorem paid_dues {ns : List Int} (hp : ns.Pairwise (· < ·)) {tw : Int} {i : Int} (i0 : 0 ≤ i) (i1 : i < ns.length) : ∀ {raw : List (Int × Int × Int)}, (∀ r ∈ raw, 0 ≤ r.1 ∧ r.1 < r.2.1 ∧ r.2.1 < ns.length) → (∀ r ∈ raw, 0 ≤ r.2.2) → paid (duesOf ns tw raw) (nth ns i) = praw raw i * tw
  | [], _, _ => by simp [duesOf, praw, paid]
  | r :: raw, hx, hz => by
    have ih := paid_dues hp (tw := tw) i0 i1 (raw := raw) (fun q hq => hx q (List.mem_cons_of_mem _ hq)) (fun q hq => hz q (List.mem_cons_of_mem _ hq))
    have hr := hx r (List.mem_cons_self ..)
    have hr0 := hz r (List.mem_cons_self ..)
    have c1 : (nth ns r.1 = nth ns i) = (r.1 = i) := propext ⟨fun e => nth_inj hp hr.1 (by omega) i0 i1 e, fun e => by rw [e]⟩
    have c2 : (nth ns r.2.1 = nth ns i) = (r.2.1 = i) := propext ⟨fun e => nth_inj hp (by omega) hr.2.2 i0 i1 e, fun e => by rw [e]⟩
    have e1 : praw (r :: raw) i = (if r.1 = i then r.2.2 else 0) + (if r.2.1 = i then r.2.2 else 0) + praw raw i := by
      unfold praw paid
      rw [List.map_cons, List.sum_cons]
    by_cases c : r.2.2 > 0
    · have e2 : duesOf ns tw (r :: raw) = (nth ns r.1, nth ns r.2.1, r.2.2 * tw) :: duesOf ns tw raw := by
        unfold duesOf
        rw [List.filter_cons, if_pos (decide_eq_true c), List.map_cons]
      rw [e2, e1]
      unfold paid at ih ⊢
      rw [List.map_cons, List.sum_cons, ih]
      simp only [c1, c2]
      rw [Int.add_mul, Int.add_mul]
      split <;> split <;> simp
    · have e2 : duesOf ns tw (r :: raw) = duesOf ns tw raw := by
        unfold duesOf
        rw [List.filter_cons, if_neg (by simpa using c)]
      have r0 : r.2.2 = 0 := by omega
      rw [e2, ih, e1, r0]
      simp
theorem dues_len (ns : List Int) (tw : Int) (raw : List (Int × Int × Int)) : (duesOf ns tw raw).length ≤ raw.length := by
  unfold duesOf
  rw [List.length_map]
  exact List.length_filter_le _ _
theorem dues_take {ns : List Int} {tw : Int} {raw : List (Int × Int × Int)} {i : Nat} {r : Int × Int × Int} (h : raw[i]? = some r) : duesOf ns tw (raw.take (i + 1)) = duesOf ns tw (raw.take i) ++ if decide (r.2.2 > 0) = true then [(nth ns r.1, nth ns r.2.1, r.2.2 * tw)] else [] := by
  unfold duesOf
  rw [take_get h, List.filter_append, List.map_append]
  congr 1
  rw [List.filter_cons]
  split <;> simp
/-- what the walk over the places has found -/
structure PlW (hs : List Int) (raw : List (Int × Int × Int)) (tw : Int) (i : Nat) (ns : List Int) (ps : List (Int × Int)) : Prop where
  len : ns.length = i
  rise : ns.Pairwise (· < ·)
  pl : ps.length ≤ i
  at' : ∀ p ∈ ps, ∃ k : Int, 0 ≤ k ∧ k < i ∧ p.1 = nth ns k ∧ (¬ nth hs k = 0 → p.2 = praw raw k * tw / 2)
theorem nth_snoc {xs : List Int} {n k : Int} (h0 : 0 ≤ k) (h1 : k < xs.length) : nth (xs ++ [n]) k = nth xs k := by
  unfold nth
  rw [List.getElem?_append_left (by omega)]
theorem nth_last {xs : List Int} {n : Int} : nth (xs ++ [n]) xs.length = n := by
  unfold nth
  simp
theorem PlW.step {hs : List Int} {raw : List (Int × Int × Int)} {tw : Int} {i : Nat} {ns : List Int} {ps : List (Int × Int)} (h : PlW hs raw tw i ns ps) {n : Int} (hn : ∀ x ∈ ns, x < n) : PlW hs raw tw (i + 1) (ns ++ [n]) ps :=
  ⟨by rw [List.length_append, List.length_singleton, h.len], List.pairwise_append.mpr ⟨h.rise, List.pairwise_singleton _ _, fun a ha b hb => by rw [List.mem_singleton.mp hb]; exact hn a ha⟩, by have := h.pl; omega, fun p hp => by
    obtain ⟨k, k0, k1, e1, e2⟩ := h.at' p hp
    exact ⟨k, k0, by omega, by rw [nth_snoc k0 (by rw [h.len]; omega)]; exact e1, e2⟩⟩
theorem PlW.stepP {hs : List Int} {raw : List (Int × Int × Int)} {tw : Int} {i : Nat} {ns : List Int} {ps : List (Int × Int)} (h : PlW hs raw tw i ns ps) {n pr : Int} (hn : ∀ x ∈ ns, x < n) (hp : ¬ nth hs i = 0 → pr = praw raw i * tw / 2) : PlW hs raw tw (i + 1) (ns ++ [n]) (ps ++ [(n, pr)]) := by
  have z := h.step hn
  refine ⟨z.len, z.rise, by rw [List.length_append, List.length_singleton]; have := h.pl; omega, fun p hp' => ?_⟩
  rcases List.mem_append.mp hp' with q | q
  · exact z.at' p q
  · rw [List.mem_singleton.mp q]
    exact ⟨i, by omega, by omega, by rw [← h.len, nth_last], hp⟩
theorem pap_of {hs : List Int} {raw : List (Int × Int × Int)} {tw : Int} {ns : List Int} {ps ts : List (Int × Int)} (R : RawOk hs raw) (W : PlW hs raw tw hs.length ns ps) (ev : ∀ k : Int, 0 ≤ k → k < hs.length → 0 < nth hs k → (praw raw k * tw) % 2 = 0)
    (ht : ∀ t ∈ ts, ∃ r ∈ raw, t = (nth ns r.1, nth ns r.2.1)) (hl : ts.length ≤ 81) : Pap ps ts (duesOf ns tw raw) (hvOf ns hs) := by
  have hlen := W.len
  have hix : ∀ r ∈ raw, 0 ≤ r.1 ∧ r.1 < r.2.1 ∧ r.2.1 < ns.length := fun r hr => by have := R.ix r hr; omega
  refine ⟨fun p hp hlo => ?_, fun t htt => ?_, fun t htt d hd e => ?_, ?_, hl, ?_⟩
  · obtain ⟨k, k0, k1, e1, e2⟩ := W.at' p hp
    rw [e1, hv_nth W.rise hlen k0 k1]
    rw [e1, paid_dues W.rise k0 (by omega) hix R.pos] at hlo
    by_cases c : nth hs k = 0
    · exact c
    · have hb := R.hb _ (nth_mem k0 k1)
      have e3 := e2 c
      have e4 := ev k k0 k1 (by omega)
      omega
  · obtain ⟨r, hr, e⟩ := ht t htt
    have a := R.ix r hr
    have b1 := R.hb _ (nth_mem (hs := hs) (k := r.1) (by omega) (by omega))
    have b2 := R.hb _ (nth_mem (hs := hs) (k := r.2.1) (by omega) (by omega))
    have b3 := R.two r hr
    rw [e]
    dsimp only
    rw [hv_nth W.rise hlen (by omega) (by omega), hv_nth W.rise hlen (by omega) (by omega)]
    exact ⟨b1, b2, b3⟩
  · obtain ⟨r, hr, e0⟩ := ht t htt
    obtain ⟨q, hq, e1⟩ := List.mem_map.mp hd
    obtain ⟨hq1, hq2⟩ := List.mem_filter.mp hq
    have a := R.ix q hq1
    have b := R.due q hq1 (of_decide_eq_true hq2)
    rw [← e, ← e1]
    dsimp only
    rw [hv_nth W.rise hlen (by omega) (by omega), hv_nth W.rise hlen (by omega) (by omega)]
    exact b
  · have := W.pl
    have := R.hl
    omega
  · have := dues_len ns tw raw
    have := R.len
    omega
/-- the odd ones among what is due where there is an h -/
def oddsOf (hs : List Int) (raw : List (Int × Int × Int)) (i : Nat) : List Int := ((List.range i).filter fun (k : Nat) => decide (nth hs (k : Int) > 0)).map fun (k : Nat) => praw raw (k : Int) % 2
theorem odds_take (hs : List Int) (raw : List (Int × Int × Int)) (i : Nat) : oddsOf hs raw (i + 1) = oddsOf hs raw i ++ if decide (nth hs i > 0) = true then [praw raw i % 2] else [] := by
  unfold oddsOf
  rw [List.range_succ, List.filter_append, List.map_append]
  congr 1
  rw [List.filter_cons]
  split <;> simp
theorem odds_len (hs : List Int) (raw : List (Int × Int × Int)) (i : Nat) : (oddsOf hs raw i).length ≤ i := by
  unfold oddsOf
  rw [List.length_map]
  exact Nat.le_trans (List.length_filter_le _ _) (by rw [List.length_range]; exact Nat.le_refl _)
theorem odds_even {hs : List Int} {raw : List (Int × Int × Int)} {m : Int} (h1 : oddsOf hs raw hs.length = [] → m = 0) (h2 : oddsOf hs raw hs.length ≠ [] → m ∈ oddsOf hs raw hs.length) (h3 : ∀ x ∈ oddsOf hs raw hs.length, x ≤ m) :
    (0 ≤ m ∧ m ≤ 1) ∧ ∀ k : Int, 0 ≤ k → k < hs.length → 0 < nth hs k → (praw raw k * (1 + m)) % 2 = 0 := by
  have hb : 0 ≤ m ∧ m ≤ 1 := by
    by_cases c : oddsOf hs raw hs.length = []
    · have := h1 c; omega
    · obtain ⟨k, _, e⟩ := List.mem_map.mp (h2 c)
      have := Int.emod_nonneg (praw raw k) (show (2 : Int) ≠ 0 by decide)
      have := Int.emod_lt_of_pos (praw raw k) (show (0 : Int) < 2 by decide)
      omega
  refine ⟨hb, fun k k0 k1 hk => ?_⟩
  have hm : praw raw k % 2 ∈ oddsOf hs raw hs.length := by
    refine List.mem_map.mpr ⟨k.toNat, List.mem_filter.mpr ⟨List.mem_range.mpr (by omega), ?_⟩, ?_⟩
    · rw [show ((k.toNat : Nat) : Int) = k by omega]
      exact decide_eq_true hk
    · rw [show ((k.toNat : Nat) : Int) = k by omega]
  have h4 := h3 _ hm
  have : m = 0 ∨ m = 1 := by omega
  rcases this with rfl | rfl
  · rw [show (1 : Int) + 0 = 1 from rfl, Int.mul_one]
    have := Int.emod_nonneg (praw raw k) (show (2 : Int) ≠ 0 by decide)
    omega
  · rw [show (1 : Int) + 1 = 2 from rfl]
    omega
def Rw (H : Hp) (v : V) (r : Int × Int × Int) : Prop := ∃ a, v = .ref a ∧ H a = some (.lst [.int r.1, .int r.2.1, .int r.2.2])
abbrev Rws (H : Hp) : List V → List (Int × Int × Int) → Prop := Paired (Rw H)
theorem Rws.same {H H' : Hp} (s : Same H H') {xs : List V} {rs : List (Int × Int × Int)} (h : Rws H xs rs) : Rws H' xs rs := Paired.mapP h fun _ _ ⟨a, e, q⟩ => ⟨a, e, s _ _ q⟩
theorem ne_sti {H : Hp} {st a : Addr} {o : HO} {ns : List Int} (e : H st = some o) (so : StO o) (ea : H a = some (.lst (ns.map V.int))) : a ≠ st := fun z => by
  rw [z, e] at ea
  obtain ⟨c, x, fl, rfl, _⟩ := so
  have : [V.int c, .int x, .bl fl] = ns.map V.int := by injection ea with ea; injection ea
  match ns, this with
  | [a, b, d], h => simp at h
theorem Rw.but {H H' : Hp} {st : Addr} {o : HO} (e : H st = some o) (so : StO o) (b : But st H H') {v : V} {r : Int × Int × Int} (h : Rw H v r) : Rw H' v r := by
  obtain ⟨a, e1, q⟩ := h
  have q' : H a = some (.lst ([r.1, r.2.1, r.2.2].map V.int)) := q
  exact ⟨a, e1, b _ _ (ne_sti e so q') q⟩
theorem Rws.but {H H' : Hp} {st : Addr} {o : HO} (e : H st = some o) (so : StO o) (b : But st H H') {xs : List V} {rs : List (Int × Int × Int)} (h : Rws H xs rs) : Rws H' xs rs := Paired.mapP h fun _ _ q => q.but e so b
theorem rws_refs {H : Hp} : ∀ {xs : List V} {ps : List (Int × Int × Int)}, Rws H xs ps → ∀ v ∈ xs, ∃ t, v = .ref t
  | _, _, .nil => fun v h => by cases h
  | _, _, .cons r t => fun v h => by
    rcases List.mem_cons.mp h with z | z
    · obtain ⟨b, e, _⟩ := r; rw [z]; exact ⟨b, e⟩
    · exact rws_refs t v z
theorem nth_zero {zs : List Int} (h : ∀ x ∈ zs, x = 0) (k : Int) : nth zs k = 0 := by
  unfold nth
  cases e : zs[k.toNat]? with
  | none => rfl
  | some v => exact h v (List.mem_of_getElem? e)
theorem menu3 {a b c d : Int} (h0 : 0 ≤ d) (h1 : d < 3) : ∃ v, atI [V.int a, .int b, .int c] d = some (.int v) ∧ (v = a ∨ v = b ∨ v = c) := by
  have hd : d = 0 ∨ d = 1 ∨ d = 2 := by omega
  rcases hd with rfl | rfl | rfl
  · exact ⟨a, at0, .inl rfl⟩
  · exact ⟨b, at1, .inr (.inl rfl)⟩
  · exact ⟨c, at2, .inr (.inr rfl)⟩
def spPriced : Sp := fun vs H Q _ => ∃ (st ha ra : Addr) (o : HO) (hs : List Int) (rx : List V) (raw : List (Int × Int × Int)), vs = [.ref st, .ref ha, .ref ra] ∧ H st = some o ∧ StO o ∧ H ha = some (.lst (hs.map V.int)) ∧ H ra = some (.lst rx) ∧ Rws H rx raw ∧ RawOk hs raw ∧
  ∀ (t : Addr) (wv hl : V) (da : Addr) (dx : List V) (ps ts : List (Int × Int)) (ds : List (Int × Int × Int)) (hv : Int → Int) (H' : Hp) (o' : HO), But st H H' → H' st = some o' → StO o' → H' t = some (.tup [wv, hl, .ref da]) → WebAt H' wv ps ts → H' da = some (.lst dx) → Trs H' dx ds → Pap ps ts ds hv → Q (.ref t) H'
end
end My

set_option Elab.async false
set_option linter.all false
set_option maxRecDepth 100000
set_option maxHeartbeats 4000000
namespace My
open PySem L2
section
variable {P : Program} {w : World} {K : PySem.W.Frag} {mg : Str → Option Value} {base : Heap} {c1 c2 c3 c4 : Tok}
theorem ok_law_priced {f : Addr} {fd : FuncData} {f_law_take : Addr} {d_law_take : FuncData} (B : Blt mg) (D : DefAt K mg "_law_priced" (top 7) ["_law_state", "_law_hs", "_law_raw"] f fd) (D_law_take : DefAt K mg "_law_take" (top 6) ["_law_state", "_law_many"] f_law_take d_law_take) (G_law_take : FnOk P w K mg base CX0 1 f_law_take d_law_take ["_law_state", "_law_many"] spTake) : FnOk P w K mg base CX0 2 f fd ["_law_state", "_law_hs", "_law_raw"] spPriced := by
  have sc : FnScope ["_law_state", "_law_hs", "_law_raw", "_law_paid", "_law_k", "_law_j", "_law_due_here", "_law_twice", "_law_number", "_law_names", "_law_places", "_law_halves", "_law_price", "_law_kept", "_law_ties", "_law_dues"] ["_law_state", "_law_hs", "_law_raw"] (defScope (top 7)) := ⟨rfl, rfl, rfl, by decide +kernel, rfl, by decide +kernel, by decide +kernel⟩
  refine D.F.ok sc (fun vs H Q E h => ?_) (fun cdv A outer s H vs Q E hr h => ?_)
  · obtain ⟨st, ha, ra, o, hs, rx, raw, rfl, _⟩ := h
    rfl
  obtain ⟨st, ha, ra, o, hs, rx, raw, rfl, es, so, eh, er, pr, R, h⟩ := h
  have hrx : rx.length = raw.length := Paired.length pr
  have nha := ne_sti es so eh
  have nra := ne_st es so er (rws_refs pr)
  have hhl := R.hl
  have hrl := R.len
  have hu := hu_of hr
  have hu0 : _ < PySem.cLine := Nat.lt_of_succ_lt hu
  refine ⟨_, (pss_cons (ps_set (i := 3) sc.nd rfl (Or.inr rfl) (pe_comp (CpScope.of (N := ["_law_h"]) (src := [none]) (by rfl)) rfl (pi_list (qv 1)) (fun _ _ _ _ => (pg_name (i := 0) (nodupB_ok (l := ["_law_h"]) (by rfl)) rfl (Or.inl rfl))) (fun _ _ _ _ => pif_nil) (fun _ _ _ _ => pe_int))) (pss_cons (ps_for PassesOwn.never rfl (pi_list (qv 2)) (qg_lst (n := 3) rfl (qgs_cons (pg_name (i := 4) sc.nd rfl (Or.inl rfl)) (qgs_cons (pg_name (i := 5) sc.nd rfl (Or.inl rfl)) (qgs_cons (pg_name (i := 6) sc.nd rfl (Or.inl rfl)) qgs_nil)))) (pss_cons (ps_asg (pe_op q_add (pe_ix q_ix (qv 3) (qv 4) (fun _ _ => rfl)) (qv 6)) (pg_sub (qv 3) (qv 4) q_setL)) (pss_one (ps_asg (pe_op q_add (pe_ix q_ix (qv 3) (qv 5) (fun _ _ => rfl)) (qv 6)) (pg_sub (qv 3) (qv 5) q_setL))))) (pss_cons (ps_set (i := 7) sc.nd rfl (Or.inr rfl) (pe_op q_add pe_int (pe_callBK (call_maxD rfl) rfl B.max PyProof.Rows.boot_max (pa_cons (pe_comp (CpScope.of (N := ["_law_k", "_law_paid", "_law_hs"]) (src := [none, some 3, some 1]) (by rfl)) rfl (pi_range1 rfl B.range (pa_cons (pe_callB q_len rfl B.len PySem.boot_len (pa_cons (qv 1) pa_nil)) pa_nil)) (fun _ _ _ _ => (pg_name (i := 0) (nodupB_ok (l := ["_law_k", "_law_paid", "_law_hs"]) (by rfl)) rfl (Or.inl rfl))) (fun _ _ _ _ => (pif_one (qt_cmp q_gt (pe_ix q_ix (qv 2) (qv 0) (fun _ _ => rfl)) pe_int (nomark _)))) (fun _ _ _ _ => (pe_op q_mod (pe_ix q_ix (qv 1) (qv 0) (fun _ _ => rfl)) pe_int))) pa_nil) (pk_cons pe_int pk_nil)))) (pss_cons (ps_set (i := 8) sc.nd rfl (Or.inl rfl) (pe_un q_neg pe_int)) (pss_cons (ps_set (i := 9) sc.nd rfl (Or.inr rfl) (pe_lst pa_nil)) (pss_cons (ps_set (i := 10) sc.nd rfl (Or.inl rfl) (pe_lst pa_nil)) (pss_cons (ps_set (i := 11) sc.nd rfl (Or.inl rfl) (pe_lst pa_nil)) (pss_cons (ps_for PassesOwn.never rfl (pi_range1 rfl B.range (pa_cons (pe_callB q_len rfl B.len PySem.boot_len (pa_cons (qv 1) pa_nil)) pa_nil)) (pg_name (i := 4) sc.nd rfl (Or.inl rfl)) (pss_cons (ps_set (i := 8) sc.nd rfl (Or.inl rfl) (pe_op q_add (pe_op q_add (qv 8) pe_int) (pe_call G_law_take (hr.mono (by decide)) rfl D_law_take.m D_law_take.F.kp D_law_take.b .nil pass0 (pa_cons (qv 0) (pa_cons (pe_ix q_ix (pe_lst (pa_cons pe_int (pa_cons pe_int (pa_cons pe_int pa_nil)))) (pe_call G_law_take (hr.mono (by decide)) rfl D_law_take.m D_law_take.F.kp D_law_take.b .nil pass0 (pa_cons (qv 0) (pa_cons pe_int pa_nil))) (fun _ _ => rfl)) pa_nil))))) (pss_cons (ps_expr (q_bm PySem.F.plainAttrs_list PySem.F.slot_list_append PySem.F.type_list_append q_append (qv 9) (pa_cons (qv 8) pa_nil))) (pss_cons (ps_set (i := 12) sc.nd rfl (Or.inl rfl) (pe_op q_fdiv (pe_op q_mul (pe_ix q_ix (qv 3) (qv 4) (fun _ _ => rfl)) (qv 7)) pe_int)) (pss_cons (ps_if (qt_cmp q_eq (pe_ix q_ix (qv 1) (qv 4) (fun _ _ => rfl)) pe_int (nomark _)) (pss_one (ps_set (i := 12) sc.nd rfl (Or.inl rfl) (pe_callB (q_max rfl) rfl B.max PyProof.Rows.boot_max (pa_cons pe_int (pa_cons (pe_op q_add (pe_op q_fdiv (pe_op q_add (pe_op q_mul (pe_ix q_ix (qv 3) (qv 4) (fun _ _ => rfl)) (qv 7)) pe_int) pe_int) (pe_call G_law_take (hr.mono (by decide)) rfl D_law_take.m D_law_take.F.kp D_law_take.b .nil pass0 (pa_cons (qv 0) (pa_cons pe_int pa_nil)))) pa_nil))))) pss_nil) (pss_one (ps_if (qt_cmp q_gt (qv 12) pe_int (nomark _)) (pss_cons (ps_expr (q_bm PySem.F.plainAttrs_list PySem.F.slot_list_append PySem.F.type_list_append q_append (qv 10) (pa_cons (pe_tup (pa_cons (qv 8) (pa_cons (qv 12) pa_nil))) pa_nil))) (pss_one (ps_expr (q_bm PySem.F.plainAttrs_list PySem.F.slot_list_append PySem.F.type_list_append q_append (qv 11) (pa_cons (pe_tup (pa_cons (qv 8) (pa_cons (pe_ix q_ix (qv 1) (qv 4) (fun _ _ => rfl)) pa_nil))) pa_nil))))) pss_nil))))))) (pss_cons (ps_set (i := 13) sc.nd rfl (Or.inr rfl) (pe_comp (CpScope.of (N := ["_law_place", "_law_h"]) (src := [none, none]) (by rfl)) rfl (pi_list (qv 11)) (fun _ _ _ _ => (qg_tup (n := 2) rfl (qgs_cons (pg_name (i := 0) (nodupB_ok (l := ["_law_place", "_law_h"]) (by rfl)) rfl (Or.inl rfl)) (qgs_cons (pg_name (i := 1) (nodupB_ok (l := ["_law_place", "_law_h"]) (by rfl)) rfl (Or.inl rfl)) qgs_nil)))) (fun _ _ _ _ => pif_nil) (fun _ _ _ _ => (qv 0)))) (pss_cons (ps_setc (i := 14) sc.nd rfl (Or.inl rfl) (CpScope.of (N := ["_law_k", "_law_j", "_law_due_here", "_law_names", "_law_kept"]) (src := [none, none, none, some 9, some 13]) (by rfl)) rfl (pi_list (qv 2)) (fun _ _ _ _ => (qg_lst (n := 3) rfl (qgs_cons (pg_name (i := 0) (nodupB_ok (l := ["_law_k", "_law_j", "_law_due_here", "_law_names", "_law_kept"]) (by rfl)) rfl (Or.inl rfl)) (qgs_cons (pg_name (i := 1) (nodupB_ok (l := ["_law_k", "_law_j", "_law_due_here", "_law_names", "_law_kept"]) (by rfl)) rfl (Or.inl rfl)) (qgs_cons (pg_name (i := 2) (nodupB_ok (l := ["_law_k", "_law_j", "_law_due_here", "_law_names", "_law_kept"]) (by rfl)) rfl (Or.inl rfl)) qgs_nil))))) (fun _ _ _ _ => (pif_one (PW.pt (pw_and (qt_cmp q_inL (pe_ix q_ix (qv 3) (qv 0) (fun _ _ => rfl)) (qv 4) (by with_unfolding_all rfl)) (pw_and1 (qt_cmp q_inL (pe_ix q_ix (qv 3) (qv 1) (fun _ _ => rfl)) (qv 4) (by with_unfolding_all rfl))))))) (fun _ _ _ _ => (pe_tup (pa_cons (pe_ix q_ix (qv 3) (qv 0) (fun _ _ => rfl)) (pa_cons (pe_ix q_ix (qv 3) (qv 1) (fun _ _ => rfl)) pa_nil))))) (pss_cons (ps_setc (i := 15) sc.nd rfl (Or.inl rfl) (CpScope.of (N := ["_law_k", "_law_j", "_law_due_here", "_law_names", "_law_twice"]) (src := [none, none, none, some 9, some 7]) (by rfl)) rfl (pi_list (qv 2)) (fun _ _ _ _ => (qg_lst (n := 3) rfl (qgs_cons (pg_name (i := 0) (nodupB_ok (l := ["_law_k", "_law_j", "_law_due_here", "_law_names", "_law_twice"]) (by rfl)) rfl (Or.inl rfl)) (qgs_cons (pg_name (i := 1) (nodupB_ok (l := ["_law_k", "_law_j", "_law_due_here", "_law_names", "_law_twice"]) (by rfl)) rfl (Or.inl rfl)) (qgs_cons (pg_name (i := 2) (nodupB_ok (l := ["_law_k", "_law_j", "_law_due_here", "_law_names", "_law_twice"]) (by rfl)) rfl (Or.inl rfl)) qgs_nil))))) (fun _ _ _ _ => (pif_one (qt_cmp q_gt (qv 2) pe_int (nomark _)))) (fun _ _ _ _ => (pe_tup (pa_cons (pe_ix q_ix (qv 3) (qv 0) (fun _ _ => rfl)) (pa_cons (pe_ix q_ix (qv 3) (qv 1) (fun _ _ => rfl)) (pa_cons (pe_op q_mul (qv 2) (qv 4)) pa_nil)))))) (pss_one (ps_ret (pe_tup (pa_cons (pe_tup (pa_cons (qv 10) (pa_cons (qv 14) pa_nil))) (pa_cons (qv 11) (pa_cons (qv 15) pa_nil))))))))))))))))), ?_⟩
  try simp only [tSeq, tNext, tDrop, tRet, tRetN, tIfS, tAsg, gName, fAug, tOp, tUn, tC, fVar, fI, fIC, fNeg, fEq, fNe, fIsN, isNon, fAnd, fOr, fNot, fB, tNot, tAnd, tOr, fChain, fIx, fLen, fListOf, fMin, fMax, fInL, fSlL, tSl, fPart, tNoPart, fAppend, fBM, fSetL, gSub, fGNil, fGCons, fGTup, fGLst, fDGet2, sDPutF, tDNewK, fCat, fClear, fBM0, fSlT, fInt1, tCBK, fDIn, fDGet, fIsi, fBools, fDictL, fLtT, tCall, tCB, tCons, tNil, tTup, tLst, tIf, tTrue, Kd.nm, L2.start, List.map_cons, List.map_nil, List.length_cons, List.length_nil, Nat.reduceAdd, Nat.reduceSub, List.replicate_succ, List.replicate_zero, List.getElem?_cons_zero, List.getElem?_cons_succ, List.set_cons_zero, List.set_cons_succ, List.append_nil, List.nil_append, List.cons_append, eq_self, true_and, and_true, if_true, Bool.false_eq_true, if_false, Bool.not_true, Bool.not_false, id_eq, sl0, sl1, sl2, sl3, sl4]
  refine tComp_hide (Itl K ha) H (fun R hR => ?_) (fun pl hpl => comp_run hs.length (fun i σ' Hc => ∃ w1 zs, σ' = [w1] ∧ Same H Hc ∧ Hc pl = some (.lst (zs.map V.int)) ∧ zs.length = i ∧ ∀ x ∈ zs, x = (0 : Int)) ⟨none, [], rfl, same_new hpl _, upd_same, rfl, (fun x hx => by cases hx)⟩ ?_ ?_)
  · unfold iList
    try simp only [tSeq, tNext, tDrop, tRet, tRetN, tIfS, tAsg, gName, fAug, tOp, tUn, tC, fVar, fI, fIC, fNeg, fEq, fNe, fIsN, isNon, fAnd, fOr, fNot, fB, tNot, tAnd, tOr, fChain, fIx, fLen, fListOf, fMin, fMax, fInL, fSlL, tSl, fPart, tNoPart, fAppend, fBM, fSetL, gSub, fGNil, fGCons, fGTup, fGLst, fDGet2, sDPutF, tDNewK, fCat, fClear, fBM0, fSlT, fInt1, tCBK, fDIn, fDGet, fIsi, fBools, fDictL, fLtT, tCall, tCB, tCons, tNil, tTup, tLst, tIf, tTrue, Kd.nm, L2.start, List.map_cons, List.map_nil, List.length_cons, List.length_nil, Nat.reduceAdd, Nat.reduceSub, List.replicate_succ, List.replicate_zero, List.getElem?_cons_zero, List.getElem?_cons_succ, List.set_cons_zero, List.set_cons_succ, List.append_nil, List.nil_append, List.cons_append, eq_self, true_and, and_true, if_true, Bool.false_eq_true, if_false, Bool.not_true, Bool.not_false, id_eq, sl0, sl1, sl2, sl3, sl4]
    exact ⟨ha, rfl, ⟨_, SqL.of eh⟩, hR⟩
  · rintro k σ' Hc hk ⟨w1, zs, rfl, s4, ez, lz, az⟩
    have X1 : (hs.map V.int)[k]? = some (.int hs[k]) := by rw [List.getElem?_map, List.getElem?_eq_getElem hk]; rfl
    have z1 : SqL K Hc ha (hs.map V.int) := SqL.of (s4 _ _ eh)
    refine ⟨⟨_, _, z1, X1⟩, ?_⟩
    rintro y H' ⟨rfl, hy⟩
    try simp only [tSeq, tNext, tDrop, tRet, tRetN, tIfS, tAsg, gName, fAug, tOp, tUn, tC, fVar, fI, fIC, fNeg, fEq, fNe, fIsN, isNon, fAnd, fOr, fNot, fB, tNot, tAnd, tOr, fChain, fIx, fLen, fListOf, fMin, fMax, fInL, fSlL, tSl, fPart, tNoPart, fAppend, fBM, fSetL, gSub, fGNil, fGCons, fGTup, fGLst, fDGet2, sDPutF, tDNewK, fCat, fClear, fBM0, fSlT, fInt1, tCBK, fDIn, fDGet, fIsi, fBools, fDictL, fLtT, tCall, tCB, tCons, tNil, tTup, tLst, tIf, tTrue, Kd.nm, L2.start, List.map_cons, List.map_nil, List.length_cons, List.length_nil, Nat.reduceAdd, Nat.reduceSub, List.replicate_succ, List.replicate_zero, List.getElem?_cons_zero, List.getElem?_cons_succ, List.set_cons_zero, List.set_cons_succ, List.append_nil, List.nil_append, List.cons_append, eq_self, true_and, and_true, if_true, Bool.false_eq_true, if_false, Bool.not_true, Bool.not_false, id_eq, sl0, sl1, sl2, sl3, sl4]
    refine ⟨_, ez, by rw [List.length_map]; exact szl' (by omega), _, zs ++ [0], rfl, same_upd s4 hpl, by rw [List.map_append]; exact upd_same, by rw [List.length_append, List.length_singleton, lz], fun x hx => ?_⟩
    rcases List.mem_append.mp hx with z | z
    · exact az x z
    · exact List.mem_singleton.mp z
  rintro σ' H1 ⟨w1, zs0, rfl, s1, e1, lz0, az0⟩
  refine ⟨⟨_, SqL.of (s1 _ _ eh), by rw [List.length_map]; exact Nat.le_refl _⟩, ?_⟩
  try simp only [tSeq, tNext, tDrop, tRet, tRetN, tIfS, tAsg, gName, fAug, tOp, tUn, tC, fVar, fI, fIC, fNeg, fEq, fNe, fIsN, isNon, fAnd, fOr, fNot, fB, tNot, tAnd, tOr, fChain, fIx, fLen, fListOf, fMin, fMax, fInL, fSlL, tSl, fPart, tNoPart, fAppend, fBM, fSetL, gSub, fGNil, fGCons, fGTup, fGLst, fDGet2, sDPutF, tDNewK, fCat, fClear, fBM0, fSlT, fInt1, tCBK, fDIn, fDGet, fIsi, fBools, fDictL, fLtT, tCall, tCB, tCons, tNil, tTup, tLst, tIf, tTrue, Kd.nm, L2.start, List.map_cons, List.map_nil, List.length_cons, List.length_nil, Nat.reduceAdd, Nat.reduceSub, List.replicate_succ, List.replicate_zero, List.getElem?_cons_zero, List.getElem?_cons_succ, List.set_cons_zero, List.set_cons_succ, List.append_nil, List.nil_append, List.cons_append, eq_self, true_and, and_true, if_true, Bool.false_eq_true, if_false, Bool.not_true, Bool.not_false, id_eq, sl0, sl1, sl2, sl3, sl4]
  refine tFor_hide (Itl K ra) H1 (fun R hR => ?_) (for_list (K := K) (a := ra) (xs := rx) (fun j σ H2 => ∃ v1 v2 v3 v4 v5 v6 v7 v8 v9 v10 v11 v12 zs, σ = [some (.ref st), some (.ref ha), some (.ref ra), some (.ref pl), v1, v2, v3, v4, v5, v6, v7, v8, v9, v10, v11, v12] ∧ Same H H2 ∧ H2 pl = some (.lst (zs.map V.int)) ∧ zs.length = hs.length ∧ ∀ i : Int, 0 ≤ i → i < hs.length → nth zs i = praw (raw.take j) i) ⟨none, none, none, none, none, none, none, none, none, none, none, none, zs0, rfl, s1, e1, lz0, fun i _ _ => by rw [nth_zero az0]; rfl⟩ (fun j σ H2 _ ⟨_, _, _, _, _, _, _, _, _, _, _, _, _, _, s2, _⟩ => SqL.of (s2 _ _ er)) ?_ ?_)
  · unfold iList
    try simp only [tSeq, tNext, tDrop, tRet, tRetN, tIfS, tAsg, gName, fAug, tOp, tUn, tC, fVar, fI, fIC, fNeg, fEq, fNe, fIsN, isNon, fAnd, fOr, fNot, fB, tNot, tAnd, tOr, fChain, fIx, fLen, fListOf, fMin, fMax, fInL, fSlL, tSl, fPart, tNoPart, fAppend, fBM, fSetL, gSub, fGNil, fGCons, fGTup, fGLst, fDGet2, sDPutF, tDNewK, fCat, fClear, fBM0, fSlT, fInt1, tCBK, fDIn, fDGet, fIsi, fBools, fDictL, fLtT, tCall, tCB, tCons, tNil, tTup, tLst, tIf, tTrue, Kd.nm, L2.start, List.map_cons, List.map_nil, List.length_cons, List.length_nil, Nat.reduceAdd, Nat.reduceSub, List.replicate_succ, List.replicate_zero, List.getElem?_cons_zero, List.getElem?_cons_succ, List.set_cons_zero, List.set_cons_succ, List.append_nil, List.nil_append, List.cons_append, eq_self, true_and, and_true, if_true, Bool.false_eq_true, if_false, Bool.not_true, Bool.not_false, id_eq, sl0, sl1, sl2, sl3, sl4]
    exact ⟨ra, rfl, ⟨_, SqL.of (s1 _ _ er)⟩, hR⟩
  · rintro j y σ H2 hj ⟨v1, v2, v3, v4, v5, v6, v7, v8, v9, v10, v11, v12, zs, rfl, s2, e2, lz, az⟩
    obtain ⟨r, hr, px⟩ := paired_left pr hj
    obtain ⟨t, rfl, e3⟩ := px
    have e3' := s2 _ _ e3
    have rix := R.ix r (List.mem_of_getElem? hr)
    have a1 := at_nth (xs := zs) (k := r.1) (by omega) (by omega)
    have i1 := ix_nth (n := zs.length) (k := r.1) (by omega) (by omega)
    have a2 := at_nth (xs := zs.set r.1.toNat (nth zs r.1 + r.2.2)) (k := r.2.1) (by omega) (by rw [List.length_set]; omega)
    have i2 := ix_nth (n := zs.length) (k := r.2.1) (by omega) (by omega)
    have ms : ∀ (l : List Int) (k : Nat) (v : Int), (l.map V.int).set k (.int v) = (l.set k v).map V.int := fun l k v => (List.map_set ..).symm
    try simp only [tSeq, tNext, tDrop, tRet, tRetN, tIfS, tAsg, gName, fAug, tOp, tUn, tC, fVar, fI, fIC, fNeg, fEq, fNe, fIsN, isNon, fAnd, fOr, fNot, fB, tNot, tAnd, tOr, fChain, fIx, fLen, fListOf, fMin, fMax, fInL, fSlL, tSl, fPart, tNoPart, fAppend, fBM, fSetL, gSub, fGNil, fGCons, fGTup, fGLst, fDGet2, sDPutF, tDNewK, fCat, fClear, fBM0, fSlT, fInt1, tCBK, fDIn, fDGet, fIsi, fBools, fDictL, fLtT, tCall, tCB, tCons, tNil, tTup, tLst, tIf, tTrue, Kd.nm, L2.start, List.map_cons, List.map_nil, List.length_cons, List.length_nil, Nat.reduceAdd, Nat.reduceSub, List.replicate_succ, List.replicate_zero, List.getElem?_cons_zero, List.getElem?_cons_succ, List.set_cons_zero, List.set_cons_succ, List.append_nil, List.nil_append, List.cons_append, eq_self, true_and, and_true, if_true, Bool.false_eq_true, if_false, Bool.not_true, Bool.not_false, id_eq, sl0, sl1, sl2, sl3, sl4, e3', seqOf, e2, a1, List.length_map, i1, ms, upd_same, a2, List.length_set, i2, upd_upd]
    refine ⟨_, _, _, _, _, _, _, _, _, _, _, _, _, rfl, same_upd s2 hpl, rfl, by rw [List.length_set, List.length_set]; exact lz, fun i i0 i1' => ?_⟩
    rw [nth_set (by omega) (by rw [List.length_set]; omega) i0, nth_set (by omega) (by omega) (by omega), nth_set (by omega) (by omega) i0, take_get hr, praw_snoc, az i i0 i1', az r.1 (by omega) (by omega), az r.2.1 (by omega) (by omega)]
    by_cases c1 : r.1 = i
    · by_cases c2 : r.2.1 = i
      · omega
      · rw [if_neg c2, if_pos c1, if_neg c2, if_pos c1, c1]; omega
    · by_cases c2 : r.2.1 = i
      · rw [if_pos c2, if_neg (show ¬ r.1 = r.2.1 by omega), if_pos c2, if_neg c1, c2]; omega
      · rw [if_neg c2, if_neg c1, if_neg c2, if_neg c1]; omega
  rintro σ H2 ⟨v1, v2, v3, v4, v5, v6, v7, v8, v9, v10, v11, v12, zs, rfl, s2, e2, lz, az⟩
  rw [hrx, List.take_length] at az
  have eh2 := s2 _ _ eh
  have er2 := s2 _ _ er
  have pr2 := Rws.same s2 pr
  try simp only [tSeq, tNext, tDrop, tRet, tRetN, tIfS, tAsg, gName, fAug, tOp, tUn, tC, fVar, fI, fIC, fNeg, fEq, fNe, fIsN, isNon, fAnd, fOr, fNot, fB, tNot, tAnd, tOr, fChain, fIx, fLen, fListOf, fMin, fMax, fInL, fSlL, tSl, fPart, tNoPart, fAppend, fBM, fSetL, gSub, fGNil, fGCons, fGTup, fGLst, fDGet2, sDPutF, tDNewK, fCat, fClear, fBM0, fSlT, fInt1, tCBK, fDIn, fDGet, fIsi, fBools, fDictL, fLtT, tCall, tCB, tCons, tNil, tTup, tLst, tIf, tTrue, Kd.nm, L2.start, List.map_cons, List.map_nil, List.length_cons, List.length_nil, Nat.reduceAdd, Nat.reduceSub, List.replicate_succ, List.replicate_zero, List.getElem?_cons_zero, List.getElem?_cons_succ, List.set_cons_zero, List.set_cons_succ, List.append_nil, List.nil_append, List.cons_append, eq_self, true_and, and_true, if_true, Bool.false_eq_true, if_false, Bool.not_true, Bool.not_false, id_eq, sl0, sl1, sl2, sl3, sl4]
  refine tComp_hide (Itr 0 hs.length) H2 (fun R hR => ?_) (fun ol hol => comp_run hs.length (fun i σ' Hc => ∃ w1, σ' = [w1, some (.ref pl), some (.ref ha)] ∧ Same H2 Hc ∧ Hc ol = some (.lst ((oddsOf hs raw i).map V.int))) ⟨none, rfl, same_new hol _, upd_same⟩ ?_ ?_)
  · unfold iRng1
    try simp only [tSeq, tNext, tDrop, tRet, tRetN, tIfS, tAsg, gName, fAug, tOp, tUn, tC, fVar, fI, fIC, fNeg, fEq, fNe, fIsN, isNon, fAnd, fOr, fNot, fB, tNot, tAnd, tOr, fChain, fIx, fLen, fListOf, fMin, fMax, fInL, fSlL, tSl, fPart, tNoPart, fAppend, fBM, fSetL, gSub, fGNil, fGCons, fGTup, fGLst, fDGet2, sDPutF, tDNewK, fCat, fClear, fBM0, fSlT, fInt1, tCBK, fDIn, fDGet, fIsi, fBools, fDictL, fLtT, tCall, tCB, tCons, tNil, tTup, tLst, tIf, tTrue, Kd.nm, L2.start, List.map_cons, List.map_nil, List.length_cons, List.length_nil, Nat.reduceAdd, Nat.reduceSub, List.replicate_succ, List.replicate_zero, List.getElem?_cons_zero, List.getElem?_cons_succ, List.set_cons_zero, List.set_cons_succ, List.append_nil, List.nil_append, List.cons_append, eq_self, true_and, and_true, if_true, Bool.false_eq_true, if_false, Bool.not_true, Bool.not_false, id_eq, sl0, sl1, sl2, sl3, sl4, seqOf, eh2, List.length_map]
    exact ⟨_, rfl, by omega, by omega, hR⟩
  · rintro k σ' Hc hk ⟨w1, rfl, s3, e3⟩
    refine ⟨hk, ?_⟩
    rintro y H' ⟨rfl, rfl⟩
    have a1 := at_nth (xs := hs) (k := 0 + (k : Int)) (by omega) (by omega)
    have a2 := at_nth (xs := zs) (k := 0 + (k : Int)) (by omega) (by omega)
    try simp only [tSeq, tNext, tDrop, tRet, tRetN, tIfS, tAsg, gName, fAug, tOp, tUn, tC, fVar, fI, fIC, fNeg, fEq, fNe, fIsN, isNon, fAnd, fOr, fNot, fB, tNot, tAnd, tOr, fChain, fIx, fLen, fListOf, fMin, fMax, fInL, fSlL, tSl, fPart, tNoPart, fAppend, fBM, fSetL, gSub, fGNil, fGCons, fGTup, fGLst, fDGet2, sDPutF, tDNewK, fCat, fClear, fBM0, fSlT, fInt1, tCBK, fDIn, fDGet, fIsi, fBools, fDictL, fLtT, tCall, tCB, tCons, tNil, tTup, tLst, tIf, tTrue, Kd.nm, L2.start, List.map_cons, List.map_nil, List.length_cons, List.length_nil, Nat.reduceAdd, Nat.reduceSub, List.replicate_succ, List.replicate_zero, List.getElem?_cons_zero, List.getElem?_cons_succ, List.set_cons_zero, List.set_cons_succ, List.append_nil, List.nil_append, List.cons_append, eq_self, true_and, and_true, if_true, Bool.false_eq_true, if_false, Bool.not_true, Bool.not_false, id_eq, sl0, sl1, sl2, sl3, sl4, seqOf, s3 _ _ eh2, s3 _ _ e2, a1, a2]
    rw [odds_take]
    refine ite2 (fun c1 => ?_) (fun c1 => ?_)
    · rw [if_pos (by rw [Int.zero_add] at c1; exact c1)]
      refine ⟨by decide, _, e3, by rw [List.length_map]; have := odds_len hs raw k; exact szl' (by omega), _, rfl, same_upd s3 hol, ?_⟩
      rw [List.map_append, az _ (by omega) (by omega), Int.zero_add]
      exact upd_same
    · rw [if_neg (by rw [Int.zero_add] at c1; exact c1), List.append_nil]
      exact ⟨_, rfl, s3, e3⟩
  rintro σ' H3 ⟨w1, rfl, s3, e3⟩
  refine ⟨Nat.le_refl _, ?_⟩
  try simp only [tSeq, tNext, tDrop, tRet, tRetN, tIfS, tAsg, gName, fAug, tOp, tUn, tC, fVar, fI, fIC, fNeg, fEq, fNe, fIsN, isNon, fAnd, fOr, fNot, fB, tNot, tAnd, tOr, fChain, fIx, fLen, fListOf, fMin, fMax, fInL, fSlL, tSl, fPart, tNoPart, fAppend, fBM, fSetL, gSub, fGNil, fGCons, fGTup, fGLst, fDGet2, sDPutF, tDNewK, fCat, fClear, fBM0, fSlT, fInt1, tCBK, fDIn, fDGet, fIsi, fBools, fDictL, fLtT, tCall, tCB, tCons, tNil, tTup, tLst, tIf, tTrue, Kd.nm, L2.start, List.map_cons, List.map_nil, List.length_cons, List.length_nil, Nat.reduceAdd, Nat.reduceSub, List.replicate_succ, List.replicate_zero, List.getElem?_cons_zero, List.getElem?_cons_succ, List.set_cons_zero, List.set_cons_succ, List.append_nil, List.nil_append, List.cons_append, eq_self, true_and, and_true, if_true, Bool.false_eq_true, if_false, Bool.not_true, Bool.not_false, id_eq, sl0, sl1, sl2, sl3, sl4]
  refine ⟨ol, oddsOf hs raw hs.length, 0, rfl, rfl, e3, fun m m1 m2 m3 => ?_⟩
  obtain ⟨mb, ev⟩ := odds_even m1 m2 m3
  clear m1 m2 m3 e3 hol
  have eh3 := s3 _ _ eh2
  have er3 := s3 _ _ er2
  have pr3 := Rws.same s3 pr2
  have ep3 := s3 _ _ e2
  have s03 := s2.trans s3
  have es3 := s03 _ _ es
  try simp only [tSeq, tNext, tDrop, tRet, tRetN, tIfS, tAsg, gName, fAug, tOp, tUn, tC, fVar, fI, fIC, fNeg, fEq, fNe, fIsN, isNon, fAnd, fOr, fNot, fB, tNot, tAnd, tOr, fChain, fIx, fLen, fListOf, fMin, fMax, fInL, fSlL, tSl, fPart, tNoPart, fAppend, fBM, fSetL, gSub, fGNil, fGCons, fGTup, fGLst, fDGet2, sDPutF, tDNewK, fCat, fClear, fBM0, fSlT, fInt1, tCBK, fDIn, fDGet, fIsi, fBools, fDictL, fLtT, tCall, tCB, tCons, tNil, tTup, tLst, tIf, tTrue, Kd.nm, L2.start, List.map_cons, List.map_nil, List.length_cons, List.length_nil, Nat.reduceAdd, Nat.reduceSub, List.replicate_succ, List.replicate_zero, List.getElem?_cons_zero, List.getElem?_cons_succ, List.set_cons_zero, List.set_cons_succ, List.append_nil, List.nil_append, List.cons_append, eq_self, true_and, and_true, if_true, Bool.false_eq_true, if_false, Bool.not_true, Bool.not_false, id_eq, sl0, sl1, sl2, sl3, sl4]
  intro nl hnl pc hpc hc hhc
  have htwb : 1 ≤ 1 + m ∧ 1 + m ≤ 2 := by omega
  generalize 1 + m = tw at ev htwb ⊢
  have n1 : nl ≠ pc := fun z => by rw [← z, upd_same] at hpc; cases hpc
  have n2 : nl ≠ hc := fun z => by rw [← z, upd_ne n1, upd_same] at hhc; cases hhc
  have n3 : pc ≠ hc := fun z => by rw [← z, upd_same] at hhc; cases hhc
  have nst : st ≠ pl := ne_of_none es hpl
  have np3 : pl ≠ st := nst.symm
  have hnl3 := hnl
  have hpc3 : H3 pc = none := by rw [upd_ne n1.symm] at hpc; exact hpc
  have hhc3 : H3 hc = none := by rw [upd_ne n3.symm, upd_ne n2.symm] at hhc; exact hhc
  have nls : nl ≠ st := (ne_of_none es3 hnl3).symm
  have pcs : pc ≠ st := (ne_of_none es3 hpc3).symm
  have hcs : hc ≠ st := (ne_of_none es3 hhc3).symm
  have s4 := (same_new hnl (.lst [])).trans ((same_new hpc (.lst [])).trans (same_new hhc (.lst [])))
  have start : upd (upd (upd H3 nl (.lst [])) pc (.lst [])) hc (.lst []) nl = some (.lst []) ∧ upd (upd (upd H3 nl (.lst [])) pc (.lst [])) hc (.lst []) pc = some (.lst []) ∧ upd (upd (upd H3 nl (.lst [])) pc (.lst [])) hc (.lst []) hc = some (.lst []) := ⟨by rw [upd_ne n2, upd_ne n1, upd_same], by rw [upd_ne n3, upd_same], upd_same⟩
  generalize upd (upd (upd H3 nl (.lst [])) pc (.lst [])) hc (.lst []) = H4 at s4 start
  refine tFor_hide (Itr 0 hs.length) H4 (fun R hR => ?_) (for_range (lo := 0) (n := hs.length) (fun i σ H5 => ∃ w1 num w2 ns ps qs px qx, σ = [some (.ref st), some (.ref ha), some (.ref ra), some (.ref pl), w1, v2, v3, some (.int tw), some (.int num), some (.ref nl), some (.ref pc), some (.ref hc), w2, v10, v11, v12] ∧ But st H3 H5 ∧ (∃ o', H5 st = some o' ∧ StO o') ∧ H5 nl = some (.lst (ns.map V.int)) ∧ H5 pc = some (.lst px) ∧ Prs H5 px ps ∧ H5 hc = some (.lst qx) ∧ Prs H5 qx qs ∧ qs.length ≤ i ∧ PlW hs raw tw i ns ps ∧ ∀ x ∈ ns, x ≤ num) ⟨_, -1, _, [], [], [], [], [], rfl, But.same s4, ⟨o, s4 _ _ es3, so⟩, start.1, start.2.1, .nil, start.2.2, .nil, Nat.le_refl _, ⟨rfl, .nil, Nat.le_refl _, (fun p hp => by cases hp)⟩, (fun x hx => by cases hx)⟩ ?_ ?_)
  · unfold iRng1
    try simp only [tSeq, tNext, tDrop, tRet, tRetN, tIfS, tAsg, gName, fAug, tOp, tUn, tC, fVar, fI, fIC, fNeg, fEq, fNe, fIsN, isNon, fAnd, fOr, fNot, fB, tNot, tAnd, tOr, fChain, fIx, fLen, fListOf, fMin, fMax, fInL, fSlL, tSl, fPart, tNoPart, fAppend, fBM, fSetL, gSub, fGNil, fGCons, fGTup, fGLst, fDGet2, sDPutF, tDNewK, fCat, fClear, fBM0, fSlT, fInt1, tCBK, fDIn, fDGet, fIsi, fBools, fDictL, fLtT, tCall, tCB, tCons, tNil, tTup, tLst, tIf, tTrue, Kd.nm, L2.start, List.map_cons, List.map_nil, List.length_cons, List.length_nil, Nat.reduceAdd, Nat.reduceSub, List.replicate_succ, List.replicate_zero, List.getElem?_cons_zero, List.getElem?_cons_succ, List.set_cons_zero, List.set_cons_succ, List.append_nil, List.nil_append, List.cons_append, eq_self, true_and, and_true, if_true, Bool.false_eq_true, if_false, Bool.not_true, Bool.not_false, id_eq, sl0, sl1, sl2, sl3, sl4, seqOf, s4 _ _ eh3, List.length_map]
    exact ⟨_, rfl, by omega, by omega, hR⟩
  · rintro i σ H5 hi ⟨w1, num, w2, ns, ps, qs, px, qx, rfl, b5, ⟨o5, e5, so5⟩, en5, ep5, pp5, eq5, pq5, lq, W, hnum⟩
    generalize hB : tIfS (fB (tOp (fI fun i j => V.bl (decide (i > j))) (fVar 12) (tC (V.int 0)))) (tSeq (tDrop (fBM fAppend (fVar 10) (tCons (tTup (tCons (fVar 8) (tCons (fVar 12) tNil))) tNil))) (tDrop (fBM fAppend (fVar 11) (tCons (tTup (tCons (fVar 8) (tCons (tOp fIx (fVar 1) (fVar 4)) tNil))) tNil)))) tNext = B2
    have hpxl : px.length = ps.length := Paired.length pp5
    have hqxl : qx.length = qs.length := Paired.length pq5
    have hwl := W.len
    have hwp := W.pl
    have key : ∀ (D' : Ends) (H8 : Hp) (num' pr : Int), (∀ (H9 : Hp) (ps qs : List (Int × Int)) (px qx : List V), But st H3 H9 ∧ (∃ o', H9 st = some o' ∧ StO o') ∧ H9 nl = some (.lst ((ns ++ [num']).map V.int)) ∧ H9 pc = some (.lst px) ∧ Prs H9 px ps ∧ H9 hc = some (.lst qx) ∧ Prs H9 qx qs → qs.length ≤ i + 1 → PlW hs raw tw (i + 1) (ns ++ [num']) ps → D'.nx [some (.ref st), some (.ref ha), some (.ref ra), some (.ref pl), some (.int (0 + (i : Int))), v2, v3, some (.int tw), some (.int num'), some (.ref nl), some (.ref pc), some (.ref hc), some (.int pr), v10, v11, v12] H9) → (∀ x ∈ ns, x < num') → (¬ nth hs i = 0 → pr = praw raw i * tw / 2) → But st H3 H8 ∧ (∃ o', H8 st = some o' ∧ StO o') ∧ H8 nl = some (.lst ((ns ++ [num']).map V.int)) ∧ H8 pc = some (.lst px) ∧ Prs H8 px ps ∧ H8 hc = some (.lst qx) ∧ Prs H8 qx qs → B2 D' [some (.ref st), some (.ref ha), some (.ref ra), some (.ref pl), some (.int (0 + (i : Int))), v2, v3, some (.int tw), some (.int num'), some (.ref nl), some (.ref pc), some (.ref hc), some (.int pr), v10, v11, v12] H8 := by
      rintro D' H8 num' pr hD hn hp ⟨b8, ⟨o8, e8, so8⟩, en8, ep8, pp8, eq8, pq8⟩
      subst hB
      try simp only [tSeq, tNext, tDrop, tRet, tRetN, tIfS, tAsg, gName, fAug, tOp, tUn, tC, fVar, fI, fIC, fNeg, fEq, fNe, fIsN, isNon, fAnd, fOr, fNot, fB, tNot, tAnd, tOr, fChain, fIx, fLen, fListOf, fMin, fMax, fInL, fSlL, tSl, fPart, tNoPart, fAppend, fBM, fSetL, gSub, fGNil, fGCons, fGTup, fGLst, fDGet2, sDPutF, tDNewK, fCat, fClear, fBM0, fSlT, fInt1, tCBK, fDIn, fDGet, fIsi, fBools, fDictL, fLtT, tCall, tCB, tCons, tNil, tTup, tLst, tIf, tTrue, Kd.nm, L2.start, List.map_cons, List.map_nil, List.length_cons, List.length_nil, Nat.reduceAdd, Nat.reduceSub, List.replicate_succ, List.replicate_zero, List.getElem?_cons_zero, List.getElem?_cons_succ, List.set_cons_zero, List.set_cons_succ, List.append_nil, List.nil_append, List.cons_append, eq_self, true_and, and_true, if_true, Bool.false_eq_true, if_false, Bool.not_true, Bool.not_false, id_eq, sl0, sl1, sl2, sl3, sl4]
      refine ite2 (fun c1 => ?_) (fun c1 => hD H8 ps qs px qx ⟨b8, ⟨o8, e8, so8⟩, en8, ep8, pp8, eq8, pq8⟩ (by omega) (W.step hn))
      refine ⟨⟨pc, _, rfl, ep8⟩, fun t ht => ?_⟩
      have nt : pc ≠ t := ne_of_none ep8 ht
      try simp only [tSeq, tNext, tDrop, tRet, tRetN, tIfS, tAsg, gName, fAug, tOp, tUn, tC, fVar, fI, fIC, fNeg, fEq, fNe, fIsN, isNon, fAnd, fOr, fNot, fB, tNot, tAnd, tOr, fChain, fIx, fLen, fListOf, fMin, fMax, fInL, fSlL, tSl, fPart, tNoPart, fAppend, fBM, fSetL, gSub, fGNil, fGCons, fGTup, fGLst, fDGet2, sDPutF, tDNewK, fCat, fClear, fBM0, fSlT, fInt1, tCBK, fDIn, fDGet, fIsi, fBools, fDictL, fLtT, tCall, tCB, tCons, tNil, tTup, tLst, tIf, tTrue, Kd.nm, L2.start, List.map_cons, List.map_nil, List.length_cons, List.length_nil, Nat.reduceAdd, Nat.reduceSub, List.replicate_succ, List.replicate_zero, List.getElem?_cons_zero, List.getElem?_cons_succ, List.set_cons_zero, List.set_cons_succ, List.append_nil, List.nil_append, List.cons_append, eq_self, true_and, and_true, if_true, Bool.false_eq_true, if_false, Bool.not_true, Bool.not_false, id_eq, sl0, sl1, sl2, sl3, sl4, upd_ne nt, ep8]
      refine ⟨szl' (by omega), ?_⟩
      have sA := same_new ht (.tup [.int num', .int pr])
      have eA := upd_same (H := H8) (a := t) (o := .tup [.int num', .int pr])
      have epA := sA _ _ ep8
      generalize upd H8 t (.tup [.int num', .int pr]) = HA at sA eA epA
      have tB : TupS HA (upd HA pc (.lst (px ++ [.ref t]))) := tups_lst epA
      have hcB : upd HA pc (.lst (px ++ [.ref t])) hc = some (.lst qx) := by rw [upd_ne n3.symm]; exact sA _ _ eq8
      have nlB : upd HA pc (.lst (px ++ [.ref t])) nl = some (.lst ((ns ++ [num']).map V.int)) := by rw [upd_ne n1]; exact sA _ _ en8
      have pcB := upd_same (H := HA) (a := pc) (o := .lst (px ++ [.ref t]))
      have stB : upd HA pc (.lst (px ++ [.ref t])) st = some o8 := by rw [upd_ne pcs.symm]; exact sA _ _ e8
      have bB : But st H3 (upd HA pc (.lst (px ++ [.ref t]))) := but_upd (b8.trans (But.same sA)) hpc3
      have ppB : Prs (upd HA pc (.lst (px ++ [.ref t]))) (px ++ [.ref t]) (ps ++ [(num', pr)]) := paired_snoc (Prs.tups (sA.tups.trans tB) pp8) ⟨t, rfl, tB _ _ rfl eA⟩
      have pqB : Prs (upd HA pc (.lst (px ++ [.ref t]))) qx qs := Prs.tups (sA.tups.trans tB) pq8
      generalize upd HA pc (.lst (px ++ [.ref t])) = HB at tB hcB nlB pcB stB bB ppB pqB
      have a1 := at_nth (xs := hs) (k := 0 + (i : Int)) (by omega) (by omega)
      have ehB := bB _ _ nha eh3
      refine ⟨⟨hc, _, rfl, hcB⟩, ?_⟩
      try simp only [tSeq, tNext, tDrop, tRet, tRetN, tIfS, tAsg, gName, fAug, tOp, tUn, tC, fVar, fI, fIC, fNeg, fEq, fNe, fIsN, isNon, fAnd, fOr, fNot, fB, tNot, tAnd, tOr, fChain, fIx, fLen, fListOf, fMin, fMax, fInL, fSlL, tSl, fPart, tNoPart, fAppend, fBM, fSetL, gSub, fGNil, fGCons, fGTup, fGLst, fDGet2, sDPutF, tDNewK, fCat, fClear, fBM0, fSlT, fInt1, tCBK, fDIn, fDGet, fIsi, fBools, fDictL, fLtT, tCall, tCB, tCons, tNil, tTup, tLst, tIf, tTrue, Kd.nm, L2.start, List.map_cons, List.map_nil, List.length_cons, List.length_nil, Nat.reduceAdd, Nat.reduceSub, List.replicate_succ, List.replicate_zero, List.getElem?_cons_zero, List.getElem?_cons_succ, List.set_cons_zero, List.set_cons_succ, List.append_nil, List.nil_append, List.cons_append, eq_self, true_and, and_true, if_true, Bool.false_eq_true, if_false, Bool.not_true, Bool.not_false, id_eq, sl0, sl1, sl2, sl3, sl4, seqOf, ehB, a1]
      intro t2 ht2
      have nt2 : hc ≠ t2 := ne_of_none hcB ht2
      try simp only [tSeq, tNext, tDrop, tRet, tRetN, tIfS, tAsg, gName, fAug, tOp, tUn, tC, fVar, fI, fIC, fNeg, fEq, fNe, fIsN, isNon, fAnd, fOr, fNot, fB, tNot, tAnd, tOr, fChain, fIx, fLen, fListOf, fMin, fMax, fInL, fSlL, tSl, fPart, tNoPart, fAppend, fBM, fSetL, gSub, fGNil, fGCons, fGTup, fGLst, fDGet2, sDPutF, tDNewK, fCat, fClear, fBM0, fSlT, fInt1, tCBK, fDIn, fDGet, fIsi, fBools, fDictL, fLtT, tCall, tCB, tCons, tNil, tTup, tLst, tIf, tTrue, Kd.nm, L2.start, List.map_cons, List.map_nil, List.length_cons, List.length_nil, Nat.reduceAdd, Nat.reduceSub, List.replicate_succ, List.replicate_zero, List.getElem?_cons_zero, List.getElem?_cons_succ, List.set_cons_zero, List.set_cons_succ, List.append_nil, List.nil_append, List.cons_append, eq_self, true_and, and_true, if_true, Bool.false_eq_true, if_false, Bool.not_true, Bool.not_false, id_eq, sl0, sl1, sl2, sl3, sl4, upd_ne nt2, hcB]
      refine ⟨szl' (by omega), ?_⟩
      have sC := same_new ht2 (.tup [.int num', .int (nth hs (0 + (i : Int)))])
      have eC := upd_same (H := HB) (a := t2) (o := .tup [.int num', .int (nth hs (0 + (i : Int)))])
      have ehC := sC _ _ hcB
      generalize upd HB t2 (.tup [.int num', .int (nth hs (0 + (i : Int)))]) = HC at sC eC ehC
      have tD : TupS HC (upd HC hc (.lst (qx ++ [.ref t2]))) := tups_lst ehC
      refine hD _ (ps ++ [(num', pr)]) (qs ++ [(num', nth hs (0 + (i : Int)))]) _ _ ⟨but_upd (bB.trans (But.same sC)) hhc3, ⟨o8, by rw [upd_ne hcs.symm]; exact sC _ _ stB, so8⟩, by rw [upd_ne n2]; exact sC _ _ nlB, by rw [upd_ne n3]; exact sC _ _ pcB, Prs.tups (sC.tups.trans tD) ppB, upd_same, paired_snoc (Prs.tups (sC.tups.trans tD) pqB) ⟨t2, rfl, tD _ _ rfl eC⟩⟩ (by rw [List.length_append, List.length_singleton]; omega) (W.stepP hn hp)
    try simp only [tSeq, tNext, tDrop, tRet, tRetN, tIfS, tAsg, gName, fAug, tOp, tUn, tC, fVar, fI, fIC, fNeg, fEq, fNe, fIsN, isNon, fAnd, fOr, fNot, fB, tNot, tAnd, tOr, fChain, fIx, fLen, fListOf, fMin, fMax, fInL, fSlL, tSl, fPart, tNoPart, fAppend, fBM, fSetL, gSub, fGNil, fGCons, fGTup, fGLst, fDGet2, sDPutF, tDNewK, fCat, fClear, fBM0, fSlT, fInt1, tCBK, fDIn, fDGet, fIsi, fBools, fDictL, fLtT, tCall, tCB, tCons, tNil, tTup, tLst, tIf, tTrue, Kd.nm, L2.start, List.map_cons, List.map_nil, List.length_cons, List.length_nil, Nat.reduceAdd, Nat.reduceSub, List.replicate_succ, List.replicate_zero, List.getElem?_cons_zero, List.getElem?_cons_succ, List.set_cons_zero, List.set_cons_succ, List.append_nil, List.nil_append, List.cons_append, eq_self, true_and, and_true, if_true, Bool.false_eq_true, if_false, Bool.not_true, Bool.not_false, id_eq, sl0, sl1, sl2, sl3, sl4]
    intro p1 hp1
    have np1 : p1 ≠ st := (ne_of_none e5 hp1).symm
    refine ⟨st, o5, 3, rfl, (same_new hp1 _) _ _ e5, so5, by decide, by decide, fun d1 o6 d10 d11 so6 => ?_⟩
    obtain ⟨v, ev', v0, v1'⟩ : ∃ v, atI [V.int 1, .int 2, .int 20] d1 = some (.int v) ∧ 1 ≤ v ∧ v ≤ 20 := by
      obtain ⟨v, e, hv⟩ := menu3 (a := 1) (b := 2) (c := 20) d10 d11
      exact ⟨v, e, by omega, by omega⟩
    try simp only [tSeq, tNext, tDrop, tRet, tRetN, tIfS, tAsg, gName, fAug, tOp, tUn, tC, fVar, fI, fIC, fNeg, fEq, fNe, fIsN, isNon, fAnd, fOr, fNot, fB, tNot, tAnd, tOr, fChain, fIx, fLen, fListOf, fMin, fMax, fInL, fSlL, tSl, fPart, tNoPart, fAppend, fBM, fSetL, gSub, fGNil, fGCons, fGTup, fGLst, fDGet2, sDPutF, tDNewK, fCat, fClear, fBM0, fSlT, fInt1, tCBK, fDIn, fDGet, fIsi, fBools, fDictL, fLtT, tCall, tCB, tCons, tNil, tTup, tLst, tIf, tTrue, Kd.nm, L2.start, List.map_cons, List.map_nil, List.length_cons, List.length_nil, Nat.reduceAdd, Nat.reduceSub, List.replicate_succ, List.replicate_zero, List.getElem?_cons_zero, List.getElem?_cons_succ, List.set_cons_zero, List.set_cons_succ, List.append_nil, List.nil_append, List.cons_append, eq_self, true_and, and_true, if_true, Bool.false_eq_true, if_false, Bool.not_true, Bool.not_false, id_eq, sl0, sl1, sl2, sl3, sl4, seqOf, upd_ne np1, upd_same, ev']
    refine ⟨st, o6, v, rfl, upd_same, so6, by omega, by omega, fun d2 o7 d20 d21 so7 => ?_⟩
    try simp only [tSeq, tNext, tDrop, tRet, tRetN, tIfS, tAsg, gName, fAug, tOp, tUn, tC, fVar, fI, fIC, fNeg, fEq, fNe, fIsN, isNon, fAnd, fOr, fNot, fB, tNot, tAnd, tOr, fChain, fIx, fLen, fListOf, fMin, fMax, fInL, fSlL, tSl, fPart, tNoPart, fAppend, fBM, fSetL, gSub, fGNil, fGCons, fGTup, fGLst, fDGet2, sDPutF, tDNewK, fCat, fClear, fBM0, fSlT, fInt1, tCBK, fDIn, fDGet, fIsi, fBools, fDictL, fLtT, tCall, tCB, tCons, tNil, tTup, tLst, tIf, tTrue, Kd.nm, L2.start, List.map_cons, List.map_nil, List.length_cons, List.length_nil, Nat.reduceAdd, Nat.reduceSub, List.replicate_succ, List.replicate_zero, List.getElem?_cons_zero, List.getElem?_cons_succ, List.set_cons_zero, List.set_cons_succ, List.append_nil, List.nil_append, List.cons_append, eq_self, true_and, and_true, if_true, Bool.false_eq_true, if_false, Bool.not_true, Bool.not_false, id_eq, sl0, sl1, sl2, sl3, sl4, upd_upd]
    have b7 : But st H5 (upd (upd H5 p1 (.lst [.int 1, .int 2, .int 20])) st o7) := (But.new hp1).trans (But.at _ _ _)
    have e7 : upd (upd H5 p1 (.lst [.int 1, .int 2, .int 20])) st o7 st = some o7 := upd_same
    generalize upd (upd H5 p1 (.lst [.int 1, .int 2, .int 20])) st o7 = H7 at b7 e7
    have t7 : TupS H5 H7 := b7.tups e5 so5.imm
    have en7 := b7 _ _ nls en5
    refine ⟨⟨nl, _, rfl, en7⟩, ?_⟩
    try simp only [tSeq, tNext, tDrop, tRet, tRetN, tIfS, tAsg, gName, fAug, tOp, tUn, tC, fVar, fI, fIC, fNeg, fEq, fNe, fIsN, isNon, fAnd, fOr, fNot, fB, tNot, tAnd, tOr, fChain, fIx, fLen, fListOf, fMin, fMax, fInL, fSlL, tSl, fPart, tNoPart, fAppend, fBM, fSetL, gSub, fGNil, fGCons, fGTup, fGLst, fDGet2, sDPutF, tDNewK, fCat, fClear, fBM0, fSlT, fInt1, tCBK, fDIn, fDGet, fIsi, fBools, fDictL, fLtT, tCall, tCB, tCons, tNil, tTup, tLst, tIf, tTrue, Kd.nm, L2.start, List.map_cons, List.map_nil, List.length_cons, List.length_nil, Nat.reduceAdd, Nat.reduceSub, List.replicate_succ, List.replicate_zero, List.getElem?_cons_zero, List.getElem?_cons_succ, List.set_cons_zero, List.set_cons_succ, List.append_nil, List.nil_append, List.cons_append, eq_self, true_and, and_true, if_true, Bool.false_eq_true, if_false, Bool.not_true, Bool.not_false, id_eq, sl0, sl1, sl2, sl3, sl4, en7]
    refine ⟨by rw [List.length_map]; exact szl' (by omega), ?_⟩
    have hnew : ∀ x ∈ ns, x < num + 1 + d2 := fun x hx => by have := hnum x hx; omega
    have st8 : But st H3 (upd H7 nl (.lst (ns.map V.int ++ [.int (num + 1 + d2)]))) ∧ (∃ o', (upd H7 nl (.lst (ns.map V.int ++ [.int (num + 1 + d2)]))) st = some o' ∧ StO o') ∧ (upd H7 nl (.lst (ns.map V.int ++ [.int (num + 1 + d2)]))) nl = some (.lst ((ns ++ [num + 1 + d2]).map V.int)) ∧ (upd H7 nl (.lst (ns.map V.int ++ [.int (num + 1 + d2)]))) pc = some (.lst px) ∧ Prs (upd H7 nl (.lst (ns.map V.int ++ [.int (num + 1 + d2)]))) px ps ∧ (upd H7 nl (.lst (ns.map V.int ++ [.int (num + 1 + d2)]))) hc = some (.lst qx) ∧ Prs (upd H7 nl (.lst (ns.map V.int ++ [.int (num + 1 + d2)]))) qx qs := by
      have t8 : TupS H7 (upd H7 nl (.lst (ns.map V.int ++ [.int (num + 1 + d2)]))) := tups_lst en7
      refine ⟨but_upd (b5.trans b7) hnl3, ⟨o7, by rw [upd_ne nls.symm]; exact e7, so7⟩, by rw [upd_same, List.map_append]; rfl, by rw [upd_ne n1.symm]; exact b7 _ _ pcs ep5, Prs.tups (t7.trans t8) pp5, by rw [upd_ne n2.symm]; exact b7 _ _ hcs eq5, Prs.tups (t7.trans t8) pq5⟩
    have epl := st8.1 _ _ np3 ep3
    have ehl := st8.1 _ _ nha eh3
    have e8 : ∃ o', upd H7 nl (.lst (ns.map V.int ++ [.int (num + 1 + d2)])) st = some o' ∧ StO o' := st8.2.1
    generalize upd H7 nl (.lst (ns.map V.int ++ [.int (num + 1 + d2)])) = H8 at st8 epl ehl e8
    obtain ⟨o8, e8, so8⟩ := e8
    have a1 := at_nth (xs := hs) (k := 0 + (i : Int)) (by omega) (by omega)
    have a2 := at_nth (xs := zs) (k := 0 + (i : Int)) (by omega) (by omega)
    have ap : nth zs (0 + (i : Int)) = praw raw (0 + (i : Int)) := az _ (by omega) (by omega)
    try simp only [tSeq, tNext, tDrop, tRet, tRetN, tIfS, tAsg, gName, fAug, tOp, tUn, tC, fVar, fI, fIC, fNeg, fEq, fNe, fIsN, isNon, fAnd, fOr, fNot, fB, tNot, tAnd, tOr, fChain, fIx, fLen, fListOf, fMin, fMax, fInL, fSlL, tSl, fPart, tNoPart, fAppend, fBM, fSetL, gSub, fGNil, fGCons, fGTup, fGLst, fDGet2, sDPutF, tDNewK, fCat, fClear, fBM0, fSlT, fInt1, tCBK, fDIn, fDGet, fIsi, fBools, fDictL, fLtT, tCall, tCB, tCons, tNil, tTup, tLst, tIf, tTrue, Kd.nm, L2.start, List.map_cons, List.map_nil, List.length_cons, List.length_nil, Nat.reduceAdd, Nat.reduceSub, List.replicate_succ, List.replicate_zero, List.getElem?_cons_zero, List.getElem?_cons_succ, List.set_cons_zero, List.set_cons_succ, List.append_nil, List.nil_append, List.cons_append, eq_self, true_and, and_true, if_true, Bool.false_eq_true, if_false, Bool.not_true, Bool.not_false, id_eq, sl0, sl1, sl2, sl3, sl4, seqOf, epl, ehl, a1, a2]
    refine ⟨cmR (by omega) (by omega), ⟨by decide, by decide⟩, ?_⟩
    have hfin : ∀ (H9 : Hp) (ps qs : List (Int × Int)) (px qx : List V) (w2 : Option V), But st H3 H9 ∧ (∃ o', H9 st = some o' ∧ StO o') ∧ H9 nl = some (.lst ((ns ++ [num + 1 + d2]).map V.int)) ∧ H9 pc = some (.lst px) ∧ Prs H9 px ps ∧ H9 hc = some (.lst qx) ∧ Prs H9 qx qs → qs.length ≤ i + 1 → PlW hs raw tw (i + 1) (ns ++ [num + 1 + d2]) ps → ∃ w1 nn w2' ns ps qs px qx, [some (.ref st), some (.ref ha), some (.ref ra), some (.ref pl), some (.int (0 + (i : Int))), v2, v3, some (.int tw), some (.int (num + 1 + d2)), some (.ref nl), some (.ref pc), some (.ref hc), w2, v10, v11, v12] = [some (.ref st), some (.ref ha), some (.ref ra), some (.ref pl), w1, v2, v3, some (.int tw), some (.int nn), some (.ref nl), some (.ref pc), some (.ref hc), w2', v10, v11, v12] ∧ But st H3 H9 ∧ (∃ o', H9 st = some o' ∧ StO o') ∧ H9 nl = some (.lst (ns.map V.int)) ∧ H9 pc = some (.lst px) ∧ Prs H9 px ps ∧ H9 hc = some (.lst qx) ∧ Prs H9 qx qs ∧ qs.length ≤ i + 1 ∧ PlW hs raw tw (i + 1) ns ps ∧ ∀ x ∈ ns, x ≤ nn := fun H9 ps qs px qx w2 z1 z2 z3 => ⟨_, num + 1 + d2, _, ns ++ [num + 1 + d2], ps, qs, px, qx, rfl, z1.1, z1.2.1, z1.2.2.1, z1.2.2.2.1, z1.2.2.2.2.1, z1.2.2.2.2.2.1, z1.2.2.2.2.2.2, z2, z3, fun x hx => by
      rcases List.mem_append.mp hx with y | y
      · have := hnew x y; omega
      · rw [List.mem_singleton.mp y]; exact Int.le_refl _⟩
    refine ite2 (fun c1 => ?_) (fun c1 => ?_)
    · refine ⟨cmR (by omega) (by omega), ⟨by decide, by decide⟩, ?_⟩
      refine ⟨st, o8, 3, rfl, e8, so8, by decide, by decide, fun d3 o9 d30 d31 so9 => ?_⟩
      try simp only [tSeq, tNext, tDrop, tRet, tRetN, tIfS, tAsg, gName, fAug, tOp, tUn, tC, fVar, fI, fIC, fNeg, fEq, fNe, fIsN, isNon, fAnd, fOr, fNot, fB, tNot, tAnd, tOr, fChain, fIx, fLen, fListOf, fMin, fMax, fInL, fSlL, tSl, fPart, tNoPart, fAppend, fBM, fSetL, gSub, fGNil, fGCons, fGTup, fGLst, fDGet2, sDPutF, tDNewK, fCat, fClear, fBM0, fSlT, fInt1, tCBK, fDIn, fDGet, fIsi, fBools, fDictL, fLtT, tCall, tCB, tCons, tNil, tTup, tLst, tIf, tTrue, Kd.nm, L2.start, List.map_cons, List.map_nil, List.length_cons, List.length_nil, Nat.reduceAdd, Nat.reduceSub, List.replicate_succ, List.replicate_zero, List.getElem?_cons_zero, List.getElem?_cons_succ, List.set_cons_zero, List.set_cons_succ, List.append_nil, List.nil_append, List.cons_append, eq_self, true_and, and_true, if_true, Bool.false_eq_true, if_false, Bool.not_true, Bool.not_false, id_eq, sl0, sl1, sl2, sl3, sl4]
      have c2 : nth hs (i : Int) = 0 := by rw [Int.zero_add] at c1; exact of_decide_eq_true c1
      have t9 : TupS H8 (upd H8 st o9) := (But.at st H8 o9).tups e8 so8.imm
      refine key _ _ _ _ (fun H9 ps qs px qx z1 z2 z3 => hfin H9 ps qs px qx _ z1 z2 z3) hnew (fun z => absurd c2 z) ⟨st8.1.trans (But.at _ _ _), ⟨o9, upd_same, so9⟩, by rw [upd_ne nls]; exact st8.2.2.1, by rw [upd_ne pcs]; exact st8.2.2.2.1, Prs.tups t9 st8.2.2.2.2.1, by rw [upd_ne hcs]; exact st8.2.2.2.2.2.1, Prs.tups t9 st8.2.2.2.2.2.2⟩
    · refine key _ _ _ _ (fun H9 ps qs px qx z1 z2 z3 => hfin H9 ps qs px qx _ z1 z2 z3) hnew (fun _ => by rw [ap, Int.zero_add]) st8
  rintro σ H5 ⟨w1, num, w2, ns, ps, qs, px, qx, rfl, b5, ⟨o5, e5, so5⟩, en5, ep5, pp5, eq5, pq5, lq, W, hnum⟩
  have hqxl : qx.length = qs.length := Paired.length pq5
  have er5 := b5 _ _ nra er3
  have pr5 := Rws.but es3 so b5 pr3
  have hwl := W.len
  try simp only [tSeq, tNext, tDrop, tRet, tRetN, tIfS, tAsg, gName, fAug, tOp, tUn, tC, fVar, fI, fIC, fNeg, fEq, fNe, fIsN, isNon, fAnd, fOr, fNot, fB, tNot, tAnd, tOr, fChain, fIx, fLen, fListOf, fMin, fMax, fInL, fSlL, tSl, fPart, tNoPart, fAppend, fBM, fSetL, gSub, fGNil, fGCons, fGTup, fGLst, fDGet2, sDPutF, tDNewK, fCat, fClear, fBM0, fSlT, fInt1, tCBK, fDIn, fDGet, fIsi, fBools, fDictL, fLtT, tCall, tCB, tCons, tNil, tTup, tLst, tIf, tTrue, Kd.nm, L2.start, List.map_cons, List.map_nil, List.length_cons, List.length_nil, Nat.reduceAdd, Nat.reduceSub, List.replicate_succ, List.replicate_zero, List.getElem?_cons_zero, List.getElem?_cons_succ, List.set_cons_zero, List.set_cons_succ, List.append_nil, List.nil_append, List.cons_append, eq_self, true_and, and_true, if_true, Bool.false_eq_true, if_false, Bool.not_true, Bool.not_false, id_eq, sl0, sl1, sl2, sl3, sl4]
  refine tComp_hide (Itl K hc) H5 (fun R hR => ?_) (fun kl hkl => comp_run qs.length (fun i σ' Hc => ∃ w1 w2, σ' = [w1, w2] ∧ Same H5 Hc ∧ Hc kl = some (.lst (((qs.take i).map (·.1)).map V.int))) ⟨none, none, rfl, same_new hkl _, upd_same⟩ ?_ ?_)
  · unfold iList
    try simp only [tSeq, tNext, tDrop, tRet, tRetN, tIfS, tAsg, gName, fAug, tOp, tUn, tC, fVar, fI, fIC, fNeg, fEq, fNe, fIsN, isNon, fAnd, fOr, fNot, fB, tNot, tAnd, tOr, fChain, fIx, fLen, fListOf, fMin, fMax, fInL, fSlL, tSl, fPart, tNoPart, fAppend, fBM, fSetL, gSub, fGNil, fGCons, fGTup, fGLst, fDGet2, sDPutF, tDNewK, fCat, fClear, fBM0, fSlT, fInt1, tCBK, fDIn, fDGet, fIsi, fBools, fDictL, fLtT, tCall, tCB, tCons, tNil, tTup, tLst, tIf, tTrue, Kd.nm, L2.start, List.map_cons, List.map_nil, List.length_cons, List.length_nil, Nat.reduceAdd, Nat.reduceSub, List.replicate_succ, List.replicate_zero, List.getElem?_cons_zero, List.getElem?_cons_succ, List.set_cons_zero, List.set_cons_succ, List.append_nil, List.nil_append, List.cons_append, eq_self, true_and, and_true, if_true, Bool.false_eq_true, if_false, Bool.not_true, Bool.not_false, id_eq, sl0, sl1, sl2, sl3, sl4]
    exact ⟨hc, rfl, ⟨_, SqL.of eq5⟩, hR⟩
  · rintro k σ' Hc hk ⟨w1, w2, rfl, s6, e6⟩
    have hkx : k < qx.length := by omega
    have x1 : qx[k]? = some qx[k] := List.getElem?_eq_getElem hkx
    obtain ⟨p, hp, qp⟩ := paired_left pq5 x1
    have z1 : SqL K Hc hc qx := SqL.of (s6 _ _ eq5)
    refine ⟨⟨_, _, z1, x1⟩, ?_⟩
    rintro y H' ⟨rfl, hy⟩
    have E1 : qx[k] = y := Option.some.inj (x1.symm.trans (hy _ z1))
    obtain ⟨t, e1, e2'⟩ := qp.same s6
    rw [E1] at e1
    subst e1
    try simp only [tSeq, tNext, tDrop, tRet, tRetN, tIfS, tAsg, gName, fAug, tOp, tUn, tC, fVar, fI, fIC, fNeg, fEq, fNe, fIsN, isNon, fAnd, fOr, fNot, fB, tNot, tAnd, tOr, fChain, fIx, fLen, fListOf, fMin, fMax, fInL, fSlL, tSl, fPart, tNoPart, fAppend, fBM, fSetL, gSub, fGNil, fGCons, fGTup, fGLst, fDGet2, sDPutF, tDNewK, fCat, fClear, fBM0, fSlT, fInt1, tCBK, fDIn, fDGet, fIsi, fBools, fDictL, fLtT, tCall, tCB, tCons, tNil, tTup, tLst, tIf, tTrue, Kd.nm, L2.start, List.map_cons, List.map_nil, List.length_cons, List.length_nil, Nat.reduceAdd, Nat.reduceSub, List.replicate_succ, List.replicate_zero, List.getElem?_cons_zero, List.getElem?_cons_succ, List.set_cons_zero, List.set_cons_succ, List.append_nil, List.nil_append, List.cons_append, eq_self, true_and, and_true, if_true, Bool.false_eq_true, if_false, Bool.not_true, Bool.not_false, id_eq, sl0, sl1, sl2, sl3, sl4, e2']
    refine ⟨_, e6, by rw [List.length_map, List.length_map, List.length_take]; exact szl' (by omega), _, _, rfl, same_upd s6 hkl, ?_⟩
    rw [take_get hp, List.map_append, List.map_append]
    exact upd_same
  rintro σ' H6 ⟨w1', w2', rfl, s6, e6⟩
  refine ⟨⟨_, SqL.of (s6 _ _ eq5), by rw [hqxl]; exact Nat.le_refl _⟩, ?_⟩
  rw [List.take_length] at e6
  have er6 := s6 _ _ er5
  have pr6 := Rws.same s6 pr5
  have en6 := s6 _ _ en5
  try simp only [tSeq, tNext, tDrop, tRet, tRetN, tIfS, tAsg, gName, fAug, tOp, tUn, tC, fVar, fI, fIC, fNeg, fEq, fNe, fIsN, isNon, fAnd, fOr, fNot, fB, tNot, tAnd, tOr, fChain, fIx, fLen, fListOf, fMin, fMax, fInL, fSlL, tSl, fPart, tNoPart, fAppend, fBM, fSetL, gSub, fGNil, fGCons, fGTup, fGLst, fDGet2, sDPutF, tDNewK, fCat, fClear, fBM0, fSlT, fInt1, tCBK, fDIn, fDGet, fIsi, fBools, fDictL, fLtT, tCall, tCB, tCons, tNil, tTup, tLst, tIf, tTrue, Kd.nm, L2.start, List.map_cons, List.map_nil, List.length_cons, List.length_nil, Nat.reduceAdd, Nat.reduceSub, List.replicate_succ, List.replicate_zero, List.getElem?_cons_zero, List.getElem?_cons_succ, List.set_cons_zero, List.set_cons_succ, List.append_nil, List.nil_append, List.cons_append, eq_self, true_and, and_true, if_true, Bool.false_eq_true, if_false, Bool.not_true, Bool.not_false, id_eq, sl0, sl1, sl2, sl3, sl4]
  refine tComp_hide (Itl K ra) H6 (fun R hR => ?_) (fun tl htl => comp_run raw.length (fun i σ' Hc => ∃ w1 w2 w3 ys ts, σ' = [w1, w2, w3, some (.ref nl), some (.ref kl)] ∧ Same H6 Hc ∧ Hc tl = some (.lst ys) ∧ Prs Hc ys ts ∧ (∀ t ∈ ts, ∃ r ∈ raw, t = (nth ns r.1, nth ns r.2.1)) ∧ ts.length ≤ i) ⟨none, none, none, [], [], rfl, same_new htl _, upd_same, .nil, (fun t ht => by cases ht), Nat.le_refl _⟩ ?_ ?_)
  · unfold iList
    try simp only [tSeq, tNext, tDrop, tRet, tRetN, tIfS, tAsg, gName, fAug, tOp, tUn, tC, fVar, fI, fIC, fNeg, fEq, fNe, fIsN, isNon, fAnd, fOr, fNot, fB, tNot, tAnd, tOr, fChain, fIx, fLen, fListOf, fMin, fMax, fInL, fSlL, tSl, fPart, tNoPart, fAppend, fBM, fSetL, gSub, fGNil, fGCons, fGTup, fGLst, fDGet2, sDPutF, tDNewK, fCat, fClear, fBM0, fSlT, fInt1, tCBK, fDIn, fDGet, fIsi, fBools, fDictL, fLtT, tCall, tCB, tCons, tNil, tTup, tLst, tIf, tTrue, Kd.nm, L2.start, List.map_cons, List.map_nil, List.length_cons, List.length_nil, Nat.reduceAdd, Nat.reduceSub, List.replicate_succ, List.replicate_zero, List.getElem?_cons_zero, List.getElem?_cons_succ, List.set_cons_zero, List.set_cons_succ, List.append_nil, List.nil_append, List.cons_append, eq_self, true_and, and_true, if_true, Bool.false_eq_true, if_false, Bool.not_true, Bool.not_false, id_eq, sl0, sl1, sl2, sl3, sl4]
    exact ⟨ra, rfl, ⟨_, SqL.of er6⟩, hR⟩
  · rintro k σ' Hc hk ⟨w1, w2, w3, ys, ts, rfl, s7, e7, p7, g7, l7⟩
    have hkx : k < rx.length := by omega
    have x1 : rx[k]? = some rx[k] := List.getElem?_eq_getElem hkx
    obtain ⟨r, hr, qr⟩ := paired_left pr6 x1
    have z1 : SqL K Hc ra rx := SqL.of (s7 _ _ er6)
    refine ⟨⟨_, _, z1, x1⟩, ?_⟩
    rintro y H' ⟨rfl, hy⟩
    have E1 : rx[k] = y := Option.some.inj (x1.symm.trans (hy _ z1))
    obtain ⟨t, e1, e2'⟩ := qr
    rw [E1] at e1
    subst e1
    have e2'' := s7 _ _ e2'
    have rix := R.ix r (List.mem_of_getElem? hr)
    have a1 := at_nth (xs := ns) (k := r.1) (by omega) (by omega)
    have a2 := at_nth (xs := ns) (k := r.2.1) (by omega) (by omega)
    have hyl : ys.length = ts.length := Paired.length p7
    have skip : ∀ w1 w2 w3, ∃ w1' w2' w3' ys ts, [w1, w2, w3, some (V.ref nl), some (V.ref kl)] = [w1', w2', w3', some (.ref nl), some (.ref kl)] ∧ Same H6 H' ∧ H' tl = some (.lst ys) ∧ Prs H' ys ts ∧ (∀ t ∈ ts, ∃ r ∈ raw, t = (nth ns r.1, nth ns r.2.1)) ∧ ts.length ≤ k + 1 := fun w1 w2 w3 => ⟨_, _, _, ys, ts, rfl, s7, e7, p7, g7, by omega⟩
    try simp only [tSeq, tNext, tDrop, tRet, tRetN, tIfS, tAsg, gName, fAug, tOp, tUn, tC, fVar, fI, fIC, fNeg, fEq, fNe, fIsN, isNon, fAnd, fOr, fNot, fB, tNot, tAnd, tOr, fChain, fIx, fLen, fListOf, fMin, fMax, fInL, fSlL, tSl, fPart, tNoPart, fAppend, fBM, fSetL, gSub, fGNil, fGCons, fGTup, fGLst, fDGet2, sDPutF, tDNewK, fCat, fClear, fBM0, fSlT, fInt1, tCBK, fDIn, fDGet, fIsi, fBools, fDictL, fLtT, tCall, tCB, tCons, tNil, tTup, tLst, tIf, tTrue, Kd.nm, L2.start, List.map_cons, List.map_nil, List.length_cons, List.length_nil, Nat.reduceAdd, Nat.reduceSub, List.replicate_succ, List.replicate_zero, List.getElem?_cons_zero, List.getElem?_cons_succ, List.set_cons_zero, List.set_cons_succ, List.append_nil, List.nil_append, List.cons_append, eq_self, true_and, and_true, if_true, Bool.false_eq_true, if_false, Bool.not_true, Bool.not_false, id_eq, sl0, sl1, sl2, sl3, sl4, e2'', seqOf, s7 _ _ en6, s7 _ _ e6, a1, a2, flatV, flat_ints, inV_ints]
    refine ite2 (fun c1 => ?_) (fun c1 => ⟨_, _, _, ys, ts, rfl, s7, e7, p7, g7, by omega⟩)
    refine ite2 (fun c2 => ?_) (fun c2 => ⟨_, _, _, ys, ts, rfl, s7, e7, p7, g7, by omega⟩)
    intro t2 ht2
    have sA := same_new ht2 (.tup [.int (nth ns r.1), .int (nth ns r.2.1)])
    have tA := sA.tups.trans (tups_lst (ys := ys ++ [.ref t2]) (sA _ _ e7))
    refine ⟨_, sA _ _ e7, szl' (by omega), _, _, _, _, ts ++ [(nth ns r.1, nth ns r.2.1)], rfl, same_upd (s7.trans sA) htl, upd_same, paired_snoc (Prs.tups tA p7) ⟨t2, rfl, by rw [upd_ne (ne_of_none e7 ht2).symm, upd_same]⟩, fun q hq => ?_, by rw [List.length_append, List.length_singleton]; omega⟩
    rcases List.mem_append.mp hq with z | z
    · exact g7 q z
    · exact ⟨r, List.mem_of_getElem? hr, List.mem_singleton.mp z⟩
  rintro σ' H7 ⟨w1'', w2'', w3'', ys, ts, rfl, s7, e7, p7, g7, l7⟩
  refine ⟨⟨_, SqL.of (s7 _ _ er6), by rw [hrx]; exact Nat.le_refl _⟩, ?_⟩
  have er7 := s7 _ _ er6
  have pr7 := Rws.same s7 pr6
  have en7 := s7 _ _ en6
  try simp only [tSeq, tNext, tDrop, tRet, tRetN, tIfS, tAsg, gName, fAug, tOp, tUn, tC, fVar, fI, fIC, fNeg, fEq, fNe, fIsN, isNon, fAnd, fOr, fNot, fB, tNot, tAnd, tOr, fChain, fIx, fLen, fListOf, fMin, fMax, fInL, fSlL, tSl, fPart, tNoPart, fAppend, fBM, fSetL, gSub, fGNil, fGCons, fGTup, fGLst, fDGet2, sDPutF, tDNewK, fCat, fClear, fBM0, fSlT, fInt1, tCBK, fDIn, fDGet, fIsi, fBools, fDictL, fLtT, tCall, tCB, tCons, tNil, tTup, tLst, tIf, tTrue, Kd.nm, L2.start, List.map_cons, List.map_nil, List.length_cons, List.length_nil, Nat.reduceAdd, Nat.reduceSub, List.replicate_succ, List.replicate_zero, List.getElem?_cons_zero, List.getElem?_cons_succ, List.set_cons_zero, List.set_cons_succ, List.append_nil, List.nil_append, List.cons_append, eq_self, true_and, and_true, if_true, Bool.false_eq_true, if_false, Bool.not_true, Bool.not_false, id_eq, sl0, sl1, sl2, sl3, sl4]
  refine tComp_hide (Itl K ra) H7 (fun R hR => ?_) (fun dl hdl => comp_run raw.length (fun i σ' Hc => ∃ w1 w2 w3 zs, σ' = [w1, w2, w3, some (.ref nl), some (.int tw)] ∧ Same H7 Hc ∧ Hc dl = some (.lst zs) ∧ Trs Hc zs (duesOf ns tw (raw.take i))) ⟨none, none, none, [], rfl, same_new hdl _, upd_same, .nil⟩ ?_ ?_)
  · unfold iList
    try simp only [tSeq, tNext, tDrop, tRet, tRetN, tIfS, tAsg, gName, fAug, tOp, tUn, tC, fVar, fI, fIC, fNeg, fEq, fNe, fIsN, isNon, fAnd, fOr, fNot, fB, tNot, tAnd, tOr, fChain, fIx, fLen, fListOf, fMin, fMax, fInL, fSlL, tSl, fPart, tNoPart, fAppend, fBM, fSetL, gSub, fGNil, fGCons, fGTup, fGLst, fDGet2, sDPutF, tDNewK, fCat, fClear, fBM0, fSlT, fInt1, tCBK, fDIn, fDGet, fIsi, fBools, fDictL, fLtT, tCall, tCB, tCons, tNil, tTup, tLst, tIf, tTrue, Kd.nm, L2.start, List.map_cons, List.map_nil, List.length_cons, List.length_nil, Nat.reduceAdd, Nat.reduceSub, List.replicate_succ, List.replicate_zero, List.getElem?_cons_zero, List.getElem?_cons_succ, List.set_cons_zero, List.set_cons_succ, List.append_nil, List.nil_append, List.cons_append, eq_self, true_and, and_true, if_true, Bool.false_eq_true, if_false, Bool.not_true, Bool.not_false, id_eq, sl0, sl1, sl2, sl3, sl4]
    exact ⟨ra, rfl, ⟨_, SqL.of er7⟩, hR⟩
  · rintro k σ' Hc hk ⟨w1, w2, w3, zs', rfl, s8, e8, p8⟩
    have hkx : k < rx.length := by omega
    have x1 : rx[k]? = some rx[k] := List.getElem?_eq_getElem hkx
    obtain ⟨r, hr, qr⟩ := paired_left pr7 x1
    have z1 : SqL K Hc ra rx := SqL.of (s8 _ _ er7)
    refine ⟨⟨_, _, z1, x1⟩, ?_⟩
    rintro y H' ⟨rfl, hy⟩
    have E1 : rx[k] = y := Option.some.inj (x1.symm.trans (hy _ z1))
    obtain ⟨t, e1, e2'⟩ := qr
    rw [E1] at e1
    subst e1
    have e2'' := s8 _ _ e2'
    have rix := R.ix r (List.mem_of_getElem? hr)
    have a1 := at_nth (xs := ns) (k := r.1) (by omega) (by omega)
    have a2 := at_nth (xs := ns) (k := r.2.1) (by omega) (by omega)
    have hzl : zs'.length ≤ 81 := by
      have z2 := Paired.length p8
      have z3 := dues_len ns tw (raw.take k)
      rw [List.length_take] at z3
      omega
    try simp only [tSeq, tNext, tDrop, tRet, tRetN, tIfS, tAsg, gName, fAug, tOp, tUn, tC, fVar, fI, fIC, fNeg, fEq, fNe, fIsN, isNon, fAnd, fOr, fNot, fB, tNot, tAnd, tOr, fChain, fIx, fLen, fListOf, fMin, fMax, fInL, fSlL, tSl, fPart, tNoPart, fAppend, fBM, fSetL, gSub, fGNil, fGCons, fGTup, fGLst, fDGet2, sDPutF, tDNewK, fCat, fClear, fBM0, fSlT, fInt1, tCBK, fDIn, fDGet, fIsi, fBools, fDictL, fLtT, tCall, tCB, tCons, tNil, tTup, tLst, tIf, tTrue, Kd.nm, L2.start, List.map_cons, List.map_nil, List.length_cons, List.length_nil, Nat.reduceAdd, Nat.reduceSub, List.replicate_succ, List.replicate_zero, List.getElem?_cons_zero, List.getElem?_cons_succ, List.set_cons_zero, List.set_cons_succ, List.append_nil, List.nil_append, List.cons_append, eq_self, true_and, and_true, if_true, Bool.false_eq_true, if_false, Bool.not_true, Bool.not_false, id_eq, sl0, sl1, sl2, sl3, sl4, e2'', seqOf, s8 _ _ en7, a1, a2]
    rw [dues_take hr]
    refine ite2 (fun c1 => ?_) (fun c1 => ?_)
    · rw [if_pos c1]
      refine ⟨cmR (by omega) (by omega), fun t2 ht2 => ?_⟩
      have sA := same_new ht2 (.tup [.int (nth ns r.1), .int (nth ns r.2.1), .int (r.2.2 * tw)])
      have tA := sA.tups.trans (tups_lst (ys := zs' ++ [.ref t2]) (sA _ _ e8))
      exact ⟨_, sA _ _ e8, szl' (by omega), _, _, _, _, rfl, same_upd (s8.trans sA) hdl, upd_same, paired_snoc (Trs.tups tA p8) ⟨t2, rfl, by rw [upd_ne (ne_of_none e8 ht2).symm, upd_same]⟩⟩
    · rw [if_neg c1, List.append_nil]
      exact ⟨_, _, _, _, rfl, s8, e8, p8⟩
  rintro σ' H8 ⟨wa, wb, wc, dx, rfl, s8, e8, p8⟩
  refine ⟨⟨_, SqL.of (s8 _ _ er7), by rw [hrx]; exact Nat.le_refl _⟩, ?_⟩
  rw [List.take_length] at p8
  try simp only [tSeq, tNext, tDrop, tRet, tRetN, tIfS, tAsg, gName, fAug, tOp, tUn, tC, fVar, fI, fIC, fNeg, fEq, fNe, fIsN, isNon, fAnd, fOr, fNot, fB, tNot, tAnd, tOr, fChain, fIx, fLen, fListOf, fMin, fMax, fInL, fSlL, tSl, fPart, tNoPart, fAppend, fBM, fSetL, gSub, fGNil, fGCons, fGTup, fGLst, fDGet2, sDPutF, tDNewK, fCat, fClear, fBM0, fSlT, fInt1, tCBK, fDIn, fDGet, fIsi, fBools, fDictL, fLtT, tCall, tCB, tCons, tNil, tTup, tLst, tIf, tTrue, Kd.nm, L2.start, List.map_cons, List.map_nil, List.length_cons, List.length_nil, Nat.reduceAdd, Nat.reduceSub, List.replicate_succ, List.replicate_zero, List.getElem?_cons_zero, List.getElem?_cons_succ, List.set_cons_zero, List.set_cons_succ, List.append_nil, List.nil_append, List.cons_append, eq_self, true_and, and_true, if_true, Bool.false_eq_true, if_false, Bool.not_true, Bool.not_false, id_eq, sl0, sl1, sl2, sl3, sl4]
  intro t1 ht1 t2 ht2
  have sA := same_new ht1 (.tup [.ref pc, .ref tl])
  have sB := same_new ht2 (.tup [.ref t1, .ref hc, .ref dl])
  have n12 : t1 ≠ t2 := fun z => by rw [← z, upd_same] at ht2; cases ht2
  have sAB := sA.trans sB
  have s58 := s6.trans (s7.trans s8)
  refine h t2 (.ref t1) (.ref hc) dl dx ps ts (duesOf ns tw raw) (hvOf ns hs) _ o5 ((((But.same s03).trans b5).trans (But.same s58)).trans (But.same sAB)) ((s58.trans sAB) _ _ e5) so5 upd_same ⟨t1, pc, tl, px, ys, rfl, sB _ _ upd_same, (s58.trans sAB) _ _ ep5, (s8.trans sAB) _ _ e7, Prs.same (s58.trans sAB) pp5, Prs.same (s8.trans sAB) p7⟩ (sAB _ _ e8) (Trs.tups sAB.tups p8) (pap_of R W (fun k k0 k1 kh => ev k k0 k1 kh) g7 (by omega))
end
end My

set_option Elab.async false
set_option linter.all false
set_option maxRecDepth 100000
set_option maxHeartbeats 4000000
namespace My
open PySem L2
section
variable {P : Program} {w : World} {K : PySem.W.Frag} {mg : Str → Option Value} {base : Heap} {c1 c2 c3 c4 : Tok}
theorem tComp_hideI {ι : Type} {src : List (Option Nat)} {wi : TI} {g : TG} {tc : TT} {te : TE} {Q : VK} {σ : St} {H : Hp} (J : ι → It) (H1 : ι → Hp) (ok : ι → Prop) (h1 : ∀ R : It → Hp → Prop, (∀ p, ok p → R (J p) (H1 p)) → wi σ H R)
    (h2 : ∀ p, ok p → ∀ l, H1 p l = none → CWant (J p) src g tc te Q σ (H1 p) l) : tComp src wi g tc te σ H Q := h1 _ h2
theorem ten9 : (10 : Int) ^ Int.toNat 9 = 1000000000 := by decide
def GR (hs : List Int) (r : Int × Int × Int) : Prop := (0 ≤ r.1 ∧ r.1 < r.2.1 ∧ r.2.1 < hs.length) ∧ 0 ≤ r.2.2 ∧ 2 ≤ nth hs r.1 + nth hs r.2.1 ∧ (0 < r.2.2 → nth hs r.1 + nth hs r.2.1 = 2)
theorem rw_ne {H : Hp} {a b : Addr} {x y z : Int} {rx : List V} (ea : H a = some (.lst [.int x, .int y, .int z])) (eb : H b = some (.lst rx)) (h : ∀ v ∈ rx, ∃ t, v = .ref t) : a ≠ b := fun e => by
  rw [e, eb] at ea
  cases ea
  obtain ⟨t, e⟩ := h (.int x) (List.mem_cons_self ..)
  cases e
theorem Rws.upd {H : Hp} {b : Addr} {rx ys : List V} {raw : List (Int × Int × Int)} (h : Rws H rx raw) (eb : H b = some (.lst rx)) : Rws (upd H b (.lst ys)) rx raw := by
  have hr := rws_refs h
  exact Paired.mapP h fun _ _ ⟨a, e, q⟩ => ⟨a, e, by rw [upd_ne (rw_ne q eb hr)]; exact q⟩
def spLaid : Sp := fun vs H Q _ => ∃ (st : Addr) (o : HO), vs = [.ref st, .int 9] ∧ H st = some o ∧ StO o ∧
  ∀ (t : Addr) (wv hl : V) (da : Addr) (dx : List V) (ps ts : List (Int × Int)) (ds : List (Int × Int × Int)) (hv : Int → Int) (H' : Hp) (o' : HO), But st H H' → H' st = some o' → StO o' → H' t = some (.tup [wv, hl, .ref da]) → WebAt H' wv ps ts → H' da = some (.lst dx) → Trs H' dx ds → Pap ps ts ds hv → Q (.ref t) H'
theorem ok_law_laid {f : Addr} {fd : FuncData} {f_law_take : Addr} {d_law_take : FuncData} {f_law_priced : Addr} {d_law_priced : FuncData} (B : Blt mg) (D : DefAt K mg "_law_laid" (top 8) ["_law_state", "_law_most"] f fd) (D_law_take : DefAt K mg "_law_take" (top 6) ["_law_state", "_law_many"] f_law_take d_law_take) (G_law_take : FnOk P w K mg base CX0 1 f_law_take d_law_take ["_law_state", "_law_many"] spTake) (D_law_priced : DefAt K mg "_law_priced" (top 7) ["_law_state", "_law_hs", "_law_raw"] f_law_priced d_law_priced) (G_law_priced : FnOk P w K mg base CX0 2 f_law_priced d_law_priced ["_law_state", "_law_hs", "_law_raw"] spPriced) : FnOk P w K mg base CX0 3 f fd ["_law_state", "_law_most"] spLaid := by
  have sc : FnScope ["_law_state", "_law_most", "_law_great", "_law_dense", "_law_hs", "_law_raw", "_law_k", "_law_j", "_law_due_here"] ["_law_state", "_law_most"] (defScope (top 8)) := ⟨rfl, rfl, rfl, by decide +kernel, rfl, by decide +kernel, by decide +kernel⟩
  refine D.F.ok sc (fun vs H Q E h => ?_) (fun cdv A outer s H vs Q E hr h => ?_)
  · obtain ⟨st, o, rfl, _⟩ := h
    rfl
  obtain ⟨st, o, rfl, es, so, h⟩ := h
  have hu := hu_of hr
  have hu0 : _ < PySem.cLine := Nat.lt_of_succ_lt hu
  refine ⟨_, (pss_cons (ps_set (i := 2) sc.nd rfl (Or.inl rfl) (pe_ix q_ix (pe_lst (pa_cons pe_int (pa_cons pe_int (pa_cons (pe_op q_pow pe_int pe_int) pa_nil)))) (pe_call G_law_take (hr.mono (by decide)) rfl D_law_take.m D_law_take.F.kp D_law_take.b .nil pass0 (pa_cons (qv 0) (pa_cons pe_int pa_nil))) (fun _ _ => rfl))) (pss_cons (ps_set (i := 3) sc.nd rfl (Or.inl rfl) (pe_op q_add pe_int (pe_call G_law_take (hr.mono (by decide)) rfl D_law_take.m D_law_take.F.kp D_law_take.b .nil pass0 (pa_cons (qv 0) (pa_cons pe_int pa_nil))))) (pss_cons (ps_setc (i := 4) sc.nd rfl (Or.inl rfl) (CpScope.of (N := ["_law_k", "_law_state"]) (src := [none, some 0]) (by rfl)) rfl (pi_range1 rfl B.range (pa_cons (pe_call G_law_take (hr.mono (by decide)) rfl D_law_take.m D_law_take.F.kp D_law_take.b .nil pass0 (pa_cons (qv 0) (pa_cons (pe_op q_add (qv 1) pe_int) pa_nil))) pa_nil)) (fun _ _ _ _ => (pg_name (i := 0) (nodupB_ok (l := ["_law_k", "_law_state"]) (by rfl)) rfl (Or.inl rfl))) (fun _ _ _ _ => pif_nil) (fun _ _ _ _ => (pe_call G_law_take (hr.mono (by decide)) rfl D_law_take.m D_law_take.F.kp D_law_take.b .nil pass0 (pa_cons (qv 1) (pa_cons pe_int pa_nil))))) (pss_cons (ps_set (i := 5) sc.nd rfl (Or.inl rfl) (pe_lst pa_nil)) (pss_cons (ps_for PassesOwn.never rfl (pi_range1 rfl B.range (pa_cons (pe_callB q_len rfl B.len PySem.boot_len (pa_cons (qv 4) pa_nil)) pa_nil)) (pg_name (i := 6) sc.nd rfl (Or.inl rfl)) (pss_one (ps_for PassesOwn.never rfl (pi_range2 rfl B.range (pa_cons (pe_op q_add (qv 6) pe_int) (pa_cons (pe_callB q_len rfl B.len PySem.boot_len (pa_cons (qv 4) pa_nil)) pa_nil))) (pg_name (i := 7) sc.nd rfl (Or.inl rfl)) (pss_one (ps_if (PW.pt (pw_and (qt_cmp q_gt (pe_op q_add (pe_ix q_ix (qv 4) (qv 6) (fun _ _ => rfl)) (pe_ix q_ix (qv 4) (qv 7) (fun _ _ => rfl))) pe_int (nomark _)) (pw_and1 (qt_cmp q_lt (pe_call G_law_take (hr.mono (by decide)) rfl D_law_take.m D_law_take.F.kp D_law_take.b .nil pass0 (pa_cons (qv 0) (pa_cons pe_int pa_nil))) (qv 3) (nomark _))))) (pss_cons (ps_set (i := 8) sc.nd rfl (Or.inl rfl) pe_int) (pss_cons (ps_if (PW.pt (pw_and (qt_cmp q_eq (pe_op q_add (pe_ix q_ix (qv 4) (qv 6) (fun _ _ => rfl)) (pe_ix q_ix (qv 4) (qv 7) (fun _ _ => rfl))) pe_int (nomark _)) (pw_and1 (qt_cmp q_gt (pe_call G_law_take (hr.mono (by decide)) rfl D_law_take.m D_law_take.F.kp D_law_take.b .nil pass0 (pa_cons (qv 0) (pa_cons pe_int pa_nil))) pe_int (nomark _))))) (pss_one (ps_set (i := 8) sc.nd rfl (Or.inl rfl) (pe_op q_add pe_int (pe_call G_law_take (hr.mono (by decide)) rfl D_law_take.m D_law_take.F.kp D_law_take.b .nil pass0 (pa_cons (qv 0) (pa_cons (qv 2) pa_nil)))))) pss_nil) (pss_one (ps_expr (q_bm PySem.F.plainAttrs_list PySem.F.slot_list_append PySem.F.type_list_append q_append (qv 5) (pa_cons (pe_lst (pa_cons (qv 6) (pa_cons (qv 7) (pa_cons (qv 8) pa_nil)))) pa_nil)))))) pss_nil))))) (pss_one (ps_ret (pe_call G_law_priced (hr.mono (by decide)) rfl D_law_priced.m D_law_priced.F.kp D_law_priced.b .nil pass0 (pa_cons (qv 0) (pa_cons (qv 4) (pa_cons (qv 5) pa_nil))))))))))), ?_⟩
  try simp only [tSeq, tNext, tDrop, tRet, tRetN, tIfS, tAsg, gName, fAug, tOp, tUn, tC, fVar, fI, fIC, fNeg, fEq, fNe, fIsN, isNon, fAnd, fOr, fNot, fB, tNot, tAnd, tOr, fChain, fIx, fLen, fListOf, fMin, fMax, fInL, fSlL, tSl, fPart, tNoPart, fAppend, fBM, fSetL, gSub, fGNil, fGCons, fGTup, fGLst, fDGet2, sDPutF, tDNewK, fCat, fClear, fBM0, fSlT, fInt1, tCBK, fDIn, fDGet, fIsi, fBools, fDictL, fLtT, tCall, tCB, tCons, tNil, tTup, tLst, tIf, tTrue, Kd.nm, L2.start, List.map_cons, List.map_nil, List.length_cons, List.length_nil, Nat.reduceAdd, Nat.reduceSub, List.replicate_succ, List.replicate_zero, List.getElem?_cons_zero, List.getElem?_cons_succ, List.set_cons_zero, List.set_cons_succ, List.append_nil, List.nil_append, List.cons_append, eq_self, true_and, and_true, if_true, Bool.false_eq_true, if_false, Bool.not_true, Bool.not_false, id_eq, sl0, sl1, sl2, sl3, sl4]
  refine ⟨⟨by decide, by decide, by decide⟩, ?_⟩
  intro p1 hp1
  have np1 : p1 ≠ st := (ne_of_none es hp1).symm
  refine ⟨st, o, 3, rfl, (same_new hp1 _) _ _ es, so, by decide, by decide, fun d1 o1 d10 d11 so1 => ?_⟩
  obtain ⟨g, ev, g0, g1⟩ : ∃ v, atI [V.int 2, .int 9, .int (10 ^ Int.toNat 9)] d1 = some (.int v) ∧ 1 ≤ v ∧ v ≤ 1000000000 := by
    obtain ⟨v, e, hv⟩ := menu3 (a := 2) (b := 9) (c := 10 ^ Int.toNat 9) d10 d11
    rw [ten9] at hv
    exact ⟨v, e, by omega, by omega⟩
  try simp only [tSeq, tNext, tDrop, tRet, tRetN, tIfS, tAsg, gName, fAug, tOp, tUn, tC, fVar, fI, fIC, fNeg, fEq, fNe, fIsN, isNon, fAnd, fOr, fNot, fB, tNot, tAnd, tOr, fChain, fIx, fLen, fListOf, fMin, fMax, fInL, fSlL, tSl, fPart, tNoPart, fAppend, fBM, fSetL, gSub, fGNil, fGCons, fGTup, fGLst, fDGet2, sDPutF, tDNewK, fCat, fClear, fBM0, fSlT, fInt1, tCBK, fDIn, fDGet, fIsi, fBools, fDictL, fLtT, tCall, tCB, tCons, tNil, tTup, tLst, tIf, tTrue, Kd.nm, L2.start, List.map_cons, List.map_nil, List.length_cons, List.length_nil, Nat.reduceAdd, Nat.reduceSub, List.replicate_succ, List.replicate_zero, List.getElem?_cons_zero, List.getElem?_cons_succ, List.set_cons_zero, List.set_cons_succ, List.append_nil, List.nil_append, List.cons_append, eq_self, true_and, and_true, if_true, Bool.false_eq_true, if_false, Bool.not_true, Bool.not_false, id_eq, sl0, sl1, sl2, sl3, sl4, seqOf, upd_ne np1, upd_same, ev]
  refine ⟨st, o1, 4, rfl, upd_same, so1, by decide, by decide, fun d2 o2 d20 d21 so2 => ?_⟩
  try simp only [tSeq, tNext, tDrop, tRet, tRetN, tIfS, tAsg, gName, fAug, tOp, tUn, tC, fVar, fI, fIC, fNeg, fEq, fNe, fIsN, isNon, fAnd, fOr, fNot, fB, tNot, tAnd, tOr, fChain, fIx, fLen, fListOf, fMin, fMax, fInL, fSlL, tSl, fPart, tNoPart, fAppend, fBM, fSetL, gSub, fGNil, fGCons, fGTup, fGLst, fDGet2, sDPutF, tDNewK, fCat, fClear, fBM0, fSlT, fInt1, tCBK, fDIn, fDGet, fIsi, fBools, fDictL, fLtT, tCall, tCB, tCons, tNil, tTup, tLst, tIf, tTrue, Kd.nm, L2.start, List.map_cons, List.map_nil, List.length_cons, List.length_nil, Nat.reduceAdd, Nat.reduceSub, List.replicate_succ, List.replicate_zero, List.getElem?_cons_zero, List.getElem?_cons_succ, List.set_cons_zero, List.set_cons_succ, List.append_nil, List.nil_append, List.cons_append, eq_self, true_and, and_true, if_true, Bool.false_eq_true, if_false, Bool.not_true, Bool.not_false, id_eq, sl0, sl1, sl2, sl3, sl4, upd_upd]
  have b2 : But st H (upd (upd H p1 (.lst [.int 2, .int 9, .int (10 ^ Int.toNat 9)])) st o2) := (But.new hp1).trans (But.at _ _ _)
  have e2 : upd (upd H p1 (.lst [.int 2, .int 9, .int (10 ^ Int.toNat 9)])) st o2 st = some o2 := upd_same
  generalize upd (upd H p1 (.lst [.int 2, .int 9, .int (10 ^ Int.toNat 9)])) st o2 = H1 at b2 e2
  generalize hdn : 1 + d2 = dn
  refine tComp_hideI (ι := Int × HO) (fun i => Itr 0 i.1.toNat) (fun i => upd H1 st i.2) (fun i => 0 ≤ i.1 ∧ i.1 ≤ 9 ∧ StO i.2) (fun R hR => ?_) (fun i0 ok0 hl hhl => ?_)
  · unfold iRng1
    try simp only [tSeq, tNext, tDrop, tRet, tRetN, tIfS, tAsg, gName, fAug, tOp, tUn, tC, fVar, fI, fIC, fNeg, fEq, fNe, fIsN, isNon, fAnd, fOr, fNot, fB, tNot, tAnd, tOr, fChain, fIx, fLen, fListOf, fMin, fMax, fInL, fSlL, tSl, fPart, tNoPart, fAppend, fBM, fSetL, gSub, fGNil, fGCons, fGTup, fGLst, fDGet2, sDPutF, tDNewK, fCat, fClear, fBM0, fSlT, fInt1, tCBK, fDIn, fDGet, fIsi, fBools, fDictL, fLtT, tCall, tCB, tCons, tNil, tTup, tLst, tIf, tTrue, Kd.nm, L2.start, List.map_cons, List.map_nil, List.length_cons, List.length_nil, Nat.reduceAdd, Nat.reduceSub, List.replicate_succ, List.replicate_zero, List.getElem?_cons_zero, List.getElem?_cons_succ, List.set_cons_zero, List.set_cons_succ, List.append_nil, List.nil_append, List.cons_append, eq_self, true_and, and_true, if_true, Bool.false_eq_true, if_false, Bool.not_true, Bool.not_false, id_eq, sl0, sl1, sl2, sl3, sl4]
    refine ⟨st, o2, 10, rfl, e2, so2, by decide, by decide, fun d o3 d0 d1 so3 => ?_⟩
    exact ⟨d, rfl, by omega, by omega, hR (d, o3) ⟨d0, by show d ≤ 9; omega, so3⟩⟩
  obtain ⟨n, o3⟩ := i0
  obtain ⟨n0, n1, so3⟩ := ok0
  dsimp only at n0 n1 so3 hhl ⊢
  have nhl : hl ≠ st := fun z => by rw [z, upd_same] at hhl; cases hhl
  have hhl1 : H1 hl = none := by rw [upd_ne nhl] at hhl; exact hhl
  refine comp_run n.toNat (fun i σ' Hc => ∃ w1 o' hs, σ' = [w1, some (.ref st)] ∧ But st H1 Hc ∧ Hc st = some o' ∧ StO o' ∧ Hc hl = some (.lst (hs.map V.int)) ∧ hs.length = i ∧ ∀ h ∈ hs, 0 ≤ h ∧ h ≤ (2 : Int)) ⟨none, o3, [], rfl, but_upd (But.at _ _ _) hhl1, by rw [upd_ne nhl.symm, upd_same], so3, upd_same, rfl, (fun h hh => by cases hh)⟩ ?_ ?_
  · rintro k σ' Hc hk ⟨w1, o', hs, rfl, b3, e3, so', eh, lh, ah⟩
    refine ⟨hk, ?_⟩
    rintro y H' ⟨rfl, rfl⟩
    try simp only [tSeq, tNext, tDrop, tRet, tRetN, tIfS, tAsg, gName, fAug, tOp, tUn, tC, fVar, fI, fIC, fNeg, fEq, fNe, fIsN, isNon, fAnd, fOr, fNot, fB, tNot, tAnd, tOr, fChain, fIx, fLen, fListOf, fMin, fMax, fInL, fSlL, tSl, fPart, tNoPart, fAppend, fBM, fSetL, gSub, fGNil, fGCons, fGTup, fGLst, fDGet2, sDPutF, tDNewK, fCat, fClear, fBM0, fSlT, fInt1, tCBK, fDIn, fDGet, fIsi, fBools, fDictL, fLtT, tCall, tCB, tCons, tNil, tTup, tLst, tIf, tTrue, Kd.nm, L2.start, List.map_cons, List.map_nil, List.length_cons, List.length_nil, Nat.reduceAdd, Nat.reduceSub, List.replicate_succ, List.replicate_zero, List.getElem?_cons_zero, List.getElem?_cons_succ, List.set_cons_zero, List.set_cons_succ, List.append_nil, List.nil_append, List.cons_append, eq_self, true_and, and_true, if_true, Bool.false_eq_true, if_false, Bool.not_true, Bool.not_false, id_eq, sl0, sl1, sl2, sl3, sl4]
    refine ⟨st, o', 3, rfl, e3, so', by decide, by decide, fun d o4 d0 d1 so4 => ?_⟩
    refine ⟨_, by rw [upd_ne nhl]; exact eh, by rw [List.length_map]; exact szl' (by omega), _, o4, hs ++ [d], rfl, but_upd (b3.trans (But.at _ _ _)) hhl1, by rw [upd_ne nhl.symm, upd_same], so4, by rw [List.map_append]; exact upd_same, by rw [List.length_append, List.length_singleton, lh], fun x hx => ?_⟩
    rcases List.mem_append.mp hx with z | z
    · exact ah x z
    · rw [List.mem_singleton.mp z]; omega
  rintro σ' H2 ⟨w1, o4, hs, rfl, b3, e3, so4, eh, lh, ah⟩
  refine ⟨Nat.le_refl _, ?_⟩
  have hhs : hs.length ≤ 9 := by omega
  try simp only [tSeq, tNext, tDrop, tRet, tRetN, tIfS, tAsg, gName, fAug, tOp, tUn, tC, fVar, fI, fIC, fNeg, fEq, fNe, fIsN, isNon, fAnd, fOr, fNot, fB, tNot, tAnd, tOr, fChain, fIx, fLen, fListOf, fMin, fMax, fInL, fSlL, tSl, fPart, tNoPart, fAppend, fBM, fSetL, gSub, fGNil, fGCons, fGTup, fGLst, fDGet2, sDPutF, tDNewK, fCat, fClear, fBM0, fSlT, fInt1, tCBK, fDIn, fDGet, fIsi, fBools, fDictL, fLtT, tCall, tCB, tCons, tNil, tTup, tLst, tIf, tTrue, Kd.nm, L2.start, List.map_cons, List.map_nil, List.length_cons, List.length_nil, Nat.reduceAdd, Nat.reduceSub, List.replicate_succ, List.replicate_zero, List.getElem?_cons_zero, List.getElem?_cons_succ, List.set_cons_zero, List.set_cons_succ, List.append_nil, List.nil_append, List.cons_append, eq_self, true_and, and_true, if_true, Bool.false_eq_true, if_false, Bool.not_true, Bool.not_false, id_eq, sl0, sl1, sl2, sl3, sl4]
  intro ra hra
  have nra : ra ≠ st := (ne_of_none e3 hra).symm
  have nhr : hl ≠ ra := ne_of_none eh hra
  refine tFor_hide (Itr 0 hs.length) _ (fun R hR => ?_) (for_range (lo := 0) (n := hs.length) (fun i σ H3 => ∃ w1 w2 w3 rx raw, σ = [some (.ref st), some (.int 9), some (.int g), some (.int dn), some (.ref hl), some (.ref ra), w1, w2, w3] ∧ But st H2 H3 ∧ (∃ o', H3 st = some o' ∧ StO o') ∧ H3 ra = some (.lst rx) ∧ Rws H3 rx raw ∧ (∀ r ∈ raw, GR hs r) ∧ raw.length ≤ 9 * i) ⟨_, _, _, [], [], rfl, But.new hra, ⟨o4, (same_new hra _) _ _ e3, so4⟩, upd_same, .nil, (fun r hr => by cases hr), Nat.le_refl _⟩ ?_ ?_)
  · unfold iRng1
    try simp only [tSeq, tNext, tDrop, tRet, tRetN, tIfS, tAsg, gName, fAug, tOp, tUn, tC, fVar, fI, fIC, fNeg, fEq, fNe, fIsN, isNon, fAnd, fOr, fNot, fB, tNot, tAnd, tOr, fChain, fIx, fLen, fListOf, fMin, fMax, fInL, fSlL, tSl, fPart, tNoPart, fAppend, fBM, fSetL, gSub, fGNil, fGCons, fGTup, fGLst, fDGet2, sDPutF, tDNewK, fCat, fClear, fBM0, fSlT, fInt1, tCBK, fDIn, fDGet, fIsi, fBools, fDictL, fLtT, tCall, tCB, tCons, tNil, tTup, tLst, tIf, tTrue, Kd.nm, L2.start, List.map_cons, List.map_nil, List.length_cons, List.length_nil, Nat.reduceAdd, Nat.reduceSub, List.replicate_succ, List.replicate_zero, List.getElem?_cons_zero, List.getElem?_cons_succ, List.set_cons_zero, List.set_cons_succ, List.append_nil, List.nil_append, List.cons_append, eq_self, true_and, and_true, if_true, Bool.false_eq_true, if_false, Bool.not_true, Bool.not_false, id_eq, sl0, sl1, sl2, sl3, sl4, seqOf, (same_new hra (.lst [])) _ _ eh, List.length_map]
    exact ⟨_, rfl, by omega, by omega, hR⟩
  · rintro i σ H3 hi ⟨w1, w2, w3, rx, raw, rfl, b4, ⟨o5, e4, so5⟩, er, pr, gr, lr⟩
    have eh3 := b4 _ _ nhl eh
    try simp only [tSeq, tNext, tDrop, tRet, tRetN, tIfS, tAsg, gName, fAug, tOp, tUn, tC, fVar, fI, fIC, fNeg, fEq, fNe, fIsN, isNon, fAnd, fOr, fNot, fB, tNot, tAnd, tOr, fChain, fIx, fLen, fListOf, fMin, fMax, fInL, fSlL, tSl, fPart, tNoPart, fAppend, fBM, fSetL, gSub, fGNil, fGCons, fGTup, fGLst, fDGet2, sDPutF, tDNewK, fCat, fClear, fBM0, fSlT, fInt1, tCBK, fDIn, fDGet, fIsi, fBools, fDictL, fLtT, tCall, tCB, tCons, tNil, tTup, tLst, tIf, tTrue, Kd.nm, L2.start, List.map_cons, List.map_nil, List.length_cons, List.length_nil, Nat.reduceAdd, Nat.reduceSub, List.replicate_succ, List.replicate_zero, List.getElem?_cons_zero, List.getElem?_cons_succ, List.set_cons_zero, List.set_cons_succ, List.append_nil, List.nil_append, List.cons_append, eq_self, true_and, and_true, if_true, Bool.false_eq_true, if_false, Bool.not_true, Bool.not_false, id_eq, sl0, sl1, sl2, sl3, sl4]
    refine tFor_hide (Itr (0 + (i : Int) + 1) ((hs.length : Int) - (0 + (i : Int) + 1)).toNat) H3 (fun R hR => ?_) (for_range (lo := 0 + (i : Int) + 1) (n := ((hs.length : Int) - (0 + (i : Int) + 1)).toNat) (fun j σ H4 => ∃ w2 w3 rx raw, σ = [some (.ref st), some (.int 9), some (.int g), some (.int dn), some (.ref hl), some (.ref ra), some (.int (0 + (i : Int))), w2, w3] ∧ But st H2 H4 ∧ (∃ o', H4 st = some o' ∧ StO o') ∧ H4 ra = some (.lst rx) ∧ Rws H4 rx raw ∧ (∀ r ∈ raw, GR hs r) ∧ raw.length ≤ 9 * i + j) ⟨_, _, rx, raw, rfl, b4, ⟨o5, e4, so5⟩, er, pr, gr, lr⟩ ?_ ?_)
    · unfold iRng2
      try simp only [tSeq, tNext, tDrop, tRet, tRetN, tIfS, tAsg, gName, fAug, tOp, tUn, tC, fVar, fI, fIC, fNeg, fEq, fNe, fIsN, isNon, fAnd, fOr, fNot, fB, tNot, tAnd, tOr, fChain, fIx, fLen, fListOf, fMin, fMax, fInL, fSlL, tSl, fPart, tNoPart, fAppend, fBM, fSetL, gSub, fGNil, fGCons, fGTup, fGLst, fDGet2, sDPutF, tDNewK, fCat, fClear, fBM0, fSlT, fInt1, tCBK, fDIn, fDGet, fIsi, fBools, fDictL, fLtT, tCall, tCB, tCons, tNil, tTup, tLst, tIf, tTrue, Kd.nm, L2.start, List.map_cons, List.map_nil, List.length_cons, List.length_nil, Nat.reduceAdd, Nat.reduceSub, List.replicate_succ, List.replicate_zero, List.getElem?_cons_zero, List.getElem?_cons_succ, List.set_cons_zero, List.set_cons_succ, List.append_nil, List.nil_append, List.cons_append, eq_self, true_and, and_true, if_true, Bool.false_eq_true, if_false, Bool.not_true, Bool.not_false, id_eq, sl0, sl1, sl2, sl3, sl4, seqOf, eh3, List.length_map]
      exact ⟨_, _, rfl, ⟨by omega, by omega, by omega, by omega⟩, hR⟩
    · rintro j σ H4 hj ⟨w2, w3, rx, raw, rfl, b5, ⟨o6, e5, so6⟩, er5, pr5, gr5, lr5⟩
      have eh4 := b5 _ _ nhl eh
      have hjj : 0 + (i : Int) + 1 + j < hs.length := by omega
      have a1 := at_nth (xs := hs) (k := 0 + (i : Int)) (by omega) (by omega)
      have a2 := at_nth (xs := hs) (k := 0 + (i : Int) + 1 + j) (by omega) (by omega)
      have hrl : rx.length = raw.length := Paired.length pr5
      have skip : ∀ (H5 : Hp) (w3 : Option V), But st H4 H5 → (∃ o', H5 st = some o' ∧ StO o') → ∃ w2' w3' rx raw, [some (.ref st), some (.int 9), some (.int g), some (.int dn), some (.ref hl), some (.ref ra), some (.int (0 + (i : Int))), some (.int (0 + (i : Int) + 1 + j)), w3] = [some (.ref st), some (.int 9), some (.int g), some (.int dn), some (.ref hl), some (.ref ra), some (.int (0 + (i : Int))), w2', w3'] ∧ But st H2 H5 ∧ (∃ o', H5 st = some o' ∧ StO o') ∧ H5 ra = some (.lst rx) ∧ Rws H5 rx raw ∧ (∀ r ∈ raw, GR hs r) ∧ raw.length ≤ 9 * i + (j + 1) := fun H5 w3 b z => ⟨_, _, rx, raw, rfl, b5.trans b, z, b _ _ nra er5, Rws.but e5 so6 b pr5, gr5, by omega⟩
      generalize hB : tDrop (fBM fAppend (fVar 5) (tCons (tLst (tCons (fVar 6) (tCons (fVar 7) (tCons (fVar 8) tNil)))) tNil)) = B2
      have key : ∀ (D' : Ends) (H5 : Hp) (due : Int), (∀ (H6 : Hp) (rx : List V) (raw : List (Int × Int × Int)), But st H2 H6 ∧ (∃ o', H6 st = some o' ∧ StO o') ∧ H6 ra = some (.lst rx) ∧ Rws H6 rx raw ∧ (∀ r ∈ raw, GR hs r) → raw.length ≤ 9 * i + (j + 1) → D'.nx [some (.ref st), some (.int 9), some (.int g), some (.int dn), some (.ref hl), some (.ref ra), some (.int (0 + (i : Int))), some (.int (0 + (i : Int) + 1 + j)), some (.int due)] H6) → But st H4 H5 → (∃ o', H5 st = some o' ∧ StO o') → GR hs (0 + (i : Int), 0 + (i : Int) + 1 + j, due) → B2 D' [some (.ref st), some (.int 9), some (.int g), some (.int dn), some (.ref hl), some (.ref ra), some (.int (0 + (i : Int))), some (.int (0 + (i : Int) + 1 + j)), some (.int due)] H5 := by
        rintro D' H5 due hD b6 ⟨o7, e6, so7⟩ gd
        have er6 := b6 _ _ nra er5
        have pr6 := Rws.but e5 so6 b6 pr5
        subst hB
        try simp only [tSeq, tNext, tDrop, tRet, tRetN, tIfS, tAsg, gName, fAug, tOp, tUn, tC, fVar, fI, fIC, fNeg, fEq, fNe, fIsN, isNon, fAnd, fOr, fNot, fB, tNot, tAnd, tOr, fChain, fIx, fLen, fListOf, fMin, fMax, fInL, fSlL, tSl, fPart, tNoPart, fAppend, fBM, fSetL, gSub, fGNil, fGCons, fGTup, fGLst, fDGet2, sDPutF, tDNewK, fCat, fClear, fBM0, fSlT, fInt1, tCBK, fDIn, fDGet, fIsi, fBools, fDictL, fLtT, tCall, tCB, tCons, tNil, tTup, tLst, tIf, tTrue, Kd.nm, L2.start, List.map_cons, List.map_nil, List.length_cons, List.length_nil, Nat.reduceAdd, Nat.reduceSub, List.replicate_succ, List.replicate_zero, List.getElem?_cons_zero, List.getElem?_cons_succ, List.set_cons_zero, List.set_cons_succ, List.append_nil, List.nil_append, List.cons_append, eq_self, true_and, and_true, if_true, Bool.false_eq_true, if_false, Bool.not_true, Bool.not_false, id_eq, sl0, sl1, sl2, sl3, sl4]
        refine ⟨⟨ra, _, rfl, er6⟩, fun t ht => ?_⟩
        have nt : ra ≠ t := ne_of_none er6 ht
        try simp only [tSeq, tNext, tDrop, tRet, tRetN, tIfS, tAsg, gName, fAug, tOp, tUn, tC, fVar, fI, fIC, fNeg, fEq, fNe, fIsN, isNon, fAnd, fOr, fNot, fB, tNot, tAnd, tOr, fChain, fIx, fLen, fListOf, fMin, fMax, fInL, fSlL, tSl, fPart, tNoPart, fAppend, fBM, fSetL, gSub, fGNil, fGCons, fGTup, fGLst, fDGet2, sDPutF, tDNewK, fCat, fClear, fBM0, fSlT, fInt1, tCBK, fDIn, fDGet, fIsi, fBools, fDictL, fLtT, tCall, tCB, tCons, tNil, tTup, tLst, tIf, tTrue, Kd.nm, L2.start, List.map_cons, List.map_nil, List.length_cons, List.length_nil, Nat.reduceAdd, Nat.reduceSub, List.replicate_succ, List.replicate_zero, List.getElem?_cons_zero, List.getElem?_cons_succ, List.set_cons_zero, List.set_cons_succ, List.append_nil, List.nil_append, List.cons_append, eq_self, true_and, and_true, if_true, Bool.false_eq_true, if_false, Bool.not_true, Bool.not_false, id_eq, sl0, sl1, sl2, sl3, sl4, upd_ne nt, er6]
        refine ⟨szl' (by omega), ?_⟩
        have sA := same_new ht (.lst [.int (0 + (i : Int)), .int (0 + (i : Int) + 1 + j), .int due])
        have erA := sA _ _ er6
        have eA := upd_same (H := H5) (a := t) (o := .lst [.int (0 + (i : Int)), .int (0 + (i : Int) + 1 + j), .int due])
        have prA := Rws.same sA pr6
        generalize upd H5 t (.lst [.int (0 + (i : Int)), .int (0 + (i : Int) + 1 + j), .int due]) = HA at sA erA eA prA
        refine hD _ (rx ++ [.ref t]) (raw ++ [(0 + (i : Int), 0 + (i : Int) + 1 + j, due)]) ⟨but_upd ((b5.trans b6).trans (But.same sA)) hra, ⟨o7, by rw [upd_ne nra.symm]; exact sA _ _ e6, so7⟩, upd_same, paired_snoc (Rws.upd prA erA) ⟨t, rfl, by rw [upd_ne nt.symm]; exact eA⟩, fun r hr => ?_⟩ (by rw [List.length_append, List.length_singleton]; omega)
        rcases List.mem_append.mp hr with z | z
        · exact gr5 r z
        · rw [List.mem_singleton.mp z]; exact gd
      try simp only [tSeq, tNext, tDrop, tRet, tRetN, tIfS, tAsg, gName, fAug, tOp, tUn, tC, fVar, fI, fIC, fNeg, fEq, fNe, fIsN, isNon, fAnd, fOr, fNot, fB, tNot, tAnd, tOr, fChain, fIx, fLen, fListOf, fMin, fMax, fInL, fSlL, tSl, fPart, tNoPart, fAppend, fBM, fSetL, gSub, fGNil, fGCons, fGTup, fGLst, fDGet2, sDPutF, tDNewK, fCat, fClear, fBM0, fSlT, fInt1, tCBK, fDIn, fDGet, fIsi, fBools, fDictL, fLtT, tCall, tCB, tCons, tNil, tTup, tLst, tIf, tTrue, Kd.nm, L2.start, List.map_cons, List.map_nil, List.length_cons, List.length_nil, Nat.reduceAdd, Nat.reduceSub, List.replicate_succ, List.replicate_zero, List.getElem?_cons_zero, List.getElem?_cons_succ, List.set_cons_zero, List.set_cons_succ, List.append_nil, List.nil_append, List.cons_append, eq_self, true_and, and_true, if_true, Bool.false_eq_true, if_false, Bool.not_true, Bool.not_false, id_eq, sl0, sl1, sl2, sl3, sl4, seqOf, eh4, a1, a2]
      refine ite2 (fun c1 => ?_) (fun c1 => skip H4 _ (But.refl _ _) ⟨o6, e5, so6⟩)
      have c1' : nth hs (0 + (i : Int)) + nth hs (0 + (i : Int) + 1 + j) > 1 := of_decide_eq_true c1
      refine ⟨st, o6, 5, rfl, e5, so6, by decide, by decide, fun d3 o7 d30 d31 so7 => ?_⟩
      try simp only [tSeq, tNext, tDrop, tRet, tRetN, tIfS, tAsg, gName, fAug, tOp, tUn, tC, fVar, fI, fIC, fNeg, fEq, fNe, fIsN, isNon, fAnd, fOr, fNot, fB, tNot, tAnd, tOr, fChain, fIx, fLen, fListOf, fMin, fMax, fInL, fSlL, tSl, fPart, tNoPart, fAppend, fBM, fSetL, gSub, fGNil, fGCons, fGTup, fGLst, fDGet2, sDPutF, tDNewK, fCat, fClear, fBM0, fSlT, fInt1, tCBK, fDIn, fDGet, fIsi, fBools, fDictL, fLtT, tCall, tCB, tCons, tNil, tTup, tLst, tIf, tTrue, Kd.nm, L2.start, List.map_cons, List.map_nil, List.length_cons, List.length_nil, Nat.reduceAdd, Nat.reduceSub, List.replicate_succ, List.replicate_zero, List.getElem?_cons_zero, List.getElem?_cons_succ, List.set_cons_zero, List.set_cons_succ, List.append_nil, List.nil_append, List.cons_append, eq_self, true_and, and_true, if_true, Bool.false_eq_true, if_false, Bool.not_true, Bool.not_false, id_eq, sl0, sl1, sl2, sl3, sl4]
      refine ite2 (fun c2 => ?_) (fun c2 => skip _ _ (But.at _ _ _) ⟨o7, upd_same, so7⟩)
      have eh5 : upd H4 st o7 hl = some (.lst (hs.map V.int)) := by rw [upd_ne nhl]; exact eh4
      try simp only [tSeq, tNext, tDrop, tRet, tRetN, tIfS, tAsg, gName, fAug, tOp, tUn, tC, fVar, fI, fIC, fNeg, fEq, fNe, fIsN, isNon, fAnd, fOr, fNot, fB, tNot, tAnd, tOr, fChain, fIx, fLen, fListOf, fMin, fMax, fInL, fSlL, tSl, fPart, tNoPart, fAppend, fBM, fSetL, gSub, fGNil, fGCons, fGTup, fGLst, fDGet2, sDPutF, tDNewK, fCat, fClear, fBM0, fSlT, fInt1, tCBK, fDIn, fDGet, fIsi, fBools, fDictL, fLtT, tCall, tCB, tCons, tNil, tTup, tLst, tIf, tTrue, Kd.nm, L2.start, List.map_cons, List.map_nil, List.length_cons, List.length_nil, Nat.reduceAdd, Nat.reduceSub, List.replicate_succ, List.replicate_zero, List.getElem?_cons_zero, List.getElem?_cons_succ, List.set_cons_zero, List.set_cons_succ, List.append_nil, List.nil_append, List.cons_append, eq_self, true_and, and_true, if_true, Bool.false_eq_true, if_false, Bool.not_true, Bool.not_false, id_eq, sl0, sl1, sl2, sl3, sl4, seqOf, eh5, a1, a2]
      have fin : ∀ (H6 : Hp) (rx : List V) (raw : List (Int × Int × Int)) (w3 : Option V), But st H2 H6 ∧ (∃ o', H6 st = some o' ∧ StO o') ∧ H6 ra = some (.lst rx) ∧ Rws H6 rx raw ∧ (∀ r ∈ raw, GR hs r) → raw.length ≤ 9 * i + (j + 1) → ∃ w2' w3' rx raw, [some (.ref st), some (.int 9), some (.int g), some (.int dn), some (.ref hl), some (.ref ra), some (.int (0 + (i : Int))), some (.int (0 + (i : Int) + 1 + j)), w3] = [some (.ref st), some (.int 9), some (.int g), some (.int dn), some (.ref hl), some (.ref ra), some (.int (0 + (i : Int))), w2', w3'] ∧ But st H2 H6 ∧ (∃ o', H6 st = some o' ∧ StO o') ∧ H6 ra = some (.lst rx) ∧ Rws H6 rx raw ∧ (∀ r ∈ raw, GR hs r) ∧ raw.length ≤ 9 * i + (j + 1) := fun H6 rx raw w3 z1 z2 => ⟨_, _, rx, raw, rfl, z1.1, z1.2.1, z1.2.2.1, z1.2.2.2.1, z1.2.2.2.2, z2⟩
      refine ite2 (fun c3 => ?_) (fun c3 => ?_)
      · have c3' : nth hs (0 + (i : Int)) + nth hs (0 + (i : Int) + 1 + j) = 2 := of_decide_eq_true c3
        refine ⟨st, o7, 4, rfl, upd_same, so7, by decide, by decide, fun d4 o8 d40 d41 so8 => ?_⟩
        try simp only [tSeq, tNext, tDrop, tRet, tRetN, tIfS, tAsg, gName, fAug, tOp, tUn, tC, fVar, fI, fIC, fNeg, fEq, fNe, fIsN, isNon, fAnd, fOr, fNot, fB, tNot, tAnd, tOr, fChain, fIx, fLen, fListOf, fMin, fMax, fInL, fSlL, tSl, fPart, tNoPart, fAppend, fBM, fSetL, gSub, fGNil, fGCons, fGTup, fGLst, fDGet2, sDPutF, tDNewK, fCat, fClear, fBM0, fSlT, fInt1, tCBK, fDIn, fDGet, fIsi, fBools, fDictL, fLtT, tCall, tCB, tCons, tNil, tTup, tLst, tIf, tTrue, Kd.nm, L2.start, List.map_cons, List.map_nil, List.length_cons, List.length_nil, Nat.reduceAdd, Nat.reduceSub, List.replicate_succ, List.replicate_zero, List.getElem?_cons_zero, List.getElem?_cons_succ, List.set_cons_zero, List.set_cons_succ, List.append_nil, List.nil_append, List.cons_append, eq_self, true_and, and_true, if_true, Bool.false_eq_true, if_false, Bool.not_true, Bool.not_false, id_eq, sl0, sl1, sl2, sl3, sl4, upd_upd]
        refine ite2 (fun c4 => ?_) (fun c4 => ?_)
        · refine ⟨st, o8, g, rfl, upd_same, so8, by omega, by omega, fun d5 o9 d50 d51 so9 => ?_⟩
          try simp only [tSeq, tNext, tDrop, tRet, tRetN, tIfS, tAsg, gName, fAug, tOp, tUn, tC, fVar, fI, fIC, fNeg, fEq, fNe, fIsN, isNon, fAnd, fOr, fNot, fB, tNot, tAnd, tOr, fChain, fIx, fLen, fListOf, fMin, fMax, fInL, fSlL, tSl, fPart, tNoPart, fAppend, fBM, fSetL, gSub, fGNil, fGCons, fGTup, fGLst, fDGet2, sDPutF, tDNewK, fCat, fClear, fBM0, fSlT, fInt1, tCBK, fDIn, fDGet, fIsi, fBools, fDictL, fLtT, tCall, tCB, tCons, tNil, tTup, tLst, tIf, tTrue, Kd.nm, L2.start, List.map_cons, List.map_nil, List.length_cons, List.length_nil, Nat.reduceAdd, Nat.reduceSub, List.replicate_succ, List.replicate_zero, List.getElem?_cons_zero, List.getElem?_cons_succ, List.set_cons_zero, List.set_cons_succ, List.append_nil, List.nil_append, List.cons_append, eq_self, true_and, and_true, if_true, Bool.false_eq_true, if_false, Bool.not_true, Bool.not_false, id_eq, sl0, sl1, sl2, sl3, sl4, upd_upd]
          exact key _ _ _ (fun H6 rx raw z1 z2 => fin H6 rx raw _ z1 z2) (But.at _ _ _) ⟨o9, upd_same, so9⟩ ⟨⟨by show 0 ≤ 0 + (i : Int); omega, by show 0 + (i : Int) < 0 + (i : Int) + 1 + j; omega, hjj⟩, by show 0 ≤ 1 + d5; omega, by show 2 ≤ nth hs (0 + (i : Int)) + nth hs (0 + (i : Int) + 1 + j); omega, fun _ => c3'⟩
        · exact key _ _ _ (fun H6 rx raw z1 z2 => fin H6 rx raw _ z1 z2) (But.at _ _ _) ⟨o8, upd_same, so8⟩ ⟨⟨by show 0 ≤ 0 + (i : Int); omega, by show 0 + (i : Int) < 0 + (i : Int) + 1 + j; omega, hjj⟩, by show (0 : Int) ≤ 0; omega, by show 2 ≤ nth hs (0 + (i : Int)) + nth hs (0 + (i : Int) + 1 + j); omega, fun _ => c3'⟩
      · exact key _ _ _ (fun H6 rx raw z1 z2 => fin H6 rx raw _ z1 z2) (But.at _ _ _) ⟨o7, upd_same, so7⟩ ⟨⟨by show 0 ≤ 0 + (i : Int); omega, by show 0 + (i : Int) < 0 + (i : Int) + 1 + j; omega, hjj⟩, by show (0 : Int) ≤ 0; omega, by show 2 ≤ nth hs (0 + (i : Int)) + nth hs (0 + (i : Int) + 1 + j); omega, fun z => absurd z (by show ¬ (0 : Int) < 0; omega)⟩
    · rintro σ H4 ⟨w2, w3, rx, raw, rfl, b5, z5, er5, pr5, gr5, lr5⟩
      exact ⟨_, _, _, rx, raw, rfl, b5, z5, er5, pr5, gr5, by omega⟩
  rintro σ H3 ⟨w1, w2, w3, rx, raw, rfl, b4, ⟨o5, e4, so5⟩, er, pr, gr, lr⟩
  try simp only [tSeq, tNext, tDrop, tRet, tRetN, tIfS, tAsg, gName, fAug, tOp, tUn, tC, fVar, fI, fIC, fNeg, fEq, fNe, fIsN, isNon, fAnd, fOr, fNot, fB, tNot, tAnd, tOr, fChain, fIx, fLen, fListOf, fMin, fMax, fInL, fSlL, tSl, fPart, tNoPart, fAppend, fBM, fSetL, gSub, fGNil, fGCons, fGTup, fGLst, fDGet2, sDPutF, tDNewK, fCat, fClear, fBM0, fSlT, fInt1, tCBK, fDIn, fDGet, fIsi, fBools, fDictL, fLtT, tCall, tCB, tCons, tNil, tTup, tLst, tIf, tTrue, Kd.nm, L2.start, List.map_cons, List.map_nil, List.length_cons, List.length_nil, Nat.reduceAdd, Nat.reduceSub, List.replicate_succ, List.replicate_zero, List.getElem?_cons_zero, List.getElem?_cons_succ, List.set_cons_zero, List.set_cons_succ, List.append_nil, List.nil_append, List.cons_append, eq_self, true_and, and_true, if_true, Bool.false_eq_true, if_false, Bool.not_true, Bool.not_false, id_eq, sl0, sl1, sl2, sl3, sl4]
  refine ⟨st, hl, ra, o5, hs, rx, raw, rfl, e4, so5, b4 _ _ nhl eh, er, pr, ⟨fun r hr => (gr r hr).1, fun r hr => (gr r hr).2.1, fun r hr => (gr r hr).2.2.1, fun r hr => (gr r hr).2.2.2, by omega, hhs, ah⟩, fun t wv hv' da dx ps ts ds hv H4 o6 b5 e5 so6 et w5 ed pd pap => ?_⟩
  exact h t wv hv' da dx ps ts ds hv H4 o6 (((b2.trans b3).trans b4).trans b5) e5 so6 et w5 ed pd pap
end
end My

set_option Elab.async false
set_option linter.all false
set_option maxRecDepth 100000
set_option maxHeartbeats 4000000
namespace My
open PySem L2
section
variable {P : Program} {w : World} {K : PySem.W.Frag} {mg : Str → Option Value} {base : Heap} {c1 c2 c3 c4 : Tok}
theorem paired_take {α β : Type} {F : α → β → Prop} : ∀ (n : Nat) {xs : List α} {ys : List β}, Paired F xs ys → Paired F (xs.take n) (ys.take n)
  | 0, _, _, _ => .nil
  | _ + 1, _, _, .nil => .nil
  | n + 1, _, _, .cons r t => .cons r (paired_take n t)
theorem paired_drop {α β : Type} {F : α → β → Prop} : ∀ (n : Nat) {xs : List α} {ys : List β}, Paired F xs ys → Paired F (xs.drop n) (ys.drop n)
  | 0, _, _, h => h
  | _ + 1, _, _, .nil => .nil
  | n + 1, _, _, .cons _ t => paired_drop n t
theorem paired_app {α β : Type} {F : α → β → Prop} : ∀ {xs xs' : List α} {ys ys' : List β}, Paired F xs ys → Paired F xs' ys' → Paired F (xs ++ xs') (ys ++ ys')
  | _, _, _, _, .nil, h => h
  | _, _, _, _, .cons r t, h => .cons r (paired_app t h)
theorem cut_links {H : Hp} {xs : List V} {ls : List (Str × List Int)} (h : Lks H xs ls) (lo hi : Option Int) : ∃ ms, Lks H (cutV xs lo hi) ms ∧ (∀ l ∈ ms, l ∈ ls) ∧ ms.length ≤ ls.length := by
  unfold cutV
  refine ⟨_, paired_take _ (paired_drop _ h), fun l hl => List.mem_of_mem_drop (List.mem_of_mem_take hl), ?_⟩
  rw [List.length_take, List.length_drop]
  omega
theorem inV_non (ns : List Int) : inV .non (ns.map V.int) = false := by
  unfold inV
  induction ns with
  | nil => rfl
  | cons n r ih => rw [List.map_cons, List.any_cons, ih]; rfl
def twoD (ms ns : List Int) : Dt := .tup [.lst (ms.map Dt.int), .lst (ns.map Dt.int)]
theorem two_rep {H : Hp} {t a b : Addr} {ms ns : List Int} (et : H t = some (.tup [.ref a, .ref b])) (ea : H a = some (.lst (ms.map V.int))) (eb : H b = some (.lst (ns.map V.int))) : Rep H (twoD ms ns) (.ref t) := by
  rw [twoD, Rep]
  refine ⟨t, _, rfl, et, ?_⟩
  rw [Reps]
  refine ⟨_, _, rfl, ?_, ?_⟩
  · rw [Rep]; exact ⟨a, _, rfl, ea, ints_reps _⟩
  · rw [Reps]
    refine ⟨_, _, rfl, ?_, (by rw [Reps])⟩
    rw [Rep]; exact ⟨b, _, rfl, eb, ints_reps _⟩
theorem two_dep (ms ns : List Int) : depP (twoD ms ns) ≤ 20 := by
  simp [twoD, depP, depPs, dep_ints]
theorem lst_rep {H : Hp} {c : Addr} {xs : List V} {ls : List (Str × List Int)} (e : H c = some (.lst xs)) (p : Lks H xs ls) : Rep H (.lst (ls.map linkD)) (.ref c) := by
  rw [Rep]
  exact ⟨c, xs, rfl, e, Lks.reps p⟩
theorem nil_rep {H : Hp} {c : Addr} (e : H c = some (.lst [])) : Rep H (.lst []) (.ref c) := by
  rw [Rep]
  exact ⟨c, [], rfl, e, by rw [Reps]⟩
theorem dep_nil : depP (.lst []) ≤ 20 := by simp [depP, depPs]
theorem nodup_len : ∀ {ms xs : List Int}, ms.Nodup → (∀ x ∈ ms, x ∈ xs) → ms.length ≤ xs.length
  | [], _, _, _ => Nat.zero_le _
  | m :: ms, xs, h, hs => by
    rw [List.nodup_cons] at h
    have ih := nodup_len (ms := ms) (xs := xs.erase m) h.2 (fun x hx => by
      have hne : x ≠ m := fun e => h.1 (e ▸ hx)
      exact (List.mem_erase_of_ne hne).mpr (hs x (List.mem_cons_of_mem _ hx)))
    have hm := hs m (List.mem_cons_self ..)
    rw [List.length_erase_of_mem hm] at ih
    have hp : 0 < xs.length := List.length_pos_of_mem hm
    rw [List.length_cons]
    omega
def spLaw (K : PySem.W.Frag) : Sp := fun vs H Q _ => ∃ a ns, vs = [.ref a] ∧ Scr K H a ns ∧ ∀ H', Q (.bl true) H'
theorem ok_law {f : Addr} {fd : FuncData} {f_law_begun : Addr} {d_law_begun : FuncData} {f_law_take : Addr} {d_law_take : FuncData} {f_law_laid : Addr} {d_law_laid : FuncData} {f_law_chain : Addr} {d_law_chain : FuncData} {f_fixed_by : Addr} {d_fixed_by : FuncData} {f_law_due : Addr} {d_law_due : FuncData} (B : Blt mg) (D : DefAt K mg "law" (top 12) ["_law_script"] f fd) (D_law_begun : DefAt K mg "_law_begun" (top 5) ["_law_script", "_law_k"] f_law_begun d_law_begun) (G_law_begun : FnOk P w K mg base CX0 1 f_law_begun d_law_begun ["_law_script", "_law_k"] (spBegun K)) (D_law_take : DefAt K mg "_law_take" (top 6) ["_law_state", "_law_many"] f_law_take d_law_take) (G_law_take : FnOk P w K mg base CX0 1 f_law_take d_law_take ["_law_state", "_law_many"] spTake) (D_law_laid : DefAt K mg "_law_laid" (top 8) ["_law_state", "_law_most"] f_law_laid d_law_laid) (G_law_laid : FnOk P w K mg base CX0 3 f_law_laid d_law_laid ["_law_state", "_law_most"] spLaid) (D_law_chain : DefAt K mg "_law_chain" (top 10) ["_law_state", "_law_web", "_law_dues", "_law_most"] f_law_chain d_law_chain) (G_law_chain : FnOk P w K mg base CX0 3 f_law_chain d_law_chain ["_law_state", "_law_web", "_law_dues", "_law_most"] spChain) (D_fixed_by : DefAt K mg "fixed_by" (top 3) ["chain"] f_fixed_by d_fixed_by) (G_fixed_by : FnOk P w K mg base CX0 2 f_fixed_by d_fixed_by ["chain"] spFixedBy) (D_law_due : DefAt K mg "_law_due" (top 11) ["_law_chain_here"] f_law_due d_law_due) (G_law_due : FnOk P w K mg base CX0 2 f_law_due d_law_due ["_law_chain_here"] spFixedBy) : FnOk P w K mg base CX0 6 f fd ["_law_script"] (spLaw K) := by
  have sc : FnScope ["_law_script", "_law_k", "_law_state", "_law_web", "_law_halves", "_law_dues", "_law_chain_here", "_law_some", "_law_handed", "_law_found"] ["_law_script"] (defScope (top 12)) := ⟨rfl, rfl, rfl, by decide +kernel, rfl, by decide +kernel, by decide +kernel⟩
  refine D.F.ok sc (fun vs H Q E h => ?_) (fun cdv A outer s H vs Q E hr h => ?_)
  · obtain ⟨a, ns, rfl, _⟩ := h
    rfl
  obtain ⟨a, ns, rfl, hs, h⟩ := h
  have hu := hu_of hr
  have hu0 : _ < PySem.cLine := Nat.lt_of_succ_lt hu
  refine ⟨_, (pss_cons (ps_for PassesOwn.never rfl (pi_range1 rfl B.range (pa_cons (pe_callB (q_max rfl) rfl B.max PyProof.Rows.boot_max (pa_cons pe_int (pa_cons (pe_callB (q_min rfl) rfl B.min PyProof.Rows.boot_min (pa_cons (pe_callB call_len_seq rfl B.len PySem.boot_len (pa_cons (qv 0) pa_nil)) (pa_cons pe_int pa_nil))) pa_nil))) pa_nil)) (pg_name (i := 1) sc.nd rfl (Or.inl rfl)) (pss_cons (ps_set (i := 2) sc.nd rfl (Or.inl rfl) (pe_call G_law_begun (hr.mono (by decide)) rfl D_law_begun.m D_law_begun.F.kp D_law_begun.b .nil pass0 (pa_cons (qv 0) (pa_cons (qv 1) pa_nil)))) (pss_cons (ps_asg (pe_call G_law_laid (hr.mono (by decide)) rfl D_law_laid.m D_law_laid.F.kp D_law_laid.b .nil pass0 (pa_cons (qv 2) (pa_cons pe_int pa_nil))) (qg_tup (n := 3) rfl (qgs_cons (pg_name (i := 3) sc.nd rfl (Or.inl rfl)) (qgs_cons (pg_name (i := 4) sc.nd rfl (Or.inl rfl)) (qgs_cons (pg_name (i := 5) sc.nd rfl (Or.inl rfl)) qgs_nil))))) (pss_cons (ps_set (i := 6) sc.nd rfl (Or.inl rfl) (pe_call G_law_chain (hr.mono (by decide)) rfl D_law_chain.m D_law_chain.F.kp D_law_chain.b .nil pass0 (pa_cons (qv 2) (pa_cons (qv 3) (pa_cons (qv 5) (pa_cons pe_int pa_nil)))))) (pss_one (ps_for PassesOwn.never rfl (pi_list (pe_lst (pa_cons (qv 6) (pa_cons (pe_op q_cat (qv 6) (pe_slice q_slL (qv 6) po_none (qo_some (pe_call G_law_take (hr.mono (by decide)) rfl D_law_take.m D_law_take.F.kp D_law_take.b .nil pass0 (pa_cons (qv 2) (pa_cons pe_int pa_nil)))))) pa_nil)))) (pg_name (i := 7) sc.nd rfl (Or.inl rfl)) (pss_cons (ps_set (i := 8) sc.nd rfl (Or.inl rfl) (pe_callTy q_listOf rfl B.list PyProof.Rows.boot_list (pa_cons (qv 7) pa_nil))) (pss_cons (ps_set (i := 9) sc.nd rfl (Or.inr rfl) (pe_call G_fixed_by (hr.mono (by decide)) rfl D_fixed_by.m D_fixed_by.F.kp D_fixed_by.b .nil pass0 (pa_cons (qv 8) pa_nil))) (pss_cons (ps_if (PW.pt (pw_or (pt_not (qt_val (pe_callB (q_isi .tup) rfl B.isinstance PyProof.Rows.boot_isinstance (pa_cons (qv 9) (pa_cons (pe_bltn (v := .ty "tuple") rfl B.tuple PyProof.Rows.boot_tuple rfl) pa_nil))))) (pw_or (qt_cmp q_ne (pe_callB q_len rfl B.len PySem.boot_len (pa_cons (qv 9) pa_nil)) pe_int (nomark _)) (pw_or1 (qt_cmp (op_neD hr.units) (qv 8) (qv 7) (nomark _)))))) (pss_one (ps_ret pe_bl)) pss_nil) (pss_cons (ps_if (qt_cmp (op_neD hr.units) (qv 9) (pe_call G_law_due (hr.mono (by decide)) rfl D_law_due.m D_law_due.F.kp D_law_due.b .nil pass0 (pa_cons (qv 7) pa_nil)) (nomark _)) (pss_one (ps_ret pe_bl)) pss_nil) (pss_cons (ps_if (qt_cmp (op_neD hr.units) (pe_comp (CpScope.of (N := ["_law_place", "_law_found"]) (src := [none, some 9]) (by rfl)) rfl (pi_list (pe_ix q_ix (qv 9) pe_int (fun _ _ => rfl))) (fun _ _ _ _ => (pg_name (i := 0) (nodupB_ok (l := ["_law_place", "_law_found"]) (by rfl)) rfl (Or.inl rfl))) (fun _ _ _ _ => (pif_one (qt_cmp q_inL (qv 0) (pe_ix q_ix (qv 1) pe_int (fun _ _ => rfl)) (by with_unfolding_all rfl)))) (fun _ _ _ _ => (qv 0))) (pe_lst pa_nil) (nomark _)) (pss_one (ps_ret pe_bl)) pss_nil) (pss_cons (ps_expr (q_bm PySem.F.plainAttrs_list PySem.F.slot_list_append PySem.F.type_list_append q_append (pe_ix q_ix (qv 9) pe_int (fun _ _ => rfl)) (pa_cons pe_non pa_nil))) (pss_cons (ps_if (qt_cmp q_inL pe_non (pe_ix q_ix (qv 9) pe_int (fun _ _ => rfl)) (by with_unfolding_all rfl)) (pss_one (ps_ret pe_bl)) pss_nil) (pss_cons (ps_expr (q_bm0 PySem.F.plainAttrs_list PySem.F.slot_list_clear PySem.F.type_list_clear q_clear (qv 8))) (pss_cons (ps_expr (q_bm0 PySem.F.plainAttrs_list PySem.F.slot_list_clear PySem.F.type_list_clear q_clear (pe_ix q_ix (qv 9) pe_int (fun _ _ => rfl)))) (pss_one (ps_if (qt_cmp (op_neD hr.units) (pe_call G_fixed_by (hr.mono (by decide)) rfl D_fixed_by.m D_fixed_by.F.kp D_fixed_by.b .nil pass0 (pa_cons (qv 7) pa_nil)) (pe_call G_law_due (hr.mono (by decide)) rfl D_law_due.m D_law_due.F.kp D_law_due.b .nil pass0 (pa_cons (qv 7) pa_nil)) (nomark _)) (pss_one (ps_ret pe_bl)) pss_nil))))))))))))))))) (pss_one (ps_ret (pe_cmpR (op_eqD hr.units) (pe_call G_fixed_by (hr.mono (by decide)) rfl D_fixed_by.m D_fixed_by.F.kp D_fixed_by.b .nil pass0 (pa_cons (pe_lst pa_nil) pa_nil)) (pe_tup (pa_cons (pe_lst pa_nil) (pa_cons (pe_lst pa_nil) pa_nil))) (nomark _))))), ?_⟩
  try simp only [tSeq, tNext, tDrop, tRet, tRetN, tIfS, tAsg, gName, fAug, tOp, tUn, tC, fVar, fI, fIC, fNeg, fEq, fNe, fIsN, isNon, fAnd, fOr, fNot, fB, tNot, tAnd, tOr, fChain, fIx, fLen, fListOf, fMin, fMax, fInL, fSlL, tSl, fPart, tNoPart, fAppend, fBM, fSetL, gSub, fGNil, fGCons, fGTup, fGLst, fDGet2, sDPutF, tDNewK, fCat, fClear, fBM0, fSlT, fInt1, tCBK, fDIn, fDGet, fIsi, fBools, fDictL, fLtT, tCall, tCB, tCons, tNil, tTup, tLst, tIf, tTrue, Kd.nm, L2.start, List.map_cons, List.map_nil, List.length_cons, List.length_nil, Nat.reduceAdd, Nat.reduceSub, List.replicate_succ, List.replicate_zero, List.getElem?_cons_zero, List.getElem?_cons_succ, List.set_cons_zero, List.set_cons_succ, List.append_nil, List.nil_append, List.cons_append, eq_self, true_and, and_true, if_true, Bool.false_eq_true, if_false, Bool.not_true, Bool.not_false, id_eq, sl0, sl1, sl2, sl3, sl4]
  refine tFor_hide (Itr 0 (if (1 : Int) < (if (20 : Int) < (ns.length : Int) then 20 else (ns.length : Int)) then (if (20 : Int) < (ns.length : Int) then 20 else (ns.length : Int)) else 1).toNat) H (fun R hR => ?_) (for_range (n := (if (1 : Int) < (if (20 : Int) < (ns.length : Int) then 20 else (ns.length : Int)) then (if (20 : Int) < (ns.length : Int) then 20 else (ns.length : Int)) else 1).toNat) (fun i σ H1 => ∃ v1 v2 v3 v4 v5 v6 v7 v8 v9, σ = [some (.ref a), v1, v2, v3, v4, v5, v6, v7, v8, v9] ∧ Scr K H1 a ns) ⟨none, none, none, none, none, none, none, none, none, rfl, hs⟩ ?_ ?_)
  · unfold iRng1
    try simp only [tSeq, tNext, tDrop, tRet, tRetN, tIfS, tAsg, gName, fAug, tOp, tUn, tC, fVar, fI, fIC, fNeg, fEq, fNe, fIsN, isNon, fAnd, fOr, fNot, fB, tNot, tAnd, tOr, fChain, fIx, fLen, fListOf, fMin, fMax, fInL, fSlL, tSl, fPart, tNoPart, fAppend, fBM, fSetL, gSub, fGNil, fGCons, fGTup, fGLst, fDGet2, sDPutF, tDNewK, fCat, fClear, fBM0, fSlT, fInt1, tCBK, fDIn, fDGet, fIsi, fBools, fDictL, fLtT, tCall, tCB, tCons, tNil, tTup, tLst, tIf, tTrue, Kd.nm, L2.start, List.map_cons, List.map_nil, List.length_cons, List.length_nil, Nat.reduceAdd, Nat.reduceSub, List.replicate_succ, List.replicate_zero, List.getElem?_cons_zero, List.getElem?_cons_succ, List.set_cons_zero, List.set_cons_succ, List.append_nil, List.nil_append, List.cons_append, eq_self, true_and, and_true, if_true, Bool.false_eq_true, if_false, Bool.not_true, Bool.not_false, id_eq, sl0, sl1, sl2, sl3, sl4]
    refine ⟨a, _, rfl, .inl hs.sq, ?_⟩
    try simp only [tSeq, tNext, tDrop, tRet, tRetN, tIfS, tAsg, gName, fAug, tOp, tUn, tC, fVar, fI, fIC, fNeg, fEq, fNe, fIsN, isNon, fAnd, fOr, fNot, fB, tNot, tAnd, tOr, fChain, fIx, fLen, fListOf, fMin, fMax, fInL, fSlL, tSl, fPart, tNoPart, fAppend, fBM, fSetL, gSub, fGNil, fGCons, fGTup, fGLst, fDGet2, sDPutF, tDNewK, fCat, fClear, fBM0, fSlT, fInt1, tCBK, fDIn, fDGet, fIsi, fBools, fDictL, fLtT, tCall, tCB, tCons, tNil, tTup, tLst, tIf, tTrue, Kd.nm, L2.start, List.map_cons, List.map_nil, List.length_cons, List.length_nil, Nat.reduceAdd, Nat.reduceSub, List.replicate_succ, List.replicate_zero, List.getElem?_cons_zero, List.getElem?_cons_succ, List.set_cons_zero, List.set_cons_succ, List.append_nil, List.nil_append, List.cons_append, eq_self, true_and, and_true, if_true, Bool.false_eq_true, if_false, Bool.not_true, Bool.not_false, id_eq, sl0, sl1, sl2, sl3, sl4, List.length_map]
    refine ⟨_, rfl, ?_, ?_, hR⟩
    · split <;> split <;> omega
    · split <;> split <;> omega
  · rintro i σ H1 hi ⟨v1, v2, v3, v4, v5, v6, v7, v8, v9, rfl, hs1⟩
    have hi2 : i < 1000 := by split at hi <;> split at hi <;> omega
    try simp only [tSeq, tNext, tDrop, tRet, tRetN, tIfS, tAsg, gName, fAug, tOp, tUn, tC, fVar, fI, fIC, fNeg, fEq, fNe, fIsN, isNon, fAnd, fOr, fNot, fB, tNot, tAnd, tOr, fChain, fIx, fLen, fListOf, fMin, fMax, fInL, fSlL, tSl, fPart, tNoPart, fAppend, fBM, fSetL, gSub, fGNil, fGCons, fGTup, fGLst, fDGet2, sDPutF, tDNewK, fCat, fClear, fBM0, fSlT, fInt1, tCBK, fDIn, fDGet, fIsi, fBools, fDictL, fLtT, tCall, tCB, tCons, tNil, tTup, tLst, tIf, tTrue, Kd.nm, L2.start, List.map_cons, List.map_nil, List.length_cons, List.length_nil, Nat.reduceAdd, Nat.reduceSub, List.replicate_succ, List.replicate_zero, List.getElem?_cons_zero, List.getElem?_cons_succ, List.set_cons_zero, List.set_cons_succ, List.append_nil, List.nil_append, List.cons_append, eq_self, true_and, and_true, if_true, Bool.false_eq_true, if_false, Bool.not_true, Bool.not_false, id_eq, sl0, sl1, sl2, sl3, sl4]
    refine ⟨a, 0 + (i : Int), ns, rfl, hs1, by omega, by omega, fun st o hst so => ?_⟩
    have hs2 := hs1.tups (tups_new (o := o) hst)
    try simp only [tSeq, tNext, tDrop, tRet, tRetN, tIfS, tAsg, gName, fAug, tOp, tUn, tC, fVar, fI, fIC, fNeg, fEq, fNe, fIsN, isNon, fAnd, fOr, fNot, fB, tNot, tAnd, tOr, fChain, fIx, fLen, fListOf, fMin, fMax, fInL, fSlL, tSl, fPart, tNoPart, fAppend, fBM, fSetL, gSub, fGNil, fGCons, fGTup, fGLst, fDGet2, sDPutF, tDNewK, fCat, fClear, fBM0, fSlT, fInt1, tCBK, fDIn, fDGet, fIsi, fBools, fDictL, fLtT, tCall, tCB, tCons, tNil, tTup, tLst, tIf, tTrue, Kd.nm, L2.start, List.map_cons, List.map_nil, List.length_cons, List.length_nil, Nat.reduceAdd, Nat.reduceSub, List.replicate_succ, List.replicate_zero, List.getElem?_cons_zero, List.getElem?_cons_succ, List.set_cons_zero, List.set_cons_succ, List.append_nil, List.nil_append, List.cons_append, eq_self, true_and, and_true, if_true, Bool.false_eq_true, if_false, Bool.not_true, Bool.not_false, id_eq, sl0, sl1, sl2, sl3, sl4]
    refine ⟨st, o, rfl, upd_same, so, fun t wv hl da dx ps ts ds hv H2 o2 b2 e2 so2 et w2 ed pd pap => ?_⟩
    have hs3 := hs2.tups (b2.tups upd_same so.imm)
    clear hs1 hs2 b2
    try simp only [tSeq, tNext, tDrop, tRet, tRetN, tIfS, tAsg, gName, fAug, tOp, tUn, tC, fVar, fI, fIC, fNeg, fEq, fNe, fIsN, isNon, fAnd, fOr, fNot, fB, tNot, tAnd, tOr, fChain, fIx, fLen, fListOf, fMin, fMax, fInL, fSlL, tSl, fPart, tNoPart, fAppend, fBM, fSetL, gSub, fGNil, fGCons, fGTup, fGLst, fDGet2, sDPutF, tDNewK, fCat, fClear, fBM0, fSlT, fInt1, tCBK, fDIn, fDGet, fIsi, fBools, fDictL, fLtT, tCall, tCB, tCons, tNil, tTup, tLst, tIf, tTrue, Kd.nm, L2.start, List.map_cons, List.map_nil, List.length_cons, List.length_nil, Nat.reduceAdd, Nat.reduceSub, List.replicate_succ, List.replicate_zero, List.getElem?_cons_zero, List.getElem?_cons_succ, List.set_cons_zero, List.set_cons_succ, List.append_nil, List.nil_append, List.cons_append, eq_self, true_and, and_true, if_true, Bool.false_eq_true, if_false, Bool.not_true, Bool.not_false, id_eq, sl0, sl1, sl2, sl3, sl4, et]
    refine ⟨st, o2, wv, da, 30, dx, ps, ts, ds, hv, rfl, e2, so2, by decide, by decide, w2, ed, pd, pap, fun c ys ms H3 o3 b3 hc e3 so3 ec pc gc lc => ?_⟩
    have hs4 := hs3.tups (b3.tups e2 so2.imm)
    clear hs3 b3 e2 so2 et w2 ed pd pap hc
    have nc : c ≠ st := ne_st e3 so3 ec (lks_refs pc)
    try simp only [tSeq, tNext, tDrop, tRet, tRetN, tIfS, tAsg, gName, fAug, tOp, tUn, tC, fVar, fI, fIC, fNeg, fEq, fNe, fIsN, isNon, fAnd, fOr, fNot, fB, tNot, tAnd, tOr, fChain, fIx, fLen, fListOf, fMin, fMax, fInL, fSlL, tSl, fPart, tNoPart, fAppend, fBM, fSetL, gSub, fGNil, fGCons, fGTup, fGLst, fDGet2, sDPutF, tDNewK, fCat, fClear, fBM0, fSlT, fInt1, tCBK, fDIn, fDGet, fIsi, fBools, fDictL, fLtT, tCall, tCB, tCons, tNil, tTup, tLst, tIf, tTrue, Kd.nm, L2.start, List.map_cons, List.map_nil, List.length_cons, List.length_nil, Nat.reduceAdd, Nat.reduceSub, List.replicate_succ, List.replicate_zero, List.getElem?_cons_zero, List.getElem?_cons_succ, List.set_cons_zero, List.set_cons_succ, List.append_nil, List.nil_append, List.cons_append, eq_self, true_and, and_true, if_true, Bool.false_eq_true, if_false, Bool.not_true, Bool.not_false, id_eq, sl0, sl1, sl2, sl3, sl4]
    refine tFor_hideI (ι := Addr × Addr × Hp) (fun i => Itl K i.1) (fun i => i.2.2) (fun i => ∃ zs ls, Scr K i.2.2 a ns ∧ i.2.2 i.1 = some (.lst [.ref c, .ref i.2.1]) ∧ i.2.2 c = some (.lst ys) ∧ Lks i.2.2 ys ms ∧ i.2.2 i.2.1 = some (.lst zs) ∧ Lks i.2.2 zs ls ∧ (∀ l ∈ ls, GoodL hv l) ∧ ls.length ≤ 60) (fun R hR => ?_) (fun i0 ok0 => ?_)
    · unfold iList
      try simp only [tSeq, tNext, tDrop, tRet, tRetN, tIfS, tAsg, gName, fAug, tOp, tUn, tC, fVar, fI, fIC, fNeg, fEq, fNe, fIsN, isNon, fAnd, fOr, fNot, fB, tNot, tAnd, tOr, fChain, fIx, fLen, fListOf, fMin, fMax, fInL, fSlL, tSl, fPart, tNoPart, fAppend, fBM, fSetL, gSub, fGNil, fGCons, fGTup, fGLst, fDGet2, sDPutF, tDNewK, fCat, fClear, fBM0, fSlT, fInt1, tCBK, fDIn, fDGet, fIsi, fBools, fDictL, fLtT, tCall, tCB, tCons, tNil, tTup, tLst, tIf, tTrue, Kd.nm, L2.start, List.map_cons, List.map_nil, List.length_cons, List.length_nil, Nat.reduceAdd, Nat.reduceSub, List.replicate_succ, List.replicate_zero, List.getElem?_cons_zero, List.getElem?_cons_succ, List.set_cons_zero, List.set_cons_succ, List.append_nil, List.nil_append, List.cons_append, eq_self, true_and, and_true, if_true, Bool.false_eq_true, if_false, Bool.not_true, Bool.not_false, id_eq, sl0, sl1, sl2, sl3, sl4]
      refine ⟨st, o3, 9, rfl, e3, so3, by decide, by decide, fun d o4 d0 d1 so4 => ?_⟩
      have ec4 : upd H3 st o4 c = some (.lst ys) := by rw [upd_ne nc]; exact ec
      have t4 : TupS H3 (upd H3 st o4) := (But.at st H3 o4).tups e3 so3.imm
      have pc4 := Lks.tups t4 pc
      have hs5 := hs4.tups t4
      generalize upd H3 st o4 = H4 at ec4 pc4 hs5
      try simp only [tSeq, tNext, tDrop, tRet, tRetN, tIfS, tAsg, gName, fAug, tOp, tUn, tC, fVar, fI, fIC, fNeg, fEq, fNe, fIsN, isNon, fAnd, fOr, fNot, fB, tNot, tAnd, tOr, fChain, fIx, fLen, fListOf, fMin, fMax, fInL, fSlL, tSl, fPart, tNoPart, fAppend, fBM, fSetL, gSub, fGNil, fGCons, fGTup, fGLst, fDGet2, sDPutF, tDNewK, fCat, fClear, fBM0, fSlT, fInt1, tCBK, fDIn, fDGet, fIsi, fBools, fDictL, fLtT, tCall, tCB, tCons, tNil, tTup, tLst, tIf, tTrue, Kd.nm, L2.start, List.map_cons, List.map_nil, List.length_cons, List.length_nil, Nat.reduceAdd, Nat.reduceSub, List.replicate_succ, List.replicate_zero, List.getElem?_cons_zero, List.getElem?_cons_succ, List.set_cons_zero, List.set_cons_succ, List.append_nil, List.nil_append, List.cons_append, eq_self, true_and, and_true, if_true, Bool.false_eq_true, if_false, Bool.not_true, Bool.not_false, id_eq, sl0, sl1, sl2, sl3, sl4, ec4]
      intro p1 hp1
      obtain ⟨ls, pls, sub, lls⟩ := cut_links pc4 none (some d)
      have s1 := same_new hp1 (.lst (cutV ys none (some d)))
      have ec5 := s1 _ _ ec4
      have ep5 : upd H4 p1 (.lst (cutV ys none (some d))) p1 = some (.lst (cutV ys none (some d))) := upd_same
      generalize upd H4 p1 (.lst (cutV ys none (some d))) = H5 at s1 ec5 ep5
      try simp only [tSeq, tNext, tDrop, tRet, tRetN, tIfS, tAsg, gName, fAug, tOp, tUn, tC, fVar, fI, fIC, fNeg, fEq, fNe, fIsN, isNon, fAnd, fOr, fNot, fB, tNot, tAnd, tOr, fChain, fIx, fLen, fListOf, fMin, fMax, fInL, fSlL, tSl, fPart, tNoPart, fAppend, fBM, fSetL, gSub, fGNil, fGCons, fGTup, fGLst, fDGet2, sDPutF, tDNewK, fCat, fClear, fBM0, fSlT, fInt1, tCBK, fDIn, fDGet, fIsi, fBools, fDictL, fLtT, tCall, tCB, tCons, tNil, tTup, tLst, tIf, tTrue, Kd.nm, L2.start, List.map_cons, List.map_nil, List.length_cons, List.length_nil, Nat.reduceAdd, Nat.reduceSub, List.replicate_succ, List.replicate_zero, List.getElem?_cons_zero, List.getElem?_cons_succ, List.set_cons_zero, List.set_cons_succ, List.append_nil, List.nil_append, List.cons_append, eq_self, true_and, and_true, if_true, Bool.false_eq_true, if_false, Bool.not_true, Bool.not_false, id_eq, sl0, sl1, sl2, sl3, sl4, ec5, ep5]
      have l1 := Paired.length pc
      have l2 := Paired.length pls
      refine ⟨szl (by omega), fun p2 hp2 p3 hp3 => ?_⟩
      have s2 := same_new hp2 (.lst (ys ++ cutV ys none (some d)))
      have s3 := same_new hp3 (.lst [.ref c, .ref p2])
      have s123 := s1.trans (s2.trans s3)
      refine ⟨p3, rfl, ⟨_, SqL.of upd_same⟩, hR (p3, p2, _) ⟨ys ++ cutV ys none (some d), ms ++ ls, hs5.tups s123.tups, upd_same, s123 _ _ ec4, Lks.tups s123.tups pc4, s3 _ _ upd_same, Lks.tups s123.tups (paired_app pc4 pls), fun l hl => ?_, by rw [List.length_append]; omega⟩⟩
      rcases List.mem_append.mp hl with z | z
      · exact gc l z
      · exact gc l (sub l z)
    obtain ⟨l0, c2, Hn⟩ := i0
    obtain ⟨zs, ls, hsn, el0, ecn, pcn, ec2, pc2, gc2, lc2⟩ := ok0
    dsimp only at hsn el0 ecn pcn ec2 pc2
    clear hs4 e3 so3 ec pc nc
    refine for_list (K := K) (a := l0) (xs := [.ref c, .ref c2]) (fun j σ H5 => ∃ v7 v8 v9, σ = [some (.ref a), some (.int (0 + (i : Int))), some (.ref st), some wv, some hl, some (.ref da), some (.ref c), v7, v8, v9] ∧ Same Hn H5) ⟨_, _, _, rfl, Same.refl _⟩ (fun j σ H5 _ ⟨_, _, _, _, s⟩ => SqL.of (s _ _ el0)) ?_ ?_
    · rintro j y σ H5 hj ⟨v7, v8, v9, rfl, s5⟩
      obtain ⟨cc, xs, lk, rfl, ecc, pcc, gcc, lcc⟩ : ∃ cc xs lk, y = .ref cc ∧ H5 cc = some (.lst xs) ∧ Lks H5 xs lk ∧ (∀ l ∈ lk, GoodL hv l) ∧ lk.length ≤ 60 := by
        have hm := List.mem_of_getElem? hj
        simp at hm
        rcases hm with z | z
        · exact ⟨c, ys, ms, z, s5 _ _ ecn, Lks.tups s5.tups pcn, gc, by omega⟩
        · exact ⟨c2, zs, ls, z, s5 _ _ ec2, Lks.tups s5.tups pc2, gc2, lc2⟩
      have okl : ∀ l ∈ lk, OkL l := fun l hl => (gcc l hl).1
      try simp only [tSeq, tNext, tDrop, tRet, tRetN, tIfS, tAsg, gName, fAug, tOp, tUn, tC, fVar, fI, fIC, fNeg, fEq, fNe, fIsN, isNon, fAnd, fOr, fNot, fB, tNot, tAnd, tOr, fChain, fIx, fLen, fListOf, fMin, fMax, fInL, fSlL, tSl, fPart, tNoPart, fAppend, fBM, fSetL, gSub, fGNil, fGCons, fGTup, fGLst, fDGet2, sDPutF, tDNewK, fCat, fClear, fBM0, fSlT, fInt1, tCBK, fDIn, fDGet, fIsi, fBools, fDictL, fLtT, tCall, tCB, tCons, tNil, tTup, tLst, tIf, tTrue, Kd.nm, L2.start, List.map_cons, List.map_nil, List.length_cons, List.length_nil, Nat.reduceAdd, Nat.reduceSub, List.replicate_succ, List.replicate_zero, List.getElem?_cons_zero, List.getElem?_cons_succ, List.set_cons_zero, List.set_cons_succ, List.append_nil, List.nil_append, List.cons_append, eq_self, true_and, and_true, if_true, Bool.false_eq_true, if_false, Bool.not_true, Bool.not_false, id_eq, sl0, sl1, sl2, sl3, sl4, seqOf, ecc]
      intro h0 hh0
      have s6 := same_new hh0 (.lst xs)
      have eh0 : upd H5 h0 (.lst xs) h0 = some (.lst xs) := upd_same
      have ecc6 := s6 _ _ ecc
      have pcc6 := Lks.tups s6.tups pcc
      generalize upd H5 h0 (.lst xs) = H6 at s6 eh0 ecc6 pcc6
      refine ⟨h0, xs, lk, rfl, eh0, pcc6, okl, lcc, fun t2 fa fb m1 n1 H7 s7 hfa hfb hab et2 efa efb so1 so2' => ?_⟩
      have disj : ∀ x ∈ m1, ¬ x ∈ n1 := fun x hx hy => by
        have z1 := ins_good gcc ((so1.2 x).mp hx)
        have z2 := outs_good gcc ((so2'.2 x).mp hy)
        omega
      have dl : depP (.lst (lk.map linkD)) ≤ 20 := by
        rw [depP]
        have := dep_links lk
        omega
      have ecc7 := s7 _ _ ecc6
      have pcc7 := Lks.tups s7.tups pcc6
      try simp only [tSeq, tNext, tDrop, tRet, tRetN, tIfS, tAsg, gName, fAug, tOp, tUn, tC, fVar, fI, fIC, fNeg, fEq, fNe, fIsN, isNon, fAnd, fOr, fNot, fB, tNot, tAnd, tOr, fChain, fIx, fLen, fListOf, fMin, fMax, fInL, fSlL, tSl, fPart, tNoPart, fAppend, fBM, fSetL, gSub, fGNil, fGCons, fGTup, fGLst, fDGet2, sDPutF, tDNewK, fCat, fClear, fBM0, fSlT, fInt1, tCBK, fDIn, fDGet, fIsi, fBools, fDictL, fLtT, tCall, tCB, tCons, tNil, tTup, tLst, tIf, tTrue, Kd.nm, L2.start, List.map_cons, List.map_nil, List.length_cons, List.length_nil, Nat.reduceAdd, Nat.reduceSub, List.replicate_succ, List.replicate_zero, List.getElem?_cons_zero, List.getElem?_cons_succ, List.set_cons_zero, List.set_cons_succ, List.append_nil, List.nil_append, List.cons_append, eq_self, true_and, and_true, if_true, Bool.false_eq_true, if_false, Bool.not_true, Bool.not_false, id_eq, sl0, sl1, sl2, sl3, sl4, kd, et2, isi, seqOf, Int.cast_ofNat_Int, decide_true]
      refine ⟨.lst (lk.map linkD), .lst (lk.map linkD), lst_rep (s7 _ _ eh0) pcc7, lst_rep ecc7 pcc7, dl, .inl ⟨_, _, rfl, rfl⟩, ?_⟩
      rw [eqP_refl]
      try simp only [tSeq, tNext, tDrop, tRet, tRetN, tIfS, tAsg, gName, fAug, tOp, tUn, tC, fVar, fI, fIC, fNeg, fEq, fNe, fIsN, isNon, fAnd, fOr, fNot, fB, tNot, tAnd, tOr, fChain, fIx, fLen, fListOf, fMin, fMax, fInL, fSlL, tSl, fPart, tNoPart, fAppend, fBM, fSetL, gSub, fGNil, fGCons, fGTup, fGLst, fDGet2, sDPutF, tDNewK, fCat, fClear, fBM0, fSlT, fInt1, tCBK, fDIn, fDGet, fIsi, fBools, fDictL, fLtT, tCall, tCB, tCons, tNil, tTup, tLst, tIf, tTrue, Kd.nm, L2.start, List.map_cons, List.map_nil, List.length_cons, List.length_nil, Nat.reduceAdd, Nat.reduceSub, List.replicate_succ, List.replicate_zero, List.getElem?_cons_zero, List.getElem?_cons_succ, List.set_cons_zero, List.set_cons_succ, List.append_nil, List.nil_append, List.cons_append, eq_self, true_and, and_true, if_true, Bool.false_eq_true, if_false, Bool.not_true, Bool.not_false, id_eq, sl0, sl1, sl2, sl3, sl4]
      refine ⟨cc, xs, lk, rfl, ecc7, pcc7, okl, lcc, fun t3 ga gb m2 n2 H8 s8 hga hgb hab2 et3 ega egb so3 so4 => ?_⟩
      have em := so3.uniq so1
      have en := so4.uniq so2'
      subst em; subst en
      refine ⟨twoD m2 n2, twoD m2 n2, two_rep (s8 _ _ et2) (s8 _ _ efa) (s8 _ _ efb), two_rep et3 ega egb, two_dep _ _, .inr ⟨_, _, rfl, rfl⟩, ?_⟩
      rw [eqP_refl]
      try simp only [tSeq, tNext, tDrop, tRet, tRetN, tIfS, tAsg, gName, fAug, tOp, tUn, tC, fVar, fI, fIC, fNeg, fEq, fNe, fIsN, isNon, fAnd, fOr, fNot, fB, tNot, tAnd, tOr, fChain, fIx, fLen, fListOf, fMin, fMax, fInL, fSlL, tSl, fPart, tNoPart, fAppend, fBM, fSetL, gSub, fGNil, fGCons, fGTup, fGLst, fDGet2, sDPutF, tDNewK, fCat, fClear, fBM0, fSlT, fInt1, tCBK, fDIn, fDGet, fIsi, fBools, fDictL, fLtT, tCall, tCB, tCons, tNil, tTup, tLst, tIf, tTrue, Kd.nm, L2.start, List.map_cons, List.map_nil, List.length_cons, List.length_nil, Nat.reduceAdd, Nat.reduceSub, List.replicate_succ, List.replicate_zero, List.getElem?_cons_zero, List.getElem?_cons_succ, List.set_cons_zero, List.set_cons_succ, List.append_nil, List.nil_append, List.cons_append, eq_self, true_and, and_true, if_true, Bool.false_eq_true, if_false, Bool.not_true, Bool.not_false, id_eq, sl0, sl1, sl2, sl3, sl4]
      have et8 := s8 _ _ et2
      have ea8 := s8 _ _ efa
      have eb8 := s8 _ _ efb
      refine tComp_hide (Itl K fa) H8 (fun R hR => ?_) (fun cl hcl => comp_run m2.length (fun i σ' Hc => ∃ w1, σ' = [w1, some (.ref t2)] ∧ Same H8 Hc ∧ Hc cl = some (.lst [])) ⟨none, rfl, same_new hcl _, upd_same⟩ ?_ ?_)
      · unfold iList
        try simp only [tSeq, tNext, tDrop, tRet, tRetN, tIfS, tAsg, gName, fAug, tOp, tUn, tC, fVar, fI, fIC, fNeg, fEq, fNe, fIsN, isNon, fAnd, fOr, fNot, fB, tNot, tAnd, tOr, fChain, fIx, fLen, fListOf, fMin, fMax, fInL, fSlL, tSl, fPart, tNoPart, fAppend, fBM, fSetL, gSub, fGNil, fGCons, fGTup, fGLst, fDGet2, sDPutF, tDNewK, fCat, fClear, fBM0, fSlT, fInt1, tCBK, fDIn, fDGet, fIsi, fBools, fDictL, fLtT, tCall, tCB, tCons, tNil, tTup, tLst, tIf, tTrue, Kd.nm, L2.start, List.map_cons, List.map_nil, List.length_cons, List.length_nil, Nat.reduceAdd, Nat.reduceSub, List.replicate_succ, List.replicate_zero, List.getElem?_cons_zero, List.getElem?_cons_succ, List.set_cons_zero, List.set_cons_succ, List.append_nil, List.nil_append, List.cons_append, eq_self, true_and, and_true, if_true, Bool.false_eq_true, if_false, Bool.not_true, Bool.not_false, id_eq, sl0, sl1, sl2, sl3, sl4, seqOf, et8, at0]
        exact ⟨fa, rfl, ⟨_, SqL.of ea8⟩, hR⟩
      · rintro k σ' Hc hk ⟨w1, rfl, s9, e9⟩
        have x1 : m2[k]? = some m2[k] := List.getElem?_eq_getElem hk
        have hxm := List.getElem_mem hk
        generalize m2[k] = n at x1 hxm
        have X1 : (m2.map V.int)[k]? = some (.int n) := by rw [List.getElem?_map, x1]; rfl
        have z1 : SqL K Hc fa (m2.map V.int) := SqL.of (s9 _ _ ea8)
        refine ⟨⟨_, _, z1, X1⟩, ?_⟩
        rintro y H' ⟨rfl, hy⟩
        have E1 : V.int n = y := Option.some.inj (X1.symm.trans (hy _ z1))
        subst E1
        try simp only [tSeq, tNext, tDrop, tRet, tRetN, tIfS, tAsg, gName, fAug, tOp, tUn, tC, fVar, fI, fIC, fNeg, fEq, fNe, fIsN, isNon, fAnd, fOr, fNot, fB, tNot, tAnd, tOr, fChain, fIx, fLen, fListOf, fMin, fMax, fInL, fSlL, tSl, fPart, tNoPart, fAppend, fBM, fSetL, gSub, fGNil, fGCons, fGTup, fGLst, fDGet2, sDPutF, tDNewK, fCat, fClear, fBM0, fSlT, fInt1, tCBK, fDIn, fDGet, fIsi, fBools, fDictL, fLtT, tCall, tCB, tCons, tNil, tTup, tLst, tIf, tTrue, Kd.nm, L2.start, List.map_cons, List.map_nil, List.length_cons, List.length_nil, Nat.reduceAdd, Nat.reduceSub, List.replicate_succ, List.replicate_zero, List.getElem?_cons_zero, List.getElem?_cons_succ, List.set_cons_zero, List.set_cons_succ, List.append_nil, List.nil_append, List.cons_append, eq_self, true_and, and_true, if_true, Bool.false_eq_true, if_false, Bool.not_true, Bool.not_false, id_eq, sl0, sl1, sl2, sl3, sl4, seqOf, s9 _ _ et8, at1, s9 _ _ eb8, flatV, flat_ints, inV_ints, decide_eq_false (disj n hxm)]
        exact ⟨_, rfl, s9, e9⟩
      rintro σ' H9 ⟨w1, rfl, s9, e9⟩
      refine ⟨⟨_, SqL.of (s9 _ _ ea8), by rw [List.length_map]; exact Nat.le_refl _⟩, ?_⟩
      try simp only [tSeq, tNext, tDrop, tRet, tRetN, tIfS, tAsg, gName, fAug, tOp, tUn, tC, fVar, fI, fIC, fNeg, fEq, fNe, fIsN, isNon, fAnd, fOr, fNot, fB, tNot, tAnd, tOr, fChain, fIx, fLen, fListOf, fMin, fMax, fInL, fSlL, tSl, fPart, tNoPart, fAppend, fBM, fSetL, gSub, fGNil, fGCons, fGTup, fGLst, fDGet2, sDPutF, tDNewK, fCat, fClear, fBM0, fSlT, fInt1, tCBK, fDIn, fDGet, fIsi, fBools, fDictL, fLtT, tCall, tCB, tCons, tNil, tTup, tLst, tIf, tTrue, Kd.nm, L2.start, List.map_cons, List.map_nil, List.length_cons, List.length_nil, Nat.reduceAdd, Nat.reduceSub, List.replicate_succ, List.replicate_zero, List.getElem?_cons_zero, List.getElem?_cons_succ, List.set_cons_zero, List.set_cons_succ, List.append_nil, List.nil_append, List.cons_append, eq_self, true_and, and_true, if_true, Bool.false_eq_true, if_false, Bool.not_true, Bool.not_false, id_eq, sl0, sl1, sl2, sl3, sl4]
      intro e hE
      have s10 := same_new hE (.lst [])
      have eE : upd H9 e (.lst []) e = some (.lst []) := upd_same
      generalize upd H9 e (.lst []) = H10 at s10 eE
      refine ⟨.lst [], .lst [], nil_rep (s10 _ _ e9), nil_rep eE, dep_nil, .inl ⟨_, _, rfl, rfl⟩, ?_⟩
      rw [eqP_refl]
      have s810 := s9.trans s10
      have et10 := s810 _ _ et8
      have ea10 := s810 _ _ ea8
      have eb10 := s810 _ _ eb8
      have ecc10 := (s8.trans s810) _ _ ecc7
      have pcc10 := Lks.tups (s8.trans s810).tups pcc7
      have eh10 := (s7.trans (s8.trans s810)) _ _ eh0
      have sn10 : Same Hn H10 := s5.trans (s6.trans (s7.trans (s8.trans s810)))
      have hh0n : Hn h0 = none := s5.free hh0
      have hfan : Hn fa = none := (s5.trans s6).free hfa
      have hfbn : Hn fb = none := (s5.trans s6).free hfb
      have nca : cc ≠ fa := fun z => by rw [z] at ecc6; rw [ecc6] at hfa; cases hfa
      have ncb : cc ≠ fb := fun z => by rw [z] at ecc6; rw [ecc6] at hfb; cases hfb
      have nch : cc ≠ h0 := fun z => by rw [z] at ecc; rw [ecc] at hh0; cases hh0
      have nha : h0 ≠ fa := fun z => by rw [z] at eh0; rw [eh0] at hfa; cases hfa
      have nhb : h0 ≠ fb := fun z => by rw [z] at eh0; rw [eh0] at hfb; cases hfb
      have tls : ∀ {H : Hp} {p q : Addr} {xs zs ys : List V}, H p = some (.tup xs) → H q = some (.lst zs) → upd H q (.lst ys) p = some (.tup xs) := fun {H p q xs zs ys} hp hq => by rw [upd_ne (fun z => by rw [z, hq] at hp; cases hp)]; exact hp
      try simp only [tSeq, tNext, tDrop, tRet, tRetN, tIfS, tAsg, gName, fAug, tOp, tUn, tC, fVar, fI, fIC, fNeg, fEq, fNe, fIsN, isNon, fAnd, fOr, fNot, fB, tNot, tAnd, tOr, fChain, fIx, fLen, fListOf, fMin, fMax, fInL, fSlL, tSl, fPart, tNoPart, fAppend, fBM, fSetL, gSub, fGNil, fGCons, fGTup, fGLst, fDGet2, sDPutF, tDNewK, fCat, fClear, fBM0, fSlT, fInt1, tCBK, fDIn, fDGet, fIsi, fBools, fDictL, fLtT, tCall, tCB, tCons, tNil, tTup, tLst, tIf, tTrue, Kd.nm, L2.start, List.map_cons, List.map_nil, List.length_cons, List.length_nil, Nat.reduceAdd, Nat.reduceSub, List.replicate_succ, List.replicate_zero, List.getElem?_cons_zero, List.getElem?_cons_succ, List.set_cons_zero, List.set_cons_succ, List.append_nil, List.nil_append, List.cons_append, eq_self, true_and, and_true, if_true, Bool.false_eq_true, if_false, Bool.not_true, Bool.not_false, id_eq, sl0, sl1, sl2, sl3, sl4, seqOf, et10, at0]
      refine ⟨⟨fa, _, rfl, ea10⟩, ?_⟩
      try simp only [tSeq, tNext, tDrop, tRet, tRetN, tIfS, tAsg, gName, fAug, tOp, tUn, tC, fVar, fI, fIC, fNeg, fEq, fNe, fIsN, isNon, fAnd, fOr, fNot, fB, tNot, tAnd, tOr, fChain, fIx, fLen, fListOf, fMin, fMax, fInL, fSlL, tSl, fPart, tNoPart, fAppend, fBM, fSetL, gSub, fGNil, fGCons, fGTup, fGLst, fDGet2, sDPutF, tDNewK, fCat, fClear, fBM0, fSlT, fInt1, tCBK, fDIn, fDGet, fIsi, fBools, fDictL, fLtT, tCall, tCB, tCons, tNil, tTup, tLst, tIf, tTrue, Kd.nm, L2.start, List.map_cons, List.map_nil, List.length_cons, List.length_nil, Nat.reduceAdd, Nat.reduceSub, List.replicate_succ, List.replicate_zero, List.getElem?_cons_zero, List.getElem?_cons_succ, List.set_cons_zero, List.set_cons_succ, List.append_nil, List.nil_append, List.cons_append, eq_self, true_and, and_true, if_true, Bool.false_eq_true, if_false, Bool.not_true, Bool.not_false, id_eq, sl0, sl1, sl2, sl3, sl4, ea10]
      have lm : m2.length ≤ 60 := by
        have h1 : m2.Nodup := so1.1.imp (fun {a b} q => by omega)
        have h2 := nodup_len h1 (fun x hx => (so1.2 x).mp hx)
        have h3 := ins_len lk lk.length
        rw [List.take_length] at h3
        omega
      refine ⟨szl' (by rw [List.length_map]; omega), ?_⟩
      have et11 := tls (ys := m2.map V.int ++ [.non]) et10 ea10
      have eb11 : upd H10 fa (.lst (m2.map V.int ++ [.non])) fb = some (.lst (n2.map V.int)) := by rw [upd_ne hab.symm]; exact eb10
      have eh11 : upd H10 fa (.lst (m2.map V.int ++ [.non])) h0 = some (.lst xs) := by rw [upd_ne nha]; exact eh10
      have ecc11 : upd H10 fa (.lst (m2.map V.int ++ [.non])) cc = some (.lst xs) := by rw [upd_ne nca]; exact ecc10
      have pcc11 := Lks.tups (tups_lst (ys := m2.map V.int ++ [.non]) ea10) pcc10
      have sn11 : Same Hn (upd H10 fa (.lst (m2.map V.int ++ [.non]))) := same_upd sn10 hfan
      generalize upd H10 fa (.lst (m2.map V.int ++ [.non])) = H11 at et11 eb11 eh11 ecc11 pcc11 sn11
      try simp only [tSeq, tNext, tDrop, tRet, tRetN, tIfS, tAsg, gName, fAug, tOp, tUn, tC, fVar, fI, fIC, fNeg, fEq, fNe, fIsN, isNon, fAnd, fOr, fNot, fB, tNot, tAnd, tOr, fChain, fIx, fLen, fListOf, fMin, fMax, fInL, fSlL, tSl, fPart, tNoPart, fAppend, fBM, fSetL, gSub, fGNil, fGCons, fGTup, fGLst, fDGet2, sDPutF, tDNewK, fCat, fClear, fBM0, fSlT, fInt1, tCBK, fDIn, fDGet, fIsi, fBools, fDictL, fLtT, tCall, tCB, tCons, tNil, tTup, tLst, tIf, tTrue, Kd.nm, L2.start, List.map_cons, List.map_nil, List.length_cons, List.length_nil, Nat.reduceAdd, Nat.reduceSub, List.replicate_succ, List.replicate_zero, List.getElem?_cons_zero, List.getElem?_cons_succ, List.set_cons_zero, List.set_cons_succ, List.append_nil, List.nil_append, List.cons_append, eq_self, true_and, and_true, if_true, Bool.false_eq_true, if_false, Bool.not_true, Bool.not_false, id_eq, sl0, sl1, sl2, sl3, sl4, seqOf, et11, at1, eb11, flatV, flat_ints, inV_non]
      refine ⟨⟨h0, _, rfl, eh11⟩, ?_⟩
      try simp only [tSeq, tNext, tDrop, tRet, tRetN, tIfS, tAsg, gName, fAug, tOp, tUn, tC, fVar, fI, fIC, fNeg, fEq, fNe, fIsN, isNon, fAnd, fOr, fNot, fB, tNot, tAnd, tOr, fChain, fIx, fLen, fListOf, fMin, fMax, fInL, fSlL, tSl, fPart, tNoPart, fAppend, fBM, fSetL, gSub, fGNil, fGCons, fGTup, fGLst, fDGet2, sDPutF, tDNewK, fCat, fClear, fBM0, fSlT, fInt1, tCBK, fDIn, fDGet, fIsi, fBools, fDictL, fLtT, tCall, tCB, tCons, tNil, tTup, tLst, tIf, tTrue, Kd.nm, L2.start, List.map_cons, List.map_nil, List.length_cons, List.length_nil, Nat.reduceAdd, Nat.reduceSub, List.replicate_succ, List.replicate_zero, List.getElem?_cons_zero, List.getElem?_cons_succ, List.set_cons_zero, List.set_cons_succ, List.append_nil, List.nil_append, List.cons_append, eq_self, true_and, and_true, if_true, Bool.false_eq_true, if_false, Bool.not_true, Bool.not_false, id_eq, sl0, sl1, sl2, sl3, sl4, eh11]
      have et12 := tls (ys := []) et11 eh11
      have eb12 : upd H11 h0 (.lst []) fb = some (.lst (n2.map V.int)) := by rw [upd_ne nhb.symm]; exact eb11
      have ecc12 : upd H11 h0 (.lst []) cc = some (.lst xs) := by rw [upd_ne nch]; exact ecc11
      have pcc12 := Lks.tups (tups_lst (ys := []) eh11) pcc11
      have sn12 : Same Hn (upd H11 h0 (.lst [])) := same_upd sn11 hh0n
      generalize upd H11 h0 (.lst []) = H12 at et12 eb12 ecc12 pcc12 sn12
      try simp only [tSeq, tNext, tDrop, tRet, tRetN, tIfS, tAsg, gName, fAug, tOp, tUn, tC, fVar, fI, fIC, fNeg, fEq, fNe, fIsN, isNon, fAnd, fOr, fNot, fB, tNot, tAnd, tOr, fChain, fIx, fLen, fListOf, fMin, fMax, fInL, fSlL, tSl, fPart, tNoPart, fAppend, fBM, fSetL, gSub, fGNil, fGCons, fGTup, fGLst, fDGet2, sDPutF, tDNewK, fCat, fClear, fBM0, fSlT, fInt1, tCBK, fDIn, fDGet, fIsi, fBools, fDictL, fLtT, tCall, tCB, tCons, tNil, tTup, tLst, tIf, tTrue, Kd.nm, L2.start, List.map_cons, List.map_nil, List.length_cons, List.length_nil, Nat.reduceAdd, Nat.reduceSub, List.replicate_succ, List.replicate_zero, List.getElem?_cons_zero, List.getElem?_cons_succ, List.set_cons_zero, List.set_cons_succ, List.append_nil, List.nil_append, List.cons_append, eq_self, true_and, and_true, if_true, Bool.false_eq_true, if_false, Bool.not_true, Bool.not_false, id_eq, sl0, sl1, sl2, sl3, sl4, seqOf, et12, at1]
      refine ⟨⟨fb, _, rfl, eb12⟩, ?_⟩
      try simp only [tSeq, tNext, tDrop, tRet, tRetN, tIfS, tAsg, gName, fAug, tOp, tUn, tC, fVar, fI, fIC, fNeg, fEq, fNe, fIsN, isNon, fAnd, fOr, fNot, fB, tNot, tAnd, tOr, fChain, fIx, fLen, fListOf, fMin, fMax, fInL, fSlL, tSl, fPart, tNoPart, fAppend, fBM, fSetL, gSub, fGNil, fGCons, fGTup, fGLst, fDGet2, sDPutF, tDNewK, fCat, fClear, fBM0, fSlT, fInt1, tCBK, fDIn, fDGet, fIsi, fBools, fDictL, fLtT, tCall, tCB, tCons, tNil, tTup, tLst, tIf, tTrue, Kd.nm, L2.start, List.map_cons, List.map_nil, List.length_cons, List.length_nil, Nat.reduceAdd, Nat.reduceSub, List.replicate_succ, List.replicate_zero, List.getElem?_cons_zero, List.getElem?_cons_succ, List.set_cons_zero, List.set_cons_succ, List.append_nil, List.nil_append, List.cons_append, eq_self, true_and, and_true, if_true, Bool.false_eq_true, if_false, Bool.not_true, Bool.not_false, id_eq, sl0, sl1, sl2, sl3, sl4, eb12]
      have ecc13 : upd H12 fb (.lst []) cc = some (.lst xs) := by rw [upd_ne ncb]; exact ecc12
      have pcc13 := Lks.tups (tups_lst (ys := []) eb12) pcc12
      have sn13 : Same Hn (upd H12 fb (.lst [])) := same_upd sn12 hfbn
      generalize upd H12 fb (.lst []) = H13 at ecc13 pcc13 sn13
      refine ⟨cc, xs, lk, rfl, ecc13, pcc13, okl, lcc, fun t5 ia ib m3 n3 H14 s14 _ _ _ et5 eia eib so5 so6 => ?_⟩
      refine ⟨cc, xs, lk, rfl, s14 _ _ ecc13, Lks.tups s14.tups pcc13, okl, lcc, fun t6 ja jb m4 n4 H15 s15 _ _ _ et6 eja ejb so7 so8 => ?_⟩
      have em2 := so7.uniq so5
      have en2 := so8.uniq so6
      subst em2; subst en2
      refine ⟨twoD m4 n4, twoD m4 n4, two_rep (s15 _ _ et5) (s15 _ _ eia) (s15 _ _ eib), two_rep et6 eja ejb, two_dep _ _, .inr ⟨_, _, rfl, rfl⟩, ?_⟩
      rw [eqP_refl]
      try simp only [tSeq, tNext, tDrop, tRet, tRetN, tIfS, tAsg, gName, fAug, tOp, tUn, tC, fVar, fI, fIC, fNeg, fEq, fNe, fIsN, isNon, fAnd, fOr, fNot, fB, tNot, tAnd, tOr, fChain, fIx, fLen, fListOf, fMin, fMax, fInL, fSlL, tSl, fPart, tNoPart, fAppend, fBM, fSetL, gSub, fGNil, fGCons, fGTup, fGLst, fDGet2, sDPutF, tDNewK, fCat, fClear, fBM0, fSlT, fInt1, tCBK, fDIn, fDGet, fIsi, fBools, fDictL, fLtT, tCall, tCB, tCons, tNil, tTup, tLst, tIf, tTrue, Kd.nm, L2.start, List.map_cons, List.map_nil, List.length_cons, List.length_nil, Nat.reduceAdd, Nat.reduceSub, List.replicate_succ, List.replicate_zero, List.getElem?_cons_zero, List.getElem?_cons_succ, List.set_cons_zero, List.set_cons_succ, List.append_nil, List.nil_append, List.cons_append, eq_self, true_and, and_true, if_true, Bool.false_eq_true, if_false, Bool.not_true, Bool.not_false, id_eq, sl0, sl1, sl2, sl3, sl4]
      exact ⟨_, _, _, rfl, sn13.trans (s14.trans s15)⟩
    · rintro σ H5 ⟨v7, v8, v9, rfl, s5⟩
      exact ⟨_, _, _, _, _, _, _, _, _, rfl, hsn.tups s5.tups⟩
  rintro σ H1 ⟨v1, v2, v3, v4, v5, v6, v7, v8, v9, rfl, hs1⟩
  try simp only [tSeq, tNext, tDrop, tRet, tRetN, tIfS, tAsg, gName, fAug, tOp, tUn, tC, fVar, fI, fIC, fNeg, fEq, fNe, fIsN, isNon, fAnd, fOr, fNot, fB, tNot, tAnd, tOr, fChain, fIx, fLen, fListOf, fMin, fMax, fInL, fSlL, tSl, fPart, tNoPart, fAppend, fBM, fSetL, gSub, fGNil, fGCons, fGTup, fGLst, fDGet2, sDPutF, tDNewK, fCat, fClear, fBM0, fSlT, fInt1, tCBK, fDIn, fDGet, fIsi, fBools, fDictL, fLtT, tCall, tCB, tCons, tNil, tTup, tLst, tIf, tTrue, Kd.nm, L2.start, List.map_cons, List.map_nil, List.length_cons, List.length_nil, Nat.reduceAdd, Nat.reduceSub, List.replicate_succ, List.replicate_zero, List.getElem?_cons_zero, List.getElem?_cons_succ, List.set_cons_zero, List.set_cons_succ, List.append_nil, List.nil_append, List.cons_append, eq_self, true_and, and_true, if_true, Bool.false_eq_true, if_false, Bool.not_true, Bool.not_false, id_eq, sl0, sl1, sl2, sl3, sl4]
  intro l1 hl1
  refine ⟨l1, [], [], rfl, upd_same, .nil, (fun l hl => by cases hl), by decide, fun t2 fa fb m1 n1 H7 s7 _ _ _ et2 efa efb so1 so2 => ?_⟩
  have e1 : m1 = [] := so1.uniq ⟨.nil, fun x => Iff.rfl⟩
  have e2 : n1 = [] := so2.uniq ⟨.nil, fun x => Iff.rfl⟩
  subst e1; subst e2
  intro p1 hp1 p2 hp2 p3 hp3
  have n12 : p1 ≠ p2 := fun z => by rw [← z, upd_same] at hp2; cases hp2
  have n13 : p1 ≠ p3 := fun z => by rw [← z, upd_ne n12, upd_same] at hp3; cases hp3
  have n23 : p2 ≠ p3 := fun z => by rw [← z, upd_same] at hp3; cases hp3
  have sA := (same_new hp1 (.lst [])).trans ((same_new hp2 (.lst [])).trans (same_new hp3 (.tup [.ref p1, .ref p2])))
  refine ⟨twoD [] [], twoD [] [], two_rep (sA _ _ et2) (sA _ _ efa) (sA _ _ efb), two_rep upd_same (by rw [upd_ne n13, upd_ne n12, upd_same]; rfl) (by rw [upd_ne n23, upd_same]; rfl), two_dep _ _, .inr ⟨_, _, rfl, rfl⟩, ?_⟩
  rw [eqP_refl]
  exact h _
end
end My

set_option Elab.async false
set_option linter.all false
set_option maxRecDepth 100000
set_option maxHeartbeats 8000000
namespace My
open PySem L2
theorem all_mk {l : PySem.W.OpenLaw} {w : World} {K : PySem.W.Frag} {h : Heap} {mg : Str → Option Value} {fa : Addr} (X : K.In h) (G : h.Ns mainGlobals mg) (hfa : mg "law" = some (.ref fa))
    {f_marked : Addr} {od_marked an_marked : Option Addr} {sl_marked : Array (Option Value)} {oc_marked kV_marked dc_marked pm_marked cd_marked ct_marked : Value}
    (a_marked : PySem.W.nsIn K mainGlobals "marked" = some (some (.ref f_marked))) (l_marked : K.lookup f_marked = some ⟨oc_marked, od_marked, .func (PySem.W.fnOf "marked" "marked" (defArgs (top 1)) (defBody (top 1)) (defScope (top 1)) .none kV_marked dc_marked pm_marked an_marked cd_marked ct_marked), sl_marked⟩) (c_marked : PySem.W.codeIn K cd_marked "marked" = true) (k_marked : PySem.W.keepIn K (.ref f_marked) = true)
    {f_fixed_by : Addr} {od_fixed_by an_fixed_by : Option Addr} {sl_fixed_by : Array (Option Value)} {oc_fixed_by kV_fixed_by dc_fixed_by pm_fixed_by cd_fixed_by ct_fixed_by : Value}
    (a_fixed_by : PySem.W.nsIn K mainGlobals "fixed_by" = some (some (.ref f_fixed_by))) (l_fixed_by : K.lookup f_fixed_by = some ⟨oc_fixed_by, od_fixed_by, .func (PySem.W.fnOf "fixed_by" "fixed_by" (defArgs (top 3)) (defBody (top 3)) (defScope (top 3)) .none kV_fixed_by dc_fixed_by pm_fixed_by an_fixed_by cd_fixed_by ct_fixed_by), sl_fixed_by⟩) (c_fixed_by : PySem.W.codeIn K cd_fixed_by "fixed_by" = true) (k_fixed_by : PySem.W.keepIn K (.ref f_fixed_by) = true)
    {f_law_begun : Addr} {od_law_begun an_law_begun : Option Addr} {sl_law_begun : Array (Option Value)} {oc_law_begun kV_law_begun dc_law_begun pm_law_begun cd_law_begun ct_law_begun : Value}
    (a_law_begun : PySem.W.nsIn K mainGlobals "_law_begun" = some (some (.ref f_law_begun))) (l_law_begun : K.lookup f_law_begun = some ⟨oc_law_begun, od_law_begun, .func (PySem.W.fnOf "_law_begun" "_law_begun" (defArgs (top 5)) (defBody (top 5)) (defScope (top 5)) .none kV_law_begun dc_law_begun pm_law_begun an_law_begun cd_law_begun ct_law_begun), sl_law_begun⟩) (c_law_begun : PySem.W.codeIn K cd_law_begun "_law_begun" = true) (k_law_begun : PySem.W.keepIn K (.ref f_law_begun) = true)
    {f_law_take : Addr} {od_law_take an_law_take : Option Addr} {sl_law_take : Array (Option Value)} {oc_law_take kV_law_take dc_law_take pm_law_take cd_law_take ct_law_take : Value}
    (a_law_take : PySem.W.nsIn K mainGlobals "_law_take" = some (some (.ref f_law_take))) (l_law_take : K.lookup f_law_take = some ⟨oc_law_take, od_law_take, .func (PySem.W.fnOf "_law_take" "_law_take" (defArgs (top 6)) (defBody (top 6)) (defScope (top 6)) .none kV_law_take dc_law_take pm_law_take an_law_take cd_law_take ct_law_take), sl_law_take⟩) (c_law_take : PySem.W.codeIn K cd_law_take "_law_take" = true) (k_law_take : PySem.W.keepIn K (.ref f_law_take) = true)
    {f_law_priced : Addr} {od_law_priced an_law_priced : Option Addr} {sl_law_priced : Array (Option Value)} {oc_law_priced kV_law_priced dc_law_priced pm_law_priced cd_law_priced ct_law_priced : Value}
    (a_law_priced : PySem.W.nsIn K mainGlobals "_law_priced" = some (some (.ref f_law_priced))) (l_law_priced : K.lookup f_law_priced = some ⟨oc_law_priced, od_law_priced, .func (PySem.W.fnOf "_law_priced" "_law_priced" (defArgs (top 7)) (defBody (top 7)) (defScope (top 7)) .none kV_law_priced dc_law_priced pm_law_priced an_law_priced cd_law_priced ct_law_priced), sl_law_priced⟩) (c_law_priced : PySem.W.codeIn K cd_law_priced "_law_priced" = true) (k_law_priced : PySem.W.keepIn K (.ref f_law_priced) = true)
    {f_law_laid : Addr} {od_law_laid an_law_laid : Option Addr} {sl_law_laid : Array (Option Value)} {oc_law_laid kV_law_laid dc_law_laid pm_law_laid cd_law_laid ct_law_laid : Value}
    (a_law_laid : PySem.W.nsIn K mainGlobals "_law_laid" = some (some (.ref f_law_laid))) (l_law_laid : K.lookup f_law_laid = some ⟨oc_law_laid, od_law_laid, .func (PySem.W.fnOf "_law_laid" "_law_laid" (defArgs (top 8)) (defBody (top 8)) (defScope (top 8)) .none kV_law_laid dc_law_laid pm_law_laid an_law_laid cd_law_laid ct_law_laid), sl_law_laid⟩) (c_law_laid : PySem.W.codeIn K cd_law_laid "_law_laid" = true) (k_law_laid : PySem.W.keepIn K (.ref f_law_laid) = true)
    {f_law_next : Addr} {od_law_next an_law_next : Option Addr} {sl_law_next : Array (Option Value)} {oc_law_next kV_law_next dc_law_next pm_law_next cd_law_next ct_law_next : Value}
    (a_law_next : PySem.W.nsIn K mainGlobals "_law_next" = some (some (.ref f_law_next))) (l_law_next : K.lookup f_law_next = some ⟨oc_law_next, od_law_next, .func (PySem.W.fnOf "_law_next" "_law_next" (defArgs (top 9)) (defBody (top 9)) (defScope (top 9)) .none kV_law_next dc_law_next pm_law_next an_law_next cd_law_next ct_law_next), sl_law_next⟩) (c_law_next : PySem.W.codeIn K cd_law_next "_law_next" = true) (k_law_next : PySem.W.keepIn K (.ref f_law_next) = true)
    {f_law_chain : Addr} {od_law_chain an_law_chain : Option Addr} {sl_law_chain : Array (Option Value)} {oc_law_chain kV_law_chain dc_law_chain pm_law_chain cd_law_chain ct_law_chain : Value}
    (a_law_chain : PySem.W.nsIn K mainGlobals "_law_chain" = some (some (.ref f_law_chain))) (l_law_chain : K.lookup f_law_chain = some ⟨oc_law_chain, od_law_chain, .func (PySem.W.fnOf "_law_chain" "_law_chain" (defArgs (top 10)) (defBody (top 10)) (defScope (top 10)) .none kV_law_chain dc_law_chain pm_law_chain an_law_chain cd_law_chain ct_law_chain), sl_law_chain⟩) (c_law_chain : PySem.W.codeIn K cd_law_chain "_law_chain" = true) (k_law_chain : PySem.W.keepIn K (.ref f_law_chain) = true)
    {f_law_due : Addr} {od_law_due an_law_due : Option Addr} {sl_law_due : Array (Option Value)} {oc_law_due kV_law_due dc_law_due pm_law_due cd_law_due ct_law_due : Value}
    (a_law_due : PySem.W.nsIn K mainGlobals "_law_due" = some (some (.ref f_law_due))) (l_law_due : K.lookup f_law_due = some ⟨oc_law_due, od_law_due, .func (PySem.W.fnOf "_law_due" "_law_due" (defArgs (top 11)) (defBody (top 11)) (defScope (top 11)) .none kV_law_due dc_law_due pm_law_due an_law_due cd_law_due ct_law_due), sl_law_due⟩) (c_law_due : PySem.W.codeIn K cd_law_due "_law_due" = true) (k_law_due : PySem.W.keepIn K (.ref f_law_due) = true)
    {f_law : Addr} {od_law an_law : Option Addr} {sl_law : Array (Option Value)} {oc_law kV_law dc_law pm_law cd_law ct_law : Value}
    (a_law : PySem.W.nsIn K mainGlobals "law" = some (some (.ref f_law))) (l_law : K.lookup f_law = some ⟨oc_law, od_law, .func (PySem.W.fnOf "law" "law" (defArgs (top 12)) (defBody (top 12)) (defScope (top 12)) .none kV_law dc_law pm_law an_law cd_law ct_law), sl_law⟩) (c_law : PySem.W.codeIn K cd_law "law" = true) (k_law : PySem.W.keepIn K (.ref f_law) = true)
    (z_len : PySem.W.nsIn K mainGlobals "len" = some none)
    (z_isinstance : PySem.W.nsIn K mainGlobals "isinstance" = some none)
    (z_all : PySem.W.nsIn K mainGlobals "all" = some none)
    (z_min : PySem.W.nsIn K mainGlobals "min" = some none)
    (z_list : PySem.W.nsIn K mainGlobals "list" = some none)
    (z_dict : PySem.W.nsIn K mainGlobals "dict" = some none)
    (z_int : PySem.W.nsIn K mainGlobals "int" = some none)
    (z_bool : PySem.W.nsIn K mainGlobals "bool" = some none)
    (z_str : PySem.W.nsIn K mainGlobals "str" = some none)
    (z_tuple : PySem.W.nsIn K mainGlobals "tuple" = some none)
    (z_range : PySem.W.nsIn K mainGlobals "range" = some none)
    (z_enumerate : PySem.W.nsIn K mainGlobals "enumerate" = some none)
    (z_zip : PySem.W.nsIn K mainGlobals "zip" = some none)
    (z_max : PySem.W.nsIn K mainGlobals "max" = some none)
    (z_any : PySem.W.nsIn K mainGlobals "any" = some none)
    (z_sum : PySem.W.nsIn K mainGlobals "sum" = some none)
    (z_sorted : PySem.W.nsIn K mainGlobals "sorted" = some none)
    : ∃ fd : FuncData, (∀ (s : Shared) (v : Value), BindsTo s fd ⟨[v], []⟩ [("_law_script", v)]) ∧ ∀ base : Heap, K.In base → base.Ns mainGlobals mg → FnOk l.prog w K mg base CX0 6 fa fd ["_law_script"] (spLaw K) := by
  have e := hfa.symm.trans (PySem.W.mg_of X G a_law)
  cases e
  have B : Blt mg := ⟨PySem.W.mg_none_of X G z_len, PySem.W.mg_none_of X G z_isinstance, PySem.W.mg_none_of X G z_all, PySem.W.mg_none_of X G z_min, PySem.W.mg_none_of X G z_list, PySem.W.mg_none_of X G z_dict, PySem.W.mg_none_of X G z_int, PySem.W.mg_none_of X G z_bool, PySem.W.mg_none_of X G z_str, PySem.W.mg_none_of X G z_tuple, PySem.W.mg_none_of X G z_range, PySem.W.mg_none_of X G z_enumerate, PySem.W.mg_none_of X G z_zip, PySem.W.mg_none_of X G z_max, PySem.W.mg_none_of X G z_any, PySem.W.mg_none_of X G z_sum, PySem.W.mg_none_of X G z_sorted⟩
  have F_marked := fun_mk (st := top 1) l_marked c_marked k_marked
  have b_marked := F_marked.binds (ps := ["places"]) fun _ _ _ _ _ _ us hl => match us, hl with | [_], _ => rfl
  have D_marked : DefAt K mg "marked" (top 1) ["places"] _ _ := ⟨F_marked, b_marked, PySem.W.mg_of X G a_marked⟩
  have F_fixed_by := fun_mk (st := top 3) l_fixed_by c_fixed_by k_fixed_by
  have b_fixed_by := F_fixed_by.binds (ps := ["chain"]) fun _ _ _ _ _ _ us hl => match us, hl with | [_], _ => rfl
  have D_fixed_by : DefAt K mg "fixed_by" (top 3) ["chain"] _ _ := ⟨F_fixed_by, b_fixed_by, PySem.W.mg_of X G a_fixed_by⟩
  have F_law_begun := fun_mk (st := top 5) l_law_begun c_law_begun k_law_begun
  have b_law_begun := F_law_begun.binds (ps := ["_law_script", "_law_k"]) fun _ _ _ _ _ _ us hl => match us, hl with | [_, _], _ => rfl
  have D_law_begun : DefAt K mg "_law_begun" (top 5) ["_law_script", "_law_k"] _ _ := ⟨F_law_begun, b_law_begun, PySem.W.mg_of X G a_law_begun⟩
  have F_law_take := fun_mk (st := top 6) l_law_take c_law_take k_law_take
  have b_law_take := F_law_take.binds (ps := ["_law_state", "_law_many"]) fun _ _ _ _ _ _ us hl => match us, hl with | [_, _], _ => rfl
  have D_law_take : DefAt K mg "_law_take" (top 6) ["_law_state", "_law_many"] _ _ := ⟨F_law_take, b_law_take, PySem.W.mg_of X G a_law_take⟩
  have F_law_priced := fun_mk (st := top 7) l_law_priced c_law_priced k_law_priced
  have b_law_priced := F_law_priced.binds (ps := ["_law_state", "_law_hs", "_law_raw"]) fun _ _ _ _ _ _ us hl => match us, hl with | [_, _, _], _ => rfl
  have D_law_priced : DefAt K mg "_law_priced" (top 7) ["_law_state", "_law_hs", "_law_raw"] _ _ := ⟨F_law_priced, b_law_priced, PySem.W.mg_of X G a_law_priced⟩
  have F_law_laid := fun_mk (st := top 8) l_law_laid c_law_laid k_law_laid
  have b_law_laid := F_law_laid.binds (ps := ["_law_state", "_law_most"]) fun _ _ _ _ _ _ us hl => match us, hl with | [_, _], _ => rfl
  have D_law_laid : DefAt K mg "_law_laid" (top 8) ["_law_state", "_law_most"] _ _ := ⟨F_law_laid, b_law_laid, PySem.W.mg_of X G a_law_laid⟩
  have F_law_next := fun_mk (st := top 9) l_law_next c_law_next k_law_next
  have b_law_next := F_law_next.binds (ps := ["_law_web", "_law_dues", "_law_chain_here"]) fun _ _ _ _ _ _ us hl => match us, hl with | [_, _, _], _ => rfl
  have D_law_next : DefAt K mg "_law_next" (top 9) ["_law_web", "_law_dues", "_law_chain_here"] _ _ := ⟨F_law_next, b_law_next, PySem.W.mg_of X G a_law_next⟩
  have F_law_chain := fun_mk (st := top 10) l_law_chain c_law_chain k_law_chain
  have b_law_chain := F_law_chain.binds (ps := ["_law_state", "_law_web", "_law_dues", "_law_most"]) fun _ _ _ _ _ _ us hl => match us, hl with | [_, _, _, _], _ => rfl
  have D_law_chain : DefAt K mg "_law_chain" (top 10) ["_law_state", "_law_web", "_law_dues", "_law_most"] _ _ := ⟨F_law_chain, b_law_chain, PySem.W.mg_of X G a_law_chain⟩
  have F_law_due := fun_mk (st := top 11) l_law_due c_law_due k_law_due
  have b_law_due := F_law_due.binds (ps := ["_law_chain_here"]) fun _ _ _ _ _ _ us hl => match us, hl with | [_], _ => rfl
  have D_law_due : DefAt K mg "_law_due" (top 11) ["_law_chain_here"] _ _ := ⟨F_law_due, b_law_due, PySem.W.mg_of X G a_law_due⟩
  have F_law := fun_mk (st := top 12) l_law c_law k_law
  have b_law := F_law.binds (ps := ["_law_script"]) fun _ _ _ _ _ _ us hl => match us, hl with | [_], _ => rfl
  have D_law : DefAt K mg "law" (top 12) ["_law_script"] _ _ := ⟨F_law, b_law, PySem.W.mg_of X G a_law⟩
  refine ⟨PySem.W.fnOf "law" "law" (defArgs (top 12)) (defBody (top 12)) (defScope (top 12)) .none kV_law dc_law pm_law an_law cd_law ct_law, fun s v => .of_eq rfl, fun base _ _ => ?_⟩
  have G_marked := ok_marked (P := l.prog) (w := w) (base := base) B D_marked
  have G_fixed_by := ok_fixed_by (P := l.prog) (w := w) (base := base) B D_fixed_by D_marked G_marked
  have G_law_begun := ok_law_begun (P := l.prog) (w := w) (base := base) B D_law_begun
  have G_law_take := ok_law_take (P := l.prog) (w := w) (base := base) B D_law_take
  have G_law_priced := ok_law_priced (P := l.prog) (w := w) (base := base) B D_law_priced D_law_take G_law_take
  have G_law_laid := ok_law_laid (P := l.prog) (w := w) (base := base) B D_law_laid D_law_take G_law_take D_law_priced G_law_priced
  have G_law_next := ok_law_next (P := l.prog) (w := w) (base := base) B D_law_next
  have G_law_chain := ok_law_chain (P := l.prog) (w := w) (base := base) B D_law_chain D_law_take G_law_take D_law_next G_law_next
  have G_law_due := ok_law_due (P := l.prog) (w := w) (base := base) B D_law_due
  exact ok_law B D_law D_law_begun G_law_begun D_law_take G_law_take D_law_laid G_law_laid D_law_chain G_law_chain D_fixed_by G_fixed_by D_law_due G_law_due
theorem walk {l : PySem.W.OpenLaw} {q : Program} {loose : List Str} {XP : (Str → Option Value) → Heap → Prop} {YP : World → Heap → Prop} {d : DefRec} {K : Params → PySem.W.Frag} (hn : l.most = some 63) (hdf : d.params.defaults = [])
    (hY : ∀ (w : World) (h : Heap), YP w h → (K w.params).In h)
    (F : ∀ (w : World) (mg : Str → Option Value) (fa : Addr) (h : Heap), (K w.params).In h → h.Ns mainGlobals mg → mg d.name = some (.ref fa) →
      ∃ fd : FuncData, (∀ (s : Shared) (u : Value), BindsTo s fd ⟨[u], []⟩ [("_law_script", u)]) ∧ ∀ base : Heap, (K w.params).In base → base.Ns mainGlobals mg → FnOk l.prog w (K w.params) mg base CX0 6 fa fd ["_law_script"] (spLaw (K w.params))) :
    PySem.W.WalkO q loose XP YP l.row.toRowW d [] (fun f vs => PySem.call f vs) :=
  L2.walk_of (n := 63) (k := 6) (x := "_law_script") (CX := fun _ => CX0) (sp := fun w => spLaw (K w.params)) hn (by decide) hdf ⟨rfl, by decide, by decide⟩ hY F (fun _ _ a ns hl hO hS => ⟨a, ns, rfl, Scr.of hS hO, fun _ => rfl⟩) fun _ _ _ _ _ z => z
end My
open PySem PySem.W PyProof.Rows
set_option maxRecDepth 100000 in
set_option maxHeartbeats 0 in
theorem PySem.Challenge.cw_touchall_k30_what_a_chain_names_holds : PySem.Challenge.rw_touchall_k30_what_a_chain_names.Holds := by
  w_on; o_law; k_head; (case hw => w_witness2)
  k_fill
  refine My.walk (l := PySem.Challenge.rw_touchall_k30_what_a_chain_names) rfl rfl (fun w h Y => PySem.W.kIn_of Y) ?F
  case F =>
    intro w mg fa h KX G hmg
    refine' My.all_mk KX G hmg ?a_marked ?l_marked ?c_marked ?k_marked ?a_fixed_by ?l_fixed_by ?c_fixed_by ?k_fixed_by ?a_law_begun ?l_law_begun ?c_law_begun ?k_law_begun ?a_law_take ?l_law_take ?c_law_take ?k_law_take ?a_law_priced ?l_law_priced ?c_law_priced ?k_law_priced ?a_law_laid ?l_law_laid ?c_law_laid ?k_law_laid ?a_law_next ?l_law_next ?c_law_next ?k_law_next ?a_law_chain ?l_law_chain ?c_law_chain ?k_law_chain ?a_law_due ?l_law_due ?c_law_due ?k_law_due ?a_law ?l_law ?c_law ?k_law ?z_len ?z_isinstance ?z_all ?z_min ?z_list ?z_dict ?z_int ?z_bool ?z_str ?z_tuple ?z_range ?z_enumerate ?z_zip ?z_max ?z_any ?z_sum ?z_sorted
    (case a_marked => k_is)
    (case l_marked => k_is)
    (case c_marked => k_is)
    (case k_marked => k_is)
    (case a_fixed_by => k_is)
    (case l_fixed_by => k_is)
    (case c_fixed_by => k_is)
    (case k_fixed_by => k_is)
    (case a_law_begun => k_is)
    (case l_law_begun => k_is)
    (case c_law_begun => k_is)
    (case k_law_begun => k_is)
    (case a_law_take => k_is)
    (case l_law_take => k_is)
    (case c_law_take => k_is)
    (case k_law_take => k_is)
    (case a_law_priced => k_is)
    (case l_law_priced => k_is)
    (case c_law_priced => k_is)
    (case k_law_priced => k_is)
    (case a_law_laid => k_is)
    (case l_law_laid => k_is)
    (case c_law_laid => k_is)
    (case k_law_laid => k_is)
    (case a_law_next => k_is)
    (case l_law_next => k_is)
    (case c_law_next => k_is)
    (case k_law_next => k_is)
    (case a_law_chain => k_is)
    (case l_law_chain => k_is)
    (case c_law_chain => k_is)
    (case k_law_chain => k_is)
    (case a_law_due => k_is)
    (case l_law_due => k_is)
    (case c_law_due => k_is)
    (case k_law_due => k_is)
    (case a_law => k_is)
    (case l_law => k_is)
    (case c_law => k_is)
    (case k_law => k_is)
    (case z_len => k_is)
    (case z_isinstance => k_is)
    (case z_all => k_is)
    (case z_min => k_is)
    (case z_list => k_is)
    (case z_dict => k_is)
    (case z_int => k_is)
    (case z_bool => k_is)
    (case z_str => k_is)
    (case z_tuple => k_is)
    (case z_range => k_is)
    (case z_enumerate => k_is)
    (case z_zip => k_is)
    (case z_max => k_is)
    (case z_any => k_is)
    (case z_sum => k_is)
    (case z_sorted => k_is)
#print axioms PySem.Challenge.cw_touchall_k30_what_a_chain_names_holds
