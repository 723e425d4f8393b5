import PyProof.Rows.All
import Wide.All
import OpenK.AllK
import Wide.FinOn
import Lean
import PyProof.EqAt
import PyProof.EqKinds
import PyProof.TupleCall
import PyProof.NeKinds
import PyProof.NeData
import PySem.Challenge.RW_touchall_k11_whole_made_lean
import PyProof.Rows.SortRuns
import PyProof.Rows.SortShell
import KE.KSortTup
import PyProof.Rows.SumAny
import PyProof.DictWalks
import PyProof.DictUpdate
import KE.KDictList
import PyProof.AutoSeq1
import KE.KSortKey
import KE.KLam
import KE.KNestM
section
open PySem PySem.W PyProof.Rows
set_option Elab.async false
set_option maxRecDepth 100000
set_option maxHeartbeats 0
def PySem.W.Fast.tw12841628850164172548 : Nat := 0
def PySem.W.Fast.tw1738253023818281445 : Nat := 0
def PySem.W.Fast.tw1842545590595054091 : Nat := 0
def PySem.W.Fast.tw14781562103584300300 : Nat := 0
def PySem.W.Fast.tw9460297890377761805 : Nat := 0
def PySem.W.Fast.tw16599119404929089777 : Nat := 0
def PySem.W.Fast.tw11370445813922084563 : Nat := 0
def PySem.W.Fast.tw280475905095942100 : Nat := 0
def PySem.W.Fast.tw17883986908372840214 : Nat := 0
def PySem.W.Fast.tw10409568035733193723 : Nat := 0
def PySem.W.Fast.tw2809751422226219502 : Nat := 0
open_top MyHead for PySem.Challenge.rw_touchall_k11_whole_made_lean
end
-- CHANGE: your row's module here, as the last of these rows
set_option Elab.async false
set_option linter.all false
set_option maxRecDepth 100000
/-! THE HAND LAYER, for ints, bools, texts, own classes, LISTS and tuples (index, slices, in, append, pop ..), calls, loops. Paste it whole ahead of your own text; what your proof does not reach may be deleted. -/
namespace L2
open PySem PySem.Spec PyProof.Rows

/-- a key: an int or a str -/
abbrev Key := Sum Int Str
def keyIs : Key → Value → Bool
  | .inl k, v => Value.isInt k v
  | .inr x, v => Value.isStrOf x v
def keyH (w : World) : Key → Int
  | .inl k => hashInt k
  | .inr x => hashStr w x
theorem keyIs_shape : ∀ {k : Key} {v : Value}, keyIs k v = true → (∃ i t, k = Sum.inl i ∧ v = Value.int i t) ∨ (∃ x t, k = Sum.inr x ∧ v = Value.str x t)
  | .inl i, v, h => by
    obtain ⟨t, e⟩ := Value.isInt_shape (k := i) (v := v) h
    exact .inl ⟨i, t, rfl, e⟩
  | .inr x, v, h => by
    obtain ⟨t, e⟩ := Value.isStrOf_shape (x := x) (v := v) h
    exact .inr ⟨x, t, rfl, e⟩
theorem keyIs_int (i : Int) (t : Tok) : keyIs (.inl i) (.int i t) = true := by simp [keyIs, Value.isInt]
theorem keyIs_str (x : Str) (t : Tok) : keyIs (.inr x) (.str x t) = true := by simp [keyIs, Value.isStrOf]
theorem key_ll (a b : Int) : decide ((Sum.inl a : Key) = Sum.inl b) = (a == b) := by
  by_cases e : a = b
  · subst e; simp
  · have h : ¬ (Sum.inl a : Key) = Sum.inl b := fun q => e (Sum.inl.inj q)
    rw [decide_eq_false h]
    exact (beq_eq_false_iff_ne.mpr e).symm
theorem key_rr (a b : Str) : decide ((Sum.inr a : Key) = Sum.inr b) = decide (a = b) := by
  by_cases e : a = b
  · subst e; simp
  · have h : ¬ (Sum.inr a : Key) = Sum.inr b := fun q => e (Sum.inr.inj q)
    rw [decide_eq_false h, decide_eq_false e]
theorem key_lr (a : Int) (b : Str) : decide ((Sum.inl a : Key) = Sum.inr b) = false := decide_eq_false (fun q => nomatch q)
theorem key_rl (a : Str) (b : Int) : decide ((Sum.inr a : Key) = Sum.inl b) = false := decide_eq_false (fun q => nomatch q)

def mixKind (prog : Program) (w : World) : PySem.KeyKind prog w Key where
  is := keyIs
  hash := keyH w
  inj := fun v a b ha hb => by
    rcases keyIs_shape ha with ⟨i, t, rfl, rfl⟩ | ⟨x, t, rfl, rfl⟩
    · rcases keyIs_shape hb with ⟨j, u, rfl, e⟩ | ⟨y, u, rfl, e⟩
      · injection e with e1 _; rw [e1]
      · exact nomatch e
    · rcases keyIs_shape hb with ⟨j, u, rfl, e⟩ | ⟨y, u, rfl, e⟩
      · exact nomatch e
      · injection e with e1 _; rw [e1]
  byValue := fun k v h => by
    rcases keyIs_shape h with ⟨i, t, rfl, rfl⟩ | ⟨x, t, rfl, rfl⟩ <;> rfl
  pyHash := fun hv h => by
    rcases keyIs_shape hv with ⟨i, t, rfl, rfl⟩ | ⟨x, t, rfl, rfl⟩
    · exact wpAny_pyHash_int h
    · exact wpAny_pyHash_str h
  eqBool := fun hu hv h => by
    rcases keyIs_shape hu with ⟨i, t, rfl, rfl⟩ | ⟨x, t, rfl, rfl⟩
    · rcases keyIs_shape hv with ⟨j, u, rfl, rfl⟩ | ⟨y, u, rfl, rfl⟩
      · rw [key_ll] at h; exact wpAny_eqBool_int h
      · rw [key_lr] at h; exact SeqAt.EqAt.int_str i t y u _ _ _ _ h
    · rcases keyIs_shape hv with ⟨j, u, rfl, rfl⟩ | ⟨y, u, rfl, rfl⟩
      · rw [key_rl] at h; exact SeqAt.EqAt.str_int x t j u _ _ _ _ h
      · rw [key_rr] at h; exact wpAny_eqBool_str h
  «strs» := fun k x t v h => by
    rcases keyIs_shape h with ⟨i, u, rfl, e⟩ | ⟨y, u, rfl, e⟩
    · exact nomatch e
    · injection e with e1 _
      subst e1
      cases v <;> rfl

theorem mixKind_int (prog : Program) (w : World) (i : Int) (t : Tok) : (mixKind prog w).is (.inl i) (.int i t) = true := keyIs_int i t
theorem mixKind_str (prog : Program) (w : World) (x : Str) (t : Tok) : (mixKind prog w).is (.inr x) (.str x t) = true := keyIs_str x t
end L2

namespace L2
open PySem PySem.Spec PyProof.Rows

/-- a value, without the heap -/
inductive V where
  | non | bl (b : Bool) | int (i : Int) | str (x : Str) | byt (b : Array UInt8) | flt (b : UInt64) | ref (a : Addr) | ty (n : String)
  deriving DecidableEq

def RelV : V → Value → Prop
  | .non, u => u = Value.none
  | .bl b, u => u = Value.bool b
  | .int i, u => ∃ t, u = Value.int i t
  | .str x, u => ∃ t, u = Value.str x t
  | .byt b, u => ∃ t, u = Value.bytes b t
  | .flt b, u => ∃ t, u = Value.float b t
  | .ref a, u => u = Value.ref a
  | .ty n, u => u = Value.type n

abbrev Vals : List V → List Value → Prop := Paired RelV
theorem Vals.length {xs : List V} {us : List Value} (r : Vals xs us) : xs.length = us.length := Paired.length r
theorem Vals.get : ∀ {xs : List V} {us : List Value} {i : Nat} {x : V}, Vals xs us → xs[i]? = some x → ∃ u, us[i]? = some u ∧ RelV x u
  | _, _, _, _, .nil, e => by simp at e
  | _, _, 0, _, .cons r _, e => by simp at e; subst e; exact ⟨_, rfl, r⟩
  | _, _, i + 1, x, .cons _ t, e => by
    obtain ⟨u, h1, h2⟩ := Vals.get (i := i) (x := x) t (by simpa using e)
    exact ⟨u, by simpa using h1, h2⟩
theorem Vals.set {x : V} {u : Value} (r : RelV x u) : ∀ {xs : List V} {us : List Value} (i : Nat), Vals xs us → Vals (xs.set i x) (us.set i u)
  | _, _, _, .nil => .nil
  | _, _, 0, .cons _ t => .cons r t
  | _, _, i + 1, .cons q t => .cons q (Vals.set r i t)
theorem Vals.append : ∀ {xs ys : List V} {us ws : List Value}, Vals xs us → Vals ys ws → Vals (xs ++ ys) (us ++ ws)
  | _, _, _, _, .nil, s => s
  | _, _, _, _, .cons r t, s => .cons r (Vals.append t s)
theorem Vals.take : ∀ {xs : List V} {us : List Value} (n : Nat), Vals xs us → Vals (xs.take n) (us.take n)
  | _, _, 0, _ => .nil
  | _, _, _ + 1, .nil => .nil
  | _, _, n + 1, .cons r t => .cons r (Vals.take n t)
theorem Vals.drop : ∀ {xs : List V} {us : List Value} (n : Nat), Vals xs us → Vals (xs.drop n) (us.drop n)
  | _, _, 0, r => r
  | _, _, _ + 1, .nil => .nil
  | _, _, n + 1, .cons _ t => Vals.drop n t
def RelO : Option V → Option Value → Prop
  | some v, some u => RelV v u
  | none, none => True
  | _, _ => False
def KV {κ : Type} : List (κ × V) → List (κ × Value) → Prop := Paired fun (p : κ × V) (q : κ × Value) => p.1 = q.1 ∧ RelV p.2 q.2

/-- a key of a dict (00_mix): an int or a text -/
def kV : Key → V
  | .inl i => .int i
  | .inr x => .str x

/-- what stands at a tracked address -/
inductive HO where
  /-- a list -/
  | lst (xs : List V)
  /-- a tuple (never changes) -/
  | tup (xs : List V)
  /-- a dict whose keys are ints and texts; one whose keys are tuples of ints and texts (the empty one is both) -/
  | dK (kvs : List (Key × V)) | dT (kvs : List (List Key × V))
  /-- a set of ints: its members, its size -/
  | set (S : Int → Bool) (n : Nat)
  /-- an instance of the class at C, its dict at dx, its attributes -/
  | ins (C dx : Addr) (fs : List (Str × V))
  /-- the dict of the instance at x -/
  | own (x : Addr)
  /-- the dict of an exception -/
  | xd (fs : List (Str × V))
  /-- a bound method, f of x -/
  | met (f x : Addr)
  /-- a range object lo, lo + 1, .. below hi -/
  | rng (lo hi : Int)
  /-- a thing that is known to the object (the script; a dict while a loop walks it): read, never written while it is so -/
  | frz (o : Obj) (u : HO)
  /-- a code object's table -/
  | tbl (ps : Array Value)
  /-- any other thing, by what is true of its one object (a def of one's own: SetO a S n := HO.ext fun h => ..) -/
  | ext (φ : Heap → Prop)

abbrev Hp := Addr → Option HO
def upd (H : Hp) (a : Addr) (o : HO) : Hp := fun b => if b = a then some o else H b
theorem upd_same {H : Hp} {a : Addr} {o : HO} : upd H a o a = some o := by unfold upd; rw [if_pos rfl]
theorem upd_ne {H : Hp} {a b : Addr} {o : HO} (h : b ≠ a) : upd H a o b = H b := by unfold upd; rw [if_neg h]
theorem upd_upd {H : Hp} {a : Addr} {o u : HO} : upd (upd H a o) a u = upd H a u := by
  funext b; unfold upd; split <;> rfl
/-- two objects of different content stand apart -/
theorem ne_of {H : Hp} {a b : Addr} {o u : HO} (h : H a = some o) (h' : H b = some u) (d : o ≠ u) : a ≠ b := by
  intro e; subst e; rw [h] at h'; exact d (Option.some.inj h')
theorem ne_of_none {H : Hp} {a b : Addr} {o : HO} (h : H a = some o) (h' : H b = none) : a ≠ b := by
  intro e; subst e; rw [h] at h'; cases h'

section
variable (P : Program) (w : World)
def ObjOk (H : Hp) (h : Heap) (a : Addr) : HO → Prop
  | .lst xs => xs.length ≤ sizeLine ∧ ∃ (its : List Value) (n : Nat), Vals xs its ∧ h.get? a = some { cls := .type "list", data := .seq its.toArray n }
  | .tup xs => xs.length ≤ sizeLine ∧ ∃ its : List Value, Vals xs its ∧ IsTup h a its.toArray
  | .dK kvs => kvs.length ≤ sizeLine ∧ (a == sysModules) = false ∧ ∃ vs, KV kvs vs ∧ h.DictOf (mixKind P w) a vs
  | .dT kvs => kvs.length ≤ sizeLine ∧ (a == sysModules) = false ∧ ∃ xs : List (List Key × Addr × Value),
      Paired (fun (p : List Key × V) (q : List Key × Addr × Value) => p.1 = q.1 ∧ H q.2.1 = some (.tup (p.1.map kV)) ∧ RelV p.2 q.2.2) kvs xs ∧
      ∃ o es ep, h.get? a = some o ∧ o.ExactDict ∧ o.data = .dict es ep ∧ es.toList = xs.map (entryOfKey (tupleKind (mixKind P w))) ∧ (xs.map (·.1)).Nodup
  | .set S n => h.SetOf (intKind P w) a S n
  | .ins C dx fs => H dx = some (.own a) ∧ fs.length ≤ 1000 ∧ dx ≠ a ∧ h.get? a = some (PySem.W.instObj C dx) ∧
      ∃ mA, h.Ns1 dx mA ∧ (∀ f, RelO (fs.lookup f) (mA f)) ∧ PySem.Within mA (fs.map (·.1))
  | .own _ => ∃ o, h.get? a = some o
  | .xd fs => ∃ mA, h.Ns1 a mA ∧ ∀ f, RelO (fs.lookup f) (mA f)
  | .rng lo hi => ∃ t u v, h.get? a = some { cls := .type "range", data := .fields #[.int lo t, .int hi u, .int 1 v] }
  | .frz o u => h.get? a = some o ∧ ObjOk H h a u
  | .tbl ps => h.get? a = some { cls := .none, data := .fields ps }
  | .met f x => h.get? a = some (PySem.W.methodObj (.ref f) (.ref x))
  | .ext φ => φ h ∧ (∃ o, h.get? a = some o) ∧ ∀ h1 h2 : Heap, φ h1 → (∀ o, h1.get? a = some o → h2.get? a = some o) → φ h2
/-- the abstract heap is held -/
def HOk (H : Hp) (h : Heap) : Prop := ∀ a o, H a = some o → ObjOk P w H h a o
end

section
variable {P : Program} {w : World} {H H' : Hp} {h h' : Heap} {a : Addr} {o : HO}
theorem ObjOk.lt (x : ObjOk P w H h a o) : a < h.objs.size := by
  cases o with
  | lst xs => obtain ⟨_, _, _, _, e⟩ := x; exact Heap.lt_size e
  | tup xs => obtain ⟨_, _, _, p⟩ := x; exact p.lt
  | dK kvs => obtain ⟨_, _, _, _, o, _, _, e, _⟩ := x; exact Heap.lt_size e
  | dT kvs => obtain ⟨_, _, _, _, o, _, _, e, _⟩ := x; exact Heap.lt_size e
  | set S n => obtain ⟨o, _, _, _, e, _⟩ := x; exact Heap.lt_size e
  | ins C dx fs => obtain ⟨_, _, _, e, _⟩ := x; exact Heap.lt_size e
  | own y => obtain ⟨_, e⟩ := x; exact Heap.lt_size e
  | xd fs => obtain ⟨_, ⟨_, _, _, e, _⟩, _⟩ := x; exact Heap.lt_size e
  | rng lo hi => obtain ⟨_, _, _, e⟩ := x; exact Heap.lt_size e
  | frz ob u => obtain ⟨e, _⟩ := x; exact Heap.lt_size e
  | tbl ps => exact Heap.lt_size (show h.get? a = some _ from x)
  | met f y => exact Heap.lt_size (show h.get? a = some _ from x)
  | ext φ => obtain ⟨_, ⟨_, e⟩, _⟩ := x; exact Heap.lt_size e
theorem Paired.mapP {α β : Type} {F G : α → β → Prop} : ∀ {l₁ : List α} {l₂ : List β}, Paired F l₁ l₂ → (∀ a b, F a b → G a b) → Paired G l₁ l₂
  | _, _, .nil, _ => .nil
  | _, _, .cons r t, f => .cons (f _ _ r) (Paired.mapP t f)
/-- what an object's description leans on: its own object, its own dict, the tuples -/
theorem ObjOk.stay (x : ObjOk P w H h a o) (k : ∀ b u, (b = a ∨ H b = some (.own a)) → h.get? b = some u → h'.get? b = some u)
    (ho : ∀ b, H b = some (.own a) → H' b = some (.own a)) (ht : ∀ b xs, H b = some (.tup xs) → H' b = some (.tup xs)) : ObjOk P w H' h' a o := by
  induction o with
  | lst xs => obtain ⟨z, its, n, r, e⟩ := x; exact ⟨z, its, n, r, k _ _ (.inl rfl) e⟩
  | tup xs => obtain ⟨z, its, r, ob, e, c⟩ := x; exact ⟨z, its, r, ob, k _ _ (.inl rfl) e, c⟩
  | dK kvs => obtain ⟨z, y, vs, r, ob, es, ep, e, c⟩ := x; exact ⟨z, y, vs, r, ob, es, ep, k _ _ (.inl rfl) e, c⟩
  | dT kvs =>
    obtain ⟨z, y, xs, r, ob, es, ep, e, c⟩ := x
    exact ⟨z, y, xs, Paired.mapP r fun p q z => ⟨z.1, ht _ _ z.2.1, z.2.2⟩, ob, es, ep, k _ _ (.inl rfl) e, c⟩
  | set S n => obtain ⟨ob, es, ep, t, e, c⟩ := x; exact ⟨ob, es, ep, t, k _ _ (.inl rfl) e, c⟩
  | ins C dx fs =>
    obtain ⟨d, z, ne, e, mA, ⟨od, es, ep, e2, c⟩, r⟩ := x
    exact ⟨ho _ d, z, ne, k _ _ (.inl rfl) e, mA, ⟨od, es, ep, k _ _ (.inr d) e2, c⟩, r⟩
  | own y => obtain ⟨ob, e⟩ := x; exact ⟨ob, k _ _ (.inl rfl) e⟩
  | xd fs => obtain ⟨mA, ⟨od, es, ep, e, c⟩, r⟩ := x; exact ⟨mA, ⟨od, es, ep, k _ _ (.inl rfl) e, c⟩, r⟩
  | rng lo hi => obtain ⟨t, u, v, e⟩ := x; exact ⟨t, u, v, k _ _ (.inl rfl) e⟩
  | frz ob u ih => obtain ⟨e, q⟩ := x; exact ⟨k _ _ (.inl rfl) e, ih q⟩
  | tbl ps =>
    have e : h.get? a = some { cls := .none, data := .fields ps } := x
    show h'.get? a = some { cls := .none, data := .fields ps }
    exact k a _ (.inl rfl) e
  | met f y =>
    have e : h.get? a = some (PySem.W.methodObj (.ref f) (.ref y)) := x
    show h'.get? a = some (PySem.W.methodObj (.ref f) (.ref y))
    exact k a _ (.inl rfl) e
  | ext φ => obtain ⟨p, ⟨o, e⟩, st⟩ := x; exact ⟨st _ _ p fun o q => k _ _ (.inl rfl) q, ⟨o, k _ _ (.inl rfl) e⟩, st⟩
theorem HOk.lt (x : HOk P w H h) (e : H a = some o) : a < h.objs.size := (x a o e).lt
theorem HOk.fresh (x : HOk P w H h) (e : h.objs.size ≤ a) : H a = none := by
  cases q : H a with
  | none => rfl
  | some u => exact absurd (Nat.lt_of_lt_of_le (x.lt q) e) (Nat.lt_irrefl _)
/-- every object of the heap is kept -/
theorem HOk.kept (x : HOk P w H h) (k : ∀ b u, h.get? b = some u → h'.get? b = some u) : HOk P w H h' := fun a o e =>
  (x a o e).stay (fun b u _ q => k b u q) (fun _ q => q) fun _ _ q => q
/-- a new object is laid and tracked -/
theorem HOk.laid (x : HOk P w H h) (k : ∀ b u, h.get? b = some u → h'.get? b = some u) (hp : h.objs.size ≤ a) (new : ObjOk P w (upd H a o) h' a o) : HOk P w (upd H a o) h' := fun b u e => by
  have hn := x.fresh hp
  by_cases hb : b = a
  · subst hb; rw [upd_same] at e; cases e; exact new
  · rw [upd_ne hb] at e
    exact (x b u e).stay (fun c v _ q => k c v q) (fun c q => by rw [upd_ne (ne_of_none q hn)]; exact q) fun c xs q => by rw [upd_ne (ne_of_none q hn)]; exact q
end

/-- what may be read as u: it is u, or a known u -/
def Rd (H : Hp) (a : Addr) (u : HO) : Prop := H a = some u ∨ ∃ o, H a = some (.frz o u)
theorem Rd.of {H : Hp} {a : Addr} {u : HO} (h : H a = some u) : Rd H a u := .inl h
theorem Rd.ok {P : Program} {w : World} {H : Hp} {h : Heap} {a : Addr} {u : HO} (r : Rd H a u) (x : HOk P w H h) : ObjOk P w H h a u := by
  rcases r with r | ⟨o, r⟩
  · exact x a u r
  · obtain ⟨_, q⟩ := x a _ r
    exact q
/-- what may be written -/
def Mut : Option HO → Prop
  | some (.lst _) => True
  | some (.dK _) => True
  | some (.dT _) => True
  | some (.set _ _) => True
  | some (.ins _ _ _) => True
  | some (.ext _) => True
  | _ => False
section
variable {P : Program} {w : World} {H : Hp} {h h' : Heap} {x e : Addr} {o' : HO}
/-- the object at e is changed: x itself, or the dict of the instance x -/
theorem HOk.write (ok : HOk P w H h) (mu : Mut (H x)) (he : e = x ∨ H e = some (.own x)) (k : ∀ b u, b ≠ e → h.get? b = some u → h'.get? b = some u) (heo : ∃ u, h'.get? e = some u)
    (new : ObjOk P w (upd H x o') h' x o') : HOk P w (upd H x o') h' := fun b u q => by
  have nown : ∀ c y, H c = some (.own y) → c ≠ x := fun c y r z => by subst z; rw [r] at mu; exact mu
  have ntup : ∀ c xs, H c = some (.tup xs) → c ≠ x := fun c xs r z => by subst z; rw [r] at mu; exact mu
  by_cases hb : b = x
  · subst hb; rw [upd_same] at q; cases q; exact new
  · rw [upd_ne hb] at q
    by_cases hbe : b = e
    · have q' : H b = some (.own x) := by
        rcases he with z | z
        · exact absurd (hbe.trans z) hb
        · rw [hbe]; exact z
      rw [q] at q'; cases q'
      obtain ⟨v, hv⟩ := heo
      exact ⟨v, by rw [hbe]; exact hv⟩
    · refine (ok b u q).stay (fun c v hc r => k c v ?_ r) (fun c r => by rw [upd_ne (nown c b r)]; exact r) fun c xs r => by rw [upd_ne (ntup c xs r)]; exact r
      rcases hc with rfl | hc
      · exact hbe
      · rintro rfl
        rcases he with z | z
        · exact nown c b hc z
        · rw [hc] at z; cases z; exact hb rfl
end

/-! ### kept unless tracked; of the frames at fs (the callers') the slots may change (an exception that passes writes there); of the records at ex (iterators) nothing is said -/
structure Un (fs ex : List Addr) (H H' : Hp) (h h' : Heap) : Prop where
  keep : ∀ b o, h.get? b = some o → H b = none → b ∉ fs → b ∉ ex → h'.get? b = some o
  slot : ∀ b o, h.get? b = some o → H b = none → b ∈ fs → b ∉ ex → ∃ sl, h'.get? b = some { o with slots := sl }
  free : ∀ b o, h.get? b = some o → H b = none → b ∉ ex → H' b = none
  there : ∀ b o, h.get? b = some o → b ∉ ex → ∃ o', h'.get? b = some o'
  tups : ∀ b xs, H b = some (.tup xs) → H' b = some (.tup xs)
  frzs : ∀ b o u, H b = some (.frz o u) → H' b = some (.frz o u)
  tbls : ∀ b ps, H b = some (.tbl ps) → ∃ more, H' b = some (.tbl (ps ++ more))
section
variable {fs fs' ex ex' : List Addr} {H H1 H2 : Hp} {h h1 h2 h' : Heap} {a x e : Addr} {o : HO}
theorem Un.any (u : Un fs ex H H1 h h1) {b : Addr} {ob : Obj} (q : h.get? b = some ob) (n : H b = none) (hx : b ∉ ex) : ∃ sl, h1.get? b = some { ob with slots := sl } := by
  by_cases hb : b ∈ fs
  · exact u.slot b ob q n hb hx
  · exact ⟨ob.slots, u.keep b ob q n hb hx⟩
theorem Un.trans (a : Un fs ex H H1 h h1) (b : Un fs ex H1 H2 h1 h2) : Un fs ex H H2 h h2 where
  keep := fun c ob q n hc hx => b.keep c ob (a.keep c ob q n hc hx) (a.free c ob q n hx) hc hx
  slot := fun c ob q n hc hx => by
    obtain ⟨sl, e1⟩ := a.slot c ob q n hc hx
    obtain ⟨sl', e2⟩ := b.slot c _ e1 (a.free c ob q n hx) hc hx
    exact ⟨sl', e2⟩
  free := fun c ob q n hx => by
    obtain ⟨o', e1⟩ := a.there c ob q hx
    exact b.free c o' e1 (a.free c ob q n hx) hx
  there := fun c ob q hx => by
    obtain ⟨o', e1⟩ := a.there c ob q hx
    exact b.there c o' e1 hx
  tups := fun c xs q => b.tups c xs (a.tups c xs q)
  frzs := fun c ob xs q => b.frzs c ob xs (a.frzs c ob xs q)
  tbls := fun c ps q => by
    obtain ⟨m1, e1⟩ := a.tbls c ps q
    obtain ⟨m2, e2⟩ := b.tbls c _ e1
    exact ⟨m1 ++ m2, by rw [e2, Array.append_assoc]⟩
theorem Un.kept (k : ∀ b u, h.get? b = some u → h'.get? b = some u) : Un fs ex H H h h' :=
  ⟨fun b ob q _ _ _ => k b ob q, fun b ob q _ _ _ => ⟨ob.slots, k b ob q⟩, fun _ _ _ n _ => n, fun b ob q _ => ⟨ob, k b ob q⟩, fun _ _ q => q, fun _ _ _ q => q, fun _ ps q => ⟨#[], by rw [q]; simp⟩⟩
theorem Un.refl : Un fs ex H H h h := Un.kept fun _ _ q => q
theorem Un.laid (k : ∀ b u, h.get? b = some u → h'.get? b = some u) (hp : h.objs.size ≤ a) (hn : H a = none) : Un fs ex H (upd H a o) h h' where
  keep := fun b u q _ _ _ => k b u q
  slot := fun b u q _ _ _ => ⟨u.slots, k b u q⟩
  free := fun b u q n _ => by rw [upd_ne (Nat.ne_of_lt (Nat.lt_of_lt_of_le (Heap.lt_size q) hp))]; exact n
  there := fun b u q _ => ⟨u, k b u q⟩
  tups := fun b xs q => by rw [upd_ne (ne_of_none q hn)]; exact q
  frzs := fun b u xs q => by rw [upd_ne (ne_of_none q hn)]; exact q
  tbls := fun b ps q => ⟨#[], by rw [upd_ne (ne_of_none q hn), q]; simp⟩
theorem Un.write (mu : Mut (H x)) (he : e = x ∨ H e = some (.own x)) (k : ∀ b u, b ≠ e → h.get? b = some u → h'.get? b = some u) (heo : ∃ u, h'.get? e = some u) : Un fs ex H (upd H x o) h h' := by
  have hx : ∀ b, H b = none → b ≠ x := fun b n z => by subst z; rw [n] at mu; exact mu
  have hb : ∀ b, H b = none → b ≠ e := fun b n z => by
    subst z
    rcases he with r | r
    · exact hx b n r
    · rw [n] at r; cases r
  have hm : ∀ b u, H b = some u → ¬ Mut (some u) → b ≠ x := fun b u q nm z => by subst z; rw [q] at mu; exact nm mu
  refine ⟨fun b u q n _ _ => k b u (hb b n) q, fun b u q n _ _ => ⟨u.slots, k b u (hb b n) q⟩, fun b u q n _ => by rw [upd_ne (hx b n)]; exact n, fun b u q _ => ?_,
    fun b xs q => by rw [upd_ne (hm b _ q fun z => z)]; exact q, fun b u xs q => by rw [upd_ne (hm b _ q fun z => z)]; exact q, fun b ps q => ⟨#[], by rw [upd_ne (hm b _ q fun z => z), q]; simp⟩⟩
  by_cases hbe : b = e
  · subst hbe; exact heo
  · exact ⟨u, k b u hbe q⟩
theorem Un.mono (u : Un fs ex H H1 h h1) (hs : ∀ b ∈ fs, b ∈ fs') (hx : ∀ b ∈ ex, b ∈ ex') : Un fs' ex' H H1 h h1 :=
  ⟨fun b ob q n hb he => u.keep b ob q n (fun z => hb (hs b z)) fun z => he (hx b z), fun _ _ q n _ he => u.any q n fun z => he (hx _ z), fun b ob q n he => u.free b ob q n fun z => he (hx b z), fun b ob q he => u.there b ob q fun z => he (hx b z), u.tups, u.frzs, u.tbls⟩
end

/-! ### the heap without what is tracked -/
def trk (h : Heap) (H : Hp) : List Addr := (List.range h.objs.size).filter fun a => (H a).isSome
def hidT (h : Heap) (H : Hp) : Heap := PySem.W.hideAll h (trk h H)
theorem hidT_size (h : Heap) (H : Hp) : (hidT h H).objs.size = h.objs.size := PySem.W.hideAll_size _ _
theorem hidT_get {h : Heap} {H : Hp} {b : Addr} {o : Obj} (e : h.get? b = some o) (n : H b = none) : (hidT h H).get? b = some o :=
  PySem.W.hideAll_get _ e fun hm => by
    have q : (H b).isSome = true := (List.mem_filter.mp hm).2
    rw [n] at q; simp at q
theorem of_hidT {h : Heap} {H : Hp} {b : Addr} {o : Obj} (e : (hidT h H).get? b = some o) : h.get? b = some o ∧ H b = none := by
  have e' : h.get? b = some o := PySem.W.of_hideAll (trk h H) e
  refine ⟨e', ?_⟩
  cases q : H b with
  | none => rfl
  | some x =>
    have hm : b ∈ trk h H := List.mem_filter.mpr ⟨List.mem_range.mpr (Heap.lt_size e'), by simp [q]⟩
    have z : (hidT h H).get? b = none := PySem.W.hideAll_none (trk h H) hm
    rw [z] at e; cases e

/-! ### OpenK's ledger, filled with every new object but one -/
def allNews (g h : Heap) (L : Addr) : List (Addr × Obj) := (List.range h.objs.size).filterMap fun a => if a = L ∨ (g.get? a).isSome = true then none else (h.get? a).map fun o => (a, o)
def rest (g h : Heap) (L d : Addr) : List (Addr × Obj) := (allNews g h L).filter fun p => decide (p.1 ≠ d)
end L2

namespace L2
open PySem PySem.Spec PyProof.Rows

/-- the module's facts, over the base: the heap at the law's entry without what is tracked there -/
structure Mod (K : PySem.W.Frag) (mg : Str → Option Value) (base : Heap) : Prop where
  kin : K.In base
  glob : base.Ns mainGlobals mg
  blt : ∃ mb, base.Ns builtinsNs mb ∧ ∀ x : Str, x ≠ "__name__" → mb x = bootBuiltins x
  nolimit : base.NoLimit

/-- the context: a def's body (or a comprehension's block) running. base: fixed through the whole law; s₀, H₀: the entry; outer: the frames whose slots others may change (a def's callers); stack: all frames that run;
   ex: iterators that were made ahead of the entry and are walked here (a comprehension's); fn: the names whose cells were made at the entry (a def: all; a comprehension's block: its own); calm: not within an except suite; pn: pins that every state bears; xe: what is wanted of an exception that leaves the code -/
structure Cx where
  prog : Program
  w : World
  K : PySem.W.Frag
  mg : Str → Option Value
  base : Heap
  A : Around
  N : List Str
  s₀ : Shared
  H₀ : Hp
  env : Env
  outer : List Env
  stack : List Env
  ex : List Addr
  fn : Str → Bool
  calm : Bool
  pn : List (Addr × Obj)
  xe : Value → Shared → Prop
/-- the callers' frames -/
def frs (l : List Env) : List Addr := l.filterMap (·.frame)
abbrev Cx.fs (X : Cx) : List Addr := frs X.outer

def Vis (sc : Scope) (x : Str) : Prop := sc.names.lookup x = some .local ∨ sc.names.lookup x = some .cell ∨ sc.names.lookup x = some .free
def Loc (sc : Scope) (x : Str) : Prop := sc.names.lookup x = some .local ∨ sc.names.lookup x = some .cell
def Look (env : Env) (h : Heap) (m : Str → Option Value) (x : Str) (u : Value) : Prop :=
  (env.kindOf x = some .local ∧ m x = some u) ∨ ((env.kindOf x = some .cell ∨ env.kindOf x = some .free) ∧ ∃ c, env.cells.lookup x = some c ∧ h.IsCell c (some u))

structure Cx.Ok (X : Cx) : Prop where
  mod : Mod X.K X.mg X.base
  kind : X.env.scope.kind = .function
  glob : X.env.globals = mainGlobals
  blt : X.env.builtins = builtinsNs
  above : X.s₀.heap.objs.size ≤ X.env.locals
  inj : ∀ x y c, X.env.cells.lookup x = some c → X.env.cells.lookup y = some c → x = y
  has : ∀ x, (X.env.kindOf x = some .cell ∨ X.env.kindOf x = some .free) → ∃ c, X.env.cells.lookup x = some c
  cab : ∀ x c, X.fn x = true → X.env.cells.lookup x = some c → X.s₀.heap.objs.size ≤ c
  hd : X.calm = true → X.A.handled = none
  frames : X.A.frames = some X.stack
  stk : X.stack = X.outer ∨ (X.stack = X.env :: X.outer ∧ X.env.frame = some X.env.locals)
  exf : ∀ b ∈ X.ex, b ≠ X.env.locals ∧ ∀ x c, X.env.cells.lookup x = some c → c ≠ b
  bs : ∀ b o, X.base.get? b = some o → X.s₀.heap.get? b = some o ∧ X.H₀ b = none
  bsz : X.base.objs.size ≤ X.s₀.heap.objs.size
  noex : ∀ b o, X.base.get? b = some o → b ∉ X.ex
  exfs : ∀ b ∈ X.ex, b ∉ X.fs
  funs : X.s₀.heap.FunFrames X.base X.outer
  frf : ∀ b ∈ X.fs, X.H₀ b = none

structure Inv (X : Cx) (pins : List (Addr × Obj)) (σ : List (Option V)) (H : Hp) (s : Shared) : Prop where
  ok : X.Ok
  os : s.os = X.s₀.os
  bare : AllBare s.gens
  base : Un X.fs X.ex X.H₀ H X.s₀.heap s.heap
  loc : ∃ m, s.heap.Ns X.env.locals m ∧ ∀ (i : Nat) (x : Str) (v : V), X.N[i]? = some x → σ[i]? = some (some v) → Vis X.env.scope x → ∃ u, RelV v u ∧ Look X.env s.heap m x u
  cell : ∀ x c, X.env.cells.lookup x = some c → ∃ v, s.heap.IsCell c v
  free : H X.env.locals = none
  freeC : ∀ x c, X.env.cells.lookup x = some c → H c = none
  pin : ∀ p ∈ X.pn ++ pins, s.heap.get? p.1 = some p.2 ∧ H p.1 = none ∧ p.1 ≠ X.env.locals ∧ p.1 ∉ X.fs ∧ ∀ v, p.2.data ≠ .cell v
  hok : HOk X.prog X.w H s.heap
  len : σ.length = X.N.length

section
variable {X : Cx} {pins : List (Addr × Obj)} {σ : List (Option V)} {H H' : Hp} {s : Shared} {h' : Heap}

theorem Cx.Ok.nofr (ok : X.Ok) {b : Addr} {o : Obj} (e : X.base.get? b = some o) : b ∉ X.fs := fun hb => by
  have := (ok.funs.mem hb).1
  rw [e] at this; cases this
theorem Inv.bs (I : Inv X pins σ H s) : ∀ b o, X.base.get? b = some o → s.heap.get? b = some o ∧ H b = none := fun b o e =>
  ⟨I.base.keep b o (I.ok.bs b o e).1 (I.ok.bs b o e).2 (I.ok.nofr e) (I.ok.noex b o e), I.base.free b o (I.ok.bs b o e).1 (I.ok.bs b o e).2 (I.ok.noex b o e)⟩
theorem Inv.bk (I : Inv X pins σ H s) : ∀ b o, X.base.get? b = some o → s.heap.get? b = some o := fun b o e => (I.bs b o e).1
theorem Inv.mod (I : Inv X pins σ H s) : Mod X.K X.mg X.base := I.ok.mod
theorem Inv.kIn (I : Inv X pins σ H s) : X.K.In s.heap := I.ok.mod.kin.keeps I.bk
theorem Inv.nolimit (I : Inv X pins σ H s) : s.heap.NoLimit := I.ok.mod.nolimit.keeps I.bk
theorem Inv.lt (I : Inv X pins σ H s) : X.env.locals < s.heap.objs.size := let ⟨_, hn, _⟩ := I.loc; hn.lt
theorem Inv.sz (I : Inv X pins σ H s) : X.s₀.heap.objs.size ≤ s.heap.objs.size := Nat.le_trans I.ok.above (Nat.le_of_lt I.lt)
theorem Inv.nofs (I : Inv X pins σ H s) {a : Addr} (h : s.heap.objs.size ≤ a) : a ∉ X.fs := fun hb => by
  obtain ⟨_, o, ho, _⟩ := I.ok.funs.mem hb
  exact absurd (Nat.lt_of_lt_of_le (Heap.lt_size ho) (Nat.le_trans I.sz h)) (Nat.lt_irrefl _)
theorem Inv.cne (I : Inv X pins σ H s) : ∀ x c, X.env.cells.lookup x = some c → c ≠ X.env.locals := fun x c e z => by
  obtain ⟨v, o, ho, hd⟩ := I.cell x c e
  obtain ⟨m, ⟨o', es, ep, ho', hd', _⟩, _⟩ := I.loc
  rw [z, ho'] at ho; cases ho; rw [hd'] at hd; cases hd
theorem Inv.funs (I : Inv X pins σ H s) : s.heap.FunFrames X.base X.outer := by
  have all : ∀ (l : List Env), (∀ b ∈ frs l, b ∈ X.fs) → X.s₀.heap.FunFrames X.base l → s.heap.FunFrames X.base l := by
    intro l
    induction l with
    | nil => intro _ _; trivial
    | cons env r ih =>
      intro hs hl
      obtain ⟨hk, ⟨L, o, hf, hn, ho, hd⟩, hr⟩ := hl
      have hL : L ∈ X.fs := hs L (by unfold frs; rw [List.filterMap_cons, hf]; exact List.mem_cons_self)
      obtain ⟨sl, e⟩ := I.base.slot L o ho (I.ok.frf L hL) hL fun z => I.ok.exfs L z hL
      exact ⟨hk, ⟨L, _, hf, hn, e, hd⟩, ih (fun b hb => hs b (by unfold frs; rw [List.filterMap_cons, hf]; exact List.mem_cons_of_mem _ hb)) hr⟩
  exact all X.outer (fun _ hb => hb) I.ok.funs

/-- the frames that run, for a call -/
theorem Inv.stack (I : Inv X pins σ H s) : s.heap.FunFrames X.base X.stack := by
  rcases I.ok.stk with e | ⟨e, hf⟩
  · rw [e]; exact I.funs
  · rw [e]
    obtain ⟨m, hn, _⟩ := I.loc
    refine .cons (by rw [I.ok.kind]; decide) hf hn ?_ I.funs
    exact Heap.get?_none_of_le (Nat.le_trans I.ok.bsz I.ok.above)
theorem Inv.stkSub (I : Inv X pins σ H s) : ∀ b ∈ frs X.stack, b ∈ X.env.locals :: X.fs := fun b hb => by
  rcases I.ok.stk with e | ⟨e, hf⟩
  · rw [e] at hb; exact List.mem_cons_of_mem _ hb
  · rw [e] at hb
    unfold frs at hb
    rw [List.filterMap_cons, hf] at hb
    exact hb
theorem Inv.stkFree (I : Inv X pins σ H s) : ∀ b ∈ frs X.stack, H b = none := fun b hb => by
  rcases List.mem_cons.mp (I.stkSub b hb) with e | hb
  · rw [e]; exact I.free
  · obtain ⟨_, o, ho, _⟩ := I.ok.funs.mem hb
    exact I.base.free b o ho (I.ok.frf b hb) fun z => I.ok.exfs b z hb

/-- THE STEP: the untracked objects but the frame and the records at ch are kept (the callers' frames up to slots), the frame's map is kept, the new abstract heap is held -/
theorem Inv.step {g' : Array GenState} {t' : Nat} {d' : Drawn} {ch : List Addr} (I : Inv X pins σ H s)
    (hch : ∀ b ∈ ch, (b ∈ X.ex ∨ X.s₀.heap.objs.size ≤ b) ∧ b ≠ X.env.locals ∧ (∀ x c, X.env.cells.lookup x = some c → c ≠ b) ∧ ∀ p ∈ X.pn ++ pins, p.1 ≠ b)
    (keep : ∀ b o, b ≠ X.env.locals → b ∉ X.fs → b ∉ ch → s.heap.get? b = some o → H b = none → h'.get? b = some o)
    (slot : ∀ b o, b ≠ X.env.locals → b ∈ X.fs → b ∉ ch → s.heap.get? b = some o → H b = none → ∃ sl, h'.get? b = some { o with slots := sl }) (free : ∀ b o, b ∉ ch → s.heap.get? b = some o → H b = none → H' b = none)
    (there : ∀ b o, b ∉ ch → s.heap.get? b = some o → ∃ o', h'.get? b = some o')
    (tups : ∀ b xs, H b = some (.tup xs) → H' b = some (.tup xs)) (frzs : ∀ b o u, H b = some (.frz o u) → H' b = some (.frz o u)) (tbls : ∀ b ps, H b = some (.tbl ps) → ∃ more, H' b = some (.tbl (ps ++ more)))
    (ns : ∀ m, s.heap.Ns X.env.locals m → h'.Ns X.env.locals m) (hok : HOk X.prog X.w H' h') (hg : AllBare g') :
    Inv X pins σ H' { s with heap := h', gens := g', drawn := d', toks := t' } := by
  have neL : ∀ b o, X.s₀.heap.get? b = some o → b ≠ X.env.locals := fun b o e => Nat.ne_of_lt (Nat.lt_of_lt_of_le (Heap.lt_size e) I.ok.above)
  have neC : ∀ b o, X.s₀.heap.get? b = some o → b ∉ X.ex → b ∉ ch := fun b o e hx hb => by
    rcases (hch b hb).1 with z | z
    · exact hx z
    · exact absurd (Nat.lt_of_lt_of_le (Heap.lt_size e) z) (Nat.lt_irrefl _)
  have cellK : ∀ x c, X.env.cells.lookup x = some c → ∀ v, s.heap.IsCell c v → h'.IsCell c v := fun x c e v ⟨o, ho, hd⟩ => by
    have nch : c ∉ ch := fun z => (hch c z).2.2.1 x c e rfl
    by_cases hc : c ∈ X.fs
    · obtain ⟨sl, q⟩ := slot c o (I.cne x c e) hc nch ho (I.freeC x c e)
      exact ⟨_, q, hd⟩
    · exact ⟨o, keep c o (I.cne x c e) hc nch ho (I.freeC x c e), hd⟩
  refine ⟨I.ok, I.os, hg, ⟨fun b o e n hb hx => ?_, fun b o e n hb hx => ?_, fun b o e n hx => ?_, fun b o e hx => ?_, fun b xs e => tups b xs (I.base.tups b xs e), fun b o xs e => frzs b o xs (I.base.frzs b o xs e), fun b ps e => ?_⟩, ?_, fun x c e => ?_, ?_, fun x c e => ?_, fun p hp => ?_, hok, I.len⟩
  · exact keep b o (neL b o e) hb (neC b o e hx) (I.base.keep b o e n hb hx) (I.base.free b o e n hx)
  · obtain ⟨sl, e1⟩ := I.base.slot b o e n hb hx
    obtain ⟨sl', e2⟩ := slot b _ (neL b o e) hb (neC b o e hx) e1 (I.base.free b o e n hx)
    exact ⟨sl', e2⟩
  · obtain ⟨o', e1⟩ := I.base.there b o e hx
    exact free b o' (neC b o e hx) e1 (I.base.free b o e n hx)
  · obtain ⟨o', e1⟩ := I.base.there b o e hx
    exact there b o' (neC b o e hx) e1
  · obtain ⟨m1, e1⟩ := I.base.tbls b ps e
    obtain ⟨m2, e2⟩ := tbls b _ e1
    exact ⟨m1 ++ m2, by rw [e2, Array.append_assoc]⟩
  · obtain ⟨m, hn, hl⟩ := I.loc
    refine ⟨m, ns m hn, fun i x v e1 e2 e3 => ?_⟩
    obtain ⟨u, r, l⟩ := hl i x v e1 e2 e3
    refine ⟨u, r, ?_⟩
    rcases l with l | ⟨k, c, e, z⟩
    · exact .inl l
    · exact .inr ⟨k, c, e, cellK x c e _ z⟩
  · obtain ⟨v, z⟩ := I.cell x c e
    exact ⟨v, cellK x c e v z⟩
  · obtain ⟨m, ⟨o, _, _, ho, _⟩, _⟩ := I.loc
    exact free _ o (fun z => (hch _ z).2.1 rfl) ho I.free
  · obtain ⟨v, o, ho, hd⟩ := I.cell x c e
    exact free c o (fun z => (hch c z).2.2.1 x c e rfl) ho (I.freeC x c e)
  · obtain ⟨e, n, ne, nf, d⟩ := I.pin p hp
    have nch : p.1 ∉ ch := fun z => (hch p.1 z).2.2.2 p hp rfl
    exact ⟨keep p.1 p.2 ne nf nch e n, free p.1 p.2 nch e n, ne, nf, d⟩
/-- .. where the frame's own object is kept too -/
theorem Inv.un {t' : Nat} (I : Inv X pins σ H s) (u : Un X.fs [] H H' s.heap h') (hok : HOk X.prog X.w H' h') : Inv X pins σ H' { s with heap := h', toks := t' } := by
  obtain ⟨m, ⟨o, es, ep, ho, r⟩, _⟩ := id I.loc
  obtain ⟨sl, hL⟩ := u.any ho I.free (by simp)
  exact I.step (g' := s.gens) (d' := s.drawn) (ch := []) (fun _ z => nomatch z) (fun b o _ hb _ e n => u.keep b o e n hb (by simp)) (fun b o _ hb _ e n => u.slot b o e n hb (by simp)) (fun b o _ e n => u.free b o e n (by simp)) (fun b o _ e => u.there b o e (by simp)) u.tups u.frzs u.tbls (fun m' hm => by
    obtain ⟨o', es', ep', ho', r'⟩ := hm
    rw [ho] at ho'; cases ho'
    exact ⟨_, es', ep', hL, r'⟩) hok I.bare
/-- behind a call (or a comprehension's block): the slots of this frame may have changed too, the records at ch may have turned -/
theorem Inv.call {g' : Array GenState} {t' : Nat} {d' : Drawn} {ch : List Addr} (I : Inv X pins σ H s) (u : Un (frs X.stack) ch H H' s.heap h') (hok : HOk X.prog X.w H' h') (hg : AllBare g')
    (hch : ∀ b ∈ ch, (b ∈ X.ex ∨ X.s₀.heap.objs.size ≤ b) ∧ b ≠ X.env.locals ∧ (∀ x c, X.env.cells.lookup x = some c → c ≠ b) ∧ ∀ p ∈ X.pn ++ pins, p.1 ≠ b) :
    Inv X pins σ H' { s with heap := h', gens := g', drawn := d', toks := t' } := by
  obtain ⟨m, ⟨o, es, ep, ho, r⟩, _⟩ := id I.loc
  obtain ⟨sl, hL⟩ := u.any ho I.free fun z => (hch _ z).2.1 rfl
  exact I.step (ch := ch) hch (fun b o hL hb hc e n => u.keep b o e n (fun z => (List.mem_cons.mp (I.stkSub b z)).elim hL hb) hc) (fun b o _ _ hc e n => u.any e n hc) (fun b o hc e n => u.free b o e n hc) (fun b o hc e => u.there b o e hc) u.tups u.frzs u.tbls (fun m' hm => by
    obtain ⟨o', es', ep', ho', r'⟩ := hm
    rw [ho] at ho'; cases ho'
    exact ⟨_, es', ep', hL, r'⟩) hok hg
/-- an untracked record of ours (an iterator) has turned -/
theorem Inv.turned {t' : Nat} {it : Addr} (I : Inv X pins σ H s) (k : ∀ b o, b ≠ it → s.heap.get? b = some o → h'.get? b = some o) (hn : H it = none) (hL : it ≠ X.env.locals)
    (h1 : it ∈ X.ex ∨ X.s₀.heap.objs.size ≤ it) (h2 : ∀ x c, X.env.cells.lookup x = some c → c ≠ it) (h3 : ∀ p ∈ X.pn ++ pins, p.1 ≠ it) : Inv X pins σ H { s with heap := h', toks := t' } := by
  have nit : ∀ b u, H b = some u → b ≠ it := fun b u e z => by rw [z, hn] at e; cases e
  refine I.step (g' := s.gens) (d' := s.drawn) (ch := [it]) (fun b hb => ?_) (fun b o _ _ hc e _ => k b o (fun z => hc (by simp [z])) e) (fun b o _ _ hc e _ => ⟨o.slots, k b o (fun z => hc (by simp [z])) e⟩) (fun _ _ _ _ n => n)
    (fun b o hc e => ⟨o, k b o (fun z => hc (by simp [z])) e⟩) (fun _ _ e => e) (fun _ _ _ e => e) (fun b ps e => ⟨#[], by rw [e]; simp⟩) (fun m hm => ?_) (fun b u e => ?_) I.bare
  · have e : b = it := by simpa using hb
    subst e
    exact ⟨h1, hL, h2, h3⟩
  · obtain ⟨o, es, ep, ho, r⟩ := hm
    exact ⟨o, es, ep, k _ o (Ne.symm hL) ho, r⟩
  · refine (I.hok b u e).stay (fun c v hc q => k c v ?_ q) (fun _ q => q) fun _ _ q => q
    rcases hc with z | z
    · rw [z]; exact nit b u e
    · exact nit c _ z
theorem Inv.tok (I : Inv X pins σ H s) (t : Nat) : Inv X pins σ H { s with toks := t } := I.un (h' := s.heap) (t' := t) Un.refl I.hok
/-- all objects kept -/
theorem Inv.kept {t' : Nat} (I : Inv X pins σ H s) (k : ∀ b u, s.heap.get? b = some u → h'.get? b = some u) : Inv X pins σ H { s with heap := h', toks := t' } := I.un (Un.kept k) (I.hok.kept k)
/-- a new object laid and tracked -/
theorem Inv.laid {a : Addr} {o : HO} {t' : Nat} (I : Inv X pins σ H s) (k : ∀ b u, s.heap.get? b = some u → h'.get? b = some u) (hp : s.heap.objs.size ≤ a) (new : ObjOk X.prog X.w (upd H a o) h' a o) :
    Inv X pins σ (upd H a o) { s with heap := h', toks := t' } := I.un (Un.laid k hp (I.hok.fresh hp)) (I.hok.laid k hp new)
/-- an object written -/
theorem Inv.write {x e : Addr} {o : HO} {t' : Nat} (I : Inv X pins σ H s) (mu : Mut (H x)) (he : e = x ∨ H e = some (.own x)) (k : ∀ b u, b ≠ e → s.heap.get? b = some u → h'.get? b = some u) (heo : ∃ u, h'.get? e = some u)
    (new : ObjOk X.prog X.w (upd H x o) h' x o) : Inv X pins σ (upd H x o) { s with heap := h', toks := t' } := I.un (Un.write mu he k heo) (I.hok.write mu he k heo new)
theorem Inv.pins_of {pins' : List (Addr × Obj)} (I : Inv X pins σ H s) (h : ∀ p ∈ pins', s.heap.get? p.1 = some p.2 ∧ H p.1 = none ∧ p.1 ≠ X.env.locals ∧ p.1 ∉ X.fs ∧ ∀ v, p.2.data ≠ .cell v) : Inv X pins' σ H s :=
  ⟨I.ok, I.os, I.bare, I.base, I.loc, I.cell, I.free, I.freeC, fun p hp => (List.mem_append.mp hp).elim (fun z => I.pin p (List.mem_append_left _ z)) (h p), I.hok, I.len⟩

theorem nodup_ix {N : List Str} (hN : N.Nodup) {i j : Nat} {x : Str} (a : N[i]? = some x) (b : N[j]? = some x) : i = j := by
  obtain ⟨h1, e1⟩ := List.getElem?_eq_some_iff.mp a
  obtain ⟨h2, e2⟩ := List.getElem?_eq_some_iff.mp b
  exact (List.getElem_inj hN).mp (e1.trans e2.symm)

/-- a name is stored; what changed -/
theorem store_ok2 {M : Model} {A : Around} {E : Value → Shared → Prop} {i : Nat} {x : Str} {v : V} {u : Value} {Q : Unit → Shared → Prop} (I : Inv X pins σ H s) (hN : X.N.Nodup) (hi : X.N[i]? = some x) (hx : Loc X.env.scope x) (r : RelV v u)
    (h : ∀ s', Inv X pins (σ.set i (some v)) H s' → (∃ a, Heap.SameBut a s.heap s'.heap ∧ (a = X.env.locals ∨ X.env.cells.lookup x = some a)) → Q () s') (hf : X.fn x = true ∨ X.env.scope.names.lookup x = some .local := by first | exact .inl rfl | exact .inr rfl | assumption) : wpAny M A (storeName X.env x u) Q E s := by
  obtain ⟨m, hn, hl⟩ := id I.loc
  have hcls : (X.env.scope.kind == .class || (X.env.scope.kind == .module && X.env.locals != X.env.globals)) = false := by rw [I.ok.kind]; rfl
  have hiσ : i < σ.length := by rw [I.len]; exact (List.getElem?_eq_some_iff.mp hi).1
  have cne := I.cne
  have tracked : ∀ {a : Addr} {h' : Heap}, (∃ o, s.heap.get? a = some o ∧ H a = none) → Heap.SameBut a s.heap h' → HOk X.prog X.w H h' := fun {a h'} ha hs b ob e => by
    obtain ⟨_, _, hfree⟩ := ha
    refine (I.hok b ob e).stay (fun c w' hc q => (hs.2 c ?_).trans q) (fun _ q => q) fun _ _ q => q
    rintro rfl
    rcases hc with rfl | hc
    · rw [hfree] at e; cases e
    · rw [hfree] at hc; cases hc
  rcases hx with hk | hk
  · refine wpAny_storeName_local hk hn (fun h' hn' hs => ?_) hcls
    obtain ⟨oL, _, _, hoL, _⟩ := id hn
    refine h _ ⟨I.ok, I.os, I.bare, ⟨fun b o e n hb hx => ?_, fun b o e n hb hx => ?_, I.base.free, fun b o e hx => ?_, I.base.tups, I.base.frzs, I.base.tbls⟩, ⟨_, hn', fun j y v' e1 e2 e3 => ?_⟩, fun y c e => ?_, I.free, I.freeC, fun p hp => ?_, tracked ⟨oL, hoL, I.free⟩ hs, by simpa using I.len⟩ ⟨_, hs, .inl rfl⟩
    · exact (hs.2 b (Nat.ne_of_lt (Nat.lt_of_lt_of_le (Heap.lt_size e) I.ok.above))).trans (I.base.keep b o e n hb hx)
    · obtain ⟨sl, e1⟩ := I.base.slot b o e n hb hx
      exact ⟨sl, (hs.2 b (Nat.ne_of_lt (Nat.lt_of_lt_of_le (Heap.lt_size e) I.ok.above))).trans e1⟩
    · obtain ⟨o', e1⟩ := I.base.there b o e hx
      exact ⟨o', (hs.2 b (Nat.ne_of_lt (Nat.lt_of_lt_of_le (Heap.lt_size e) I.ok.above))).trans e1⟩
    · by_cases hj : j = i
      · subst hj
        rw [hi] at e1; cases e1
        rw [List.getElem?_set_self hiσ] at e2
        cases e2
        exact ⟨u, r, .inl ⟨hk, by simp⟩⟩
      · rw [List.getElem?_set_ne (Ne.symm hj)] at e2
        obtain ⟨u', r', q⟩ := hl j y v' e1 e2 e3
        refine ⟨u', r', ?_⟩
        rcases q with ⟨k, e⟩ | ⟨k, c, e, z⟩
        · refine .inl ⟨k, ?_⟩
          have : y ≠ x := fun e => hj (nodup_ix hN e1 (e ▸ hi))
          simp [this, e]
        · exact .inr ⟨k, c, e, z.sameBut hs (cne y c e)⟩
    · obtain ⟨w', z⟩ := I.cell y c e
      exact ⟨w', z.sameBut hs (cne y c e)⟩
    · obtain ⟨e, n, ne, nf, d⟩ := I.pin p hp
      exact ⟨(hs.2 p.1 ne).trans e, n, ne, nf, d⟩
  · have hfn : X.fn x = true := by
      rcases hf with z | z
      · exact z
      · rw [z] at hk; cases hk
    obtain ⟨c, hc⟩ := I.ok.has x (.inl hk)
    obtain ⟨w', z⟩ := I.cell x c hc
    refine wpAny_storeName_cell I.ok.kind hk hc z (fun h' hc' hs => ?_)
    obtain ⟨oc, hoc, hocd⟩ := id z
    refine h { s with heap := h' } ⟨I.ok, I.os, I.bare, ⟨fun b o e n hb hx => ?_, fun b o e n hb hx => ?_, I.base.free, fun b o e hx => ?_, I.base.tups, I.base.frzs, I.base.tbls⟩, ⟨m, hn.sameBut hs (Ne.symm (cne x c hc)), fun j y v' e1 e2 e3 => ?_⟩, fun y c' e => ?_, I.free, I.freeC, fun p hp => ?_, tracked ⟨oc, hoc, I.freeC x c hc⟩ hs, by simpa using I.len⟩ ⟨c, hs, .inr hc⟩
    · exact (hs.2 b (Nat.ne_of_lt (Nat.lt_of_lt_of_le (Heap.lt_size e) (I.ok.cab x c hfn hc)))).trans (I.base.keep b o e n hb hx)
    · obtain ⟨sl, e1⟩ := I.base.slot b o e n hb hx
      exact ⟨sl, (hs.2 b (Nat.ne_of_lt (Nat.lt_of_lt_of_le (Heap.lt_size e) (I.ok.cab x c hfn hc)))).trans e1⟩
    · obtain ⟨o', e1⟩ := I.base.there b o e hx
      exact ⟨o', (hs.2 b (Nat.ne_of_lt (Nat.lt_of_lt_of_le (Heap.lt_size e) (I.ok.cab x c hfn hc)))).trans e1⟩
    · by_cases hj : j = i
      · subst hj
        rw [hi] at e1; cases e1
        rw [List.getElem?_set_self hiσ] at e2
        cases e2
        exact ⟨u, r, .inr ⟨.inl hk, c, hc, hc'⟩⟩
      · rw [List.getElem?_set_ne (Ne.symm hj)] at e2
        obtain ⟨u', r', q⟩ := hl j y v' e1 e2 e3
        refine ⟨u', r', ?_⟩
        rcases q with q | ⟨k, c', e, z'⟩
        · exact .inl q
        · refine .inr ⟨k, c', e, z'.sameBut hs ?_⟩
          rintro rfl
          exact hj (nodup_ix hN e1 (I.ok.inj _ _ _ e hc ▸ hi))
    · by_cases hcc : c' = c
      · subst hcc; exact ⟨_, hc'⟩
      · obtain ⟨w2, z2⟩ := I.cell y c' e
        exact ⟨w2, z2.sameBut hs hcc⟩
    · obtain ⟨e, n, ne, nf, d⟩ := I.pin p hp
      refine ⟨(hs.2 p.1 ?_).trans e, n, ne, nf, d⟩
      intro q
      rw [q, hoc] at e
      have q' : oc = p.2 := Option.some.inj e
      exact d w' (by rw [← q']; exact hocd)
theorem store_ok {M : Model} {A : Around} {E : Value → Shared → Prop} {i : Nat} {x : Str} {v : V} {u : Value} {Q : Unit → Shared → Prop} (I : Inv X pins σ H s) (hN : X.N.Nodup) (hi : X.N[i]? = some x) (hx : Loc X.env.scope x) (r : RelV v u)
    (h : ∀ s', Inv X pins (σ.set i (some v)) H s' → Q () s') (hf : X.fn x = true ∨ X.env.scope.names.lookup x = some .local := by first | exact .inl rfl | exact .inr rfl | assumption) : wpAny M A (storeName X.env x u) Q E s :=
  store_ok2 I hN hi hx r (fun s' I' _ => h s' I') hf
/-- behind a call or a block, the state as it is -/
theorem Inv.call' {s' : Shared} {ch : List Addr} (I : Inv X pins σ H s) (ho : s'.os = s.os) (u : Un (frs X.stack) ch H H' s.heap s'.heap) (hok : HOk X.prog X.w H' s'.heap) (hg : AllBare s'.gens)
    (hch : ∀ b ∈ ch, (b ∈ X.ex ∨ X.s₀.heap.objs.size ≤ b) ∧ b ≠ X.env.locals ∧ (∀ x c, X.env.cells.lookup x = some c → c ≠ b) ∧ ∀ p ∈ X.pn ++ pins, p.1 ≠ b) : Inv X pins σ H' s' := by
  obtain ⟨h', g', d', t', o'⟩ := s'
  have e : o' = s.os := ho
  subst e
  exact I.call (g' := g') (t' := t') (d' := d') u hok hg hch
end

/-! ### the judgements -/
/-- an exception: its class, its own dict's address (where it has one), the abstract heap behind it -/
abbrev XK := Value → Option Addr → Hp → Prop
abbrev St := List (Option V)
abbrev VK := V → Hp → Prop
/-- an expression's reading; a test's; an argument list's -/
abbrev TE := St → Hp → VK → Prop
abbrev TT := St → Hp → (Bool → Hp → Prop) → Prop
abbrev TA := St → Hp → (List V → Hp → Prop) → Prop
/-- what is wanted behind a statement -/
structure Ends where
  nx : St → Hp → Prop
  rt : VK
  bk : St → Hp → Prop := fun _ _ => False
  ct : St → Hp → Prop := fun _ _ => False
abbrev TS := Ends → St → Hp → Prop

def EP (X : Cx) (pins : List (Addr × Obj)) (σ : St) (Q : VK) (u : Value) (s' : Shared) : Prop := ∃ v H', Inv X pins σ H' s' ∧ RelV v u ∧ Q v H'
def TP (X : Cx) (pins : List (Addr × Obj)) (σ : St) (Q : Bool → Hp → Prop) (b : Bool) (s' : Shared) : Prop := ∃ H', Inv X pins σ H' s' ∧ Q b H'
def AP (X : Cx) (pins : List (Addr × Obj)) (σ : St) (Q : List V → Hp → Prop) (us : List Value) (s' : Shared) : Prop := ∃ vs H', Inv X pins σ H' s' ∧ Vals vs us ∧ Q vs H'
def SP (X : Cx) (pins : List (Addr × Obj)) (D : Ends) (f : Flow) (s' : Shared) : Prop :=
  match f with
  | .next => ∃ σ' H', Inv X pins σ' H' s' ∧ D.nx σ' H'
  | .brk => ∃ σ' H', Inv X pins σ' H' s' ∧ D.bk σ' H'
  | .cont => ∃ σ' H', Inv X pins σ' H' s' ∧ D.ct σ' H'
  | .ret u => ∃ v σ' H', Inv X pins σ' H' s' ∧ RelV v u ∧ D.rt v H'

def PE (X : Cx) (e : Expr) (t : TE) : Prop :=
  ∀ (pins : List (Addr × Obj)) (s : Shared) (σ : St) (H : Hp) (Q : VK), Inv X pins σ H s → t σ H Q → wpAny (model X.prog X.w) X.A (eval e X.env) (EP X pins σ Q) X.xe s
def PT (X : Cx) (e : Expr) (t : TT) : Prop :=
  ∀ (pins : List (Addr × Obj)) (s : Shared) (σ : St) (H : Hp) (Q : Bool → Hp → Prop), Inv X pins σ H s → t σ H Q → wpAny (model X.prog X.w) X.A (isTrue e X.env (eval e X.env)) (TP X pins σ Q) X.xe s
/-- a test whatever its 'whole' is (and, or) -/
def PW (X : Cx) (e : Expr) (t : TT) : Prop :=
  ∀ (whole : Sem Value) (pins : List (Addr × Obj)) (s : Shared) (σ : St) (H : Hp) (Q : Bool → Hp → Prop), Inv X pins σ H s → t σ H Q → wpAny (model X.prog X.w) X.A (isTrue e X.env whole) (TP X pins σ Q) X.xe s
theorem PW.pt {X : Cx} {e : Expr} {t : TT} (h : PW X e t) : PT X e t := h _
/-- an argument list (no star), from the left -/
def PA (X : Cx) (es : List Expr) (t : TA) : Prop :=
  ∀ (pos : Pos) (pins : List (Addr × Obj)) (s : Shared) (σ : St) (H : Hp) (Q : List V → Hp → Prop), Inv X pins σ H s → t σ H Q → wpAny (model X.prog X.w) X.A (spliced (backTo pos (starEach es X.env))) (AP X pins σ Q) X.xe s
def PS (X : Cx) (st : Stmt) (t : TS) : Prop :=
  ∀ (pins : List (Addr × Obj)) (s : Shared) (σ : St) (H : Hp) (D : Ends), Inv X pins σ H s → t D σ H → wpAny (model X.prog X.w) X.A (exec st X.env) (SP X pins D) X.xe s
def PSs (X : Cx) (st : List Stmt) (t : TS) : Prop :=
  ∀ (pins : List (Addr × Obj)) (s : Shared) (σ : St) (H : Hp) (D : Ends), Inv X pins σ H s → t D σ H → wpAny (model X.prog X.w) X.A (execs st X.env) (SP X pins D) X.xe s
/-- weaken the end -/
theorem thn {α : Type} {t : Sem α} {Q Q' : α → Shared → Prop} {M : Model} {A : Around} {E : Value → Shared → Prop} {s : Shared} (h : wpAny M A t Q E s) (hQ : ∀ a s, Q a s → Q' a s) : wpAny M A t Q' E s := wpAny_mono h hQ fun _ _ x => x
end L2

namespace L2
open PySem PySem.Spec PyProof.Rows
section
variable {X : Cx}

/-! ### names and constants -/
def tVar (i : Nat) : TE := fun σ H Q => ∃ v, σ[i]? = some (some v) ∧ Q v H
def tC (v : V) : TE := fun _ H Q => Q v H
theorem pe_var {i : Nat} {x : Str} {pos : Pos} (hN : X.N[i]? = some x) (hv : Vis X.env.scope x) (hd : (x == ("__debug__" : Str)) = false := by decide) (hcd : (x == ("__classdict__" : Str)) = false := by decide) : PE X (.Name x pos) (tVar i) := by
  intro pins s σ H Q I h
  obtain ⟨v, e, h⟩ := h
  obtain ⟨m, hn, hl⟩ := I.loc
  obtain ⟨u, r, l⟩ := hl i x v hN e hv
  have fin : EP X pins σ Q u s := ⟨v, H, I, r, h⟩
  rcases l with ⟨hk, hm⟩ | ⟨hk, c, hc, hcell⟩
  · exact wpAny_Name (wpAny_loadName_local I.ok.kind hk hn hm fin) hd
  · rcases hk with hk | hk
    · exact wpAny_Name (wpAny_loadName_cell I.ok.kind hk hc hcell fin) hd
    · exact wpAny_Name (wpAny_loadName_free I.ok.kind hk hc hcell fin hcd) hd
theorem pe_int {i j pos} : PE X (.Constant (.int i) j pos) (tC (.int i)) := fun _ _ _ H _ I h => wpAny_Constant_int ⟨.int i, H, I.tok _, ⟨_, rfl⟩, h⟩
theorem pe_bl {b j pos} : PE X (.Constant (.bool b) j pos) (tC (.bl b)) := fun _ _ _ H _ I h => Constant_bool ⟨.bl b, H, I, rfl, h⟩
theorem pe_non {j pos} : PE X (.Constant .none j pos) (tC .non) := fun _ _ _ H _ I h => Constant_none ⟨.non, H, I, rfl, h⟩
/-- a global name of the def -/
def Gl (X : Cx) (x : Str) : Prop := X.env.kindOf x = some .globalImplicit
theorem ld_glob {E : Value → Shared → Prop} {pins : List (Addr × Obj)} {s : Shared} {σ : St} {H : Hp} {x : Str} {u : Value} {pos : Pos} {Q : Value → Shared → Prop} (I : Inv X pins σ H s) (hg : Gl X x) (hm : X.mg x = some u) (h : Q u s)
    (hd : (x == ("__debug__" : Str)) = false := by decide) : wpAny (model X.prog X.w) X.A (eval (.Name x pos) X.env) Q E s :=
  Calls.Name_function_global I.ok.kind hg (Calls.loadGlobal_global (by rw [I.ok.glob]; exact I.mod.glob.keeps I.bk) hm h) hd
theorem ld_blt {E : Value → Shared → Prop} {pins : List (Addr × Obj)} {s : Shared} {σ : St} {H : Hp} {x : Str} {u : Value} {pos : Pos} {Q : Value → Shared → Prop} (I : Inv X pins σ H s) (hg : Gl X x) (hm : X.mg x = none) (hv : bootBuiltins x = some u) (h : Q u s)
    (hn : x ≠ "__name__" := by decide) (hd : (x == ("__debug__" : Str)) = false := by decide) : wpAny (model X.prog X.w) X.A (eval (.Name x pos) X.env) Q E s := by
  obtain ⟨mb, h1, h2⟩ := I.mod.blt
  exact Calls.Name_function_global I.ok.kind hg (Calls.loadGlobal_builtin (by rw [I.ok.glob]; exact I.mod.glob.keeps I.bk) hm (by rw [I.ok.blt]; exact h1.keeps I.bk) ((h2 x hn).trans hv) h) hd
/-- a module's constant, a class, a function, as a value -/
theorem pe_glob {x : Str} {v : V} {u : Value} {pos : Pos} (hg : Gl X x) (hm : X.mg x = some u) (r : RelV v u) (hd : (x == ("__debug__" : Str)) = false := by decide) : PE X (.Name x pos) (tC v) :=
  fun _ _ _ H _ I h => ld_glob I hg hm ⟨v, H, I, r, h⟩ hd
theorem pe_bltn {x : Str} {v : V} {u : Value} {pos : Pos} (hg : Gl X x) (hm : X.mg x = none) (hv : bootBuiltins x = some u) (r : RelV v u) (hn : x ≠ "__name__" := by decide) (hd : (x == ("__debug__" : Str)) = false := by decide) : PE X (.Name x pos) (tC v) :=
  fun _ _ _ H _ I h => ld_blt I hg hm hv ⟨v, H, I, r, h⟩ hn hd

/-! ### arithmetic -/
variable {a b : Expr} {ta tb : TE} {pos : Pos}
/-! ### comparisons -/
def PC (X : Cx) (op : CmpOp) (a b : Expr) (t : TE) : Prop :=
  ∀ (pins : List (Addr × Obj)) (s : Shared) (σ : St) (H : Hp) (Q : VK), Inv X pins σ H s → t σ H Q →
    wpAny (model X.prog X.w) X.A (eval a X.env) (fun v s₁ => wpAny (model X.prog X.w) X.A (eval b X.env) (fun u s₂ => wpAny (model X.prog X.w) X.A (compareOp op v u) (EP X pins σ Q) X.xe s₂) X.xe s₁) X.xe s
theorem nobehind (b : Expr) {op : CmpOp} (h : op ≠ .In) (h2 : op ≠ .NotIn) : behindInMarks op b = false := by
  have e1 : (op == CmpOp.In) = false := by cases op <;> first | rfl | exact absurd rfl h
  have e2 : (op == CmpOp.NotIn) = false := by cases op <;> first | rfl | exact absurd rfl h2
  cases b <;> simp [behindInMarks, e1, e2]
/-- a comparison as a value, as a test -/
def tB (t : TE) : TT := fun σ H Q => t σ H fun x H1 => ∃ c, x = .bl c ∧ Q c H1
theorem pe_cmp {op : CmpOp} {t : TE} (h : PC X op a b t) (h1 : behindInMarks op b = false := by first | exact nobehind _ (by decide) (by decide) | rfl) : PE X (.Compare a [op] [b] pos) t := fun pins s σ H Q I hw => wpAny_Compare1 (h pins s σ H Q I hw) h1
/-! ### and, or, not -/
variable {tA tB' : TT} {rest : List Expr}
def tAnd (t u : TT) : TT := fun σ H Q => t σ H fun c H1 => if c = true then u σ H1 Q else Q false H1
def tOr (t u : TT) : TT := fun σ H Q => t σ H fun c H1 => if c = true then Q true H1 else u σ H1 Q
def tNot (t : TT) : TT := fun σ H Q => t σ H fun c H1 => Q (!c) H1
theorem pw_and1 (ha : PT X a tA) : PW X (.BoolOp .And [a] pos) tA := by
  intro wh pins s σ H Q I h
  refine isTrue_and (thn (ha pins s σ H Q I h) fun c s1 e => ?_)
  cases c with
  | true => exact isTrue_and_nil e
  | false => exact e
theorem pw_or1 (ha : PT X a tA) : PW X (.BoolOp .Or [a] pos) tA := by
  intro wh pins s σ H Q I h
  refine isTrue_or (thn (ha pins s σ H Q I h) fun c s1 e => ?_)
  cases c with
  | false => exact isTrue_or_nil e
  | true => exact e
theorem pw_and (ha : PT X a tA) (hb : PW X (.BoolOp .And (b :: rest) pos) tB') : PW X (.BoolOp .And (a :: b :: rest) pos) (tAnd tA tB') := by
  intro wh pins s σ H Q I h
  refine isTrue_and (thn (ha pins s σ H _ I h) fun c s1 ⟨H1, I1, q1⟩ => ?_)
  cases c with
  | true => exact hb wh pins s1 σ H1 Q I1 q1
  | false => exact ⟨H1, I1, q1⟩
theorem pw_or (ha : PT X a tA) (hb : PW X (.BoolOp .Or (b :: rest) pos) tB') : PW X (.BoolOp .Or (a :: b :: rest) pos) (tOr tA tB') := by
  intro wh pins s σ H Q I h
  refine isTrue_or (thn (ha pins s σ H _ I h) fun c s1 ⟨H1, I1, q1⟩ => ?_)
  cases c with
  | true => exact ⟨H1, I1, q1⟩
  | false => exact hb wh pins s1 σ H1 Q I1 q1
theorem pt_not (ha : PT X a tA) : PT X (.UnaryOp .Not a pos) (tNot tA) := by
  intro pins s σ H Q I h
  exact isTrue_not (ha pins s σ H (fun c H1 => Q (!c) H1) I h)
theorem pe_one {op} {t : TE} (h : PE X a t) : PE X (.BoolOp op [a] pos) t := fun pins s σ H Q I hw => BoolOp_one (h pins s σ H Q I hw)
/-- a if t else b -/
def tIf (t : TT) (ta tb : TE) : TE := fun σ H Q => t σ H fun c H1 => if c = true then ta σ H1 Q else tb σ H1 Q
end
end L2

namespace L2
open PySem PySem.Spec PyProof.Rows

/-! ### a list, a tuple that is read: tracked, frozen, or an object of the module -/
def SqL (K : PySem.W.Frag) (H : Hp) (a : Addr) (xs : List V) : Prop :=
  Rd H a (.lst xs) ∨
    ∃ (o : Obj) (its : Array Value) (n : Nat), K.lookup a = some o ∧ o.cls = .type "list" ∧ o.dict = none ∧ o.data = .seq its n ∧ its.size ≤ sizeLine ∧ Vals xs its.toList
def SqT (K : PySem.W.Frag) (H : Hp) (a : Addr) (xs : List V) : Prop :=
  Rd H a (.tup xs) ∨
    ∃ (o : Obj) (its : Array Value) (n : Nat), K.lookup a = some o ∧ o.cls = .type "tuple" ∧ o.data = .seq its n ∧ its.size ≤ sizeLine ∧ Vals xs its.toList
def absV : Value → Option V
  | .none => some .non
  | .bool b => some (.bl b)
  | .int i _ => some (.int i)
  | .str x _ => some (.str x)
  | .bytes b _ => some (.byt b)
  | .float b _ => some (.flt b)
  | .ref a => some (.ref a)
  | .type n => some (.ty n)
  | _ => none
theorem RelV.abs {x : V} {u : Value} (r : RelV x u) : absV u = some x := by
  cases x with
  | non => cases r; rfl
  | bl _ => cases r; rfl
  | int _ => obtain ⟨t, rfl⟩ := r; rfl
  | str _ => obtain ⟨t, rfl⟩ := r; rfl
  | byt _ => obtain ⟨t, rfl⟩ := r; rfl
  | flt _ => obtain ⟨t, rfl⟩ := r; rfl
  | ref _ => cases r; rfl
  | ty _ => cases r; rfl
theorem RelV.inj {x y : V} {u : Value} (r : RelV x u) (q : RelV y u) : x = y := Option.some.inj (r.abs.symm.trans q.abs)
theorem Vals.inj : ∀ {xs ys : List V} {us : List Value}, Vals xs us → Vals ys us → xs = ys
  | _, _, _, .nil, .nil => rfl
  | _, _, _, .cons r t, .cons r' t' => by rw [r.inj r', Vals.inj t t']
section
variable {X : Cx} {pins : List (Addr × Obj)} {σ : St} {H : Hp} {s : Shared} {a : Addr} {xs ys : List V}
theorem SqL.of {K : PySem.W.Frag} (h : H a = some (.lst xs)) : SqL K H a xs := .inl (.inl h)
theorem SqT.of {K : PySem.W.Frag} (h : H a = some (.tup xs)) : SqT K H a xs := .inl (.inl h)
theorem Inv.list (I : Inv X pins σ H s) (h : SqL X.K H a xs) : ∃ its : List Value, Vals xs its ∧ PlainL s.heap a its.toArray ∧ xs.length ≤ sizeLine := by
  rcases h with h | ⟨o, its, n, hk, hc, hd, hs, hz, r⟩
  · obtain ⟨z, its, n, r, e⟩ := h.ok I.hok
    exact ⟨its, r, ⟨_, n, e, rfl, rfl, rfl⟩, z⟩
  · refine ⟨its.toList, r, ⟨o, n, I.kIn a o hk, hc, hd, by simpa using hs⟩, ?_⟩
    have e := r.length
    simp only [Array.length_toList] at e
    omega
theorem Inv.tuple (I : Inv X pins σ H s) (h : SqT X.K H a xs) : ∃ its : List Value, Vals xs its ∧ IsTup s.heap a its.toArray ∧ xs.length ≤ sizeLine := by
  rcases h with h | ⟨o, its, n, hk, hc, hs, hz, r⟩
  · obtain ⟨z, its, r, p⟩ := h.ok I.hok
    exact ⟨its, r, p, z⟩
  · refine ⟨its.toList, r, ⟨o, I.kIn a o hk, hc, n, by simpa using hs⟩, ?_⟩
    have e := r.length
    simp only [Array.length_toList] at e
    omega
theorem Inv.list_inj (I : Inv X pins σ H s) (h : SqL X.K H a xs) (h' : SqL X.K H a ys) : xs = ys := by
  obtain ⟨its, r, ⟨o, n, e, _, _, d⟩, _⟩ := I.list h
  obtain ⟨its', r', ⟨o', n', e', _, _, d'⟩, _⟩ := I.list h'
  rw [e] at e'; cases e'
  rw [d] at d'
  injection d' with d1 _
  have : its = its' := by simpa using congrArg Array.toList d1
  subst this
  exact r.inj r'
theorem Inv.tuple_inj (I : Inv X pins σ H s) (h : SqT X.K H a xs) (h' : SqT X.K H a ys) : xs = ys := by
  obtain ⟨its, r, ⟨o, e, _, n, d⟩, _⟩ := I.tuple h
  obtain ⟨its', r', ⟨o', e', _, n', d'⟩, _⟩ := I.tuple h'
  rw [e] at e'; cases e'
  rw [d] at d'
  injection d' with d1 _
  have : its = its' := by simpa using congrArg Array.toList d1
  subst this
  exact r.inj r'
end

/-! ### another wish about exceptions -/
abbrev Cx.wish (X : Cx) (E : Value → Shared → Prop) : Cx := { X with xe := E }
/-- no exception leaves -/
abbrev Cx.nox (X : Cx) : Cx := X.wish fun _ _ => False
theorem Cx.Ok.wish {X : Cx} (ok : X.Ok) (E : Value → Shared → Prop) : (X.wish E).Ok :=
  ⟨ok.mod, ok.kind, ok.glob, ok.blt, ok.above, ok.inj, ok.has, ok.cab, ok.hd, ok.frames, ok.stk, ok.exf, ok.bs, ok.bsz, ok.noex, ok.exfs, ok.funs, ok.frf⟩
theorem Cx.Ok.unwish {X : Cx} {E : Value → Shared → Prop} (ok : (X.wish E).Ok) : X.Ok :=
  ⟨ok.mod, ok.kind, ok.glob, ok.blt, ok.above, ok.inj, ok.has, ok.cab, ok.hd, ok.frames, ok.stk, ok.exf, ok.bs, ok.bsz, ok.noex, ok.exfs, ok.funs, ok.frf⟩
section
variable {X : Cx} {pins : List (Addr × Obj)} {σ : St} {H : Hp} {s : Shared} {E : Value → Shared → Prop}
theorem Inv.wish (I : Inv X pins σ H s) (E : Value → Shared → Prop) : Inv (X.wish E) pins σ H s := ⟨I.ok.wish E, I.os, I.bare, I.base, I.loc, I.cell, I.free, I.freeC, I.pin, I.hok, I.len⟩
theorem Inv.unwish (I : Inv (X.wish E) pins σ H s) : Inv X pins σ H s := ⟨I.ok.unwish, I.os, I.bare, I.base, I.loc, I.cell, I.free, I.freeC, I.pin, I.hok, I.len⟩
theorem SP.unwish {D : Ends} {f : Flow} {s' : Shared} (h : SP (X.wish E) pins D f s') : SP X pins D f s' := by
  cases f with
  | next => obtain ⟨σ', H', I, q⟩ := h; exact ⟨σ', H', I.unwish, q⟩
  | brk => obtain ⟨σ', H', I, q⟩ := h; exact ⟨σ', H', I.unwish, q⟩
  | cont => obtain ⟨σ', H', I, q⟩ := h; exact ⟨σ', H', I.unwish, q⟩
  | ret u => obtain ⟨v, σ', H', I, r, q⟩ := h; exact ⟨v, σ', H', I.unwish, r, q⟩
theorem PE.nox {e : Expr} {t : TE} (h : PE X.nox e t) : PE X e t := fun pins s σ H Q I hw =>
  wpAny_mono (h pins s σ H Q (I.wish _) hw) (fun _ _ ⟨v, H', I', r, q⟩ => ⟨v, H', I'.unwish, r, q⟩) fun _ _ z => False.elim z
theorem PT.nox {e : Expr} {t : TT} (h : PT X.nox e t) : PT X e t := fun pins s σ H Q I hw =>
  wpAny_mono (h pins s σ H Q (I.wish _) hw) (fun _ _ ⟨H', I', q⟩ => ⟨H', I'.unwish, q⟩) fun _ _ z => False.elim z
theorem PSs.nox {st : List Stmt} {t : TS} (h : PSs X.nox st t) : PSs X st t := fun pins s σ H D I hw =>
  wpAny_mono (h pins s σ H D (I.wish _) hw) (fun _ _ q => q.unwish) fun _ _ z => False.elim z
end

/-! ### blocks and small statements -/
section
variable {X : Cx} {st : Stmt} {rest : List Stmt} {t u : TS} {e : Expr} {te : TE} {pos : Pos}
def tNext : TS := fun D σ H => D.nx σ H
def tSeq (t u : TS) : TS := fun D σ H => t { D with nx := u D } σ H
theorem pss_nil : PSs X [] tNext := fun _ _ σ H _ I h => wpAny_execs_nil ⟨σ, H, I, h⟩
theorem pss_cons (h1 : PS X st t) (h2 : PSs X rest u) : PSs X (st :: rest) (tSeq t u) := by
  intro pins s σ H D I h
  refine wpAny_execs_cons (thn (h1 pins s σ H { D with nx := u D } I h) fun f s1 q => ?_)
  cases f with
  | next =>
    obtain ⟨σ', H', I', q⟩ := q
    exact h2 pins s1 σ' H' D I' q
  | ret v => exact q
  | brk => exact q
  | cont => exact q
theorem pss_one (h1 : PS X st t) : PSs X [st] t := by
  intro pins s σ H D I h
  refine wpAny_execs_cons (thn (h1 pins s σ H D I h) fun f s1 q => ?_)
  cases f with
  | next => exact wpAny_execs_nil q
  | ret v => exact q
  | brk => exact q
  | cont => exact q
/-- in a def's body nothing is shown -/
theorem Inv.quiet {pins : List (Addr × Obj)} {σ : St} {H : Hp} {s : Shared} (I : Inv X pins σ H s) : interactive X.env = false := by simp [interactive, I.ok.kind]
/-- an expression whose value is dropped -/
def tDrop (te : TE) : TS := fun D σ H => te σ H fun _ H1 => D.nx σ H1
theorem ps_expr (he : PE X e te) (hs : swapsWith e none pos.line X.env = pure false := by rfl) : PS X (.Expr e pos) (tDrop te) := by
  intro pins s σ H D I h
  exact wpAny_Expr_any (thn (he pins s σ H _ I h) fun v s1 ⟨x, H1, I1, r1, q1⟩ => ⟨σ, H1, I1, q1⟩) I.quiet hs
def tRet (te : TE) : TS := fun D σ H => te σ H D.rt
theorem ps_ret (he : PE X e te) : PS X (.Return (some e) pos) (tRet te) := by
  intro pins s σ H D I h
  exact wpAny_Return_some (thn (he pins s σ H _ I h) fun v s1 ⟨x, H1, I1, r1, q1⟩ => ⟨x, σ, H1, I1, r1, q1⟩)
def tRetN : TS := fun D _ H => D.rt .non H
def tIfS (c : TT) (t u : TS) : TS := fun D σ H => c σ H fun b H1 => if b = true then t D σ H1 else u D σ H1
theorem ps_if {c : Expr} {a b : List Stmt} {tc : TT} (hc : PT X c tc) (ha : PSs X a t) (hb : PSs X b u) : PS X (.If c a b pos) (tIfS tc t u) := by
  intro pins s σ H D I h
  refine wpAny_If (thn (hc pins s σ H _ I h) fun d s1 ⟨H1, I1, q1⟩ => ?_)
  cases d with
  | true => exact ha pins s1 σ H1 D I1 q1
  | false => exact hb pins s1 σ H1 D I1 q1
/-- code that the proof never comes to -/
def tNever : TS := fun _ _ _ => False
theorem ps_never : PS X st tNever := fun _ _ _ _ _ _ h => h.elim
end

/-! ### targets -/
abbrev TG := V → St → Hp → (St → Hp → Prop) → Prop
abbrev TGs := List V → St → Hp → (St → Hp → Prop) → Prop
def PG (X : Cx) (target : Expr) (t : TG) : Prop :=
  ∀ (pins : List (Addr × Obj)) (s : Shared) (σ : St) (H : Hp) (v : V) (u : Value) (Q : St → Hp → Prop), Inv X pins σ H s → RelV v u → t v σ H Q →
    wpAny (model X.prog X.w) X.A (assign target X.env u) (fun _ s' => ∃ σ' H', Inv X pins σ' H' s' ∧ Q σ' H') X.xe s
/-- several targets, one after another -/
def PGs (X : Cx) (ts : List Expr) (t : TGs) : Prop :=
  ∀ (pins : List (Addr × Obj)) (s : Shared) (σ : St) (H : Hp) (vs : List V) (us : List Value) (Q : St → Hp → Prop), Inv X pins σ H s → Vals vs us → t vs σ H Q →
    wpAny (model X.prog X.w) X.A (assignInOrder ((assignEach ts X.env).map (·.2)) us) (fun _ s' => ∃ σ' H', Inv X pins σ' H' s' ∧ Q σ' H') X.xe s
/-- o[i] = v, by values -/
abbrev TSet := V → V → V → Hp → (Hp → Prop) → Prop
def PSet (X : Cx) (t : TSet) : Prop :=
  ∀ (pins : List (Addr × Obj)) (s : Shared) (σ : St) (H : Hp) (o i v : V) (ov iv u : Value) (Q : Hp → Prop), Inv X pins σ H s → RelV o ov → RelV i iv → RelV v u → t o i v H Q →
    wpAny (model X.prog X.w) X.A (setItem ov iv u) (fun _ s' => ∃ H', Inv X pins σ H' s' ∧ Q H') X.xe s
/-- a op= b, by values -/
abbrev TIp := V → V → Hp → VK → Prop
def PIp (X : Cx) (op : Operator) (t : TIp) : Prop :=
  ∀ (pins : List (Addr × Obj)) (s : Shared) (σ : St) (H : Hp) (x y : V) (v u : Value) (Q : VK), Inv X pins σ H s → RelV x v → RelV y u → t x y H Q →
    wpAny (model X.prog X.w) X.A (inplaceOp op v u) (EP X pins σ Q) X.xe s
section
variable {X : Cx} {pos : Pos}
def gName (i : Nat) : TG := fun v σ H Q => Q (σ.set i (some v)) H
theorem pg_name {i : Nat} {x : Str} (hN : X.N.Nodup) (hi : X.N[i]? = some x) (hx : Loc X.env.scope x) (hf : X.fn x = true ∨ X.env.scope.names.lookup x = some .local := by first | exact .inl rfl | exact .inr rfl | assumption) : PG X (.Name x pos) (gName i) := by
  intro pins s σ H v u Q I r h
  exact wpAny_assign_Name (store_ok I hN hi hx r (fun s' I' => ⟨_, H, I', h⟩) hf)
def gNil : TGs := fun vs σ H Q => vs = [] ∧ Q σ H
def gCons (t : TG) (u : TGs) : TGs := fun vs σ H Q => ∃ v r, vs = v :: r ∧ t v σ H fun σ' H' => u r σ' H' Q
theorem pgs_nil : PGs X [] gNil := by
  intro pins s σ H vs us Q I r h
  obtain ⟨e, h⟩ := h
  subst e
  cases r
  exact assignInOrder_nil ⟨σ, H, I, h⟩
theorem pgs_cons {e : Expr} {es : List Expr} {t : TG} {u : TGs} (h1 : PG X e t) (h2 : PGs X es u)
    (hs : (assignEach (e :: es) X.env).map (·.2) = assign e X.env :: (assignEach es X.env).map (·.2) := by rfl) : PGs X (e :: es) (gCons t u) := by
  intro pins s σ H vs us Q I r h
  obtain ⟨v, vr, e1, h⟩ := h
  subst e1
  cases r with
  | cons r rr =>
    rw [hs]
    refine assignInOrder_cons (thn (h1 pins s σ H _ _ _ I r h) fun _ s1 ⟨σ1, H1, I1, q1⟩ => ?_)
    exact h2 pins s1 σ1 H1 _ _ Q I1 rr q1
/-- (a, b, ..) = a tuple of that length -/
def gTup (K : PySem.W.Frag) (n : Nat) (t : TGs) : TG := fun v σ H Q => ∃ a xs, v = .ref a ∧ SqT K H a xs ∧ xs.length = n ∧ t xs σ H Q
theorem pg_tup {es : List Expr} {k : Nat} {t : TGs} {n : Nat} (hc : X.calm = true) (h : PGs X es t)
    (hn : (assignEach es X.env).length = n := by rfl) (hst : (assignEach es X.env).findIdx? (·.1) = none := by rfl) : PG X (.Tuple es k pos) (gTup X.K n t) := by
  intro pins s σ H v u Q I r hw
  obtain ⟨a, xs, e1, hq, hl, hw⟩ := hw
  subst e1
  cases r
  obtain ⟨its, rv, ht, hz⟩ := I.tuple hq
  refine assign_Tuple_tuple (I.ok.hd hc) ht (by simp [hn, ← hl, rv.length]) hst fun h' hx => ?_
  have I1 : Inv X pins σ H { s with heap := h' } := I.kept (t' := s.toks) fun b o e => hx b o (Nat.ne_of_lt (Heap.lt_size e)) e
  exact h pins _ σ H xs _ Q I1 (by simpa using rv) hw
/-- o[i] = .. -/
def gSub (to ti : TE) (t : TSet) : TG := fun v σ H Q => to σ H fun o H1 => ti σ H1 fun i H2 => t o i v H2 fun H3 => Q σ H3
theorem pg_sub {o i : Expr} {to ti : TE} {t : TSet} (ho : PE X o to) (hi : PE X i ti) (hs : PSet X t)
    (ha : ∀ v, assign (.Subscript o i pos) X.env v = (do
      let ov ← holding [v] (eval o X.env)
      let iv ← holding [v, ov] (eval i X.env)
      standAt pos
      holding [v, ov, iv] (setItem ov iv v)
      release [v, ov, iv] []) := by intro _; rfl) : PG X (.Subscript o i pos) (gSub to ti t) := by
  intro pins s σ H v u Q I r h
  rw [ha]
  refine wpAny_bind (wpAny_holding (thn (ho pins s σ H _ I h) fun ov s1 ⟨x, H1, I1, r1, q1⟩ => ?_))
  refine wpAny_bind (wpAny_holding (thn (hi pins s1 σ H1 _ I1 q1) fun iv s2 ⟨y, H2, I2, r2, q2⟩ => ?_))
  refine wpAny_bind (wpAny_standAt (wpAny_bind (wpAny_holding (thn (hs pins s2 σ H2 x y v ov iv u _ I2 r1 r2 r q2) fun _ s3 ⟨H3, I3, q3⟩ => ?_))))
  exact wpAny_release ⟨σ, H3, I3, q3⟩
/-- target = value -/
def tAsg (te : TE) (g : TG) : TS := fun D σ H => te σ H fun x H1 => g x σ H1 D.nx
theorem ps_asg {tg e : Expr} {te : TE} {g : TG} (he : PE X e te) (hg : PG X tg g) (hs : swapsWithSole [tg] e pos.line X.env = pure false := by rfl) (hw : swappedStores [tg] e X.env = pure none := by rfl)
    (h1 : (assignEach [tg] X.env).map (·.2) = [assign tg X.env] := by rfl) : PS X (.Assign [tg] e pos) (tAsg te g) := by
  intro pins s σ H D I h
  refine wpAny_Assign_stores (thn (he pins s σ H _ I h) fun v s1 ⟨x, H1, I1, r1, q1⟩ => ?_) hs hw
  rw [h1]
  exact thn (hg pins s1 σ H1 x v _ I1 r1 q1) fun _ s2 q => q
/-- name = value -/
theorem ps_set {i : Nat} {x : Str} {e : Expr} {te : TE} {pos' : Pos} (hN : X.N.Nodup) (hi : X.N[i]? = some x) (hx : Loc X.env.scope x) (he : PE X e te) (hs : swapsWith e (some (.Name x pos')) pos.line X.env = pure false := by rfl) (hf : X.fn x = true ∨ X.env.scope.names.lookup x = some .local := by first | exact .inl rfl | exact .inr rfl | assumption) :
    PS X (.Assign [.Name x pos'] e pos) (tAsg te (gName i)) := by
  intro pins s σ H D I h
  refine wpAny_Assign_Name (thn (he pins s σ H _ I h) fun v s1 ⟨y, H1, I1, r1, q1⟩ => ?_) hs
  exact store_ok I1 hN hi hx r1 (fun s2 I2 => ⟨_, H1, I2, q1⟩) hf
/-- name op= e -/
def tAug (i : Nat) (te : TE) (ti : TIp) : TS := fun D σ H => ∃ x, σ[i]? = some (some x) ∧ te σ H fun y H1 => ti x y H1 fun z H2 => D.nx (σ.set i (some z)) H2
theorem ps_aug {i : Nat} {x : Str} {e : Expr} {te : TE} {op : Operator} {ti : TIp} {pos' : Pos} (hN : X.N.Nodup) (hi : X.N[i]? = some x) (hx : Loc X.env.scope x) (he : PE X e te) (ho : PIp X op ti) (hf : X.fn x = true ∨ X.env.scope.names.lookup x = some .local := by first | exact .inl rfl | exact .inr rfl | assumption) :
    PS X (.AugAssign (.Name x pos') op e pos) (tAug i te ti) := by
  intro pins s σ H D I h
  obtain ⟨v, e1, h⟩ := h
  obtain ⟨m, hn, hl⟩ := I.loc
  have vis : Vis X.env.scope x := by rcases hx with k | k; exact .inl k; exact .inr (.inl k)
  obtain ⟨u, r, l⟩ := hl i x v hi e1 vis
  refine wpAny_AugAssign_Name ?_
  have go : wpAny (model X.prog X.w) X.A (eval e X.env) (fun w s₂ => wpAny (model X.prog X.w) X.A (inplaceOp op u w) (fun r s₃ => wpAny (model X.prog X.w) X.A (storeName X.env x r) (fun _ => SP X pins D .next) X.xe s₃) X.xe s₂) X.xe s := by
    refine thn (he pins s σ H _ I h) fun w s1 ⟨y, H1, I1, r1, q1⟩ => ?_
    refine thn (ho pins s1 σ H1 v y u w _ I1 r r1 q1) fun z s2 ⟨zv, H2, I2, r2, q2⟩ => ?_
    exact store_ok I2 hN hi hx r2 (fun s3 I3 => ⟨_, H2, I3, q2⟩) hf
  rcases l with ⟨hk, hm⟩ | ⟨hk, c, hc, hcell⟩
  · exact wpAny_loadName_local I.ok.kind hk hn hm go
  · rcases hk with hk | hk
    · exact wpAny_loadName_cell I.ok.kind hk hc hcell go
    · rcases hx with k | k
      · have : X.env.scope.names.lookup x = some .free := hk
        rw [k] at this; cases this
      · have : X.env.scope.names.lookup x = some .free := hk
        rw [k] at this; cases this
end

/-! ### while -/
section
variable {X : Cx} {pos : Pos}
/-- the invariant W with its measure -/
def tWhile (c : TT) (tb : TS) : TS := fun D σ H => ∃ W : Nat → St → Hp → Prop, (∃ m, W m σ H) ∧ ∀ m σ H, W m σ H →
  c σ H fun b H1 => if b = true then ∃ N : St → Hp → Prop, (∀ σ' H', N σ' H' → ∃ m', m' < m ∧ W m' σ' H') ∧ tb { D with nx := N, ct := N, bk := D.nx } σ H1 else D.nx σ H1
theorem ps_while {c : Expr} {body : List Stmt} {tc : TT} {tb : TS} (hp : PassesOwn (model X.prog X.w) X.A X.env X.xe) (hc : PT X c tc) (hb : PSs X body tb) : PS X (.While c body [] pos) (tWhile tc tb) := by
  intro pins s σ H D I h
  obtain ⟨W, ⟨m0, w0⟩, turn⟩ := h
  refine wpAny_While (codeAny_whileLoop (fun n s' => ∃ σ' H', Inv X pins σ' H' s' ∧ W n σ' H') ?_ m0 ⟨σ, H, I, w0⟩)
  rintro n s1 ⟨σ1, H1, I1, w1⟩
  refine wpAny_passesOwn hp (thn (hc pins s1 σ1 H1 _ I1 (turn n σ1 H1 w1)) fun b s2 ⟨H2, I2, q2⟩ => ?_)
  cases b with
  | true =>
    obtain ⟨N, hN, q2⟩ := q2
    rw [if_pos rfl]
    refine wpAny_passesOwn hp (thn (hb pins s2 σ1 H2 _ I2 q2) fun f s3 q3 => ?_)
    cases f with
    | next =>
      obtain ⟨σ3, H3, I3, n3⟩ := q3
      obtain ⟨m', hm, w3⟩ := hN σ3 H3 n3
      exact ⟨m', hm, σ3, H3, I3, w3⟩
    | cont =>
      obtain ⟨σ3, H3, I3, n3⟩ := q3
      obtain ⟨m', hm, w3⟩ := hN σ3 H3 n3
      exact ⟨m', hm, σ3, H3, I3, w3⟩
    | brk => exact q3
    | ret v => exact q3
  | false =>
    rw [if_neg Bool.false_ne_true]
    exact wpAny_execs_nil ⟨σ1, H2, I2, q2⟩
end

/-! ### what a loop or a comprehension walks -/
/-- at turn i: it yields x (the heap may grow), or it stops -/
structure It where
  go : Nat → Hp → Prop
  yld : Nat → Hp → V → Hp → Prop
  stop : Nat → Hp → Prop
/-- the iterator's own objects may turn: they are not the frame's, not pinned, younger than the entry (or a comprehension's own) -/
def FpOk (X : Cx) (pins : List (Addr × Obj)) (H : Hp) (b : Addr) : Prop :=
  H b = none ∧ b ≠ X.env.locals ∧ b ∉ X.fs ∧ (b ∈ X.ex ∨ X.s₀.heap.objs.size ≤ b) ∧ (∀ x c, X.env.cells.lookup x = some c → c ≠ b) ∧ ∀ p ∈ X.pn ++ pins, p.1 ≠ b
theorem Inv.fpOk {X : Cx} {pins : List (Addr × Obj)} {σ : St} {H H' : Hp} {s : Shared} {b : Addr} (I : Inv X pins σ H s) (hb : s.heap.objs.size ≤ b) (hn : H' b = none) : FpOk X pins H' b := by
  refine ⟨hn, Nat.ne_of_gt (Nat.lt_of_lt_of_le I.lt hb), I.nofs hb, .inr (Nat.le_trans I.sz hb), fun x c e z => ?_, fun p hp z => ?_⟩
  · obtain ⟨v, q⟩ := I.cell x c e
    exact absurd (Nat.lt_of_lt_of_le q.lt (by rw [z]; exact hb)) (Nat.lt_irrefl _)
  · exact absurd (Nat.lt_of_lt_of_le (Heap.lt_size (I.pin p hp).1) (by rw [z]; exact hb)) (Nat.lt_irrefl _)
structure Turn (P : Program) (w : World) (K : PySem.W.Frag) (tg : Expr) (J : It) (fp : List Addr) (it : Addr) (tn : Nat → Heap → Prop) : Prop where
  mem : it ∈ fp
  obj : ∀ i h, tn i h → ∀ b ∈ fp, ∃ o, h.get? b = some o ∧ ∀ v, o.data ≠ .cell v
  keep : ∀ i h h', tn i h → (∀ b ∈ fp, ∀ o, h.get? b = some o → h'.get? b = some o) → tn i h'
  item : ∀ (X : Cx), X.prog = P → X.w = w → X.K = K → X.calm = true → ∀ (i : Nat) (pins : List (Addr × Obj)) (s : Shared) (σ : St) (H : Hp) (E : Value → Shared → Prop), Inv X pins σ H s → (∀ b ∈ fp, FpOk X pins H b) → tn i s.heap → J.go i H →
    wpAny (model P w) X.A (pyNext (.ref it)) (fun r s1 => ∃ u, r = some u ∧
      wpAny (model P w) X.A (letOwnedTupleGo tg (.ref it) u) (fun _ s2 => ∃ x H', Inv X pins σ H' s2 ∧ RelV x u ∧ J.yld i H x H' ∧ tn (i + 1) s2.heap ∧ ∀ b ∈ fp, H' b = none) E s1) E s
  done : ∀ (X : Cx), X.prog = P → X.w = w → X.K = K → X.calm = true → ∀ (i : Nat) (pins : List (Addr × Obj)) (s : Shared) (σ : St) (H : Hp) (E : Value → Shared → Prop), Inv X pins σ H s → (∀ b ∈ fp, FpOk X pins H b) → tn i s.heap → J.stop i H →
    wpAny (model P w) X.A (pyNext (.ref it)) (fun r s1 => r = none ∧ Inv X pins σ H s1) E s
  self : ∀ (A : Around) (i : Nat) (s : Shared) (Q : Value → Shared → Prop) (E : Value → Shared → Prop), tn i s.heap → Q (.ref it) s → wpAny (model P w) A (pyIter (.ref it)) Q E s
abbrev TI := St → Hp → (It → Hp → Prop) → Prop
/-- an iterator has come -/
def PIE (X : Cx) (pins : List (Addr × Obj)) (σ : St) (tg : Expr) (R : It → Hp → Prop) (itv : Value) (s2 : Shared) : Prop :=
  ∃ (it : Addr) (fp : List Addr) (tn : Nat → Heap → Prop) (J : It) (H' : Hp), itv = .ref it ∧ Inv X pins σ H' s2 ∧ Turn X.prog X.w X.K tg J fp it tn ∧ tn 0 s2.heap ∧ (∀ b ∈ fp, FpOk X pins H' b) ∧ R J H'
def PI (X : Cx) (tg iter : Expr) (wi : TI) : Prop :=
  ∀ (pins : List (Addr × Obj)) (s : Shared) (σ : St) (H : Hp) (R : It → Hp → Prop), Inv X pins σ H s → wi σ H R →
    wpAny (model X.prog X.w) X.A (eval iter X.env) (fun v s1 => wpAny (model X.prog X.w) X.A (pyIter v) (PIE X pins σ tg R) X.xe s1) X.xe s

/-- the step ahead of the store is nothing for an iterator that keeps no tuple -/
theorem go_of {M : Model} {A : Around} {E : Value → Shared → Prop} {s : Shared} {tg : Expr} {it : Addr} {u : Value} {o : Obj} {n : String} {vs : Array Value} {Q : Unit → Shared → Prop} (ho : s.heap.get? it = some o) (hc : o.cls = .type n) (hd : o.data = .fields vs)
    (hn : ["enumerate", "zip", "dict_itemiterator", "dict_reverseitemiterator", "odict_iterator", "itertools.zip_longest", "itertools.pairwise"].contains n = false) (hQ : Q () s) : wpAny M A (letOwnedTupleGo tg (.ref it) u) Q E s := by
  unfold letOwnedTupleGo
  cases tg <;> first
    | exact wpAny_pure hQ
    | (cases u <;> first
        | exact wpAny_pure hQ
        | (refine wpAny_bind (wpAny_load ho ?_)
           rw [hc, hd]
           show wpAny M A (if (["enumerate", "zip", "dict_itemiterator", "dict_reverseitemiterator", "odict_iterator", "itertools.zip_longest", "itertools.pairwise"].contains n && vs[0]? == some (rawInt _)) = true then _ else _) Q E s
           rw [if_neg (by intro h; rw [hn, Bool.false_and] at h; cases h)]
           exact wpAny_pure hQ))

/-- the list at a, as it stands at each turn (a loop may append to it) -/
def Itl (K : PySem.W.Frag) (a : Addr) : It :=
  ⟨fun i H => ∃ xs x, SqL K H a xs ∧ xs[i]? = some x, fun i H x H' => H' = H ∧ ∀ xs, SqL K H a xs → xs[i]? = some x, fun i H => ∃ xs, SqL K H a xs ∧ xs.length ≤ i⟩
/-- lo, lo + 1, .. (n of them) -/
def Itr (lo : Int) (n : Nat) : It := ⟨fun i _ => i < n, fun i H x H' => H' = H ∧ x = .int (lo + i), fun i _ => n ≤ i⟩
theorem turn_list {P : Program} {w : World} {K : PySem.W.Frag} {tg : Expr} (a it : Addr) : Turn P w K tg (Itl K a) [it] it (fun i h => h.IsListIter it a i) where
  mem := by simp
  obj := fun i h st b hb => by
    have e : b = it := by simpa using hb
    subst e
    obtain ⟨o, e, c, d⟩ := st
    exact ⟨o, e, fun v z => by rw [d] at z; cases z⟩
  keep := fun i h h' st k => st.at fun o e => k it (by simp) o e
  item := by
    intro X hP hw hK hc i pins s σ H E I hf st hg
    subst hP hw hK
    obtain ⟨xs, x, hq, hx⟩ := hg
    obtain ⟨its, rv, p, hz⟩ := I.list hq
    obtain ⟨u, hu, ru⟩ := rv.get hx
    obtain ⟨f0, f1, f2, f3, f4, f5⟩ := hf it (by simp)
    refine wpAny_pyNext_list_item st p.isList (x := u) (by simpa using hu) fun h' st' sb => ?_
    have I1 : Inv X pins σ H { s with heap := h' } := I.turned (t' := s.toks) (fun b o hb e => (sb.2 b hb).trans e) f0 f1 f3 f4 f5
    obtain ⟨o, e, c, d⟩ := id st'
    exact ⟨u, rfl, go_of (s := { s with heap := h' }) e c d (by decide) ⟨x, H, I1, ru, ⟨rfl, fun ys hy => by rw [I.list_inj hy hq]; exact hx⟩, st', fun b hb => (hf b hb).1⟩⟩
  done := by
    intro X hP hw hK hc i pins s σ H E I hf st hg
    subst hP hw hK
    obtain ⟨xs, hq, hx⟩ := hg
    obtain ⟨its, rv, p, hz⟩ := I.list hq
    obtain ⟨f0, f1, f2, f3, f4, f5⟩ := hf it (by simp)
    have hl := rv.length
    exact wpAny_pyNext_list_end (I.ok.hd hc) st p.isList (by simp; omega) fun h' eb => ⟨rfl, I.turned (t' := s.toks) (fun b o hb e => eb b o hb e) f0 f1 f3 f4 f5⟩
  self := fun _ _ _ _ _ st h => wpAny_pyIter_listiter st h
theorem turn_range {P : Program} {w : World} {K : PySem.W.Frag} {tg : Expr} (it : Addr) (lo : Int) (n : Nat) : Turn P w K tg (Itr lo n) [it] it (fun i h => IsRangeIter h it (lo + (i : Nat) * 1) ((n : Int) - (i : Nat)) 1) where
  mem := by simp
  obj := fun i h st b hb => by
    have e : b = it := by simpa using hb
    subst e
    exact ⟨_, st, fun v z => by
      have z' : Data.fields _ = Data.cell v := z
      cases z'⟩
  keep := fun i h h' st k => k it (by simp) _ st
  item := by
    intro X hP hw hK hc i pins s σ H E I hf st hg
    subst hP hw hK
    obtain ⟨f0, f1, f2, f3, f4, f5⟩ := hf it (by simp)
    have W := Walks.range (prog := X.prog) (w := X.w) (I.ok.hd hc) it lo 1 n
    refine W.item i s _ _ hg st fun v h' tk hv st' kk => ?_
    obtain ⟨t, rfl⟩ := hv
    have I1 : Inv X pins σ H { s with heap := h', toks := tk } := I.turned (fun b o hb e => kk b o (by simpa using hb) e) f0 f1 f3 f4 f5
    refine ⟨_, rfl, go_of (s := { s with heap := h', toks := tk }) (n := "range_iterator") st' rfl rfl (by decide) ⟨.int (lo + i), H, I1, ⟨t, ?_⟩, ⟨rfl, rfl⟩, st', fun b hb => (hf b hb).1⟩⟩
    rw [Int.mul_one]
  done := by
    intro X hP hw hK hc i pins s σ H E I hf st hg
    subst hP hw hK
    obtain ⟨f0, f1, f2, f3, f4, f5⟩ := hf it (by simp)
    exact wpAny_pyNext_range_end (I.ok.hd hc) st (by have : n ≤ i := hg; omega) fun h' eb => ⟨rfl, I.turned (t' := s.toks) (fun b o hb e => eb b o hb e) f0 f1 f3 f4 f5⟩
  self := fun _ _ _ _ _ st h => wpAny_pyIter_rangeiter st h
end L2

namespace L2
open PySem PySem.Spec PyProof.Rows
section
variable {X : Cx} {tg : Expr}
def iList (K : PySem.W.Frag) (tl : TE) : TI := fun σ H R => tl σ H fun x H1 => ∃ a, x = .ref a ∧ (∃ xs, SqL K H1 a xs) ∧ R (Itl K a) H1
theorem pi_list {l : Expr} {tl : TE} (hl : PE X l tl) : PI X tg l (iList X.K tl) := by
  intro pins s σ H R I h
  refine thn (hl pins s σ H _ I h) fun v s1 ⟨x, H1, I1, r1, q1⟩ => ?_
  obtain ⟨a, e, ⟨xs, hq⟩, q⟩ := q1
  subst e
  cases r1
  obtain ⟨its, rv, p, hz⟩ := I1.list hq
  refine wpAny_pyIter_list p.isList ?_
  refine ⟨s1.heap.objs.size, [s1.heap.objs.size], _, _, H1, rfl, I1.kept (t' := s1.toks) fun b o e => Heap.get?_push_of_some _ e, turn_list a _, ⟨_, Heap.get?_push_size _ rfl, rfl, rfl⟩, fun b hb => ?_, q⟩
  have e : b = s1.heap.objs.size := by simpa using hb
  subst e
  exact I1.fpOk (Nat.le_refl _) (I1.hok.fresh (Nat.le_refl _))
/-- a range object just made, walked -/
theorem range_it {pins : List (Addr × Obj)} {σ : St} {H : Hp} {s : Shared} {R : It → Hp → Prop} {E : Value → Shared → Prop} {lo hi : Int} {t u v : Tok} {tk : Nat} (I : Inv X pins σ H s) (h1 : -(2 ^ 62) ≤ lo) (h2 : lo < 2 ^ 62) (h3 : -(2 ^ 62) ≤ hi) (h4 : hi < 2 ^ 62)
    (q : R (Itr lo (hi - lo).toNat) H) : wpAny (model X.prog X.w) X.A (pyIter (.ref s.heap.objs.size)) (PIE X pins σ tg R) E { s with heap := s.heap.push { cls := .type "range", data := .fields #[.int lo t, .int hi u, .int 1 v] }, toks := tk } := by
  refine wpAny_pyIter_range (IsRange.new ..) (small_one h1 h2 h3 h4) ?_
  have I1 : Inv X pins σ H { s with heap := s.heap.push { cls := .type "range", data := .fields #[.int lo t, .int hi u, .int 1 v] }, toks := tk } := I.kept fun b o e => Heap.get?_push_of_some _ e
  refine ⟨(s.heap.push { cls := .type "range", data := .fields #[.int lo t, .int hi u, .int 1 v] }).objs.size, [(s.heap.push { cls := .type "range", data := .fields #[.int lo t, .int hi u, .int 1 v] }).objs.size], _, _, H, rfl,
    I1.kept (t' := tk) fun b o e => Heap.get?_push_of_some _ e, turn_range _ lo (hi - lo).toNat, ?_, fun b hb => ?_, q⟩
  · have e1 : lo + ((0 : Nat) : Int) * 1 = lo := by simp
    have e2 : (((hi - lo).toNat : Nat) : Int) - ((0 : Nat) : Int) = Builtin.Range.rangeSize lo hi 1 := by rw [rangeSize_one]; split <;> omega
    show IsRangeIter _ _ (lo + ((0 : Nat) : Int) * 1) ((((hi - lo).toNat : Nat) : Int) - ((0 : Nat) : Int)) 1
    rw [e1, e2]
    exact Heap.get?_push_size _ rfl
  · have e : b = (s.heap.push { cls := .type "range", data := .fields #[.int lo t, .int hi u, .int 1 v] }).objs.size := by simpa using hb
    subst e
    exact I1.fpOk (Nat.le_refl _) (I1.hok.fresh (Nat.le_refl _))
def iRng1 (ta : TA) : TI := fun σ H R => ta σ H fun vs H1 => ∃ j : Int, vs = [.int j] ∧ -(2 ^ 62) ≤ j ∧ j < 2 ^ 62 ∧ R (Itr 0 j.toNat) H1
def iRng2 (ta : TA) : TI := fun σ H R => ta σ H fun vs H1 => ∃ i j : Int, vs = [.int i, .int j] ∧ (-(2 ^ 62) ≤ i ∧ i < 2 ^ 62 ∧ -(2 ^ 62) ≤ j ∧ j < 2 ^ 62) ∧ R (Itr i (j - i).toNat) H1
theorem pi_range1 {a : Expr} {ta : TA} {p pos : Pos} (hg : Gl X "range") (hm : X.mg "range" = none) (ha : PA X [a] ta) (hs : starEach [a] X.env = [(false, eval a X.env)] := by rfl) : PI X tg (.Call (.Name "range" p) [a] [] pos) (iRng1 ta) := by
  intro pins s σ H R I h
  refine Call_ (ld_blt I hg hm boot_range (PyProof.Rows.callWith_type1 (thn (ha pos pins s σ H _ I h) fun us s1 ⟨vs, H1, I1, r1, q1⟩ => ?_) hs rfl))
  obtain ⟨j, e, q1, q2, q⟩ := q1
  subst e
  cases r1 with
  | cons r rr =>
    cases rr
    obtain ⟨t, rfl⟩ := r
    exact call_range_1 (range_it I1 (by omega) (by omega) q1 q2 (by simpa using q))
theorem pi_range2 {a b : Expr} {ta : TA} {p pos : Pos} (hg : Gl X "range") (hm : X.mg "range" = none) (ha : PA X [a, b] ta) (hs : starEach [a, b] X.env = [(false, eval a X.env), (false, eval b X.env)] := by rfl) (hs2 : starEach [b] X.env = [(false, eval b X.env)] := by rfl) :
    PI X tg (.Call (.Name "range" p) [a, b] [] pos) (iRng2 ta) := by
  intro pins s σ H R I h
  refine Call_ (ld_blt I hg hm boot_range (PyProof.Rows.callWith_type1 (thn (ha pos pins s σ H _ I h) fun us s1 ⟨vs, H1, I1, r1, q1⟩ => ?_) (by rw [hs, hs2]) (by rw [hs2]; rfl)))
  obtain ⟨i, j, e, ⟨q1, q2, q3, q4⟩, q⟩ := q1
  subst e
  cases r1 with
  | cons r rr =>
    cases rr with
    | cons r' rr =>
      cases rr
      obtain ⟨t, rfl⟩ := r
      obtain ⟨t', rfl⟩ := r'
      exact call_range_2 (range_it I1 q1 q2 q3 q4 q)

/-! ### for -/
/-- W: the invariant by the turn and a measure; N: what the body is to reach -/
def tFor (wi : TI) (g : TG) (tb : TS) : TS := fun D σ H => wi σ H fun J H1 => ∃ W : Nat → Nat → St → Hp → Prop, (∃ m, W 0 m σ H1) ∧ ∀ i m σ H, W i m σ H →
  (J.stop i H ∧ D.nx σ H) ∨ (J.go i H ∧ ∃ N : St → Hp → Prop, (∀ σ' H', N σ' H' → ∃ m', m' < m ∧ W (i + 1) m' σ' H') ∧ ∀ x H', J.yld i H x H' → g x σ H' fun σ2 H2 => tb { D with nx := N, ct := N, bk := D.nx } σ2 H2)
/-- the records at fp as they stand -/
def pinsAt (fp : List Addr) (h : Heap) : List (Addr × Obj) := fp.filterMap fun b => (h.get? b).map fun o => (b, o)
theorem mem_pinsAt {fp : List Addr} {h : Heap} {b : Addr} {o : Obj} (hb : b ∈ fp) (e : h.get? b = some o) : (b, o) ∈ pinsAt fp h := List.mem_filterMap.mpr ⟨b, hb, by rw [e]; rfl⟩
theorem of_pinsAt {fp : List Addr} {h : Heap} {p : Addr × Obj} (hp : p ∈ pinsAt fp h) : p.1 ∈ fp ∧ h.get? p.1 = some p.2 := by
  obtain ⟨b, hb, e⟩ := List.mem_filterMap.mp hp
  cases q : h.get? b with
  | none => rw [q] at e; cases e
  | some o =>
    rw [q] at e
    have e' : (b, o) = p := Option.some.inj e
    subst e'
    exact ⟨hb, q⟩
theorem Inv.pinned {pins : List (Addr × Obj)} {σ : St} {H : Hp} {s : Shared} {fp : List Addr} (I : Inv X pins σ H s) (hf : ∀ b ∈ fp, FpOk X pins H b) (ho : ∀ b ∈ fp, ∃ o, s.heap.get? b = some o ∧ ∀ v, o.data ≠ .cell v) : Inv X (pins ++ pinsAt fp s.heap) σ H s :=
  I.pins_of fun p hp => (List.mem_append.mp hp).elim (fun z => I.pin p (List.mem_append_right _ z)) fun z => by
    obtain ⟨hb, e⟩ := of_pinsAt z
    obtain ⟨f0, f1, f2, _⟩ := hf p.1 hb
    obtain ⟨o, e', d⟩ := ho p.1 hb
    rw [e] at e'; cases e'
    exact ⟨e, f0, f1, f2, d⟩
theorem Inv.unpinned {pins pl : List (Addr × Obj)} {σ : St} {H : Hp} {s : Shared} (I : Inv X (pins ++ pl) σ H s) : Inv X pins σ H s := I.pins_of fun p hp => I.pin p (List.mem_append_right _ (List.mem_append_left _ hp))
theorem ps_for {iter : Expr} {body : List Stmt} {wi : TI} {g : TG} {tb : TS} {pos : Pos} (hp : PassesOwn (model X.prog X.w) X.A X.env X.xe) (hc : X.calm = true) (hi : PI X tg iter wi) (hg : PG X tg g) (hb : PSs X body tb)
    (hs : ∀ x, foldedSetIterable iter X.env x = pure x := by intro _; rfl) : PS X (.For tg iter body [] pos) (tFor wi g tb) := by
  intro pins s σ H D I h
  refine wpAny_For (thn (hi pins s σ H _ I h) fun v s1 h1 => thn h1 fun itv s2 h2 => ?_) hs
  obtain ⟨it, fp, tn, J, H2, e, I2, T, st2, f2, W, ⟨m0, w0⟩, turn⟩ := h2
  subst e
  -- what stays true of the iterator's objects through the loop
  have stat : ∀ {H' : Hp}, (∀ b ∈ fp, H' b = none) → ∀ b ∈ fp, FpOk X pins H' b := fun hn b hb => ⟨hn b hb, (f2 b hb).2⟩
  refine codeAny_forLoop_any (fun n s' => ∃ i σ' H', Inv X pins σ' H' s' ∧ tn i s'.heap ∧ (∀ b ∈ fp, H' b = none) ∧ W i n σ' H') ?_ m0 ⟨0, σ, H2, I2, st2, fun b hb => (f2 b hb).1, w0⟩
  rintro n s3 ⟨i, σ3, H3, I3, st3, fr3, w3⟩
  rcases turn i n σ3 H3 w3 with ⟨stop, qn⟩ | ⟨go, N, hN, step⟩
  · refine wpAny_passesOwn hp (thn (T.done X rfl rfl rfl hc i pins s3 σ3 H3 X.xe I3 (stat fr3) st3 stop) fun r s4 ⟨hr, I4⟩ => ?_)
    subst hr
    exact wpAny_execs_nil ⟨σ3, H3, I4, qn⟩
  · refine wpAny_passesOwn hp (thn (T.item X rfl rfl rfl hc i pins s3 σ3 H3 X.xe I3 (stat fr3) st3 go) fun r s4 ⟨u, hr, h4⟩ => ?_)
    subst hr
    refine wpAny_passesOwn hp (thn h4 fun _ s5 ⟨x, H5, I5, r5, y5, st5, fr5⟩ => ?_)
    have I5' := I5.pinned (stat fr5) (T.obj _ _ st5)
    refine wpAny_passesOwn hp (thn (hg _ s5 σ3 H5 x u _ I5' r5 (step x H5 y5)) fun _ s6 ⟨σ6, H6, I6, q6⟩ => ?_)
    refine wpAny_passesOwn hp (thn (hb _ s6 σ6 H6 _ I6 q6) fun f s7 q7 => ?_)
    have again : ∀ {σ7 : St} {H7 : Hp}, Inv X (pins ++ pinsAt fp s5.heap) σ7 H7 s7 → N σ7 H7 → ∃ m, m < n ∧ ∃ i σ' H', Inv X pins σ' H' s7 ∧ tn i s7.heap ∧ (∀ b ∈ fp, H' b = none) ∧ W i m σ' H' := fun {σ7 H7} I7 n7 => by
      obtain ⟨m', hm, w7⟩ := hN σ7 H7 n7
      refine ⟨m', hm, i + 1, σ7, H7, I7.unpinned, T.keep _ _ _ st5 fun b hb o e => (I7.pin (b, o) (List.mem_append_right _ (List.mem_append_right _ (mem_pinsAt hb e)))).1, fun b hb => ?_, w7⟩
      obtain ⟨o, e, d⟩ := T.obj _ _ st5 b hb
      exact (I7.pin (b, o) (List.mem_append_right _ (List.mem_append_right _ (mem_pinsAt hb e)))).2.1
    cases f with
    | next => obtain ⟨σ7, H7, I7, n7⟩ := q7; exact again I7 n7
    | cont => obtain ⟨σ7, H7, I7, n7⟩ := q7; exact again I7 n7
    | brk => obtain ⟨σ7, H7, I7, q7⟩ := q7; exact ⟨σ7, H7, I7.unpinned, q7⟩
    | ret v => obtain ⟨x7, σ7, H7, I7, r7, q7⟩ := q7; exact ⟨x7, σ7, H7, I7.unpinned, r7, q7⟩
end

/-! ### the forms one uses -/
/-- over a list that the body leaves as it is -/
theorem for_list {K : PySem.W.Frag} {a : Addr} {xs : List V} {g : TG} {tb : TS} {D : Ends} {σ : St} {H : Hp} (Pv : Nat → St → Hp → Prop) (h0 : Pv 0 σ H) (hl : ∀ i σ H, i ≤ xs.length → Pv i σ H → SqL K H a xs)
    (hs : ∀ i x σ H, xs[i]? = some x → Pv i σ H → g x σ H fun σ2 H2 => tb { D with nx := Pv (i + 1), ct := Pv (i + 1), bk := D.nx } σ2 H2) (hd : ∀ σ H, Pv xs.length σ H → D.nx σ H) :
    ∃ W : Nat → Nat → St → Hp → Prop, (∃ m, W 0 m σ H) ∧ ∀ i m σ H, W i m σ H →
      ((Itl K a).stop i H ∧ D.nx σ H) ∨ ((Itl K a).go i H ∧ ∃ N : St → Hp → Prop, (∀ σ' H', N σ' H' → ∃ m', m' < m ∧ W (i + 1) m' σ' H') ∧ ∀ x H', (Itl K a).yld i H x H' → g x σ H' fun σ2 H2 => tb { D with nx := N, ct := N, bk := D.nx } σ2 H2) := by
  refine ⟨fun i m σ H => m = xs.length - i ∧ i ≤ xs.length ∧ Pv i σ H, ⟨xs.length, by simp, Nat.zero_le _, h0⟩, ?_⟩
  rintro i m σ H ⟨rfl, hi, p⟩
  have q := hl i σ H hi p
  by_cases hlt : i < xs.length
  · refine .inr ⟨⟨xs, xs[i], q, by simp [hlt]⟩, Pv (i + 1), fun σ' H' p' => ⟨xs.length - (i + 1), by omega, rfl, hlt, p'⟩, fun x H' y => ?_⟩
    obtain ⟨e, y⟩ := y
    subst e
    exact hs i x σ _ (y xs q) p
  · have e : i = xs.length := by omega
    subst e
    exact .inl ⟨⟨xs, q, Nat.le_refl _⟩, hd σ H p⟩
theorem for_range {lo : Int} {n : Nat} {g : TG} {tb : TS} {D : Ends} {σ : St} {H : Hp} (Pv : Nat → St → Hp → Prop) (h0 : Pv 0 σ H)
    (hs : ∀ i σ H, i < n → Pv i σ H → g (.int (lo + i)) σ H fun σ2 H2 => tb { D with nx := Pv (i + 1), ct := Pv (i + 1), bk := D.nx } σ2 H2) (hd : ∀ σ H, Pv n σ H → D.nx σ H) :
    ∃ W : Nat → Nat → St → Hp → Prop, (∃ m, W 0 m σ H) ∧ ∀ i m σ H, W i m σ H →
      ((Itr lo n).stop i H ∧ D.nx σ H) ∨ ((Itr lo n).go i H ∧ ∃ N : St → Hp → Prop, (∀ σ' H', N σ' H' → ∃ m', m' < m ∧ W (i + 1) m' σ' H') ∧ ∀ x H', (Itr lo n).yld i H x H' → g x σ H' fun σ2 H2 => tb { D with nx := N, ct := N, bk := D.nx } σ2 H2) := by
  refine ⟨fun i m σ H => m = n - i ∧ i ≤ n ∧ Pv i σ H, ⟨n, by simp, Nat.zero_le _, h0⟩, ?_⟩
  rintro i m σ H ⟨rfl, hi, p⟩
  by_cases hlt : i < n
  · refine .inr ⟨hlt, Pv (i + 1), fun σ' H' p' => ⟨n - (i + 1), by omega, rfl, hlt, p'⟩, fun x H' y => ?_⟩
    obtain ⟨e, y⟩ := y
    subst e y
    exact hs i σ _ hlt p
  · have e : i = n := by omega
    subst e
    exact .inl ⟨Nat.le_refl _, hd σ H p⟩
/-- while, by a word and a measure of the state -/
theorem while_by {c : TT} {tb : TS} {D : Ends} {σ : St} {H : Hp} (Pv : St → Hp → Prop) (μ : St → Hp → Nat) (h0 : Pv σ H)
    (hs : ∀ σ H, Pv σ H → c σ H fun b H1 => if b = true then tb { D with nx := fun σ' H' => Pv σ' H' ∧ μ σ' H' < μ σ H, ct := fun σ' H' => Pv σ' H' ∧ μ σ' H' < μ σ H, bk := D.nx } σ H1 else D.nx σ H1)
    (mono : ∀ σ H Q Q', (∀ b H1, Q b H1 → Q' b H1) → c σ H Q → c σ H Q') : tWhile c tb D σ H := by
  refine ⟨fun m σ H => m = μ σ H ∧ Pv σ H, ⟨_, rfl, h0⟩, ?_⟩
  rintro m σ H ⟨rfl, p⟩
  refine mono σ H _ _ (fun b H1 q => ?_) (hs σ H p)
  cases b with
  | true => exact ⟨_, fun σ' H' ⟨p', l⟩ => ⟨_, l, rfl, p'⟩, q⟩
  | false => exact q
end L2

namespace L2
open PySem PySem.Spec PyProof.Rows

abbrev R2 := V → V → Hp → VK → Prop
/-- a two-place operation on values: f is binaryOp op, inplaceOp op or compareOp op -/
def OpR (X : Cx) (f : Value → Value → Sem Value) (r : R2) : Prop :=
  ∀ (pins : List (Addr × Obj)) (s : Shared) (σ : St) (H : Hp) (x y : V) (v u : Value) (Q : VK), Inv X pins σ H s → RelV x v → RelV y u → r x y H Q →
    wpAny (model X.prog X.w) X.A (f v u) (EP X pins σ Q) X.xe s
/-- a one-place operation -/
def UnR (X : Cx) (f : Value → Sem Value) (r : V → Hp → VK → Prop) : Prop :=
  ∀ (pins : List (Addr × Obj)) (s : Shared) (σ : St) (H : Hp) (x : V) (v : Value) (Q : VK), Inv X pins σ H s → RelV x v → r x H Q →
    wpAny (model X.prog X.w) X.A (f v) (EP X pins σ Q) X.xe s
/-- a call of a value that is known (a builtin, a type) with values -/
def CallR (X : Cx) (f : Value) (r : List V → Hp → VK → Prop) : Prop :=
  ∀ (pins : List (Addr × Obj)) (s : Shared) (σ : St) (H : Hp) (xs : List V) (us : List Value) (Q : VK), Inv X pins σ H s → Vals xs us → r xs H Q →
    wpAny (model X.prog X.w) X.A (call f us) (EP X pins σ Q) X.xe s
def tOp (r : R2) (ta tb : TE) : TE := fun σ H Q => ta σ H fun x H1 => tb σ H1 fun y H2 => r x y H2 Q
def tUn (r : V → Hp → VK → Prop) (ta : TE) : TE := fun σ H Q => ta σ H fun x H1 => r x H1 Q
/-- ints in, under C, and a value out -/
def rI (C : Int → Int → Prop) (g : Int → Int → V) : R2 := fun x y H Q => ∃ i j, x = .int i ∧ y = .int j ∧ C i j ∧ Q (g i j) H
def rI0 (g : Int → Int → V) : R2 := fun x y H Q => ∃ i j, x = .int i ∧ y = .int j ∧ Q (g i j) H
def rU (g : Int → V) : V → Hp → VK → Prop := fun x H Q => ∃ i, x = .int i ∧ Q (g i) H

section
variable {X : Cx} {a b c : Expr} {ta tb tc : TE} {pos : Pos}

theorem binT (ha : PE X a ta) (hb : PE X b tb) {pins : List (Addr × Obj)} {s : Shared} {σ : St} {H : Hp} {R : V → V → Hp → Prop} (I : Inv X pins σ H s)
    (h : ta σ H fun x H1 => tb σ H1 fun y H2 => R x y H2) {Q : Value → Shared → Prop} {f : Value → Value → Sem Value}
    (hf : ∀ v u s2 x y H2, Inv X pins σ H2 s2 → RelV x v → RelV y u → R x y H2 → wpAny (model X.prog X.w) X.A (f v u) Q X.xe s2) :
    wpAny (model X.prog X.w) X.A (eval a X.env) (fun v s₁ => wpAny (model X.prog X.w) X.A (eval b X.env) (fun u s₂ => wpAny (model X.prog X.w) X.A (f v u) Q X.xe s₂) X.xe s₁) X.xe s := by
  refine thn (ha pins s σ H _ I h) fun v s1 ⟨x, H1, I1, r1, q1⟩ => ?_
  refine thn (hb pins s1 σ H1 _ I1 q1) fun u s2 ⟨y, H2, I2, r2, q2⟩ => ?_
  exact hf v u s2 x y H2 I2 r1 r2 q2

theorem pe_op {op : Operator} {r : R2} (ho : OpR X (binaryOp op) r) (ha : PE X a ta) (hb : PE X b tb) : PE X (.BinOp a op b pos) (tOp r ta tb) := by
  intro pins s σ H Q I h
  exact wpAny_BinOp (binT ha hb I h fun v u s2 x y H2 I2 rx ry q => ho pins s2 σ H2 x y v u Q I2 rx ry q)
theorem pe_un {op : UnaryOp} {r : V → Hp → VK → Prop} (ho : UnR X (unaryOp op) r) (ha : PE X a ta) : PE X (.UnaryOp op a pos) (tUn r ta) := by
  intro pins s σ H Q I h
  exact UnaryOp_ (thn (ha pins s σ H _ I h) fun v s1 ⟨x, H1, I1, r1, q1⟩ => ho pins s1 σ H1 x v Q I1 r1 q1)
/-! ### ints -/
theorem opI {f : Value → Value → Sem Value} {C : Int → Int → Prop} {g : Int → Int → Int}
    (rule : ∀ (i j : Int) (t u : Tok) (s : Shared) (Q : Value → Shared → Prop) (E : Value → Shared → Prop), C i j → Q (.int (g i j) s.toks) { s with toks := s.toks + 1 } → wpAny (model X.prog X.w) X.A (f (.int i t) (.int j u)) Q E s) :
    OpR X f (rI C fun i j => .int (g i j)) := by
  intro pins s σ H x y v u Q I rx ry h
  obtain ⟨i, j, rfl, rfl, hc, q⟩ := h
  obtain ⟨t, rfl⟩ := rx
  obtain ⟨t', rfl⟩ := ry
  exact rule i j t t' s _ _ hc ⟨.int (g i j), H, I.tok _, ⟨_, rfl⟩, q⟩
theorem opI0 {f : Value → Value → Sem Value} {g : Int → Int → Int}
    (rule : ∀ (i j : Int) (t u : Tok) (s : Shared) (Q : Value → Shared → Prop) (E : Value → Shared → Prop), Q (.int (g i j) s.toks) { s with toks := s.toks + 1 } → wpAny (model X.prog X.w) X.A (f (.int i t) (.int j u)) Q E s) :
    OpR X f (rI0 fun i j => .int (g i j)) := by
  intro pins s σ H x y v u Q I rx ry h
  obtain ⟨i, j, rfl, rfl, q⟩ := h
  obtain ⟨t, rfl⟩ := rx
  obtain ⟨t', rfl⟩ := ry
  exact rule i j t t' s _ _ ⟨.int (g i j), H, I.tok _, ⟨_, rfl⟩, q⟩
theorem opB0 {f : Value → Value → Sem Value} {g : Int → Int → Bool}
    (rule : ∀ (i j : Int) (t u : Tok) (s : Shared) (Q : Value → Shared → Prop) (E : Value → Shared → Prop), Q (.bool (g i j)) s → wpAny (model X.prog X.w) X.A (f (.int i t) (.int j u)) Q E s) :
    OpR X f (rI0 fun i j => .bl (g i j)) := by
  intro pins s σ H x y v u Q I rx ry h
  obtain ⟨i, j, rfl, rfl, q⟩ := h
  obtain ⟨t, rfl⟩ := rx
  obtain ⟨t', rfl⟩ := ry
  exact rule i j t t' s _ _ ⟨.bl (g i j), H, I, rfl, q⟩

def CDiv (i j : Int) : Prop := 0 < j ∧ j < 1073741824
def CPow (i j : Int) : Prop := 0 ≤ j ∧ j ≤ 1000000 ∧ i.natAbs < 2 ^ 64
def CMul (i j : Int) : Prop := (-(2 ^ 64) < i ∧ i < 2 ^ 64) ∨ (-(2 ^ 64) < j ∧ j < 2 ^ 64)
theorem CMul.ok {i j : Int} (h : CMul i j) : IntMulOk i j := by
  rcases h with ⟨h1, h2⟩ | ⟨h1, h2⟩
  · exact .of_left (intBits_le_64 h1 h2)
  · exact .of_right (intBits_le_64 h1 h2)
theorem op_add : OpR X (binaryOp .Add) (rI0 fun i j => .int (i + j)) := opI0 fun _ _ _ _ _ _ _ q => add_int q
theorem op_sub : OpR X (binaryOp .Sub) (rI0 fun i j => .int (i - j)) := opI0 fun _ _ _ _ _ _ _ q => sub_int q
theorem op_mul : OpR X (binaryOp .Mult) (rI CMul fun i j => .int (i * j)) := opI fun _ _ _ _ _ _ _ hc q => mul_int q hc.ok
/-- // by a positive divisor -/
theorem op_fdiv : OpR X (binaryOp .FloorDiv) (rI CDiv fun i j => .int (i / j)) := opI fun i j _ _ _ _ _ hc q => by
  have h1 : (0 : Int) < j := hc.1
  have h2 : j < 1073741824 := hc.2
  exact floordiv_int (by omega) (by rw [Int.fdiv_eq_ediv_of_nonneg i (by omega)]; exact q) (.inl (PyProof.noPylong_small (by omega)))
/-- % by a positive divisor of any size -/
theorem op_mod : OpR X (binaryOp .Mod) (rI (fun _ j => 0 < j) fun i j => .int (i % j)) := opI fun i j _ _ _ _ _ hc q => by
  have h1 : (0 : Int) < j := hc
  exact mod_int' (by omega) (by rw [Int.fmod_eq_emod_of_nonneg i (by omega)]; exact q)
theorem op_pow : OpR X (binaryOp .Pow) (rI CPow fun i j => .int (i ^ j.toNat)) := opI fun _ _ _ _ _ _ _ hc q => pow_int_small hc.1 hc.2.1 hc.2.2 q
theorem iop_add : OpR X (inplaceOp .Add) (rI0 fun i j => .int (i + j)) := opI0 fun _ _ _ _ _ _ _ q => iadd_int q
theorem unI {f : Value → Sem Value} {g : Int → Int}
    (rule : ∀ (i : Int) (t : Tok) (s : Shared) (Q : Value → Shared → Prop) (E : Value → Shared → Prop), Q (.int (g i) s.toks) { s with toks := s.toks + 1 } → wpAny (model X.prog X.w) X.A (f (.int i t)) Q E s) :
    UnR X f (rU fun i => .int (g i)) := by
  intro pins s σ H x v Q I rx h
  obtain ⟨i, rfl, q⟩ := h
  obtain ⟨t, rfl⟩ := rx
  exact rule i t s _ _ ⟨.int (g i), H, I.tok _, ⟨_, rfl⟩, q⟩
theorem un_neg : UnR X (unaryOp .USub) (rU fun i => .int (-i)) := unI fun _ _ _ _ _ q => neg_int q
/-! ### bools among ints: n += (a < b) -/
end

/-! ### comparisons -/
/-- the scalars that == tells apart as data does -/
def scal : V → V → Bool
  | .non, .non => true | .non, .int _ => true | .int _, .non => true | .non, .bl _ => true | .bl _, .non => true | .non, .str _ => true | .str _, .non => true
  | .int _, .int _ => true | .bl _, .bl _ => true | .str _, .str _ => true | .byt _, .byt _ => true
  | .int _, .str _ => true | .str _, .int _ => true | .bl _, .str _ => true | .str _, .bl _ => true
  | _, _ => false
def rEq : R2 := fun x y H Q => scal x y = true ∧ Q (.bl (decide (x = y))) H
def rNe : R2 := fun x y H Q => scal x y = true ∧ Q (.bl (!decide (x = y))) H

theorem dec_int {i j : Int} : decide (V.int i = V.int j) = (i == j) := by
  rw [Bool.eq_iff_iff]
  simp
theorem dec_bl {i j : Bool} : decide (V.bl i = V.bl j) = (i == j) := by
  rw [Bool.eq_iff_iff]
  simp
theorem dec_str {i j : Str} : decide (V.str i = V.str j) = (i == j) := by
  rw [Bool.eq_iff_iff]
  simp
theorem dec_byt {i j : Array UInt8} : decide (V.byt i = V.byt j) = (i.toList == j.toList) := by
  rw [Bool.eq_iff_iff]
  cases i
  cases j
  simp

section
variable {X : Cx} {a b c : Expr} {ta tb tc : TE} {pos : Pos}
theorem fin_bl {pins : List (Addr × Obj)} {σ : St} {H : Hp} {s : Shared} {Q : VK} {k k' : Bool} (I : Inv X pins σ H s) (q : Q (.bl k) H) (e : k = k') : EP X pins σ Q (.bool k') s := by
  subst e
  exact ⟨.bl k, H, I, rfl, q⟩
theorem op_eq : OpR X (compareOp .Eq) rEq := by
  intro pins s σ H x y v u Q I rx ry h
  obtain ⟨hs, q⟩ := h
  cases x with
  | non =>
    cases rx
    cases y with
    | non => cases ry; exact PySem.EqNone.eq_none_none (fin_bl I q (by simp))
    | bl j => cases ry; exact PySem.EqNone.eq_none_bool (fin_bl I q (by simp))
    | int j => obtain ⟨t', rfl⟩ := ry; exact PySem.EqNone.eq_none_int (fin_bl I q (by simp))
    | str j => obtain ⟨t', rfl⟩ := ry; exact PySem.EqNone.eq_none_str (fin_bl I q (by simp))
    | _ => exact absurd (show false = true from hs) Bool.false_ne_true
  | bl i =>
    cases rx
    cases y with
    | non => cases ry; exact PySem.EqNone.eq_bool_none (fin_bl I q (by simp))
    | bl j => cases ry; exact eq_bool (fin_bl I q dec_bl)
    | str j => obtain ⟨t', rfl⟩ := ry; exact PySem.EqMixed.eq_bool_str (fin_bl I q (by simp))
    | _ => exact absurd (show false = true from hs) Bool.false_ne_true
  | int i =>
    obtain ⟨t, rfl⟩ := rx
    cases y with
    | non => cases ry; exact PySem.EqNone.eq_int_none (fin_bl I q (by simp))
    | int j => obtain ⟨t', rfl⟩ := ry; exact eq_int (fin_bl I q dec_int)
    | str j => obtain ⟨t', rfl⟩ := ry; exact PySem.EqMixed.eq_int_str (fin_bl I q (by simp))
    | _ => exact absurd (show false = true from hs) Bool.false_ne_true
  | str i =>
    obtain ⟨t, rfl⟩ := rx
    cases y with
    | non => cases ry; exact PySem.EqNone.eq_str_none (fin_bl I q (by simp))
    | bl j => cases ry; exact PySem.EqMixed.eq_str_bool (fin_bl I q (by simp))
    | int j => obtain ⟨t', rfl⟩ := ry; exact PySem.EqMixed.eq_str_int (fin_bl I q (by simp))
    | str j => obtain ⟨t', rfl⟩ := ry; exact eq_str (fin_bl I q dec_str)
    | _ => exact absurd (show false = true from hs) Bool.false_ne_true
  | byt i =>
    obtain ⟨t, rfl⟩ := rx
    cases y with
    | byt j => obtain ⟨t', rfl⟩ := ry; exact PySem.W.eq_bytes (fin_bl I q dec_byt)
    | _ => exact absurd (show false = true from hs) Bool.false_ne_true
  | _ => cases y <;> exact absurd (show false = true from hs) Bool.false_ne_true
theorem op_ne : OpR X (compareOp .NotEq) rNe := by
  intro pins s σ H x y v u Q I rx ry h
  obtain ⟨hs, q⟩ := h
  cases x with
  | non =>
    cases rx
    cases y with
    | non => cases ry; exact PySem.EqNone.ne_none_none (fin_bl I q (by simp))
    | bl j => cases ry; exact PySem.EqNone.ne_none_bool (fin_bl I q (by simp))
    | int j => obtain ⟨t', rfl⟩ := ry; exact PySem.EqNone.ne_none_int (fin_bl I q (by simp))
    | str j => obtain ⟨t', rfl⟩ := ry; exact PySem.EqNone.ne_none_str (fin_bl I q (by simp))
    | _ => exact absurd (show false = true from hs) Bool.false_ne_true
  | bl i =>
    cases rx
    cases y with
    | non => cases ry; exact PySem.EqNone.ne_bool_none (fin_bl I q (by simp))
    | bl j => cases ry; exact ne_bool (fin_bl I q (congrArg not dec_bl))
    | str j => obtain ⟨t', rfl⟩ := ry; exact PySem.EqMixed.ne_bool_str (fin_bl I q (by simp))
    | _ => exact absurd (show false = true from hs) Bool.false_ne_true
  | int i =>
    obtain ⟨t, rfl⟩ := rx
    cases y with
    | non => cases ry; exact PySem.EqNone.ne_int_none (fin_bl I q (by simp))
    | int j => obtain ⟨t', rfl⟩ := ry; exact ne_int (fin_bl I q (congrArg not dec_int))
    | str j => obtain ⟨t', rfl⟩ := ry; exact PySem.EqMixed.ne_int_str (fin_bl I q (by simp))
    | _ => exact absurd (show false = true from hs) Bool.false_ne_true
  | str i =>
    obtain ⟨t, rfl⟩ := rx
    cases y with
    | non => cases ry; exact PySem.EqNone.ne_str_none (fin_bl I q (by simp))
    | bl j => cases ry; exact PySem.EqMixed.ne_str_bool (fin_bl I q (by simp))
    | int j => obtain ⟨t', rfl⟩ := ry; exact PySem.EqMixed.ne_str_int (fin_bl I q (by simp))
    | str j => obtain ⟨t', rfl⟩ := ry; exact ne_str (fin_bl I q (congrArg not dec_str))
    | _ => exact absurd (show false = true from hs) Bool.false_ne_true
  | byt i =>
    obtain ⟨t, rfl⟩ := rx
    cases y with
    | byt j => obtain ⟨t', rfl⟩ := ry; exact PySem.W.ne_bytes (fin_bl I q (congrArg not dec_byt))
    | _ => exact absurd (show false = true from hs) Bool.false_ne_true
  | _ => cases y <;> exact absurd (show false = true from hs) Bool.false_ne_true

theorem op_lt : OpR X (compareOp .Lt) (rI0 fun i j => .bl (decide (i < j))) := opB0 fun _ _ _ _ _ _ _ q => lt_int q
theorem op_le : OpR X (compareOp .LtE) (rI0 fun i j => .bl (decide (i ≤ j))) := opB0 fun _ _ _ _ _ _ _ q => le_int q
theorem op_gt : OpR X (compareOp .Gt) (rI0 fun i j => .bl (decide (j < i))) := opB0 fun _ _ _ _ _ _ _ q => gt_int q
theorem op_ge : OpR X (compareOp .GtE) (rI0 fun i j => .bl (decide (j ≤ i))) := opB0 fun _ _ _ _ _ _ _ q => ge_int q
/-- is None, is not None: the right side a value none -/
theorem op_isN : OpR X (compareOp .Is) (fun x y H Q => y = .non ∧ Q (.bl (decide (x = .non))) H) := by
  intro pins s σ H x y v u Q I rx ry h
  obtain ⟨rfl, q⟩ := h
  cases ry
  refine is_none_gen (fin_bl I q ?_)
  cases x <;> first
    | (cases rx; rfl)
    | (obtain ⟨t, rfl⟩ := rx; rfl)
/-- two rules for one operation: by cases -/
theorem OpR.or {f : Value → Value → Sem Value} {r r' : R2} (h : OpR X f r) (h' : OpR X f r') : OpR X f (fun x y H Q => r x y H Q ∨ r' x y H Q) := by
  intro pins s σ H x y v u Q I rx ry q
  rcases q with q | q
  · exact h pins s σ H x y v u Q I rx ry q
  · exact h' pins s σ H x y v u Q I rx ry q

theorem nomark (b : Expr) {op : CmpOp} (h : op ≠ .In := by decide) (h2 : op ≠ .NotIn := by decide) : behindInMarks op b = false := by
  have e1 : (op == CmpOp.In) = false := by cases op <;> first | rfl | exact absurd rfl h
  have e2 : (op == CmpOp.NotIn) = false := by cases op <;> first | rfl | exact absurd rfl h2
  cases b <;> simp [behindInMarks, e1, e2]
/-- a comparison as a value; hm: nomark b, or (for in, not in) by with_unfolding_all rfl -/
theorem pe_cmpR {op : CmpOp} {r : R2} (ho : OpR X (compareOp op) r) (ha : PE X a ta) (hb : PE X b tb) (hm : behindInMarks op b = false) : PE X (.Compare a [op] [b] pos) (tOp r ta tb) := by
  intro pins s σ H Q I h
  exact wpAny_Compare1 (binT ha hb I h fun v u s2 x y H2 I2 rx ry q => ho pins s2 σ H2 x y v u Q I2 rx ry q) hm
/-! ### truth -/
theorem line63 : (sizeLine : Nat) < 2 ^ 63 := by rw [sizeLine_eq]; decide
/-! ### strs and bytes -/
/-! ### scalar builtins, by CallR -/
theorem vals1 {x : V} {us : List Value} (r : Vals [x] us) : ∃ u, us = [u] ∧ RelV x u := by
  cases r with
  | cons r1 r2 => cases r2; exact ⟨_, rfl, r1⟩
theorem vals2 {x y : V} {us : List Value} (r : Vals [x, y] us) : ∃ u w', us = [u, w'] ∧ RelV x u ∧ RelV y w' := by
  cases r with
  | cons r1 r2 =>
    cases r2 with
    | cons r3 r4 => cases r4; exact ⟨_, _, rfl, r1, r3⟩
theorem call_max2 (hc : X.calm = true) : CallR X (.builtin "max") (fun xs H Q => ∃ i j, xs = [.int i, .int j] ∧ Q (.int (if j > i then j else i)) H) := by
  intro pins s σ H xs us Q I r h
  obtain ⟨i, j, rfl, q⟩ := h
  obtain ⟨u, w', rfl, ⟨t, rfl⟩, ⟨t', rfl⟩⟩ := vals2 r
  refine max_two_ints (I.ok.hd hc) fun h' tk k => ⟨_, H, I.kept k, ?_, q⟩
  by_cases hj : j > i
  · rw [if_pos hj, if_pos hj]; exact ⟨_, rfl⟩
  · rw [if_neg hj, if_neg hj]; exact ⟨_, rfl⟩
theorem call_min2 (hc : X.calm = true) : CallR X (.builtin "min") (fun xs H Q => ∃ i j, xs = [.int i, .int j] ∧ Q (.int (if j < i then j else i)) H) := by
  intro pins s σ H xs us Q I r h
  obtain ⟨i, j, rfl, q⟩ := h
  obtain ⟨u, w', rfl, ⟨t, rfl⟩, ⟨t', rfl⟩⟩ := vals2 r
  refine min_two_ints (I.ok.hd hc) fun h' tk k => ⟨_, H, I.kept k, ?_, q⟩
  by_cases hj : j < i
  · rw [if_pos hj, if_pos hj]; exact ⟨_, rfl⟩
  · rw [if_neg hj, if_neg hj]; exact ⟨_, rfl⟩
end
end L2

namespace L2
open PySem PySem.Spec PyProof.Rows

/-! ### an instance, its attributes a map -/
structure ObjM (h : Heap) (x dx C : Addr) (mA : Str → Option Value) : Prop where
  obj : h.get? x = some (PySem.W.instObj C dx)
  ns : h.Ns1 dx mA
  ne : dx ≠ x

theorem lookIn_ns {h : Heap} {dx : Addr} {mA : Str → Option Value} (n : h.Ns1 dx mA) : ∃ od, h.get? dx = some od ∧ ∀ name, PySem.W.lookIn name od = some (mA name) := by
  obtain ⟨o, es, ep, ho, hd, hk, _, hm⟩ := n
  refine ⟨o, ho, fun name => ?_⟩
  have e := hm name
  unfold nsFind findBy at e
  rw [← Array.find?_toList] at e
  unfold PySem.W.lookIn
  rw [hd]
  dsimp only
  split
  · rename_i y q
    rw [q] at e
    exact congrArg some e
  · rename_i q
    rw [q] at e
    have a : es.toList.any (·.refKey) = false := by
      rw [List.any_eq_false]
      intro y hy
      obtain ⟨z, t, hkey⟩ := hk y (Array.mem_toList_iff.mp hy)
      simp [DictEntry.refKey, hkey]
    have a' : ¬ es.toList.any (·.refKey) = true := by rw [a]; exact Bool.false_ne_true
    rw [if_neg a']
    exact congrArg some e

theorem ObjM.look {h : Heap} {x dx C : Addr} {mA : Str → Option Value} (I : ObjM h x dx C mA) : ∃ od, PySem.W.InstAt h x (PySem.W.instObj C dx) C (some od) ∧ ∀ name, PySem.W.lookIn name od = some (mA name) :=
  let ⟨od, ho, hl⟩ := lookIn_ns I.ns
  ⟨od, ⟨I.obj, rfl, rfl, ho⟩, hl⟩

section
variable {prog : Program} {w : World} {A : Around} {E : Value → Shared → Prop} {s : Shared} {K : PySem.W.Frag} {x dx C f : Addr} {mA : Str → Option Value} {name : Str} {v : Value}

end

/-! ### the attributes as a list of pairs -/
theorem RelO.some_of {v : V} {o : Option Value} (r : RelO (some v) o) : ∃ u, o = some u ∧ RelV v u := by
  cases o with
  | none => exact (show False from r).elim
  | some u => exact ⟨u, rfl, r⟩
section
variable {P : Program} {w : World} {H H' : Hp} {h h' : Heap} {a C dx : Addr} {fs fs' : List (Str × V)}
theorem ins_get (hok : HOk P w H h) (e : H a = some (.ins C dx fs)) : ∃ mA, ObjM h a dx C mA ∧ (∀ f, RelO (fs.lookup f) (mA f)) ∧ PySem.Within mA (fs.map (·.1)) ∧ fs.length ≤ 1000 ∧ H dx = some (.own a) := by
  obtain ⟨d, z, ne, ob, mA, n, r, q⟩ := (show ObjOk P w H h a (.ins C dx fs) from hok a _ e)
  exact ⟨mA, ⟨ob, n, ne⟩, r, q, z, d⟩
end

/-! ### what of the text a class must have -/
structure Cls (K : PySem.W.Frag) (C : Addr) : Prop where
  pg : PySem.W.plainGet K C Str.empty = true
  hd : PySem.W.hasDictIn K C = true
  po : PySem.W.plainOver K C = true
  sa : PySem.W.findIn K (.ref C) "__setattr__" = some (some (.builtin "object.__setattr__"))
theorem Cls.get {K : PySem.W.Frag} {C : Addr} (c : Cls K C) (f : Str) : PySem.W.plainGet K C f = true := c.pg
section
variable {X : Cx} {pins : List (Addr × Obj)} {σ : St} {H : Hp} {s : Shared} {a C dx : Addr} {fs : List (Str × V)} {f : Str} {v : V} {A : Around} {E : Value → Shared → Prop}

/-- a new instance, tracked, without attributes -/
theorem Inv.made (I : Inv X pins σ H s) : Inv X pins σ (upd (upd H s.heap.objs.size (.own (s.heap.objs.size + 1))) (s.heap.objs.size + 1) (.ins C s.heap.objs.size []))
    { s with heap := (s.heap.push PySem.W.emptyDict).push (PySem.W.instObj C s.heap.objs.size) } := by
  have e1 : (s.heap.push PySem.W.emptyDict).get? s.heap.objs.size = some PySem.W.emptyDict := Heap.get?_push_size s.heap rfl
  have e2 : ((s.heap.push PySem.W.emptyDict).push (PySem.W.instObj C s.heap.objs.size)).get? (s.heap.objs.size + 1) = some (PySem.W.instObj C s.heap.objs.size) := by
    have := Heap.get?_push_size (s.heap.push PySem.W.emptyDict) (o := PySem.W.instObj C s.heap.objs.size) rfl
    rwa [Heap.size_push] at this
  have e3 : (s.heap.push PySem.W.emptyDict).Ns s.heap.objs.size (fun _ => none) := ⟨PySem.W.emptyDict, #[], _, e1, rfl, (fun e he => absurd he (by simp)), fun _ => rfl⟩
  have I1 := I.laid (a := s.heap.objs.size) (o := .own (s.heap.objs.size + 1)) (h' := s.heap.push PySem.W.emptyDict) (t' := s.toks) (fun b u q => Heap.get?_push_of_some _ q) (Nat.le_refl _) ⟨_, e1⟩
  refine I1.laid (a := s.heap.objs.size + 1) (o := .ins C s.heap.objs.size []) (t' := s.toks) (fun b u q => Heap.get?_push_of_some _ q) (Nat.le_of_eq (Heap.size_push _ _)) ?_
  have ne : s.heap.objs.size ≠ s.heap.objs.size + 1 := Nat.ne_of_lt (Nat.lt_succ_self _)
  refine ⟨by rw [upd_ne ne, upd_same], Nat.zero_le _, ne, e2, fun _ => none, (Heap.Ns1.of_empty e3).at fun o q => Heap.get?_push_of_some _ q, fun _ => True.intro, fun y hy => absurd rfl hy⟩

end

/-! ### readings and rules -/
section
variable {X : Cx} {o e value : Expr} {f : Str} {pos pos' tpos : Pos} {ta tv : TE}
end

/-! ### isinstance -/
section
variable {X : Cx} {pins : List (Addr × Obj)} {σ : St} {H : Hp} {s : Shared} {A : Around} {E : Value → Shared → Prop} {Q : Value → Shared → Prop} {c : Value} {b : Bool}
/-- the type of a value, as the fragment's deciders take it; for an instance its class -/
inductive TyOf (K : PySem.W.Frag) (H : Hp) : V → Value → Prop where
  | non : TyOf K H .non (.type "NoneType")
  | bl (x : Bool) : TyOf K H (.bl x) (.type "bool")
  | int (i : Int) : TyOf K H (.int i) (.type "int")
  | str (x : Str) : TyOf K H (.str x) (.type "str")
  | flt (x : UInt64) : TyOf K H (.flt x) (.type "float")
  | lst {a : Addr} {xs : List V} (e : H a = some (.lst xs)) : TyOf K H (.ref a) (.type "list")
  | frz {a : Addr} {o : Obj} {xs : List V} (e : H a = some (.frz o (.lst xs))) : TyOf K H (.ref a) (.type "list")
  | tup {a : Addr} {xs : List V} (e : H a = some (.tup xs)) : TyOf K H (.ref a) (.type "tuple")
  | dK {a : Addr} {kvs : List (Key × V)} (e : H a = some (.dK kvs)) : TyOf K H (.ref a) (.type "dict")
  | dT {a : Addr} {kvs : List (List Key × V)} (e : H a = some (.dT kvs)) : TyOf K H (.ref a) (.type "dict")
  | ins {a C dx : Addr} {fs : List (Str × V)} (e : H a = some (.ins C dx fs)) (cl : Cls K C) (ha : PySem.W.findIn K (.ref C) "__class__" = some (some (.builtin "object.__class__")))
      (hn : PySem.W.specialIn K (.builtin "object.__class__") "__get__" = some (some (.builtin "getset_descriptor.__get__"))) (htk : PySem.W.takesIn K (.builtin "object.__class__") = some true)
      (hm : PySem.W.mroIn K C (.type "object") = some true) : TyOf K H (.ref a) (.ref C)
/-- isinstance(x, c) for one class c, a built-in or an own one: kitOne's answer -/
theorem isinst_ok {x : V} {u t : Value} (I : Inv X pins σ H s) (rx : RelV x u) (ty : TyOf X.K H x t) (e : PySem.W.kitOne X.K t c = some b) (h : ∀ tk, Q (.bool b) { s with toks := tk }) :
    wpAny (model X.prog X.w) A (call (.builtin "isinstance") [u, c]) Q E s := by
  cases ty with
  | non => cases (show u = Value.none from rx); exact PySem.W.kia_one PySem.W.kitx_none I.kIn True.intro e (fun z => nomatch z) h
  | bl y => cases (show u = Value.bool y from rx); exact PySem.W.kia_one PySem.W.kitx_bool I.kIn True.intro e (fun z => nomatch z) h
  | int i => obtain ⟨t, q⟩ := (show ∃ t, u = Value.int i t from rx); cases q; exact PySem.W.kia_one PySem.W.kitx_int I.kIn True.intro e (fun z => nomatch z) h
  | str y => obtain ⟨t, q⟩ := (show ∃ t, u = Value.str y t from rx); cases q; exact PySem.W.kia_one PySem.W.kitx_str I.kIn True.intro e (fun z => nomatch z) h
  | flt y => obtain ⟨t, q⟩ := (show ∃ t, u = Value.float y t from rx); cases q; exact PySem.W.kia_one PySem.W.kitx_float I.kIn True.intro e (fun z => nomatch z) h
  | @lst a xs ea =>
    cases (show u = Value.ref a from rx)
    obtain ⟨_, _, n, _, h1⟩ := (show ObjOk X.prog X.w H s.heap a (.lst xs) from I.hok a _ ea)
    exact PySem.W.kia_one PySem.W.kitx_list I.kIn ⟨_, h1, rfl⟩ e (fun z => nomatch z) h
  | @frz a ob xs ea =>
    cases (show u = Value.ref a from rx)
    obtain ⟨_, _, _, n, _, h1⟩ := (show ObjOk X.prog X.w H s.heap a (.frz ob (.lst xs)) from I.hok a _ ea)
    exact PySem.W.kia_one PySem.W.kitx_list I.kIn ⟨_, h1, rfl⟩ e (fun z => nomatch z) h
  | @tup a xs ea =>
    cases (show u = Value.ref a from rx)
    obtain ⟨_, _, _, p⟩ := (show ObjOk X.prog X.w H s.heap a (.tup xs) from I.hok a _ ea)
    obtain ⟨o, h1, h2, _⟩ := p
    exact PySem.W.kia_one PySem.W.kitx_tuple I.kIn ⟨o, h1, h2⟩ e (fun z => nomatch z) h
  | @dK a kvs ea =>
    cases (show u = Value.ref a from rx)
    obtain ⟨_, _, vs, _, p⟩ := (show ObjOk X.prog X.w H s.heap a (.dK kvs) from I.hok a _ ea)
    obtain ⟨o, es, ep, h1, h2, _⟩ := p
    exact PySem.W.kia_one PySem.W.kitx_dict I.kIn ⟨o, h1, h2.1⟩ e (fun z => nomatch z) h
  | @dT a kvs ea =>
    cases (show u = Value.ref a from rx)
    obtain ⟨_, _, xs, _, o, es, ep, h1, h2, _⟩ := (show ObjOk X.prog X.w H s.heap a (.dT kvs) from I.hok a _ ea)
    exact PySem.W.kia_one PySem.W.kitx_dict I.kIn ⟨o, h1, h2.1⟩ e (fun z => nomatch z) h
  | @ins a C dx fs ea cl ha hn htk hm =>
    cases (show u = Value.ref a from rx)
    obtain ⟨mA, O, _⟩ := ins_get I.hok ea
    obtain ⟨od, J, _⟩ := O.look
    exact PySem.W.kia_one (PySem.W.kitx_own (cl.get _) cl.hd ha hn htk hm) I.kIn J e (fun z => nomatch z) h
end
end L2

namespace L2
open PySem PySem.Spec PyProof.Rows

/-! ### room -/
structure Room (k : Nat) (A : Around) : Prop where
  hd : A.handled = none
  dp : A.depth + 3 * k + 5 < recursionLimit
  un : A.units + 16 * k + 200 < cLine
theorem Room.mono {j k : Nat} {A : Around} (r : Room k A) (h : j ≤ k) : Room j A := ⟨r.hd, by have := r.dp; omega, by have := r.un; omega⟩
theorem Room.deeper {k : Nat} {A : Around} (r : Room (k + 1) A) (env : Env) : Room k (A.deeper env) :=
  ⟨r.hd, by have := r.dp; show A.depth + 1 + 3 * k + 5 < _; omega, by have := r.un; show A.units + 3 + 16 * k + 200 < _; omega⟩
theorem Room.in1 {k : Nat} {A : Around} (r : Room (k + 1) A) : Room k A.in1 :=
  ⟨r.hd, by have := r.dp; show A.depth + 3 * k + 5 < _; omega, by have := r.un; show A.units + 1 + 16 * k + 200 < _; omega⟩
theorem Room.depth {k : Nat} {A : Around} (r : Room k A) : A.depth < recursionLimit := by have := r.dp; omega
theorem Room.units {k : Nat} {A : Around} (r : Room k A) : A.units + 64 < cLine := by have := r.un; omega
/-! ### argument lists and displays -/
def tNil : TA := fun _ H Q => Q [] H
def tCons (ta : TE) (tr : TA) : TA := fun σ H Q => ta σ H fun x H1 => tr σ H1 fun xs H2 => Q (x :: xs) H2
section
variable {X : Cx} {e : Expr} {es : List Expr} {te : TE} {t : TA} {pos : Pos}
theorem pa_nil : PA X [] tNil := fun _ _ _ _ H Q I h => Calls.spliced_nil ⟨[], H, I, .nil, h⟩
theorem pa_cons (ha : PE X e te) (hr : PA X es t) (hs : starEach (e :: es) X.env = (false, eval e X.env) :: starEach es X.env := by rfl) : PA X (e :: es) (tCons te t) := by
  intro pos pins s σ H Q I h
  rw [hs]
  show wpAny _ _ (spliced ((false, eval e X.env) :: backTo pos (starEach es X.env))) _ _ s
  refine Calls.spliced_cons (thn (ha pins s σ H _ I h) fun u s1 ⟨x, H1, I1, r1, q1⟩ => ?_)
  exact thn (hr pos pins s1 σ H1 _ I1 q1) fun us s2 ⟨xs, H2, I2, r2, q2⟩ => ⟨x :: xs, H2, I2, .cons r1 r2, q2⟩

/-- a tuple, a list of written items -/
def tTup (t : TA) : TE := fun σ H Q => t σ H fun xs H1 => xs.length ≤ sizeLine ∧ ∀ p, H1 p = none → Q (.ref p) (upd H1 p (.tup xs))
def tLst (t : TA) : TE := fun σ H Q => t σ H fun xs H1 => xs.length ≤ sizeLine ∧ ∀ p, H1 p = none → Q (.ref p) (upd H1 p (.lst xs))
theorem pe_tup {x1} (h : PA X es t) : PE X (.Tuple es x1 pos) (tTup t) := by
  intro pins s σ H Q I hq
  refine wpAny_Tuple_spliced (thn (h pos pins s σ H _ I hq) fun us s1 ⟨xs, H1, I1, r, z, q⟩ => ⟨by rw [← r.length]; exact z, ?_⟩)
  have hf : H1 s1.heap.objs.size = none := I1.hok.fresh (Nat.le_refl _)
  refine ⟨.ref s1.heap.objs.size, upd H1 s1.heap.objs.size (.tup xs), I1.laid (t' := s1.toks) (fun b u e => Heap.get?_push_of_some _ e) (Nat.le_refl _) ?_, rfl, q _ hf⟩
  exact ⟨z, us, r, ⟨_, Heap.get?_push_size _ rfl, rfl, _, rfl⟩⟩
theorem pe_lst (h : PA X es t) : PE X (.List es pos) (tLst t) := by
  intro pins s σ H Q I hq
  refine wpAny_List_spliced (thn (h pos pins s σ H _ I hq) fun us s1 ⟨xs, H1, I1, r, z, q⟩ => ⟨by rw [← r.length]; exact z, ?_⟩)
  have hf : H1 s1.heap.objs.size = none := I1.hok.fresh (Nat.le_refl _)
  refine ⟨.ref s1.heap.objs.size, upd H1 s1.heap.objs.size (.lst xs), I1.laid (t' := s1.toks) (fun b u e => Heap.get?_push_of_some _ e) (Nat.le_refl _) ?_, rfl, q _ hf⟩
  exact ⟨z, us, 0, r, Heap.get?_push_size _ rfl⟩
end

/-! ### what a def promises -/
/-- a def's promise: the bound arguments in the parameters' order, the heap, the wanted end, the wanted exception -/
abbrev Sp := List V → Hp → VK → XK → Prop
/-- how an exception lies behind a call (file 08 gives it): the callers' frames, abstract heap and state ahead of the call, the wish, the exception, the state -/
abbrev CXT := List Env → Hp → Shared → XK → Value → Shared → Prop

/-- the state at a call -/
structure Env0 (P : Program) (w : World) (K : PySem.W.Frag) (mg : Str → Option Value) (base : Heap) (A : Around) (outer : List Env) (s : Shared) (H : Hp) : Prop where
  frames : A.frames = some outer
  mod : Mod K mg base
  bs : ∀ b o, base.get? b = some o → s.heap.get? b = some o ∧ H b = none
  bsz : base.objs.size ≤ s.heap.objs.size
  funs : s.heap.FunFrames base outer
  frf : ∀ b ∈ frs outer, H b = none
  hok : HOk P w H s.heap
  bare : AllBare s.gens
/-- a call's end -/
def CE (outer : List Env) (P : Program) (w : World) (H : Hp) (s : Shared) (Q : VK) (u : Value) (s' : Shared) : Prop :=
  ∃ v H', s'.os = s.os ∧ AllBare s'.gens ∧ Un (frs outer) [] H H' s.heap s'.heap ∧ HOk P w H' s'.heap ∧ RelV v u ∧ Q v H'
def CR (CX : CXT) (outer : List Env) (P : Program) (w : World) (H : Hp) (s : Shared) (Q : VK) (E : XK) (r : Result) (s' : Shared) : Prop :=
  match r with
  | .ok (.ret u) => CE outer P w H s Q u s'
  | .ok _ => False
  | .error e => CX outer H s E e s'
structure FnOk (P : Program) (w : World) (K : PySem.W.Frag) (mg : Str → Option Value) (base : Heap) (CX : CXT) (k : Nat) (f : Addr) (fd : FuncData) (ps : List Str) (sp : Sp) : Prop where
  len : ∀ vs H Q E, sp vs H Q E → vs.length = ps.length
  run : ∀ (A : Around) (outer : List Env) (s : Shared) (H : Hp) (args : Args) (us : List Value) (vs : List V) (Q : VK) (E : XK), Room k A → Env0 P w K mg base A outer s H → BindsTo s fd args (ps.zip us) → Vals vs us → sp vs H Q E →
    codeAny (model P w) A (.call (.ref f) args) (CR CX outer P w H s Q E) s
theorem FnOk.mono {P : Program} {w : World} {K : PySem.W.Frag} {mg : Str → Option Value} {base : Heap} {CX : CXT} {j k : Nat} {f : Addr} {fd : FuncData} {ps : List Str} {sp : Sp} (F : FnOk P w K mg base CX j f fd ps sp) (h : j ≤ k) :
    FnOk P w K mg base CX k f fd ps sp := ⟨F.len, fun A outer s H args us vs Q E hr => F.run A outer s H args us vs Q E (hr.mono h)⟩
/-- a weaker promise -/
theorem FnOk.imp {P : Program} {w : World} {K : PySem.W.Frag} {mg : Str → Option Value} {base : Heap} {CX : CXT} {k : Nat} {f : Addr} {fd : FuncData} {ps : List Str} {sp sp' : Sp} (F : FnOk P w K mg base CX k f fd ps sp)
    (h : ∀ vs H Q E, sp' vs H Q E → sp vs H Q E) : FnOk P w K mg base CX k f fd ps sp' :=
  ⟨fun vs H Q E q => F.len vs H Q E (h _ _ _ _ q), fun A outer s H args us vs Q E hr he hb hv hs => F.run A outer s H args us vs Q E hr he hb hv (h _ _ _ _ hs)⟩

theorem Env0.in1 {P : Program} {w : World} {K : PySem.W.Frag} {mg : Str → Option Value} {base : Heap} {A : Around} {outer : List Env} {s : Shared} {H : Hp} (e : Env0 P w K mg base A outer s H) :
    Env0 P w K mg base A.in1 outer s H := ⟨e.frames, e.mod, e.bs, e.bsz, e.funs, e.frf, e.hok, e.bare⟩

section
variable {X : Cx} {pins : List (Addr × Obj)} {σ : St} {H : Hp} {s s' : Shared}
/-- from a body: what a callee wants -/
theorem Inv.env0 (I : Inv X pins σ H s) : Env0 X.prog X.w X.K X.mg X.base X.A X.stack s H :=
  ⟨I.ok.frames, I.ok.mod, I.bs, Nat.le_trans I.ok.bsz I.sz, I.stack, I.stkFree, I.hok, I.bare⟩
/-- behind a call -/
theorem Inv.after {Q : VK} {u : Value} (I : Inv X pins σ H s) (h : CE X.stack X.prog X.w H s Q u s') : EP X pins σ Q u s' := by
  obtain ⟨v, H', os, bare, un, hok, r, q⟩ := h
  obtain ⟨hh, g, d, t, os'⟩ := s'
  obtain rfl : os' = s.os := os
  exact ⟨v, H', I.call (h' := hh) (g' := g) (d' := d) (t' := t) (ch := []) un hok bare (fun b z => absurd z (by simp)), r, q⟩
end

/-! ### calls -/
/-- f(..): the written arguments, then the defaults dvs; E: what is wanted of an exception -/
def tCall (sp : Sp) (dvs : List V) (E : XK) (t : TA) : TE := fun σ H Q => t σ H fun vs H1 => sp (vs ++ dvs) H1 Q E
/-- how the parameters are bound: us the positional arguments, kw the keywords' values by name, ds the defaults that fill up -/
def Binds (K : PySem.W.Frag) (fd : FuncData) (ps : List Str) (ds : List Value) : Prop :=
  ∀ (s : Shared) (us : List Value), K.In s.heap → (us ++ ds).length = ps.length → BindsTo s fd ⟨us, []⟩ (ps.zip (us ++ ds))
/-- every parameter is given -/
theorem Binds.all {K : PySem.W.Frag} {fd : FuncData} {ps : List Str} (h : ∀ us : List Value, us.length = ps.length → bindArgs fd ⟨us, []⟩ = pure (ps.zip us)) : Binds K fd ps [] := fun s us _ hl => by
  rw [List.append_nil] at hl ⊢
  exact .of_eq (h us hl)

/-- an exception of a callee reaches what this body wants of exceptions -/
def Passes (CX : CXT) (X : Cx) (E : XK) : Prop := ∀ (pins : List (Addr × Obj)) (σ : St) (H : Hp) (s : Shared) (e : Value) (s' : Shared), Inv X pins σ H s → CX X.stack H s E e s' → X.xe e s'

section
variable {X : Cx} {CX : CXT} {k : Nat} {f C : Addr} {fd : FuncData} {ps : List Str} {sp : Sp} {dvs : List V} {ds : List Value} {E : XK} {x m : Str} {p pos apos : Pos} {e o : Expr} {es : List Expr} {ta : TE} {t : TA}

/-- the callee runs -/
theorem run_fn {pins : List (Addr × Obj)} {σ : St} {H : Hp} {s : Shared} {Q : VK} {us : List Value} {vs : List V} (F : FnOk X.prog X.w X.K X.mg X.base CX k f fd ps sp) (hr : Room k X.A) (hb : Binds X.K fd ps ds) (hd : Vals dvs ds) (hx : Passes CX X E)
    (I : Inv X pins σ H s) (r : Vals vs us) (h : sp (vs ++ dvs) H Q E) : wpAny (model X.prog X.w) X.A (call (.ref f) us) (EP X pins σ Q) X.xe s := by
  have r2 : Vals (vs ++ dvs) (us ++ ds) := r.append hd
  have hl : (us ++ ds).length = ps.length := by rw [← r2.length]; exact F.len _ _ _ _ h
  refine wpAny_call (codeAny_mono (F.run X.A X.stack s H ⟨us, []⟩ (us ++ ds) (vs ++ dvs) Q E hr I.env0 (hb s us I.kIn hl) r2 h) fun r s' hq => ?_)
  cases r with
  | error e => exact hx pins σ H s e s' I hq
  | ok fl =>
    cases fl with
    | ret u => exact I.after hq
    | next => exact False.elim hq
    | brk => exact False.elim hq
    | cont => exact False.elim hq

theorem pe_call (F : FnOk X.prog X.w X.K X.mg X.base CX k f fd ps sp) (hr : Room k X.A) (hg : Gl X x) (hm : X.mg x = some (.ref f)) (hk : PySem.W.keepIn X.K (.ref f) = true) (hb : Binds X.K fd ps ds) (hd : Vals dvs ds) (hx : Passes CX X E)
    (ha : PA X (e :: es) t) (hdb : (x == ("__debug__" : Str)) = false := by decide) (he : starEach (e :: es) X.env = (false, eval e X.env) :: starEach es X.env := by rfl) (hpl : (backTo pos (starEach es X.env)).any (·.1) = false := by rfl) :
    PE X (.Call (.Name x p) (e :: es) [] pos) (tCall sp dvs E t) := by
  intro pins s σ H Q I h
  refine wpAny_Call_Name_kw (ld_glob I hg hm ?_ hdb)
  refine PySem.W.callWith_K (h₀ := X.base) I.ok.mod.kin hk (thn (ha pos pins s σ H _ I h) fun us s1 ⟨vs, H1, I1, r, q⟩ => ⟨I1.kIn, ?_⟩) he hpl
  exact run_fn F hr hb hd hx I1 r q
end

/-! ### keywords -/
/-- the values of the keywords, from the left -/
def PK (X : Cx) (kws : List Keyword) (t : TA) : Prop :=
  ∀ (pos : Pos) (pins : List (Addr × Obj)) (s : Shared) (σ : St) (H : Hp) (Q : List V → Hp → Prop), Inv X pins σ H s → t σ H Q → wpAny (model X.prog X.w) X.A (evalAll ((backToKw pos (keywordEach kws X.env)).map (·.2))) (AP X pins σ Q) X.xe s
section
variable {X : Cx} {CX : CXT} {k : Nat} {f C : Addr} {fd : FuncData} {ps ks : List Str} {sp : Sp} {E : XK} {x m : Str} {p pos apos kpos : Pos} {e o : Expr} {es : List Expr} {kws : List Keyword} {te ta : TE} {t tk : TA} {nm : Option Str}
theorem pk_nil : PK X [] tNil := fun _ _ _ _ H Q I h => wpAny_evalAll_nil ⟨[], H, I, .nil, h⟩
theorem pk_cons (ha : PE X e te) (hr : PK X kws t) : PK X (⟨nm, e, kpos⟩ :: kws) (tCons te t) := by
  intro pos pins s σ H Q I h
  show wpAny _ _ (evalAll ((do let v ← eval e X.env; standAt pos; pure v) :: (backToKw pos (keywordEach kws X.env)).map (·.2))) _ _ s
  refine wpAny_evalAll_cons (wpAny_bind (thn (ha pins s σ H _ I h) fun u s1 ⟨x, H1, I1, r1, q1⟩ => wpAny_bind (wpAny_standAt (wpAny_pure ?_))))
  exact thn (hr pos pins s1 σ H1 _ I1 q1) fun us s2 ⟨xs, H2, I2, r2, q2⟩ => ⟨x :: xs, H2, I2, .cons r1 r2, q2⟩

variable {g : List Value → List Value → List Value} {gV : List V → List V → List V}
end

/-! ### a def's body keeps its promise -/
/-- names: the parameters first -/
structure FnScope (N P : List Str) (sc : Scope) : Prop where
  kind : sc.kind = .function
  co : sc.isCoroutine = false
  gen : sc.isGenerator = false
  nd : N.Nodup
  pre : N.take P.length = P
  par : ∀ x ∈ P, sc.names.lookup x = some .local ∨ sc.names.lookup x = some .cell
  nofree : ∀ y ∈ sc.names, y.2 ≠ .free

theorem bindL_out {kindOf : Str → Option NameKind} {x : Str} : ∀ {binds : List (Str × Value)} {m : Str → Option Value}, (∀ v, (x, v) ∉ binds) → bindL kindOf binds m x = m x
  | [], _, _ => rfl
  | (n, v) :: r, m, h => by
    unfold bindL
    rw [bindL_out fun w hw => h w (List.mem_cons_of_mem _ hw)]
    split
    · have : x ≠ n := by rintro rfl; exact h v List.mem_cons_self
      simp [this]
    · rfl
theorem bindC_out {kindOf : Str → Option NameKind} {x : Str} : ∀ {binds : List (Str × Value)} {m : Str → Option Value}, (∀ v, (x, v) ∉ binds) → bindC kindOf binds m x = m x
  | [], _, _ => rfl
  | (n, v) :: r, m, h => by
    unfold bindC
    rw [bindC_out fun w hw => h w (List.mem_cons_of_mem _ hw)]
    split
    · rfl
    · have : x ≠ n := by rintro rfl; exact h v List.mem_cons_self
      simp [this]
theorem bindL_get {kindOf : Str → Option NameKind} {x : Str} {v : Value} : ∀ {P : List Str} {vs : List Value} {i : Nat} {m : Str → Option Value}, P.Nodup → P[i]? = some x → vs[i]? = some v → kindOf x = some .local →
    bindL kindOf (P.zip vs) m x = some v
  | [], _, _, _, _, h, _, _ => by simp at h
  | _ :: _, [], _, _, _, _, h, _ => by simp at h
  | p :: P, w :: vs, 0, m, nd, h1, h2, hk => by
    simp at h1 h2; subst h1; subst h2
    show bindL kindOf ((p, w) :: P.zip vs) m p = _
    unfold bindL
    rw [bindL_out fun v hv => (List.nodup_cons.mp nd).1 (List.of_mem_zip hv).1, if_pos hk]
    simp
  | p :: P, w :: vs, i + 1, m, nd, h1, h2, hk => by
    show bindL kindOf ((p, w) :: P.zip vs) m x = _
    unfold bindL
    exact bindL_get (i := i) (List.nodup_cons.mp nd).2 (by simpa using h1) (by simpa using h2) hk
theorem bindC_get {kindOf : Str → Option NameKind} {x : Str} {v : Value} : ∀ {P : List Str} {vs : List Value} {i : Nat} {m : Str → Option Value}, P.Nodup → P[i]? = some x → vs[i]? = some v → kindOf x ≠ some .local →
    bindC kindOf (P.zip vs) m x = some v
  | [], _, _, _, _, h, _, _ => by simp at h
  | _ :: _, [], _, _, _, _, h, _ => by simp at h
  | p :: P, w :: vs, 0, m, nd, h1, h2, hk => by
    simp at h1 h2; subst h1; subst h2
    show bindC kindOf ((p, w) :: P.zip vs) m p = _
    unfold bindC
    rw [bindC_out fun v hv => (List.nodup_cons.mp nd).1 (List.of_mem_zip hv).1, if_neg hk]
    simp
  | p :: P, w :: vs, i + 1, m, nd, h1, h2, hk => by
    show bindC kindOf ((p, w) :: P.zip vs) m x = _
    unfold bindC
    exact bindC_get (i := i) (List.nodup_cons.mp nd).2 (by simpa using h1) (by simpa using h2) hk

/-- the names' values at the entry -/
def start (N : List Str) (vs : List V) : St := vs.map some ++ List.replicate (N.length - vs.length) none

/-- the context of a def's body, at its entry; an exception leaves the frame, then lies as CX says -/
def cxOf (CX : CXT) (P : Program) (w : World) (K : PySem.W.Frag) (mg : Str → Option Value) (base : Heap) (N : List Str) (qual : Str) (scope : Scope) (f : Addr) (cd : Value) (A : Around) (outer : List Env) (s : Shared) (H : Hp) (E : XK) : Cx where
  prog := P
  w := w
  K := K
  mg := mg
  base := base
  A := A.deeper (envOfC qual scope s.heap.objs.size f cd)
  N := N
  s₀ := s
  H₀ := H
  env := envOfC qual scope s.heap.objs.size f cd
  outer := outer
  stack := envOfC qual scope s.heap.objs.size f cd :: outer
  ex := []
  calm := true
  fn := fun _ => true
  pn := []
  xe := fun e s' => wpAny (model P w) (A.deeper (envOfC qual scope s.heap.objs.size f cd)) (leaving (envOfC qual scope s.heap.objs.size f cd) e) (fun _ s'' => CX outer H s E e s'') (fun e' s'' => CX outer H s E e' s'') s'

theorem cell_has {sc : Scope} {n : Nat} {x : Str} (h : sc.names.lookup x = some .cell) : ∃ c, (cellsFrom n sc.names []).lookup x = some c := by
  have q := PySem.W.cellsFrom_some sc.names n [] (.inl h)
  exact Option.isSome_iff_exists.mp q

theorem inv_start {CX : CXT} {P : Program} {w : World} {K : PySem.W.Frag} {mg : Str → Option Value} {base : Heap} {N ps : List Str} {qual : Str} {scope : Scope} {f : Addr} {cd : Value} {A : Around} {outer : List Env} {s s1 : Shared} {H : Hp} {E : XK} {us : List Value} {vs : List V}
    (S : FnScope N ps scope) (hd : A.handled = none) (e0 : Env0 P w K mg base A outer s H) (hl : vs.length = ps.length) (r : Vals vs us)
    (x : InCallC s s.heap.objs.size (bindL (envOfC qual scope s.heap.objs.size f cd).kindOf (ps.zip us) fun _ => none) (cellsFrom (s.heap.objs.size + 1) scope.names []) (bindC (envOfC qual scope s.heap.objs.size f cd).kindOf (ps.zip us) fun _ => none) s1) :
    Inv (cxOf CX P w K mg base N qual scope f cd A outer s H E) [] (start N vs) H s1 := by
  have hpl : ps.length ≤ N.length := by have := congrArg List.length S.pre; rw [List.length_take] at this; omega
  obtain ⟨h1, tk, rfl, hk⟩ := x.done
  have noA : ∀ b : Addr, b ∉ (cxOf CX P w K mg base N qual scope f cd A outer s H E).ex := fun b z => absurd (show b ∈ ([] : List Addr) from z) (by simp)
  refine ⟨⟨e0.mod, S.kind, rfl, rfl, Nat.le_refl _, fun y z c h1 h2 => ?_, fun y hy => ?_, fun y c _ h => ?_, fun _ => hd, Around.frames_deeper e0.frames, .inr ⟨rfl, rfl⟩, fun b z => absurd z (noA b), e0.bs, e0.bsz, fun b _ _ => noA b, fun b z => absurd z (noA b), e0.funs, e0.frf⟩,
    rfl, e0.bare, Un.kept hk, ⟨_, x.toInCall.ns, fun i y v h1 h2 h3 => ?_⟩, fun y c h => ⟨_, x.cell y c h⟩, e0.hok.fresh (Nat.le_refl _), fun y c h => ?_, fun p hp => absurd (show p ∈ ([] : List (Addr × Obj)) from hp) (by simp), e0.hok.kept hk, ?_⟩
  · exact name_of_addr x.apart (PySem.mem_of_lookup h1) (PySem.mem_of_lookup h2)
  · have hy : scope.names.lookup y = some .cell ∨ scope.names.lookup y = some .free := hy
    rcases hy with hy | hy
    · exact cell_has hy
    · exact absurd rfl (S.nofree _ (PySem.mem_of_lookup hy))
  · exact Nat.le_of_lt (x.above y c (PySem.mem_of_lookup h))
  · have hi : i < vs.length := by
      unfold start at h2
      by_cases hi : i < vs.length
      · exact hi
      · rw [List.getElem?_append_right (by simpa using hi)] at h2
        rw [List.getElem?_replicate] at h2
        split at h2 <;> cases h2
    have ha : vs[i]? = some v := by
      unfold start at h2
      rw [List.getElem?_append_left (by simpa using hi), List.getElem?_map] at h2
      cases e : vs[i]? with
      | none => rw [e] at h2; cases h2
      | some a => rw [e] at h2; cases h2; rfl
    obtain ⟨u, hu, rv⟩ := r.get ha
    have hp : ps[i]? = some y := by
      rw [← S.pre, List.getElem?_take_of_lt (by omega)]; exact h1
    have ndP : ps.Nodup := by rw [← S.pre]; exact S.nd.sublist (List.take_sublist _ _)
    refine ⟨u, rv, ?_⟩
    rcases S.par y (List.mem_of_getElem? hp) with k | k
    · exact .inl ⟨k, bindL_get ndP hp hu k⟩
    · obtain ⟨c, e⟩ := cell_has (n := s.heap.objs.size + 1) k
      refine .inr ⟨.inl k, c, e, ?_⟩
      have q := x.cell y c e
      rw [bindC_get ndP hp hu (by show scope.names.lookup y ≠ _; rw [k]; decide)] at q
      exact q
  · exact e0.hok.fresh (Nat.le_of_lt (x.above y c (PySem.mem_of_lookup h)))
  · unfold start
    show _ = N.length
    rw [List.length_append, List.length_map, List.length_replicate]
    omega

/-- THE RULE: a def (or a method) of the text, by its body. The body's reading t is chosen for each entry; it is run at the parameters' values -/
theorem fn_of {CX : CXT} {P : Program} {w : World} {K : PySem.W.Frag} {mg : Str → Option Value} {base : Heap} {k : Nat} {f : Addr} {name qual : Str} {params : Arguments} {body : List Stmt} {scope : Scope} {dV kV doc pm cdv ct oc : Value} {an od : Option Addr}
    {osl : Array (Option Value)} {N ps : List Str} {sp : Sp} (lk : K.lookup f = some ⟨oc, od, .func (PySem.W.fnOf name qual params body scope dV kV doc pm an cdv ct), osl⟩) (hcd : PySem.W.codeIn K cdv qual = true) (S : FnScope N ps scope)
    (len : ∀ vs H Q E, sp vs H Q E → vs.length = ps.length)
    (hbody : ∀ (A : Around) (outer : List Env) (s : Shared) (H : Hp) (vs : List V) (Q : VK) (E : XK), Room k (A.deeper (envOfC qual scope s.heap.objs.size f cdv)) → sp vs H Q E →
      ∃ t, PSs (cxOf CX P w K mg base N qual scope f cdv A outer s H E) body t ∧ t { nx := fun _ H' => Q .non H', rt := Q } (start N vs) H) :
    FnOk P w K mg base CX (k + 1) f (PySem.W.fnOf name qual params body scope dV kV doc pm an cdv ct) ps sp := by
  refine ⟨len, fun A outer s H args us vs Q E hr e0 hb r hsp => ?_⟩
  have hl := len _ _ _ _ hsp
  have KX : K.In s.heap := e0.mod.kin.keeps fun b o e => (e0.bs b o e).1
  have lim : s.heap.NoLimit := e0.mod.nolimit.keeps fun b o e => (e0.bs b o e).1
  have hkind : ∀ y ∈ ps.zip us, scope.names.lookup y.1 = some .local ∨ (scope.names.lookup y.1 = some .cell ∧ ((cellsFrom (s.heap.objs.size + 1) scope.names []).lookup y.1).isSome = true) := fun ⟨n, v⟩ hy => by
    rcases S.par n (List.of_mem_zip hy).1 with q | q
    · exact .inl q
    · exact .inr ⟨q, PySem.W.cellsFrom_some _ _ _ (.inl q)⟩
  refine codeAny_call_function hr.depth (KX _ _ lk) rfl S.co S.gen rfl (PySem.W.codeRec_of KX hcd) (hb _ _ _ _ ?_)
  refine wpAny_newFunctionEnv_cells S.kind hkind fun env he s1 x => ?_
  subst he
  refine ⟨lim.keeps x.toInCall.keep, codeAny_func ?_⟩
  obtain ⟨t, ht, hq⟩ := hbody A outer s H vs Q E (hr.deeper _) hsp
  have I : Inv (cxOf CX P w K mg base N qual scope f cdv A outer s H E) [] (start N vs) H s1 := inv_start S hr.hd e0 hl r x
  refine wpAny_mono (ht [] s1 (start N vs) H _ I hq) (fun fl s' hs => ?_) fun e s' hs => hs
  have fin : ∀ {σ' : St} {H' : Hp} {v : V} {u : Value}, Inv (cxOf CX P w K mg base N qual scope f cdv A outer s H E) [] σ' H' s' → RelV v u → Q v H' → CE outer P w H s Q u s' :=
    fun {σ' H' v u} J rv q => ⟨v, H', J.os, J.bare, J.base, J.hok, rv, q⟩
  cases fl with
  | ret u =>
    obtain ⟨v, σ', H', J, rv, q⟩ := hs
    exact fin J rv q
  | next =>
    obtain ⟨σ', H', J, q⟩ := hs
    exact fin (v := V.non) (u := Value.none) J rfl q
  | brk =>
    obtain ⟨_, _, _, q⟩ := hs
    exact False.elim q
  | cont =>
    obtain ⟨_, _, _, q⟩ := hs
    exact False.elim q
end L2

namespace L2
open PySem PySem.Spec PyProof.Rows
section
variable {X : Cx} {x : Str} {p pos : Pos} {e : Expr} {es : List Expr} {t : TA} {id T : String} {r : List V → Hp → VK → Prop}

def tCB (r : List V → Hp → VK → Prop) (t : TA) : TE := fun σ H Q => t σ H fun vs H1 => r vs H1 Q
/-- f(e, ..), f a built-in function -/
theorem pe_callB (hc : CallR X (.builtin id) r) (hg : Gl X x) (hm : X.mg x = none) (hv : bootBuiltins x = some (.builtin id)) (ha : PA X (e :: es) t) (hn : x ≠ "__name__" := by decide) (hdb : (x == ("__debug__" : Str)) = false := by decide)
    (he : starEach (e :: es) X.env = (false, eval e X.env) :: starEach es X.env := by rfl) (hpl : (backTo pos (starEach es X.env)).any (·.1) = false := by rfl) : PE X (.Call (.Name x p) (e :: es) [] pos) (tCB r t) := by
  intro pins s σ H Q I h
  refine wpAny_Call_Name_kw (ld_blt I hg hm hv ?_ hn hdb)
  exact PyProof.Rows.callWith_builtin1 (thn (ha pos pins s σ H _ I h) fun us s1 ⟨vs, H1, I1, r1, q1⟩ => hc pins s1 σ H1 vs us Q I1 r1 q1) he hpl
/-- T(e, ..), T a built-in type -/
theorem pe_callTy (hc : CallR X (.type T) r) (hg : Gl X x) (hm : X.mg x = none) (hv : bootBuiltins x = some (.type T)) (ha : PA X (e :: es) t) (hn : x ≠ "__name__" := by decide) (hdb : (x == ("__debug__" : Str)) = false := by decide)
    (he : starEach (e :: es) X.env = (false, eval e X.env) :: starEach es X.env := by rfl) (hpl : (backTo pos (starEach es X.env)).any (·.1) = false := by rfl) : PE X (.Call (.Name x p) (e :: es) [] pos) (tCB r t) := by
  intro pins s σ H Q I h
  refine wpAny_Call_Name_kw (ld_blt I hg hm hv ?_ hn hdb)
  exact PyProof.Rows.callWith_type1 (thn (ha pos pins s σ H _ I h) fun us s1 ⟨vs, H1, I1, r1, q1⟩ => hc pins s1 σ H1 vs us Q I1 r1 q1) he hpl
end
end L2

namespace HT
open PySem PyProof.Rows

/-- t < u of tuples of ints -/
def lexLt : List Int → List Int → Bool
  | [], [] => false
  | [], _ :: _ => true
  | _ :: _, [] => false
  | x :: xs, y :: ys => if x = y then lexLt xs ys else decide (x < y)
theorem lexLt_cons (x y : Int) (xs ys : List Int) : lexLt (x :: xs) (y :: ys) = if x = y then lexLt xs ys else decide (x < y) := rfl
theorem lexLt_nil_nil : lexLt [] [] = false := rfl
theorem lexLt_nil_cons (y : Int) (ys : List Int) : lexLt [] (y :: ys) = true := rfl
theorem lexLt_cons_nil (x : Int) (xs : List Int) : lexLt (x :: xs) [] = false := rfl

theorem eqAt_int (A : Around) (s : Shared) (a : Int) (t : Tok) (c : Int) (u : Tok) : ∃ e, SeqAt.EqAt A s (.int a t) (.int c u) e ∧ (e = true ↔ a = c) :=
  ⟨(a == c), SeqAt.EqAt.int_int a t c u, by simp⟩
theorem rcLt_int (A : Around) (s : Shared) (a : Int) (t : Tok) (c : Int) (u : Tok) (prog : Program) (w : World) (E : Value → Shared → Prop) (Q : Value → Shared → Prop) (h : Q (.bool (decide (a < c))) s) :
    wpAny (model prog w) A (richCompare .Lt (.int a t) (.int c u)) Q E s :=
  (PyProof.Rows.lt_int h : wpAny (model prog w) A (compareOp .Lt (.int a t) (.int c u)) Q E s)

section
open PySem.SeqAt
open PySem.AutoSeq1 (wpAny_loadPart')
open PySem.MeetsSeq PySem.MeetsSeq2 PySem.MeetsSeq3

theorem tuple_lt_ints (l b : Addr) (items items2 : Array Value) (n n2 : Nat) (dd dd2 : Option Addr) (sl sl2 : Array (Option Value)) (ns ms : List Int) (hi : IntsAre items.toList ns) (hj : IntsAre items2.toList ms) :
    Meets (Builtin.«tuple.__lt__» ⟨[.ref l, .ref b], []⟩)
      (fun _ R s => s.heap.get? l = some { cls := .type "tuple", dict := dd, data := .seq items n, slots := sl } ∧ s.heap.get? b = some { cls := .type "tuple", dict := dd2, data := .seq items2 n2, slots := sl2 } ∧
        R (.ok (.ret (.bool (lexLt ns ms)))) s) :=
  .of_wp fun prog w A R s h => by
    obtain ⟨hp, g, d, tk, os⟩ := s; obtain ⟨hl, hb, h⟩ := h
    have f2 := AutoSeq1.sub_tuple_tuple
    have z1 : items.size = ns.length := by rw [← hi.length]; simp
    have z2 : items2.size = ms.length := by rw [← hj.length]; simp
    wp_walk using wpAny_loadPart' hl, wpAny_loadPart' hb, wpAny_forIn_list _ (fun rest b s' => b.1 = none ∧ s' = ⟨hp, g, d, tk, os⟩ ∧ ∃ (vs ws : List Value) (ns' ms' : List Int), rest = vs.zip ws ∧
      IntsAre vs ns' ∧ IntsAre ws ms' ∧ ns'.length + items2.size = ms'.length + items.size ∧ R (.ok (.ret (.bool (lexLt ns' ms')))) ⟨hp, g, d, tk, os⟩) _
    case turn =>
      rintro ⟨y, x⟩ rest b s' ⟨hb', rfl, vs, ws, ns', ms', hz, hvi, hwi, hlen, hR⟩
      cases hvi with
      | nil => rw [List.zip_nil_left] at hz; cases hz
      | cons a t hvi' =>
        cases hwi with
        | nil => rw [List.zip_nil_right] at hz; cases hz
        | cons c u hwi' =>
          rw [List.zip_cons_cons] at hz
          injection hz with hyx hrest
          injection hyx with hy hx
          subst hy hx
          rw [lexLt_cons] at hR
          simp only [List.length_cons] at hlen
          obtain ⟨e, he, hiff⟩ := eqAt_int A.in1 ⟨hp, g, d, tk, os⟩ a t c u
          refine wpAny_bind (he prog w _ _ ?_)
          cases e with
          | true =>
            rw [if_pos (hiff.mp rfl)] at hR
            wp_walk
            exact ⟨rfl, rfl, _, _, _, _, hrest, hvi', hwi', by omega, hR⟩
          | false =>
            rw [if_neg (fun q => absurd (hiff.mpr q) Bool.false_ne_true)] at hR
            have hri := rcLt_int A.in1 ⟨hp, g, d, tk, os⟩ a t c u prog w
            wp_walk using hri
            exact ⟨_, rfl, by simpa using hR⟩
    case fin =>
      rintro ⟨b1, b2⟩ s' ⟨hb', rfl, vs, ws, ns', ms', hz, hvi, hwi, hlen, hR⟩
      simp only at hb'
      subst hb'
      have hv : lexLt ns' ms' = decide (items.size < items2.size) := by
        cases hvi with
        | nil =>
          cases hwi with
          | nil =>
            simp only [List.length_nil] at hlen
            rw [lexLt_nil_nil]
            exact (decide_eq_false (by omega)).symm
          | cons c u hw =>
            simp only [List.length_nil, List.length_cons] at hlen
            rw [lexLt_nil_cons]
            exact (decide_eq_true (by omega)).symm
        | cons a t hv =>
          cases hwi with
          | nil =>
            simp only [List.length_nil, List.length_cons] at hlen
            rw [lexLt_cons_nil]
            exact (decide_eq_false (by omega)).symm
          | cons c u hw =>
            rw [List.zip_cons_cons] at hz
            cases hz
      rw [hv] at hR
      wp_walk
      exact ⟨_, rfl, by simpa [Builtin.Tuple.tupleCompareSizes] using hR⟩
    case h =>
      exact ⟨rfl, rfl, items.toList, items2.toList, ns, ms, rfl, hi, hj, by omega, h⟩
end

section
variable {prog : Program} {w : World} {A : Around} {E : Value → Shared → Prop} {s : Shared}

theorem lt_tupInts {l b : Addr} {items items2 : Array Value} {ns ms : List Int} {Q : Value → Shared → Prop} (hl : IsTup s.heap l items) (hb : IsTup s.heap b items2) (hi : IntsAre items.toList ns) (hj : IntsAre items2.toList ms)
    (hu : A.units < cLine) (h : Q (.bool (lexLt ns ms)) s) : wpAny (model prog w) A (compareOp .Lt (.ref l) (.ref b)) Q E s := by
  obtain ⟨⟨cls, dd, data, sl⟩, ho, hc, n, hd⟩ := id hl
  obtain ⟨⟨cls2, dd2, data2, sl2⟩, ho2, hc2, n2, hd2⟩ := id hb
  simp only at hc hd hc2 hd2
  subst hc hd hc2 hd2
  exact richCompare_meets_room (op := .Lt) ⟨_, ho, rfl⟩ ⟨_, ho2, rfl⟩ PySem.F.slot_tuple_lt PySem.F.entry_tuple_lt (PySem.F.args_tuple_lt_2 _ _) (tuple_lt_ints l b items items2 n n2 dd dd2 sl sl2 ns ms hi hj)
    ⟨ho, ho2, show Value.bool (lexLt ns ms) ≠ Value.notImplemented ∧ Q (.bool (lexLt ns ms)) s from ⟨(fun x => nomatch x), h⟩⟩ hu

/-! ### t[a:b], not the whole -/
/-- a slice's bound as a place among n (d where it is left out) -/
def sIx (n d : Nat) : Option Int → Nat
  | none => d
  | some v => if v < 0 then (v + (n : Int)).toNat else min v.toNat n
end
end HT

namespace L2
open PySem PySem.Spec PyProof.Rows

/-! ### the parts of a slice -/
abbrev TO := St → Hp → (Option Int → Hp → Prop) → Prop
def tNoPart : TO := fun _ H Q => Q none H
theorem intsAre_of {ns : List Int} : ∀ {us : List Value}, Vals (ns.map V.int) us → IntsAre us ns := by
  induction ns with
  | nil => intro us r; rw [List.map_nil] at r; cases r; exact .nil
  | cons n ns ih =>
    intro us r
    rw [List.map_cons] at r
    cases r with
    | cons r1 r2 =>
      obtain ⟨t, e⟩ := r1
      subst e
      exact .cons n t (ih r2)

section
variable {X : Cx} {e : Expr} {te : TE} {lo hi : Option Expr} {tl th : TO} {pos p2 : Pos}

/-- what a slice of a value is, by values: the slice object stands at sl -/
def SlR (X : Cx) (r : V → Option Int → Option Int → Hp → VK → Prop) : Prop :=
  ∀ (pins : List (Addr × Obj)) (s : Shared) (σ : St) (H : Hp) (x : V) (v vl vu : Value) (lo hi : Option Int) (sl : Addr) (Q : VK), Inv X pins σ H s → RelV x v → s.heap.IsSliceOf sl vl vu .none → IsPart vl lo → IsPart vu hi → r x lo hi H Q →
    ∃ T id, typeLookup (.type T) "__getitem__" = pure (some (.builtin id)) ∧ s.TypeIs v T ∧ wpAny (model X.prog X.w) X.A (getItem v (.ref sl)) (EP X pins σ Q) X.xe s
theorem SlR.or {r r' : V → Option Int → Option Int → Hp → VK → Prop} (h : SlR X r) (h' : SlR X r') : SlR X (fun x lo hi H Q => r x lo hi H Q ∨ r' x lo hi H Q) := by
  intro pins s σ H x v vl vu lo hi sl Q I rx hs pl pu q
  rcases q with q | q
  · exact h pins s σ H x v vl vu lo hi sl Q I rx hs pl pu q
  · exact h' pins s σ H x v vl vu lo hi sl Q I rx hs pl pu q
def tSl (r : V → Option Int → Option Int → Hp → VK → Prop) (te : TE) (tl th : TO) : TE := fun σ H Q => te σ H fun x H1 => tl σ H1 fun l H2 => th σ H2 fun u H3 => r x l u H3 Q
/-- the items of xs[lo:hi] -/
def cutV (xs : List V) (lo hi : Option Int) : List V := (xs.drop (HT.sIx xs.length 0 lo)).take (HT.sIx xs.length xs.length hi - HT.sIx xs.length 0 lo)
/-! ### t < u, t + u -/
def rLtT (K : PySem.W.Frag) : R2 := fun x y H Q => ∃ a b ns ms, x = .ref a ∧ y = .ref b ∧ SqT K H a (ns.map V.int) ∧ SqT K H b (ms.map V.int) ∧ Q (.bl (HT.lexLt ns ms)) H
theorem op_ltT (hu : X.A.units < cLine) : OpR X (compareOp .Lt) (rLtT X.K) := by
  intro pins s σ H x y v u Q I rx ry h
  obtain ⟨a, b, ns, ms, rfl, rfl, ha, hb, q⟩ := h
  cases rx
  cases ry
  obtain ⟨its, r1, p1, _⟩ := I.tuple ha
  obtain ⟨its2, r2, p2, _⟩ := I.tuple hb
  have i1 : IntsAre its.toArray.toList ns := intsAre_of r1
  have i2 : IntsAre its2.toArray.toList ms := intsAre_of r2
  exact HT.lt_tupInts p1 p2 i1 i2 hu ⟨.bl (HT.lexLt ns ms), H, I, rfl, q⟩
end
end L2

namespace L2
open PySem PySem.Spec PyProof.Rows

/-! ### places -/
/-- the place that an index of any sign means -/
def ixN (n : Nat) (i : Int) : Option Nat := if 0 ≤ i then (if i < n then some i.toNat else none) else if -(n : Int) ≤ i then some (i + n).toNat else none
def atI {α : Type} (xs : List α) (i : Int) : Option α := (ixN xs.length i).bind fun j => xs[j]?
theorem ixN_seq {n : Nat} {i : Int} {j : Nat} (h : ixN n i = some j) : seqIndex? i n = some j ∧ j < n ∧ -(n : Int) ≤ i ∧ i < n := by
  unfold ixN at h
  by_cases h0 : 0 ≤ i
  · rw [if_pos h0] at h
    by_cases h1 : i < n
    · rw [if_pos h1] at h
      have e : i.toNat = j := Option.some.inj h
      exact ⟨by rw [seqIndex_of h0 h1, e], by omega, by omega, h1⟩
    · rw [if_neg h1] at h; cases h
  · rw [if_neg h0] at h
    by_cases h1 : -(n : Int) ≤ i
    · rw [if_pos h1] at h
      have e : (i + n).toNat = j := Option.some.inj h
      exact ⟨by rw [seqIndex_neg (by omega) h1, e], by omega, h1, by omega⟩
    · rw [if_neg h1] at h; cases h
theorem atI_get {α : Type} {xs : List α} {i : Int} {v : α} (h : atI xs i = some v) : ∃ j, seqIndex? i xs.length = some j ∧ xs[j]? = some v ∧ j < xs.length ∧ -(xs.length : Int) ≤ i ∧ i < xs.length := by
  unfold atI at h
  cases e : ixN xs.length i with
  | none => rw [e] at h; cases h
  | some j =>
    rw [e] at h
    obtain ⟨h1, h2, h3, h4⟩ := ixN_seq e
    exact ⟨j, h1, h, h2, h3, h4⟩
theorem atI_nat {α : Type} {xs : List α} {j : Nat} {v : α} (h : xs[j]? = some v) : atI xs (j : Int) = some v := by
  have hj : j < xs.length := (List.getElem?_eq_some_iff.mp h).1
  have e : ixN xs.length (j : Int) = some j := by
    unfold ixN
    rw [if_pos (by omega), if_pos (by omega)]; simp
  unfold atI; rw [e]; exact h
/-! ### what may be subscripted -/
/-- what stands as an index of a plain subscript -/
def PlainIx (b : Expr) : Prop := ∀ o i, subscripted b false o i = operate [o, i] (getItem o i)
/-- a subscript by values -/
def IxR (X : Cx) (r : R2) : Prop :=
  ∀ (value slice : Expr) (pins : List (Addr × Obj)) (s : Shared) (σ : St) (H : Hp) (x y : V) (v u : Value) (Q : VK), Inv X pins σ H s → RelV x v → RelV y u → r x y H Q →
    subscripted slice false v u = operate [v, u] (getItem v u) → wpAny (model X.prog X.w) X.A (subscriptTail value slice v u) (EP X pins σ Q) X.xe s
/-- a call of a builtin's method by values: the receiver, the arguments -/
def MtR (X : Cx) (id : String) (r : V → List V → Hp → VK → Prop) : Prop :=
  ∀ (pins : List (Addr × Obj)) (s : Shared) (σ : St) (H : Hp) (x : V) (xs : List V) (v : Value) (us : List Value) (Q : VK), Inv X pins σ H s → RelV x v → Vals xs us → r x xs H Q →
    wpAny (model X.prog X.w) X.A (call (.builtin id) (v :: us)) (EP X pins σ Q) X.xe s
section
variable {X : Cx} {a b : Expr} {ta tb : TE} {pos : Pos}
theorem IxR.or {r r' : R2} (h : IxR X r) (h' : IxR X r') : IxR X (fun x y H Q => r x y H Q ∨ r' x y H Q) := by
  intro value slice pins s σ H x y v u Q I rx ry q hs
  rcases q with q | q
  · exact h value slice pins s σ H x y v u Q I rx ry q hs
  · exact h' value slice pins s σ H x y v u Q I rx ry q hs
theorem MtR.or {id : String} {r r' : V → List V → Hp → VK → Prop} (h : MtR X id r) (h' : MtR X id r') : MtR X id (fun x xs H Q => r x xs H Q ∨ r' x xs H Q) := by
  intro pins s σ H x xs v us Q I rx rs q
  rcases q with q | q
  · exact h pins s σ H x xs v us Q I rx rs q
  · exact h' pins s σ H x xs v us Q I rx rs q
/-- a[b] -/
theorem pe_ix {r : R2} (hr : IxR X r) (ha : PE X a ta) (hb : PE X b tb) (hs : PlainIx b) : PE X (.Subscript a b pos) (tOp r ta tb) := by
  intro pins s σ H Q I h
  exact Subscript_ (binT ha hb I h fun v u s2 x y H2 I2 rx ry q => hr a b pins s2 σ H2 x y v u Q I2 rx ry q (hs _ _))

def rIxL (K : PySem.W.Frag) : R2 := fun x y H Q => ∃ p xs i v, x = .ref p ∧ y = .int i ∧ SqL K H p xs ∧ atI xs i = some v ∧ Q v H
def rIxT (K : PySem.W.Frag) : R2 := fun x y H Q => ∃ p xs i v, x = .ref p ∧ y = .int i ∧ SqT K H p xs ∧ atI xs i = some v ∧ Q v H
theorem ix_list : IxR X (rIxL X.K) := by
  intro value slice pins s σ H x y v u Q I rx ry h hs
  obtain ⟨p, xs, i, z, rfl, rfl, hq, he, q⟩ := h
  cases rx
  obtain ⟨t, rfl⟩ := ry
  obtain ⟨its, r, pl, hz⟩ := I.list hq
  obtain ⟨j, h1, h2, h3, h4, h5⟩ := atI_get he
  obtain ⟨w, ew, rw'⟩ := r.get h2
  have hl := r.length
  have hn := line63
  have fin : EP X pins σ Q w s := ⟨z, H, I, rw', q⟩
  by_cases h0 : 0 ≤ i
  · have hj : i.toNat = j := by
      rw [seqIndex_of h0 h5] at h1
      exact Option.some.inj h1
    exact item_listR pl.isList h0 (by omega) (by rw [hj]; simpa using ew) fin hs
  · have hj : (i + (its.toArray.size : Int)).toNat = j := by
      rw [seqIndex_neg (by omega) h4] at h1
      rw [List.size_toArray, ← hl]
      exact Option.some.inj h1
    exact subscriptTail_builtinR (x := w) pl.isList.typeIs slot_list_getitem.lookup
      (wpAny_getItem_list_neg (Q := fun r s' => r = w ∧ EP X pins σ Q r s') pl.isList (by omega) (by rw [List.size_toArray] <;> omega) (by omega) (by rw [hj]; simpa using ew) ⟨rfl, fin⟩) hs
theorem ix_tup : IxR X (rIxT X.K) := by
  intro value slice pins s σ H x y v u Q I rx ry h hs
  obtain ⟨p, xs, i, z, rfl, rfl, hq, he, q⟩ := h
  cases rx
  obtain ⟨t, rfl⟩ := ry
  obtain ⟨its, r, pl, hz⟩ := I.tuple hq
  obtain ⟨j, h1, h2, h3, h4, h5⟩ := atI_get he
  obtain ⟨w, ew, rw'⟩ := r.get h2
  have hl := r.length
  have hn := line63
  have fin : EP X pins σ Q w s := ⟨z, H, I, rw', q⟩
  exact subscriptTail_builtinR (x := w) pl.typeIs slot_tuple_getitem.lookup
    (getItem_tuple (j := j) (Q := fun r s' => r = w ∧ EP X pins σ Q r s') pl (by omega) (by omega) (by rw [List.size_toArray, ← hl]; exact h1) (by simpa using ew) ⟨rfl, fin⟩) hs
/-! ### xs[i] = v, any sign -/
/-- the list's object behind a store -/
theorem mapSeq_set (its : List Value) (n j : Nat) (u : Value) : Obj.mapSeq (·.setIfInBounds j u) { cls := .type "list", data := .seq its.toArray n } = { cls := .type "list", data := .seq (its.set j u).toArray n } := by
  simp [Obj.mapSeq]
theorem Inv.lst {pins : List (Addr × Obj)} {σ : St} {H : Hp} {s : Shared} {p : Addr} {xs : List V} (I : Inv X pins σ H s) (h : H p = some (.lst xs)) :
    ∃ (its : List Value) (n : Nat), Vals xs its ∧ s.heap.get? p = some { cls := .type "list", data := .seq its.toArray n } ∧ xs.length ≤ sizeLine := by
  obtain ⟨z, its, n, r, e⟩ := I.hok p _ h
  exact ⟨its, n, r, e, z⟩
/-- the list at p is written by an update of its object -/
theorem Inv.lstUpd {pins : List (Addr × Obj)} {σ : St} {H : Hp} {s : Shared} {p : Addr} {xs ys : List V} {its its' : List Value} {n n' : Nat} {f : Obj → Obj} (I : Inv X pins σ H s) (h : H p = some (.lst xs))
    (ho : s.heap.get? p = some { cls := .type "list", data := .seq its.toArray n }) (hf : f { cls := .type "list", data := .seq its.toArray n } = { cls := .type "list", data := .seq its'.toArray n' }) (r : Vals ys its') (hz : ys.length ≤ sizeLine) (t : Nat) :
    Inv X pins σ (upd H p (.lst ys)) { s with heap := s.heap.update p f, toks := t } := by
  have e : (s.heap.update p f).get? p = some { cls := .type "list", data := .seq its'.toArray n' } := by
    rw [Heap.get?_update_self f ho (by rw [hf] <;> rfl), hf]
  refine I.write (x := p) (e := p) (by rw [h]; trivial) (.inl rfl) (fun b u hb q => (Heap.get?_update_other _ _ (Ne.symm hb)).trans q) ⟨_, e⟩ ?_
  exact ⟨hz, its', n', r, e⟩
def rSetL : V → V → V → Hp → (Hp → Prop) → Prop := fun o i v H Q => ∃ p xs k j, o = .ref p ∧ i = .int k ∧ H p = some (.lst xs) ∧ ixN xs.length k = some j ∧ Q (upd H p (.lst (xs.set j v)))
theorem set_list : PSet X rSetL := by
  intro pins s σ H o i v ov iv u Q I ro ri rv h
  obtain ⟨p, xs, k, j, rfl, rfl, hp, hj, q⟩ := h
  cases ro
  obtain ⟨t, rfl⟩ := ri
  obtain ⟨its, n, r, ho, hz⟩ := I.lst hp
  obtain ⟨h1, h2, h3, h4⟩ := ixN_seq hj
  have hl := r.length
  have hn := line63
  have I' : Inv X pins σ (upd H p (.lst (xs.set j v))) { s with heap := s.heap.update p (Obj.mapSeq (·.setIfInBounds j u)) } :=
    I.lstUpd hp ho (mapSeq_set its n j u) (r.set rv j) (by rw [List.length_set]; exact hz) s.toks
  by_cases h0 : 0 ≤ k
  · have hk : k.toNat = j := by
      rw [seqIndex_of h0 h4] at h1
      exact Option.some.inj h1
    exact PySem.W.ki_setAt ho h0 (by omega) (by rw [List.size_toArray, ← hl]; exact h4) (by rw [hk]; exact ⟨_, I', q⟩)
  · have hk : (k + (its.toArray.size : Int)).toNat = j := by
      rw [seqIndex_neg (by omega) h3] at h1
      rw [List.size_toArray, ← hl]
      exact Option.some.inj h1
    exact PySem.W.ki_setBack ho (by omega) (by rw [List.size_toArray, ← hl]; exact h3) (by omega) (by rw [hk]; exact ⟨_, I', q⟩)

/-! ### slices -/
/-! ### in, not in: flat items -/
def flatV : V → Bool
  | .non => true
  | .bl _ => true
  | .int _ => true
  | .str _ => true
  | _ => false
/-- == of flat values -/
def eqV : V → V → Bool
  | .non, .non => true
  | .bl a, .bl b => a == b
  | .bl a, .int b => (if a then 1 else 0) == b
  | .int a, .bl b => a == (if b then 1 else 0)
  | .int a, .int b => a == b
  | .str a, .str b => a == b
  | _, _ => false
theorem eqAt_V {A : Around} {s : Shared} {y x : V} {u v : Value} (ry : RelV y u) (rx : RelV x v) (fy : flatV y = true) (fx : flatV x = true) : SeqAt.EqAt A s u v (eqV y x) := by
  cases y with
  | non =>
    cases ry
    cases x with
    | non => cases rx; exact SeqAt.EqAt.same _
    | bl b => cases rx; exact SeqAt.EqAt.none_bool b
    | int b => obtain ⟨t, rfl⟩ := rx; exact SeqAt.EqAt.none_int b t
    | str b => obtain ⟨t, rfl⟩ := rx; exact SeqAt.EqAt.none_str b t
    | _ => exact absurd (show false = true from fx) Bool.false_ne_true
  | bl a =>
    cases ry
    cases x with
    | non => cases rx; exact SeqAt.EqAt.bool_none a
    | bl b => cases rx; exact SeqAt.EqAt.bool_bool a b
    | int b => obtain ⟨t, rfl⟩ := rx; exact SeqAt.EqAt.bool_int a b t
    | str b => obtain ⟨t, rfl⟩ := rx; exact SeqAt.EqAt.bool_str a b t
    | _ => exact absurd (show false = true from fx) Bool.false_ne_true
  | int a =>
    obtain ⟨t', rfl⟩ := ry
    cases x with
    | non => cases rx; exact SeqAt.EqAt.int_none a t'
    | bl b => cases rx; exact SeqAt.EqAt.int_bool a t' b
    | int b => obtain ⟨t, rfl⟩ := rx; exact SeqAt.EqAt.int_int a t' b t
    | str b => obtain ⟨t, rfl⟩ := rx; exact SeqAt.EqAt.int_str a t' b t
    | _ => exact absurd (show false = true from fx) Bool.false_ne_true
  | str a =>
    obtain ⟨t', rfl⟩ := ry
    cases x with
    | non => cases rx; exact SeqAt.EqAt.str_none a t'
    | bl b => cases rx; exact SeqAt.EqAt.str_bool a t' b
    | int b => obtain ⟨t, rfl⟩ := rx; exact SeqAt.EqAt.str_int a t' b t
    | str b => obtain ⟨t, rfl⟩ := rx; exact SeqAt.EqAt.str_str a t' b t
    | _ => exact absurd (show false = true from fx) Bool.false_ne_true
  | _ => exact absurd (show false = true from fy) Bool.false_ne_true
/-- the items' answers, read off the values (a value's own answer does not lean on its token) -/
def eqU (x : V) (u : Value) : Bool := match u with
  | .none => eqV .non x
  | .bool b => eqV (.bl b) x
  | .int i _ => eqV (.int i) x
  | .str z _ => eqV (.str z) x
  | _ => false
theorem eqU_of {x y : V} {u : Value} (r : RelV y u) (f : flatV y = true) : eqU x u = eqV y x := by
  cases y with
  | non => cases r; rfl
  | bl b => cases r; rfl
  | int i => obtain ⟨t, rfl⟩ := r; rfl
  | str z => obtain ⟨t, rfl⟩ := r; rfl
  | _ => exact absurd (show false = true from f) Bool.false_ne_true
theorem any_eqU {x : V} : ∀ {xs : List V} {us : List Value}, Vals xs us → xs.all flatV = true → us.any (eqU x) = xs.any fun y => eqV y x
  | _, _, .nil, _ => rfl
  | y :: xs, u :: us, .cons r t, f => by
    rw [List.all_cons, Bool.and_eq_true] at f
    rw [List.any_cons, List.any_cons, eqU_of r f.1, any_eqU t f.2]
theorem mem_eqAt {A : Around} {s : Shared} {x : V} {v : Value} (rx : RelV x v) (fx : flatV x = true) : ∀ {xs : List V} {us : List Value}, Vals xs us → xs.all flatV = true → ∀ u ∈ us, SeqAt.EqAt A s u v (eqU x u)
  | _, _, .nil, _ => fun u hu => by cases hu
  | y :: xs, u :: us, .cons r t, f => fun u' hu => by
    rw [List.all_cons, Bool.and_eq_true] at f
    rcases List.mem_cons.mp hu with rfl | hu
    · rw [eqU_of r f.1]; exact eqAt_V r rx f.1 fx
    · exact mem_eqAt rx fx t f.2 u' hu
def inV (x : V) (xs : List V) : Bool := xs.any fun y => eqV y x
/-- x in a list or tuple of flat items -/
def rIn (K : PySem.W.Frag) (neg : Bool) : R2 := fun x y H Q => ∃ p xs, y = .ref p ∧ (SqL K H p xs ∨ SqT K H p xs) ∧ flatV x = true ∧ xs.all flatV = true ∧ Q (.bl (if neg then !inV x xs else inV x xs)) H
theorem op_in_seq : OpR X (compareOp .In) (rIn X.K false) := by
  intro pins s σ H x y v u Q I rx ry h
  obtain ⟨p, xs, rfl, hq, fx, fs, q⟩ := h
  cases ry
  rcases hq with hq | hq
  · obtain ⟨its, r, pl, hz⟩ := I.list hq
    refine SeqAt.in_listAt (eqU x) pl.isList (fun w hw => mem_eqAt rx fx r fs w (by simpa using hw)) ⟨.bl _, H, I, rfl, ?_⟩
    rw [show its.toArray.any (eqU x) = its.any (eqU x) by simp, any_eqU r fs]
    exact q
  · obtain ⟨its, r, pl, hz⟩ := I.tuple hq
    refine SeqAt.in_tupleAt (eqU x) pl (fun w hw => mem_eqAt rx fx r fs w (by simpa using hw)) ⟨.bl _, H, I, rfl, ?_⟩
    rw [show its.toArray.any (eqU x) = its.any (eqU x) by simp, any_eqU r fs]
    exact q
theorem op_notIn_seq : OpR X (compareOp .NotIn) (rIn X.K true) := by
  intro pins s σ H x y v u Q I rx ry h
  obtain ⟨p, xs, rfl, hq, fx, fs, q⟩ := h
  cases ry
  rcases hq with hq | hq
  · obtain ⟨its, r, pl, hz⟩ := I.list hq
    refine SeqAt.notIn_listAt (eqU x) pl.isList (fun w hw => mem_eqAt rx fx r fs w (by simpa using hw)) ⟨.bl _, H, I, rfl, ?_⟩
    rw [show its.toArray.any (eqU x) = its.any (eqU x) by simp, any_eqU r fs]
    exact q
  · obtain ⟨its, r, pl, hz⟩ := I.tuple hq
    refine SeqAt.notIn_tupleAt (eqU x) pl (fun w hw => mem_eqAt rx fx r fs w (by simpa using hw)) ⟨.bl _, H, I, rfl, ?_⟩
    rw [show its.toArray.any (eqU x) = its.any (eqU x) by simp, any_eqU r fs]
    exact q
/-! ### len, list(x), tuple(x) of any list or tuple that is read -/
theorem call_len_seq : CallR X (.builtin "len") (fun xs H Q => ∃ p ys, xs = [.ref p] ∧ (SqL X.K H p ys ∨ SqT X.K H p ys) ∧ Q (.int ys.length) H) := by
  intro pins s σ H xs us Q I r h
  obtain ⟨p, ys, rfl, hq, q⟩ := h
  obtain ⟨u, rfl, rx⟩ := vals1 r
  cases rx
  have hn := line63
  rcases hq with hq | hq
  · obtain ⟨its, r', pl, hz⟩ := I.list hq
    have hlen := r'.length
    exact Calls.call_len_list pl.isList (by simp only [List.size_toArray] <;> omega) ⟨.int ys.length, H, I.tok _, ⟨s.toks + 1, by rw [List.size_toArray, hlen]⟩, q⟩
  · obtain ⟨its, r', pl, hz⟩ := I.tuple hq
    have hlen := r'.length
    exact len_tuple pl (by simp only [List.size_toArray] <;> omega) ⟨.int ys.length, H, I.tok _, ⟨s.toks + 1, by rw [List.size_toArray, hlen]⟩, q⟩
theorem CallR.or {f : Value} {r r' : List V → Hp → VK → Prop} (h : CallR X f r) (h' : CallR X f r') : CallR X f (fun xs H Q => r xs H Q ∨ r' xs H Q) := by
  intro pins s σ H xs us Q I rs q
  rcases q with q | q
  · exact h pins s σ H xs us Q I rs q
  · exact h' pins s σ H xs us Q I rs q
theorem call_list_of : CallR X (.type "list") (fun xs H Q => ∃ p ys, xs = [.ref p] ∧ (SqL X.K H p ys ∨ SqT X.K H p ys) ∧ ∀ l, H l = none → Q (.ref l) (upd H l (.lst ys))) := by
  intro pins s σ H xs us Q I r h
  obtain ⟨p, ys, rfl, hq, q⟩ := h
  obtain ⟨u, rfl, rx⟩ := vals1 r
  cases rx
  have fin : ∀ (its : List Value), Vals ys its → ys.length ≤ sizeLine → ∀ (h' : Heap) (c' : Nat), (∀ b o', s.heap.get? b = some o' → h'.get? b = some o') →
      h'.get? s.heap.objs.size = some { cls := .type "list", dict := none, data := .seq its.toArray c', slots := #[] } → EP X pins σ Q (.ref s.heap.objs.size) { s with heap := h' } := fun its r' hz h' c' kp e =>
    ⟨.ref s.heap.objs.size, _, I.laid (t' := s.toks) kp (Nat.le_refl _) (show ObjOk X.prog X.w _ h' _ (.lst ys) from ⟨hz, its, c', r', e⟩), rfl, q _ (I.hok.fresh (Nat.le_refl _))⟩
  rcases hq with hq | hq
  · obtain ⟨its, r', pl, hz⟩ := I.list hq
    have hlen := r'.length
    obtain ⟨o, ho, hc, n, hd⟩ := pl.isList
    exact call_list_seq p (.inl rfl) ho hc hd (fun h' c' kp e => fin its r' hz h' c' kp e) (by simp only [List.size_toArray] <;> omega)
  · obtain ⟨its, r', pl, hz⟩ := I.tuple hq
    have hlen := r'.length
    obtain ⟨o, ho, hc, n, hd⟩ := pl
    exact call_list_seq p (.inr rfl) ho hc hd (fun h' c' kp e => fin its r' hz h' c' kp e) (by simp only [List.size_toArray] <;> omega)
/-! ### the call of a builtin's method: o.m(..) -/
/-- the value is of that builtin type -/
def tyV (K : PySem.W.Frag) (T : String) (x : V) (H : Hp) : Prop := match x with
  | .str _ => T = "str"
  | .int _ => T = "int"
  | .ref p => (T = "list" ∧ ∃ xs, SqL K H p xs) ∨ (T = "tuple" ∧ ∃ o, K.lookup p = some o ∧ o.cls = .type "tuple" ∧ o.dict = none) ∨
      (T = "dict" ∧ ((∃ kvs, H p = some (.dK kvs)) ∨ ∃ kvs, H p = some (.dT kvs))) ∨ (T = "set" ∧ ∃ S n, H p = some (.set S n))
  | _ => False
theorem tyV_is {pins : List (Addr × Obj)} {σ : St} {H : Hp} {s : Shared} {T : String} {x : V} {v : Value} (I : Inv X pins σ H s) (r : RelV x v) (ty : tyV X.K T x H) :
    s.TypeIs v T ∧ ∀ a, v = .ref a → ∃ ob, s.heap.get? a = some ob ∧ ob.dict = none := by
  cases x with
  | str z =>
    obtain ⟨t, rfl⟩ := r
    cases (show T = "str" from ty)
    exact ⟨typeIs_str s z t, fun _ e => nomatch e⟩
  | int i =>
    obtain ⟨t, rfl⟩ := r
    cases (show T = "int" from ty)
    exact ⟨typeIs_int s i t, fun _ e => nomatch e⟩
  | ref p =>
    cases r
    rcases ty with ⟨rfl, xs, hq⟩ | ⟨rfl, o, hk, hc, hd⟩ | ⟨rfl, hk⟩ | ⟨rfl, S, n, hk⟩
    · obtain ⟨its, _, pl, _⟩ := I.list hq
      refine ⟨pl.isList.typeIs, fun a e => ?_⟩
      cases e
      obtain ⟨o, n, e, c, hd, _⟩ := pl
      exact ⟨o, e, hd⟩
    · refine ⟨⟨o, I.kIn p o hk, hc⟩, fun a e => ?_⟩
      cases e
      exact ⟨o, I.kIn _ o hk, hd⟩
    · have z : ∃ o, s.heap.get? p = some o ∧ o.ExactDict := by
        rcases hk with ⟨kvs, hk⟩ | ⟨kvs, hk⟩
        · obtain ⟨_, _, _, _, o, _, _, e, ex, _⟩ := I.hok p _ hk
          exact ⟨o, e, ex⟩
        · obtain ⟨_, _, _, _, o, _, _, e, ex, _⟩ := I.hok p _ hk
          exact ⟨o, e, ex⟩
      obtain ⟨o, e, ex⟩ := z
      refine ⟨⟨o, e, ex.1⟩, fun a e2 => ?_⟩
      cases e2
      exact ⟨o, e, ex.2.1⟩
    · obtain ⟨o, _, _, _, e, ex, _⟩ := I.hok p _ hk
      refine ⟨⟨o, e, ex.1⟩, fun a e2 => ?_⟩
      cases e2
      exact ⟨o, e, ex.2.1⟩
  | _ => exact False.elim ty
variable {o e : Expr} {es : List Expr} {to : TE} {t : TA} {name : Str} {apos cpos : Pos} {T id : String} {r : V → List V → Hp → VK → Prop}
/- xs.append(e), list.index on a module's tuple .. are MtR facts of 06m -/
end
end L2

namespace L2
open PySem PySem.Spec PyProof.Rows

def MtM (X : Cx) (id : String) (r : V → List V → Hp → VK → Prop) : Prop :=
  ∀ (pins : List (Addr × Obj)) (s : Shared) (σ : St) (H : Hp) (x : V) (xs : List V) (v : Value) (us : List Value) (Q : VK), Inv X pins σ H s → RelV x v → Vals xs us → r x xs H Q →
    wpAny (model X.prog X.w) X.A (call (.builtin id) (v :: us)) (EP X pins σ Q) X.xe s

/-! ### lists of values -/
theorem Vals.one : ∀ {x : V} {us : List Value}, Vals [x] us → ∃ u, us = [u] ∧ RelV x u
  | _, _, .cons r .nil => ⟨_, rfl, r⟩
theorem Vals.two : ∀ {x y : V} {us : List Value}, Vals [x, y] us → ∃ u v, us = [u, v] ∧ RelV x u ∧ RelV y v
  | _, _, _, .cons r (.cons q .nil) => ⟨_, _, rfl, r, q⟩
theorem Vals.zero : ∀ {us : List Value}, Vals [] us → us = []
  | _, .nil => rfl
theorem Vals.eraseIdx : ∀ {xs : List V} {us : List Value} (i : Nat), Vals xs us → Vals (xs.eraseIdx i) (us.eraseIdx i)
  | _, _, _, .nil => .nil
  | _, _, 0, .cons _ t => t
  | _, _, i + 1, .cons r t => .cons r (Vals.eraseIdx i t)
theorem Vals.reverse {xs : List V} {us : List Value} (h : Vals xs us) : Vals xs.reverse us.reverse := by
  induction h with
  | nil => exact .nil
  | cons r t ih => rw [List.reverse_cons, List.reverse_cons]; exact Vals.append ih (.cons r .nil)
theorem Vals.rep {xs : List V} {us : List Value} (h : Vals xs us) : ∀ k : Nat, Vals (List.replicate k xs).flatten (List.replicate k us).flatten
  | 0 => .nil
  | k + 1 => by
    rw [List.replicate_succ, List.replicate_succ, List.flatten_cons, List.flatten_cons]
    exact Vals.append h (Vals.rep h k)
section
variable {X : Cx} {pins : List (Addr × Obj)} {σ : St} {H : Hp} {s : Shared} {l b : Addr} {xs ys zs : List V}

/-! ### the two steps: a tracked list is rewritten, a new list is laid -/
theorem Inv.lset {its its' : List Value} {n : Nat} {f : Array Value → Array Value} {t' : Nat} (I : Inv X pins σ H s) (hH : H l = some (.lst xs))
    (e : s.heap.get? l = some { cls := .type "list", data := .seq its.toArray n }) (hf : f its.toArray = its'.toArray) (hv : Vals ys its') (hz : ys.length ≤ sizeLine) :
    Inv X pins σ (upd H l (.lst ys)) { s with heap := s.heap.update l (Obj.mapSeq f), toks := t' } := by
  have q := PySem.IsL.update e f
  rw [hf] at q
  refine I.write (x := l) (e := l) (by rw [hH]; exact trivial) (.inl rfl) (fun b' u hb hu => (Heap.get?_update_other s.heap (Obj.mapSeq f) (Ne.symm hb)).trans hu) ⟨_, q⟩ ?_
  exact ⟨hz, its', _, hv, q⟩
theorem Inv.lnew {its : List Value} {t' : Nat} (I : Inv X pins σ H s) (hv : Vals ys its) (hz : ys.length ≤ sizeLine) :
    Inv X pins σ (upd H s.heap.objs.size (.lst ys)) { s with heap := s.heap.push { cls := .type "list", data := .seq its.toArray }, toks := t' } :=
  I.laid (fun _ _ q => Heap.get?_push_of_some _ q) (Nat.le_refl _) ⟨hz, its, 0, hv, Heap.get?_push_size _ rfl⟩
theorem Inv.fresh (I : Inv X pins σ H s) : H s.heap.objs.size = none := I.hok.fresh (Nat.le_refl _)
theorem Inv.lstM (I : Inv X pins σ H s) (hH : H l = some (.lst xs)) : xs.length ≤ sizeLine ∧ ∃ (its : List Value) (n : Nat), Vals xs its ∧ xs.length = its.length ∧ s.heap.get? l = some { cls := .type "list", data := .seq its.toArray n } := by
  obtain ⟨z, its, n, r, e⟩ := I.hok l _ hH
  exact ⟨z, its, n, r, r.length, e⟩

end

section
variable {X : Cx}

/-! ### methods -/
def rAppend : V → List V → Hp → VK → Prop := fun x vs H Q => ∃ l xs y, x = .ref l ∧ vs = [y] ∧ H l = some (.lst xs) ∧ xs.length < sizeLine ∧ Q .non (upd H l (.lst (xs ++ [y])))
theorem mt_append : MtM X "list.append" rAppend := by
  intro pins s σ H x vs v us Q I rx rv h
  obtain ⟨l, xs, y, rfl, rfl, hH, hz, q⟩ := h
  cases rx
  obtain ⟨u, rfl, ru⟩ := rv.one
  obtain ⟨z, its, n, r, hl, e⟩ := I.lstM hH
  refine call_meets F.slot_list_append ⟨_, e, rfl⟩ F.entry_list_append (F.args_list_append_2 _ _) (PySem.list_append l its.toArray n u (by rw [List.size_toArray]; omega)) ⟨e, ?_⟩
  refine ⟨.non, _, I.lset (its' := its ++ [u]) hH e (by simp) (r.append (.cons ru .nil)) ?_, rfl, q⟩
  rw [List.length_append, List.length_singleton]
  omega

/-! ### list + list, list += list, list * int -/
/-! ### del xs[i] -/
end

/-! ### xs[a:b] = ys -/
section
variable {prog : Program} {w : World} {A : Around} {E : Value → Shared → Prop} {s : Shared}
end

section
variable {X : Cx}
end
end L2

namespace Att
open PySem PySem.W PySem.Calls PyProof.Rows

/-! ### the script -/
theorem ints_of_wellAll {P : Params} {h : Heap} : ∀ (ns : List Int) (vs : List Value), WellAll P h vs (ns.map WData.int) → IntsAre vs ns := by
  intro ns
  induction ns with
  | nil =>
    intro vs w
    rw [List.map_nil] at w
    cases w
    exact .nil
  | cons n ns ih =>
    intro vs w
    rw [List.map_cons] at w
    cases w with
    | cons a b =>
      cases a
      exact .cons _ _ (ih _ b)

theorem script_of {l : OpenLaw} {n : Nat} (hn : l.most = some n) {P : Params} {h : Heap} {args : List WData} {vals : List Value}
    (hpre : l.row.toRowW.claim.pre args = true) (hwl : WellAll P h vals args) :
    ∃ a vs ns, vals = [Value.ref a] ∧ args = [WData.list (ns.map WData.int)] ∧ h.get? a = some { cls := .type "list", data := .seq vs.toArray } ∧ IntsAre vs ns ∧ ns.length ≤ n := by
  have hsh : WShape.hasAll [] args [.list .int] = true := (pre_splitW hpre).1
  have hc : l.pre.holds [] { args := args } = true := (pre_splitW hpre).2
  obtain ⟨d, r, rfl, h1, h2⟩ := hasAllW_cons hsh
  obtain rfl := hasAllW_nil h2
  obtain ⟨xs, rfl, h3⟩ := hasW_list h1
  obtain ⟨ns, rfl⟩ := items_int h3
  have hlen : ns.length ≤ n := by
    unfold OpenLaw.pre at hc
    have h4 : (WTm.not (.lt (.lit (.int (n : Int))) (.len (.arg 0)))).holds [] { args := [.list (ns.map .int)] } = true := by
      have h4 := (holds_andW hc).1
      rw [hn] at h4
      exact h4
    have h5 := condW_of h4 (w_not (w_lt w_lit (w_len_list (w_arg rfl))))
    rw [List.length_map] at h5
    refine Nat.le_of_not_lt fun q => ?_
    have q' : (n : Int) < ((ns.length : Nat) : Int) := by omega
    first
      | (rw [decide_eq_true q'] at h5; exact absurd h5 (by decide))
      | (simp at h5; omega)
  cases hwl with
  | cons w1 w2 =>
    cases w2
    cases w1 with
    | list ho hall => exact ⟨_, _, ns, rfl, rfl, ho, ints_of_wellAll ns _ hall, hlen⟩

theorem post_true (l : OpenLaw) (args : List WData) : l.row.toRowW.claim.post args (.bool true) args = true :=
  postW_of (r := l.row.toRowW) (X := (true == true))
    (show WShape.has [] (.bool true) .bool = true by first | rfl | decide | simp [WShape.has, WShape.arms, WShape.armsAll])
    (show (WTm.eq .res (.lit (.bool true))).value [] { args := args, res := some (.bool true), after := args } = some (.bool (true == true)) from w_eq_bool (w_res rfl) w_lit) rfl

/-! ### the attachment: holds_open's last premise (the goal 'hc' behind k_head) from a wpAny of the law's body -/
/-- the same from a codeAny of the CALL (for a layer whose function contracts speak of calls) -/
theorem attach_call {l : OpenLaw} {n : Nat} {q : Program} {loose : List Str} {XP : (Str → Option Value) → Heap → Prop} {YP : World → Heap → Prop} {d : DefRec}
    (hn : l.most = some n) (hdf : d.params.defaults = [])
    (call : ∀ (w : World) (s₀ s₁ : Shared) (mg mb : Str → Option Value) (fa : Addr) (o : Obj) (pm cd doc : Value) (a : Addr) (vs : List Value) (ns : List Int),
      Ground q loose [] XP w s₀ mg mb s₁.heap → YP w s₁.heap →
      s₁.heap.get? fa = some o → o.data = .func (docDef d.name d.params d.body d.scope pm cd doc) → s₁.heap.CodeRec cd d.name → mg d.name = some (.ref fa) →
      s₁.heap.get? a = some { cls := .type "list", data := .seq vs.toArray } → IntsAre vs ns → ns.length ≤ n → s₁.gens = #[] →
      codeAny (model l.prog w) callerA (.call (.ref fa) ⟨[.ref a], []⟩) (fun r s' => r = .ok (.ret (.bool true)) ∧ OldK s₁.heap s'.heap ∧ s'.os = s₁.os ∧ AllBare s'.gens) s₁) :
    WalkO q loose XP YP l.row.toRowW d [] (fun f vs => PySem.call f vs) := by
  intro w s₀ s₁ mg mb G Y fa o pm cd doc dV kV ho hd hcd hD hmg hg args vals as hpre hlay hrd hwl hlo
  obtain rfl : dV = .none := Dflts.none hD hdf
  obtain rfl : kV = .none := Dflts.noKw hD
  obtain ⟨a, vs, ns, rfl, rfl, hobj, hints, hlen⟩ := script_of hn hpre hwl
  refine enter_call (codeAny_mono (call w s₀ s₁ mg mb fa o pm cd doc a vs ns G Y ho (fd_plain hd) hcd hmg hobj hints hlen hg) fun r s' hq => ?_)
  obtain ⟨rfl, h2, h3, h4⟩ := hq
  exact ⟨.inl ⟨.bool true, .bool true, [], rfl, fun _ => rfl, .bool true, post_true l _, fun _ => ⟨List.Pairwise.nil, fun _ hm => (nomatch hm)⟩⟩, h2, h3, h4⟩

/-! ### rules over ANY heap (no ledger) from facts about the written part K: the library's own take a ledger (News) for what they write -/
section
variable {prog : Program} {w : World} {A : Around} {E : Value → Shared → Prop} {s : Shared} {K : Frag}

/-! the whole heap as the ledger: makes every rule that writes through a ledger a rule over any heap -/
def ledger (h : Heap) (L d : Addr) : List (Addr × Obj) := (List.range h.objs.size).filterMap fun a => if a = L ∨ a = d then none else (h.get? a).map fun o => (a, o)
end
end Att

namespace L2
open PySem PySem.Spec PyProof.Rows

theorem vals_ints : ∀ {vs : List Value} {ns : List Int}, IntsAre vs ns → Vals (ns.map V.int) vs
  | _, _, .nil => .nil
  | _, _, .cons n t h => .cons ⟨t, rfl⟩ (vals_ints h)

/-- nothing is tracked but the script, known to the object (or it is an object of the module) -/
def Only (H : Hp) : Prop := ∀ b, H b = none ∨ ∃ o xs, H b = some (.frz o (.lst xs))

/-- THE HEAD: the law's promise, at the heap behind the top. F, the promise of the law's def, may use that base is part of the heap (so K.In base, base.Ns mainGlobals mg stand in Mod) -/
theorem law_call {P : Program} {w : World} {K : PySem.W.Frag} {mg mb : Str → Option Value} {CX : CXT} {k : Nat} {fa a : Addr} {fd : FuncData} {x : Str} {sp : Sp} {s₁ : Shared} {vs : List Value} {ns : List Int}
    (KX : K.In s₁.heap) (hns : s₁.heap.Ns mainGlobals mg) (hb : s₁.heap.Ns builtinsNs mb) (hbb : ∀ x : Str, x ≠ "__name__" → mb x = bootBuiltins x) (hlim : s₁.heap.NoLimit) (hg : s₁.gens = #[])
    (ha : s₁.heap.get? a = some { cls := .type "list", data := .seq vs.toArray }) (hi : IntsAre vs ns) (hl : ns.length ≤ sizeLine) (hr : Room k callerA)
    (F : ∀ base : Heap, K.In base → base.Ns mainGlobals mg → FnOk P w K mg base CX k fa fd [x] sp) (hbind : ∀ (s : Shared) (u : Value), BindsTo s fd ⟨[u], []⟩ [(x, u)])
    (hsp : ∀ H : Hp, Only H → SqL K H a (ns.map V.int) → sp [.ref a] H (fun v _ => v = .bl true) fun _ _ _ => False)
    (hCX : ∀ H e s', CX [] H s₁ (fun _ _ _ => False) e s' → False) :
    codeAny (model P w) callerA (.call (.ref fa) ⟨[.ref a], []⟩) (fun r s' => r = .ok (.ret (.bool true)) ∧ OldK s₁.heap s'.heap ∧ s'.os = s₁.os ∧ AllBare s'.gens) s₁ := by
  have rv := vals_ints hi
  have lenV := hi.length
  -- from an abstract heap in which nothing but the script may be tracked
  have core : ∀ H : Hp, Only H → SqL K H a (ns.map V.int) → HOk P w H s₁.heap → (∀ b, H b ≠ none → b = a) → (H a ≠ none → K.lookup a = none) →
      codeAny (model P w) callerA (.call (.ref fa) ⟨[.ref a], []⟩) (fun r s' => r = .ok (.ret (.bool true)) ∧ OldK s₁.heap s'.heap ∧ s'.os = s₁.os ∧ AllBare s'.gens) s₁ := by
    intro H hO hS hok hA hK
    have base_of : ∀ {b : Addr} {o : Obj}, s₁.heap.get? b = some o → H b = none → (hidT s₁.heap H).get? b = some o := fun e n => hidT_get e n
    have noA : ∀ {b : Addr} {o : Obj} {es : Array DictEntry} {ep : Nat}, s₁.heap.get? b = some o → o.data = .dict es ep → H b = none := fun {b o es ep} e d => by
      cases q : H b with
      | none => rfl
      | some u =>
        have e' : b = a := hA b (by rw [q]; simp)
        subst e'
        rw [ha] at e; cases e
        have d' : Data.seq vs.toArray _ = Data.dict es ep := d
        cases d'
    have nsK : ∀ {b : Addr} {m : Str → Option Value}, s₁.heap.Ns b m → (hidT s₁.heap H).Ns b m := fun {b m} ⟨o, es, ep, e, d, r⟩ => ⟨o, es, ep, base_of e (noA e d), d, r⟩
    have hKb : K.In (hidT s₁.heap H) := fun b o e => base_of (KX b o e) (by
      cases q : H b with
      | none => rfl
      | some u =>
        have e' : b = a := hA b (by rw [q]; simp)
        subst e'
        rw [hK (by rw [q]; simp)] at e; cases e)
    have hM : Mod K mg (hidT s₁.heap H) := ⟨hKb, nsK hns, ⟨mb, nsK hb, hbb⟩, let ⟨mc, h1, h2⟩ := hlim; ⟨mc, nsK h1, h2⟩⟩
    have e0 : Env0 P w K mg (hidT s₁.heap H) callerA [] s₁ H := ⟨rfl, hM, fun b o e => of_hidT e, Nat.le_of_eq (hidT_size _ _), trivial, fun b hb => absurd (show b ∈ ([] : List Addr) from hb) (by simp), hok, .of_eq hg⟩
    refine codeAny_mono ((F _ hKb (nsK hns)).run callerA [] s₁ H ⟨[.ref a], []⟩ [.ref a] [.ref a] _ _ hr e0 (hbind s₁ (.ref a)) (.cons rfl .nil) (hsp H hO hS)) fun r s' h => ?_
    cases r with
    | error e => exact (hCX H e s' h).elim
    | ok fl =>
      cases fl with
      | next => exact False.elim h
      | brk => exact False.elim h
      | cont => exact False.elim h
      | ret u =>
        obtain ⟨v, H', os, bare, un, hok', r', q⟩ := h
        have q' : v = .bl true := q
        subst q'
        obtain rfl : u = Value.bool true := r'
        refine ⟨rfl, OldK.of_keep fun b o e => ?_, os, bare⟩
        cases q : H b with
        | none => exact un.keep b o e q (by intro z; exact absurd (show b ∈ ([] : List Addr) from z) (by simp)) (by simp)
        | some u =>
          rcases hO b with z | ⟨ob, xs, z⟩
          · rw [q] at z; cases z
          · have z2 := un.frzs b ob _ z
            obtain ⟨e1, _⟩ := hok b _ z
            obtain ⟨e2, _⟩ := hok' b _ z2
            rw [e] at e1; cases e1
            exact e2
  cases hk : K.lookup a with
  | some o =>
    -- the script is one of the module's own objects
    have e := KX a o hk
    rw [ha] at e
    cases e
    refine core (fun _ => none) (fun _ => .inl rfl) (.inr ⟨_, vs.toArray, _, hk, rfl, rfl, rfl, by rw [List.size_toArray, lenV]; exact hl, by simpa using rv⟩) (fun b u z => by have z' : (none : Option HO) = some u := z; cases z') (fun b z => absurd rfl z) fun z => absurd rfl z
  | none =>
    refine core (fun b => if b = a then some (.frz { cls := .type "list", data := .seq vs.toArray } (.lst (ns.map V.int))) else none) (fun b => ?_) (.inl (.inr ⟨{ cls := .type "list", data := .seq vs.toArray }, if_pos rfl⟩)) (fun b u z => ?_) (fun b z => ?_) fun _ => hk
    · by_cases hb : b = a
      · exact .inr ⟨_, _, if_pos hb⟩
      · exact .inl (if_neg hb)
    · by_cases hb : b = a
      · have z' := (if_pos hb).symm.trans z
        cases z'
        subst hb
        exact ⟨ha, by rw [List.length_map]; exact hl, vs, _, rv, ha⟩
      · have z' := (if_neg hb).symm.trans z
        cases z'
    · by_cases hb : b = a
      · exact hb
      · exact absurd (if_neg hb) z
end L2

namespace L2
open PySem PySem.Spec PyProof.Rows

abbrev KOf {K : PySem.W.Frag} {h : Heap} (_ : K.In h) : PySem.W.Frag := K

/-- the goal that k_head leaves (case hc), from the law's promise. F gives the function object fd (K's own) once, then the promise over every base -/
theorem walk_of {l : PySem.W.OpenLaw} {n k : Nat} {q : Program} {loose : List Str} {XP : (Str → Option Value) → Heap → Prop} {YP : World → Heap → Prop} {d : DefRec} {K : Params → PySem.W.Frag} {CX : World → CXT} {sp : World → Sp} {x : Str}
    (hn : l.most = some n) (hn2 : n ≤ sizeLine) (hdf : d.params.defaults = []) (hr : Room k callerA)
    (hY : ∀ (w : World) (h : Heap), YP w h → (K w.params).In h)
    (F : ∀ (w : World) (mg : Str → Option Value) (fa : Addr) (h : Heap), (K w.params).In h → h.Ns mainGlobals mg → mg d.name = some (.ref fa) →
      ∃ fd : FuncData, (∀ (s : Shared) (u : Value), BindsTo s fd ⟨[u], []⟩ [(x, u)]) ∧
        ∀ base : Heap, (K w.params).In base → base.Ns mainGlobals mg → FnOk l.prog w (K w.params) mg base (CX w) k fa fd [x] (sp w))
    (hsp : ∀ (w : World) (H : Hp) (a : Addr) (ns : List Int), ns.length ≤ n → Only H → SqL (K w.params) H a (ns.map V.int) → sp w [.ref a] H (fun v _ => v = .bl true) fun _ _ _ => False)
    (hCX : ∀ (w : World) (H : Hp) (s : Shared) (e : Value) (s' : Shared), CX w [] H s (fun _ _ _ => False) e s' → False) :
    PySem.W.WalkO q loose XP YP l.row.toRowW d [] (fun f vs => PySem.call f vs) := by
  refine Att.attach_call hn hdf fun w s₀ s₁ mg mb fa o pm cd doc a vs ns G Y ho hd hcd hmg hobj hints hlen hg => ?_
  have KX := hY w _ Y
  obtain ⟨fd, hb, hF⟩ := F w mg fa _ KX G.T.g hmg
  exact law_call KX G.T.g G.T.b G.T.builtins G.T.nolimit hg hobj hints (Nat.le_trans hlen hn2) hr hF hb (fun H hO hS => hsp w H a ns hlen hO hS) fun H e s' => hCX w H s₁ e s'
end L2

/- THE LAST THEOREM (shape; LID, My.* are yours):
   My.Adr: a structure of the addresses that your layer names (classes, functions); My.Txt K t: a structure (Prop) of the equations over K;
   My.txt_mk : {K} {implicit addresses ..} (e1 : nsIn K mainGlobals "law" = some (some (.ref f))) (e2 : K.lookup f = some ⟨oc, od, .func (fnOf "law" "law" params body scope dV kV doc pm an cdv ct), sl⟩) (e3 : codeIn K cdv "law" = true) .. : ∃ t, My.Txt K t

set_option maxRecDepth 100000 in
set_option maxHeartbeats 0 in
theorem PySem.Challenge.cw_LID_holds : PySem.Challenge.rw_LID.Holds := by
  w_on; o_law; k_head; (case hw => w_witness2)
  k_fill
  refine L2.walk_of (l := PySem.Challenge.rw_LID) (n := 63) (k := 40) (x := "script") (CX := fun w => ..) (sp := fun _ => My.sp_law) rfl (by decide) rfl ⟨rfl, by decide, by decide⟩ (fun w h Y => PySem.W.kIn_of Y) ?F ?S ?C
  case F =>
    intro w mg fa h KX G hmg
    have T : ∃ t, My.Txt (L2.KOf KX) t := by
      dsimp only [L2.KOf]                          -- K must stand as «<heap const> w.params» for k_is
      refine' My.txt_mk ?e1 ?e2 ?e3 ..
      (case e1 => PySem.W.k_is)                    -- in the order: a name -> its address -> its object -> its parts
      (case e2 => PySem.W.k_is)
      ..
    obtain ⟨t, T⟩ := T
    have e0 := hmg.symm.trans (PySem.W.mg_of KX G T.law)
    cases e0                                       -- fa is the law's own address
    exact ⟨_, fun s u => .of_eq rfl, fun base kb nb => My.law_fn T kb nb⟩     -- if «.of_eq rfl» comes too early: refine' ⟨_, ?b, fun base kb nb => My.law_fn T kb nb⟩; exact fun s u => .of_eq rfl
  case S => exact fun w H a ns hl hO hS => ..
  case C => exact ..
(the tactic k_is has no namespace: write k_is) -/

/-! SHORT WORDS over the layer: a def of the text, its body, what a loop and a test want. -/
namespace L2
open PySem PySem.Spec PyProof.Rows

/-! ### the text by places -/
def defArgs (s : Stmt) : Arguments := match s with
  | .FunctionDef _ a _ _ _ _ _ _ _ _ => a
  | _ => { posonlyargs := [], args := [], vararg := none, kwonlyargs := [], kw_defaults := [], kwarg := none, defaults := [] }
def defBody (s : Stmt) : List Stmt := match s with
  | .FunctionDef _ _ b _ _ _ _ _ _ _ => b
  | _ => []
def defScope (s : Stmt) : Scope := match s with
  | .FunctionDef _ _ _ _ _ _ sc _ _ _ => sc
  | _ => { kind := .function, names := [], isGenerator := false, isCoroutine := false }

/-! ### no exception leaves a def -/
abbrev CX0 : CXT := fun _ _ _ _ _ _ => False
abbrev E0 : XK := fun _ _ _ => False
theorem pass0 {X : Cx} : Passes CX0 X E0 := fun _ _ _ _ _ _ _ h => h.elim

/-! ### a def (or method) of the text as it stands behind the top -/
structure Fun (K : PySem.W.Frag) (x qual : Str) (st : Stmt) (f : Addr) (fd : FuncData) : Prop where
  ex : ∃ (oc : Value) (od : Option Addr) (kV doc pm : Value) (an : Option Addr) (cdv ct : Value) (osl : Array (Option Value)),
    fd = PySem.W.fnOf x qual (defArgs st) (defBody st) (defScope st) .none kV doc pm an cdv ct ∧ K.lookup f = some ⟨oc, od, .func fd, osl⟩ ∧ PySem.W.codeIn K cdv qual = true
  kp : PySem.W.keepIn K (.ref f) = true
section
variable {P : Program} {w : World} {K : PySem.W.Frag} {mg : Str → Option Value} {base : Heap}
/-- THE RULE for a def: its body as a term of rules, and the reading of that term -/
theorem Fun.ok {x qual : Str} {st : Stmt} {f : Addr} {fd : FuncData} {N ps : List Str} {k : Nat} {sp : Sp} (F : Fun K x qual st f fd) (S : FnScope N ps (defScope st)) (len : ∀ vs H Q E, sp vs H Q E → vs.length = ps.length)
    (hbody : ∀ (cdv : Value) (A : Around) (outer : List Env) (s : Shared) (H : Hp) (vs : List V) (Q : VK) (E : XK), Room k (A.deeper (envOfC qual (defScope st) s.heap.objs.size f cdv)) → sp vs H Q E →
      ∃ t, PSs (cxOf CX0 P w K mg base N qual (defScope st) f cdv A outer s H E).nox (defBody st) t ∧ t { nx := fun _ H' => Q .non H', rt := Q } (start N vs) H) : FnOk P w K mg base CX0 (k + 1) f fd ps sp := by
  obtain ⟨oc, od, kV, doc, pm, an, cdv, ct, osl, rfl, lk, hcd⟩ := F.ex
  refine fn_of lk hcd S len fun A outer s H vs Q E hr hsp => ?_
  obtain ⟨t, h, q⟩ := hbody cdv A outer s H vs Q E hr hsp
  exact ⟨t, h.nox, q⟩
/-- how its arguments bind (no defaults): h is «fun _ _ _ _ _ _ us hl => match us, hl with | [_, _], _ => rfl», one _ a parameter -/
theorem Fun.binds {x qual : Str} {st : Stmt} {f : Addr} {fd : FuncData} {ps : List Str} (F : Fun K x qual st f fd)
    (h : ∀ (kV doc pm : Value) (an : Option Addr) (cdv ct : Value) (us : List Value), us.length = ps.length → bindArgs (PySem.W.fnOf x qual (defArgs st) (defBody st) (defScope st) .none kV doc pm an cdv ct) ⟨us, []⟩ = pure (ps.zip us)) : Binds K fd ps [] := by
  obtain ⟨oc, od, kV, doc, pm, an, cdv, ct, osl, rfl, lk, hcd⟩ := F.ex
  exact .all (h kV doc pm an cdv ct)
theorem fun_mk {x qual : Str} {st : Stmt} {f : Addr} {oc : Value} {od an : Option Addr} {osl : Array (Option Value)} {kV doc pm cdv ct : Value} (l : K.lookup f = some ⟨oc, od, .func (PySem.W.fnOf x qual (defArgs st) (defBody st) (defScope st) .none kV doc pm an cdv ct), osl⟩)
    (c : PySem.W.codeIn K cdv qual = true) (k : PySem.W.keepIn K (.ref f) = true) : Fun K x qual st f (PySem.W.fnOf x qual (defArgs st) (defBody st) (defScope st) .none kV doc pm an cdv ct) := ⟨⟨oc, od, kV, doc, pm, an, cdv, ct, osl, rfl, l, c⟩, k⟩
end
theorem hu_of {A : Around} {k : Nat} (hr : Room k A) : A.units + 1 < cLine := Nat.lt_of_le_of_lt (Nat.add_le_add_left (by decide : 1 ≤ 64) _) hr.units
/-! ### expressions in short: the name that stands in the i-th slot -/
section
variable {X : Cx}
end

/-! ### tests -/
theorem ite2 {c A B : Prop} [Decidable c] (h1 : c → A) (h2 : ¬ c → B) : if c then A else B := by
  by_cases h : c
  · rw [if_pos h]
    exact h1 h
  · rw [if_neg h]
    exact h2 h
/-! ### heaps -/
/-- all that was tracked is as it was -/
def Same (H H' : Hp) : Prop := ∀ b o, H b = some o → H' b = some o
theorem Same.refl (H : Hp) : Same H H := fun _ _ h => h
theorem Same.trans {H H1 H2 : Hp} (a : Same H H1) (b : Same H1 H2) : Same H H2 := fun c o h => b c o (a c o h)
theorem Same.free {H H' : Hp} (e : Same H H') {l : Addr} (h : H' l = Option.none) : H l = Option.none := by
  cases q : H l with
  | none => rfl
  | some o =>
    rw [e l o q] at h
    cases h
theorem Same.seq {K : PySem.W.Frag} {H H' : Hp} {a : Addr} {xs : List V} (e : Same H H') (h : SqL K H a xs) : SqL K H' a xs := by
  rcases h with (h | ⟨o, h⟩) | h
  · exact .inl (.inl (e _ _ h))
  · exact .inl (.inr ⟨o, e _ _ h⟩)
  · exact .inr h

end L2

set_option Elab.async false
set_option linter.all false
set_option maxRecDepth 100000
set_option maxHeartbeats 8000000
namespace L2
open PySem PySem.Spec PyProof.Rows

/-! ### lists of pairs as tables -/
section
variable {κ : Type} [DecidableEq κ]
def valV (kvs : List (κ × V)) (k : κ) : Option V := (kvs.find? fun kv => decide (kv.1 = k)).map (·.2)
/-- in its place, or at the end -/
def putK (kvs : List (κ × V)) (k : κ) (v : V) : List (κ × V) :=
  if (kvs.any fun kv => decide (kv.1 = k)) = true then kvs.map (fun kv => if kv.1 = k then (kv.1, v) else kv) else kvs ++ [(k, v)]
def dropK (kvs : List (κ × V)) (k : κ) : List (κ × V) := kvs.filter fun kv => decide (kv.1 ≠ k)

theorem valV_pos {p : κ × V} {r : List (κ × V)} {k : κ} (e : p.1 = k) : valV (p :: r) k = some p.2 := by simp [valV, List.find?_cons, e]
theorem valV_neg {p : κ × V} {r : List (κ × V)} {k : κ} (e : ¬ p.1 = k) : valV (p :: r) k = valV r k := by simp [valV, List.find?_cons, e]
theorem valV_any (k : κ) : ∀ kvs : List (κ × V), (kvs.any fun kv => decide (kv.1 = k)) = (valV kvs k).isSome
  | [] => rfl
  | p :: r => by
    rw [List.any_cons]
    by_cases e : p.1 = k
    · simp only [valV_pos e, decide_eq_true e, Bool.true_or, Option.isSome_some]
    · rw [valV_neg e, decide_eq_false e, Bool.false_or]; exact valV_any k r
theorem RelO.isSome_eq {o : Option V} {u : Option Value} (r : RelO o u) : o.isSome = u.isSome := by
  cases o with
  | none => cases u with
    | none => rfl
    | some _ => exact (show False from r).elim
  | some _ => cases u with
    | none => exact (show False from r).elim
    | some _ => rfl
theorem RelO.getD {o : Option V} {u : Option Value} {d : V} {d' : Value} (r : RelO o u) (rd : RelV d d') : RelV (o.getD d) (u.getD d') := by
  cases o with
  | none => cases u with
    | none => exact rd
    | some _ => exact (show False from r).elim
  | some _ => cases u with
    | none => exact (show False from r).elim
    | some _ => exact r

/-- raw tables of the same keys -/
theorem KV.val {kvs : List (κ × V)} {vs : List (κ × Value)} (r : KV kvs vs) (k : κ) : RelO (valV kvs k) (valueAt vs k) := by
  unfold KV at r
  induction r with
  | nil => exact True.intro
  | @cons p q ps qs h t ih =>
    obtain ⟨h1, h2⟩ := h
    by_cases e : p.1 = k
    · have e' : q.1 = k := h1.symm.trans e
      have b : valueAt (q :: qs) k = some q.2 := by simp [valueAt, List.find?_cons, e']
      rw [valV_pos e, b]; exact h2
    · have e' : ¬ q.1 = k := fun z => e (h1.trans z)
      have b : valueAt (q :: qs) k = valueAt qs k := by simp [valueAt, List.find?_cons, e']
      rw [valV_neg e, b]; exact ih
theorem KV.any {kvs : List (κ × V)} {vs : List (κ × Value)} (r : KV kvs vs) (k : κ) : (kvs.any fun kv => decide (kv.1 = k)) = vs.any fun kv => decide (kv.1 = k) := by
  unfold KV at r
  induction r with
  | nil => rfl
  | cons h t ih => rw [List.any_cons, List.any_cons, ih, h.1]
theorem KV.repl {kvs : List (κ × V)} {vs : List (κ × Value)} (r : KV kvs vs) (k : κ) {y : V} {u : Value} (ry : RelV y u) :
    KV (kvs.map fun kv => if kv.1 = k then (kv.1, y) else kv) (vs.map fun kv => if kv.1 = k then (kv.1, u) else kv) := by
  unfold KV at r ⊢
  induction r with
  | nil => exact .nil
  | @cons p q ps qs h t ih =>
    rw [List.map_cons, List.map_cons]
    refine .cons ?_ ih
    obtain ⟨h1, h2⟩ := h
    by_cases e : p.1 = k
    · rw [if_pos e, if_pos (h1.symm.trans e)]; exact ⟨h1, ry⟩
    · rw [if_neg e, if_neg (fun z => e (h1.trans z))]; exact ⟨h1, h2⟩
theorem KV.put {kvs : List (κ × V)} {vs : List (κ × Value)} (r : KV kvs vs) (k : κ) {y : V} {u : Value} (ry : RelV y u) : KV (putK kvs k y) (stored vs k u) := by
  unfold putK stored
  rw [r.any k]
  by_cases e : (vs.any fun kv => decide (kv.1 = k)) = true
  · rw [if_pos e, if_pos e]; exact r.repl k ry
  · rw [if_neg e, if_neg e]; exact Paired.snoc r ⟨rfl, ry⟩
theorem KV.drop {kvs : List (κ × V)} {vs : List (κ × Value)} (r : KV kvs vs) (k : κ) : KV (dropK kvs k) (without vs k) := by
  unfold KV at r ⊢
  unfold dropK without
  induction r with
  | nil => exact .nil
  | @cons p q ps qs h t ih =>
    obtain ⟨h1, h2⟩ := h
    rw [List.filter_cons, List.filter_cons]
    by_cases e : p.1 = k
    · have a : ¬ decide (p.1 ≠ k) = true := by simp [e]
      have b : ¬ decide (q.1 ≠ k) = true := by simp [h1.symm.trans e]
      rw [if_neg a, if_neg b]; exact ih
    · have e' : ¬ q.1 = k := fun z => e (h1.trans z)
      have a : decide (p.1 ≠ k) = true := by simp [e]
      have b : decide (q.1 ≠ k) = true := by simp [e']
      rw [if_pos a, if_pos b]; exact .cons ⟨h1, h2⟩ ih
theorem KV.keys {kvs : List (κ × V)} {vs : List (κ × Value)} (r : KV kvs vs) : kvs.map (·.1) = vs.map (·.1) := by
  unfold KV at r
  induction r with
  | nil => rfl
  | cons h t ih => rw [List.map_cons, List.map_cons, ih, h.1]
theorem KV.length {kvs : List (κ × V)} {vs : List (κ × Value)} (r : KV kvs vs) : kvs.length = vs.length := Paired.length r
theorem dropK_le (kvs : List (κ × V)) (k : κ) : (dropK kvs k).length ≤ kvs.length := List.length_filter_le _ _
end


/-! ### a tracked dict, its keys ints and texts or tuples of these -/
theorem kV_is {P : Program} {w : World} {k : Key} {u : Value} (r : RelV (kV k) u) : (mixKind P w).is k u = true := by
  cases k with
  | inl i => obtain ⟨t, e⟩ := (show ∃ t, u = Value.int i t from r); subst e; exact mixKind_int P w i t
  | inr x => obtain ⟨t, e⟩ := (show ∃ t, u = Value.str x t from r); subst e; exact mixKind_str P w x t
theorem items_are {P : Program} {w : World} : ∀ {ks : List Key} {us : List Value}, Vals (ks.map kV) us → ItemsAre (mixKind P w) ks us
  | [], _, r => by rw [List.map_nil] at r; cases r; exact .nil
  | k :: ks, _, r => by
    rw [List.map_cons] at r
    cases r with
    | cons h t => exact .cons (kV_is h) (items_are t)

/-- raw entries of a dict with tuple keys -/
abbrev KT (H : Hp) : List (List Key × V) → List (List Key × Addr × Value) → Prop := Paired fun p q => p.1 = q.1 ∧ H q.2.1 = some (.tup (p.1.map kV)) ∧ RelV p.2 q.2.2
theorem KT.val {H : Hp} {kvs : List (List Key × V)} {xs : List (List Key × Addr × Value)} (r : KT H kvs xs) (k : List Key) : RelO (valV kvs k) ((atKey xs k).map (·.2)) := by
  induction r with
  | nil => exact True.intro
  | @cons p q ps qs h t ih =>
    obtain ⟨h1, _, h2⟩ := h
    by_cases e : p.1 = k
    · have e' : q.1 = k := h1.symm.trans e
      have b : atKey (q :: qs) k = some q.2 := by simp [atKey, List.find?_cons, e']
      rw [valV_pos e, b]; exact h2
    · have e' : ¬ q.1 = k := fun z => e (h1.trans z)
      have b : atKey (q :: qs) k = atKey qs k := by simp [atKey, List.find?_cons, e']
      rw [valV_neg e, b]; exact ih
theorem KT.repl {H : Hp} {kvs : List (List Key × V)} {xs : List (List Key × Addr × Value)} (r : KT H kvs xs) (k : List Key) {y : V} {u : Value} (ry : RelV y u) :
    KT H (kvs.map fun kv => if kv.1 = k then (kv.1, y) else kv) (xs.map (putAt k u)) := by
  induction r with
  | nil => exact .nil
  | @cons p q ps qs h t ih =>
    rw [List.map_cons, List.map_cons]
    refine .cons ?_ ih
    obtain ⟨h1, h2, h3⟩ := h
    unfold putAt
    by_cases e : p.1 = k
    · rw [if_pos e, if_pos (h1.symm.trans e)]; exact ⟨h1, h2, ry⟩
    · rw [if_neg e, if_neg (fun z => e (h1.trans z))]; exact ⟨h1, h2, h3⟩
theorem KT.put {H : Hp} {kvs : List (List Key × V)} {xs : List (List Key × Addr × Value)} (r : KT H kvs xs) (k : List Key) {b : Addr} {y : V} {u : Value} (hb : H b = some (.tup (k.map kV))) (ry : RelV y u) :
    KT H (putK kvs k y) (storedH xs k b u) := by
  have e : (kvs.any fun kv => decide (kv.1 = k)) = (atKey xs k).isSome := by
    rw [valV_any, (r.val k).isSome_eq, Option.isSome_map]
  unfold putK storedH
  rw [e]
  by_cases q : (atKey xs k).isSome = true
  · rw [if_pos q, if_pos q]; exact r.repl k ry
  · rw [if_neg q, if_neg q]; exact Paired.snoc r ⟨rfl, hb, ry⟩
theorem KT.keeps {H H' : Hp} {kvs : List (List Key × V)} {xs : List (List Key × Addr × Value)} (r : KT H kvs xs) (ht : ∀ b ys, H b = some (.tup ys) → H' b = some (.tup ys)) : KT H' kvs xs :=
  Paired.mapP r fun _ _ z => ⟨z.1, ht _ _ z.2.1, z.2.2⟩

section
variable {P : Program} {w : World} {H : Hp} {h : Heap} {a : Addr}
theorem rd_of {u : HO} (ok : HOk P w H h) (e : Rd H a u) : ObjOk P w H h a u := e.ok ok
theorem dk_rd {kvs : List (Key × V)} (ok : HOk P w H h) (e : Rd H a (.dK kvs)) : kvs.length ≤ sizeLine ∧ (a == sysModules) = false ∧ ∃ vs, KV kvs vs ∧ h.DictOf (mixKind P w) a vs :=
  show ObjOk P w H h a (.dK kvs) from rd_of ok e
theorem dk_of {kvs : List (Key × V)} (ok : HOk P w H h) (e : H a = some (.dK kvs)) : kvs.length ≤ sizeLine ∧ (a == sysModules) = false ∧ ∃ vs, KV kvs vs ∧ h.DictOf (mixKind P w) a vs := dk_rd ok (.inl e)
/-- a tracked tuple of ints and texts is a key -/
theorem key_of {ks : List Key} (ok : HOk P w H h) (e : H a = some (.tup (ks.map kV))) : (tupleKind (mixKind P w)).is h ks a := by
  obtain ⟨_, its, r, o, h1, h2, n, h3⟩ := (show ObjOk P w H h a (.tup (ks.map kV)) from ok a _ e)
  exact ⟨o, its.toArray, n, h1, h2, h3, by simpa using items_are r⟩
theorem dt_rd {kvs : List (List Key × V)} (ok : HOk P w H h) (e : Rd H a (.dT kvs)) : kvs.length ≤ sizeLine ∧ (a == sysModules) = false ∧
    ∃ xs, KT H kvs xs ∧ h.DictOfH (tupleKind (mixKind P w)) a xs := by
  obtain ⟨z, y, xs, r, o, es, ep, h1, h2, h3, h4, h5⟩ := (show ObjOk P w H h a (.dT kvs) from rd_of ok e)
  refine ⟨z, y, xs, r, o, es, ep, h1, h2, h3, h4, fun x hx => ?_, h5⟩
  have all : ∀ {l : List (List Key × V)} {m : List (List Key × Addr × Value)}, KT H l m → ∀ x ∈ m, (tupleKind (mixKind P w)).is h x.1 x.2.1 := by
    intro l m q
    induction q with
    | nil => intro x hx; exact nomatch hx
    | @cons p q ps qs hq t ih =>
      intro x hx
      rcases List.mem_cons.mp hx with e | hx
      · subst e
        exact key_of ok (by rw [← hq.1]; exact hq.2.1)
      · exact ih x hx
  exact all r x hx
end

/-- what the dict at a holds at the key y -/
def DGet (H : Hp) (a : Addr) (y : V) (r : Option V) : Prop :=
  (∃ kvs k, Rd H a (.dK kvs) ∧ y = kV k ∧ r = valV kvs k) ∨ ∃ kvs k b, Rd H a (.dT kvs) ∧ y = .ref b ∧ H b = some (.tup (k.map kV)) ∧ r = valV kvs k
/-- the heap behind a[y] = v -/
def DPut (H : Hp) (a : Addr) (y v : V) (H' : Hp) : Prop :=
  (∃ kvs k, H a = some (.dK kvs) ∧ y = kV k ∧ kvs.length < sizeLine ∧ H' = upd H a (.dK (putK kvs k v))) ∨
  ∃ kvs k b, H a = some (.dT kvs) ∧ y = .ref b ∧ H b = some (.tup (k.map kV)) ∧ kvs.length < sizeLine ∧ H' = upd H a (.dT (putK kvs k v))
theorem DGet.k {H : Hp} {a : Addr} {kvs : List (Key × V)} {k : Key} (e : H a = some (.dK kvs)) : DGet H a (kV k) (valV kvs k) := .inl ⟨kvs, k, .inl e, rfl, rfl⟩
theorem DGet.t {H : Hp} {a b : Addr} {kvs : List (List Key × V)} {k : List Key} (e : H a = some (.dT kvs)) (eb : H b = some (.tup (k.map kV))) : DGet H a (.ref b) (valV kvs k) := .inr ⟨kvs, k, b, .inl e, rfl, eb, rfl⟩
theorem DPut.k {H : Hp} {a : Addr} {kvs : List (Key × V)} {k : Key} {v : V} (e : H a = some (.dK kvs)) (hl : kvs.length < sizeLine) : DPut H a (kV k) v (upd H a (.dK (putK kvs k v))) := .inl ⟨kvs, k, e, rfl, hl, rfl⟩
theorem DPut.t {H : Hp} {a b : Addr} {kvs : List (List Key × V)} {k : List Key} {v : V} (e : H a = some (.dT kvs)) (eb : H b = some (.tup (k.map kV))) (hl : kvs.length < sizeLine) :
    DPut H a (.ref b) v (upd H a (.dT (putK kvs k v))) := .inr ⟨kvs, k, b, e, rfl, eb, hl, rfl⟩


section
variable {X : Cx} {pins : List (Addr × Obj)} {σ : St} {H : Hp} {s : Shared} {a : Addr} {y v : V} {u r : Value} {o : Option V} {A : Around} {E : Value → Shared → Prop}

theorem Inv.big (I : Inv X pins σ H s) : sysModules < s.heap.objs.size := by
  have h : mainGlobals < s.heap.objs.size := (I.mod.glob.keeps I.bk).lt
  exact Nat.lt_trans (by decide) h

/-- d[y], there -/
theorem d_getItem {Q : Value → Shared → Prop} (hu : A.units + 1 < cLine) (I : Inv X pins σ H s) (g : DGet H a y (some v)) (ry : RelV y u) (h : ∀ w' s', Inv X pins σ H s' → RelV v w' → Q w' s') :
    wpAny (model X.prog X.w) A (getItem (.ref a) u) Q E s := by
  rcases g with ⟨kvs, k, e, ey, l⟩ | ⟨kvs, k, b, e, ey, eb, l⟩
  · subst ey
    obtain ⟨z, hd, vs, rel, dd⟩ := dk_rd I.hok e
    obtain ⟨w', hw, rw'⟩ := RelO.some_of (v := v) (o := valueAt vs k) (by rw [l]; exact rel.val k)
    exact wpAny_getItem_of (kV_is ry) dd.mapOf hw (h w' _ (I.tok _) rw')
  · subst ey
    cases (show u = Value.ref b from ry)
    obtain ⟨z, hd, xs, rel, dd⟩ := dt_rd I.hok e
    obtain ⟨w', hw, rw'⟩ := RelO.some_of (v := v) (o := (atKey xs k).map (·.2)) (by rw [l]; exact rel.val k)
    obtain ⟨p, hp, hp2⟩ := Option.map_eq_some_iff.mp hw
    refine wpAny_getItem_heap (tupleKind_room_in1 hu) (key_of I.hok eb) dd hp ?_
    rw [hp2]
    exact h w' _ (I.tok _) rw'
/-- y in d -/
theorem d_in {Q : Value → Shared → Prop} (hu : A.units + 1 < cLine) (I : Inv X pins σ H s) (g : DGet H a y o) (ry : RelV y u) (h : ∀ s', Inv X pins σ H s' → Q (.bool o.isSome) s') :
    wpAny (model X.prog X.w) A (compareOp .In u (.ref a)) Q E s := by
  rcases g with ⟨kvs, k, e, ey, l⟩ | ⟨kvs, k, b, e, ey, eb, l⟩
  · subst ey
    obtain ⟨z, hd, vs, rel, dd⟩ := dk_rd I.hok e
    refine wpAny_in_of (kV_is ry) hd dd.mapOf ?_
    rw [← (rel.val k).isSome_eq, ← l]
    exact h _ (I.tok _)
  · subst ey
    cases (show u = Value.ref b from ry)
    obtain ⟨z, hd, xs, rel, dd⟩ := dt_rd I.hok e
    refine wpAny_in_heap (tupleKind_room_in1 hu) (key_of I.hok eb) hd dd ?_
    have q := (rel.val k).isSome_eq
    rw [Option.isSome_map] at q
    rw [← q, ← l]
    exact h _ (I.tok _)
theorem d_notIn {Q : Value → Shared → Prop} (hu : A.units + 1 < cLine) (I : Inv X pins σ H s) (g : DGet H a y o) (ry : RelV y u) (h : ∀ s', Inv X pins σ H s' → Q (.bool (!o.isSome)) s') :
    wpAny (model X.prog X.w) A (compareOp .NotIn u (.ref a)) Q E s := by
  rcases g with ⟨kvs, k, e, ey, l⟩ | ⟨kvs, k, b, e, ey, eb, l⟩
  · subst ey
    obtain ⟨z, hd, vs, rel, dd⟩ := dk_rd I.hok e
    refine wpAny_notIn_of (kV_is ry) hd dd.mapOf ?_
    rw [← (rel.val k).isSome_eq, ← l]
    exact h _ (I.tok _)
  · subst ey
    cases (show u = Value.ref b from ry)
    obtain ⟨z, hd, xs, rel, dd⟩ := dt_rd I.hok e
    refine wpAny_notIn_heap (tupleKind_room_in1 hu) (key_of I.hok eb) hd dd ?_
    have q := (rel.val k).isSome_eq
    rw [Option.isSome_map] at q
    rw [← q, ← l]
    exact h _ (I.tok _)
/-- a dict's object is replaced -/
theorem d_write {h' : Heap} {t' : Nat} {ob : HO} (I : Inv X pins σ H s) (mu : Mut (H a)) (hs : Heap.SameBut a s.heap h') (he : ∃ q, h'.get? a = some q) (new : ObjOk X.prog X.w (upd H a ob) h' a ob) :
    Inv X pins σ (upd H a ob) { s with heap := h', toks := t' } :=
  I.write (x := a) (e := a) mu (.inl rfl) (fun b q hb z => (hs.2 b hb).trans z) he new
theorem dk_new {P : Program} {w : World} {H' : Hp} {h' : Heap} {kvs : List (Key × V)} {vs : List (Key × Value)} (z : kvs.length ≤ sizeLine) (hd : (a == sysModules) = false) (rel : KV kvs vs) (dd : h'.DictOf (mixKind P w) a vs) :
    ObjOk P w H' h' a (.dK kvs) := ⟨z, hd, vs, rel, dd⟩
end

section
variable {X : Cx} {pins : List (Addr × Obj)} {σ : St} {H : Hp} {s : Shared} {a : Addr} {kvs : List (Key × V)} {k : Key} {u : Value} {A : Around} {E : Value → Shared → Prop}
/-- d.pop(k[, x]), there -/
theorem d_pop {v : V} {more : List Value} {Q : Value → Shared → Prop} (I : Inv X pins σ H s) (e : H a = some (.dK kvs)) (ry : RelV (kV k) u) (l : valV kvs k = some v) (hm : more = [] ∨ ∃ x, more = [x])
    (h : ∀ w' s', Inv X pins σ (upd H a (.dK (dropK kvs k))) s' → RelV v w' → Q w' s') : wpAny (model X.prog X.w) A (call (.builtin "dict.pop") (.ref a :: u :: more)) Q E s := by
  obtain ⟨z, hd, vs, rel, dd⟩ := dk_of I.hok e
  obtain ⟨w', hw, rw'⟩ := RelO.some_of (v := v) (o := valueAt vs k) (by rw [← l]; exact rel.val k)
  have hp : (keyPart u).isSome = true := by
    cases k with
    | inl i => obtain ⟨t, q⟩ := (show ∃ t, u = Value.int i t from ry); subst q; rfl
    | inr x => obtain ⟨t, q⟩ := (show ∃ t, u = Value.str x t from ry); subst q; rfl
  have ha : argsOk "dict.pop" ⟨.ref a :: u :: more, []⟩ := by
    rcases hm with q | ⟨x, q⟩
    · subst q; exact PySem.F.args_dict_pop_2 _ _
    · subst q; exact PySem.F.args_dict_pop_3 _ _ _
  refine call_meetsIn PySem.F.slot_dict_pop dd.typeIs PySem.F.entry_dict_pop ha (meets_dict_pop_there (mixKind X.prog X.w) a (kV_is ry) more hm hp)
    ⟨vs, w', dd, by rw [← rel.length]; exact z, hw, fun h' dd' hs => h w' _ ?_ rw'⟩
  have he : ∃ q, h'.get? a = some q := let ⟨q, _, _, hq, _⟩ := dd'; ⟨q, hq⟩
  exact d_write I (by rw [e]; exact True.intro) hs he (dk_new (Nat.le_trans (dropK_le kvs k) z) hd (rel.drop k) dd')
end


/-! ### readings and rules -/
/-- the element of a subscription, not a slice -/
def NoSl (i : Expr) : Prop := ∀ ov iv, subscripted i false ov iv = operate [ov, iv] (getItem ov iv)
theorem subD_of {prog : Program} {w : World} {A : Around} {E : Value → Shared → Prop} {s : Shared} {env : Env} {value slice : Expr} {pos : Pos} {T id : String} {Q : Value → Shared → Prop}
    (hl : typeLookup (.type T) "__getitem__" = pure (some (.builtin id))) (hs : NoSl slice)
    (h : wpAny (model prog w) A (eval value env) (fun o s₁ => wpAny (model prog w) A (eval slice env) (fun i s₂ => s₂.TypeIs o T ∧ wpAny (model prog w) A (getItem o i) Q E s₂) E s₁) E s) :
    wpAny (model prog w) A (eval (.Subscript value slice pos) env) Q E s := by
  refine Subscript_ (wpAny_mono h (fun o s₁ h₁ => wpAny_mono h₁ (fun i s₂ h₂ => ?_) fun _ _ x => x) fun _ _ x => x)
  obtain ⟨hT, h₂⟩ := h₂
  unfold subscriptTail
  refine wpAny_bind ?_
  rw [getitemInPython_of_ne hT.not_modules]
  refine wpAny_bind (wpAny_specialOf hT hl ?_)
  have fin : wpAny (model prog w) A (subscripted slice false o i) (fun r s₃ => wpAny (model prog w) A (letTemporaryGo value o r >>= fun _ => pure r) Q E s₃) E s₂ := by
    rw [hs o i]
    exact wpAny_operating (wpAny_mono h₂ (fun r s₃ h₃ => wpAny_bind (wpAny_letTemporaryGo (wpAny_pure h₃))) fun _ _ x => x)
  first
    | exact wpAny_pure (wpAny_bind fin)
    | exact wpAny_bind (wpAny_pure (wpAny_bind fin))
    | exact wpAny_bind fin

theorem dict_typeIs {X : Cx} {pins : List (Addr × Obj)} {σ : St} {H : Hp} {s : Shared} {a : Addr} {y : V} {o : Option V} (I : Inv X pins σ H s) (g : DGet H a y o) : s.TypeIs (.ref a) "dict" := by
  rcases g with ⟨kvs, k, e, _, _⟩ | ⟨kvs, k, b, e, _, _, _⟩
  · obtain ⟨_, _, vs, _, dd⟩ := dk_rd I.hok e
    exact dd.typeIs
  · obtain ⟨_, _, xs, _, dd⟩ := dt_rd I.hok e
    exact dd.typeIs
section
variable {X : Cx} {o i e value : Expr} {pos pos' tpos : Pos} {td ty tv : TE}
end


/-! ### displays -/
/-- {}, to be a dict of the kind that is wanted -/
def tDNewK : TE := fun _ H Q => ∀ p, H p = none → Q (.ref p) (upd H p (.dK []))
section
variable {X : Cx} {pos : Pos}
end

/-! ### methods -/
/-- a method call o.m(e) of a built-in, with one argument: what must be seen of the text -/
structure M1 (X : Cx) (o : Expr) (m : Str) (apos : Pos) (e : Expr) (cpos : Pos) : Prop where
  base : attributeBase o m X.env (eval o X.env) = eval o X.env
  few : ((backTo cpos (starEach [e] X.env)).all (fun x => !x.1) && (backToKw cpos (keywordEach [] X.env)).all (fun x => x.1.isSome)
    && decide (([e] : List Expr).length + ([] : List Keyword).length + (if ([] : List Keyword).isEmpty then 0 else 1) < 30)) = true
  line : (apos.endLine == cpos.line) = true
  trees : backTo cpos (starEach [e] X.env) = [(false, eval e X.env)]
structure M2 (X : Cx) (o : Expr) (m : Str) (apos : Pos) (e f : Expr) (cpos : Pos) : Prop where
  base : attributeBase o m X.env (eval o X.env) = eval o X.env
  few : ((backTo cpos (starEach [e, f] X.env)).all (fun x => !x.1) && (backToKw cpos (keywordEach [] X.env)).all (fun x => x.1.isSome)
    && decide (([e, f] : List Expr).length + ([] : List Keyword).length + (if ([] : List Keyword).isEmpty then 0 else 1) < 30)) = true
  line : (apos.endLine == cpos.line) = true
  trees : backTo cpos (starEach [e, f] X.env) = [(false, eval e X.env), (false, eval f X.env)]

/-- a is a dict, whatever its keys -/
def IsD (H : Hp) (a : Addr) : Prop := (∃ kvs, Rd H a (.dK kvs)) ∨ ∃ kvs, Rd H a (.dT kvs)
theorem isD_at {X : Cx} {pins : List (Addr × Obj)} {σ : St} {H : Hp} {s : Shared} {a : Addr} (I : Inv X pins σ H s) (d : IsD H a) :
    s.TypeIs (.ref a) "dict" ∧ (∀ b, Value.ref a = .ref b → ∃ ob, s.heap.get? b = some ob ∧ ob.dict = none) ∧ (a == sysModules) = false := by
  rcases d with ⟨kvs, e⟩ | ⟨kvs, e⟩
  · obtain ⟨_, hd, vs, _, dd⟩ := dk_rd I.hok e
    refine ⟨dd.typeIs, fun b q => ?_, hd⟩
    cases q
    obtain ⟨ob, _, _, h1, h2, _⟩ := dd
    exact ⟨ob, h1, h2.2.1⟩
  · obtain ⟨_, hd, xs, _, dd⟩ := dt_rd I.hok e
    refine ⟨dd.typeIs, fun b q => ?_, hd⟩
    cases q
    obtain ⟨ob, _, _, h1, h2, _⟩ := dd
    exact ⟨ob, h1, h2.2.1⟩

section
variable {X : Cx} {pins : List (Addr × Obj)} {σ : St} {H : Hp} {s : Shared} {a : Addr} {y d : V} {u r : Value} {o : Option V} {A : Around} {E : Value → Shared → Prop}
end

/-- d.pop(k): there; d.pop(k, x): there or not -/
def tDPop1 (td ty : TE) : TE := fun σ H Q => td σ H fun x H1 => ∃ a, x = .ref a ∧ IsD H1 a ∧ ty σ H1 fun y H2 => ∃ kvs k v, H2 a = some (.dK kvs) ∧ y = kV k ∧ valV kvs k = some v ∧ Q v (upd H2 a (.dK (dropK kvs k)))
section
variable {X : Cx} {o e f : Expr} {apos cpos : Pos} {td ty tx : TE}
theorem pe_dpop1 (ho : PE X o td) (he : PE X e ty) (m : M1 X o "pop" apos e cpos) : PE X (.Call (.Attribute o "pop" apos) [e] [] cpos) (tDPop1 td ty) := by
  intro pins s σ H Q I h
  refine wpAny_Call_method m.base m.few m.line PySem.F.plainAttrs_dict PySem.F.slot_dict_pop PySem.F.type_dict_pop (thn (ho pins s σ H _ I h) fun u s1 ⟨x, H1, I1, rx, a, ex, d, q1⟩ => ?_)
  subst ex
  obtain rfl : u = Value.ref a := rx
  obtain ⟨t1, t2, _⟩ := isD_at I1 d
  refine ⟨t1, t2, ?_⟩
  rw [m.trees]
  refine Calls.callWith_builtin rfl (Calls.evalArgs_plain (Calls.spliced_cons (thn (he pins s1 σ H1 _ I1 q1) fun iv s2 ⟨y, H2, I2, ry, kvs, k, v, ea, ey, l, q2⟩ => Calls.spliced_nil ?_)))
  subst ey
  exact d_pop I2 ea ry l (.inl rfl) fun w' s3 I3 rw' => ⟨v, _, I3, rw', q2⟩
end

/-! ### dict(d): a copy -/
section
variable {X : Cx} {pins : List (Addr × Obj)} {σ : St} {H : Hp} {s : Shared} {a : Addr} {kvs : List (Key × V)} {A : Around} {E : Value → Shared → Prop}
end


section
variable {X : Cx} {pins : List (Addr × Obj)} {σ : St} {H : Hp} {s : Shared} {a : Addr} {y : V} {u : Value} {A : Around} {E : Value → Shared → Prop}
end
end L2
namespace L2
open PySem PySem.Spec PyProof.Rows
/-! ### a dict's pairs: keys that differ -/
section
variable {κ : Type} [DecidableEq κ]
theorem dropK_pos {p : κ × V} {r : List (κ × V)} {k : κ} (e : p.1 = k) : dropK (p :: r) k = dropK r k := by
  unfold dropK
  rw [List.filter_cons, if_neg (by simp [e])]
theorem dropK_neg {p : κ × V} {r : List (κ × V)} {k : κ} (e : ¬ p.1 = k) : dropK (p :: r) k = p :: dropK r k := by
  unfold dropK
  rw [List.filter_cons, if_pos (by simp [e])]
end
end L2

set_option Elab.async false
set_option linter.all false
set_option maxRecDepth 100000
set_option maxHeartbeats 1000000
namespace L2
open PySem PySem.Spec PyProof.Rows

/-! ### list comprehensions -/
/-- the closure that a block takes from the frame around it -/
def closOf (env : Env) : List (Str × NameKind) → List (Str × Addr) → List (Str × Addr)
  | [], acc => acc
  | (n, k) :: r, acc => closOf env r (if k == .free then (n, (env.cells.lookup n).getD 0) :: acc else acc)

theorem closureFor_closOf {scope : Scope} {env : Env} (h : ∀ y ∈ scope.names, y.2 = .free → ∃ c, env.cells.lookup y.1 = some c) :
    closureFor scope env = pure (closOf env scope.names []) := by
  have key : ∀ (l : List (Str × NameKind)) (acc : List (Str × Addr)), (∀ y ∈ l, y.2 = .free → ∃ c, env.cells.lookup y.1 = some c) →
      (forIn l acc fun (x : Str × NameKind) (r : List (Str × Addr)) =>
        (if x.2 == NameKind.free then do
          let c ← cellOf env x.1
          pure (ForInStep.yield ((x.1, c) :: r))
        else pure (ForInStep.yield r) : Sem (ForInStep (List (Str × Addr))))) = pure (closOf env l acc) := by
    intro l
    induction l with
    | nil => intro acc _; rfl
    | cons y r ih =>
      intro acc hy
      obtain ⟨n, k⟩ := y
      rw [List.forIn_cons]
      by_cases hk : k = .free
      · subst hk
        obtain ⟨c, hc⟩ := hy (n, .free) List.mem_cons_self rfl
        have e1 : cellOf env n = pure c := by unfold cellOf; rw [hc]
        simp only [beq_self_eq_true, if_true]
        rw [e1]
        show (pure c >>= fun c => pure (ForInStep.yield ((n, c) :: acc))) >>= _ = _
        have e2 : closOf env ((n, NameKind.free) :: r) acc = closOf env r ((n, c) :: acc) := by
          have hc' : env.cells.lookup n = some c := hc
          show closOf env r (if (NameKind.free == NameKind.free) = true then (n, (env.cells.lookup n).getD 0) :: acc else acc) = _
          rw [hc']
          rfl
        rw [e2]
        exact ih _ fun z hz => hy z (List.mem_cons_of_mem _ hz)
      · have hb : (k == NameKind.free) = false := by simpa using hk
        simp only [hb, Bool.false_eq_true, if_false]
        have e2 : closOf env ((n, k) :: r) acc = closOf env r acc := by
          show closOf env r (if (k == NameKind.free) = true then _ else acc) = _
          rw [hb]; rfl
        rw [e2]
        exact ih _ fun z hz => hy z (List.mem_cons_of_mem _ hz)
  unfold closureFor
  have e := key scope.names [] h
  have e3 : ∀ (f : Str × NameKind → List (Str × Addr) → Sem (ForInStep (List (Str × Addr)))), (f = fun x r => (if x.2 == NameKind.free then do
          let c ← cellOf env x.1
          pure (ForInStep.yield ((x.1, c) :: r))
        else pure (ForInStep.yield r))) → (forIn scope.names [] f >>= fun r => pure r) = (pure (closOf env scope.names []) : Sem (List (Str × Addr))) := by
    intro f hf
    rw [hf, e]
    rfl
  exact e3 _ rfl

theorem closOf_lookup {env : Env} {x : Str} : ∀ (l : List (Str × NameKind)) (acc : List (Str × Addr)) (c : Addr), (closOf env l acc).lookup x = some c →
    ((∃ y ∈ l, y.1 = x ∧ y.2 = .free) ∧ (env.cells.lookup x).getD 0 = c) ∨ acc.lookup x = some c
  | [], acc, c, h => .inr h
  | (n, k) :: r, acc, c, h => by
    rcases closOf_lookup r _ c h with ⟨⟨y, hy, e⟩, q⟩ | q
    · exact .inl ⟨⟨y, List.mem_cons_of_mem _ hy, e⟩, q⟩
    · by_cases hk : k = .free
      · subst hk
        have q' : List.lookup x ((n, (env.cells.lookup n).getD 0) :: acc) = some c := q
        rw [List.lookup_cons] at q'
        cases hx : x == n with
        | true =>
          rw [hx] at q'
          have hx' : x = n := by simpa using hx
          subst hx'
          exact .inl ⟨⟨_, List.mem_cons_self, rfl, rfl⟩, Option.some.inj q'⟩
        | false => rw [hx] at q'; exact .inr q'
      · have hb : (k == NameKind.free) = false := by simpa using hk
        rw [hb] at q
        exact .inr q
theorem closOf_has {env : Env} {x : Str} : ∀ (l : List (Str × NameKind)) (acc : List (Str × Addr)), ((∃ y ∈ l, y.1 = x ∧ y.2 = .free) ∨ (acc.lookup x).isSome) → ((closOf env l acc).lookup x).isSome
  | [], acc, h => by
    rcases h with ⟨y, hy, _⟩ | h
    · cases hy
    · exact h
  | (n, k) :: r, acc, h => by
    show ((closOf env r (if (k == NameKind.free) = true then _ else acc)).lookup x).isSome
    refine closOf_has r _ ?_
    rcases h with ⟨y, hy, e1, e2⟩ | h
    · rcases List.mem_cons.mp hy with rfl | hy
      · have e2' : k = .free := e2
        have e1' : n = x := e1
        subst e2' e1'
        refine .inr ?_
        simp [List.lookup_cons]
      · exact .inl ⟨y, hy, e1, e2⟩
    · refine .inr ?_
      split
      · rw [List.lookup_cons]
        split
        · rfl
        · exact h
      · exact h

/-- what a block's scope is: src tells, of each name, where it stands in the frame around (none: the block's own) -/
structure CpScope (X : Cx) (scope : Scope) (N : List Str) (src : List (Option Nat)) : Prop where
  kind : scope.kind = .function
  nocell : ∀ y ∈ scope.names, y.2 ≠ .cell
  locs : ∀ y ∈ scope.names, y.2 = .local → scope.names.lookup y.1 = some .local
  frees : ∀ y ∈ scope.names, y.2 = .free → scope.names.lookup y.1 = some .free ∧ X.env.scope.names.lookup y.1 = some .cell
  nd : N.Nodup
  len : src.length = N.length
  cap : ∀ (i j : Nat), src[i]? = some (some j) → X.N[j]? = N[i]? ∧ (N[i]?).elim False (fun x => scope.names.lookup x = some .free)
/-- the names' values at the block's entry -/
def cst (src : List (Option Nat)) (σ : St) : St := src.map fun o => o.bind fun j => (σ[j]?).join

theorem lookup_relabel_free {env : Env} (hk : env.scope.kind = .function) : ∀ {names : List (Str × NameKind)} {x : Str}, names.lookup x = some .free → env.kindOf x = some .cell →
    (names.map fun (n, k) => if (k == NameKind.free && env.scope.kind == .function && env.kindOf n == some .cell) then (n, NameKind.cell) else (n, k)).lookup x = some .cell
  | [], _, h, _ => by simp at h
  | (n, k) :: r, x, h, hc => by
    have ih := @lookup_relabel_free env hk r x
    show List.lookup x ((if (k == NameKind.free && env.scope.kind == .function && env.kindOf n == some .cell) = true then (n, NameKind.cell) else (n, k)) :: _) = _
    cases hx : x == n with
    | true =>
      simp only [List.lookup_cons, hx] at h
      cases h
      have hx' : x = n := by simpa using hx
      subst hx'
      rw [if_pos (by rw [hk, hc]; rfl)]
      simp [List.lookup_cons]
    | false =>
      simp only [List.lookup_cons, hx] at h
      by_cases hq : (k == NameKind.free && env.scope.kind == .function && env.kindOf n == some .cell) = true
      · rw [if_pos hq]; simp only [List.lookup_cons, hx]; exact ih h hc
      · rw [if_neg hq]; simp only [List.lookup_cons, hx]; exact ih h hc
theorem relabel_lookup_inv {env : Env} : ∀ {names : List (Str × NameKind)} {x : Str} {k' : NameKind},
    (names.map fun (n, k) => if (k == NameKind.free && env.scope.kind == .function && env.kindOf n == some .cell) then (n, NameKind.cell) else (n, k)).lookup x = some k' →
      names.lookup x = some k' ∨ (names.lookup x = some .free ∧ k' = .cell)
  | [], _, _, h => by simp at h
  | (n, k) :: r, x, k', h => by
    have ih := @relabel_lookup_inv env r x k'
    have h : List.lookup x ((if (k == NameKind.free && env.scope.kind == .function && env.kindOf n == some .cell) = true then (n, NameKind.cell) else (n, k)) :: _) = _ := h
    cases hx : x == n with
    | true =>
      by_cases hq : (k == NameKind.free && env.scope.kind == .function && env.kindOf n == some .cell) = true
      · rw [if_pos hq] at h
        have h1 := h
        simp only [List.lookup_cons, hx]
        have : k = .free := by
          have := (Bool.and_eq_true _ _ ▸ (Bool.and_eq_true _ _ ▸ hq).1).1
          simpa using this
        subst this
        refine .inr ⟨rfl, ?_⟩
        have h2 : List.lookup x ((n, NameKind.cell) :: (r.map fun (n, k) => if (k == NameKind.free && env.scope.kind == .function && env.kindOf n == some .cell) then (n, NameKind.cell) else (n, k))) = some k' := h1
        simp only [List.lookup_cons, hx] at h2
        exact (Option.some.inj h2).symm
      · rw [if_neg hq] at h
        simp only [List.lookup_cons, hx] at h ⊢
        exact .inl h
    | false =>
      have h' : List.lookup x (r.map fun (n, k) => if (k == NameKind.free && env.scope.kind == .function && env.kindOf n == some .cell) then (n, NameKind.cell) else (n, k)) = some k' := by
        by_cases hq : (k == NameKind.free && env.scope.kind == .function && env.kindOf n == some .cell) = true
        · rw [if_pos hq] at h
          simpa only [List.lookup_cons, hx] using h
        · rw [if_neg hq] at h
          simpa only [List.lookup_cons, hx] using h
      simp only [List.lookup_cons, hx]
      exact ih h'

/-- the block's context -/
def Cx.block (X : Cx) (scope : Scope) (N : List Str) (fp : List Addr) (s₀ : Shared) (H₀ : Hp) (C : Addr) : Cx where
  prog := X.prog
  w := X.w
  K := X.K
  mg := X.mg
  base := X.base
  A := X.A
  N := N
  s₀ := s₀
  H₀ := H₀
  env := compEnvC scope (closOf X.env scope.names []) C X.env
  outer := X.stack
  stack := X.stack
  ex := fp
  calm := X.calm
  fn := fun _ => false
  pn := []
  xe := fun _ _ => False

theorem join_some {o : Option (Option V)} {v : V} (h : o.join = some v) : o = some (some v) := by
  cases o with
  | none => cases h
  | some z => cases z with
    | none => cases h
    | some z => rw [show z = v from Option.some.inj h]

theorem Inv.enter {X : Cx} {scope : Scope} {N : List Str} {src : List (Option Nat)} {pins : List (Addr × Obj)} {σ : St} {H : Hp} {s s4 : Shared} {fp : List Addr} (S : CpScope X scope N src) (I : Inv X pins σ H s)
    (f2 : ∀ b ∈ fp, FpOk X pins H b) (lt : ∀ b ∈ fp, b < s.heap.objs.size) (hns : s4.heap.Ns s.heap.objs.size fun _ => none) (hk : ∀ b o, s.heap.get? b = some o → s4.heap.get? b = some o) (hos : s4.os = s.os) (hg : s4.gens = s.gens) :
    Inv (X.block scope N fp s H s.heap.objs.size) [] (cst src σ) H s4 := by
  have cells : ∀ x c, (closOf X.env scope.names []).lookup x = some c → X.env.cells.lookup x = some c := fun x c e => by
    rcases closOf_lookup _ _ _ e with ⟨⟨y, hy, e1, e2⟩, q⟩ | q
    · obtain ⟨c', hc'⟩ := I.ok.has y.1 (.inl (S.frees y hy e2).2)
      rw [e1] at hc'
      rw [hc'] at q ⊢
      exact congrArg some q
    · cases q
  refine ⟨⟨I.mod, S.kind, I.ok.glob, I.ok.blt, Nat.le_refl _, fun x y c h1 h2 => I.ok.inj x y c (cells x c h1) (cells y c h2), fun x hx => ?_, fun x c h => absurd (show false = true from h) Bool.false_ne_true, I.ok.hd, I.ok.frames, .inl rfl, fun b hb => ?_, I.bs,
      Nat.le_trans I.ok.bsz I.sz, fun b o e hb => ?_, fun b hb z => ?_, I.stack, I.stkFree⟩, hos, ?_, Un.kept hk, ⟨fun _ => none, hns, fun i x v h1 h2 h3 => ?_⟩, fun x c e => ?_, I.fresh, fun x c e => I.freeC x c (cells x c e), fun p hp => ?_, I.hok.kept hk, ?_⟩
  · have hx' : (scope.names.map fun (n, k) => if (k == NameKind.free && X.env.scope.kind == .function && X.env.kindOf n == some .cell) then (n, NameKind.cell) else (n, k)).lookup x = some .cell ∨ (scope.names.map fun (n, k) => if (k == NameKind.free && X.env.scope.kind == .function && X.env.kindOf n == some .cell) then (n, NameKind.cell) else (n, k)).lookup x = some .free := hx
    have hf : scope.names.lookup x = some .free := by
      rcases hx' with h | h
      · rcases relabel_lookup_inv h with h | h
        · exact absurd rfl (S.nocell _ (PySem.mem_of_lookup h))
        · exact h.1
      · rcases relabel_lookup_inv h with h | h
        · exact h
        · cases h.2
    have hsome := closOf_has (env := X.env) (x := x) scope.names [] (.inl ⟨_, PySem.mem_of_lookup hf, rfl, rfl⟩)
    exact Option.isSome_iff_exists.mp hsome
  · exact ⟨Nat.ne_of_lt (lt b hb), fun x c e => (f2 b hb).2.2.2.2.1 x c (cells x c e)⟩
  · have hb' : b ∈ fp := hb
    rcases (f2 b hb').2.2.2.1 with z | z
    · exact I.ok.noex b o e z
    · exact absurd (Nat.lt_of_lt_of_le (Heap.lt_size e) (Nat.le_trans I.ok.bsz z)) (Nat.lt_irrefl _)
  · have hb' : b ∈ fp := hb
    have z' : b ∈ frs X.stack := z
    rcases List.mem_cons.mp (I.stkSub b z') with e | e
    · exact (f2 b hb').2.1 e
    · exact (f2 b hb').2.2.1 e
  · rw [hg]; exact I.bare
  · have h2' : (src.map fun o => o.bind fun j => (σ[j]?).join)[i]? = some (some v) := h2
    rw [List.getElem?_map] at h2'
    cases e : src[i]? with
    | none => rw [e] at h2'; cases h2'
    | some o =>
      rw [e] at h2'
      cases o with
      | none => cases h2'
      | some j =>
        have h4 : (σ[j]?).join = some v := Option.some.inj h2'
        have h5 := join_some h4
        obtain ⟨c1, c2⟩ := S.cap i j e
        have h1' : N[i]? = some x := h1
        rw [h1'] at c1 c2
        have c2' : scope.names.lookup x = some .free := c2
        have c3 := (S.frees _ (PySem.mem_of_lookup c2') rfl).2
        obtain ⟨m, hn, hl⟩ := I.loc
        obtain ⟨u, r, l⟩ := hl j x v c1 h5 (.inr (.inl c3))
        refine ⟨u, r, ?_⟩
        have c3' : X.env.kindOf x = some .cell := c3
        rcases l with ⟨k, _⟩ | ⟨_, c, e1, z⟩
        · rw [c3'] at k; cases k
        · refine .inr ⟨.inl (lookup_relabel_free I.ok.kind c2' c3'), c, ?_, ?_⟩
          · have hs := closOf_has (env := X.env) (x := x) scope.names [] (.inl ⟨_, PySem.mem_of_lookup c2', rfl, rfl⟩)
            obtain ⟨c', hc'⟩ := Option.isSome_iff_exists.mp hs
            have := cells x c' hc'
            rw [e1] at this
            cases this
            exact hc'
          · obtain ⟨o, ho, hd⟩ := z
            exact ⟨o, hk c o ho, hd⟩
  · obtain ⟨v, o, ho, hd⟩ := I.cell x c (cells x c e)
    exact ⟨v, o, hk c o ho, hd⟩
  · exact absurd (show p ∈ ([] : List (Addr × Obj)) from hp) (by simp)
  · show (src.map _).length = N.length
    rw [List.length_map]
    exact S.len
/-- a block's tests -/
def PIf (X : Cx) (ifs : List Expr) (t : TT) : Prop :=
  ∀ (pins : List (Addr × Obj)) (s : Shared) (σ : St) (H : Hp) (Q : Bool → Hp → Prop), Inv X pins σ H s → t σ H Q →
    wpAny (model X.prog X.w) X.A (forIn ifs true fun c r => if r = true then do let ok ← isTrue c X.env (eval c X.env); pure (ForInStep.yield ok) else pure (ForInStep.yield r)) (TP X pins σ Q) X.xe s
def tTrue : TT := fun _ H Q => Q true H
theorem pif_nil {X : Cx} : PIf X [] tTrue := fun pins s σ H Q I h => wpAny_tests_nil ⟨H, I, h⟩
theorem pif_one {X : Cx} {c : Expr} {t : TT} (h : PT X c t) : PIf X [c] t := fun pins s σ H Q I hq => wpAny_tests_one (h pins s σ H Q I hq)

/-- what is wanted of a block that fills the list at l -/
def CWant (J : It) (src : List (Option Nat)) (g : TG) (tc : TT) (te : TE) (Q : VK) (σ : St) (H : Hp) (l : Addr) : Prop :=
  ∃ W : Nat → Nat → St → Hp → Prop, (∃ m, W 0 m (cst src σ) (upd H l (.lst []))) ∧ ∀ i m σ' H, W i m σ' H →
    (J.stop i H ∧ Q (.ref l) H) ∨ (J.go i H ∧ ∃ N : St → Hp → Prop, (∀ σ' H', N σ' H' → ∃ m', m' < m ∧ W (i + 1) m' σ' H') ∧ ∀ x H', J.yld i H x H' → g x σ' H' fun σ2 H2 => tc σ2 H2 fun b H3 =>
      if b = true then te σ2 H3 fun v H4 => ∃ xs, H4 l = some (.lst xs) ∧ xs.length < sizeLine ∧ N σ2 (upd H4 l (.lst (xs ++ [v]))) else N σ2 H3)
theorem comp_run {J : It} {src : List (Option Nat)} {g : TG} {tc : TT} {te : TE} {Q : VK} {σ : St} {H : Hp} {l : Addr} (n : Nat) (Iv : Nat → St → Hp → Prop) (h0 : Iv 0 (cst src σ) (upd H l (.lst [])))
    (hs : ∀ i σ' Hc, i < n → Iv i σ' Hc → J.go i Hc ∧ ∀ x H', J.yld i Hc x H' → g x σ' H' fun σ2 H2 => tc σ2 H2 fun b H3 =>
      if b = true then te σ2 H3 fun v H4 => ∃ xs, H4 l = some (.lst xs) ∧ xs.length < sizeLine ∧ Iv (i + 1) σ2 (upd H4 l (.lst (xs ++ [v]))) else Iv (i + 1) σ2 H3)
    (hd : ∀ σ' Hc, Iv n σ' Hc → J.stop n Hc ∧ Q (.ref l) Hc) : CWant J src g tc te Q σ H l := by
  refine ⟨fun i m σ' Hc => m = n - i ∧ i ≤ n ∧ Iv i σ' Hc, ⟨n, by simp, Nat.zero_le _, h0⟩, ?_⟩
  rintro i m σ' Hc ⟨rfl, hi, p⟩
  by_cases hlt : i < n
  · obtain ⟨go, step⟩ := hs i σ' Hc hlt p
    exact .inr ⟨go, Iv (i + 1), fun σ2 H2 p' => ⟨n - (i + 1), by omega, rfl, hlt, p'⟩, step⟩
  · have e : i = n := by omega
    subst e
    exact .inl (hd σ' Hc p)

theorem comp_core {X : Cx} {elt tg iter : Expr} {ifs : List Expr} {scope : Scope} {pos : Pos} {N : List Str} {src : List (Option Nat)} {g : TG} {tc : TT} {te : TE} {pins : List (Addr × Obj)} {σ : St} {H2 : Hp} {s2 : Shared}
    {fp : List Addr} {it : Addr} {tn : Nat → Heap → Prop} {J : It} {Q : VK} {E : Value → Shared → Prop} {RR : Value → Addr → Result → Shared → Prop} (S : CpScope X scope N src) (hc : X.calm = true)
    (hg : ∀ fp s₀ H₀ C, PG (X.block scope N fp s₀ H₀ C) tg g) (ht : ∀ fp s₀ H₀ C, PIf (X.block scope N fp s₀ H₀ C) ifs tc) (he : ∀ fp s₀ H₀ C, PE (X.block scope N fp s₀ H₀ C) elt te)
    (I2 : Inv X pins σ H2 s2) (T : Turn X.prog X.w X.K tg J fp it tn) (st2 : tn 0 s2.heap) (f2 : ∀ b ∈ fp, FpOk X pins H2 b) (hw : ∀ l, H2 l = none → CWant J src g tc te Q σ H2 l)
    (hRR : ∀ l C H' s', Inv X pins σ H' s' → (∃ m, s'.heap.Ns C m) → FpOk X pins H' C → Q (.ref l) H' → RR (.ref l) C (.ok .next) s') :
    wpAny (model X.prog X.w) X.A (newList []) (fun acc s₃ => wpAny (model X.prog X.w) X.A (newFunctionEnv scope X.env.globals (closOf X.env scope.names []) [] X.env.qual none .none (some X.env)) (fun cenv s₄ =>
      codeAny (model X.prog X.w) X.A (.compStart (.ListComp elt [⟨tg, iter, ifs, 0⟩] scope pos) 0 (.ref it) acc { cenv with scope := relabel scope X.env }) (RR acc cenv.locals) s₄) E s₃) E s2 := by
  have hl0 : H2 s2.heap.objs.size = none := I2.fresh
  have I3 : Inv X pins σ (upd H2 s2.heap.objs.size (.lst [])) { s2 with heap := s2.heap.push { cls := .type "list", data := .seq ([] : List Value).toArray } } := I2.lnew (ys := []) (its := []) (t' := s2.toks) .nil (Nat.zero_le _)
  have ltf : ∀ b ∈ fp, b < s2.heap.objs.size := fun b hb => by
    obtain ⟨o, e, _⟩ := T.obj _ _ st2 b hb
    exact Heap.lt_size e
  have f3 : ∀ b ∈ fp, FpOk X pins (upd H2 s2.heap.objs.size (.lst [])) b := fun b hb => ⟨by rw [upd_ne (Nat.ne_of_lt (ltf b hb))]; exact (f2 b hb).1, (f2 b hb).2⟩
  obtain ⟨W, ⟨m0, w0⟩, turn⟩ := hw _ hl0
  refine wpAny_newObj_type (wpAny_newFunctionEnv S.nocell (by intro y hy; simp at hy) (fun h₁ hns₁ hsb₁ => ?_) S.kind)
  dsimp only at hns₁ hsb₁ ⊢
  revert I3 f3
  intro I3 f3
  have st1 : tn 0 (s2.heap.push { cls := .type "list", data := .seq ([] : List Value).toArray }) := T.keep _ _ _ st2 fun b hb o e => Heap.get?_push_of_some _ e
  have lt3 : ∀ b ∈ fp, b < (s2.heap.push { cls := .type "list", data := .seq ([] : List Value).toArray }).objs.size := fun b hb => by rw [Heap.size_push]; exact Nat.lt_succ_of_lt (ltf b hb)
  generalize hH : s2.heap.push { cls := .type "list", data := .seq ([] : List Value).toArray } = h3 at I3 st1 lt3 hns₁ hsb₁ ⊢
  have hk : ∀ b o, h3.get? b = some o → h₁.get? b = some o := fun b o e => hsb₁.extBut b o (Nat.ne_of_lt (Heap.lt_size e)) (Heap.get?_push_of_some _ e)
  have Ib : Inv (X.block scope N fp { s2 with heap := h3 } (upd H2 s2.heap.objs.size (.lst [])) h3.objs.size) [] (cst src σ) (upd H2 s2.heap.objs.size (.lst [])) { s2 with heap := h₁, toks := s2.toks + ([] : List (Str × Value)).length } :=
    Inv.enter (s := { s2 with heap := h3 }) S I3 f3 lt3 hns₁ hk rfl rfl
  have fpB : ∀ {H' : Hp}, (∀ b ∈ fp, H' b = none) → ∀ b ∈ fp, FpOk (X.block scope N fp { s2 with heap := h3 } (upd H2 s2.heap.objs.size (.lst [])) h3.objs.size) [] H' b := fun hn b hb =>
    ⟨hn b hb, (Ib.ok.exf b hb).1, Ib.ok.exfs b hb, .inl hb, (Ib.ok.exf b hb).2, fun p hp => absurd (show p ∈ ([] : List (Addr × Obj)) from hp) (by simp)⟩
  have tn1 : tn 0 h₁ := T.keep _ _ _ st1 fun b _ o e => hk b o e
  have loop : ∀ s₃ : Shared, s₃ = { s2 with heap := h₁, toks := s2.toks + ([] : List (Str × Value)).length } →
      codeAny (model X.prog X.w) X.A (.compLoop (.ListComp elt [⟨tg, iter, ifs, 0⟩] scope pos) 0 (.ref it) (.ref s2.heap.objs.size) (compEnvC scope (closOf X.env scope.names []) h3.objs.size X.env))
        (RR (.ref s2.heap.objs.size) h3.objs.size) s₃ := by
    rintro s₃ rfl
    refine codeAny_loop rfl (fun n s' => ∃ i σ' H', Inv (X.block scope N fp { s2 with heap := h3 } (upd H2 s2.heap.objs.size (.lst [])) h3.objs.size) [] σ' H' s' ∧ tn i s'.heap ∧ (∀ b ∈ fp, H' b = none) ∧ W i n σ' H') ?_ m0
      ⟨0, _, _, Ib, tn1, fun b hb => (f3 b hb).1, w0⟩
    rintro n s5 ⟨i, σ5, H5, I5, st5, fr5, w5⟩
    show wpAny _ X.A ((compTurn (.ListComp elt [⟨tg, iter, ifs, 0⟩] scope pos) 0 (.ref it) (.ref s2.heap.objs.size) (compEnvC scope (closOf X.env scope.names []) h3.objs.size X.env)).onRaise (fun x => do noteFrame x (compEnvC scope (closOf X.env scope.names []) h3.objs.size X.env); theTreesLotGoes x)) _ _ s5
    refine wpAny_noted ?_
    rw [compTurn_list]
    refine wpAny_bind (wpAny_standAt (wpAny_bind ?_))
    rcases turn i n σ5 H5 w5 with ⟨stop, qn⟩ | ⟨go, N', hN', step⟩
    · refine thn (T.done (X.block scope N fp { s2 with heap := h3 } (upd H2 s2.heap.objs.size (.lst [])) h3.objs.size) rfl rfl rfl hc i [] s5 σ5 H5 _ I5 (fpB fr5) st5 stop) fun r s6 ⟨hr, I6⟩ => ?_
      subst hr
      refine wpAny_pure ?_
      have u6 : Un (frs X.stack) fp (upd H2 s2.heap.objs.size (.lst [])) H5 h3 s6.heap := I6.base
      have hf6 : H5 h3.objs.size = none := I6.free
      have I7 : Inv X pins σ H5 s6 := I3.call' (ch := fp) I6.os u6 I6.hok I6.bare fun b hb => ⟨(f3 b hb).2.2.2.1, (f3 b hb).2.1, (f3 b hb).2.2.2.2.1, (f3 b hb).2.2.2.2.2⟩
      obtain ⟨m, hm, _⟩ := I6.loc
      exact hRR _ _ H5 s6 I7 ⟨m, hm⟩ (I3.fpOk (Nat.le_refl _) hf6) qn
    · refine thn (T.item (X.block scope N fp { s2 with heap := h3 } (upd H2 s2.heap.objs.size (.lst [])) h3.objs.size) rfl rfl rfl hc i [] s5 σ5 H5 _ I5 (fpB fr5) st5 go) fun r s6 ⟨u, hr, h6⟩ => ?_
      subst hr
      refine wpAny_bind (thn h6 fun _ s7 ⟨x, H7, I7, r7, y7, st7, fr7⟩ => ?_)
      have I7' := I7.pinned (fpB fr7) (T.obj _ _ st7)
      have fin : ∀ {σ9 : St} {H9 : Hp} {s9 : Shared}, Inv (X.block scope N fp { s2 with heap := h3 } (upd H2 s2.heap.objs.size (.lst [])) h3.objs.size) ([] ++ pinsAt fp s7.heap) σ9 H9 s9 → N' σ9 H9 →
          ∃ m, m < n ∧ ∃ i σ' H', Inv (X.block scope N fp { s2 with heap := h3 } (upd H2 s2.heap.objs.size (.lst [])) h3.objs.size) [] σ' H' s9 ∧ tn i s9.heap ∧ (∀ b ∈ fp, H' b = none) ∧ W i m σ' H' := fun {σ9 H9 s9} I9 n9 => by
        obtain ⟨m', hm, w9⟩ := hN' σ9 H9 n9
        refine ⟨m', hm, i + 1, σ9, H9, I9.unpinned, T.keep _ _ _ st7 fun b hb o e => (I9.pin (b, o) (List.mem_append_right _ (List.mem_append_right _ (mem_pinsAt hb e)))).1, fun b hb => ?_, w9⟩
        obtain ⟨o, e, d⟩ := T.obj _ _ st7 b hb
        exact (I9.pin (b, o) (List.mem_append_right _ (List.mem_append_right _ (mem_pinsAt hb e)))).2.1
      refine wpAny_bind (wpAny_mono (hg fp _ _ _ _ s7 σ5 H7 x u _ I7' r7 (step x H7 y7)) (fun _ s8 ⟨σ8, H8, I8, q8⟩ => ?_) fun _ _ z => False.elim z)
      refine wpAny_bind (wpAny_mono (ht fp _ _ _ _ s8 σ8 H8 _ I8 q8) (fun ok s9 ⟨H9, I9, q9⟩ => ?_) fun _ _ z => False.elim z)
      cases ok with
      | false => exact wpAny_pure ⟨rfl, fin I9 q9⟩
      | true =>
        refine wpAny_bind (wpAny_bind (wpAny_mono (he fp _ _ _ _ s9 σ8 H9 _ I9 q9) (fun v s10 ⟨y, H10, I10, r10, xs, hx, hz, q10⟩ => ?_) fun _ _ z => False.elim z))
        refine wpAny_bind (wpAny_mono (mt_append (X := X.block scope N fp { s2 with heap := h3 } (upd H2 s2.heap.objs.size (.lst [])) h3.objs.size) _ s10 σ8 H10 (.ref s2.heap.objs.size) [y] _ [v] (fun _ H11 => N' σ8 H11) I10 rfl (.cons r10 .nil) ⟨_, xs, y, rfl, rfl, hx, hz, q10⟩)
          (fun _ s11 ⟨_, H11, I11, _, q11⟩ => wpAny_pure (wpAny_pure ⟨rfl, fin I11 q11⟩)) fun _ _ z => False.elim z)
  exact codeAny_compStart_list (loop _ rfl) (T.self _ 0 _ _ _ tn1 (loop _ rfl))

/-- [elt for tg in iter if ..] -/
def tComp (src : List (Option Nat)) (wi : TI) (g : TG) (tc : TT) (te : TE) : TE := fun σ H Q => wi σ H fun J H1 => ∀ l, H1 l = none → CWant J src g tc te Q σ H1 l
theorem pe_comp {X : Cx} {elt tg iter : Expr} {ifs : List Expr} {scope : Scope} {pos : Pos} {N : List Str} {src : List (Option Nat)} {wi : TI} {g : TG} {tc : TT} {te : TE} (S : CpScope X scope N src) (hc : X.calm = true)
    (hi : PI X tg iter wi) (hg : ∀ fp s₀ H₀ C, PG (X.block scope N fp s₀ H₀ C) tg g) (ht : ∀ fp s₀ H₀ C, PIf (X.block scope N fp s₀ H₀ C) ifs tc) (he : ∀ fp s₀ H₀ C, PE (X.block scope N fp s₀ H₀ C) elt te)
    (hs : ∀ x, foldedSetIterable iter X.env x = pure x := by intro _; rfl) : PE X (.ListComp elt [⟨tg, iter, ifs, 0⟩] scope pos) (tComp src wi g tc te) := by
  intro pins s σ H Q I h
  rw [eval_ListComp]
  refine wpAny_comprehension_free (use := none) rfl hs (closureFor_closOf fun y hy e => I.ok.has y.1 (.inl (S.frees y hy e).2)) S.kind S.locs ?_
  refine thn (hi pins s σ H _ I h) fun v s1 h1 => thn h1 fun itv s2 h2 => ?_
  obtain ⟨it, fp, tn, J, H2, e, I2, T, st2, f2, hw⟩ := h2
  subst e
  refine comp_core (RR := fun acc C => compPost (model X.prog X.w) X.A X.xe none (EP X pins σ Q) acc C) S hc hg ht he I2 T st2 f2 hw ?_
  intro l C H' s' I' hm fC q
  obtain ⟨m, hm⟩ := hm
  refine ⟨m, hm, fun h' hs' => ?_⟩
  exact ⟨.ref l, H', I'.turned (t' := s'.toks) (fun b o hb e => hs'.extBut b o hb e) fC.1 fC.2.1 fC.2.2.2.1 fC.2.2.2.2.1 fC.2.2.2.2.2, rfl, q⟩
/-- x = [elt for tg in iter if ..] -/
theorem ps_setc {X : Cx} {i : Nat} {x : Str} {pos' spos : Pos} {elt tg iter : Expr} {ifs : List Expr} {scope : Scope} {pos : Pos} {N : List Str} {src : List (Option Nat)} {wi : TI} {g : TG} {tc : TT} {te : TE} (hN : X.N.Nodup) (hix : X.N[i]? = some x) (hx : Loc X.env.scope x)
    (S : CpScope X scope N src) (hc : X.calm = true)
    (hi : PI X tg iter wi) (hg : ∀ fp s₀ H₀ C, PG (X.block scope N fp s₀ H₀ C) tg g) (ht : ∀ fp s₀ H₀ C, PIf (X.block scope N fp s₀ H₀ C) ifs tc) (he : ∀ fp s₀ H₀ C, PE (X.block scope N fp s₀ H₀ C) elt te)
    (hsw : swapsWith (.ListComp elt [⟨tg, iter, ifs, 0⟩] scope pos) (some (.Name x pos')) spos.line X.env = pure true := by rfl)
    (hs : ∀ x, foldedSetIterable iter X.env x = pure x := by intro _; rfl) (hf : X.fn x = true ∨ X.env.scope.names.lookup x = some .local := by first | exact .inl rfl | exact .inr rfl | assumption) :
    PS X (.Assign [.Name x pos'] (.ListComp elt [⟨tg, iter, ifs, 0⟩] scope pos) spos) (tAsg (tComp src wi g tc te) (gName i)) := by
  intro pins s σ H D I h
  rw [exec_Assign_Name_used _ _ _ _ hsw]
  refine wpAny_bind (wpAny_standAt (wpAny_bind ?_))
  show wpAny _ X.A (do let _ ← comprehension (.ListComp elt [⟨tg, iter, ifs, 0⟩] scope pos) scope X.env _ (newList []) false (eval iter X.env) (some (assign (.Name x pos') X.env))) _ _ s
  refine wpAny_bind (wpAny_mono (wpAny_comprehension_free (use := some (assign (.Name x pos') X.env)) (Q := fun _ s' => SP X pins D .next s') rfl hs (closureFor_closOf fun y hy e => I.ok.has y.1 (.inl (S.frees y hy e).2)) S.kind S.locs
    (thn (hi pins s σ H _ I h) fun v s1 h1 => thn h1 fun itv s2 h2 => ?_)) (fun _ s' hq => wpAny_pure (wpAny_pure hq)) fun _ _ e => e)
  obtain ⟨it, fp, tn, J, H2, e, I2, T, st2, f2, hw⟩ := h2
  subst e
  refine comp_core (Q := fun v H' => D.nx (σ.set i (some v)) H') (RR := fun acc C => compPost (model X.prog X.w) X.A X.xe (some (assign (.Name x pos') X.env)) (fun _ s' => SP X pins D .next s') acc C) S hc hg ht he I2 T st2 f2 hw ?_
  intro l C H' s' I' hm fC q
  obtain ⟨m, hm⟩ := hm
  show wpAny _ X.A (assign (.Name x pos') X.env (.ref l)) _ _ _
  refine wpAny_assign_Name (store_ok2 I' hN hix hx (v := .ref l) rfl (fun s'' I'' ⟨a, sb, ha⟩ => ?_) hf)
  have hCa : C ≠ a := by
    rcases ha with rfl | ha
    · exact fC.2.1
    · exact fun z => fC.2.2.2.2.1 x a ha z.symm
  refine ⟨m, hm.sameBut sb hCa, fun h' hs' => ?_⟩
  exact ⟨_, H', I''.turned (t' := s''.toks) (fun b o hb e => hs'.extBut b o hb e) fC.1 fC.2.1 fC.2.2.2.1 fC.2.2.2.2.1 fC.2.2.2.2.2, q⟩
end L2

set_option Elab.async false
set_option linter.all false
set_option maxRecDepth 100000
set_option maxHeartbeats 1000000
namespace L2
open PySem PySem.Spec PyProof.Rows

/-! ### what enumerate and zip hand out -/
theorem Inv.turnedNew {X : Cx} {pins : List (Addr × Obj)} {σ : St} {H : Hp} {s : Shared} {h' : Heap} {ch : List Addr} {t : Addr} {o : HO} {t' : Nat} (I : Inv X pins σ H s) (hsz : s.heap.objs.size ≤ t)
    (k : ∀ b ob, b ∉ ch → s.heap.get? b = some ob → h'.get? b = some ob) (hch : ∀ b ∈ ch, FpOk X pins H b) (new : ObjOk X.prog X.w (upd H t o) h' t o) :
    Inv X pins σ (upd H t o) { s with heap := h', toks := t' } := by
  have hn : H t = none := I.hok.fresh hsz
  have nt : ∀ {b ob}, s.heap.get? b = some ob → b ≠ t := fun q => Nat.ne_of_lt (Nat.lt_of_lt_of_le (Heap.lt_size q) hsz)
  have u : Un (frs X.stack) ch H (upd H t o) s.heap h' :=
    ⟨fun b ob q _ _ hx => k b ob hx q, fun b ob q _ _ hx => ⟨ob.slots, k b ob hx q⟩, fun b ob q n _ => by rw [upd_ne (nt q)]; exact n, fun b ob q hx => ⟨ob, k b ob hx q⟩,
      fun b xs q => by rw [upd_ne (ne_of_none q hn)]; exact q, fun b ob xs q => by rw [upd_ne (ne_of_none q hn)]; exact q, fun b ps q => ⟨#[], by rw [upd_ne (ne_of_none q hn), q]; simp⟩⟩
  refine I.call (g' := s.gens) (t' := t') (d' := s.drawn) u (fun b ob e => ?_) I.bare fun b hb => ⟨(hch b hb).2.2.2.1, (hch b hb).2.1, (hch b hb).2.2.2.2.1, (hch b hb).2.2.2.2.2⟩
  by_cases hb : b = t
  · subst hb; rw [upd_same] at e; cases e; exact new
  · rw [upd_ne hb] at e
    have ntr : ∀ {c u}, H c = some u → c ∉ ch := fun q z => by rw [(hch _ z).1] at q; cases q
    refine (I.hok b ob e).stay (fun c v hc q => k c v ?_ q) (fun c q => by rw [upd_ne (ne_of_none q hn)]; exact q) fun c xs q => by rw [upd_ne (ne_of_none q hn)]; exact q
    rcases hc with z | z
    · rw [z]; exact ntr e
    · exact ntr z
/-- nothing new, several turned -/
theorem Inv.turnedAll {X : Cx} {pins : List (Addr × Obj)} {σ : St} {H : Hp} {s : Shared} {h' : Heap} {ch : List Addr} {t' : Nat} (I : Inv X pins σ H s)
    (k : ∀ b ob, b ∉ ch → s.heap.get? b = some ob → h'.get? b = some ob) (hch : ∀ b ∈ ch, FpOk X pins H b) : Inv X pins σ H { s with heap := h', toks := t' } := by
  have u : Un (frs X.stack) ch H H s.heap h' :=
    ⟨fun b ob q _ _ hx => k b ob hx q, fun b ob q _ _ hx => ⟨ob.slots, k b ob hx q⟩, fun b ob q n _ => n, fun b ob q hx => ⟨ob, k b ob hx q⟩, fun b xs q => q, fun b ob xs q => q, fun b ps q => ⟨#[], by rw [q]; simp⟩⟩
  refine I.call (g' := s.gens) (t' := t') (d' := s.drawn) u (fun b ob e => ?_) I.bare fun b hb => ⟨(hch b hb).2.2.2.1, (hch b hb).2.1, (hch b hb).2.2.2.2.1, (hch b hb).2.2.2.2.2⟩
  have ntr : ∀ {c u}, H c = some u → c ∉ ch := fun q z => by rw [(hch _ z).1] at q; cases q
  refine (I.hok b ob e).stay (fun c v hc q => k c v ?_ q) (fun c q => q) fun c xs q => q
  rcases hc with z | z
  · rw [z]; exact ntr e
  · exact ntr z

/-- enumerate of the list at a -/
def Ite (K : PySem.W.Frag) (a : Addr) : It :=
  ⟨fun i H => ∃ xs x, SqL K H a xs ∧ xs[i]? = some x, fun i H x H' => ∃ t y, H t = none ∧ x = .ref t ∧ H' = upd H t (.tup [.int i, y]) ∧ ∀ xs, SqL K H a xs → xs[i]? = some y, fun i H => ∃ xs, SqL K H a xs ∧ xs.length ≤ i⟩
theorem turn_enum {P : Program} {w : World} {K : PySem.W.Frag} {elts : List Expr} {x1 : Nat} {pos : Pos} (a e it : Addr) (hne : e ≠ it) :
    Turn P w K (.Tuple elts x1 pos) (Ite K a) [e, it] e (fun i h => (∃ old, IsEnum h e it i old) ∧ h.IsListIter it a i) where
  mem := by simp
  obj := fun i h st b hb => by
    obtain ⟨⟨old, he⟩, hit⟩ := st
    have q : b = e ∨ b = it := by simpa using hb
    rcases q with rfl | rfl
    · exact ⟨_, he, fun v z => by
        have z' : Data.fields _ = Data.cell v := z
        cases z'⟩
    · obtain ⟨o, e1, c, d⟩ := hit
      exact ⟨o, e1, fun v z => by rw [d] at z; cases z⟩
  keep := fun i h h' st k => by
    obtain ⟨⟨old, he⟩, hit⟩ := st
    exact ⟨⟨old, k e (by simp) _ he⟩, hit.at fun o z => k it (by simp) o z⟩
  item := by
    intro X hP hw hK hc i pins s σ H E I hf st hg
    subst hP hw hK
    obtain ⟨⟨old, he⟩, hit⟩ := st
    obtain ⟨xs, x, hq, hx⟩ := hg
    obtain ⟨its, rv, p, hz⟩ := I.list hq
    obtain ⟨u, hu, ru⟩ := rv.get hx
    have elt : e < s.heap.objs.size := Heap.lt_size he
    have ilt : it < s.heap.objs.size := by obtain ⟨_, z, _⟩ := hit; exact Heap.lt_size z
    refine wpAny_pyNext_enum_item he hit p.isList (x := u) (by simpa using hu) hne fun h1 ho hit1 hT hsz1 hk1 => ?_
    refine ⟨_, rfl, wpAny_letOwnedTupleGo_enum ho fun h2 he2 hs2 => ?_⟩
    replace hs2 : Heap.SameBut e h1 h2 := hs2
    have kk : ∀ b ob, b ∉ [e, it] → s.heap.get? b = some ob → h2.get? b = some ob := fun b ob hb q => by
      have hb' : b ≠ e ∧ b ≠ it := by simpa using hb
      exact hs2.extBut b ob hb'.1 (hk1 b ob hb'.1 hb'.2 q)
    have hT2 : h2.get? s.heap.objs.size = some { cls := .type "tuple", data := .seq #[.int i s.toks, u] } := (hs2.2 _ (Nat.ne_of_gt elt)).trans hT
    refine ⟨.ref s.heap.objs.size, upd H s.heap.objs.size (.tup [.int i, x]), I.turnedNew (ch := [e, it]) (Nat.le_refl _) kk hf ?_, rfl, ⟨_, x, I.fresh, rfl, rfl, fun ys hy => by rw [I.list_inj hy hq]; exact hx⟩, ⟨⟨u, by simpa using he2⟩, hit1.at fun o z => (hs2.2 it hne.symm).trans z⟩, fun b hb => ?_⟩
    · exact ⟨by show 2 ≤ sizeLine; decide, [.int i s.toks, u], .cons ⟨_, rfl⟩ (.cons ru .nil), ⟨_, hT2, rfl, _, rfl⟩⟩
    · have hb' : b = e ∨ b = it := by simpa using hb
      have : b ≠ s.heap.objs.size := by
        rcases hb' with rfl | rfl
        · exact Nat.ne_of_lt elt
        · exact Nat.ne_of_lt ilt
      rw [upd_ne this]
      exact (hf b hb).1
  done := by
    intro X hP hw hK hc i pins s σ H E I hf st hg
    subst hP hw hK
    obtain ⟨⟨old, he⟩, hit⟩ := st
    obtain ⟨xs, hq, hx⟩ := hg
    obtain ⟨its, rv, p, hz⟩ := I.list hq
    have hl := rv.length
    refine wpAny_pyNext_enum_end (I.ok.hd hc) he hit p.isList (by simp; omega) fun h' eb => ⟨rfl, I.turnedAll (ch := [e, it]) (t' := s.toks) (fun b o hb q => eb b o (fun z => hb (by simp [z])) q) hf⟩
  self := fun _ _ _ _ _ st h => by
    obtain ⟨⟨old, he⟩, _⟩ := st
    exact wpAny_pyIter_enum he h
def iEnum (K : PySem.W.Frag) (ta : TA) : TI := fun σ H R => ta σ H fun vs H1 => ∃ a, vs = [.ref a] ∧ (∃ xs, SqL K H1 a xs) ∧ R (Ite K a) H1
theorem pi_enum {X : Cx} {elts : List Expr} {x1 : Nat} {tpos : Pos} {a : Expr} {ta : TA} {p pos : Pos} (hg : Gl X "enumerate") (hm : X.mg "enumerate" = none) (ha : PA X [a] ta) (hs : starEach [a] X.env = [(false, eval a X.env)] := by rfl) :
    PI X (.Tuple elts x1 tpos) (.Call (.Name "enumerate" p) [a] [] pos) (iEnum X.K ta) := by
  intro pins s σ H R I h
  refine Call_ (ld_blt I hg hm boot_enumerate (PyProof.Rows.callWith_type1 (thn (ha pos pins s σ H _ I h) fun us s1 ⟨vs, H1, I1, r1, q1⟩ => ?_) hs rfl))
  obtain ⟨a, e, ⟨xs, hq⟩, q⟩ := q1
  subst e
  cases r1 with
  | cons r rr =>
    cases rr
    cases r
    obtain ⟨its, rv, pl, hz⟩ := I1.list hq
    refine call_enumerate_list pl.isList fun h' he hit hsz hk => ?_
    refine wpAny_pyIter_enum he ?_
    have I2 : Inv X pins σ H1 { s1 with heap := h' } := I1.kept (t' := s1.toks) fun b o q => hk b o q
    refine ⟨_, [s1.heap.objs.size + 1, s1.heap.objs.size], _, _, H1, rfl, I2, turn_enum a _ _ (Nat.succ_ne_self _), ⟨⟨_, he⟩, hit⟩, fun b hb => ?_, q⟩
    have hb' : b = s1.heap.objs.size + 1 ∨ b = s1.heap.objs.size := by simpa using hb
    rcases hb' with rfl | rfl
    · exact I1.fpOk (Nat.le_succ _) (I1.hok.fresh (Nat.le_succ _))
    · exact I1.fpOk (Nat.le_refl _) (I1.hok.fresh (Nat.le_refl _))
end L2

set_option Elab.async false
set_option linter.all false
set_option maxRecDepth 100000
set_option maxHeartbeats 1000000
namespace L2
open PySem PySem.Spec PyProof.Rows

/-! ### zip of two lists, of two tuples -/
section
variable {prog : Program} {w : World} {A : Around} {E : Value → Shared → Prop} {s : Shared}
theorem nextOf_tup {j t : Addr} {k : Nat} {ar : Array Value} {x : Value} {Q : Value → Shared → Prop} (hj : s.heap.IsTupleIter j t k) (ht : s.heap.IsTuple t ar) (hx : ar[k]? = some x)
    (hQ : ∀ h', h'.IsTupleIter j t (k + 1) → Heap.SameBut j s.heap h' → Q x { s with heap := h' }) : wpAny (model prog w) A (Builtin.SmallTypes.nextOf (.ref j)) Q E s := by
  obtain ⟨ob, e0, hcl, hdt⟩ := id hj
  obtain ⟨ot, e1, _, nt, hdl⟩ := ht
  unfold Builtin.SmallTypes.nextOf
  refine wpAny_bind (wpAny_callSpecial?_slot (name := Str.ofString "__next__") hj.typeIs F.slot_tuple_iterator_next (wpAny_call_entry F.slot_tuple_iterator_next hj.typeIs F.entry_tuple_iterator_next ?_ (F.args_tuple_iterator_next_1 _)))
  show wpAny _ _ (field (.ref j) 0 >>= _) _ _ s
  refine wpAny_bind (wpAny_field e0 hdt (x := .ref t) rfl ?_)
  show wpAny _ _ (if (Value.ref t == Value.none) = true then _ else _) _ _ s
  rw [if_neg (show ¬ ((Value.ref t == Value.none) = true) from Bool.false_ne_true)]
  show wpAny _ _ (field (.ref j) 1 >>= _) _ _ s
  refine wpAny_bind (wpAny_field e0 hdt (x := .int k 0) rfl ?_)
  show wpAny _ _ (seqItems? (.ref t) >>= _) _ _ s
  refine wpAny_bind (wpAny_seqItems e1 hdl ?_)
  simp only [Int.toNat_natCast, hx]
  refine wpAny_bind (wpAny_setField e0 hdt (by simp) (wpAny_pure ⟨x, rfl, wpAny_pure (hQ _ ?_ (Heap.SameBut.update ..))⟩))
  exact ⟨_, Heap.get?_update_self _ e0 (Obj.isFreed_of_fields (Obj.data_mapFields hdt _)), (Obj.cls_mapFields ..).trans hcl, by rw [Obj.data_mapFields hdt]; simp [rawInt]⟩
theorem nextOf_tup_end {j t : Addr} {k : Nat} {ar : Array Value} {Q : Value → Shared → Prop} (hh : A.handled = none) (hj : s.heap.IsTupleIter j t k) (ht : s.heap.IsTuple t ar) (hx : ar[k]? = none)
    (hE : ∀ h' e, Heap.ExtBut j s.heap h' → (∃ o, h'.get? e = some o ∧ o.cls = .type "StopIteration") → E (.ref e) { s with heap := h' }) : wpAny (model prog w) A (Builtin.SmallTypes.nextOf (.ref j)) Q E s := by
  obtain ⟨ob, e0, hcl, hdt⟩ := id hj
  obtain ⟨ot, e1, _, nt, hdl⟩ := ht
  unfold Builtin.SmallTypes.nextOf
  refine wpAny_bind (wpAny_callSpecial?_slot (name := Str.ofString "__next__") hj.typeIs F.slot_tuple_iterator_next (wpAny_call_entry F.slot_tuple_iterator_next hj.typeIs F.entry_tuple_iterator_next ?_ (F.args_tuple_iterator_next_1 _)))
  show wpAny _ _ (field (.ref j) 0 >>= _) _ _ s
  refine wpAny_bind (wpAny_field e0 hdt (x := .ref t) rfl ?_)
  show wpAny _ _ (if (Value.ref t == Value.none) = true then _ else _) _ _ s
  rw [if_neg (show ¬ ((Value.ref t == Value.none) = true) from Bool.false_ne_true)]
  show wpAny _ _ (field (.ref j) 1 >>= _) _ _ s
  refine wpAny_bind (wpAny_field e0 hdt (x := .int k 0) rfl ?_)
  show wpAny _ _ (seqItems? (.ref t) >>= _) _ _ s
  refine wpAny_bind (wpAny_seqItems e1 hdl ?_)
  simp only [Int.toNat_natCast, hx]
  refine wpAny_bind (wpAny_rule (wpAny_bind (wpAny_setField e0 hdt (by simp) ?_)))
  show wpAny _ _ (newExc (.type "StopIteration") [] >>= _) _ _ _
  refine wpAny_bind ?_
  simp only [newExc, newTuple]
  refine wpAny_bind (wpAny_newObj_type ?_ (by size_fits))
  refine wpAny_bind (m := firstArgMember _ _) (wpAny_of_eq (a := Value.none) (by first | rfl | (simp only [firstArgMember]; rfl)) ?_)
  refine wpAny_newObj_type ?_ (by size_fits)
  simp only [raiseNew]
  refine wpAny_bind (wpAny_handled ?_)
  first | rw [show A.in1.handled = none from hh] | rw [hh]
  refine wpAny_bind (wpAny_pure (wpAny_throw ?_))
  exact hE _ _ (((Heap.SameBut.update ..).extBut.push _).push _) ⟨_, Heap.get?_push_size _ rfl, rfl⟩

/-- a list or a tuple, and an iterator over it -/
def IsSq (b : Bool) (h : Heap) (l : Addr) (ar : Array Value) : Prop := if b = true then h.IsList l ar else h.IsTuple l ar
def IsSqIt (b : Bool) (h : Heap) (j l : Addr) (k : Nat) : Prop := if b = true then h.IsListIter j l k else h.IsTupleIter j l k
theorem IsSq.at' {b : Bool} {h h' : Heap} {l : Addr} {ar : Array Value} (x : IsSq b h l ar) (k : ∀ o, h.get? l = some o → h'.get? l = some o) : IsSq b h' l ar := by
  cases b with
  | true => obtain ⟨o, e, r⟩ := (show h.IsList l ar from x); exact (show h'.IsList l ar from ⟨o, k o e, r⟩)
  | false => obtain ⟨o, e, r⟩ := (show h.IsTuple l ar from x); exact (show h'.IsTuple l ar from ⟨o, k o e, r⟩)
theorem IsSqIt.at' {b : Bool} {h h' : Heap} {j l : Addr} {i : Nat} (x : IsSqIt b h j l i) (k : ∀ o, h.get? j = some o → h'.get? j = some o) : IsSqIt b h' j l i := by
  cases b with
  | true => obtain ⟨o, e, r⟩ := (show h.IsListIter j l i from x); exact (show h'.IsListIter j l i from ⟨o, k o e, r⟩)
  | false => obtain ⟨o, e, r⟩ := (show h.IsTupleIter j l i from x); exact (show h'.IsTupleIter j l i from ⟨o, k o e, r⟩)
theorem IsSqIt.obj {b : Bool} {h : Heap} {j l : Addr} {i : Nat} (x : IsSqIt b h j l i) : ∃ o, h.get? j = some o ∧ ∀ v, o.data ≠ .cell v := by
  cases b with
  | true => obtain ⟨o, e, _, d⟩ := (show h.IsListIter j l i from x); exact ⟨o, e, fun v z => by rw [d] at z; cases z⟩
  | false => obtain ⟨o, e, _, d⟩ := (show h.IsTupleIter j l i from x); exact ⟨o, e, fun v z => by rw [d] at z; cases z⟩
theorem nextOf_sq {b : Bool} {j l : Addr} {k : Nat} {ar : Array Value} {x : Value} {Q : Value → Shared → Prop} (hj : IsSqIt b s.heap j l k) (hl : IsSq b s.heap l ar) (hx : ar[k]? = some x)
    (hQ : ∀ h', IsSqIt b h' j l (k + 1) → Heap.SameBut j s.heap h' → Q x { s with heap := h' }) : wpAny (model prog w) A (Builtin.SmallTypes.nextOf (.ref j)) Q E s := by
  cases b with
  | true => exact wpAny_nextOf_list_item (show s.heap.IsListIter j l k from hj) (show s.heap.IsList l ar from hl) hx fun h' a b => hQ h' a b
  | false => exact nextOf_tup (show s.heap.IsTupleIter j l k from hj) (show s.heap.IsTuple l ar from hl) hx fun h' a b => hQ h' a b
theorem nextOf_sq_end {b : Bool} {j l : Addr} {k : Nat} {ar : Array Value} {Q : Value → Shared → Prop} (hh : A.handled = none) (hj : IsSqIt b s.heap j l k) (hl : IsSq b s.heap l ar) (hx : ar[k]? = none)
    (hE : ∀ h' e, Heap.ExtBut j s.heap h' → (∃ o, h'.get? e = some o ∧ o.cls = .type "StopIteration") → E (.ref e) { s with heap := h' }) : wpAny (model prog w) A (Builtin.SmallTypes.nextOf (.ref j)) Q E s := by
  cases b with
  | true => exact wpAny_nextOf_list_end hh (show s.heap.IsListIter j l k from hj) (show s.heap.IsList l ar from hl) hx hE
  | false => exact nextOf_tup_end hh (show s.heap.IsTupleIter j l k from hj) (show s.heap.IsTuple l ar from hl) hx hE

theorem zipNext_item {b : Bool} {z TI TO i1 i2 l1 l2 : Addr} {k1 k2 : Nat} {xs ys : Array Value} {x y v0 v1 : Value} {Q : Value → Shared → Prop} (D : ZipApart z TI TO i1 i2 l1 l2)
    (hz : IsZip s.heap z TI TO .none) (hTI : IsPair s.heap TI (.ref i1) (.ref i2)) (hTO : IsPair s.heap TO v0 v1)
    (h1 : IsSqIt b s.heap i1 l1 k1) (h2 : IsSqIt b s.heap i2 l2 k2) (hl1 : IsSq b s.heap l1 xs) (hl2 : IsSq b s.heap l2 ys) (hx : xs[k1]? = some x) (hy : ys[k2]? = some y)
    (hQ : ∀ h', IsZip h' z TI TO (rawInt s.heap.objs.size) → IsPair h' TO x y → IsSqIt b h' i1 l1 (k1 + 1) → IsSqIt b h' i2 l2 (k2 + 1) → IsPair h' s.heap.objs.size x y →
      (∀ c o, c ≠ z → c ≠ TO → c ≠ i1 → c ≠ i2 → s.heap.get? c = some o → h'.get? c = some o) → Q (.ref s.heap.objs.size) { s with heap := h' }) :
    wpAny (model prog w) A (Builtin.«zip.__next__» ⟨[.ref z], []⟩) (fun fin s' => ∃ v, fin = .done (.ret v) ∧ Q v s') E s := by
  show wpAny _ _ (field (.ref z) 2 >>= _) _ _ _
  refine wpAny_bind (wpAny_field hz rfl (x := .bool false) rfl ?_)
  show wpAny _ _ (field (.ref z) 3 >>= _) _ _ _
  refine wpAny_bind (wpAny_field hz rfl (x := .ref TI) rfl ?_)
  refine wpAny_bind (wpAny_seqItems hTI rfl ?_)
  show wpAny _ _ (Builtin.SmallTypes.ownedTupleIsFree (.ref z) >>= _) _ _ _
  refine wpAny_bind ?_
  unfold Builtin.SmallTypes.ownedTupleIsFree
  refine wpAny_bind (wpAny_field hz rfl (x := .none) rfl (wpAny_pure ?_))
  simp only [if_true]
  refine wpAny_bind (wpAny_rule ?_)
  refine wpAny_bind (wpAny_field hz rfl (x := .ref TO) rfl ?_)
  refine wpAny_bind (wpAny_setField_rec hz (by simp) fun g1 hzA sA => ?_)
  replace hzA : IsZip g1 z TI TO .ellipsis := hzA
  refine wpAny_bind ?_
  simp only [List.zipIdx_cons, List.zipIdx_nil, List.forIn_cons, List.forIn_nil]
  refine wpAny_bind (wpAny_bind (wpAny_onRaise ?_))
  show wpAny _ _ (Builtin.SmallTypes.nextOf (.ref i1) >>= _) _ _ _
  refine wpAny_bind (nextOf_sq (b := b) (h1.at' fun o e => sA.extBut _ o D.i1z e) (hl1.at' fun o e => sA.extBut _ o D.l1z e) hx fun g2 h1B sB => wpAny_pure ?_)
  have TOB : IsPair g2 TO v0 v1 := sB.extBut _ _ D.TOi1 (sA.extBut _ _ D.TOz hTO)
  refine wpAny_bind (wpAny_seqItems TOB rfl ?_)
  refine wpAny_bind (wpAny_updateSeq_pair TOB fun g3 TOC sC => ?_)
  replace TOC : IsPair g3 TO x v1 := TOC
  refine wpAny_bind (wpAny_letGo (wpAny_pure ?_))
  refine wpAny_bind (wpAny_bind (wpAny_onRaise ?_))
  show wpAny _ _ (Builtin.SmallTypes.nextOf (.ref i2) >>= _) _ _ _
  refine wpAny_bind (nextOf_sq (b := b) (h2.at' fun o e => sC.extBut _ o D.TOi2.symm (sB.extBut _ o D.i12.symm (sA.extBut _ o D.i2z e))) (hl2.at' fun o e => sC.extBut _ o D.l2TO (sB.extBut _ o D.l2i1 (sA.extBut _ o D.l2z e))) hy fun g4 h2D sD => wpAny_pure ?_)
  have TOD : IsPair g4 TO x v1 := sD.extBut _ _ D.TOi2 TOC
  refine wpAny_bind (wpAny_seqItems TOD rfl ?_)
  refine wpAny_bind (wpAny_updateSeq_pair TOD fun g5 TOE sE => ?_)
  replace TOE : IsPair g5 TO x y := TOE
  refine wpAny_bind (wpAny_letGo (wpAny_pure (wpAny_pure ?_)))
  refine wpAny_bind (wpAny_seqItems TOE rfl ?_)
  refine wpAny_bind (wpAny_newTuple ?_)
  have hsz : g5.objs.size = s.heap.objs.size := by rw [sE.1, sD.1, sC.1, sB.1, sA.1]
  have hzE : IsZip g5 z TI TO .ellipsis := sE.extBut _ _ D.TOz.symm (sD.extBut _ _ D.i2z.symm (sC.extBut _ _ D.TOz.symm (sB.extBut _ _ D.i1z.symm hzA)))
  have hkE : ∀ c o, c ≠ z → c ≠ TO → c ≠ i1 → c ≠ i2 → s.heap.get? c = some o → g5.get? c = some o := fun c o c1 c2 c3 c4 e => sE.extBut _ _ c2 (sD.extBut _ _ c4 (sC.extBut _ _ c2 (sB.extBut _ _ c3 (sA.extBut _ _ c1 e))))
  have h1E : IsSqIt b g5 i1 l1 (k1 + 1) := h1B.at' fun o e => sE.extBut _ o D.TOi1.symm (sD.extBut _ o D.i12 (sC.extBut _ o D.TOi1.symm e))
  have h2E : IsSqIt b g5 i2 l2 (k2 + 1) := h2D.at' fun o e => sE.extBut _ o D.TOi2.symm e
  have zlt : z < g5.objs.size := Heap.lt_size hzE
  show wpAny _ _ (Builtin.SmallTypes.ownedTupleHandOut (.ref z) (.ref g5.objs.size) >>= _) _ _ _
  refine wpAny_bind ?_
  unfold Builtin.SmallTypes.ownedTupleHandOut
  have hzF : IsZip (g5.push { cls := .type "tuple", data := .seq #[x, y] }) z TI TO .ellipsis := Heap.get?_push_of_some _ hzE
  refine wpAny_bind (wpAny_setField_rec hzF (by simp) fun g7 hzG sG => ?_)
  replace hzG : IsZip g7 z TI TO (rawInt g5.objs.size) := hzG
  refine wpAny_setField_rec hzG (by simp) fun g8 hzI sI => ?_
  replace hzI : IsZip g8 z TI TO (rawInt g5.objs.size) := hzI
  have up : ∀ c o, c ≠ z → g5.get? c = some o → g8.get? c = some o := fun c o c1 e => sI.extBut _ _ c1 (sG.extBut _ _ c1 (Heap.get?_push_of_some _ e))
  have hTI8 : IsPair g8 g5.objs.size x y := sI.extBut _ _ (Nat.ne_of_gt zlt) (sG.extBut _ _ (Nat.ne_of_gt zlt) (Heap.get?_push_size _ rfl))
  rw [hsz] at hzI hTI8
  refine wpAny_pure ⟨_, rfl, ?_⟩
  show Q (.ref g5.objs.size) _
  rw [hsz]
  exact hQ g8 hzI (up _ _ D.TOz TOE) (h1E.at' fun o e => up _ o D.i1z e) (h2E.at' fun o e => up _ o D.i2z e) hTI8 fun c o c1 c2 c3 c4 e => up c o c1 (hkE c o c1 c2 c3 c4 e)

theorem zipNext_end {b : Bool} {z TI TO i1 i2 l1 l2 : Addr} {k1 k2 : Nat} {xs ys : Array Value} {v0 v1 : Value} {Q : Fin → Shared → Prop} (hh : A.handled = none) (D : ZipApart z TI TO i1 i2 l1 l2)
    (hz : IsZip s.heap z TI TO .none) (hTI : IsPair s.heap TI (.ref i1) (.ref i2)) (hTO : IsPair s.heap TO v0 v1)
    (h1 : IsSqIt b s.heap i1 l1 k1) (h2 : IsSqIt b s.heap i2 l2 k2) (hl1 : IsSq b s.heap l1 xs) (hl2 : IsSq b s.heap l2 ys) (hend : xs[k1]? = none ∨ ys[k2]? = none)
    (hE : ∀ h' e, (∀ c o, c ≠ z → c ≠ TO → c ≠ i1 → c ≠ i2 → s.heap.get? c = some o → h'.get? c = some o) → (∃ o, h'.get? e = some o ∧ o.cls = .type "StopIteration") → E (.ref e) { s with heap := h' }) :
    wpAny (model prog w) A (Builtin.«zip.__next__» ⟨[.ref z], []⟩) Q E s := by
  show wpAny _ _ (field (.ref z) 2 >>= _) _ _ _
  refine wpAny_bind (wpAny_field hz rfl (x := .bool false) rfl ?_)
  show wpAny _ _ (field (.ref z) 3 >>= _) _ _ _
  refine wpAny_bind (wpAny_field hz rfl (x := .ref TI) rfl ?_)
  refine wpAny_bind (wpAny_seqItems hTI rfl ?_)
  show wpAny _ _ (Builtin.SmallTypes.ownedTupleIsFree (.ref z) >>= _) _ _ _
  refine wpAny_bind ?_
  unfold Builtin.SmallTypes.ownedTupleIsFree
  refine wpAny_bind (wpAny_field hz rfl (x := .none) rfl (wpAny_pure ?_))
  simp only [if_true]
  refine wpAny_bind (wpAny_rule ?_)
  refine wpAny_bind (wpAny_field hz rfl (x := .ref TO) rfl ?_)
  refine wpAny_bind (wpAny_setField_rec hz (by simp) fun g1 hzA sA => ?_)
  replace hzA : IsZip g1 z TI TO .ellipsis := hzA
  refine wpAny_bind ?_
  simp only [List.zipIdx_cons, List.zipIdx_nil, List.forIn_cons, List.forIn_nil]
  refine wpAny_bind (wpAny_bind (wpAny_onRaise ?_))
  show wpAny _ _ (Builtin.SmallTypes.nextOf (.ref i1) >>= _) _ _ _
  cases hx : xs[k1]? with
  | none =>
    refine wpAny_bind (nextOf_sq_end (b := b) hh (h1.at' fun o e => sA.extBut _ o D.i1z e) (hl1.at' fun o e => sA.extBut _ o D.l1z e) hx fun g2 ex sB he => ?_)
    obtain ⟨oe, hoe, hce⟩ := he
    have hzB : IsZip g2 z TI TO .ellipsis := sB _ _ D.i1z.symm hzA
    have hez : ex ≠ z := fun q => by subst q; rw [hzB] at hoe; cases hoe; simp at hce
    refine wpAny_setField_rec hzB (by simp) fun g3 _ sC => hE g3 ex (fun c o c1 _ c3 _ q => sC.extBut _ _ c1 (sB _ _ c3 (sA.extBut _ _ c1 q))) ⟨oe, sC.extBut _ _ hez hoe, hce⟩
  | some x =>
    have hy : ys[k2]? = none := by rcases hend with h | h; rw [hx] at h; cases h; exact h
    refine wpAny_bind (nextOf_sq (b := b) (h1.at' fun o e => sA.extBut _ o D.i1z e) (hl1.at' fun o e => sA.extBut _ o D.l1z e) hx fun g2 h1B sB => wpAny_pure ?_)
    have TOB : IsPair g2 TO v0 v1 := sB.extBut _ _ D.TOi1 (sA.extBut _ _ D.TOz hTO)
    refine wpAny_bind (wpAny_seqItems TOB rfl ?_)
    refine wpAny_bind (wpAny_updateSeq_pair TOB fun g3 TOC sC => ?_)
    refine wpAny_bind (wpAny_letGo (wpAny_pure ?_))
    refine wpAny_bind (wpAny_bind (wpAny_onRaise ?_))
    show wpAny _ _ (Builtin.SmallTypes.nextOf (.ref i2) >>= _) _ _ _
    refine wpAny_bind (nextOf_sq_end (b := b) hh (h2.at' fun o e => sC.extBut _ o D.TOi2.symm (sB.extBut _ o D.i12.symm (sA.extBut _ o D.i2z e))) (hl2.at' fun o e => sC.extBut _ o D.l2TO (sB.extBut _ o D.l2i1 (sA.extBut _ o D.l2z e))) hy fun g4 ex sD he => ?_)
    obtain ⟨oe, hoe, hce⟩ := he
    have hzD : IsZip g4 z TI TO .ellipsis := sD _ _ D.i2z.symm (sC.extBut _ _ D.TOz.symm (sB.extBut _ _ D.i1z.symm hzA))
    have hez : ex ≠ z := fun q => by subst q; rw [hzD] at hoe; cases hoe; simp at hce
    refine wpAny_setField_rec hzD (by simp) fun g5 _ sE => hE g5 ex (fun c o c1 c2 c3 c4 q => sE.extBut _ _ c1 (sD _ _ c4 (sC.extBut _ _ c2 (sB.extBut _ _ c3 (sA.extBut _ _ c1 q))))) ⟨oe, sE.extBut _ _ hez hoe, hce⟩
end

abbrev zpIt (b : Bool) (l : Addr) : Obj := { cls := .type (if b = true then "list_iterator" else "tuple_iterator"), data := .fields #[.ref l, .int 0 0] }
abbrev zp2 (b : Bool) (h : Heap) (l1 l2 : Addr) : Heap := (h.push (zpIt b l1)).push (zpIt b l2)
abbrev zp3 (b : Bool) (h : Heap) (l1 l2 : Addr) : Heap := (zp2 b h l1 l2).push { cls := .type "tuple", data := .seq #[.ref h.objs.size, .ref (h.push (zpIt b l1)).objs.size] }
abbrev zp4 (b : Bool) (h : Heap) (l1 l2 : Addr) : Heap := (zp3 b h l1 l2).push { cls := .type "tuple", data := .seq #[.none, .none] }
abbrev zp5 (b : Bool) (h : Heap) (l1 l2 : Addr) : Heap := (zp4 b h l1 l2).push { cls := .type "zip", data := .fields #[.none, .bool false, .bool false, .ref (zp2 b h l1 l2).objs.size, .ref (zp3 b h l1 l2).objs.size] }
theorem zipNew_tt (l1 l2 : Addr) (xs ys : Array Value) :
    Meets (Builtin.«zip.__new__» ⟨[.type "zip", .ref l1, .ref l2], []⟩) (fun _ R s => s.heap.IsTuple l1 xs ∧ s.heap.IsTuple l2 ys ∧ R (.ok (.ret (.ref (zp4 false s.heap l1 l2).objs.size))) { s with heap := zp5 false s.heap l1 l2 }) :=
  .of_wp fun prog w A R s h => by
    obtain ⟨hp, g, d, tk, os⟩ := s; obtain ⟨hl1, hl2, h⟩ := h
    have hsub := sub_zip
    have hL1 : Heap.IsTuple (Shared.heap ⟨hp, g, d, tk, os⟩) l1 xs := hl1
    have hL2 : Heap.IsTuple (Shared.heap ⟨hp.push { cls := .type "tuple_iterator", data := .fields #[.ref l1, .int 0 0] }, g, d, tk, os⟩) l2 ys := Heap.IsTuple.push hl2 _
    wp_walk using wpAny_pyIter_tuple hL1, wpAny_pyIter_tuple hL2
    exact ⟨_, rfl, h⟩
section
variable {prog : Program} {w : World} {A : Around} {E : Value → Shared → Prop} {s : Shared}
theorem callZip {b : Bool} {l1 l2 : Addr} {xs ys : Array Value} {Q : Value → Shared → Prop} (hl1 : IsSq b s.heap l1 xs) (hl2 : IsSq b s.heap l2 ys)
    (h : ∀ h', IsZip h' (s.heap.objs.size + 4) (s.heap.objs.size + 2) (s.heap.objs.size + 3) .none → IsPair h' (s.heap.objs.size + 2) (.ref s.heap.objs.size) (.ref (s.heap.objs.size + 1)) →
      IsPair h' (s.heap.objs.size + 3) .none .none → IsSqIt b h' s.heap.objs.size l1 0 → IsSqIt b h' (s.heap.objs.size + 1) l2 0 → (∀ c o, s.heap.get? c = some o → h'.get? c = some o) → Q (.ref (s.heap.objs.size + 4)) { s with heap := h' }) :
    wpAny (model prog w) A (call (.type "zip") [.ref l1, .ref l2]) Q E s := by
  cases b with
  | true => exact call_zip_2 (show s.heap.IsList l1 xs from hl1) (show s.heap.IsList l2 ys from hl2) fun h' a1 a2 a3 a4 a5 _ a7 => h h' a1 a2 a3 a4 a5 a7
  | false =>
    refine callType_new F.called_zip (by decide) (F.typeCall_zip_2 _ _) (F.newCall_zip_2 _ _) (fun obj => F.args_object_init_3 obj _ _) F.entry_zip_new (zipNew_tt l1 l2 xs ys) ⟨hl1, hl2, ?_⟩
    have q1 : (s.heap.push (zpIt false l1)).objs.size = s.heap.objs.size + 1 := Heap.size_push ..
    have q2 : (zp2 false s.heap l1 l2).objs.size = s.heap.objs.size + 2 := by rw [Heap.size_push, q1]
    have q3 : (zp3 false s.heap l1 l2).objs.size = s.heap.objs.size + 3 := by rw [Heap.size_push, q2]
    have q4 : (zp4 false s.heap l1 l2).objs.size = s.heap.objs.size + 4 := by rw [Heap.size_push, q3]
    have p5 : (zp5 false s.heap l1 l2).get? (zp4 false s.heap l1 l2).objs.size = some _ := Heap.get?_push_size _ rfl
    have p4 : (zp5 false s.heap l1 l2).get? (zp3 false s.heap l1 l2).objs.size = some _ := Heap.get?_push_of_some _ (Heap.get?_push_size _ rfl)
    have p3 : (zp5 false s.heap l1 l2).get? (zp2 false s.heap l1 l2).objs.size = some _ := Heap.get?_push_of_some _ (Heap.get?_push_of_some _ (Heap.get?_push_size _ rfl))
    have p2 : (zp5 false s.heap l1 l2).get? (s.heap.push (zpIt false l1)).objs.size = some _ := Heap.get?_push_of_some _ (Heap.get?_push_of_some _ (Heap.get?_push_of_some _ (Heap.get?_push_size _ rfl)))
    have p1 : (zp5 false s.heap l1 l2).get? s.heap.objs.size = some _ := Heap.get?_push_of_some _ (Heap.get?_push_of_some _ (Heap.get?_push_of_some _ (Heap.get?_push_of_some _ (Heap.get?_push_size _ rfl))))
    show _ ∧ _
    rw [q2, q3, q4] at p5
    rw [q1, q2] at p3
    rw [q3] at p4
    rw [q1] at p2
    rw [q4]
    exact ⟨⟨_, p5, rfl⟩, h _ p5 p3 p4 (show Heap.IsTupleIter _ _ _ _ from ⟨_, p1, rfl, rfl⟩) (show Heap.IsTupleIter _ _ _ _ from ⟨_, p2, rfl, rfl⟩) fun c o x =>
      Heap.get?_push_of_some _ (Heap.get?_push_of_some _ (Heap.get?_push_of_some _ (Heap.get?_push_of_some _ (Heap.get?_push_of_some _ x))))⟩
end

/-- what is read as a list (a tuple) -/
def SqB (b : Bool) (K : PySem.W.Frag) (H : Hp) (a : Addr) (xs : List V) : Prop := if b = true then SqL K H a xs else SqT K H a xs
theorem Inv.sqB {X : Cx} {pins : List (Addr × Obj)} {σ : St} {H : Hp} {s : Shared} {b : Bool} {a : Addr} {xs : List V} (I : Inv X pins σ H s) (h : SqB b X.K H a xs) : ∃ its : List Value, Vals xs its ∧ IsSq b s.heap a its.toArray ∧ xs.length ≤ sizeLine := by
  cases b with
  | true =>
    obtain ⟨its, r, p, z⟩ := I.list (show SqL X.K H a xs from h)
    exact ⟨its, r, p.isList, z⟩
  | false =>
    obtain ⟨its, r, p, z⟩ := I.tuple (show SqT X.K H a xs from h)
    exact ⟨its, r, (show s.heap.IsTuple a its.toArray from p), z⟩
theorem Inv.sqB_inj {X : Cx} {pins : List (Addr × Obj)} {σ : St} {H : Hp} {s : Shared} {b : Bool} {a : Addr} {xs ys : List V} (I : Inv X pins σ H s) (h : SqB b X.K H a xs) (h' : SqB b X.K H a ys) : xs = ys := by
  cases b with
  | true => exact I.list_inj (show SqL X.K H a xs from h) (show SqL X.K H a ys from h')
  | false => exact I.tuple_inj (show SqT X.K H a xs from h) (show SqT X.K H a ys from h')
/-- zip of the two at a and c -/
def Itz (b : Bool) (K : PySem.W.Frag) (a c : Addr) : It :=
  ⟨fun i H => ∃ xs ys x y, SqB b K H a xs ∧ SqB b K H c ys ∧ xs[i]? = some x ∧ ys[i]? = some y,
   fun i H v H' => ∃ t x y, H t = none ∧ v = .ref t ∧ H' = upd H t (.tup [x, y]) ∧ (∀ xs, SqB b K H a xs → xs[i]? = some x) ∧ ∀ ys, SqB b K H c ys → ys[i]? = some y,
   fun i H => ∃ xs ys, SqB b K H a xs ∧ SqB b K H c ys ∧ (xs.length ≤ i ∨ ys.length ≤ i)⟩
theorem ap_sq {X : Cx} {pins : List (Addr × Obj)} {σ : St} {H : Hp} {s : Shared} {b : Bool} {a j : Addr} {xs : List V} (I : Inv X pins σ H s) (h : SqB b X.K H a xs) (f : FpOk X pins H j) : a ≠ j := by
  intro e
  subst e
  have key : ∀ {o}, X.K.lookup a = some o → False := fun {o} q => by
    have q1 := I.mod.kin a o q
    rcases f.2.2.2.1 with z | z
    · exact I.ok.noex a o q1 z
    · exact absurd (Nat.lt_of_lt_of_le (Heap.lt_size q1) (Nat.le_trans I.ok.bsz z)) (Nat.lt_irrefl _)
  cases b with
  | true =>
    rcases (show SqL X.K H a xs from h) with (h | ⟨o, h⟩) | ⟨o, its, n, hk, _⟩
    · rw [f.1] at h; cases h
    · rw [f.1] at h; cases h
    · exact key hk
  | false =>
    rcases (show SqT X.K H a xs from h) with (h | ⟨o, h⟩) | ⟨o, its, n, hk, _⟩
    · rw [f.1] at h; cases h
    · rw [f.1] at h; cases h
    · exact key hk
structure ZpA (z TI TO i1 i2 : Addr) : Prop where
  TIz : TI ≠ z
  TOz : TO ≠ z
  i1z : i1 ≠ z
  i2z : i2 ≠ z
  TITO : TI ≠ TO
  TIi1 : TI ≠ i1
  TIi2 : TI ≠ i2
  TOi1 : TO ≠ i1
  TOi2 : TO ≠ i2
  i12 : i1 ≠ i2
theorem turn_zip {P : Program} {w : World} {K : PySem.W.Frag} {elts : List Expr} {x1 : Nat} {pos : Pos} (b : Bool) (a c z TI TO i1 i2 : Addr) (D0 : ZpA z TI TO i1 i2) :
    Turn P w K (.Tuple elts x1 pos) (Itz b K a c) [z, TI, TO, i1, i2] z (fun i h => IsZip h z TI TO .none ∧ IsPair h TI (.ref i1) (.ref i2) ∧ (∃ u v, IsPair h TO u v) ∧ IsSqIt b h i1 a i ∧ IsSqIt b h i2 c i) where
  mem := by simp
  obj := fun i h st d hd => by
    obtain ⟨hz, hTI, ⟨u, v, hTO⟩, h1, h2⟩ := st
    have q : d = z ∨ d = TI ∨ d = TO ∨ d = i1 ∨ d = i2 := by simpa using hd
    rcases q with rfl | rfl | rfl | rfl | rfl
    · exact ⟨_, hz, fun v z => by
        have z' : Data.fields _ = Data.cell v := z
        cases z'⟩
    · exact ⟨_, hTI, fun v z => by
        have z' : Data.seq _ _ = Data.cell v := z
        cases z'⟩
    · exact ⟨_, hTO, fun v z => by
        have z' : Data.seq _ _ = Data.cell v := z
        cases z'⟩
    · exact h1.obj
    · exact h2.obj
  keep := fun i h h' st k => by
    obtain ⟨hz, hTI, ⟨u, v, hTO⟩, h1, h2⟩ := st
    exact ⟨k z (by simp) _ hz, k TI (by simp) _ hTI, ⟨u, v, k TO (by simp) _ hTO⟩, h1.at' fun o e => k i1 (by simp) o e, h2.at' fun o e => k i2 (by simp) o e⟩
  item := by
    intro X hP hw hK hc i pins s σ H E I hf st hg
    subst hP hw hK
    obtain ⟨hz, hTI, ⟨u0, v0, hTO⟩, h1, h2⟩ := st
    obtain ⟨xs, ys, x, y, hq1, hq2, hx, hy⟩ := hg
    obtain ⟨its1, rv1, p1, hz1⟩ := I.sqB hq1
    obtain ⟨its2, rv2, p2, hz2⟩ := I.sqB hq2
    obtain ⟨u1, hu1, ru1⟩ := rv1.get hx
    obtain ⟨u2, hu2, ru2⟩ := rv2.get hy
    have D : ZipApart z TI TO i1 i2 a c := ⟨D0.TIz, D0.TOz, D0.i1z, D0.i2z, D0.TITO, D0.TIi1, D0.TIi2, D0.TOi1, D0.TOi2, D0.i12,
      ap_sq I hq1 (hf z (by simp)), ap_sq I hq1 (hf TO (by simp)), ap_sq I hq1 (hf i1 (by simp)), ap_sq I hq1 (hf i2 (by simp)), ap_sq I hq2 (hf z (by simp)), ap_sq I hq2 (hf TO (by simp)), ap_sq I hq2 (hf i1 (by simp)), ap_sq I hq2 (hf i2 (by simp))⟩
    have zlt : z < s.heap.objs.size := Heap.lt_size hz
    have hT : s.TypeIs (.ref z) "zip" := ⟨_, hz, rfl⟩
    unfold pyNext
    refine wpAny_bind (wpAny_attempt (wpAny_callSpecial?_slot (name := Str.ofString "__next__") hT F.slot_zip_next (wpAny_call_entry F.slot_zip_next hT F.entry_zip_next
      (zipNext_item (b := b) D hz hTI hTO h1 h2 p1 p2 (x := u1) (y := u2) (by simpa using hu1) (by simpa using hu2) fun h' a1 a2 a3 a4 a5 a7 => wpAny_pure ?_) (F.args_zip_next_1 _))))
    refine ⟨_, rfl, wpAny_letOwnedTupleGo_zip a1 fun g hz' hs' => ?_⟩
    replace hs' : Heap.SameBut z h' g := hs'
    have kk : ∀ d ob, d ∉ [z, TI, TO, i1, i2] → s.heap.get? d = some ob → g.get? d = some ob := fun d ob hd q => by
      have hd' : d ≠ z ∧ d ≠ TI ∧ d ≠ TO ∧ d ≠ i1 ∧ d ≠ i2 := by simpa using hd
      exact hs'.extBut _ _ hd'.1 (a7 d ob hd'.1 hd'.2.2.1 hd'.2.2.2.1 hd'.2.2.2.2 q)
    have hT2 : g.get? s.heap.objs.size = some { cls := .type "tuple", data := .seq #[u1, u2] } := hs'.extBut _ _ (Nat.ne_of_gt zlt) a5
    refine ⟨.ref s.heap.objs.size, upd H s.heap.objs.size (.tup [x, y]), I.turnedNew (ch := [z, TI, TO, i1, i2]) (t' := s.toks) (Nat.le_refl _) kk hf ?_, rfl,
      ⟨_, x, y, I.fresh, rfl, rfl, fun zs hq => by rw [I.sqB_inj hq hq1]; exact hx, fun zs hq => by rw [I.sqB_inj hq hq2]; exact hy⟩,
      ⟨hz', hs'.extBut _ _ D.TIz (a7 _ _ D.TIz D.TITO D.TIi1 D.TIi2 hTI), ⟨_, _, hs'.extBut _ _ D.TOz a2⟩, a3.at' fun o e => hs'.extBut _ _ D.i1z e, a4.at' fun o e => hs'.extBut _ _ D.i2z e⟩, fun d hd => ?_⟩
    · exact ⟨by show 2 ≤ sizeLine; decide, [u1, u2], .cons ru1 (.cons ru2 .nil), ⟨_, hT2, rfl, _, rfl⟩⟩
    · have dlt : d < s.heap.objs.size := by
        have q : d = z ∨ d = TI ∨ d = TO ∨ d = i1 ∨ d = i2 := by simpa using hd
        rcases q with rfl | rfl | rfl | rfl | rfl
        · exact zlt
        · exact Heap.lt_size hTI
        · exact Heap.lt_size hTO
        · obtain ⟨o, e, _⟩ := h1.obj; exact Heap.lt_size e
        · obtain ⟨o, e, _⟩ := h2.obj; exact Heap.lt_size e
      rw [upd_ne (Nat.ne_of_lt dlt)]
      exact (hf d hd).1
  done := by
    intro X hP hw hK hc i pins s σ H E I hf st hg
    subst hP hw hK
    obtain ⟨hz, hTI, ⟨u0, v0, hTO⟩, h1, h2⟩ := st
    obtain ⟨xs, ys, hq1, hq2, hlen⟩ := hg
    obtain ⟨its1, rv1, p1, hz1⟩ := I.sqB hq1
    obtain ⟨its2, rv2, p2, hz2⟩ := I.sqB hq2
    have e1 := rv1.length
    have e2 := rv2.length
    have D : ZipApart z TI TO i1 i2 a c := ⟨D0.TIz, D0.TOz, D0.i1z, D0.i2z, D0.TITO, D0.TIi1, D0.TIi2, D0.TOi1, D0.TOi2, D0.i12,
      ap_sq I hq1 (hf z (by simp)), ap_sq I hq1 (hf TO (by simp)), ap_sq I hq1 (hf i1 (by simp)), ap_sq I hq1 (hf i2 (by simp)), ap_sq I hq2 (hf z (by simp)), ap_sq I hq2 (hf TO (by simp)), ap_sq I hq2 (hf i1 (by simp)), ap_sq I hq2 (hf i2 (by simp))⟩
    have hT : s.TypeIs (.ref z) "zip" := ⟨_, hz, rfl⟩
    unfold pyNext
    refine wpAny_bind (wpAny_attempt (wpAny_callSpecial?_slot (name := Str.ofString "__next__") hT F.slot_zip_next (wpAny_call_entry F.slot_zip_next hT F.entry_zip_next
      (zipNext_end (b := b) (I.ok.hd hc) D hz hTI hTO h1 h2 p1 p2 (by rcases hlen with h | h; exact .inl (by simp; omega); exact .inr (by simp; omega)) fun h' e hk he => ?_) (F.args_zip_next_1 _))))
    obtain ⟨o, ho, hcl⟩ := he
    refine wpAny_bind (wpAny_isInstance (T := "StopIteration") (b := true) ⟨o, ho, hcl⟩ isSubtype_stop ?_)
    exact wpAny_pure ⟨rfl, I.turnedAll (ch := [z, TI, TO, i1, i2]) (t' := s.toks) (fun d ob hd q => by
      have hd' : d ≠ z ∧ d ≠ TI ∧ d ≠ TO ∧ d ≠ i1 ∧ d ≠ i2 := by simpa using hd
      exact hk d ob hd'.1 hd'.2.2.1 hd'.2.2.2.1 hd'.2.2.2.2 q) hf⟩
  self := fun _ _ _ _ _ st h => wpAny_pyIter_zip st.1 h
theorem zip_started {X : Cx} {b : Bool} {elts : List Expr} {x1 : Nat} {tpos : Pos} {pins : List (Addr × Obj)} {σ : St} {H1 : Hp} {s1 : Shared} {R : It → Hp → Prop} {a c : Addr} {xs ys : List V} (I1 : Inv X pins σ H1 s1) (hq1 : SqB b X.K H1 a xs) (hq2 : SqB b X.K H1 c ys) (q : R (Itz b X.K a c) H1) :
    wpAny (model X.prog X.w) X.A (call (.type "zip") [.ref a, .ref c]) (fun v s2 => wpAny (model X.prog X.w) X.A (pyIter v) (PIE X pins σ (.Tuple elts x1 tpos) R) X.xe s2) X.xe s1 := by
  obtain ⟨its1, rv1, p1, hz1⟩ := I1.sqB hq1
  obtain ⟨its2, rv2, p2, hz2⟩ := I1.sqB hq2
  refine callZip p1 p2 fun h' a1 a2 a3 a4 a5 hk => ?_
  refine wpAny_pyIter_zip a1 ?_
  have I2 : Inv X pins σ H1 { s1 with heap := h' } := I1.kept (t' := s1.toks) fun b o q => hk b o q
  have ne : ∀ i j : Nat, i ≠ j → s1.heap.objs.size + i ≠ s1.heap.objs.size + j := fun i j h e => h (Nat.add_left_cancel e)
  refine ⟨_, [s1.heap.objs.size + 4, s1.heap.objs.size + 2, s1.heap.objs.size + 3, s1.heap.objs.size, s1.heap.objs.size + 1], _, _, H1, rfl, I2, turn_zip b a c _ _ _ _ _ ⟨ne 2 4 (by decide), ne 3 4 (by decide), ne 0 4 (by decide), ne 1 4 (by decide), ne 2 3 (by decide), ne 2 0 (by decide), ne 2 1 (by decide), ne 3 0 (by decide), ne 3 1 (by decide), ne 0 1 (by decide)⟩,
    ⟨a1, a2, ⟨_, _, a3⟩, a4, a5⟩, fun d hd => ?_, q⟩
  have hd' : d = s1.heap.objs.size + 4 ∨ d = s1.heap.objs.size + 2 ∨ d = s1.heap.objs.size + 3 ∨ d = s1.heap.objs.size ∨ d = s1.heap.objs.size + 1 := by simpa using hd
  have hle : s1.heap.objs.size ≤ d := by
    rcases hd' with e | e | e | e | e <;> rw [e]
    · exact Nat.le_add_right _ _
    · exact Nat.le_add_right _ _
    · exact Nat.le_add_right _ _
    · exact Nat.le_refl _
    · exact Nat.le_add_right _ _
  exact I1.fpOk hle (I1.hok.fresh hle)
/-- zip of two that are both lists or both tuples, as it comes -/
def iZipE (K : PySem.W.Frag) (ta : TA) : TI := fun σ H R => ta σ H fun vs H1 => ∃ (b : Bool) (a c : Addr), vs = [.ref a, .ref c] ∧ (∃ xs, SqB b K H1 a xs) ∧ (∃ ys, SqB b K H1 c ys) ∧ R (Itz b K a c) H1
theorem pi_zipE {X : Cx} {elts : List Expr} {x1 : Nat} {tpos : Pos} {a c : Expr} {ta : TA} {p pos : Pos} (hg : Gl X "zip") (hm : X.mg "zip" = none) (ha : PA X [a, c] ta) (hs : starEach [a, c] X.env = [(false, eval a X.env), (false, eval c X.env)] := by rfl) (hs2 : starEach [c] X.env = [(false, eval c X.env)] := by rfl) :
    PI X (.Tuple elts x1 tpos) (.Call (.Name "zip" p) [a, c] [] pos) (iZipE X.K ta) := by
  intro pins s σ H R I h
  refine Call_ (ld_blt I hg hm boot_zip (PyProof.Rows.callWith_type1 (thn (ha pos pins s σ H _ I h) fun us s1 ⟨vs, H1, I1, r1, q1⟩ => ?_) (by rw [hs, hs2]) (by rw [hs2]; rfl)))
  obtain ⟨b, a, c, e, ⟨xs, hq1⟩, ⟨ys, hq2⟩, q⟩ := q1
  subst e
  cases r1 with
  | cons r rr =>
    cases rr with
    | cons r' rr =>
      cases rr
      cases r
      cases r'
      exact zip_started I1 hq1 hq2 q
end L2

set_option Elab.async false
set_option linter.all false
set_option maxRecDepth 100000
set_option maxHeartbeats 4000000
namespace L2
open PySem PySem.Spec PyProof.Rows
theorem lk_list_keys : typeLookup (.type "list") "keys" = pure none := by rw [typeLookup_type, builtinLookup_eq_fast]; kernel_rfl
theorem lk_list_getattr : typeLookup (.type "list") "__getattr__" = pure none := by rw [typeLookup_type, builtinLookup_eq_fast]; kernel_rfl
theorem sub_attr : isSubtype (.type "AttributeError") (.type "AttributeError") = pure true := by rw [isSubtype_type]; kernel_rfl
section
variable {prog : Program} {w : World} {A : Around} {E : Value → Shared → Prop} {h : Heap} {g : Array GenState} {d : Drawn} {t : Nat} {os : OsState} {a : Addr} {o : Obj}
theorem raise_attr {α : Type} {Q : α → Shared → Prop} {u : Value} {x msg : Str} (hh : A.handled = none) (hm : msg.length ≤ sizeLine)
    (hE : ∀ h' e tk, (∀ b o, h.get? b = some o → h'.get? b = some o) → (∃ o, h'.get? e = some o ∧ o.cls = .type "AttributeError") → E (.ref e) ⟨h', g, d, tk, os⟩) :
    wpAny (model prog w) A (raiseAttrError u x msg : Sem α) Q E ⟨h, g, d, t, os⟩ := by
  unfold raiseAttrError
  refine wpAny_bind (wpAny_mkStr ?_ hm)
  simp only [newExc, newTuple]
  refine wpAny_bind (wpAny_bind (wpAny_newObj_type ?_ (by size_fits)))
  refine wpAny_bind (m := firstArgMember _ _) (wpAny_of_eq (a := Value.none) (by first | rfl | (simp only [firstArgMember]; rfl)) ?_)
  refine wpAny_newObj_type ?_ (by size_fits)
  refine wpAny_bind (wpAny_mkText ?_)
  dsimp only
  refine wpAny_bind ?_
  unfold noteAttr
  generalize hh1 : h.push { cls := .type "tuple", data := .seq #[.str msg t] } = h1
  have k1 : ∀ b o, h.get? b = some o → h1.get? b = some o := fun b o q => by rw [← hh1]; exact Heap.get?_push_of_some _ q
  have hg : (h1.push { cls := .type "AttributeError", data := .fields #[.ref h.objs.size, .none, .none, .none, .bool false, .none, unsetMember, unsetMember] }).get? h1.objs.size = some _ := Heap.get?_push_size _ rfl
  have k2 : ∀ b o, h.get? b = some o → (h1.push { cls := .type "AttributeError", data := .fields #[.ref h.objs.size, .none, .none, .none, .bool false, .none, unsetMember, unsetMember] }).get? b = some o := fun b o q => Heap.get?_push_of_some _ (k1 b o q)
  have nb : ∀ b o, h.get? b = some o → b ≠ h1.objs.size := fun b o q => Nat.ne_of_lt (Heap.lt_size (k1 b o q))
  show wpAny _ _ (lacksNameAndObj (.ref h1.objs.size) >>= _) _ _ ⟨h1.push { cls := .type "AttributeError", data := .fields #[.ref h.objs.size, .none, .none, .none, .bool false, .none, unsetMember, unsetMember] }, g, d, t + 1 + 1, os⟩
  generalize hh2 : h1.push { cls := .type "AttributeError", data := .fields #[.ref h.objs.size, .none, .none, .none, .bool false, .none, unsetMember, unsetMember] } = h2 at hg k2
  generalize h1.objs.size = e at hg nb
  clear hh2 k1 hh1
  have hT : (⟨h2, g, d, t + 1 + 1, os⟩ : Shared).TypeIs (.ref e) "AttributeError" := ⟨_, hg, rfl⟩
  refine wpAny_bind ?_
  unfold lacksNameAndObj
  refine wpAny_bind (wpAny_isInstance hT sub_attr ?_)
  simp only [Bool.not_true, Bool.false_eq_true, if_false]
  refine wpAny_bind (wpAny_load hg ?_)
  show wpAny _ _ (pure true) _ _ _
  refine wpAny_pure ?_
  simp only [if_true]
  refine wpAny_bind (wpAny_rule (wpAny_bind (wpAny_typeOf hT ?_)))
  show wpAny _ _ (layMembers e 6 #[_, u]) _ _ _
  unfold layMembers
  refine wpAny_bind (wpAny_load hg ?_)
  show wpAny _ _ (update e _) _ _ _
  refine wpAny_update hg ?_
  refine wpAny_raiseNew_none hh (hE _ _ _ (fun b o q => ?_) ⟨_, Heap.get?_update_self _ hg rfl, rfl⟩)
  exact (Heap.get?_update_other _ _ (nb b o q).symm).trans (k2 b o q)
theorem nokeys_entry {tk : Tok} {Q : PySem.Fin → Shared → Prop} {its : Array Value} {n : Nat} (hx : h.get? a = some { cls := .type "list", dict := none, data := .seq its n, slots := #[] }) (hh : A.handled = none)
    (hE : ∀ h' e tk, (∀ b o, h.get? b = some o → h'.get? b = some o) → (∃ o, h'.get? e = some o ∧ o.cls = .type "AttributeError") → E (.ref e) ⟨h', g, d, tk, os⟩) :
    wpAny (model prog w) A (Builtin.«object.__getattribute__» ⟨[.ref a, .str "keys" tk], []⟩) Q E ⟨h, g, d, t, os⟩ := by
  have hT : (⟨h, g, d, t, os⟩ : Shared).TypeIs (.ref a) "list" := ⟨_, hx, rfl⟩
  have f4 := lk_list_keys
  repeat (any_goals (first | assumption | wp_step))
  refine raise_attr hh (by decide +kernel) hE
theorem nokeys_by {tk : Tok} {Q : Value → Shared → Prop} {its : Array Value} {n : Nat} (hx : h.get? a = some { cls := .type "list", dict := none, data := .seq its n, slots := #[] }) (hh : A.handled = none)
    (hE : ∀ h' e tk, (∀ b o, h.get? b = some o → h'.get? b = some o) → (∃ o, h'.get? e = some o ∧ o.cls = .type "AttributeError") → E (.ref e) ⟨h', g, d, tk, os⟩) :
    wpAny (model prog w) A (getAttrBy (.ref a) (.str "keys" tk) false) Q E ⟨h, g, d, t, os⟩ := by
  have hT : (⟨h, g, d, t, os⟩ : Shared).TypeIs (.ref a) "list" := ⟨_, hx, rfl⟩
  have f2 := F.slot_list_getattribute.lookup
  have f3 := F.slot_list_getattribute.bind (.ref a)
  repeat (any_goals (first | assumption | wp_step))
  refine codeAny_call_builtin F.slot_list_getattribute.plain F.entry_list_ga (F.slot_list_getattribute.check _ _ _ _ _ _ _ _ (show (⟨h, g, d, t, os⟩ : Shared).TypeIs (.ref a) "list" from ⟨_, hx, rfl⟩) (F.args_list_getattribute_2 _ _) (nokeys_entry hx ?_ ?_))
  · exact hh
  · intro h' e tk k q
    obtain ⟨oe, he, hc⟩ := q
    have hT2 : (⟨h', g, d, tk, os⟩ : Shared).TypeIs (.ref e) "AttributeError" := ⟨_, he, hc⟩
    have f5 := sub_attr
    have f6 := lk_list_getattr
    show wpAny _ A (getattributeRaised (Value.ref a) _ (Value.type "list") (.ref e) none false false) _ _ _
    have done := hE h' e tk k ⟨oe, he, hc⟩
    unfold getattributeRaised
    repeat (any_goals (first | assumption | wp_step))
theorem nokeys {Q : Option Value → Shared → Prop} {its : Array Value} {n : Nat} (hx : h.get? a = some { cls := .type "list", dict := none, data := .seq its n, slots := #[] }) (hh : A.handled = none)
    (hq : ∀ h' tk, (∀ b o, h.get? b = some o → h'.get? b = some o) → Q none ⟨h', g, d, tk, os⟩) : wpAny (model prog w) A (getAttr? (.ref a) "keys") Q E ⟨h, g, d, t, os⟩ := by
  unfold getAttr? getAttrBy?
  refine wpAny_bind (wpAny_mkText (wpAny_bind (wpAny_attempt (nokeys_by hx hh fun h' e tk k q => ?_))))
  obtain ⟨oe, he, hc⟩ := q
  refine wpAny_bind (wpAny_isInstance (T := "AttributeError") (b := true) ⟨_, he, hc⟩ sub_attr ?_)
  exact wpAny_pure (hq h' tk k)
end
end L2

set_option Elab.async false
set_option linter.all false
set_option maxRecDepth 100000
set_option maxHeartbeats 4000000
namespace L2
open PySem PySem.Spec PyProof.Rows
theorem entry_dict_update_loop : entryFor table "dict.update.loop" = some Builtin.«dict.update.loop» := entryFor_of_fast (by kernel_rfl)
theorem plain_dict_update_loop : plainId "dict.update.loop" = true := by decide +kernel
theorem stored_len {K : Type} [DecidableEq K] (kvs : List (K × Value)) (k : K) (v : Value) : (stored kvs k v).length ≤ kvs.length + 1 := by
  unfold stored
  split
  · rw [List.length_map]; omega
  · rw [List.length_append]; exact Nat.le_refl _
section
variable {prog : Program} {w : World} {A : Around} {E : Value → Shared → Prop} {K : Type} [DecidableEq K] {knd : KeyKind prog w K} {R : Result → Shared → Prop}
theorem dict_loop {d it l : Addr} {its : Array Value} {more : List (K × Value)} (hh : A.handled = none) (hlen : more.length = its.size) (hsz : its.size ≤ 1000) (hdl : l ≠ d) (hdi : it ≠ d) (hil : l ≠ it) :
    ∀ (k i : Nat) (tk0 : Tok) (s : Shared) (kvs : List (K × Value)), its.size - i = k → i ≤ its.size → kvs.length ≤ i → s.heap.IsListIter it l i → s.heap.IsList l its → s.heap.DictOf knd d kvs →
      (∀ (j : Nat) (q : K × Value), more[j]? = some q → ∃ t kv, its[j]? = some (.ref t) ∧ s.heap.IsTuple t #[kv, q.2] ∧ knd.is q.1 kv = true) →
      (∀ h' tk, h'.DictOf knd d (merged kvs (more.drop i)) → (∀ b o, b ≠ d → b ≠ it → s.heap.get? b = some o → h'.get? b = some o) → R (.ok (.ret .none)) { s with heap := h', toks := tk }) →
      codeAny (model prog w) A (.builtin "dict.update.loop" ⟨[.ref d, .ref it, .int i tk0, .none], []⟩) R s := by
  intro k
  induction k with
  | zero =>
    intro i tk0 s kvs hk hi hkl hit hl hd hp hR
    have e : i = its.size := by omega
    subst e
    refine codeAny_builtin entry_dict_update_loop ?_
    rw [Around.under_plainId plain_dict_update_loop _]
    show wpAny _ A.in1 (pyNext (.ref it) >>= _) _ _ s
    refine wpAny_bind (wpAny_pyNext_list_end hh hit hl (by simp) fun h' eb => ?_)
    show wpAny _ A.in1 (Builtin.Dict.addKeywords d [] >>= _) _ _ _
    refine wpAny_bind (wpAny_pure (wpAny_pure ?_))
    refine hR h' s.toks ?_ fun b o _ hb q => eb b o hb q
    rw [List.drop_eq_nil_of_le (by omega)]
    exact hd.extBut eb hdi.symm
  | succ k ih =>
    intro i tk0 s kvs hk hi hkl hit hl hd hp hR
    have hlt : i < its.size := by omega
    have hlm : i < more.length := by omega
    obtain ⟨t, kv, hu, ht, hkey⟩ := hp i more[i] (by simp [hlm])
    refine codeAny_builtin entry_dict_update_loop ?_
    rw [Around.under_plainId plain_dict_update_loop _]
    show wpAny _ A.in1 (pyNext (.ref it) >>= _) _ _ s
    refine wpAny_bind (wpAny_pyNext_list_item hit hl hu fun h1 hit1 sb1 => ?_)
    have nti : t ≠ it := fun z => by
      subst z
      obtain ⟨o, e1, c1, _⟩ := ht
      obtain ⟨o', e2, c2, _⟩ := hit
      rw [e1] at e2; cases e2; rw [c1] at c2; exact absurd c2 (by decide)
    have ntd : t ≠ d := fun z => by
      subst z
      obtain ⟨o, e1, c1, _⟩ := ht
      obtain ⟨o', _, _, e2, c2, _⟩ := hd
      rw [e1] at e2; cases e2; rw [c2.1] at c1; exact absurd c1 (by decide)
    have ht1 : h1.IsTuple t #[kv, more[i].2] := ht.extBut sb1.extBut nti
    have hd1 : h1.DictOf knd d kvs := hd.extBut sb1.extBut hdi.symm
    show wpAny _ A.in1 (holding [.ref t] _ >>= _) _ _ _
    refine wpAny_bind (wpAny_holding ?_)
    refine wpAny_bind (m := (Builtin.Dict.pairItems (.ref t)).tryCatch _) ?_
    refine wpAny_tryCatch ?_
    unfold Builtin.Dict.pairItems
    refine wpAny_bind (wpAny_typeOf ht1.typeIs ?_)
    obtain ⟨ot, e1, c1, n1, d1⟩ := id ht1
    rw [if_pos (by decide)]
    refine wpAny_bind (wpAny_seqItems e1 d1 ?_)
    refine wpAny_pure ?_
    show wpAny _ A.in1 (holding [kv, more[i].2] (dictSet d kv more[i].2)) _ _ _
    refine wpAny_holding (wpAny_dictSet_pairs hkey hd1 (fun h2 hd2 sb2 => ?_) (by have := (by decide : 1000 ≤ sizeLine); omega))
    replace sb2 : Heap.SameBut d h1 h2 := sb2
    have kk : ∀ b o, b ≠ d → b ≠ it → s.heap.get? b = some o → h2.get? b = some o := fun b o b1 b2 q => sb2.extBut b o b1 (sb1.extBut b o b2 q)
    refine wpAny_pure ⟨plainId_quiet plain_dict_update_loop _, ?_⟩
    have hik : ((i : Int) + 1) = ((i + 1 : Nat) : Int) := by omega
    show codeAny _ _ (.builtin "dict.update.loop" ⟨[.ref d, .ref it, rawInt ((i : Int) + 1), .none], []⟩) _ _
    rw [hik]
    refine ih (i + 1) 0 _ (stored kvs more[i].1 more[i].2) (by omega) (by omega) ?_ (hit1.extBut sb2.extBut hdi) ((hl.extBut sb1.extBut hil).extBut sb2.extBut hdl) hd2 ?_ ?_
    · have := stored_len kvs more[i].1 more[i].2
      omega
    · intro j q hq
      obtain ⟨t', kv', a1, a2, a3⟩ := hp j q hq
      have n1 : t' ≠ it := fun z => by
        subst z
        obtain ⟨o, e1, c1, _⟩ := a2
        obtain ⟨o', e2, c2, _⟩ := hit
        rw [e1] at e2; cases e2; rw [c1] at c2; exact absurd c2 (by decide)
      have n2 : t' ≠ d := fun z => by
        subst z
        obtain ⟨o, e1, c1, _⟩ := a2
        obtain ⟨o', _, _, e2, c2, _⟩ := hd
        rw [e1] at e2; cases e2; rw [c2.1] at c1; exact absurd c1 (by decide)
      exact ⟨t', kv', a1, (a2.extBut sb1.extBut n1).extBut sb2.extBut n2, a3⟩
    · intro h' tk hd' k'
      refine hR h' tk ?_ fun b o b1 b2 q => k' b o b1 b2 (kk b o b1 b2 q)
      rw [List.drop_eq_getElem_cons hlm]
      exact hd'
theorem call_dict_list {l : Addr} {its : Array Value} {c : Nat} {more : List (K × Value)} {s : Shared} {Q : Value → Shared → Prop} (hh : A.handled = none) (hl : s.heap.get? l = some { cls := .type "list", dict := none, data := .seq its c, slots := #[] }) (hlen : more.length = its.size) (hsz : its.size ≤ 1000)
    (hp : ∀ (j : Nat) (q : K × Value), more[j]? = some q → ∃ t kv, its[j]? = some (.ref t) ∧ s.heap.IsTuple t #[kv, q.2] ∧ knd.is q.1 kv = true)
    (h : ∀ h' tk, h'.DictOf knd s.heap.objs.size (merged [] more) → (∀ b o, s.heap.get? b = some o → h'.get? b = some o) → Q (.ref s.heap.objs.size) { s with heap := h', toks := tk }) :
    wpAny (model prog w) A (call (.type "dict") [.ref l]) Q E s := by
  refine callType_codes (Q₁ := fun obj s₁ => obj = .ref s.heap.objs.size ∧ s₁ = { s with heap := s.heap.push { cls := .type "dict", data := .dict #[] } }) F.kt_called_dict (F.kt_typeCall_dict_1 _) F.entry_dict_init (kt_code_dict_new _ ⟨rfl, rfl⟩) ?_
  rintro obj s₁ ⟨rfl, rfl⟩
  have hnew : (s.heap.push { cls := .type "dict", data := .dict #[] }).DictOf knd s.heap.objs.size [] := Heap.DictOf.new s.heap
  have hl1 : (s.heap.push { cls := .type "dict", data := .dict #[] }).get? l = some { cls := .type "list", dict := none, data := .seq its c, slots := #[] } := Heap.get?_push_of_some _ hl
  have k1 : ∀ b o, s.heap.get? b = some o → (s.heap.push { cls := .type "dict", data := .dict #[] }).get? b = some o := fun b o q => Heap.get?_push_of_some _ q
  have llt : l < s.heap.objs.size := Heap.lt_size hl
  generalize s.heap.push { cls := .type "dict", data := .dict #[] } = h1 at hnew hl1 k1
  refine ⟨hnew.typeIs, F.args_dict_init_2 _ _, ?_⟩
  unfold Builtin.«dict.__init__»
  refine wpAny_bind ?_
  unfold Builtin.Dict.selfAndRest
  refine wpAny_bind (wpAny_notOrdered_dict hnew.typeIs ?_)
  show wpAny _ _ (pure (s.heap.objs.size, [Value.ref l])) _ _ _
  refine wpAny_pure ?_
  show wpAny _ _ (Builtin.Dict.updateFrom "dict.__init__" s.heap.objs.size (.ref l) [] .none) _ _ _
  unfold Builtin.Dict.updateFrom
  refine wpAny_bind (wpAny_typeOf (T := "list") ⟨_, hl1, rfl⟩ ?_)
  rw [if_pos (by decide)]
  refine wpAny_bind (nokeys hl1 hh fun h2 tk2 k2 => ?_)
  have hl2 := k2 _ _ hl1
  have hd2 : h2.DictOf knd s.heap.objs.size [] := let ⟨o, es, ep, ho, r⟩ := hnew; ⟨o, es, ep, k2 _ _ ho, r⟩
  have dlt : s.heap.objs.size < h2.objs.size := by obtain ⟨_, _, _, ho, _⟩ := hd2; exact Heap.lt_size ho
  simp only [Option.isNone_none, if_true]
  refine wpAny_bind (wpAny_rule ?_)
  have hL : Heap.IsList h2 l its := ⟨_, hl2, rfl, _, rfl⟩
  refine wpAny_bind (wpAny_pyIter_list (s := { s with heap := h2, toks := tk2 }) hL ?_)
  refine wpAny_pure ⟨plainId_quiet plain_dict_update_loop _, ?_⟩
  have hit : (h2.push { cls := .type "list_iterator", data := .fields #[.ref l, .int 0 0] }).IsListIter h2.objs.size l 0 := ⟨_, Heap.get?_push_size _ rfl, rfl, rfl⟩
  refine dict_loop (A := A.in1) (knd := knd) (more := more) hh hlen hsz (Nat.ne_of_lt llt) (Nat.ne_of_gt dlt) (Nat.ne_of_lt (Nat.lt_trans llt dlt)) its.size 0 0 { s with heap := h2.push { cls := .type "list_iterator", data := .fields #[.ref l, .int 0 0] }, toks := tk2 } [] rfl (Nat.zero_le _) (Nat.le_refl _) hit (hL.push _) (hd2.push _) ?_ ?_
  · intro j q hq
    obtain ⟨t, kv, a1, a2, a3⟩ := hp j q hq
    obtain ⟨o, e, r⟩ := a2
    exact ⟨t, kv, a1, ⟨o, Heap.get?_push_of_some _ (k2 _ _ (k1 _ _ e)), r⟩, a3⟩
  · intro h' tk hd' k'
    rw [List.drop_zero] at hd'
    refine ⟨rfl, h h' tk hd' fun b o q => k' b o (Nat.ne_of_lt (Heap.lt_size q)) (Nat.ne_of_lt (Heap.lt_size (k2 _ _ (k1 _ _ q)))) (Heap.get?_push_of_some _ (k2 _ _ (k1 _ _ q)))⟩
end

/-! ### dict(list of pairs) -/
/-- v is a pair of a key and a value -/
def PairAt (H : Hp) (v : V) (p : Key × V) : Prop := ∃ t, v = .ref t ∧ H t = some (.tup [kV p.1, p.2])
def rDictL (K : PySem.W.Frag) : List V → Hp → VK → Prop := fun vs H Q => ∃ l xs kvs, vs = [.ref l] ∧ H l = some (.lst xs) ∧ Paired (PairAt H) xs kvs ∧ xs.length ≤ 1000 ∧ (kvs.map (·.1)).Nodup ∧ ∀ d, H d = none → Q (.ref d) (upd H d (.dK kvs))
theorem pairs_vals {X : Cx} {pins : List (Addr × Obj)} {σ : St} {H : Hp} {s : Shared} (I : Inv X pins σ H s) : ∀ {xs : List V} {kvs : List (Key × V)} {its : List Value}, Paired (PairAt H) xs kvs → Vals xs its →
    ∃ more : List (Key × Value), KV kvs more ∧ ∀ (j : Nat) (q : Key × Value), more[j]? = some q → ∃ t kv, its[j]? = some (.ref t) ∧ s.heap.IsTuple t #[kv, q.2] ∧ (mixKind X.prog X.w).is q.1 kv = true
  | _, _, _, .nil, .nil => ⟨[], .nil, fun j q h => by simp at h⟩
  | _, _, _, .cons hp tp, .cons rv tr => by
    obtain ⟨more, hk, hm⟩ := pairs_vals I tp tr
    obtain ⟨t, rfl, ht⟩ := hp
    cases rv
    obtain ⟨_, its', rt, hi⟩ := I.hok t _ ht
    obtain ⟨u1, u2, rfl, r1, r2⟩ := rt.two
    refine ⟨(_, u2) :: more, .cons ⟨rfl, r2⟩ hk, fun j q h => ?_⟩
    cases j with
    | zero =>
      simp at h
      subst h
      exact ⟨t, u1, rfl, hi, kV_is r1⟩
    | succ j =>
      obtain ⟨t', kv, a1, a2, a3⟩ := hm j q (by simpa using h)
      exact ⟨t', kv, by simpa using a1, a2, a3⟩
theorem call_dictL {X : Cx} (hc : X.calm = true) : CallR X (.type "dict") (rDictL X.K) := by
  intro pins s σ H vs us Q I rv h
  obtain ⟨l, xs, kvs, rfl, hl, hp, hz, hn, q⟩ := h
  obtain ⟨u, rfl, ru⟩ := rv.one
  cases ru
  obtain ⟨z, its, n, r, hlen, e⟩ := I.lstM hl
  obtain ⟨more, hkv, hm⟩ := pairs_vals I hp r
  have hlm : kvs.length = more.length := Paired.length hkv
  have hlx : xs.length = kvs.length := Paired.length hp
  refine call_dict_list (knd := mixKind X.prog X.w) (more := more) (I.ok.hd hc) e (by rw [List.size_toArray]; omega) (by rw [List.size_toArray]; omega) (fun j q hj => ?_) fun h' tk dd k => ?_
  · obtain ⟨t, kv, a1, a2, a3⟩ := hm j q hj
    exact ⟨t, kv, by simpa using a1, a2, a3⟩
  · refine ⟨.ref s.heap.objs.size, upd H s.heap.objs.size (.dK kvs), I.laid k (Nat.le_refl _) ?_, rfl, q _ I.fresh⟩
    rw [merged_nil_of_nodup more (by rw [← hkv.keys]; exact hn)] at dd
    exact dk_new (by have := (by decide : 1000 ≤ sizeLine); omega) (by have := I.big; exact beq_false_of_ne (Nat.ne_of_gt this)) hkv dd
end L2

set_option Elab.async false
set_option linter.all false
set_option maxRecDepth 100000
set_option maxHeartbeats 1000000
namespace L2
open PySem PySem.Spec PyProof.Rows

/-! ### all, any of a list of truths -/
def rBools (f : List Bool → Bool) : List V → Hp → VK → Prop := fun vs H Q => ∃ l bs, vs = [.ref l] ∧ H l = some (.lst (bs.map V.bl)) ∧ Q (.bl (f bs)) H
theorem all_range {bs : List Bool} {tr : Nat → Bool} (h : ∀ i b, bs[i]? = some b → tr i = b) : (List.range bs.length).all tr = bs.all id := by
  rw [Bool.eq_iff_iff, List.all_eq_true, List.all_eq_true]
  constructor
  · intro q b hb
    obtain ⟨i, hi, e⟩ := List.mem_iff_getElem.mp hb
    have := q i (List.mem_range.mpr hi)
    rw [h i b (by rw [List.getElem?_eq_getElem hi, e])] at this
    exact this
  · intro q i hi
    have hi' := List.mem_range.mp hi
    rw [h i bs[i] (List.getElem?_eq_getElem hi')]
    exact q _ (List.getElem_mem hi')
theorem vals_bl : ∀ {bs : List Bool} {us : List Value}, Vals (bs.map V.bl) us → us = bs.map Value.bool
  | [], _, .nil => rfl
  | b :: r, _, .cons q t => by
    cases (show _ = Value.bool b from q)
    rw [vals_bl t]
    rfl
theorem call_all {X : Cx} (hc : X.calm = true) : CallR X (.builtin "all") (rBools fun bs => bs.all id) := by
  intro pins s σ H vs us Q I rv h
  obtain ⟨l, bs, rfl, hl, q⟩ := h
  obtain ⟨u, rfl, ru⟩ := rv.one
  cases ru
  obtain ⟨z, its, n, r, hlen, e⟩ := I.lstM hl
  have e2 := vals_bl r
  subst e2
  have llt : l < s.heap.objs.size := Heap.lt_size e
  have hL : s.heap.IsList l (bs.map Value.bool).toArray := ⟨_, e, rfl, _, rfl⟩
  refine call_all_walk (wpAny_pyIter_list hL ⟨s.heap.objs.size, [s.heap.objs.size, l], [s.heap.objs.size], _, _, _, fun i => bs[i]?.getD true, rfl, Walks.list (A := X.A.in1) (show X.A.in1.handled = none from I.ok.hd hc) s.heap.objs.size l (Nat.ne_of_lt llt) (bs.map Value.bool).toArray,
    (show Heap.IsListIter _ _ _ _ ∧ Heap.IsList _ _ _ from ⟨⟨_, Heap.get?_push_size _ rfl, rfl, rfl⟩, hL.push _⟩), fun i v s' Q' E' hv hq => ?_, fun h' tk k => ?_⟩)
  · have hv' : (bs.map Value.bool)[i]? = some v := by simpa using hv
    rw [List.getElem?_map] at hv'
    cases eb : bs[i]? with
    | none => rw [eb] at hv'; cases hv'
    | some b =>
      rw [eb] at hv'
      cases hv'
      have hq' : Q' b s' := by dsimp only at hq; rw [eb] at hq; exact hq
      exact wpAny_pure hq'
  · have ez : ((bs.map Value.bool).toArray).size = bs.length := by simp
    rw [ez, all_range (bs := bs) (tr := fun i => bs[i]?.getD true) (fun i b hb => by rw [hb]; rfl)]
    refine ⟨.bl _, H, I.kept fun b o qq => k b o ?_ (Heap.get?_push_of_some _ qq), rfl, q⟩
    intro hb
    have : b = s.heap.objs.size := by simpa using hb
    subst this
    exact absurd (Heap.lt_size qq) (Nat.lt_irrefl _)
/-! ### isinstance with a built-in class -/
/-- the kind of a value by its name -/
inductive Knd (H : Hp) : V → String → Prop where
  | non : Knd H .non "NoneType"
  | bl {x : Bool} : Knd H (.bl x) "bool"
  | int {i : Int} : Knd H (.int i) "int"
  | str {x : Str} : Knd H (.str x) "str"
  | lst {a : Addr} {xs : List V} (e : H a = some (.lst xs)) : Knd H (.ref a) "list"
  | tup {a : Addr} {xs : List V} (e : H a = some (.tup xs)) : Knd H (.ref a) "tuple"
  | dK {a : Addr} {kvs : List (Key × V)} (e : H a = some (.dK kvs)) : Knd H (.ref a) "dict"
theorem Knd.ty {K : PySem.W.Frag} {H : Hp} {v : V} {n : String} (h : Knd H v n) : TyOf K H v (.type n) := by
  cases h with
  | non => exact .non
  | bl => exact .bl _
  | int => exact .int _
  | str => exact .str _
  | lst e => exact .lst e
  | tup e => exact .tup e
  | dK e => exact .dK e
/-- isinstance of kinds -/
def isiK (a b : String) : Bool := a == b || (a == "bool" && b == "int")
def kinds : List String := ["NoneType", "bool", "int", "str", "list", "tuple", "dict"]
theorem kit_all {K : PySem.W.Frag} : ∀ a ∈ kinds, ∀ b ∈ kinds, PySem.W.kitOne K (.type a) (.type b) = some (isiK a b) := by
  intro a ha b hb
  have ha' : a = "NoneType" ∨ a = "bool" ∨ a = "int" ∨ a = "str" ∨ a = "list" ∨ a = "tuple" ∨ a = "dict" := by simpa [kinds] using ha
  have hb' : b = "NoneType" ∨ b = "bool" ∨ b = "int" ∨ b = "str" ∨ b = "list" ∨ b = "tuple" ∨ b = "dict" := by simpa [kinds] using hb
  rcases ha' with rfl | rfl | rfl | rfl | rfl | rfl | rfl <;> rcases hb' with rfl | rfl | rfl | rfl | rfl | rfl | rfl <;> rfl
def rIsi : List V → Hp → VK → Prop := fun vs H Q => ∃ x n T, vs = [x, .ty T] ∧ Knd H x n ∧ T ∈ kinds ∧ Q (.bl (isiK n T)) H
theorem Knd.mem {H : Hp} {v : V} {n : String} (h : Knd H v n) : n ∈ kinds := by cases h <;> simp [kinds]
theorem call_isi {X : Cx} : CallR X (.builtin "isinstance") rIsi := by
  intro pins s σ H vs us Q I rv h
  obtain ⟨x, n, T, rfl, hk, hT, q⟩ := h
  obtain ⟨u1, u2, rfl, r1, r2⟩ := rv.two
  cases (show u2 = Value.type T from r2)
  exact isinst_ok I r1 hk.ty (kit_all n hk.mem T hT) fun tk => ⟨.bl _, H, I.tok tk, rfl, q⟩
end L2

set_option Elab.async false
set_option linter.all false
set_option maxRecDepth 100000
set_option maxHeartbeats 1000000
namespace L2
open PySem PySem.Spec PyProof.Rows

/-! ### readings that compute -/
section
variable {X : Cx} {e a b c o i : Expr} {es : List Expr} {t t' ta tb tc td te : TE} {pos p p2 : Pos}
theorem PE.imp (h : PE X e t) (hi : ∀ σ H Q, t' σ H Q → t σ H Q) : PE X e t' := fun pins s σ H Q I q => h pins s σ H Q I (hi σ H Q q)
theorem PT.imp {t t' : TT} (h : PT X e t) (hi : ∀ σ H Q, t' σ H Q → t σ H Q) : PT X e t' := fun pins s σ H Q I q => h pins s σ H Q I (hi σ H Q q)
theorem PG.imp {t t' : TG} (h : PG X e t) (hi : ∀ v σ H Q, t' v σ H Q → t v σ H Q) : PG X e t' := fun pins s σ H v u Q I r q => h pins s σ H v u Q I r (hi v σ H Q q)
theorem PGs.imp {t t' : TGs} (h : PGs X es t) (hi : ∀ v σ H Q, t' v σ H Q → t v σ H Q) : PGs X es t' := fun pins s σ H v u Q I r q => h pins s σ H v u Q I r (hi v σ H Q q)
theorem OpR.imp {f : Value → Value → Sem Value} {r r' : R2} (h : OpR X f r) (hi : ∀ x y H Q, r' x y H Q → r x y H Q) : OpR X f r' := fun pins s σ H x y v u Q I rx ry q => h pins s σ H x y v u Q I rx ry (hi x y H Q q)
theorem CallR.imp {f : Value} {r r' : List V → Hp → VK → Prop} (h : CallR X f r) (hi : ∀ vs H Q, r' vs H Q → r vs H Q) : CallR X f r' := fun pins s σ H xs us Q I rv q => h pins s σ H xs us Q I rv (hi xs H Q q)
theorem IxR.imp {r r' : R2} (h : IxR X r) (hi : ∀ x y H Q, r' x y H Q → r x y H Q) : IxR X r' := fun value slice pins s σ H x y v u Q I rx ry q hs => h value slice pins s σ H x y v u Q I rx ry (hi x y H Q q) hs
theorem MtR.imp {id : String} {r r' : V → List V → Hp → VK → Prop} (h : MtR X id r) (hi : ∀ x vs H Q, r' x vs H Q → r x vs H Q) : MtR X id r' := fun pins s σ H x xs v us Q I rx rv q => h pins s σ H x xs v us Q I rx rv (hi x xs H Q q)
theorem PSet.imp {t t' : TSet} (h : PSet X t) (hi : ∀ o i v H Q, t' o i v H Q → t o i v H Q) : PSet X t' := fun pins s σ H o i v ov iv u Q I r1 r2 r3 q => h pins s σ H o i v ov iv u Q I r1 r2 r3 (hi o i v H Q q)
theorem SlR.imp {r r' : V → Option Int → Option Int → Hp → VK → Prop} (h : SlR X r) (hi : ∀ x l u H Q, r' x l u H Q → r x l u H Q) : SlR X r' := fun pins s σ H x v vl vu lo hi' sl Q I rx hs pl pu q => h pins s σ H x v vl vu lo hi' sl Q I rx hs pl pu (hi x lo hi' H Q q)

/-! names -/
def fVar (i : Nat) : TE := fun σ H Q => match σ[i]? with
  | some (some v) => Q v H
  | _ => False
theorem qv (i : Nat) {x : Str} {pos : Pos} (hN : X.N[i]? = some x := by rfl) (hv : Vis X.env.scope x := by first | exact Or.inl rfl | exact Or.inr (Or.inl rfl) | exact Or.inr (Or.inr rfl)) (hd : (x == ("__debug__" : Str)) = false := by decide)
    (hcd : (x == ("__classdict__" : Str)) = false := by decide) : PE X (.Name x pos) (fVar i) := (pe_var hN hv hd hcd).imp fun σ H Q q => by
  unfold fVar at q
  split at q
  · rename_i v e; exact ⟨v, e, q⟩
  · exact q.elim
/-! ints -/
def fI (g : Int → Int → V) : R2 := fun x y H Q => match x, y with
  | .int i, .int j => Q (g i j) H
  | _, _ => False
def fIC (C : Int → Int → Prop) (g : Int → Int → V) : R2 := fun x y H Q => match x, y with
  | .int i, .int j => C i j ∧ Q (g i j) H
  | _, _ => False
theorem fI.r {g : Int → Int → V} {x y : V} {H : Hp} {Q : VK} (h : fI g x y H Q) : rI0 g x y H Q := by
  unfold fI at h
  split at h
  · exact ⟨_, _, rfl, rfl, h⟩
  · exact h.elim
theorem fIC.r {C : Int → Int → Prop} {g : Int → Int → V} {x y : V} {H : Hp} {Q : VK} (h : fIC C g x y H Q) : rI C g x y H Q := by
  unfold fIC at h
  split at h
  · exact ⟨_, _, rfl, rfl, h.1, h.2⟩
  · exact h.elim
theorem q_add : OpR X (binaryOp .Add) (fI fun i j => .int (i + j)) := op_add.imp fun _ _ _ _ => fI.r
theorem q_sub : OpR X (binaryOp .Sub) (fI fun i j => .int (i - j)) := op_sub.imp fun _ _ _ _ => fI.r
theorem q_mul : OpR X (binaryOp .Mult) (fIC CMul fun i j => .int (i * j)) := op_mul.imp fun _ _ _ _ => fIC.r
theorem q_mod : OpR X (binaryOp .Mod) (fIC (fun _ j => 0 < j) fun i j => .int (i % j)) := op_mod.imp fun _ _ _ _ => fIC.r
theorem q_fdiv : OpR X (binaryOp .FloorDiv) (fIC CDiv fun i j => .int (i / j)) := op_fdiv.imp fun _ _ _ _ => fIC.r
theorem q_pow : OpR X (binaryOp .Pow) (fIC CPow fun i j => .int (i ^ j.toNat)) := op_pow.imp fun _ _ _ _ => fIC.r
theorem q_lt : OpR X (compareOp .Lt) (fI fun i j => .bl (decide (i < j))) := op_lt.imp fun _ _ _ _ => fI.r
theorem q_le : OpR X (compareOp .LtE) (fI fun i j => .bl (decide (i ≤ j))) := op_le.imp fun _ _ _ _ => fI.r
theorem q_gt : OpR X (compareOp .Gt) (fI fun i j => .bl (decide (i > j))) := op_gt.imp fun _ _ _ _ => fI.r
theorem q_ge : OpR X (compareOp .GtE) (fI fun i j => .bl (decide (i ≥ j))) := op_ge.imp fun _ _ _ _ => fI.r
theorem q_iadd : PIp X .Add (fI fun i j => .int (i + j)) := fun pins s σ H x y v u Q I rx ry q => iop_add pins s σ H x y v u Q I rx ry q.r
def fNeg : V → Hp → VK → Prop := fun x H Q => match x with
  | .int i => Q (.int (-i)) H
  | _ => False
theorem q_neg : UnR X (unaryOp .USub) fNeg := fun pins s σ H x v Q I rx q => by
  cases x <;> first
    | exact False.elim q
    | exact un_neg pins s σ H _ v Q I rx ⟨_, rfl, q⟩
def fEq : R2 := fun x y H Q => match x, y with
  | .int i, .int j => Q (.bl (decide (i = j))) H
  | .bl i, .bl j => Q (.bl (decide (i = j))) H
  | .str i, .str j => Q (.bl (decide (i = j))) H
  | _, _ => False
def fNe : R2 := fun x y H Q => match x, y with
  | .int i, .int j => Q (.bl (!decide (i = j))) H
  | .bl i, .bl j => Q (.bl (!decide (i = j))) H
  | .str i, .str j => Q (.bl (!decide (i = j))) H
  | _, _ => False
theorem dI (i j : Int) : decide (V.int i = V.int j) = decide (i = j) := by simp
theorem dB (i j : Bool) : decide (V.bl i = V.bl j) = decide (i = j) := by simp
theorem dS (i j : Str) : decide (V.str i = V.str j) = decide (i = j) := by simp
theorem q_eq : OpR X (compareOp .Eq) fEq := op_eq.imp fun x y H Q h => by
  unfold fEq at h
  split at h
  · exact ⟨rfl, by rw [dI]; exact h⟩
  · exact ⟨rfl, by rw [dB]; exact h⟩
  · exact ⟨rfl, by rw [dS]; exact h⟩
  · exact h.elim
theorem q_ne : OpR X (compareOp .NotEq) fNe := op_ne.imp fun x y H Q h => by
  unfold fNe at h
  split at h
  · exact ⟨rfl, by rw [dI]; exact h⟩
  · exact ⟨rfl, by rw [dB]; exact h⟩
  · exact ⟨rfl, by rw [dS]; exact h⟩
  · exact h.elim
/-- x is None -/
def isNon : V → Bool
  | .non => true
  | _ => false
def fIsN (f : Bool → Bool) : R2 := fun x y H Q => match y with
  | .non => Q (.bl (f (isNon x))) H
  | _ => False
theorem dN (x : V) : decide (x = V.non) = isNon x := by cases x <;> simp [isNon]
theorem q_isN : OpR X (compareOp .Is) (fIsN id) := op_isN.imp fun x y H Q h => by
  unfold fIsN at h
  split at h
  · exact ⟨rfl, by rw [dN]; exact h⟩
  · exact h.elim
/-! truths -/
def fAnd (ta tb : TE) : TE := fun σ H Q => ta σ H fun x H1 => match x with
  | .bl c => if c = true then tb σ H1 Q else Q (.bl false) H1
  | _ => False
def fOr (ta tb : TE) : TE := fun σ H Q => ta σ H fun x H1 => match x with
  | .bl c => if c = true then Q (.bl true) H1 else tb σ H1 Q
  | _ => False
def fNot (ta : TE) : TE := fun σ H Q => ta σ H fun x H1 => match x with
  | .bl c => Q (.bl (!c)) H1
  | _ => False
def fB (t : TE) : TT := fun σ H Q => t σ H fun x H1 => match x with
  | .bl c => Q c H1
  | _ => False
variable {rest : List Expr}
theorem q_and (ha : PE X a ta) (hb : PE X (.BoolOp .And (b :: rest) pos) tb) : PE X (.BoolOp .And (a :: b :: rest) pos) (fAnd ta tb) := by
  intro pins s σ H Q I h
  refine BoolOp_and (thn (ha pins s σ H _ I h) fun v s1 ⟨x, H1, I1, r1, q1⟩ => ?_)
  cases x <;> first
    | exact False.elim q1
    | (rename_i c
       cases r1
       refine wpAny_truthy_bool ?_
       cases c with
       | true => exact hb pins s1 σ H1 Q I1 q1
       | false => exact ⟨.bl false, H1, I1, rfl, q1⟩)
theorem q_not (ha : PE X a ta) : PE X (.UnaryOp .Not a pos) (fNot ta) := by
  intro pins s σ H Q I h
  refine UnaryOp_ (thn (ha pins s σ H _ I h) fun v s1 ⟨x, H1, I1, r1, q1⟩ => ?_)
  cases x <;> first
    | exact False.elim q1
    | (rename_i c
       cases r1
       exact not_of (wpAny_truthy_bool ⟨.bl (!c), H1, I1, rfl, q1⟩))
theorem qt_val {t : TE} (h : PE X e t) (he : ∀ whole, isTrue e X.env whole = (do let v ← whole; standAt e.pos; holding [v] (truthy v)) := by intro _; rfl) : PT X e (fB t) := by
  intro pins s σ H Q I hw
  refine isTrue_plain (thn (h pins s σ H _ I hw) fun v s1 ⟨x, H1, I1, r1, q1⟩ => ?_) (he _)
  cases x <;> first
    | exact False.elim q1
    | (cases r1
       exact wpAny_truthy_bool ⟨H1, I1, q1⟩)
theorem qt_cmp {op : CmpOp} {r : R2} (ho : OpR X (compareOp op) r) (ha : PE X a ta) (hb : PE X b tb) (hm : behindInMarks op b = false) : PT X (.Compare a [op] [b] pos) (fB (tOp r ta tb)) := by
  intro pins s σ H Q I h
  refine wpAny_isTrue_Compare1 (thn (ha pins s σ H _ I h) fun v s1 ⟨x, H1, I1, r1, q1⟩ => thn (hb pins s1 σ H1 _ I1 q1) fun u s2 ⟨y, H2, I2, r2, q2⟩ =>
    thn (ho pins s2 σ H2 x y v u _ I2 r1 r2 q2) fun c s3 ⟨z, H3, I3, r3, q3⟩ => ?_) hm
  cases z <;> first
    | exact False.elim q3
    | (cases r3
       exact wpAny_truthy_bool ⟨H3, I3, q3⟩)
theorem qt_pc {op : CmpOp} {t : TE} (h : PC X op a b t) (h1 : behindInMarks op b = false := by first | exact nobehind _ (by decide) (by decide) | rfl) : PT X (.Compare a [op] [b] pos) (fB t) := by
  intro pins s σ H Q I hw
  refine wpAny_isTrue_Compare1 (thn (h pins s σ H _ I hw) fun v s1 h1 => thn h1 fun u s2 h2 => thn h2 fun c s3 ⟨x, H1, I1, r1, q1⟩ => ?_) h1
  cases x <;> first
    | exact False.elim q1
    | (cases r1
       exact wpAny_truthy_bool ⟨H1, I1, q1⟩)
def fChain (r r' : R2) (ta tb tc : TE) : TE := fun σ H Q => ta σ H fun x H1 => tb σ H1 fun y H2 => r x y H2 fun z H3 => match z with
  | .bl k => (if k = true then tc σ H3 fun w' H4 => r' y w' H4 Q else Q (.bl false) H3)
  | _ => False
theorem q_chain {op op' : CmpOp} {g : Int → Int → Bool} {r' : R2} (ho : OpR X (compareOp op) (fI fun i j => .bl (g i j))) (ho' : OpR X (compareOp op') r') (ha : PE X a ta) (hb : PE X b tb) (hc : PE X c tc)
    (hm : lastMarks [op, op'] [b, c] = false := by with_unfolding_all rfl) : PE X (.Compare a [op, op'] [b, c] pos) (fChain (fI fun i j => .bl (g i j)) r' ta tb tc) := by
  intro pins s σ H Q I h
  refine Compare_chain (thn (ha pins s σ H _ I h) fun v s1 ⟨x, H1, I1, r1, q1⟩ => chain_link (thn (hb pins s1 σ H1 _ I1 q1) fun u s2 ⟨y, H2, I2, r2, q2⟩ =>
    thn (ho pins s2 σ H2 x y v u (fun z H3 => ∃ k, z = .bl k ∧ (if k = true then tc σ H3 fun w' H4 => r' y w' H4 Q else Q (.bl false) H3)) I2 r1 r2 ?_) fun d s3 ⟨z, H3, I3, r3, k, e, q3⟩ => ?_)) hm
  · dsimp only at q2
    unfold fI at q2 ⊢
    cases x <;> cases y <;> first
      | exact q2.elim
      | exact ⟨_, rfl, q2⟩
  · subst e
    cases r3
    refine wpAny_truthy_bool ?_
    cases k with
    | false => exact ite_ff ⟨.bl false, H3, I3, rfl, q3⟩
    | true => exact ite_tt (chain_last (thn (hc pins s3 σ H3 _ I3 q3) fun w' s4 ⟨z', H4, I4, r4, q4⟩ => ho' pins s4 σ H4 y z' u w' Q I4 r2 r4 q4))
/-! lists and tuples that are read -/
def seqOf (H : Hp) (p : Addr) : Option (List V) := match H p with
  | some (.lst xs) => some xs
  | some (.tup xs) => some xs
  | some (.frz _ (.lst xs)) => some xs
  | _ => none
theorem seqOf_or {K : PySem.W.Frag} {H : Hp} {p : Addr} {xs : List V} (h : seqOf H p = some xs) : SqL K H p xs ∨ SqT K H p xs := by
  unfold seqOf at h
  split at h
  · rename_i ys e; cases h; exact .inl (.inl (.inl e))
  · rename_i ys e; cases h; exact .inr (SqT.of e)
  · rename_i o ys e; cases h; exact .inl (.inl (.inr ⟨_, e⟩))
  · cases h
def fIx : R2 := fun x y H Q => match x, y with
  | .ref p, .int i => match seqOf H p with
    | some xs => match atI xs i with
      | some v => Q v H
      | none => False
    | none => False
  | _, _ => False
theorem q_ix : IxR X fIx := (ix_list.or ix_tup).imp fun x y H Q h => by
  unfold fIx at h
  split at h
  · split at h
    · rename_i xs e
      split at h
      · rename_i v ev
        rcases seqOf_or (K := X.K) e with z | z
        · exact .inl ⟨_, _, _, _, rfl, rfl, z, ev, h⟩
        · exact .inr ⟨_, _, _, _, rfl, rfl, z, ev, h⟩
      · exact h.elim
    · exact h.elim
  · exact h.elim
def fLen : List V → Hp → VK → Prop := fun vs H Q => match vs with
  | [.ref p] => match seqOf H p with
    | some xs => Q (.int xs.length) H
    | none => False
  | _ => False
theorem q_len : CallR X (.builtin "len") fLen := call_len_seq.imp fun vs H Q h => by
  unfold fLen at h
  split at h
  · split at h
    · rename_i xs e; exact ⟨_, xs, rfl, seqOf_or e, h⟩
    · exact h.elim
  · exact h.elim
def fListOf : List V → Hp → VK → Prop := fun vs H Q => match vs with
  | [.ref p] => match seqOf H p with
    | some xs => ∀ l, H l = none → Q (.ref l) (upd H l (.lst xs))
    | none => False
  | _ => False
theorem q_listOf : CallR X (.type "list") fListOf := call_list_of.imp fun vs H Q h => by
  unfold fListOf at h
  split at h
  · split at h
    · rename_i xs e; exact ⟨_, xs, rfl, seqOf_or e, h⟩
    · exact h.elim
  · exact h.elim
def fMin : List V → Hp → VK → Prop := fun vs H Q => match vs with
  | [.int i, .int j] => Q (.int (if j < i then j else i)) H
  | _ => False
theorem q_min (hc : X.calm = true) : CallR X (.builtin "min") fMin := (call_min2 hc).imp fun vs H Q h => by
  unfold fMin at h
  split at h
  · exact ⟨_, _, rfl, h⟩
  · exact h.elim
def fSlL : V → Option Int → Option Int → Hp → VK → Prop := fun x lo hi H Q => match x with
  | .ref a => match H a with
    | some (.lst xs) => ∀ p, H p = none → Q (.ref p) (upd H p (.lst (cutV xs lo hi)))
    | _ => False
  | _ => False
def fAppend : V → List V → Hp → VK → Prop := fun x vs H Q => match x, vs with
  | .ref l, [y] => match H l with
    | some (.lst xs) => xs.length < sizeLine ∧ Q .non (upd H l (.lst (xs ++ [y])))
    | _ => False
  | _, _ => False
theorem q_append : MtR X "list.append" fAppend := MtR.imp (r := rAppend) (fun pins s σ H x xs v us Q I rx rv q => mt_append pins s σ H x xs v us Q I rx rv q) fun x vs H Q h => by
  unfold fAppend at h
  split at h
  · split at h
    · rename_i xs e; exact ⟨_, xs, _, rfl, rfl, e, h.1, h.2⟩
    · exact h.elim
  · exact h.elim
/-- o.m(..) of a list that is tracked -/
def fBM (r : V → List V → Hp → VK → Prop) (to : TE) (t : TA) : TE := fun σ H Q => to σ H fun x H1 => (∃ a xs, x = .ref a ∧ H1 a = some (.lst xs)) ∧ t σ H1 fun xs H2 => r x xs H2 Q
def fSetL : TSet := fun o i v H Q => match o, i with
  | .ref p, .int k => match H p with
    | some (.lst xs) => match ixN xs.length k with
      | some j => Q (upd H p (.lst (xs.set j v)))
      | none => False
    | _ => False
  | _, _ => False
theorem q_setL : PSet X fSetL := set_list.imp fun o i v H Q h => by
  unfold fSetL at h
  split at h
  · split at h
    · rename_i xs e
      split at h
      · rename_i j ej; exact ⟨_, xs, _, j, rfl, rfl, e, ej, h⟩
      · exact h.elim
    · exact h.elim
  · exact h.elim
/-! targets -/
def fGNil : TGs := fun vs σ H Q => match vs with
  | [] => Q σ H
  | _ => False
def fGCons (t : TG) (u : TGs) : TGs := fun vs σ H Q => match vs with
  | v :: r => t v σ H fun σ' H' => u r σ' H' Q
  | [] => False
theorem qgs_nil : PGs X [] fGNil := pgs_nil.imp fun v σ H Q h => by
  unfold fGNil at h
  split at h
  · exact ⟨rfl, h⟩
  · exact h.elim
theorem qgs_cons {t : TG} {u : TGs} (h1 : PG X e t) (h2 : PGs X es u) (hs : (assignEach (e :: es) X.env).map (·.2) = assign e X.env :: (assignEach es X.env).map (·.2) := by rfl) : PGs X (e :: es) (fGCons t u) := (pgs_cons h1 h2 hs).imp fun v σ H Q h => by
  unfold fGCons at h
  split at h
  · exact ⟨_, _, rfl, h⟩
  · exact h.elim
def fGTup (n : Nat) (t : TGs) : TG := fun v σ H Q => match v with
  | .ref a => match H a with
    | some (.tup xs) => xs.length = n ∧ t xs σ H Q
    | _ => False
  | _ => False
theorem qg_tup {k : Nat} {t : TGs} {n : Nat} (hc : X.calm = true) (h : PGs X es t) (hn : (assignEach es X.env).length = n := by rfl) (hst : (assignEach es X.env).findIdx? (·.1) = none := by rfl) : PG X (.Tuple es k pos) (fGTup n t) :=
  (pg_tup hc h hn hst).imp fun v σ H Q q => by
    unfold fGTup at q
    split at q
    · split at q
      · rename_i xs e; exact ⟨_, xs, rfl, SqT.of e, q.1, q.2⟩
      · exact q.elim
    · exact q.elim
/-! dicts by ints -/
def fDIn (f : Bool → Bool) (ty td : TE) : TE := fun σ H Q => ty σ H fun y H1 => td σ H1 fun x H2 => match y, x with
  | .int n, .ref a => match H2 a with
    | some (.dK kvs) => Q (.bl (f (valV kvs (Sum.inl n : Key)).isSome)) H2
    | _ => False
  | _, _ => False
def fDGet (td ty : TE) : TE := fun σ H Q => td σ H fun x H1 => ty σ H1 fun y H2 => match x, y with
  | .ref a, .int n => match H2 a with
    | some (.dK kvs) => match valV kvs (Sum.inl n : Key) with
      | some v => Q v H2
      | none => False
    | _ => False
  | _, _ => False
end
section
variable {X : Cx} {o i : Expr} {td ty : TE} {pos : Pos}
theorem PC.imp {op : CmpOp} {a b : Expr} {t t' : TE} (h : PC X op a b t) (hi : ∀ σ H Q, t' σ H Q → t σ H Q) : PC X op a b t' := fun pins s σ H Q I q => h pins s σ H Q I (hi σ H Q q)
theorem fDIn_r {f : Bool → Bool} {H2 : Hp} {Q : VK} {y x : V} (h : (match y, x with
  | .int n, .ref a => match H2 a with
    | some (.dK kvs) => Q (.bl (f (valV kvs (Sum.inl n : Key)).isSome)) H2
    | _ => False
  | _, _ => False)) : ∃ a ov, x = .ref a ∧ DGet H2 a y ov ∧ Q (.bl (f ov.isSome)) H2 := by
  cases y <;> cases x <;> first
    | exact h.elim
    | (rename_i n a
       dsimp only at h
       split at h
       · rename_i kvs e; exact ⟨a, _, rfl, DGet.k (k := Sum.inl n) e, h⟩
       · exact h.elim)
theorem q_din (hu : X.A.units + 1 < cLine) (hi : PE X i ty) (ho : PE X o td) : PC X .In i o (fDIn id ty td) := by
  intro pins s σ H Q I h
  refine thn (hi pins s σ H _ I h) fun iv s1 ⟨y, H1, I1, ry, q1⟩ => thn (ho pins s1 σ H1 _ I1 q1) fun u s2 ⟨x, H2, I2, rx, q2⟩ => ?_
  obtain ⟨a, ov, ex, g, q3⟩ := fDIn_r q2
  subst ex
  obtain rfl : u = Value.ref a := rx
  exact d_in hu I2 g ry fun s' I3 => ⟨.bl ov.isSome, H2, I3, rfl, q3⟩
theorem q_dnotin (hu : X.A.units + 1 < cLine) (hi : PE X i ty) (ho : PE X o td) : PC X .NotIn i o (fDIn not ty td) := by
  intro pins s σ H Q I h
  refine thn (hi pins s σ H _ I h) fun iv s1 ⟨y, H1, I1, ry, q1⟩ => thn (ho pins s1 σ H1 _ I1 q1) fun u s2 ⟨x, H2, I2, rx, q2⟩ => ?_
  obtain ⟨a, ov, ex, g, q3⟩ := fDIn_r q2
  subst ex
  obtain rfl : u = Value.ref a := rx
  exact d_notIn hu I2 g ry fun s' I3 => ⟨.bl (!ov.isSome), H2, I3, rfl, q3⟩
theorem q_dget (hu : X.A.units + 1 < cLine) (ho : PE X o td) (hi : PE X i ty) (hs : NoSl i) : PE X (.Subscript o i pos) (fDGet td ty) := by
  intro pins s σ H Q I h
  refine subD_of PySem.F.slot_dict_getitem.lookup hs (thn (ho pins s σ H _ I h) fun u s1 ⟨x, H1, I1, rx, q1⟩ => thn (hi pins s1 σ H1 _ I1 q1) fun iv s2 ⟨y, H2, I2, ry, q2⟩ => ?_)
  cases x <;> cases y <;> first
    | exact False.elim q2
    | (dsimp only at q2
       split at q2
       · rename_i kvs e
         split at q2
         · rename_i v ev
           cases rx
           have g : ∀ {a : Addr} {n : Int}, H2 a = some (.dK kvs) → valV kvs (Sum.inl n : Key) = some v → DGet H2 a (.int n) (some v) := fun e1 e2 => e2 ▸ DGet.k (k := Sum.inl _) e1
           have g := g e ev
           exact ⟨dict_typeIs I2 g, d_getItem hu I2 g ry fun w' s3 I3 rw' => ⟨v, H2, I3, rw', q2⟩⟩
         · exact q2.elim
       · exact q2.elim)
/-! methods of lists -/
theorem q_bm {e : Expr} {es : List Expr} {to : TE} {t : TA} {name : Str} {apos cpos : Pos} {id : String} {r : V → List V → Hp → VK → Prop} (pa : PlainAttrs "list") (slot : Slot "list" name id) (hty : typeOf (.builtin id) = pure (.type "method_descriptor")) (hm : MtR X id r) (ho : PE X o to) (ha : PA X (e :: es) t)
    (hbase : attributeBase o name X.env (eval o X.env) = eval o X.env := by rfl)
    (hfew : ((backTo cpos (starEach (e :: es) X.env)).all (fun x => !x.1) && (backToKw cpos (keywordEach [] X.env)).all (fun x => x.1.isSome)
      && decide ((e :: es).length + ([] : List Keyword).length + (if ([] : List Keyword).isEmpty then 0 else 1) < 30)) = true := by rfl)
    (hline : (apos.endLine == cpos.line) = true := by rfl) (hs : starEach (e :: es) X.env = (false, eval e X.env) :: starEach es X.env := by rfl) (hplain : (backTo cpos (starEach es X.env)).any (·.1) = false := by rfl) :
    PE X (.Call (.Attribute o name apos) (e :: es) [] cpos) (fBM r to t) := by
  intro pins s σ H Q I h
  refine wpAny_Call_method_late hbase hfew hline rfl (thn (ho pins s σ H _ I h) fun v s1 ⟨x, H1, I1, r1, ⟨a, xs, ex, ea⟩, q1⟩ => ?_)
  subst ex
  obtain ⟨h1, h2⟩ := tyV_is (T := "list") I1 r1 (.inl ⟨rfl, _, SqL.of ea⟩)
  refine ⟨"list", id, pa, slot, hty, h1, h2, ?_⟩
  have hA := ha cpos pins s1 σ H1 _ I1 q1
  rw [hs] at hA ⊢
  refine Calls.callWith_builtin (by show (false || (backTo cpos (starEach es X.env)).any (·.1)) = false; rw [hplain] <;> rfl) (Calls.evalArgs_plain ?_)
  exact thn hA fun us s2 ⟨vs, H2, I2, r2, q2⟩ => hm pins s2 σ H2 _ vs v us Q I2 r1 r2 q2
end
/-! kinds -/
inductive Kd where
  | non | bl | int | str | lst | tup | dct
  deriving DecidableEq
def Kd.nm : Kd → String
  | .non => "NoneType"
  | .bl => "bool"
  | .int => "int"
  | .str => "str"
  | .lst => "list"
  | .tup => "tuple"
  | .dct => "dict"
def kd (H : Hp) (v : V) : Option Kd := match v with
  | .non => some .non
  | .bl _ => some .bl
  | .int _ => some .int
  | .str _ => some .str
  | .ref a => match H a with
    | some (.lst _) => some .lst
    | some (.tup _) => some .tup
    | some (.dK _) => some .dct
    | _ => none
  | _ => none
def isi (a b : Kd) : Bool := match a, b with
  | .bl, .int => true
  | .non, .non => true
  | .bl, .bl => true
  | .int, .int => true
  | .str, .str => true
  | .lst, .lst => true
  | .tup, .tup => true
  | .dct, .dct => true
  | _, _ => false
theorem kd_knd {H : Hp} {v : V} {k : Kd} (h : kd H v = some k) : Knd H v k.nm := by
  unfold kd at h
  split at h
  · cases h; exact .non
  · cases h; exact .bl
  · cases h; exact .int
  · cases h; exact .str
  · split at h
    · rename_i e; cases h; exact .lst e
    · rename_i e; cases h; exact .tup e
    · rename_i e; cases h; exact .dK e
    · cases h
  · cases h
theorem isi_K (a b : Kd) : isiK a.nm b.nm = isi a b := by cases a <;> cases b <;> rfl
theorem Kd.mem (b : Kd) : b.nm ∈ kinds := by cases b <;> simp [kinds, Kd.nm]
def fIsi (T : Kd) : List V → Hp → VK → Prop := fun vs H Q => match vs with
  | [x, y] => y = .ty T.nm ∧ match kd H x with
    | some k => Q (.bl (isi k T)) H
    | none => False
  | _ => False
theorem q_isi {X : Cx} (T : Kd) : CallR X (.builtin "isinstance") (fIsi T) := call_isi.imp fun vs H Q h => by
  unfold fIsi at h
  split at h
  · obtain ⟨rfl, h⟩ := h
    split at h
    · rename_i k e
      exact ⟨_, _, _, rfl, kd_knd e, Kd.mem T, by rw [isi_K]; exact h⟩
    · exact h.elim
  · exact h.elim
/-! x op= e -/
def fAug (i : Nat) (te : TE) (ti : TIp) : TS := fun D σ H => match σ[i]? with
  | some (some x) => te σ H fun y H1 => ti x y H1 fun z H2 => D.nx (σ.set i (some z)) H2
  | _ => False
theorem qs_aug {X : Cx} {pos : Pos} {i : Nat} {x : Str} {e : Expr} {te : TE} {op : Operator} {ti : TIp} {pos' : Pos} (hN : X.N.Nodup) (hi : X.N[i]? = some x) (hx : Loc X.env.scope x) (he : PE X e te) (ho : PIp X op ti) (hf : X.fn x = true ∨ X.env.scope.names.lookup x = some .local := by first | exact .inl rfl | exact .inr rfl | assumption) :
    PS X (.AugAssign (.Name x pos') op e pos) (fAug i te ti) := fun pins s σ H D I h => ps_aug hN hi hx he ho hf pins s σ H D I (by
  unfold fAug at h
  split at h
  · rename_i x e; exact ⟨x, e, h⟩
  · exact h.elim)
/-! a slice's part -/
def fPart (t : TE) : TO := fun σ H Q => t σ H fun x H1 => match x with
  | .int i => Q (some i) H1
  | _ => False
/-! all -/
def fBools (f : List Bool → Bool) : List V → Hp → VK → Prop := fun vs H Q => match vs with
  | [.ref l] => match H l with
    | some (.lst xs) => ∃ bs : List Bool, xs = bs.map V.bl ∧ Q (.bl (f bs)) H
    | _ => False
  | _ => False
theorem fBools_r {f : List Bool → Bool} {vs : List V} {H : Hp} {Q : VK} (h : fBools f vs H Q) : rBools f vs H Q := by
  unfold fBools at h
  split at h
  · split at h
    · rename_i xs e
      obtain ⟨bs, rfl, h⟩ := h
      exact ⟨_, bs, rfl, e, h⟩
    · exact h.elim
  · exact h.elim
theorem q_all {X : Cx} (hc : X.calm = true) : CallR X (.builtin "all") (fBools fun bs => bs.all id) := (call_all hc).imp fun _ _ _ => fBools_r
/-! dict(pairs) -/
def fDictL : List V → Hp → VK → Prop := fun vs H Q => match vs with
  | [.ref l] => match H l with
    | some (.lst xs) => ∃ kvs : List (Key × V), Paired (PairAt H) xs kvs ∧ xs.length ≤ 1000 ∧ (kvs.map (·.1)).Nodup ∧ ∀ d, H d = none → Q (.ref d) (upd H d (.dK kvs))
    | _ => False
  | _ => False
theorem q_dictL {X : Cx} (hc : X.calm = true) : CallR X (.type "dict") fDictL := (call_dictL hc).imp fun vs H Q h => by
  unfold fDictL at h
  split at h
  · split at h
    · rename_i xs e
      obtain ⟨kvs, h1, h2, h3, h4⟩ := h
      exact ⟨_, xs, kvs, rfl, e, h1, h2, h3, h4⟩
    · exact h.elim
  · exact h.elim
/-! tuples of ints in order -/
def fLtT : R2 := fun x y H Q => match x, y with
  | .ref a, .ref b => match H a, H b with
    | some (.tup [.int i, .int j]), some (.tup [.int k, .int l]) => Q (.bl (HT.lexLt [i, j] [k, l])) H
    | _, _ => False
  | _, _ => False
theorem q_ltT {X : Cx} (hu : X.A.units < cLine) : OpR X (compareOp .Lt) fLtT := (op_ltT hu).imp fun x y H Q h => by
  unfold fLtT at h
  split at h
  · split at h
    · rename_i a b _ _ i j k l e1 e2
      exact ⟨a, b, [i, j], [k, l], rfl, rfl, SqT.of e1, SqT.of e2, h⟩
    · exact h.elim
  · exact h.elim
/-! the block's scope, checked -/
def capB (XN : List Str) (names : List (Str × NameKind)) : List Str → List (Option Nat) → Bool
  | [], [] => true
  | x :: N, none :: r => capB XN names N r
  | x :: N, some j :: r => (XN[j]? == some x) && (names.lookup x == some .free) && capB XN names N r
  | _, _ => false
theorem capB_ok {XN : List Str} {names : List (Str × NameKind)} : ∀ {N : List Str} {src : List (Option Nat)}, capB XN names N src = true → src.length = N.length ∧ ∀ (i j : Nat), src[i]? = some (some j) → XN[j]? = N[i]? ∧ (N[i]?).elim False (fun x => names.lookup x = some .free)
  | [], [], _ => ⟨rfl, fun i j e => by simp at e⟩
  | x :: N, none :: r, h => by
    obtain ⟨h1, h2⟩ := capB_ok (N := N) (src := r) h
    refine ⟨by simp [h1], fun i j e => ?_⟩
    cases i with
    | zero => simp at e
    | succ i => exact h2 i j (by simpa using e)
  | x :: N, some k :: r, h => by
    have h' : ((XN[k]? == some x) && (names.lookup x == some .free) && capB XN names N r) = true := h
    rw [Bool.and_eq_true, Bool.and_eq_true] at h'
    obtain ⟨h1, h2⟩ := capB_ok (N := N) (src := r) h'.2
    refine ⟨by simp [h1], fun i j e => ?_⟩
    cases i with
    | zero =>
      have e' : k = j := by simpa using e
      subst e'
      exact ⟨by simpa using h'.1.1, by simpa using h'.1.2⟩
    | succ i => exact h2 i j (by simpa using e)
def nodupB : List Str → Bool
  | [] => true
  | x :: r => !(r.contains x) && nodupB r
theorem nodupB_ok : ∀ {l : List Str}, nodupB l = true → l.Nodup
  | [], _ => List.nodup_nil
  | x :: r, h => by
    have h' : (!(r.contains x) && nodupB r) = true := h
    rw [Bool.and_eq_true] at h'
    exact List.nodup_cons.mpr ⟨by simpa using h'.1, nodupB_ok h'.2⟩
def cpB (XN : List Str) (outer : List (Str × NameKind)) (scope : Scope) (N : List Str) (src : List (Option Nat)) : Bool :=
  (scope.kind == .function) && scope.names.all (fun y => y.2 != .cell) && scope.names.all (fun y => y.2 != .local || scope.names.lookup y.1 == some .local) &&
    scope.names.all (fun y => y.2 != .free || (scope.names.lookup y.1 == some .free && outer.lookup y.1 == some .cell)) && nodupB N && capB XN scope.names N src
theorem CpScope.of {X : Cx} {scope : Scope} {N : List Str} {src : List (Option Nat)} (h : cpB X.N X.env.scope.names scope N src = true) : CpScope X scope N src := by
  unfold cpB at h
  simp only [Bool.and_eq_true] at h
  obtain ⟨⟨⟨⟨⟨h1, h2⟩, h3⟩, h4⟩, h5⟩, h6⟩ := h
  rw [List.all_eq_true] at h2 h3 h4
  obtain ⟨l, c⟩ := capB_ok h6
  refine ⟨by simpa using h1, fun y hy => by simpa using h2 y hy, fun y hy e => ?_, fun y hy e => ?_, nodupB_ok h5, l, c⟩
  · have := h3 y hy
    rw [e] at this
    simpa using this
  · have := h4 y hy
    rw [e] at this
    simpa using this
end L2

set_option Elab.async false
set_option linter.all false
set_option maxRecDepth 100000
set_option maxHeartbeats 1000000
namespace L2
open PySem PySem.Spec PyProof.Rows
/-! ### loops over enumerate, zip -/
theorem for_enum {K : PySem.W.Frag} {a : Addr} {xs : List V} {g : TG} {tb : TS} {D : Ends} {σ : St} {H : Hp} (Pv : Nat → St → Hp → Prop) (h0 : Pv 0 σ H) (hl : ∀ i σ H, i ≤ xs.length → Pv i σ H → SqL K H a xs)
    (hs : ∀ i x σ H t, xs[i]? = some x → Pv i σ H → H t = none → g (.ref t) σ (upd H t (.tup [.int i, x])) fun σ2 H2 => tb { D with nx := Pv (i + 1), ct := Pv (i + 1), bk := D.nx } σ2 H2) (hd : ∀ σ H, Pv xs.length σ H → D.nx σ H) :
    ∃ W : Nat → Nat → St → Hp → Prop, (∃ m, W 0 m σ H) ∧ ∀ i m σ H, W i m σ H →
      ((Ite K a).stop i H ∧ D.nx σ H) ∨ ((Ite K a).go i H ∧ ∃ N : St → Hp → Prop, (∀ σ' H', N σ' H' → ∃ m', m' < m ∧ W (i + 1) m' σ' H') ∧ ∀ x H', (Ite K a).yld i H x H' → g x σ H' fun σ2 H2 => tb { D with nx := N, ct := N, bk := D.nx } σ2 H2) := by
  refine ⟨fun i m σ H => m = xs.length - i ∧ i ≤ xs.length ∧ Pv i σ H, ⟨xs.length, by simp, Nat.zero_le _, h0⟩, ?_⟩
  rintro i m σ H ⟨rfl, hi, p⟩
  have q := hl i σ H hi p
  by_cases hlt : i < xs.length
  · refine .inr ⟨⟨xs, xs[i], q, by simp [hlt]⟩, Pv (i + 1), fun σ' H' p' => ⟨xs.length - (i + 1), by omega, rfl, hlt, p'⟩, fun x H' y => ?_⟩
    obtain ⟨t, z, ht, e1, e2, y⟩ := y
    subst e1 e2
    exact hs i z σ _ t (y xs q) p ht
  · have e : i = xs.length := by omega
    subst e
    exact .inl ⟨⟨xs, q, Nat.le_refl _⟩, hd σ H p⟩
/-- what a loop walks, found first -/
theorem tFor_hide {wi : TI} {g : TG} {tb : TS} {D : Ends} {σ : St} {H : Hp} (J : It) (H1 : Hp) (h1 : ∀ R : It → Hp → Prop, R J H1 → wi σ H R)
    (h2 : ∃ W : Nat → Nat → St → Hp → Prop, (∃ m, W 0 m σ H1) ∧ ∀ i m σ H, W i m σ H → (J.stop i H ∧ D.nx σ H) ∨ (J.go i H ∧ ∃ N : St → Hp → Prop, (∀ σ' H', N σ' H' → ∃ m', m' < m ∧ W (i + 1) m' σ' H') ∧ ∀ x H', J.yld i H x H' → g x σ H' fun σ2 H2 => tb { D with nx := N, ct := N, bk := D.nx } σ2 H2)) :
    tFor wi g tb D σ H := h1 _ h2
theorem tComp_hide {src : List (Option Nat)} {wi : TI} {g : TG} {tc : TT} {te : TE} {Q : VK} {σ : St} {H : Hp} (J : It) (H1 : Hp) (h1 : ∀ R : It → Hp → Prop, R J H1 → wi σ H R) (h2 : ∀ l, H1 l = none → CWant J src g tc te Q σ H1 l) : tComp src wi g tc te σ H Q := h1 _ h2
/-! ### heaps that grow -/
theorem same_new {H : Hp} {p : Addr} (h : H p = none) (o : HO) : Same H (upd H p o) := fun b u q => by rw [upd_ne (ne_of_none q h)]; exact q
theorem same_upd {H H' : Hp} {p : Addr} {o : HO} (s : Same H H') (h : H p = none) : Same H (upd H' p o) := fun b u q => by rw [upd_ne (ne_of_none q h)]; exact s b u q
/-- two whole numbers in a tuple -/
def Pr (H : Hp) (v : V) (p : Int × Int) : Prop := ∃ t, v = .ref t ∧ H t = some (.tup [.int p.1, .int p.2])
theorem Pr.same {H H' : Hp} {v : V} {p : Int × Int} (h : Pr H v p) (s : Same H H') : Pr H' v p := let ⟨t, e, q⟩ := h; ⟨t, e, s _ _ q⟩
/-- tuples stay, and what is known to the object -/
def isImm : HO → Bool
  | .tup _ => true
  | .frz _ _ => true
  | _ => false
def TupS (H H' : Hp) : Prop := ∀ b o, isImm o = true → H b = some o → H' b = some o
theorem Same.tups {H H' : Hp} (s : Same H H') : TupS H H' := fun b o _ q => s b _ q
theorem TupS.trans {H H1 H2 : Hp} (a : TupS H H1) (b : TupS H1 H2) : TupS H H2 := fun c o i q => b c o i (a c o i q)
theorem TupS.refl (H : Hp) : TupS H H := fun _ _ _ q => q
theorem tups_lst {H : Hp} {l : Addr} {xs ys : List V} (h : H l = some (.lst xs)) : TupS H (upd H l (.lst ys)) := fun b o i q => by
  have : b ≠ l := fun z => by rw [z, h] at q; cases q; cases i
  rw [upd_ne this]
  exact q
theorem tups_new {H : Hp} {l : Addr} {o : HO} (h : H l = none) : TupS H (upd H l o) := (same_new h o).tups
theorem Pr.tups {H H' : Hp} {v : V} {p : Int × Int} (h : Pr H v p) (s : TupS H H') : Pr H' v p := let ⟨t, e, q⟩ := h; ⟨t, e, s _ _ rfl q⟩
/-- the script -/
def Scr (K : PySem.W.Frag) (H : Hp) (a : Addr) (ns : List Int) : Prop :=
  (∃ o, H a = some (.frz o (.lst (ns.map V.int)))) ∨ ∃ (o : Obj) (its : Array Value) (n : Nat), K.lookup a = some o ∧ o.cls = .type "list" ∧ o.dict = none ∧ o.data = .seq its n ∧ its.size ≤ sizeLine ∧ Vals (ns.map V.int) its.toList
theorem Scr.sq {K : PySem.W.Frag} {H : Hp} {a : Addr} {ns : List Int} (h : Scr K H a ns) : SqL K H a (ns.map V.int) := h.elim (fun ⟨o, q⟩ => .inl (.inr ⟨o, q⟩)) .inr
theorem Scr.of {K : PySem.W.Frag} {H : Hp} {a : Addr} {ns : List Int} (h : SqL K H a (ns.map V.int)) (o : Only H) : Scr K H a ns := by
  rcases h with (h | ⟨ob, h⟩) | h
  · rcases o a with z | ⟨ob, xs, z⟩
    · rw [h] at z; cases z
    · rw [h] at z; cases z
  · exact .inl ⟨ob, h⟩
  · exact .inr h
theorem Scr.tups {K : PySem.W.Frag} {H H' : Hp} {a : Addr} {ns : List Int} (h : Scr K H a ns) (s : TupS H H') : Scr K H' a ns := h.elim (fun ⟨o, q⟩ => .inl ⟨o, s _ _ rfl q⟩) .inr
abbrev Prs (H : Hp) : List V → List (Int × Int) → Prop := Paired (Pr H)
theorem Prs.tups {H H' : Hp} (s : TupS H H') {xs : List V} {ps : List (Int × Int)} (h : Prs H xs ps) : Prs H' xs ps := Paired.mapP h fun _ _ q => q.tups s
theorem Prs.same {H H' : Hp} (s : Same H H') {xs : List V} {ps : List (Int × Int)} (h : Prs H xs ps) : Prs H' xs ps := Prs.tups s.tups h
theorem paired_left {α β : Type} {F : α → β → Prop} : ∀ {xs : List α} {ys : List β} {i : Nat} {x : α}, Paired F xs ys → xs[i]? = some x → ∃ y, ys[i]? = some y ∧ F x y
  | _, _, _, _, .nil, e => by simp at e
  | _, _, 0, _, .cons r _, e => by simp at e; subst e; exact ⟨_, rfl, r⟩
  | _, _, i + 1, y, .cons _ t, e => by
    obtain ⟨u, h1, h2⟩ := paired_left (i := i) t (by simpa using e)
    exact ⟨u, by simpa using h1, h2⟩
theorem paired_right {α β : Type} {F : α → β → Prop} : ∀ {xs : List α} {ys : List β} {i : Nat} {y : β}, Paired F xs ys → ys[i]? = some y → ∃ x, xs[i]? = some x ∧ F x y
  | _, _, _, _, .nil, e => by simp at e
  | _, _, 0, _, .cons r _, e => by simp at e; subst e; exact ⟨_, rfl, r⟩
  | _, _, i + 1, y, .cons _ t, e => by
    obtain ⟨u, h1, h2⟩ := paired_right (i := i) t (by simpa using e)
    exact ⟨u, by simpa using h1, h2⟩
theorem paired_snoc {α β : Type} {F : α → β → Prop} {a : α} {b : β} {l₁ : List α} {l₂ : List β} (h : Paired F l₁ l₂) (r : F a b) : Paired F (l₁ ++ [a]) (l₂ ++ [b]) := Paired.snoc h r
theorem drop_get {α : Type} {l : List α} {i : Nat} {x : α} (h : l[i]? = some x) : l.drop i = x :: l.drop (i + 1) := by
  obtain ⟨h1, h2⟩ := List.getElem?_eq_some_iff.mp h
  rw [List.drop_eq_getElem_cons h1, h2]
theorem take_get {α : Type} {l : List α} {i : Nat} {x : α} (h : l[i]? = some x) : l.take (i + 1) = l.take i ++ [x] := by
  obtain ⟨h1, h2⟩ := List.getElem?_eq_some_iff.mp h
  rw [List.take_succ, h]
  rfl
/-! ### data: numbers, truths, texts, tuples, lists -/
inductive Dt where
  | non
  | bl (b : Bool)
  | int (i : Int)
  | str (x : Str)
  | tup (ds : List Dt)
  | lst (ds : List Dt)
mutual
def Rep (H : Hp) : Dt → V → Prop
  | .non, v => v = .non
  | .bl b, v => v = .bl b
  | .int i, v => v = .int i
  | .str x, v => v = .str x
  | .tup ds, v => ∃ a vs, v = .ref a ∧ H a = some (.tup vs) ∧ Reps H ds vs
  | .lst ds, v => ∃ a vs, v = .ref a ∧ H a = some (.lst vs) ∧ Reps H ds vs
def Reps (H : Hp) : List Dt → List V → Prop
  | [], vs => vs = []
  | d :: ds, vs => ∃ v r, vs = v :: r ∧ Rep H d v ∧ Reps H ds r
end
mutual
theorem Rep.same {H H' : Hp} (s : Same H H') : ∀ (d : Dt) {v : V}, Rep H d v → Rep H' d v
  | .non, _, h => by rw [Rep] at *; exact h
  | .bl _, _, h => by rw [Rep] at *; exact h
  | .int _, _, h => by rw [Rep] at *; exact h
  | .str _, _, h => by rw [Rep] at *; exact h
  | .tup ds, _, h => by
    rw [Rep] at *
    obtain ⟨a, vs, e, q, r⟩ := h
    exact ⟨a, vs, e, s _ _ q, Reps.same s ds r⟩
  | .lst ds, _, h => by
    rw [Rep] at *
    obtain ⟨a, vs, e, q, r⟩ := h
    exact ⟨a, vs, e, s _ _ q, Reps.same s ds r⟩
theorem Reps.same {H H' : Hp} (s : Same H H') : ∀ (ds : List Dt) {vs : List V}, Reps H ds vs → Reps H' ds vs
  | [], _, h => by rw [Reps] at *; exact h
  | d :: ds, _, h => by
    rw [Reps] at *
    obtain ⟨v, r, e, h1, h2⟩ := h
    exact ⟨v, r, e, Rep.same s d h1, Reps.same s ds h2⟩
end
theorem Reps.len {H : Hp} : ∀ {ds : List Dt} {vs : List V}, Reps H ds vs → vs.length = ds.length
  | [], _, h => by rw [Reps] at h; subst h; rfl
  | d :: ds, _, h => by
    rw [Reps] at h
    obtain ⟨v, r, e, h1, h2⟩ := h
    rw [e, List.length_cons, List.length_cons, Reps.len h2]
theorem Reps.at {H : Hp} : ∀ {ds : List Dt} {vs : List V} {i : Nat} {v : V}, Reps H ds vs → vs[i]? = some v → ∃ d, ds[i]? = some d ∧ Rep H d v
  | [], _, i, v, h, e => by rw [Reps] at h; rw [h] at e; simp at e
  | d :: ds, _, i, v, h, e => by
    rw [Reps] at h
    obtain ⟨w, r, e1, h1, h2⟩ := h
    subst e1
    cases i with
    | zero => simp at e; subst e; exact ⟨d, rfl, h1⟩
    | succ i =>
      obtain ⟨d', q1, q2⟩ := Reps.at h2 (i := i) (by simpa using e)
      exact ⟨d', by simpa using q1, q2⟩
def pairD (p : Int × Int) : Dt := .tup [.int p.1, .int p.2]
theorem Pr.rep {H : Hp} {v : V} {p : Int × Int} (h : Pr H v p) : Rep H (pairD p) v := by
  obtain ⟨t, e, q⟩ := h
  rw [pairD, Rep]
  refine ⟨t, _, e, q, ?_⟩
  rw [Reps]
  refine ⟨_, _, rfl, (by rw [Rep]), ?_⟩
  rw [Reps]
  exact ⟨_, _, rfl, (by rw [Rep]), (by rw [Reps])⟩
theorem Prs.reps {H : Hp} : ∀ {xs : List V} {ps : List (Int × Int)}, Prs H xs ps → Reps H (ps.map pairD) xs
  | _, _, .nil => by rw [List.map_nil, Reps]
  | _, _, .cons r t => by rw [List.map_cons, Reps]; exact ⟨_, _, rfl, r.rep, Prs.reps t⟩
theorem ints_reps {H : Hp} : ∀ (ns : List Int), Reps H (ns.map Dt.int) (ns.map V.int)
  | [] => by rw [List.map_nil, Reps, List.map_nil]
  | n :: r => by rw [List.map_cons, Reps, List.map_cons]; exact ⟨_, _, rfl, (by rw [Rep]), ints_reps r⟩
end L2

set_option Elab.async false
set_option linter.all false
set_option maxRecDepth 100000
set_option maxHeartbeats 1000000
namespace L2
open PySem PySem.Spec PyProof.Rows
def fMax : List V → Hp → VK → Prop := fun vs H Q => match vs with
  | [.int i, .int j] => Q (.int (if i < j then j else i)) H
  | _ => False
theorem q_max {X : Cx} (hc : X.calm = true) : CallR X (.builtin "max") fMax := (call_max2 hc).imp fun vs H Q h => by
  unfold fMax at h
  split at h
  · refine ⟨_, _, rfl, ?_⟩
    first | exact h | (rename_i i j; by_cases c : i < j <;> simp_all)
  · exact h.elim
/-! in a list -/
def fInL (neg : Bool) : R2 := fun x y H Q => match y with
  | .ref p => match seqOf H p with
    | some xs => flatV x = true ∧ xs.all flatV = true ∧ Q (.bl (if neg = true then !inV x xs else inV x xs)) H
    | none => False
  | _ => False
theorem fInL_r {K : PySem.W.Frag} {neg : Bool} {x y : V} {H : Hp} {Q : VK} (h : fInL neg x y H Q) : rIn K neg x y H Q := by
  unfold fInL at h
  split at h
  · split at h
    · rename_i xs e
      obtain ⟨h1, h2, h3⟩ := h
      exact ⟨_, xs, rfl, seqOf_or e, h1, h2, h3⟩
    · exact h.elim
  · exact h.elim
theorem q_inL {X : Cx} : OpR X (compareOp .In) (fInL false) := op_in_seq.imp fun _ _ _ _ => fInL_r
theorem q_notinL {X : Cx} : OpR X (compareOp .NotIn) (fInL true) := op_notIn_seq.imp fun _ _ _ _ => fInL_r
theorem flat_ints (ns : List Int) : (ns.map V.int).all flatV = true := by
  rw [List.all_eq_true]
  intro v hv
  obtain ⟨n, _, e⟩ := List.mem_map.mp hv
  rw [← e]
  rfl
theorem inV_ints (n : Int) (ns : List Int) : inV (.int n) (ns.map V.int) = decide (n ∈ ns) := by
  rw [Bool.eq_iff_iff, inV, List.any_eq_true, decide_eq_true_iff]
  constructor
  · rintro ⟨v, hv, e⟩
    obtain ⟨m, hm, e2⟩ := List.mem_map.mp hv
    subst e2
    have : m = n := by simpa [eqV] using e
    rw [← this]
    exact hm
  · intro h
    exact ⟨.int n, List.mem_map_of_mem h, by simp [eqV]⟩
end L2

set_option Elab.async false
set_option linter.all false
set_option maxRecDepth 100000
set_option maxHeartbeats 1000000
namespace L2
open PySem PySem.Spec PyProof.Rows

/-! ### sorted, of numbers -/
theorem keys_ints {P : Program} {w : World} : ∀ {kvs : List (Key × V)} {vs : List (Key × Value)} {ns : List Int}, KV kvs vs → kvs.map (·.1) = ns.map Sum.inl → ∀ {us : List Value}, us.length = vs.length → (∀ (j : Nat) (v : Value), us[j]? = some v → ∃ k x, vs[j]? = some (k, x) ∧ (mixKind P w).is k v = true) → IntsAre us ns
  | [], _, ns, .nil, hk, us, hl, _ => by
    cases ns with
    | nil => cases us with
      | nil => exact .nil
      | cons _ _ => simp at hl
    | cons _ _ => simp at hk
  | kv :: kvs, _, ns, .cons (b := b) r t, hk, us, hl, hv => by
    cases ns with
    | nil => simp at hk
    | cons n ns =>
      cases us with
      | nil => simp at hl
      | cons u us =>
        rw [List.map_cons, List.map_cons] at hk
        injection hk with hk1 hk2
        obtain ⟨k, x, e1, e2⟩ := hv 0 u rfl
        simp only [List.getElem?_cons_zero, Option.some.injEq] at e1
        have hkn : k = Sum.inl n := by rw [← hk1, r.1, e1]
        rw [hkn] at e2
        rcases keyIs_shape (show keyIs (Sum.inl n) u = true from e2) with ⟨i, t', ei, ev⟩ | ⟨y, t', ei, ev⟩
        · cases ei
          rw [ev]
          refine .cons n t' (keys_ints (P := P) (w := w) t hk2 (by simpa using hl) fun j v hj => ?_)
          obtain ⟨k', x', z1, z2⟩ := hv (j + 1) v (by simpa using hj)
          exact ⟨k', x', by simpa using z1, z2⟩
        · cases ei
def rSortD : List V → Hp → VK → Prop := fun vs H Q => ∃ (p : Addr) (kvs : List (Key × V)) (ns : List Int), vs = [.ref p] ∧ H p = some (.dK kvs) ∧ kvs.map (·.1) = ns.map Sum.inl ∧ ns.length < 64 ∧
  ∀ (l : Addr) (ms : List Int), H l = none → ms.Perm ns → ms.Pairwise (· ≤ ·) → Q (.ref l) (upd H l (.lst (ms.map V.int)))
theorem call_sortD {X : Cx} (hc : X.calm = true) : CallR X (.builtin "sorted") rSortD := by
  intro pins s σ H xs us Q I r h
  obtain ⟨p, kvs, ns, rfl, e, hk, h64, q⟩ := h
  obtain ⟨u, rfl, rx⟩ := vals1 r
  cases rx
  obtain ⟨z, lo, vs', rel, dd⟩ := dk_of I.hok e
  obtain ⟨ep, hat⟩ := dd.dictAt
  have hkl := rel.length
  refine Calls.call_function_entry kind_sorted plain_sorted entry_sorted (args_sorted1 _) ?_
  unfold Builtin.«sorted»
  refine wpAny_bind (m := checkCount "sorted" 1 1 _) (wpAny_pure ?_)
  refine wpAny_bind (PySem.W.kdu_collect (PySem.W.kdl_dict (knd := mixKind X.prog X.w) (kvs := vs') (ep := ep) lo) (I.ok.hd hc) hat (by omega) fun h' tk acc hkp hacc => ?_)
  have hl : acc.toList.length = vs'.length := by rw [Array.length_toList]; exact hacc.1
  have hI : IntsAre acc.toList ns := keys_ints rel hk hl fun j v ej => hacc.2 j v (by rw [← Array.getElem?_toList]; exact ej)
  have hnl : ns.length = kvs.length := by
    have := congrArg List.length hk
    simpa using this.symm
  refine wpAny_bind (wpAny_newList ?_ (by omega))
  have hoL : (h'.push (seqObj "list" acc.toList.toArray 0)).get? h'.objs.size = some (seqObj "list" acc.toList.toArray 0) := Heap.get?_push_size _ rfl
  show wpAny _ _ _ _ _ { s with heap := h'.push (seqObj "list" acc.toList.toArray 0), toks := tk }
  refine wpAny_bind (wpAny_holding (wpAny_call_entry slot_list_sort ⟨_, hoL, rfl⟩ entry_list_sort (list_sort_tree hoL hI (by omega) fun out ms a1 a2 a3 => ⟨_, rfl, ?_⟩) (args_list_sort _)))
  refine wpAny_pure ⟨_, rfl, ?_⟩
  have hlt : ∀ b o, h'.get? b = some o → b < h'.objs.size := fun b o eb => Heap.lt_size eb
  have kp : ∀ b o, h'.get? b = some o → (sortedHeap (h'.push (seqObj "list" acc.toList.toArray 0)) h'.objs.size acc.toList out).get? b = some o := fun b o eb => by
    rw [sortedHeap_old (Nat.ne_of_lt (hlt b o eb)) (by rw [size_push']; exact Nat.lt_succ_of_lt (hlt b o eb)), Heap.get?_push_ne _ _ _ (Nat.ne_of_lt (hlt b o eb))]
    exact eb
  obtain ⟨c, hcc⟩ := sortedHeap_at (out := out) hoL
  have hml := a2.length_eq
  have I1 : Inv X pins σ H { s with heap := h', toks := tk } := I.kept hkp
  refine ⟨.ref h'.objs.size, _, I1.laid (t' := tk) kp (Nat.le_refl _) (show ObjOk X.prog X.w _ _ _ (.lst (ms.map V.int)) from ⟨?_, out.toList, c, vals_ints a1, ?_⟩), rfl, q _ ms (I1.hok.fresh (Nat.le_refl _)) a2 a3⟩
  · rw [List.length_map, hml]; exact Nat.le_trans (Nat.le_of_lt h64) (by decide)
  · rw [hcc]
end L2

set_option Elab.async false
set_option linter.all false
set_option maxRecDepth 100000
set_option maxHeartbeats 1000000
namespace L2
open PySem PySem.Spec PyProof.Rows

/-! ### == and != of data -/
mutual
def eqP : Dt → Dt → Bool
  | .non, .non => true
  | .bl a, .bl b => a == b
  | .bl a, .int b => (if a then 1 else 0) == b
  | .int a, .bl b => a == (if b then 1 else 0)
  | .int a, .int b => a == b
  | .str a, .str b => a == b
  | .tup a, .tup b => eqPs a b
  | .lst a, .lst b => eqPs a b
  | _, _ => false
def eqPs : List Dt → List Dt → Bool
  | [], [] => true
  | a :: r, b :: t => eqP a b && eqPs r t
  | _, _ => false
end
mutual
def depP : Dt → Nat
  | .tup a => depPs a + 1
  | .lst a => depPs a + 1
  | _ => 0
def depPs : List Dt → Nat
  | [] => 0
  | a :: r => max (depP a) (depPs r)
end
/-- the items' answers by their places -/
def eqAtN (a b : List Dt) (j : Nat) : Bool := match a[j]?, b[j]? with
  | some x, some y => eqP x y
  | _, _ => false
theorem eqPs_len : ∀ {a b : List Dt}, a.length ≠ b.length → eqPs a b = false
  | [], [], h => absurd rfl h
  | [], _ :: _, _ => by simp [eqPs]
  | _ :: _, [], _ => by simp [eqPs]
  | x :: a, y :: b, h => by
    rw [eqPs, eqPs_len (by simpa using h), Bool.and_false]
theorem range_all : ∀ (n : Nat) (f : Nat → Bool), (List.range (n + 1)).all f = (f 0 && (List.range n).all fun j => f (j + 1)) := fun n f => by
  rw [List.range_succ_eq_map, List.all_cons, List.all_map]
  rfl
theorem eqPs_range : ∀ {a b : List Dt}, a.length = b.length → eqPs a b = (List.range a.length).all (eqAtN a b)
  | [], [], _ => by rw [eqPs]; rfl
  | [], _ :: _, h => by simp at h
  | _ :: _, [], h => by simp at h
  | x :: a, y :: b, h => by
    rw [eqPs, eqPs_range (a := a) (b := b) (by simpa using h), List.length_cons, range_all]
    rfl
theorem depPs_at : ∀ {a : List Dt} {j : Nat} {d : Dt}, a[j]? = some d → depP d ≤ depPs a
  | [], _, _, h => by simp at h
  | x :: a, 0, d, h => by
    simp at h; subst h
    rw [depPs]; omega
  | x :: a, j + 1, d, h => by
    have := depPs_at (a := a) (j := j) (by simpa using h)
    rw [depPs]; omega
/-- a flat value -/
def flatD : Dt → Option V
  | .non => some .non
  | .bl b => some (.bl b)
  | .int i => some (.int i)
  | .str x => some (.str x)
  | _ => none
theorem eqP_flat {d e : Dt} {x y : V} (hd : flatD d = some x) (he : flatD e = some y) : eqP d e = eqV x y := by
  cases d <;> cases e <;> simp only [flatD, Option.some.injEq, reduceCtorEq] at hd he <;> subst hd <;> subst he <;> simp [eqP, eqV]
theorem rep_flat {H : Hp} {d : Dt} {x v : V} (hd : flatD d = some x) (h : Rep H d v) : v = x ∧ flatV x = true := by
  cases d <;> simp only [flatD, Option.some.injEq, reduceCtorEq] at hd <;> subst hd <;> rw [Rep] at h <;> exact ⟨h, rfl⟩
section
variable {X : Cx} {pins : List (Addr × Obj)} {σ : St} {H : Hp} {s : Shared}
theorem Inv.tupE (I : Inv X pins σ H s) {a : Addr} {vs : List V} (e : H a = some (.tup vs)) : ∃ its : List Value, Vals vs its ∧ s.heap.IsTuple a its.toArray := by
  obtain ⟨its, r, p, _⟩ := I.tuple (SqT.of e)
  exact ⟨its, r, p⟩
theorem Inv.lstE (I : Inv X pins σ H s) {a : Addr} {vs : List V} (e : H a = some (.lst vs)) : ∃ its : List Value, Vals vs its ∧ s.heap.IsList a its.toArray := by
  obtain ⟨its, r, p, _⟩ := I.list (SqL.of e)
  exact ⟨its, r, p.isList⟩
mutual
theorem eqP_refl : ∀ d : Dt, eqP d d = true
  | .non => by simp [eqP]
  | .bl _ => by simp [eqP]
  | .int _ => by simp [eqP]
  | .str _ => by simp [eqP]
  | .tup a => by rw [eqP]; exact eqPs_refl a
  | .lst a => by rw [eqP]; exact eqPs_refl a
theorem eqPs_refl : ∀ a : List Dt, eqPs a a = true
  | [] => by rw [eqPs]
  | d :: r => by rw [eqPs, eqP_refl d, eqPs_refl r]; rfl
end
mutual
/-- one heap's thing is one datum -/
theorem Rep.inj {H : Hp} : ∀ {d e : Dt} {v : V}, Rep H d v → Rep H e v → d = e
  | .non, e, v, h1, h2 => by rw [Rep] at h1; subst h1; cases e <;> simp [Rep] at h2 ⊢
  | .bl _, e, v, h1, h2 => by rw [Rep] at h1; subst h1; cases e <;> simp [Rep] at h2 ⊢; exact h2
  | .int _, e, v, h1, h2 => by rw [Rep] at h1; subst h1; cases e <;> simp [Rep] at h2 ⊢; exact h2
  | .str _, e, v, h1, h2 => by rw [Rep] at h1; subst h1; cases e <;> simp [Rep] at h2 ⊢; exact h2
  | .tup ds, e, v, h1, h2 => by
    rw [Rep] at h1
    obtain ⟨a, vs, rfl, q, r⟩ := h1
    cases e with
    | tup es =>
      rw [Rep] at h2
      obtain ⟨a', vs', e', q', r'⟩ := h2
      cases e'
      rw [q] at q'; cases q'
      rw [Reps.inj r r']
    | lst es =>
      rw [Rep] at h2
      obtain ⟨a', vs', e', q', r'⟩ := h2
      cases e'
      rw [q] at q'; cases q'
    | non => rw [Rep] at h2; cases h2
    | bl _ => rw [Rep] at h2; cases h2
    | int _ => rw [Rep] at h2; cases h2
    | str _ => rw [Rep] at h2; cases h2
  | .lst ds, e, v, h1, h2 => by
    rw [Rep] at h1
    obtain ⟨a, vs, rfl, q, r⟩ := h1
    cases e with
    | lst es =>
      rw [Rep] at h2
      obtain ⟨a', vs', e', q', r'⟩ := h2
      cases e'
      rw [q] at q'; cases q'
      rw [Reps.inj r r']
    | tup es =>
      rw [Rep] at h2
      obtain ⟨a', vs', e', q', r'⟩ := h2
      cases e'
      rw [q] at q'; cases q'
    | non => rw [Rep] at h2; cases h2
    | bl _ => rw [Rep] at h2; cases h2
    | int _ => rw [Rep] at h2; cases h2
    | str _ => rw [Rep] at h2; cases h2
theorem Reps.inj {H : Hp} : ∀ {ds es : List Dt} {vs : List V}, Reps H ds vs → Reps H es vs → ds = es
  | [], es, vs, h1, h2 => by
    rw [Reps] at h1; subst h1
    cases es with
    | nil => rfl
    | cons e es => rw [Reps] at h2; obtain ⟨_, _, z, _⟩ := h2; cases z
  | d :: ds, es, vs, h1, h2 => by
    rw [Reps] at h1
    obtain ⟨v, r, rfl, q1, q2⟩ := h1
    cases es with
    | nil => rw [Reps] at h2; cases h2
    | cons e es =>
      rw [Reps] at h2
      obtain ⟨v', r', z, p1, p2⟩ := h2
      cases z
      rw [Rep.inj q1 p1, Reps.inj q2 p2]
end
theorem eqP_ref_flat {d e : Dt} (hd : flatD d = none) {y : V} (he : flatD e = some y) : eqP d e = false ∧ eqP e d = false := by
  cases d <;> cases e <;> simp only [flatD, Option.some.injEq, reduceCtorEq] at hd he <;> simp [eqP]
theorem eqAt_D : ∀ (n : Nat) {A : Around} (I : Inv X pins σ H s) {d e : Dt} {x y : V} {u v : Value}, depP d ≤ n → A.units + n < cLine → Rep H d x → Rep H e y → RelV x u → RelV y v → SeqAt.EqAt A s u v (eqP d e) := by
  intro n
  induction n with
  | zero =>
    intro A I d e x y u v hn hu rd re rx ry
    have hf : ∃ z, flatD d = some z := by
      cases d <;> simp only [depP, flatD] at hn ⊢ <;> first | exact ⟨_, rfl⟩ | omega
    obtain ⟨z, hz⟩ := hf
    obtain ⟨rfl, fz⟩ := rep_flat hz rd
    cases he : flatD e with
    | some y' =>
      obtain ⟨rfl, fy⟩ := rep_flat he re
      rw [eqP_flat hz he]
      exact eqAt_V rx ry fz fy
    | none =>
      rw [(eqP_ref_flat he hz).2]
      have hu0 : A.units < cLine := by omega
      cases e <;> simp only [flatD, reduceCtorEq] at he
      · rw [Rep] at re
        obtain ⟨a, vs, rfl, q, _⟩ := re
        cases ry
        obtain ⟨its, _, p⟩ := I.tupE q
        cases d <;> simp only [flatD, Option.some.injEq, reduceCtorEq] at hz <;> subst hz
        · cases rx; exact SeqAt.EqAt.none_tuple p hu0
        · cases rx; exact SeqAt.EqAt.bool_tuple _ p hu0
        · obtain ⟨t, rfl⟩ := rx; exact SeqAt.EqAt.int_tuple _ _ p hu0
        · obtain ⟨t, rfl⟩ := rx; exact SeqAt.EqAt.str_tuple _ _ p hu0
      · rw [Rep] at re
        obtain ⟨a, vs, rfl, q, _⟩ := re
        cases ry
        obtain ⟨its, _, p⟩ := I.lstE q
        cases d <;> simp only [flatD, Option.some.injEq, reduceCtorEq] at hz <;> subst hz
        · cases rx; exact SeqAt.EqAt.none_list p hu0
        · cases rx; exact SeqAt.EqAt.bool_list _ p hu0
        · obtain ⟨t, rfl⟩ := rx; exact SeqAt.EqAt.int_list _ _ p hu0
        · obtain ⟨t, rfl⟩ := rx; exact SeqAt.EqAt.str_list _ _ p hu0
  | succ n ih =>
    intro A I d e x y u v hn hu rd re rx ry
    have hu0 : A.units < cLine := by omega
    have items : ∀ {ds es : List Dt} {vs ws : List V} {its its2 : List Value}, depPs ds ≤ n → Reps H ds vs → Reps H es ws → Vals vs its → Vals ws its2 →
        ∀ j (h1 : j < its.toArray.size) (h2 : j < its2.toArray.size), SeqAt.EqAt A.in1 s its.toArray[j] its2.toArray[j] (eqAtN ds es j) := by
      intro ds es vs ws its its2 hdp r1 r2 w1 w2 j h1 h2
      rw [List.size_toArray] at h1 h2
      have l1 := w1.length
      have l2 := w2.length
      obtain ⟨u', e1, q1⟩ := w1.get (i := j) (x := vs[j]'(by omega)) (List.getElem?_eq_getElem _)
      obtain ⟨v', e2, q2⟩ := w2.get (i := j) (x := ws[j]'(by omega)) (List.getElem?_eq_getElem _)
      obtain ⟨d', f1, g1⟩ := r1.at (i := j) (List.getElem?_eq_getElem (by omega))
      obtain ⟨e', f2, g2⟩ := r2.at (i := j) (List.getElem?_eq_getElem (by omega))
      rw [List.getElem?_eq_getElem h1] at e1
      rw [List.getElem?_eq_getElem h2] at e2
      cases e1; cases e2
      have hj : eqAtN ds es j = eqP d' e' := by unfold eqAtN; rw [f1, f2]
      rw [hj]
      have := depPs_at f1
      exact ih (A := A.in1) I (by omega) (by show A.units + 1 + n < cLine; omega) g1 g2 q1 q2
    cases hf : flatD d with
    | some z =>
      refine ih I ?_ (by omega) rd re rx ry
      cases d <;> simp only [flatD, reduceCtorEq] at hf <;> simp [depP]
    | none =>
      cases he : flatD e with
      | some y' =>
        rw [(eqP_ref_flat hf he).1]
        obtain ⟨rfl, fy⟩ := rep_flat he re
        cases d <;> simp only [flatD, reduceCtorEq] at hf
        · rw [Rep] at rd
          obtain ⟨a, vs, rfl, q, _⟩ := rd
          cases rx
          obtain ⟨its, _, p⟩ := I.tupE q
          cases e <;> simp only [flatD, Option.some.injEq, reduceCtorEq] at he <;> subst he
          · cases ry; exact SeqAt.EqAt.tuple_none p hu0
          · cases ry; exact SeqAt.EqAt.tuple_bool _ p hu0
          · obtain ⟨t, rfl⟩ := ry; exact SeqAt.EqAt.tuple_int _ _ p hu0
          · obtain ⟨t, rfl⟩ := ry; exact SeqAt.EqAt.tuple_str _ _ p hu0
        · rw [Rep] at rd
          obtain ⟨a, vs, rfl, q, _⟩ := rd
          cases rx
          obtain ⟨its, _, p⟩ := I.lstE q
          cases e <;> simp only [flatD, Option.some.injEq, reduceCtorEq] at he <;> subst he
          · cases ry; exact SeqAt.EqAt.list_none p hu0
          · cases ry; exact SeqAt.EqAt.list_bool _ p hu0
          · obtain ⟨t, rfl⟩ := ry; exact SeqAt.EqAt.list_int _ _ p hu0
          · obtain ⟨t, rfl⟩ := ry; exact SeqAt.EqAt.list_str _ _ p hu0
      | none =>
        cases d <;> simp only [flatD, reduceCtorEq] at hf <;> cases e <;> simp only [flatD, reduceCtorEq] at he
        · rename_i ds es
          have hn' : depPs ds ≤ n := by rw [depP] at hn; omega
          have rd0 := rd
          have re0 := re
          rw [Rep] at rd
          rw [Rep] at re
          obtain ⟨a, vs, rfl, q, r1⟩ := rd
          obtain ⟨b, ws, rfl, q2, r2⟩ := re
          cases rx; cases ry
          by_cases hab : a = b
          · subst hab
            rw [Rep.inj rd0 re0, eqP_refl]
            exact SeqAt.EqAt.same _
          · obtain ⟨its, w1, p1⟩ := I.tupE q
            obtain ⟨its2, w2, p2⟩ := I.tupE q2
            have k := SeqAt.RcAt.tuples p1 p2 hu0 (items hn' r1 r2 w1 w2)
            have e0 : ((List.range (min its.toArray.size its2.toArray.size)).all (eqAtN ds es) && its.toArray.size == its2.toArray.size) = eqP (.tup ds) (.tup es) := by
              have l1 := w1.length
              have l2 := w2.length
              have l3 := r1.len
              have l4 := r2.len
              rw [eqP, List.size_toArray, List.size_toArray]
              by_cases hl : ds.length = es.length
              · rw [eqPs_range hl, ← l1, ← l2, l3, l4, hl, Nat.min_self]
                simp
              · rw [eqPs_len hl]
                have : (its.length == its2.length) = false := by
                  rw [beq_eq_false_iff_ne]; omega
                rw [this, Bool.and_false]
            rw [e0] at k
            exact .of_refs hab k
        · rename_i ds es
          rw [Rep] at rd
          rw [Rep] at re
          obtain ⟨a, vs, rfl, q, r1⟩ := rd
          obtain ⟨b, ws, rfl, q2, r2⟩ := re
          cases rx; cases ry
          obtain ⟨its, w1, p1⟩ := I.tupE q
          obtain ⟨its2, w2, p2⟩ := I.lstE q2
          have : eqP (.tup ds) (.lst es) = false := by simp [eqP]
          rw [this]
          exact SeqAt.EqAt.tuple_list p1 p2 hu0
        · rename_i ds es
          rw [Rep] at rd
          rw [Rep] at re
          obtain ⟨a, vs, rfl, q, r1⟩ := rd
          obtain ⟨b, ws, rfl, q2, r2⟩ := re
          cases rx; cases ry
          obtain ⟨its, w1, p1⟩ := I.lstE q
          obtain ⟨its2, w2, p2⟩ := I.tupE q2
          have : eqP (.lst ds) (.tup es) = false := by simp [eqP]
          rw [this]
          exact SeqAt.EqAt.list_tuple p1 p2 hu0
        · rename_i ds es
          have hn' : depPs ds ≤ n := by rw [depP] at hn; omega
          have rd0 := rd
          have re0 := re
          rw [Rep] at rd
          rw [Rep] at re
          obtain ⟨a, vs, rfl, q, r1⟩ := rd
          obtain ⟨b, ws, rfl, q2, r2⟩ := re
          cases rx; cases ry
          by_cases hab : a = b
          · subst hab
            rw [Rep.inj rd0 re0, eqP_refl]
            exact SeqAt.EqAt.same _
          · obtain ⟨its, w1, p1⟩ := I.lstE q
            obtain ⟨its2, w2, p2⟩ := I.lstE q2
            have l1 := w1.length
            have l2 := w2.length
            have l3 := r1.len
            have l4 := r2.len
            refine .of_refs hab ?_
            rw [eqP]
            by_cases hl : ds.length = es.length
            · rw [eqPs_range hl]
              have k := SeqAt.RcAt.lists p1 p2 (by rw [List.size_toArray, List.size_toArray]; omega) hu0 (items hn' r1 r2 w1 w2)
              rw [List.size_toArray, ← l1, l3] at k
              exact k
            · rw [eqPs_len hl]
              exact SeqAt.RcAt.lists_lengths p1 p2 (by rw [List.size_toArray, List.size_toArray]; simp; omega) hu0
end
end L2

set_option Elab.async false
set_option linter.all false
set_option maxRecDepth 100000
set_option maxHeartbeats 1000000
namespace L2
open PySem PySem.Spec PyProof.Rows

/-! ### max(numbers, default=d) -/
section
variable {prog : Program} {w : World} {A : Around} {R : Result → Shared → Prop} {I : Addr} {fp wr : List Addr} {n : Nat} {P : Nat → Value → Prop} {St : Nat → Heap → Prop}
def Best (val : Nat → Int) (n : Nat) (m : Int) : Prop := (∃ i, i < n ∧ m = val i) ∧ ∀ i, i < n → val i ≤ m
theorem Best.up {val : Nat → Int} {j : Nat} {m : Int} (h : Best val j m) (hb : val j > m) : Best val (j + 1) (val j) :=
  ⟨⟨j, Nat.lt_succ_self _, rfl⟩, fun i hi => by
    rcases Nat.lt_succ_iff_lt_or_eq.mp hi with z | z
    · have := h.2 i z; omega
    · rw [z]; exact Int.le_refl _⟩
theorem Best.keep {val : Nat → Int} {j : Nat} {m : Int} (h : Best val j m) (hb : ¬ val j > m) : Best val (j + 1) m :=
  ⟨let ⟨i, hi, e⟩ := h.1; ⟨i, Nat.lt_succ_of_lt hi, e⟩, fun i hi => by
    rcases Nat.lt_succ_iff_lt_or_eq.mp hi with z | z
    · exact h.2 i z
    · rw [z]; omega⟩
end
section
variable {X : Cx}
/-- f(e, k=g): a built-in with one keyword -/
def tCBK (r : List V → List V → Hp → VK → Prop) (t tk : TA) : TE := fun σ H Q => t σ H fun vs H1 => tk σ H1 fun zs H2 => r vs zs H2 Q
end
end L2

set_option Elab.async false
set_option linter.all false
set_option maxRecDepth 100000
set_option maxHeartbeats 1000000
namespace L2
open PySem PySem.Spec PyProof.Rows
section
variable {X : Cx} {pins : List (Addr × Obj)} {σ : St} {H : Hp} {s : Shared}
theorem items_D (n : Nat) {A : Around} (I : Inv X pins σ H s) {ds es : List Dt} {vs ws : List V} {its its2 : List Value} (hdp : depPs ds ≤ n) (hu : A.units + n < cLine) (r1 : Reps H ds vs) (r2 : Reps H es ws) (w1 : Vals vs its) (w2 : Vals ws its2) :
    ∀ j (h1 : j < its.toArray.size) (h2 : j < its2.toArray.size), SeqAt.EqAt A s its.toArray[j] its2.toArray[j] (eqAtN ds es j) := by
  intro j h1 h2
  rw [List.size_toArray] at h1 h2
  have l1 := w1.length
  have l2 := w2.length
  obtain ⟨u', e1, q1⟩ := w1.get (i := j) (x := vs[j]'(by omega)) (List.getElem?_eq_getElem _)
  obtain ⟨v', e2, q2⟩ := w2.get (i := j) (x := ws[j]'(by omega)) (List.getElem?_eq_getElem _)
  obtain ⟨d', f1, g1⟩ := r1.at (i := j) (List.getElem?_eq_getElem (by omega))
  obtain ⟨e', f2, g2⟩ := r2.at (i := j) (List.getElem?_eq_getElem (by omega))
  rw [List.getElem?_eq_getElem h1] at e1
  rw [List.getElem?_eq_getElem h2] at e2
  cases e1; cases e2
  have hj : eqAtN ds es j = eqP d' e' := by unfold eqAtN; rw [f1, f2]
  rw [hj]
  have := depPs_at f1
  exact eqAt_D n I (by omega) hu g1 g2 q1 q2
theorem tup_answer {ds es : List Dt} {vs ws : List V} {its its2 : List Value} (r1 : Reps H ds vs) (r2 : Reps H es ws) (w1 : Vals vs its) (w2 : Vals ws its2) :
    ((List.range (min its.toArray.size its2.toArray.size)).all (eqAtN ds es) && its.toArray.size == its2.toArray.size) = eqPs ds es := by
  have l1 := w1.length
  have l2 := w2.length
  have l3 := r1.len
  have l4 := r2.len
  rw [List.size_toArray, List.size_toArray]
  by_cases hl : ds.length = es.length
  · rw [eqPs_range hl, ← l1, ← l2, l3, l4, hl, Nat.min_self]
    simp
  · rw [eqPs_len hl]
    have : (its.length == its2.length) = false := by
      rw [beq_eq_false_iff_ne]; omega
    rw [this, Bool.and_false]
/-- x == y, x != y: both lists, or both tuples, of data -/
def rEqD (neg : Bool) : R2 := fun x y H Q => ∃ d e, Rep H d x ∧ Rep H e y ∧ depP d ≤ 20 ∧ ((∃ ds es, d = .lst ds ∧ e = .lst es) ∨ ∃ ds es, d = .tup ds ∧ e = .tup es) ∧ Q (.bl (if neg = true then !eqP d e else eqP d e)) H
theorem op_neD (hu : X.A.units + 64 < cLine) : OpR X (compareOp .NotEq) (rEqD true) := by
  intro pins s σ H x y v u Q I rx ry h
  obtain ⟨d, e, rd, re, hd, hk, q⟩ := h
  have hu0 : X.A.units < cLine := by omega
  rcases hk with ⟨ds, es, rfl, rfl⟩ | ⟨ds, es, rfl, rfl⟩
  · have hn' : depPs ds ≤ 20 := by rw [depP] at hd; omega
    rw [Rep] at rd re
    obtain ⟨a, vs, rfl, q1, r1⟩ := rd
    obtain ⟨b, ws, rfl, q2, r2⟩ := re
    cases rx; cases ry
    obtain ⟨its, w1, p1⟩ := I.lstE q1
    obtain ⟨its2, w2, p2⟩ := I.lstE q2
    have l1 := w1.length
    have l2 := w2.length
    have l3 := r1.len
    have l4 := r2.len
    by_cases hl : ds.length = es.length
    · refine SeqAt.RcNeAt.lists (e := eqAtN ds es) p1 p2 (by rw [List.size_toArray, List.size_toArray]; omega) hu0 (items_D 20 I hn' (by show X.A.units + 1 + 20 < cLine; omega) r1 r2 w1 w2) _ _ _ _ ⟨.bl _, H, I, rfl, ?_⟩
      rw [List.size_toArray, ← l1, l3, ← eqPs_range hl]
      rw [eqP] at q
      exact q
    · refine SeqAt.RcNeAt.lists_lengths p1 p2 (by rw [List.size_toArray, List.size_toArray]; simp; omega) hu0 _ _ _ _ ⟨.bl _, H, I, rfl, ?_⟩
      rw [eqP, eqPs_len hl] at q
      exact q
  · have hn' : depPs ds ≤ 20 := by rw [depP] at hd; omega
    rw [Rep] at rd re
    obtain ⟨a, vs, rfl, q1, r1⟩ := rd
    obtain ⟨b, ws, rfl, q2, r2⟩ := re
    cases rx; cases ry
    obtain ⟨its, w1, p1⟩ := I.tupE q1
    obtain ⟨its2, w2, p2⟩ := I.tupE q2
    refine SeqAt.RcNeAt.tuples (e := eqAtN ds es) p1 p2 hu0 (items_D 20 I hn' (by show X.A.units + 1 + 20 < cLine; omega) r1 r2 w1 w2) _ _ _ _ ⟨.bl _, H, I, rfl, ?_⟩
    rw [tup_answer r1 r2 w1 w2]
    rw [eqP] at q
    exact q
/-! ### x in a list of data -/
theorem RelV.inj' {x y : V} {u : Value} (h1 : RelV x u) (h2 : RelV y u) : x = y := Option.some.inj (h1.abs.symm.trans h2.abs)
open Classical in
noncomputable def eqW (H : Hp) (d : Dt) (u : Value) : Bool := if h : ∃ c, ∃ x, RelV x u ∧ Rep H c x then eqP h.choose d else false
theorem eqW_of {H : Hp} {d c : Dt} {x : V} {u : Value} (r : RelV x u) (p : Rep H c x) : eqW H d u = eqP c d := by
  unfold eqW
  have h : ∃ c, ∃ x, RelV x u ∧ Rep H c x := ⟨c, x, r, p⟩
  rw [dif_pos h]
  obtain ⟨y, r2, p2⟩ := h.choose_spec
  have := RelV.inj' r r2
  subst this
  rw [Rep.inj p2 p]
theorem in_items (hu : X.A.units + 64 < cLine) (I : Inv X pins σ H s) {d : Dt} {x : V} {v : Value} {cs : List Dt} {xs : List V} {its : List Value} (rd : Rep H d x) (rx : RelV x v) (rc : Reps H cs xs) (r : Vals xs its) (hd : depPs cs ≤ 20) :
    ∀ y, y ∈ its.toArray → SeqAt.EqAt X.A.in1 s y v (eqW H d y) := by
  intro y hy
  have hy' : y ∈ its := by simpa using hy
  obtain ⟨j, hj, e⟩ := List.mem_iff_getElem.mp hy'
  have l1 := r.length
  obtain ⟨u', e1, q1⟩ := r.get (i := j) (x := xs[j]'(by omega)) (List.getElem?_eq_getElem _)
  obtain ⟨c, f1, g1⟩ := rc.at (i := j) (List.getElem?_eq_getElem (by omega))
  rw [List.getElem?_eq_getElem hj] at e1
  cases e1
  rw [← e, eqW_of q1 g1]
  have := depPs_at f1
  exact eqAt_D 20 I (by omega) (by show X.A.units + 1 + 20 < cLine; omega) g1 rd q1 rx
end
end L2

set_option Elab.async false
set_option linter.all false
set_option maxRecDepth 100000
set_option maxHeartbeats 1000000
namespace L2
open PySem PySem.Spec PyProof.Rows
/-! ### dicts by numbers: d[k] = v, d.get(k, z); lists: +, clear; tuples: slices; int(truth): readings that compute -/
section
variable {X : Cx} {o i e f value : Expr} {td ty tv tx : TE} {pos pos' apos cpos : Pos}
def sDPutF (td ty tv : TE) : TS := fun D σ H => tv σ H fun v H1 => td σ H1 fun x H2 => ty σ H2 fun y H3 => match x, y with
  | .ref a, .int n => match H3 a with
    | some (.dK kvs) => kvs.length < sizeLine ∧ D.nx σ (upd H3 a (.dK (putK kvs (Sum.inl n : Key) v)))
    | _ => False
  | _, _ => False
def fDGet2 (td ty tx : TE) : TE := fun σ H Q => td σ H fun x H1 => match x with
  | .ref a => (∃ kvs, H1 a = some (.dK kvs)) ∧ ty σ H1 fun y H2 => tx σ H2 fun z H3 => match y with
    | .int n => match H3 a with
      | some (.dK kvs) => Q ((valV kvs (Sum.inl n : Key)).getD z) H3
      | _ => False
    | _ => False
  | _ => False
def fCat : R2 := fun x y H Q => match x, y with
  | .ref l, .ref b => match H l, H b with
    | some (.lst xs), some (.lst zs) => xs.length + zs.length ≤ sizeLine ∧ ∀ p, H p = none → Q (.ref p) (upd H p (.lst (xs ++ zs)))
    | _, _ => False
  | _, _ => False
def fClear : V → List V → Hp → VK → Prop := fun x vs H Q => match x, vs with
  | .ref l, [] => match H l with
    | some (.lst _) => Q .non (upd H l (.lst []))
    | _ => False
  | _, _ => False
def fBM0 (r : V → List V → Hp → VK → Prop) (to : TE) : TE := fun σ H Q => to σ H fun x H1 => (∃ a xs, x = .ref a ∧ H1 a = some (.lst xs)) ∧ r x [] H1 Q
/-- the first lo .. hi of a tuple, not the whole of it -/
def fSlT : V → Option Int → Option Int → Hp → VK → Prop := fun x lo hi H Q => match x with
  | .ref a => match H a with
    | some (.tup xs) => ¬ (HT.sIx xs.length 0 lo = 0 ∧ HT.sIx xs.length xs.length hi = xs.length) ∧ ∀ p, H p = none → Q (.ref p) (upd H p (.tup (cutV xs lo hi)))
    | _ => False
  | _ => False
def fInt1 : List V → Hp → VK → Prop := fun vs H Q => match vs with
  | [.bl k] => Q (.int (if k = true then 1 else 0)) H
  | [.int i] => Q (.int i) H
  | _ => False
end
end L2

set_option Elab.async false
set_option linter.all false
set_option maxRecDepth 100000
set_option maxHeartbeats 1000000
namespace L2
open PySem PySem.Spec PyProof.Rows
/-! ### (a, b, ..) = a list of that length -/
section
variable {prog : Program} {w : World} {A : Around} {E : Value → Shared → Prop}
end
section
variable {X : Cx} {es : List Expr} {pos : Pos}
def fGLst (n : Nat) (t : TGs) : TG := fun v σ H Q => match v with
  | .ref a => match H a with
    | some (.lst xs) => xs.length = n ∧ t xs σ H Q
    | _ => False
  | _ => False
end
end L2

set_option Elab.async false
set_option linter.all false
set_option maxRecDepth 100000
set_option maxHeartbeats 2000000
/-! Sorting by any rank: runs and insertions that begin anywhere. -/
namespace So
open PySem PyProof.Rows

def kv (R : Keyed → Int) (xs : Array Keyed) (i : Nat) : Int := (xs[i]?.map R).getD 0
theorem kv_eq {R : Keyed → Int} {xs ys : Array Keyed} {i j : Nat} (h : xs[i]? = ys[j]?) : kv R xs i = kv R ys j := by unfold kv; rw [h]
theorem kv_at {R : Keyed → Int} {xs : Array Keyed} {i : Nat} {x : Keyed} (h : xs[i]? = some x) : kv R xs i = R x := by unfold kv; rw [h]; rfl
def Up (R : Keyed → Int) (xs : Array Keyed) (a b : Nat) : Prop := ∀ i j, a ≤ i → i ≤ j → j < b → kv R xs i ≤ kv R xs j
def Dn (R : Keyed → Int) (xs : Array Keyed) (a b : Nat) : Prop := ∀ i j, a ≤ i → i ≤ j → j < b → kv R xs j ≤ kv R xs i
def Fore (lo : Nat) (xs ys : Array Keyed) : Prop := ∀ i, i < lo → ys[i]? = xs[i]?
theorem Fore.rfl' {lo : Nat} {xs : Array Keyed} : Fore lo xs xs := fun _ _ => rfl
theorem Fore.tr {lo : Nat} {xs ys zs : Array Keyed} (a : Fore lo xs ys) (b : Fore lo ys zs) : Fore lo xs zs := fun i h => (b i h).trans (a i h)
theorem Up.one {R : Keyed → Int} {xs : Array Keyed} {a b : Nat} (h : b ≤ a + 1) : Up R xs a b := fun i j h1 h2 h3 => by
  have e : i = j := by omega
  rw [e]; exact Int.le_refl _
theorem Up.grow {R : Keyed → Int} {xs : Array Keyed} {a b : Nat} (h : Up R xs a b) (h2 : a < b) (hl : kv R xs (b - 1) ≤ kv R xs b) : Up R xs a (b + 1) := fun i j h3 h4 h5 => by
  by_cases hj : j < b
  · exact h i j h3 h4 hj
  · have e : j = b := by omega
    rw [e] at h4 ⊢
    by_cases hi : i = b
    · rw [hi]; exact Int.le_refl _
    · exact Int.le_trans (h i (b - 1) h3 (by omega) (by omega)) hl
theorem Dn.grow {R : Keyed → Int} {xs : Array Keyed} {a b : Nat} (h : Dn R xs a b) (h2 : a < b) (hl : kv R xs b ≤ kv R xs (b - 1)) : Dn R xs a (b + 1) := fun i j h3 h4 h5 => by
  by_cases hj : j < b
  · exact h i j h3 h4 hj
  · have e : j = b := by omega
    rw [e] at h4 ⊢
    by_cases hi : i = b
    · rw [hi]; exact Int.le_refl _
    · exact Int.le_trans hl (h i (b - 1) h3 (by omega) (by omega))
theorem Dn.like {R : Keyed → Int} {xs ys : Array Keyed} {a b : Nat} (h : Dn R xs a b) (e : ∀ k, kv R ys k = kv R xs k) : Dn R ys a b := fun i j h1 h2 h3 => by rw [e, e]; exact h i j h1 h2 h3

theorem kv_turn {R : Keyed → Int} {xs : Array Keyed} {i j : Nat} (hj : j ≤ xs.size) (k : Nat) :
    kv R (mirror xs i j ((j - i) / 2)) k = if i ≤ k ∧ k < j then kv R xs (i + j - 1 - k) else kv R xs k := by
  have e := getElem?_mirror_all (i := i) hj k
  by_cases c : i ≤ k ∧ k < j
  · rw [if_pos c] at e ⊢; exact kv_eq e
  · rw [if_neg c] at e ⊢; exact kv_eq e
theorem kv_turn_like {R : Keyed → Int} {xs : Array Keyed} {i j : Nat} (hj : j ≤ xs.size) (q : ∀ k, i ≤ k → k < j → kv R xs k = kv R xs (j - 1)) (k : Nat) :
    kv R (mirror xs i j ((j - i) / 2)) k = kv R xs k := by
  rw [kv_turn hj]
  split
  · rename_i c; rw [q _ (by omega) (by omega), q k c.1 c.2]
  · rfl
theorem fore_turn {lo : Nat} {xs : Array Keyed} {i j : Nat} (hj : j ≤ xs.size) (hi : lo ≤ i) : Fore lo xs (mirror xs i j ((j - i) / 2)) := fun k hk => by
  rw [getElem?_mirror_all hj, if_neg (by omega)]
theorem kv_slid {R : Keyed → Int} {xs : Array Keyed} {src d : Nat} (hs : src < xs.size) (hd : d ≤ src) (k : Nat) :
    kv R (bubble xs src d) k = if k = src - d then kv R xs src else if src - d < k ∧ k ≤ src then kv R xs (k - 1) else kv R xs k := by
  have e := getElem?_bubble hs d hd k
  by_cases c : k = src - d
  · rw [if_pos c] at e ⊢; exact kv_eq e
  · rw [if_neg c] at e ⊢
    by_cases c2 : src - d < k ∧ k ≤ src
    · rw [if_pos c2] at e ⊢; exact kv_eq e
    · rw [if_neg c2] at e ⊢; exact kv_eq e
theorem fore_slid {lo : Nat} {xs : Array Keyed} {src d : Nat} (hs : src < xs.size) (hd : lo + d ≤ src) : Fore lo xs (bubble xs src d) := fun k hk => by
  rw [getElem?_bubble hs d (by omega), if_neg (by omega), if_neg (by omega)]

structure Bs (κ : SortKind) (a₀ : Array Keyed) (pd : Array (Nat × Nat × Nat)) (st : SortSt) : Prop where
  perm : (arrOf st).Perm a₀
  kind : kindOf st = κ
  ok : failedOf st = none
  pend : pendingOf st = pd
section
variable {prog : Program} {w : World} {A : Around} {E : Value → Shared → Prop} {s : Shared} {R : Keyed → Int} {κ : SortKind} {a₀ : Array Keyed} {pd : Array (Nat × Nat × Nat)}
theorem Bs.size {st : SortSt} (b : Bs κ a₀ pd st) : (arrOf st).size = a₀.size := b.perm.size_eq
theorem Bs.put {st : SortSt} (b : Bs κ a₀ pd st) {xs : Array Keyed} (p : xs.Perm (arrOf st)) : Bs κ a₀ pd (setArr st xs) := ⟨p.trans b.perm, b.kind, b.ok, b.pend⟩
theorem Bs.get {st : SortSt} (b : Bs κ a₀ pd st) {i : Nat} (hi : i < a₀.size) : ∃ x, (arrOf st)[i]? = some x ∧ x ∈ a₀.toList := by
  have h1 : i < (arrOf st).size := by rw [b.size]; exact hi
  exact ⟨(arrOf st)[i], getElem?_pos _ i h1, (Array.perm_iff_toList_perm.mp b.perm).mem_iff.mp (by simp)⟩

/-- two of the things are asked which ranks lower -/
def Cm (prog : Program) (w : World) (A : Around) (s : Shared) (R : Keyed → Int) (κ : SortKind) (a₀ : Array Keyed) : Prop :=
  ∀ x y, x ∈ a₀.toList → y ∈ a₀.toList → ∀ (Q : Bool → Shared → Prop) (E : Value → Shared → Prop), Q (decide (R x < R y)) s → wpAny (model prog w) A (keyLt' κ x.1 y.1) Q E s

theorem w_lt (C : Cm prog w A s R κ a₀) {st : SortSt} {x y : Keyed} (hk : kindOf st = κ) (hx : x ∈ a₀.toList) (hy : y ∈ a₀.toList) {Q : Option Bool → SortSt → Prop} (h : Q (some (decide (R x < R y))) st) :
    wpS (model prog w) A E s (lt' x y) Q st := by
  rw [lt'_eq]
  refine wpS_bind (wpS_get ?_)
  rw [hk]
  refine wpS_bind (wpS_lift (wpAny_attempt (C x y hx hy _ _ ⟨rfl, ?_⟩)))
  exact wpS_pure h
theorem w_elem {st : SortSt} {xs : Array Keyed} {i : Nat} {x : Keyed} (e : xs[i]? = some x) {Q : Keyed → SortSt → Prop} (h : Q x st) : wpS (model prog w) A E s (elem' xs i) Q st := by
  rw [elem'_eq, e]; exact wpS_pure h
theorem w_ltAt (C : Cm prog w A s R κ a₀) {st : SortSt} (b : Bs κ a₀ pd st) {i j : Nat} (hi : i < a₀.size) (hj : j < a₀.size) {Q : Option Bool → SortSt → Prop}
    (h : Q (some (decide (kv R (arrOf st) i < kv R (arrOf st) j))) st) : wpS (model prog w) A E s (ltAt' i j) Q st := by
  obtain ⟨x, e1, m1⟩ := b.get hi
  obtain ⟨y, e2, m2⟩ := b.get hj
  rw [ltAt'_eq]
  refine wpS_bind (wpS_get (wpS_bind (w_elem e1 (wpS_bind (w_elem e2 (w_lt C b.kind m1 m2 ?_))))))
  rw [kv_at e1, kv_at e2] at h
  exact h

abbrev UpSt := Option (Option Nat) × Nat
abbrev DnSt := Option (Option Nat) × Nat × Nat
def goUp (lo a nrem : Nat) : StateT SortSt Sem UpSt :=
  forIn [a:nrem] ((none, a) : UpSt) fun _ c => do
    let z ← ltAt' (lo + c.snd) (lo + c.snd - 1)
    match z with
    | some less => if less = true then pure (.done (none, c.snd)) else pure (.yield (none, c.snd + 1))
    | _ => pure (.done (some none, c.snd))
def lastUp (lo n nrem : Nat) : StateT SortSt Sem (Option Nat) := do
  reverseSlice' lo (lo + n)
  let c ← goUp lo n nrem
  match c.fst with
  | some r => pure r
  | none => pure (some c.snd)
def goDn (lo n nrem : Nat) : StateT SortSt Sem DnSt :=
  forIn [n:nrem] ((none, n, 0) : DnSt) fun _ c => do
    let z ← ltAt' (lo + c.snd.fst) (lo + c.snd.fst - 1)
    match z with
    | some less =>
      if less = true then
        if c.snd.snd > 0 then do
          reverseSlice' (lo + c.snd.fst - (c.snd.snd + 1)) (lo + c.snd.fst)
          pure (.yield (none, c.snd.fst + 1, 0))
        else pure (.yield (none, c.snd.fst + 1, 0))
      else do
        let y ← ltAt' (lo + c.snd.fst - 1) (lo + c.snd.fst)
        match y with
        | some more => if more = true then pure (.done (none, c.snd.fst, c.snd.snd)) else pure (.yield (none, c.snd.fst + 1, c.snd.snd + 1))
        | _ => pure (.done (some none, c.snd.fst, c.snd.snd))
    | _ => pure (.done (some none, c.snd.fst, c.snd.snd))
def allDn (lo n nrem : Nat) : StateT SortSt Sem (Option Nat) := do
  liftM (rule "list.sort.descending-run")
  let c ← goDn lo (n + 1) nrem
  match c.fst with
  | some r => pure r
  | none =>
    if c.snd.snd > 0 then do
      reverseSlice' (lo + c.snd.fst - (c.snd.snd + 1)) (lo + c.snd.fst)
      lastUp lo c.snd.fst nrem
    else lastUp lo c.snd.fst nrem
theorem count_is (lo nrem : Nat) : countRun' lo nrem = (do
    let c ← goUp lo 1 nrem
    match c.fst with
    | some r => pure r
    | none =>
      if (c.snd == nrem) = true then pure (some c.snd)
      else if c.snd > 1 then do
        let z ← ltAt' lo (lo + c.snd - 1)
        match z with
        | some rose => if rose = true then pure (some c.snd) else do
            reverseSlice' lo (lo + c.snd)
            allDn lo c.snd nrem
        | _ => pure none
      else allDn lo c.snd nrem) := by
  rw [countRun'_eq]
  unfold allDn lastUp goDn goUp
  dsimp only
  congr 1
  funext c
  obtain ⟨r, n⟩ := c
  cases r with
  | some r => rfl
  | none =>
    dsimp only
    split
    · rfl
    · split
      · congr 1
        funext z
        cases z with
        | none => rfl
        | some rose =>
          dsimp only
          split
          · rfl
          · congr 1
            funext _r
            (congr 1; funext _u; congr 1; congr 1; funext c2; obtain ⟨r2, n2, q2⟩ := c2; cases r2 with
            | some r2 => rfl
            | none =>
              dsimp only
              split
              · congr 1; funext _t; congr 1; funext _v; congr 1; funext c3; obtain ⟨r3, n3⟩ := c3; cases r3 <;> rfl
              · congr 1; funext _v; congr 1; funext c3; obtain ⟨r3, n3⟩ := c3; cases r3 <;> rfl)
      · (congr 1; funext _u; congr 1; congr 1; funext c2; obtain ⟨r2, n2, q2⟩ := c2; cases r2 with
            | some r2 => rfl
            | none =>
              dsimp only
              split
              · congr 1; funext _t; congr 1; funext _v; congr 1; funext c3; obtain ⟨r3, n3⟩ := c3; cases r3 <;> rfl
              · congr 1; funext _v; congr 1; funext c3; obtain ⟨r3, n3⟩ := c3; cases r3 <;> rfl)

theorem w_turn {st : SortSt} {i j : Nat} {Q : Unit → SortSt → Prop} (h : Q () (setArr st (mirror (arrOf st) i j ((j - i) / 2)))) :
    wpS (model prog w) A E s (reverseSlice' i j) Q st := by
  rw [reverseSlice'_eq]; exact wpS_modify h

theorem w_goUp (C : Cm prog w A s R κ a₀) {st : SortSt} {lo a nrem : Nat} {Q : UpSt → SortSt → Prop} (hn : lo + nrem ≤ a₀.size) (ha : 1 ≤ a) (han : a ≤ nrem) (b : Bs κ a₀ pd st) (u : Up R (arrOf st) lo (lo + a))
    (h : ∀ n, a ≤ n → n ≤ nrem → Up R (arrOf st) lo (lo + n) → (n = nrem ∨ kv R (arrOf st) (lo + n) < kv R (arrOf st) (lo + n - 1)) → Q (none, n) st) :
    wpS (model prog w) A E s (goUp lo a nrem) Q st := by
  unfold goUp
  refine wpS_forRange (I := fun x c st' => st' = st ∧ c = (none, x) ∧ Up R (arrOf st) lo (lo + x)) ?step ?fin ⟨rfl, rfl, u⟩
  case fin =>
    rintro c st' ⟨rfl, rfl, u'⟩
    rw [show max a nrem = nrem by omega] at u' ⊢
    exact h nrem han (Nat.le_refl _) u' (.inl rfl)
  case step =>
    rintro x c st' hax hxn ⟨rfl, rfl, u'⟩
    dsimp only
    refine wpS_bind (w_ltAt C b (by omega) (by omega) ?_)
    by_cases c : kv R (arrOf st') (lo + x) < kv R (arrOf st') (lo + x - 1)
    · simp only [c, decide_true, if_true]
      exact wpS_pure (h x hax (by omega) u' (.inr c))
    · simp only [c, decide_false, Bool.false_eq_true, if_false]
      exact wpS_pure ⟨rfl, rfl, u'.grow (by omega) (by omega)⟩

theorem w_lastUp (C : Cm prog w A s R κ a₀) {st : SortSt} {lo n nrem : Nat} {Q : Option Nat → SortSt → Prop} (hn : lo + nrem ≤ a₀.size) (h1 : 1 ≤ n) (hnn : n ≤ nrem) (b : Bs κ a₀ pd st) (d : Dn R (arrOf st) lo (lo + n))
    (h : ∀ m st', Bs κ a₀ pd st' → Fore lo (arrOf st) (arrOf st') → 1 ≤ m → m ≤ nrem → Up R (arrOf st') lo (lo + m) → Q (some m) st') :
    wpS (model prog w) A E s (lastUp lo n nrem) Q st := by
  unfold lastUp
  have hsz : lo + n ≤ (arrOf st).size := by rw [b.size]; omega
  refine wpS_bind (w_turn ?_)
  have b' := b.put (mirror_perm (arrOf st) lo (lo + n) ((lo + n - lo) / 2))
  refine wpS_bind (w_goUp C hn h1 hnn b' ?_ fun m hm1 hm2 u _ => wpS_pure (h m _ b' (fore_turn hsz (Nat.le_refl _)) (by omega) hm2 u))
  intro i j h3 h4 h5
  show kv R (mirror (arrOf st) lo (lo + n) _) i ≤ kv R (mirror (arrOf st) lo (lo + n) _) j
  rw [kv_turn hsz, kv_turn hsz, if_pos (by omega), if_pos (by omega)]
  exact d _ _ (by omega) (by omega) (by omega)

theorem w_goDn (C : Cm prog w A s R κ a₀) {st : SortSt} {lo n nrem : Nat} {Q : DnSt → SortSt → Prop} (hn : lo + nrem ≤ a₀.size) (h1 : 1 ≤ n) (hnn : n ≤ nrem) (b : Bs κ a₀ pd st) (d : Dn R (arrOf st) lo (lo + n))
    (h : ∀ m q st', Bs κ a₀ pd st' → Fore lo (arrOf st) (arrOf st') → n ≤ m → m ≤ nrem → Dn R (arrOf st') lo (lo + m) → q + 1 ≤ m → (∀ i, lo + m - (q + 1) ≤ i → i < lo + m → kv R (arrOf st') i = kv R (arrOf st') (lo + m - 1)) → Q (none, m, q) st') :
    wpS (model prog w) A E s (goDn lo n nrem) Q st := by
  unfold goDn
  refine wpS_forRange (I := fun x c st' => ∃ q, c = (none, x, q) ∧ Bs κ a₀ pd st' ∧ Fore lo (arrOf st) (arrOf st') ∧ Dn R (arrOf st') lo (lo + x) ∧ q + 1 ≤ x ∧
      (∀ i, lo + x - (q + 1) ≤ i → i < lo + x → kv R (arrOf st') i = kv R (arrOf st') (lo + x - 1))) ?step ?fin ⟨0, rfl, b, Fore.rfl', d, by omega, fun i h1 h2 => by congr 1; omega⟩
  case fin =>
    rintro c st' ⟨q, rfl, b', f, d', hq, he⟩
    rw [show max n nrem = nrem by omega] at d' hq he ⊢
    exact h nrem q st' b' f hnn (Nat.le_refl _) d' hq he
  case step =>
    rintro x c st' hax hxn ⟨q, rfl, b', f, d', hq, he⟩
    dsimp only
    have hsz : lo + x ≤ (arrOf st').size := by rw [b'.size]; omega
    refine wpS_bind (w_ltAt C b' (by omega) (by omega) ?_)
    by_cases c : kv R (arrOf st') (lo + x) < kv R (arrOf st') (lo + x - 1)
    · simp only [c, decide_true, if_true]
      have g := d'.grow (by omega) (Int.le_of_lt c)
      by_cases hq0 : q > 0
      · rw [if_pos hq0]
        exact wpS_bind (w_turn (wpS_pure ⟨0, rfl, b'.put (mirror_perm _ _ _ _), f.tr (fore_turn hsz (by omega)), g.like (kv_turn_like hsz he), by omega, fun i h1 h2 => by congr 1; omega⟩))
      · rw [if_neg hq0]
        exact wpS_pure ⟨0, rfl, b', f, g, by omega, fun i h1 h2 => by congr 1; omega⟩
    · simp only [c, decide_false, Bool.false_eq_true, if_false]
      refine wpS_bind (w_ltAt C b' (by omega) (by omega) ?_)
      by_cases c2 : kv R (arrOf st') (lo + x - 1) < kv R (arrOf st') (lo + x)
      · simp only [c2, decide_true, if_true]
        exact wpS_pure (h x q st' b' f hax (by omega) d' hq he)
      · simp only [c2, decide_false, Bool.false_eq_true, if_false]
        have e2 : kv R (arrOf st') (lo + x) = kv R (arrOf st') (lo + x - 1) := by omega
        refine wpS_pure ⟨q + 1, rfl, b', f, d'.grow (by omega) (by omega), by omega, fun i h1 h2 => ?_⟩
        rw [show lo + (x + 1) - 1 = lo + x by omega]
        by_cases hix : i = lo + x
        · rw [hix]
        · rw [e2]; exact he i (by omega) (by omega)

theorem w_allDn (C : Cm prog w A s R κ a₀) {st : SortSt} {lo n nrem : Nat} {Q : Option Nat → SortSt → Prop} (hn : lo + nrem ≤ a₀.size) (hnn : n + 1 ≤ nrem) (b : Bs κ a₀ pd st) (d : Dn R (arrOf st) lo (lo + (n + 1)))
    (h : ∀ m st', Bs κ a₀ pd st' → Fore lo (arrOf st) (arrOf st') → 1 ≤ m → m ≤ nrem → Up R (arrOf st') lo (lo + m) → Q (some m) st') :
    wpS (model prog w) A E s (allDn lo n nrem) Q st := by
  unfold allDn
  refine wpS_bind (wpS_lift (wpAny_rule ⟨rfl, ?_⟩))
  refine wpS_bind (w_goDn C hn (by omega) hnn b d fun m q st' b' f hm1 hm2 d' hq he => ?_)
  dsimp only
  have hsz : lo + m ≤ (arrOf st').size := by rw [b'.size]; omega
  by_cases hq0 : q > 0
  · rw [if_pos hq0]
    exact wpS_bind (w_turn (w_lastUp C hn (by omega) hm2 (b'.put (mirror_perm _ _ _ _)) (d'.like (kv_turn_like hsz he)) fun m2 st2 a1 a2 => h m2 st2 a1 ((f.tr (fore_turn hsz (by omega))).tr a2)))
  · rw [if_neg hq0]
    exact w_lastUp C hn (by omega) hm2 b' d' fun m2 st2 a1 a2 => h m2 st2 a1 (f.tr a2)

theorem w_count (C : Cm prog w A s R κ a₀) {st : SortSt} {lo nrem : Nat} {Q : Option Nat → SortSt → Prop} (hn : lo + nrem ≤ a₀.size) (h1 : 1 ≤ nrem) (b : Bs κ a₀ pd st)
    (h : ∀ m st', Bs κ a₀ pd st' → Fore lo (arrOf st) (arrOf st') → 1 ≤ m → m ≤ nrem → Up R (arrOf st') lo (lo + m) → Q (some m) st') :
    wpS (model prog w) A E s (countRun' lo nrem) Q st := by
  rw [count_is]
  refine wpS_bind (w_goUp C hn (Nat.le_refl 1) h1 b (Up.one (Nat.le_refl _)) fun n hn1 hn2 u hor => ?_)
  dsimp only
  by_cases c : n = nrem
  · rw [if_pos (by simpa using c)]
    exact wpS_pure (h n st b Fore.rfl' hn1 hn2 u)
  · rw [if_neg (by simpa using c)]
    have hlt := hor.resolve_left c
    by_cases hgt : n > 1
    · rw [if_pos hgt]
      refine wpS_bind (w_ltAt C b (by omega) (by omega) ?_)
      by_cases c2 : kv R (arrOf st) lo < kv R (arrOf st) (lo + n - 1)
      · simp only [c2, decide_true, if_true]
        exact wpS_pure (h n st b Fore.rfl' hn1 hn2 u)
      · simp only [c2, decide_false, Bool.false_eq_true, if_false]
        have hsz : lo + n ≤ (arrOf st).size := by rw [b.size]; omega
        have hall : ∀ k, lo ≤ k → k < lo + n → kv R (arrOf st) k = kv R (arrOf st) (lo + n - 1) := by
          intro k h2 h3
          have a1 := u lo k (Nat.le_refl _) h2 h3
          have a2 := u k (lo + n - 1) h2 (by omega) (by omega)
          omega
        have d : Dn R (arrOf st) lo (lo + n) := fun i j h3 h4 h5 => by rw [hall i h3 (by omega), hall j (by omega) h5]; exact Int.le_refl _
        have g : Dn R (arrOf st) lo (lo + (n + 1)) := d.grow (by omega) (Int.le_of_lt hlt)
        exact wpS_bind (w_turn (w_allDn C hn (by omega) (b.put (mirror_perm _ _ _ _)) (g.like (kv_turn_like hsz hall)) fun m st' a1 a2 => h m st' a1 ((fore_turn hsz (Nat.le_refl _)).tr a2)))
    · rw [if_neg hgt]
      have e : n = 1 := by omega
      subst e
      have d : Dn R (arrOf st) lo (lo + 1) := fun i j h3 h4 h5 => by
        have e : i = j := by omega
        rw [e]; exact Int.le_refl _
      exact w_allDn C hn (by omega) b (d.grow (by omega) (Int.le_of_lt hlt)) h

theorem w_ins (C : Cm prog w A s R κ a₀) {st : SortSt} {lo n ok : Nat} {Q : Bool → SortSt → Prop} (hn : lo + n ≤ a₀.size) (hok : ok ≤ n) (b : Bs κ a₀ pd st) (u : Up R (arrOf st) lo (lo + ok))
    (h : ∀ st', Bs κ a₀ pd st' → Fore lo (arrOf st) (arrOf st') → Up R (arrOf st') lo (lo + n) → Q true st') : wpS (model prog w) A E s (binarySort' lo n ok) Q st := by
  rw [binarySort'_eq]
  refine wpS_bind (wpS_mono (wpS_forRange (I := fun k c st' => c = (none, ()) ∧ Bs κ a₀ pd st' ∧ Fore lo (arrOf st) (arrOf st') ∧ Up R (arrOf st') lo (lo + min k n))
    (Q := fun c st' => c = (none, ()) ∧ Bs κ a₀ pd st' ∧ Fore lo (arrOf st) (arrOf st') ∧ Up R (arrOf st') lo (lo + n)) ?step ?fin ?init) ?post)
  case post =>
    rintro c st' ⟨rfl, b', f, u'⟩
    exact wpS_pure (h st' b' f u')
  case init =>
    refine ⟨rfl, b, Fore.rfl', fun i j h1 h2 h3 => ?_⟩
    by_cases c : ok = 0
    · have e : i = j := by omega
      rw [e]; exact Int.le_refl _
    · exact u i j h1 h2 (by omega)
  case fin =>
    rintro c st' ⟨hc, b', f, u'⟩
    rw [show min (max (max ok 1) n) n = n by omega] at u'
    exact ⟨hc, b', f, u'⟩
  case step =>
    rintro k c st' hak hkn ⟨rfl, b', f, u'⟩
    rw [show min k n = k by omega] at u'
    refine wpS_bind (wpS_mono (wpS_forRange (I := fun x c st2 => st2 = st' ∧ ∃ l r, c = (none, l, r) ∧ l ≤ r ∧ r ≤ k ∧ r - l ≤ k - x ∧
        (∀ i, i < l → kv R (arrOf st') (lo + i) ≤ kv R (arrOf st') (lo + k)) ∧ (∀ i, r ≤ i → i < k → kv R (arrOf st') (lo + k) < kv R (arrOf st') (lo + i)))
      (Q := fun c st2 => st2 = st' ∧ ∃ l r, c = (none, l, r) ∧ l ≤ k ∧
        (∀ i, i < l → kv R (arrOf st') (lo + i) ≤ kv R (arrOf st') (lo + k)) ∧ (∀ i, l ≤ i → i < k → kv R (arrOf st') (lo + k) < kv R (arrOf st') (lo + i))) ?istep ?ifin ?iinit) ?ipost)
    case iinit => exact ⟨rfl, 0, k, rfl, by omega, by omega, by omega, fun i hi => by omega, fun i h1 h2 => by omega⟩
    case ifin =>
      rintro c st2 ⟨rfl, l, r, rfl, hlr, hrk, hm, hlo, hhi⟩
      have e : l = r := by omega
      subst e
      exact ⟨rfl, l, l, rfl, hrk, hlo, hhi⟩
    case istep =>
      rintro x c st2 _ hxk ⟨rfl, l, r, rfl, hlr, hrk, hm, hlo, hhi⟩
      dsimp only
      by_cases hge : l ≥ r
      · rw [if_pos hge]
        have e : l = r := by omega
        subst e
        exact wpS_pure ⟨rfl, l, l, rfl, hrk, hlo, hhi⟩
      · rw [if_neg hge]
        refine wpS_bind (w_ltAt C b' (by omega) (by omega) ?_)
        by_cases c : kv R (arrOf st2) (lo + k) < kv R (arrOf st2) (lo + (l + r) / 2)
        · simp only [c, decide_true, if_true]
          exact wpS_pure ⟨rfl, l, (l + r) / 2, rfl, by omega, by omega, by omega, hlo, fun i h1 h2 => Int.lt_of_lt_of_le c (u' _ _ (by omega) (by omega) (by omega))⟩
        · simp only [c, decide_false, Bool.false_eq_true, if_false]
          exact wpS_pure ⟨rfl, (l + r) / 2 + 1, r, rfl, by omega, by omega, by omega, fun i h1 => Int.le_trans (u' (lo + i) (lo + (l + r) / 2) (by omega) (by omega) (by omega)) (Int.not_lt.mp c), hhi⟩
    case ipost =>
      rintro c st2 ⟨rfl, l, r, rfl, hlk, hlo, hhi⟩
      show wpS _ _ _ _ (do moveDown' (lo + k) (lo + l); pure (ForInStep.yield (none, ()))) _ _
      rw [moveDown'_eq]
      have hks : lo + k < (arrOf st2).size := by rw [b'.size]; omega
      refine wpS_bind (wpS_modify (wpS_pure ⟨rfl, b'.put (bubble_perm _ _ _), f.tr (fore_slid hks (by omega)), ?_⟩))
      rw [show min (k + 1) n = k + 1 by omega]
      intro i j h1 h2 h3
      show kv R (bubble (arrOf st2) (lo + k) (lo + k - (lo + l))) i ≤ kv R (bubble (arrOf st2) (lo + k) (lo + k - (lo + l))) j
      rw [kv_slid hks (by omega), kv_slid hks (by omega), show lo + k - (lo + k - (lo + l)) = lo + l by omega]
      have lowof : ∀ i, lo ≤ i → i < lo + l → kv R (arrOf st2) i ≤ kv R (arrOf st2) (lo + k) := fun i a1 a2 => by
        have z := hlo (i - lo) (by omega)
        rwa [show lo + (i - lo) = i by omega] at z
      have highof : ∀ i, lo + l ≤ i → i < lo + k → kv R (arrOf st2) (lo + k) < kv R (arrOf st2) i := fun i a1 a2 => by
        have z := hhi (i - lo) (by omega) (by omega)
        rwa [show lo + (i - lo) = i by omega] at z
      repeat' split
      all_goals first
        | (exfalso; omega)
        | exact Int.le_refl _
        | exact lowof _ (by omega) (by omega)
        | exact Int.le_of_lt (highof _ (by omega) (by omega))
        | exact u' _ _ (by omega) (by omega) (by omega)
end
end So

set_option Elab.async false
set_option linter.all false
set_option maxRecDepth 100000
set_option maxHeartbeats 2000000
namespace So
open PySem PyProof.Rows
def gallopP : Bool → Keyed → Array Keyed → Nat → Nat → Nat → StateT SortSt Sem (Option Nat) := sortPriv% PySem.Builtin.gallop
/-- does the k-th one come ahead of the key -/
def gl (R : Keyed → Int) (left : Bool) (key : Keyed) (v : Int) : Bool := if left = true then decide (v < R key) else !decide (R key < v)
theorem gl_le {R : Keyed → Int} {left : Bool} {key : Keyed} {u v : Int} (h : gl R left key v = true) (huv : u ≤ v) : gl R left key u = true := by
  unfold gl at h ⊢
  cases left
  · simp only [Bool.false_eq_true, if_false, Bool.not_eq_true', decide_eq_false_iff_not] at h ⊢; omega
  · simp only [if_true, decide_eq_true_eq] at h ⊢; omega
section
variable {prog : Program} {w : World} {A : Around} {E : Value → Shared → Prop} {s : Shared} {R : Keyed → Int} {κ : SortKind} {a₀ : Array Keyed} {pd : Array (Nat × Nat × Nat)}
abbrev BiSt := Option (Option Nat) × Nat × Nat
theorem w_bis {st : SortSt} {n : Nat} {g : Nat → Bool} {M : Model} {f : Nat → BiSt → StateT SortSt Sem (ForInStep BiSt)} {z : BiSt → StateT SortSt Sem (Option Nat)}
    (up : ∀ i j, i ≤ j → j < n → g j = true → g i = true) {Q : Option Nat → SortSt → Prop} (h : ∀ k, k ≤ n → (∀ i, i < k → g i = true) → (∀ i, k ≤ i → i < n → g i = false) → Q (some k) st)
    (hf : ∀ x l r (Q' : ForInStep BiSt → SortSt → Prop), l < r → r ≤ n → (g (l + (r - l) / 2) = true → Q' (.yield (none, l + (r - l) / 2 + 1, r)) st) → (g (l + (r - l) / 2) = false → Q' (.yield (none, l, l + (r - l) / 2)) st) → wpS M A E s (f x (none, l, r)) Q' st)
    (hf0 : ∀ x l (Q' : ForInStep BiSt → SortSt → Prop), Q' (.done (none, l, l)) st → wpS M A E s (f x (none, l, l)) Q' st)
    (hz : ∀ l (Q' : Option Nat → SortSt → Prop), Q' (some l) st → wpS M A E s (z (none, l, l)) Q' st)
    {lo hi : Nat} (h1 : lo ≤ hi) (h2 : hi ≤ n) (h3 : ∀ i, i < lo → g i = true) (h4 : ∀ i, hi ≤ i → i < n → g i = false) :
    wpS M A E s (forIn [0:n] ((none, lo, hi) : BiSt) f >>= z) Q st := by
  refine wpS_bind (wpS_mono (wpS_forRange (I := fun x c st' => st' = st ∧ ∃ l r, c = (none, l, r) ∧ l ≤ r ∧ r ≤ n ∧ r - l ≤ n - x ∧ (∀ i, i < l → g i = true) ∧ (∀ i, r ≤ i → i < n → g i = false))
    (Q := fun c st' => st' = st ∧ ∃ r, c = (none, r, r) ∧ r ≤ n ∧ (∀ i, i < r → g i = true) ∧ (∀ i, r ≤ i → i < n → g i = false)) ?step ?fin ⟨rfl, lo, hi, rfl, h1, h2, by omega, h3, h4⟩) ?post)
  case post =>
    rintro c st' ⟨rfl, r, rfl, a1, a2, a3⟩
    exact hz r Q (h r a1 a2 a3)
  case fin =>
    rintro c st' ⟨rfl, l, r, rfl, a1, a2, a3, a4, a5⟩
    have e : l = r := by omega
    subst e
    exact ⟨rfl, l, rfl, a2, a4, a5⟩
  case step =>
    rintro x c st' _ hx ⟨rfl, l, r, rfl, a1, a2, a3, a4, a5⟩
    by_cases hge : l = r
    · subst hge
      exact hf0 x l _ ⟨rfl, l, rfl, a2, a4, a5⟩
    · refine hf x l r _ (by omega) a2 (fun hg => ?_) fun hg => ?_
      · exact ⟨rfl, _, r, rfl, by omega, a2, by omega, fun i hi => up i (l + (r - l) / 2) (by omega) (by omega) hg, a5⟩
      · refine ⟨rfl, l, _, rfl, by omega, by omega, by omega, a4, fun i hi1 hi2 => ?_⟩
        cases hgi : g i with
        | false => rfl
        | true => rw [up _ i hi1 hi2 hgi] at hg; cases hg
theorem w_gallop (C : Cm prog w A s R κ a₀) {st : SortSt} (hk : kindOf st = κ) {left : Bool} {key : Keyed} {arr : Array Keyed} {base n hint : Nat} (hkey : key ∈ a₀.toList) (harr : ∀ i, i < n → ∃ x, arr[base + i]? = some x ∧ x ∈ a₀.toList)
    (hh : hint < n) (u : Up R arr base (base + n)) {Q : Option Nat → SortSt → Prop}
    (h : ∀ k, k ≤ n → (∀ i, i < k → gl R left key (kv R arr (base + i)) = true) → (∀ i, k ≤ i → i < n → gl R left key (kv R arr (base + i)) = false) → Q (some k) st) :
    wpS (model prog w) A E s (gallopP left key arr base n hint) Q st := by
  have bey : ∀ (i : Nat), i < n → ∀ (Q' : Option Bool → SortSt → Prop), Q' (some (gl R left key (kv R arr (base + i)))) st →
      wpS (model prog w) A E s (do let x ← elem' arr (base + i); if left = true then lt' x key else do let z ← lt' key x; pure (z.map (!·))) Q' st := by
    intro i hi Q' hq
    obtain ⟨x, e, m⟩ := harr i hi
    rw [kv_at e] at hq
    refine wpS_bind (w_elem e ?_)
    unfold gl at hq
    cases left
    · simp only [Bool.false_eq_true, if_false] at hq ⊢
      exact wpS_bind (w_lt C hk hkey m (wpS_pure hq))
    · simp only [if_true] at hq ⊢
      exact w_lt C hk m hkey hq
  have up : ∀ i j, i ≤ j → j < n → gl R left key (kv R arr (base + j)) = true → gl R left key (kv R arr (base + i)) = true := fun i j h1 h2 h3 => gl_le h3 (u _ _ (by omega) (by omega) (by omega))
  have dn : ∀ i j, i ≤ j → j < n → gl R left key (kv R arr (base + i)) = false → gl R left key (kv R arr (base + j)) = false := fun i j h1 h2 h3 => by
    cases hj : gl R left key (kv R arr (base + j)) with
    | false => rfl
    | true => rw [up i j h1 h2 hj] at h3; cases h3
  clear u harr hkey
  generalize hg : (fun i => gl R left key (kv R arr (base + i))) = g at *
  have hgi : ∀ i, gl R left key (kv R arr (base + i)) = g i := fun i => by rw [← hg]
  simp only [hgi] at h bey up dn
  unfold gallopP
  refine wpS_bind (bey hint hh _ ?_)
  cases hgh : g hint with
  | true =>
    dsimp only
    rw [if_pos rfl]
    refine wpS_bind (wpS_mono (wpS_forRange (I := fun x c st' => st' = st ∧ ∃ l o, c = (none, l, o) ∧ l < o ∧ x < o ∧ hint + l < n ∧ g (hint + l) = true)
      (Q := fun c st' => st' = st ∧ ∃ l o, c = (none, l, o) ∧ l < o ∧ hint + l < n ∧ g (hint + l) = true ∧ (n - hint ≤ o ∨ g (hint + o) = false)) ?step ?fin ⟨rfl, 0, 1, rfl, by omega, by omega, by omega, hgh⟩) ?post)
    case fin =>
      rintro c st' ⟨rfl, l, o, rfl, a1, a2, a3, a4⟩
      exact ⟨rfl, l, o, rfl, a1, a3, a4, .inl (by omega)⟩
    case step =>
      rintro x c st' _ hx ⟨rfl, l, o, rfl, a1, a2, a3, a4⟩
      dsimp only
      by_cases hge : o ≥ n - hint
      · rw [if_pos hge]
        exact wpS_pure ⟨rfl, l, o, rfl, a1, a3, a4, .inl hge⟩
      · rw [if_neg hge]
        refine wpS_bind (bey _ (by omega) _ ?_)
        cases hgo : g (hint + o) with
        | true => exact wpS_pure ⟨rfl, o, _, rfl, by omega, by omega, by omega, hgo⟩
        | false => exact wpS_pure ⟨rfl, l, o, rfl, a1, a3, a4, .inr hgo⟩
    case post =>
      rintro c st' ⟨rfl, l, o, rfl, a1, a2, a3, a4⟩
      dsimp only
      refine w_bis up h (fun x l r Q' c1 c2 y1 y2 => ?hf) (fun x l Q' q => ?hf0) (fun l Q' q => wpS_pure q) (lo := hint + l + 1) (hi := hint + min o (n - hint)) (by omega) (by omega) (fun i hi => up i (hint + l) (by omega) (by omega) a3) fun i hi1 hi2 => ?_
      case hf =>
        dsimp only
        rw [if_neg (by omega)]
        refine wpS_bind (bey _ (by omega) _ ?_)
        cases hg : g (l + (r - l) / 2) with
        | true => exact wpS_pure (y1 hg)
        | false => exact wpS_pure (y2 hg)
      case hf0 =>
        dsimp only
        rw [if_pos (Nat.le_refl _)]
        exact wpS_pure q
      rcases a4 with a4 | a4
      · omega
      · exact dn _ i (by omega) hi2 a4
  | false =>
    dsimp only
    rw [if_neg (by simp)]
    refine wpS_bind (wpS_mono (wpS_forRange (I := fun x c st' => st' = st ∧ ∃ l o, c = (none, l, o) ∧ l < o ∧ x < o ∧ l ≤ hint ∧ g (hint - l) = false)
      (Q := fun c st' => st' = st ∧ ∃ l o, c = (none, l, o) ∧ l < o ∧ l ≤ hint ∧ g (hint - l) = false ∧ (hint + 1 ≤ o ∨ g (hint - o) = true)) ?step2 ?fin2 ⟨rfl, 0, 1, rfl, by omega, by omega, by omega, hgh⟩) ?post2)
    case fin2 =>
      rintro c st' ⟨rfl, l, o, rfl, a1, a2, a3, a4⟩
      exact ⟨rfl, l, o, rfl, a1, a3, a4, .inl (by omega)⟩
    case step2 =>
      rintro x c st' _ hx ⟨rfl, l, o, rfl, a1, a2, a3, a4⟩
      dsimp only
      by_cases hge : o ≥ hint + 1
      · rw [if_pos hge]
        exact wpS_pure ⟨rfl, l, o, rfl, a1, a3, a4, .inl hge⟩
      · rw [if_neg hge]
        refine wpS_bind (bey _ (by omega) _ ?_)
        cases hgo : g (hint - o) with
        | true => exact wpS_pure ⟨rfl, l, o, rfl, a1, a3, a4, .inr hgo⟩
        | false => exact wpS_pure ⟨rfl, o, _, rfl, by omega, by omega, by omega, hgo⟩
    case post2 =>
      rintro c st' ⟨rfl, l, o, rfl, a1, a2, a3, a4⟩
      dsimp only
      refine w_bis up h (fun x l r Q' c1 c2 y1 y2 => ?hf2) (fun x l Q' q => ?hf02) (fun l Q' q => wpS_pure q) (lo := hint + 1 - min o (hint + 1)) (hi := hint - l) (by omega) (by omega) (fun i hi => ?_) fun i hi1 hi2 => dn (hint - l) i (by omega) hi2 a3
      case hf2 =>
        dsimp only
        rw [if_neg (by omega)]
        refine wpS_bind (bey _ (by omega) _ ?_)
        cases hg : g (l + (r - l) / 2) with
        | true => exact wpS_pure (y1 hg)
        | false => exact wpS_pure (y2 hg)
      case hf02 =>
        dsimp only
        rw [if_pos (Nat.le_refl _)]
        exact wpS_pure q
      rcases a4 with a4 | a4
      · omega
      · exact up i (hint - o) (by omega) (by omega) a4
end
end So

set_option Elab.async false
set_option linter.all false
set_option maxRecDepth 100000
set_option maxHeartbeats 4000000
namespace So
open PySem PyProof.Rows
def Le (R : Keyed → Int) : Keyed → Keyed → Prop := fun x y => R x ≤ R y
def MS (R : Keyed → Int) (o la lb tot : List Keyed) : Prop := (o ++ la).Pairwise (Le R) ∧ (o ++ lb).Pairwise (Le R) ∧ (o ++ (la ++ lb)).Perm tot
def Fi (R : Keyed → Int) (l tot : List Keyed) : Prop := l.Pairwise (Le R) ∧ l.Perm tot
section
variable {R : Keyed → Int} {o la lb tot xs : List Keyed}
theorem MS.a (h : MS R o (xs ++ la) lb tot) (hx : ∀ x ∈ xs, ∀ y ∈ lb, R x ≤ R y) : MS R (o ++ xs) la lb tot := by
  obtain ⟨h1, h2, h3⟩ := h
  refine ⟨by rw [List.append_assoc]; exact h1, ?_, by rw [List.append_assoc, ← List.append_assoc xs]; exact h3⟩
  rw [List.append_assoc, List.pairwise_append]
  rw [List.pairwise_append] at h1 h2
  obtain ⟨o1, o2, o3⟩ := h1
  obtain ⟨p1, p2, p3⟩ := h2
  rw [List.pairwise_append] at o2
  refine ⟨o1, List.pairwise_append.mpr ⟨o2.1, p2, hx⟩, fun x m y n => ?_⟩
  rcases List.mem_append.mp n with n | n
  · exact o3 x m y (List.mem_append_left _ n)
  · exact p3 x m y n
theorem MS.b (h : MS R o la (xs ++ lb) tot) (hx : ∀ x ∈ xs, ∀ y ∈ la, R x ≤ R y) : MS R (o ++ xs) la lb tot := by
  have z : MS R o (xs ++ lb) la tot := ⟨h.2.1, h.1, (List.Perm.append_left _ List.perm_append_comm).trans h.2.2⟩
  have q := z.a hx
  exact ⟨q.2.1, q.1, (List.Perm.append_left _ List.perm_append_comm).trans q.2.2⟩
theorem MS.endA (h : MS R o la [] tot) : Fi R (o ++ la) tot := ⟨h.1, by have z := h.2.2; rwa [List.append_nil] at z⟩
theorem MS.endB (h : MS R o [] lb tot) : Fi R (o ++ lb) tot := ⟨h.2.1, h.2.2⟩
theorem MS.last (h : MS R o la lb tot) (hx : ∀ y ∈ lb, ∀ x ∈ la, R y ≤ R x) : Fi R (o ++ lb ++ la) tot := by
  obtain ⟨h1, h2, h3⟩ := h
  refine ⟨?_, ?_⟩
  · rw [List.append_assoc, List.pairwise_append]
    rw [List.pairwise_append] at h1 h2
    refine ⟨h1.1, List.pairwise_append.mpr ⟨h2.2.1, h1.2.1, hx⟩, fun x m y n => ?_⟩
    rcases List.mem_append.mp n with n | n
    · exact h2.2.2 x m y n
    · exact h1.2.2 x m y n
  · rw [List.append_assoc]; exact (List.Perm.append_left _ List.perm_append_comm).trans h3
end
section
variable {a : Array Keyed} {R : Keyed → Int} {i k : Nat}
theorem drop_at {x : Keyed} (e : a[i]? = some x) : a.toList.drop i = x :: a.toList.drop (i + 1) := by
  have hi : i < a.toList.length := by
    rw [Array.length_toList]
    exact (Array.getElem?_eq_some_iff.mp e).1
  rw [List.drop_eq_getElem_cons hi]
  congr 1
  obtain ⟨h1, h2⟩ := Array.getElem?_eq_some_iff.mp e
  rw [← h2, Array.getElem_toList]
theorem ext_list (a : Array Keyed) (i k : Nat) : (a.extract i k).toList = (a.toList.drop i).take (k - i) := by
  rw [Array.toList_extract]
theorem ext_all (a : Array Keyed) (i : Nat) : (a.extract i a.size).toList = a.toList.drop i := by
  rw [ext_list]
  apply List.take_of_length_le
  rw [List.length_drop, Array.length_toList]
  exact Nat.le_refl _
theorem drop_ext (a : Array Keyed) (i k : Nat) : a.toList.drop i = (a.extract i (i + k)).toList ++ a.toList.drop (i + k) := by
  rw [ext_list, Nat.add_sub_cancel_left, ← List.drop_drop, List.take_append_drop]
theorem mem_ext {x : Keyed} (h : x ∈ (a.extract i (i + k)).toList) : ∃ j, j < k ∧ a[i + j]? = some x := by
  rw [ext_list, Nat.add_sub_cancel_left] at h
  obtain ⟨j, hj, e⟩ := List.getElem_of_mem h
  rw [List.getElem_take, List.getElem_drop] at e
  rw [List.length_take] at hj
  refine ⟨j, by omega, ?_⟩
  rw [← e, ← Array.getElem?_toList]
  exact List.getElem?_eq_getElem _
theorem mem_drop {x : Keyed} (h : x ∈ a.toList.drop i) : ∃ j, i ≤ j ∧ j < a.size ∧ a[j]? = some x := by
  obtain ⟨j, hj, e⟩ := List.getElem_of_mem h
  rw [List.getElem_drop] at e
  rw [List.length_drop, Array.length_toList] at hj
  refine ⟨i + j, by omega, by omega, ?_⟩
  rw [← e, ← Array.getElem?_toList]
  exact List.getElem?_eq_getElem _
theorem get_at (h : i < a.size) : ∃ x, a[i]? = some x ∧ x ∈ a.toList := ⟨a[i], getElem?_pos _ i h, by simp⟩
theorem Up.le (u : Up R a 0 a.size) {j : Nat} {x y : Keyed} (hx : a[i]? = some x) (hy : a[j]? = some y) (h : i ≤ j) : R x ≤ R y := by
  have z := u i j (Nat.zero_le _) h (Array.getElem?_eq_some_iff.mp hy).1
  rwa [kv_at hx, kv_at hy] at z
end
theorem gl_true {R : Keyed → Int} {key : Keyed} {v : Int} (h : gl R true key v = true) : v < R key := by unfold gl at h; simpa using h
theorem gl_true0 {R : Keyed → Int} {key : Keyed} {v : Int} (h : gl R true key v = false) : R key ≤ v := by unfold gl at h; simpa using h
theorem gl_false {R : Keyed → Int} {key : Keyed} {v : Int} (h : gl R false key v = true) : v ≤ R key := by unfold gl at h; simpa using h
theorem gl_false0 {R : Keyed → Int} {key : Keyed} {v : Int} (h : gl R false key v = false) : R key < v := by unfold gl at h; simpa using h
section
variable {M : Model} {A : Around} {E : Value → Shared → Prop} {s : Shared} {σ α : Type}
theorem w_ite {c : Prop} [Decidable c] {m n : StateT σ Sem α} {Q : α → σ → Prop} {st : σ} (h1 : c → wpS M A E s m Q st) (h2 : ¬ c → wpS M A E s n Q st) : wpS M A E s (if c then m else n) Q st := by
  by_cases h : c
  · rw [if_pos h]; exact h1 h
  · rw [if_neg h]; exact h2 h
end
/-- all but the number of wins -/
structure Lk (st st' : SortSt) : Prop where
  kind : kindOf st' = kindOf st
  arr : arrOf st' = arrOf st
  pend : pendingOf st' = pendingOf st
  ok : failedOf st' = failedOf st
theorem Lk.refl (st : SortSt) : Lk st st := ⟨rfl, rfl, rfl, rfl⟩
theorem Lk.setg {st st' : SortSt} (l : Lk st st') (g : Nat) : Lk st (SortSt.mk' (kindOf st') (arrOf st') (pendingOf st') g (failedOf st')) := ⟨l.kind, l.arr, l.pend, l.ok⟩
def setg : Nat → StateT SortSt Sem Unit := sortPriv% PySem.Builtin.setMinGallop
section
variable {R : Keyed → Int} {a b out : Array Keyed} {ia ib k : Nat} {tot : List Keyed}
theorem pushB (m : MS R out.toList (a.toList.drop ia) (b.toList.drop ib) tot) {x : Keyed} (e : b[ib]? = some x) (h : ∀ y ∈ a.toList.drop ia, R x ≤ R y) : MS R (out.push x).toList (a.toList.drop ia) (b.toList.drop (ib + 1)) tot := by
  rw [drop_at e] at m
  rw [Array.toList_push]
  refine MS.b (xs := [x]) m fun z hz y hy => ?_
  rw [List.mem_singleton.mp hz]; exact h y hy
theorem pushA (m : MS R out.toList (a.toList.drop ia) (b.toList.drop ib) tot) {x : Keyed} (e : a[ia]? = some x) (h : ∀ y ∈ b.toList.drop ib, R x ≤ R y) : MS R (out.push x).toList (a.toList.drop (ia + 1)) (b.toList.drop ib) tot := by
  rw [drop_at e] at m
  rw [Array.toList_push]
  refine MS.a (xs := [x]) m fun z hz y hy => ?_
  rw [List.mem_singleton.mp hz]; exact h y hy
theorem appA (m : MS R out.toList (a.toList.drop ia) (b.toList.drop ib) tot) (h : ∀ x ∈ (a.extract ia (ia + k)).toList, ∀ y ∈ b.toList.drop ib, R x ≤ R y) : MS R (out ++ a.extract ia (ia + k)).toList (a.toList.drop (ia + k)) (b.toList.drop ib) tot := by
  rw [drop_ext a ia k] at m
  rw [Array.toList_append]
  exact MS.a m h
theorem appB (m : MS R out.toList (a.toList.drop ia) (b.toList.drop ib) tot) (h : ∀ x ∈ (b.extract ib (ib + k)).toList, ∀ y ∈ a.toList.drop ia, R x ≤ R y) : MS R (out ++ b.extract ib (ib + k)).toList (a.toList.drop ia) (b.toList.drop (ib + k)) tot := by
  rw [drop_ext b ib k] at m
  rw [Array.toList_append]
  exact MS.b m h
end
def mLo : Array Keyed → Array Keyed → StateT SortSt Sem (Array Keyed) := sortPriv% PySem.Builtin.mergeLo
def mHi : Array Keyed → Array Keyed → StateT SortSt Sem (Array Keyed) := sortPriv% PySem.Builtin.mergeHi
section
variable {prog : Program} {w : World} {A : Around} {E : Value → Shared → Prop} {s : Shared} {R : Keyed → Int} {κ : SortKind} {a₀ : Array Keyed} {pd : Array (Nat × Nat × Nat)}
theorem w_setg {st st' : SortSt} {g : Nat} {Q : Unit → SortSt → Prop} (l : Lk st st') (h : ∀ st2, Lk st st2 → Q () st2) : wpS (model prog w) A E s (setg g) Q st' := wpS_modify (h _ (l.setg g))
abbrev LoSt := Option (Array Keyed) × Array Keyed × Nat × Nat × Nat
theorem w_mLo (C : Cm prog w A s R κ a₀) {st : SortSt} (hk : kindOf st = κ) {a b : Array Keyed} {tot : List Keyed} (ha : ∀ x ∈ a.toList, x ∈ a₀.toList) (hb : ∀ x ∈ b.toList, x ∈ a₀.toList) (ua : Up R a 0 a.size) (ub : Up R b 0 b.size)
    (na : 1 ≤ a.size) (nb : 1 ≤ b.size) (h0 : ∀ x y, b[0]? = some x → a[0]? = some y → R x < R y) (hl : ∀ x y, x ∈ b.toList → a[a.size - 1]? = some y → R x < R y) (ht : (a.toList ++ b.toList).Perm tot)
    {Q : Array Keyed → SortSt → Prop} (h : ∀ m st', Lk st st' → Fi R m.toList tot → Q m st') : wpS (model prog w) A E s (mLo a b) Q st := by
  obtain ⟨b0, eb0, mb0⟩ := get_at (a := b) (i := 0) nb
  obtain ⟨a0, ea0, ma0⟩ := get_at (a := a) (i := 0) na
  have m0 : MS R [b0] (a.toList.drop 0) (b.toList.drop 1) tot := by
    have e := drop_at eb0
    have z : MS R [] (a.toList.drop 0) ([b0] ++ b.toList.drop 1) tot := by
      refine ⟨?_, ?_, ?_⟩
      · rw [List.nil_append, List.drop_zero, List.pairwise_iff_getElem]
        intro i j hi hj hij
        rw [Array.length_toList] at hi hj
        exact ua.le (getElem?_pos a i hi) (getElem?_pos a j hj) (Nat.le_of_lt hij)
      · rw [List.nil_append, List.singleton_append, ← e, List.drop_zero, List.pairwise_iff_getElem]
        intro i j hi hj hij
        rw [Array.length_toList] at hi hj
        exact ub.le (getElem?_pos b i hi) (getElem?_pos b j hj) (Nat.le_of_lt hij)
      · rw [List.nil_append, List.singleton_append, ← e, List.drop_zero, List.drop_zero]; exact ht
    refine z.b fun x hx y hy => ?_
    rw [List.mem_singleton] at hx
    subst hx
    obtain ⟨j, j1, j2, j3⟩ := mem_drop hy
    exact Int.le_of_lt (Int.lt_of_lt_of_le (h0 _ _ eb0 ea0) (ua.le ea0 j3 (Nat.zero_le _)))
  have dn : ∀ (out : Array Keyed) (ia ib : Nat), MS R out.toList (a.toList.drop ia) (b.toList.drop ib) tot → (ia = a.size ∨ ib = b.size) → Fi R (out ++ a.extract ia a.size ++ b.extract ib b.size).toList tot := by
    intro out ia ib m hor
    rw [Array.toList_append, Array.toList_append, ext_all, ext_all]
    rcases hor with e | e
    · have e2 : a.toList.drop ia = [] := by rw [e]; apply List.drop_of_length_le; rw [Array.length_toList]; exact Nat.le_refl _
      rw [e2] at m ⊢
      rw [List.append_nil]; exact m.endB
    · have e2 : b.toList.drop ib = [] := by rw [e]; apply List.drop_of_length_le; rw [Array.length_toList]; exact Nat.le_refl _
      rw [e2] at m ⊢
      rw [List.append_nil]; exact m.endA
  have ls : ∀ (out : Array Keyed) (ia ib : Nat), MS R out.toList (a.toList.drop ia) (b.toList.drop ib) tot → ia + 1 = a.size → Fi R (out ++ b.extract ib b.size ++ a.extract ia a.size).toList tot := by
    intro out ia ib m e
    rw [Array.toList_append, Array.toList_append, ext_all, ext_all]
    refine m.last fun y hy x hx => ?_
    obtain ⟨j, j1, j2, j3⟩ := mem_drop hx
    have ej : j = a.size - 1 := by omega
    rw [ej] at j3
    exact Int.le_of_lt (hl _ _ (List.mem_of_mem_drop hy) j3)
  unfold mLo
  refine wpS_bind (wpS_lift (wpAny_rule ⟨rfl, ?_⟩))
  refine wpS_bind (w_elem eb0 ?_)
  refine w_ite (fun c => wpS_pure (h _ _ (.refl _) (dn _ _ _ m0 (.inr (by simpa using c))))) fun c1 => ?_
  refine w_ite (fun c => wpS_pure (h _ _ (.refl _) (ls _ _ _ m0 (by simpa using c)))) fun c2 => ?_
  have c1' : 1 < b.size := by simp at c1; omega
  have c2' : 1 < a.size := by simp at c2; omega
  refine wpS_bind (wpS_get ?_)
  refine wpS_bind (wpS_mono (wpS_forRange (I := fun x (c : LoSt) st' => Lk st st' ∧ ∃ out ia ib mg, c = (none, out, ia, ib, mg) ∧ MS R out.toList (a.toList.drop ia) (b.toList.drop ib) tot ∧ ia + 1 < a.size ∧ ib < b.size ∧ x < ia + ib)
    (Q := fun (c : LoSt) st' => Lk st st' ∧ ∃ m out ia ib mg, c = (some m, out, ia, ib, mg) ∧ Fi R m.toList tot) ?step ?fin ⟨.refl _, #[b0], 0, 1, _, rfl, m0, by omega, by omega, by omega⟩) ?post)
  case fin =>
    rintro c st' ⟨l, out, ia, ib, mg, rfl, m, d1, d2, d3⟩
    omega
  case post =>
    rintro c st' ⟨l, m, out, ia, ib, mg, rfl, f⟩
    exact wpS_pure (h m st' l f)
  case step =>
    rintro x c st' _ hx ⟨l, out, ia, ib, mg, rfl, m, d1, d2, d3⟩
    refine wpS_bind (wpS_mono (wpS_forRange (I := fun y (c : Option (Array Keyed) × Array Keyed × Nat × Nat × Nat × Nat) st2 => st2 = st' ∧ ∃ out ia ib ac bc, c = (none, out, ia, ib, ac, bc) ∧ MS R out.toList (a.toList.drop ia) (b.toList.drop ib) tot ∧ ia + 1 < a.size ∧ ib < b.size ∧ x + min y 1 < ia + ib)
      (Q := fun (c : Option (Array Keyed) × Array Keyed × Nat × Nat × Nat × Nat) st2 => st2 = st' ∧ ((∃ m out ia ib ac bc, c = (some m, out, ia, ib, ac, bc) ∧ Fi R m.toList tot) ∨
        (∃ out ia ib ac bc, c = (none, out, ia, ib, ac, bc) ∧ MS R out.toList (a.toList.drop ia) (b.toList.drop ib) tot ∧ ia + 1 < a.size ∧ ib < b.size ∧ x + 1 < ia + ib))) ?s1 ?f1 ⟨rfl, out, ia, ib, 0, 0, rfl, m, d1, d2, by omega⟩) ?p1)
    case f1 =>
      rintro c st2 ⟨rfl, out, ia, ib, ac, bc, rfl, m, d1, d2, d3⟩
      exact ⟨rfl, .inr ⟨out, ia, ib, ac, bc, rfl, m, d1, d2, by omega⟩⟩
    case s1 =>
      rintro y c st2 _ hy ⟨rfl, out, ia, ib, ac, bc, rfl, m, d1, d2, d3⟩
      obtain ⟨bx, eb, mb⟩ := get_at (a := b) d2
      obtain ⟨ax, ea, ma⟩ := get_at (a := a) (i := ia) (by omega)
      refine wpS_bind (w_elem eb ?_)
      refine wpS_bind (w_elem ea ?_)
      refine wpS_bind (w_lt C (l.kind.trans hk) (hb _ mb) (ha _ ma) ?_)
      by_cases hlt : R bx < R ax
      · rw [decide_eq_true hlt]
        refine wpS_bind (w_elem eb ?_)
        have m2 := pushB m eb fun z hz => by
          obtain ⟨j, j1, j2, j3⟩ := mem_drop hz
          exact Int.le_of_lt (Int.lt_of_lt_of_le hlt (ua.le ea j3 j1))
        refine w_ite (fun c => wpS_pure ⟨rfl, .inl ⟨_, _, _, _, _, _, rfl, dn _ _ _ m2 (.inr (by simpa using c))⟩⟩) fun c => ?_
        have c' : ib + 1 < b.size := by simp at c; omega
        have n1 : x + 1 < ia + (ib + 1) := by omega
        have n2 : x + min (y + 1) 1 < ia + (ib + 1) := by omega
        exact w_ite (fun _ => wpS_pure ⟨rfl, .inr ⟨_, _, _, _, _, rfl, m2, d1, c', n1⟩⟩) fun _ => wpS_pure ⟨rfl, _, _, _, _, _, rfl, m2, d1, c', n2⟩
      · rw [decide_eq_false hlt]
        refine wpS_bind (w_elem ea ?_)
        have m2 := pushA m ea fun z hz => by
          obtain ⟨j, j1, j2, j3⟩ := mem_drop hz
          exact Int.le_trans (Int.not_lt.mp hlt) (ub.le eb j3 j1)
        refine w_ite (fun c => wpS_pure ⟨rfl, .inl ⟨_, _, _, _, _, _, rfl, ls _ _ _ m2 (by simpa using c)⟩⟩) fun c => ?_
        have c' : ia + 1 + 1 < a.size := by simp at c; omega
        have n1 : x + 1 < ia + 1 + ib := by omega
        have n2 : x + min (y + 1) 1 < ia + 1 + ib := by omega
        exact w_ite (fun _ => wpS_pure ⟨rfl, .inr ⟨_, _, _, _, _, rfl, m2, c', d2, n1⟩⟩) fun _ => wpS_pure ⟨rfl, _, _, _, _, _, rfl, m2, c', d2, n2⟩
    case p1 =>
      rintro c st2 ⟨rfl, ⟨m', out, ia, ib, ac, bc, rfl, f⟩ | ⟨out, ia, ib, ac, bc, rfl, m, d1, d2, d3⟩⟩
      · exact wpS_pure ⟨l, m', _, _, _, _, rfl, f⟩
      · refine wpS_bind (wpS_lift (wpAny_rule ⟨rfl, ?_⟩))
        refine wpS_bind (wpS_mono (wpS_forRange (I := fun y (c : Option (Array Keyed) × Array Keyed × Nat × Nat × Nat × Nat × Nat) st2 => Lk st st2 ∧ ∃ out ia ib mg ac bc, c = (none, out, ia, ib, mg, ac, bc) ∧ MS R out.toList (a.toList.drop ia) (b.toList.drop ib) tot ∧ ia + 1 < a.size ∧ ib < b.size ∧ x + 1 < ia + ib)
          (Q := fun (c : Option (Array Keyed) × Array Keyed × Nat × Nat × Nat × Nat × Nat) st2 => Lk st st2 ∧ ((∃ m out ia ib mg ac bc, c = (some m, out, ia, ib, mg, ac, bc) ∧ Fi R m.toList tot) ∨
            (∃ out ia ib mg ac bc, c = (none, out, ia, ib, mg, ac, bc) ∧ MS R out.toList (a.toList.drop ia) (b.toList.drop ib) tot ∧ ia + 1 < a.size ∧ ib < b.size ∧ x + 1 < ia + ib))) ?s2 ?f2 ⟨l, out, ia, ib, _, ac, bc, rfl, m, d1, d2, d3⟩) ?p2)
        case f2 =>
          rintro c st3 ⟨l3, out, ia, ib, mg, ac, bc, rfl, m, d1, d2, d3⟩
          exact ⟨l3, .inr ⟨out, ia, ib, mg, ac, bc, rfl, m, d1, d2, d3⟩⟩
        case p2 =>
          rintro c st3 ⟨l3, ⟨m', out, ia, ib, mg, ac, bc, rfl, f⟩ | ⟨out, ia, ib, mg, ac, bc, rfl, m, d1, d2, d3⟩⟩
          · exact wpS_pure ⟨l3, m', _, _, _, _, rfl, f⟩
          · exact wpS_bind (w_setg l3 fun st4 l4 => wpS_pure ⟨l4, _, _, _, _, rfl, m, d1, d2, d3⟩)
        case s2 =>
          rintro y c st3 _ hy ⟨l2, out, ia, ib, mg, ac, bc, rfl, m, d1, d2, d3⟩
          obtain ⟨bx, eb, mb⟩ := get_at (a := b) d2
          refine w_ite (fun _ => ?_) fun _ => ?_
          all_goals
            refine wpS_bind (w_setg l2 fun st4 l3 => ?_)
            refine wpS_bind (w_elem eb ?_)
            refine wpS_bind (w_gallop (base := ia) (n := a.size - ia) (hint := 0) C (l3.kind.trans hk) (hb _ mb) (fun i hi => by
              obtain ⟨z, z1, z2⟩ := get_at (a := a) (i := ia + i) (by omega)
              exact ⟨z, z1, ha _ z2⟩) (by omega) (fun i j q1 q2 q3 => ua i j (Nat.zero_le _) q2 (by omega)) fun k k1 k2 k3 => ?_)
            have lowA : ∀ x ∈ (a.extract ia (ia + k)).toList, ∀ y ∈ b.toList.drop ib, R x ≤ R y := fun x hx y hy => by
              obtain ⟨j, j1, j2⟩ := mem_ext hx
              obtain ⟨i, i1, i2, i3⟩ := mem_drop hy
              have q := gl_false (k2 j j1)
              rw [kv_at j2] at q
              exact Int.le_trans q (ub.le eb i3 i1)
            have upA : ∀ y ∈ a.toList.drop (ia + k), R bx ≤ R y := fun y hy => by
              obtain ⟨i, i1, i2, i3⟩ := mem_drop hy
              have q := gl_false0 (k3 (i - ia) (by omega) (by omega))
              rw [show ia + (i - ia) = i by omega, kv_at i3] at q
              exact Int.le_of_lt q
            have mk := appA m lowA
            refine w_ite (fun ck => ?_) fun ck => ?_
            case' refine_1 =>
              refine w_ite (fun c => wpS_pure ⟨l3, .inl ⟨_, _, _, _, _, _, _, rfl, ls _ _ _ mk (by simpa using c)⟩⟩) fun c3 => ?_
              refine w_ite (fun c => wpS_pure ⟨l3, .inl ⟨_, _, _, _, _, _, _, rfl, dn _ _ _ mk (.inl (by simpa using c))⟩⟩) fun c4 => ?_
              have d4 : ia + k + 1 < a.size := by simp at c3 c4; omega
              have n1 : ∀ z, x + 1 < ia + k + 1 + (ib + 1 + z) := fun z => by omega
              obtain ⟨ax, ea, ma⟩ := get_at (a := a) (i := ia + k) (by omega)
            case' refine_2 =>
              have e0 : k = 0 := by omega
              subst e0
              have d4 : ia + 0 + 1 < a.size := d1
              have n1 : ∀ z, x + 1 < ia + 0 + 1 + (ib + 1 + z) := fun z => by omega
              replace mk := m
              obtain ⟨ax, ea, ma⟩ := get_at (a := a) (i := ia + 0) (by omega)
            all_goals
              refine wpS_bind (w_elem eb ?_)
              have m3 := pushB mk eb upA
              refine w_ite (fun c => wpS_pure ⟨l3, .inl ⟨_, _, _, _, _, _, _, rfl, dn _ _ _ m3 (.inr (by simpa using c))⟩⟩) fun c5 => ?_
              have d5 : ib + 1 < b.size := by simp at c5; omega
              refine wpS_bind (w_elem ea ?_)
              refine wpS_bind (w_gallop (base := ib + 1) (n := b.size - (ib + 1)) (hint := 0) C (l3.kind.trans hk) (ha _ ma) (fun i hi => by
                obtain ⟨z, z1, z2⟩ := get_at (a := b) (i := ib + 1 + i) (by omega)
                exact ⟨z, z1, hb _ z2⟩) (by omega) (fun i j q1 q2 q3 => ub i j (Nat.zero_le _) q2 (by omega)) fun k' j1 j2 j3 => ?_)
              have m4 := appB (k := k') m3 fun x hx y hy => by
                obtain ⟨j, i1, i2⟩ := mem_ext hx
                obtain ⟨i, i3, i4, i5⟩ := mem_drop hy
                have q := gl_true (j2 j i1)
                rw [kv_at i2] at q
                exact Int.le_of_lt (Int.lt_of_lt_of_le q (ua.le ea i5 i3))
              have upB : ∀ y ∈ b.toList.drop (ib + 1 + k'), R ax ≤ R y := fun y hy => by
                obtain ⟨i, i1, i2, i3⟩ := mem_drop hy
                have q := gl_true0 (j3 (i - (ib + 1)) (by omega) (by omega))
                rwa [show ib + 1 + (i - (ib + 1)) = i by omega, kv_at i3] at q
              refine w_ite (fun ck => ?_) fun ck => ?_
              case' refine_1 =>
                refine w_ite (fun c => wpS_pure ⟨l3, .inl ⟨_, _, _, _, _, _, _, rfl, dn _ _ _ m4 (.inr (by simpa using c))⟩⟩) fun c6 => ?_
                have d6 : ib + 1 + k' < b.size := by simp at c6; omega
                have n2 := n1 k'
              case' refine_2 =>
                have e0 : k' = 0 := by omega
                subst e0
                have d6 : ib + 1 + 0 < b.size := d5
                have n2 := n1 0
                replace m4 := m3
              all_goals
                refine wpS_bind (w_elem ea ?_)
                have m5 := pushA m4 ea upB
                refine w_ite (fun c => wpS_pure ⟨l3, .inl ⟨_, _, _, _, _, _, _, rfl, ls _ _ _ m5 (by simpa using c)⟩⟩) fun c7 => ?_
                have d7 := Nat.lt_of_le_of_ne (Nat.succ_le_of_lt d4) (by simpa using c7)
                exact w_ite (fun _ => wpS_pure ⟨l3, .inr ⟨_, _, _, _, _, _, rfl, m5, d7, d6, n2⟩⟩) fun _ => wpS_pure ⟨l3, _, _, _, _, _, _, rfl, m5, d7, d6, n2⟩
end
end So

set_option Elab.async false
set_option linter.all false
set_option maxRecDepth 100000
set_option maxHeartbeats 4000000
namespace So
open PySem PyProof.Rows
def MH (R : Keyed → Int) (la lb o tot : List Keyed) : Prop := (la ++ o).Pairwise (Le R) ∧ (lb ++ o).Pairwise (Le R) ∧ (la ++ (lb ++ o)).Perm tot
section
variable {R : Keyed → Int} {o la lb tot xs : List Keyed}
theorem MH.a (h : MH R (la ++ xs) lb o tot) (hx : ∀ x ∈ xs, ∀ y ∈ lb, R y ≤ R x) : MH R la lb (xs ++ o) tot := by
  obtain ⟨h1, h2, h3⟩ := h
  refine ⟨by rw [← List.append_assoc]; exact h1, ?_, ?_⟩
  · rw [List.append_assoc, List.pairwise_append] at h1
    rw [List.pairwise_append] at h2 ⊢
    refine ⟨h2.1, h1.2.1, fun y hy x hx2 => ?_⟩
    rcases List.mem_append.mp hx2 with n | n
    · exact hx x n y hy
    · exact h2.2.2 y hy x n
  · refine List.Perm.trans ?_ h3
    rw [List.append_assoc]
    refine List.Perm.append_left _ ?_
    rw [← List.append_assoc, ← List.append_assoc]
    exact List.Perm.append_right _ List.perm_append_comm
theorem MH.swap (h : MH R la lb o tot) : MH R lb la o tot := by
  refine ⟨h.2.1, h.1, List.Perm.trans ?_ h.2.2⟩
  rw [← List.append_assoc, ← List.append_assoc]
  exact List.Perm.append_right _ List.perm_append_comm
theorem MH.b (h : MH R la (lb ++ xs) o tot) (hx : ∀ x ∈ xs, ∀ y ∈ la, R y ≤ R x) : MH R la lb (xs ++ o) tot := (h.swap.a hx).swap
theorem MH.endB (h : MH R [] lb o tot) : Fi R (lb ++ o) tot := ⟨h.2.1, h.2.2⟩
theorem MH.endA (h : MH R la [] o tot) : Fi R (la ++ o) tot := ⟨h.1, h.2.2⟩
theorem MH.first (h : MH R la lb o tot) (hx : ∀ y ∈ lb, ∀ x ∈ la, R y ≤ R x) : Fi R (lb ++ la ++ o) tot := by
  obtain ⟨h1, h2, h3⟩ := h.swap
  refine ⟨?_, by rw [List.append_assoc]; exact h3⟩
  rw [List.append_assoc]
  rw [List.pairwise_append] at h1 h2 ⊢
  refine ⟨h1.1, List.pairwise_append.mpr h2, fun y hy x hx2 => ?_⟩
  rcases List.mem_append.mp hx2 with n | n
  · exact hx y hy x n
  · exact h1.2.2 y hy x n
end
section
variable {a : Array Keyed} {R : Keyed → Int} {i k n : Nat}
theorem take_at {x : Keyed} (h : 0 < n) (e : a[n - 1]? = some x) : a.toList.take n = a.toList.take (n - 1) ++ [x] := by
  have e2 : a.toList[n - 1]? = some x := by rw [Array.getElem?_toList]; exact e
  have z : a.toList.take (n - 1 + 1) = a.toList.take (n - 1) ++ a.toList[n - 1]?.toList := List.take_succ
  rw [e2, Nat.sub_add_cancel h] at z
  exact z
theorem take_ext (h : i ≤ n) : a.toList.take n = a.toList.take i ++ (a.extract i n).toList := by
  rw [ext_list]
  have z : a.toList.take (i + (n - i)) = a.toList.take i ++ (a.toList.drop i).take (n - i) := List.take_add
  rwa [Nat.add_sub_cancel' h] at z
theorem ext0 (a : Array Keyed) (n : Nat) : (a.extract 0 n).toList = a.toList.take n := by rw [ext_list]; rfl
theorem mem_take {x : Keyed} (h : x ∈ a.toList.take n) : ∃ j, j < n ∧ j < a.size ∧ a[j]? = some x := by
  obtain ⟨j, hj, e⟩ := List.getElem_of_mem h
  rw [List.getElem_take] at e
  rw [List.length_take, Array.length_toList] at hj
  refine ⟨j, by omega, by omega, ?_⟩
  rw [← e, ← Array.getElem?_toList]
  exact List.getElem?_eq_getElem _
theorem mem_ext' {x : Keyed} (h : x ∈ (a.extract i n).toList) : ∃ j, i ≤ j ∧ j < n ∧ a[j]? = some x := by
  rw [ext_list] at h
  obtain ⟨j, hj, e⟩ := List.getElem_of_mem h
  rw [List.getElem_take, List.getElem_drop] at e
  rw [List.length_take] at hj
  refine ⟨i + j, by omega, by omega, ?_⟩
  rw [← e, ← Array.getElem?_toList]
  exact List.getElem?_eq_getElem _
end
section
variable {R : Keyed → Int} {a b out : Array Keyed} {na nb k : Nat} {tot : List Keyed}
abbrev MHa (R : Keyed → Int) (a b : Array Keyed) (tot : List Keyed) (na nb : Nat) (out : Array Keyed) : Prop := MH R (a.toList.take na) (b.toList.take nb) out.toList.reverse tot
theorem hpushA (m : MHa R a b tot na nb out) (h : 0 < na) {x : Keyed} (e : a[na - 1]? = some x) (hx : ∀ y ∈ b.toList.take nb, R y ≤ R x) : MHa R a b tot (na - 1) nb (out.push x) := by
  unfold MHa at m ⊢
  rw [take_at h e] at m
  rw [Array.toList_push, List.reverse_append]
  exact m.a (xs := [x]) fun z hz => by rw [List.mem_singleton.mp hz]; exact hx
theorem hpushB (m : MHa R a b tot na nb out) (h : 0 < nb) {x : Keyed} (e : b[nb - 1]? = some x) (hx : ∀ y ∈ a.toList.take na, R y ≤ R x) : MHa R a b tot na (nb - 1) (out.push x) := by
  unfold MHa at m ⊢
  rw [take_at h e] at m
  rw [Array.toList_push, List.reverse_append]
  exact m.b (xs := [x]) fun z hz => by rw [List.mem_singleton.mp hz]; exact hx
theorem happA (m : MHa R a b tot na nb out) (h : k ≤ na) (hx : ∀ x ∈ (a.extract k na).toList, ∀ y ∈ b.toList.take nb, R y ≤ R x) : MHa R a b tot k nb (out ++ (a.extract k na).reverse) := by
  unfold MHa at m ⊢
  rw [take_ext h] at m
  rw [Array.toList_append, List.reverse_append, Array.toList_reverse, List.reverse_reverse]
  exact m.a hx
theorem happB (m : MHa R a b tot na nb out) (h : k ≤ nb) (hx : ∀ x ∈ (b.extract k nb).toList, ∀ y ∈ a.toList.take na, R y ≤ R x) : MHa R a b tot na k (out ++ (b.extract k nb).reverse) := by
  unfold MHa at m ⊢
  rw [take_ext h] at m
  rw [Array.toList_append, List.reverse_append, Array.toList_reverse, List.reverse_reverse]
  exact m.b hx
end
section
variable {prog : Program} {w : World} {A : Around} {E : Value → Shared → Prop} {s : Shared} {R : Keyed → Int} {κ : SortKind} {a₀ : Array Keyed} {pd : Array (Nat × Nat × Nat)}
abbrev HiSt := Option (Array Keyed) × Nat × Nat × Array Keyed × Nat
theorem w_mHi (C : Cm prog w A s R κ a₀) {st : SortSt} (hk : kindOf st = κ) {a b : Array Keyed} {tot : List Keyed} (ha : ∀ x ∈ a.toList, x ∈ a₀.toList) (hb : ∀ x ∈ b.toList, x ∈ a₀.toList) (ua : Up R a 0 a.size) (ub : Up R b 0 b.size)
    (na1 : 1 ≤ a.size) (nb1 : 1 ≤ b.size) (h0 : ∀ x y, b[0]? = some x → a[0]? = some y → R x < R y) (hl : ∀ x y, x ∈ b.toList → a[a.size - 1]? = some y → R x < R y) (ht : (a.toList ++ b.toList).Perm tot)
    {Q : Array Keyed → SortSt → Prop} (h : ∀ m st', Lk st st' → Fi R m.toList tot → Q m st') : wpS (model prog w) A E s (mHi a b) Q st := by
  obtain ⟨al, eal, mal⟩ := get_at (a := a) (i := a.size - 1) (by omega)
  obtain ⟨b0, eb0, mb0⟩ := get_at (a := b) (i := 0) nb1
  obtain ⟨a0, ea0, ma0⟩ := get_at (a := a) (i := 0) na1
  have alla : a.toList.take a.size = a.toList := List.take_of_length_le (by rw [Array.length_toList]; exact Nat.le_refl _)
  have allb : b.toList.take b.size = b.toList := List.take_of_length_le (by rw [Array.length_toList]; exact Nat.le_refl _)
  have m0 : MHa R a b tot (a.size - 1) b.size #[al] := by
    have z : MHa R a b tot a.size b.size #[] := by
      refine ⟨?_, ?_, ?_⟩
      · rw [show (#[] : Array Keyed).toList.reverse = [] from rfl, List.append_nil, alla, List.pairwise_iff_getElem]
        intro i j hi hj hij
        rw [Array.length_toList] at hi hj
        exact ua.le (getElem?_pos a i hi) (getElem?_pos a j hj) (Nat.le_of_lt hij)
      · rw [show (#[] : Array Keyed).toList.reverse = [] from rfl, List.append_nil, allb, List.pairwise_iff_getElem]
        intro i j hi hj hij
        rw [Array.length_toList] at hi hj
        exact ub.le (getElem?_pos b i hi) (getElem?_pos b j hj) (Nat.le_of_lt hij)
      · rw [show (#[] : Array Keyed).toList.reverse = [] from rfl, List.append_nil, alla, allb]; exact ht
    refine hpushA z (by omega) eal fun y hy => ?_
    rw [allb] at hy
    exact Int.le_of_lt (hl _ _ hy eal)
  have dn : ∀ (na nb : Nat) (out : Array Keyed), MHa R a b tot na nb out → (na = 0 ∨ nb = 0) → Fi R (a.extract 0 na ++ b.extract 0 nb ++ out.reverse).toList tot := by
    intro na nb out m hor
    unfold MHa at m
    rw [Array.toList_append, Array.toList_append, ext0, ext0, Array.toList_reverse]
    rcases hor with e | e
    · rw [e, List.take_zero] at m ⊢
      exact m.endB
    · rw [e, List.take_zero] at m ⊢
      rw [List.append_nil]; exact m.endA
  have fs : ∀ (na nb : Nat) (out : Array Keyed), MHa R a b tot na nb out → nb = 1 → Fi R (b.extract 0 nb ++ a.extract 0 na ++ out.reverse).toList tot := by
    intro na nb out m e
    unfold MHa at m
    rw [Array.toList_append, Array.toList_append, ext0, ext0, Array.toList_reverse]
    refine m.first fun y hy x hx => ?_
    obtain ⟨j, j1, j2, j3⟩ := mem_take hy
    obtain ⟨i, i1, i2, i3⟩ := mem_take hx
    have ej : j = 0 := by omega
    rw [ej] at j3
    exact Int.le_of_lt (Int.lt_of_lt_of_le (h0 _ _ j3 ea0) (ua.le ea0 i3 (Nat.zero_le _)))
  unfold mHi
  refine wpS_bind (wpS_lift (wpAny_rule ⟨rfl, ?_⟩))
  refine wpS_bind (w_elem eal ?_)
  refine w_ite (fun c => wpS_pure (h _ _ (.refl _) (dn _ _ _ m0 (.inl (by simpa using c))))) fun c1 => ?_
  refine w_ite (fun c => wpS_pure (h _ _ (.refl _) (fs _ _ _ m0 (by simpa using c)))) fun c2 => ?_
  have c1' : 0 < a.size - 1 := by
    rcases Nat.eq_zero_or_pos (a.size - 1) with z | z
    · exact absurd (by rw [z]; rfl) c1
    · exact z
  have c2' : 1 < b.size := by simp at c2; omega
  refine wpS_bind (wpS_get ?_)
  refine wpS_bind (wpS_mono (wpS_forRange (I := fun x (c : HiSt) st' => Lk st st' ∧ ∃ na nb out mg, c = (none, na, nb, out, mg) ∧ MHa R a b tot na nb out ∧ 0 < na ∧ na ≤ a.size ∧ 1 < nb ∧ nb ≤ b.size ∧ x + na + nb < a.size + b.size)
    (Q := fun (c : HiSt) st' => Lk st st' ∧ ∃ m na nb out mg, c = (some m, na, nb, out, mg) ∧ Fi R m.toList tot) ?step ?fin ⟨.refl _, a.size - 1, b.size, #[al], _, rfl, m0, c1', by omega, c2', Nat.le_refl _, by omega⟩) ?post)
  case fin =>
    rintro c st' ⟨l, na, nb, out, mg, rfl, m, d1, d2, d3, d4, d5⟩
    omega
  case post =>
    rintro c st' ⟨l, m, na, nb, out, mg, rfl, f⟩
    exact wpS_pure (h m st' l f)
  case step =>
    rintro x c st' _ hx ⟨l, na, nb, out, mg, rfl, m, d1, d2, d3, d4, d5⟩
    refine wpS_bind (wpS_mono (wpS_forRange (I := fun y (c : Option (Array Keyed) × Nat × Nat × Array Keyed × Nat × Nat) st2 => st2 = st' ∧ ∃ na nb out ac bc, c = (none, na, nb, out, ac, bc) ∧ MHa R a b tot na nb out ∧ 0 < na ∧ na ≤ a.size ∧ 1 < nb ∧ nb ≤ b.size ∧ x + min y 1 + na + nb < a.size + b.size)
      (Q := fun (c : Option (Array Keyed) × Nat × Nat × Array Keyed × Nat × Nat) st2 => st2 = st' ∧ ((∃ m na nb out ac bc, c = (some m, na, nb, out, ac, bc) ∧ Fi R m.toList tot) ∨
        (∃ na nb out ac bc, c = (none, na, nb, out, ac, bc) ∧ MHa R a b tot na nb out ∧ 0 < na ∧ na ≤ a.size ∧ 1 < nb ∧ nb ≤ b.size ∧ x + 1 + na + nb < a.size + b.size))) ?s1 ?f1 ⟨rfl, na, nb, out, 0, 0, rfl, m, d1, d2, d3, d4, by omega⟩) ?p1)
    case f1 =>
      rintro c st2 ⟨rfl, na, nb, out, ac, bc, rfl, m, d1, d2, d3, d4, d5⟩
      exact ⟨rfl, .inr ⟨na, nb, out, ac, bc, rfl, m, d1, d2, d3, d4, by omega⟩⟩
    case s1 =>
      rintro y c st2 _ hy ⟨rfl, na, nb, out, ac, bc, rfl, m, d1, d2, d3, d4, d5⟩
      obtain ⟨bx, eb, mb⟩ := get_at (a := b) (i := nb - 1) (by omega)
      obtain ⟨ax, ea, ma⟩ := get_at (a := a) (i := na - 1) (by omega)
      refine wpS_bind (w_elem eb ?_)
      refine wpS_bind (w_elem ea ?_)
      refine wpS_bind (w_lt C (l.kind.trans hk) (hb _ mb) (ha _ ma) ?_)
      by_cases hlt : R bx < R ax
      · rw [decide_eq_true hlt]
        refine wpS_bind (w_elem ea ?_)
        have m2 := hpushA m d1 ea fun z hz => by
          obtain ⟨j, j1, j2, j3⟩ := mem_take hz
          exact Int.le_trans (ub.le j3 eb (by omega)) (Int.le_of_lt hlt)
        refine w_ite (fun c => wpS_pure ⟨rfl, .inl ⟨_, _, _, _, _, _, rfl, dn _ _ _ m2 (.inl (by simpa using c))⟩⟩) fun c => ?_
        have c' : 0 < na - 1 := by
          rcases Nat.eq_zero_or_pos (na - 1) with z | z
          · exact absurd (by rw [show (none, na, nb, out, ac, bc).snd.fst = na from rfl, z]; rfl) c
          · exact z
        have n0 : na - 1 ≤ a.size := by omega
        have n1 : x + 1 + (na - 1) + nb < a.size + b.size := by omega
        have n2 : x + min (y + 1) 1 + (na - 1) + nb < a.size + b.size := by omega
        exact w_ite (fun _ => wpS_pure ⟨rfl, .inr ⟨_, _, _, _, _, rfl, m2, c', n0, d3, d4, n1⟩⟩) fun _ => wpS_pure ⟨rfl, _, _, _, _, _, rfl, m2, c', n0, d3, d4, n2⟩
      · rw [decide_eq_false hlt]
        refine wpS_bind (w_elem eb ?_)
        have m2 := hpushB m (by omega) eb fun z hz => by
          obtain ⟨j, j1, j2, j3⟩ := mem_take hz
          exact Int.le_trans (ua.le j3 ea (by omega)) (Int.not_lt.mp hlt)
        refine w_ite (fun c => wpS_pure ⟨rfl, .inl ⟨_, _, _, _, _, _, rfl, fs _ _ _ m2 (by simpa using c)⟩⟩) fun c => ?_
        have c' : 1 < nb - 1 := by
          have z : nb - 1 ≠ 1 := fun z => c (by rw [show (none, na, nb, out, ac, bc).snd.snd.fst = nb from rfl, z]; rfl)
          omega
        have n0 : nb - 1 ≤ b.size := by omega
        have n1 : x + 1 + na + (nb - 1) < a.size + b.size := by omega
        have n2 : x + min (y + 1) 1 + na + (nb - 1) < a.size + b.size := by omega
        exact w_ite (fun _ => wpS_pure ⟨rfl, .inr ⟨_, _, _, _, _, rfl, m2, d1, d2, c', n0, n1⟩⟩) fun _ => wpS_pure ⟨rfl, _, _, _, _, _, rfl, m2, d1, d2, c', n0, n2⟩
    case p1 =>
      rintro c st2 ⟨rfl, ⟨m', na, nb, out, ac, bc, rfl, f⟩ | ⟨na, nb, out, ac, bc, rfl, m, d1, d2, d3, d4, d5⟩⟩
      · exact wpS_pure ⟨l, m', _, _, _, _, rfl, f⟩
      · refine wpS_bind (wpS_lift (wpAny_rule ⟨rfl, ?_⟩))
        refine wpS_bind (wpS_mono (wpS_forRange (I := fun y (c : Option (Array Keyed) × Nat × Nat × Array Keyed × Nat × Nat × Nat) st2 => Lk st st2 ∧ ∃ na nb out mg ac bc, c = (none, na, nb, out, mg, ac, bc) ∧ MHa R a b tot na nb out ∧ 0 < na ∧ na ≤ a.size ∧ 1 < nb ∧ nb ≤ b.size ∧ x + 1 + na + nb < a.size + b.size)
          (Q := fun (c : Option (Array Keyed) × Nat × Nat × Array Keyed × Nat × Nat × Nat) st2 => Lk st st2 ∧ ((∃ m na nb out mg ac bc, c = (some m, na, nb, out, mg, ac, bc) ∧ Fi R m.toList tot) ∨
            (∃ na nb out mg ac bc, c = (none, na, nb, out, mg, ac, bc) ∧ MHa R a b tot na nb out ∧ 0 < na ∧ na ≤ a.size ∧ 1 < nb ∧ nb ≤ b.size ∧ x + 1 + na + nb < a.size + b.size))) ?s2 ?f2 ⟨l, na, nb, out, _, ac, bc, rfl, m, d1, d2, d3, d4, d5⟩) ?p2)
        case f2 =>
          rintro c st3 ⟨l3, na, nb, out, mg, ac, bc, rfl, m, d⟩
          exact ⟨l3, .inr ⟨na, nb, out, mg, ac, bc, rfl, m, d⟩⟩
        case p2 =>
          rintro c st3 ⟨l3, ⟨m', na, nb, out, mg, ac, bc, rfl, f⟩ | ⟨na, nb, out, mg, ac, bc, rfl, m, d⟩⟩
          · exact wpS_pure ⟨l3, m', _, _, _, _, rfl, f⟩
          · exact wpS_bind (w_setg l3 fun st4 l4 => wpS_pure ⟨l4, _, _, _, _, rfl, m, d⟩)
        case s2 =>
          rintro y c st3 _ hy ⟨l2, na, nb, out, mg, ac, bc, rfl, m, d1, d2, d3, d4, d5⟩
          obtain ⟨bx, eb, mb⟩ := get_at (a := b) (i := nb - 1) (by omega)
          refine w_ite (fun _ => ?_) fun _ => ?_
          all_goals
            refine wpS_bind (w_setg l2 fun st4 l3 => ?_)
            refine wpS_bind (w_elem eb ?_)
            refine wpS_bind (w_gallop (base := 0) (n := na) (hint := na - 1) C (l3.kind.trans hk) (hb _ mb) (fun i hi => by
              obtain ⟨z, z1, z2⟩ := get_at (a := a) (i := 0 + i) (by omega)
              exact ⟨z, z1, ha _ z2⟩) (by omega) (fun i j q1 q2 q3 => ua i j (Nat.zero_le _) q2 (by omega)) fun k k1 k2 k3 => ?_)
            have upA : ∀ y ∈ a.toList.take k, R y ≤ R bx := fun y hy => by
              obtain ⟨j, j1, j2, j3⟩ := mem_take hy
              have q := gl_false (k2 j j1)
              rwa [Nat.zero_add, kv_at j3] at q
            have mk := happA m k1 fun x hx y hy => by
              obtain ⟨j, j1, j2, j3⟩ := mem_ext' hx
              obtain ⟨i, i1, i2, i3⟩ := mem_take hy
              have q := gl_false0 (k3 j j1 j2)
              rw [Nat.zero_add, kv_at j3] at q
              exact Int.le_trans (ub.le i3 eb (by omega)) (Int.le_of_lt q)
            refine w_ite (fun ck => ?_) fun ck => ?_
            case' refine_1 =>
              refine w_ite (fun c => wpS_pure ⟨l3, .inl ⟨_, _, _, _, _, _, _, rfl, dn _ _ _ mk (.inl (by simpa using c))⟩⟩) fun c3 => ?_
              have e1 : 0 < k := by simp at c3; omega
              have e2 : k ≤ a.size := by omega
              have n1 : ∀ z, z ≤ nb - 1 → x + 1 + (k - 1) + z < a.size + b.size := fun z hz => by omega
              obtain ⟨ax, ea, ma⟩ := get_at (a := a) (i := k - 1) (by omega)
              have e3 : ∀ i, i < k → i ≤ k - 1 := fun i hi => by omega
            case' refine_2 =>
              have e0 : k = na := by
                have ck' : ¬ na - k > 0 := ck
                omega
              subst e0
              have e1 := d1
              have e2 := d2
              have n1 : ∀ z, z ≤ nb - 1 → x + 1 + (k - 1) + z < a.size + b.size := fun z hz => by omega
              replace mk := m
              obtain ⟨ax, ea, ma⟩ := get_at (a := a) (i := k - 1) (by omega)
              have e3 : ∀ i, i < k → i ≤ k - 1 := fun i hi => by omega
            all_goals
              refine wpS_bind (w_elem eb ?_)
              have m3 := hpushB mk (by omega) eb upA
              refine w_ite (fun c => wpS_pure ⟨l3, .inl ⟨_, _, _, _, _, _, _, rfl, fs _ _ _ m3 (by simpa using c)⟩⟩) fun c5 => ?_
              have d6 : 1 < nb - 1 := by
                have z : nb - 1 ≠ 1 := fun z => c5 (by
                  show (nb - 1 == 1) = true
                  rw [z]; rfl)
                omega
              refine wpS_bind (w_elem ea ?_)
              refine wpS_bind (w_gallop (base := 0) (n := nb - 1) (hint := nb - 1 - 1) C (l3.kind.trans hk) (ha _ ma) (fun i hi => by
                obtain ⟨z, z1, z2⟩ := get_at (a := b) (i := 0 + i) (by omega)
                exact ⟨z, z1, hb _ z2⟩) (by omega) (fun i j q1 q2 q3 => ub i j (Nat.zero_le _) q2 (by omega)) fun k' j1 j2 j3 => ?_)
              have upB : ∀ y ∈ b.toList.take k', R y ≤ R ax := fun y hy => by
                obtain ⟨i, i1, i2, i3⟩ := mem_take hy
                have q := gl_true (j2 i i1)
                rw [Nat.zero_add, kv_at i3] at q
                exact Int.le_of_lt q
              have m4 := happB m3 j1 fun x hx y hy => by
                obtain ⟨j, i1, i2, i3⟩ := mem_ext' hx
                obtain ⟨i, i4, i5, i6⟩ := mem_take hy
                have q := gl_true0 (j3 j i1 i2)
                rw [Nat.zero_add, kv_at i3] at q
                exact Int.le_trans (ua.le i6 ea (e3 i i4)) q
              refine w_ite (fun ck2 => ?_) fun ck2 => ?_
              case' refine_1 =>
                refine w_ite (fun c => wpS_pure ⟨l3, .inl ⟨_, _, _, _, _, _, _, rfl, fs _ _ _ m4 (by simpa using c)⟩⟩) fun c6 => ?_
                refine w_ite (fun c => wpS_pure ⟨l3, .inl ⟨_, _, _, _, _, _, _, rfl, dn _ _ _ m4 (.inr (by simpa using c))⟩⟩) fun c7 => ?_
                have d7 : 1 < k' := by simp at c6 c7; omega
                have d8 : k' ≤ b.size := by omega
                have n2 := n1 k' j1
              case' refine_2 =>
                have e0 : k' = nb - 1 := by
                  have ck' : ¬ nb - 1 - k' > 0 := ck2
                  omega
                subst e0
                replace m4 := m3
                have d7 := d6
                have d8 : nb - 1 ≤ b.size := by omega
                have n2 := n1 (nb - 1) (Nat.le_refl _)
              all_goals
                refine wpS_bind (w_elem ea ?_)
                have m5 := hpushA m4 e1 ea upB
                refine w_ite (fun c => wpS_pure ⟨l3, .inl ⟨_, _, _, _, _, _, _, rfl, dn _ _ _ m5 (.inl (by simpa using c))⟩⟩) fun c8 => ?_
                have d9 : 0 < k - 1 := by
                  rcases Nat.eq_zero_or_pos (k - 1) with z | z
                  · refine absurd ?_ c8
                    show (k - 1 == 0) = true
                    rw [z]; rfl
                  · exact z
                have d10 : k - 1 ≤ a.size := by omega
                exact w_ite (fun _ => wpS_pure ⟨l3, .inr ⟨_, _, _, _, _, _, rfl, m5, d9, d10, d7, d8, n2⟩⟩) fun _ => wpS_pure ⟨l3, _, _, _, _, _, _, rfl, m5, d9, d10, d7, d8, n2⟩
end
end So

set_option Elab.async false
set_option linter.all false
set_option maxRecDepth 100000
set_option maxHeartbeats 4000000
namespace So
open PySem PyProof.Rows
def putAll (off : Nat) (l : List (Keyed × Nat)) (xs : Array Keyed) : Array Keyed := l.foldl (fun a p => a.setIfInBounds (off + p.2) p.1) xs
theorem putAll_get (off : Nat) : ∀ (m : List Keyed) (j : Nat) (xs : Array Keyed), off + j + m.length ≤ xs.size → ∀ i,
    (putAll off (m.zipIdx j) xs)[i]? = if off + j ≤ i ∧ i < off + j + m.length then m[i - (off + j)]? else xs[i]?
  | [], j, xs, _, i => by rw [if_neg (by simp)]; rfl
  | p :: m, j, xs, h, i => by
    rw [List.zipIdx_cons]
    show (putAll off (m.zipIdx (j + 1)) (xs.setIfInBounds (off + j) p))[i]? = _
    rw [List.length_cons] at h ⊢
    rw [putAll_get off m (j + 1) _ (by rw [Array.size_setIfInBounds]; omega) i]
    by_cases c : i = off + j
    · rw [if_neg (by omega), if_pos (by omega), c, Nat.sub_self, List.getElem?_cons_zero, Array.getElem?_setIfInBounds]
      rw [if_pos rfl, if_pos (by omega)]
    · by_cases c2 : off + j ≤ i ∧ i < off + j + (m.length + 1)
      · rw [if_pos (by omega), if_pos c2, show i - (off + j) = i - (off + (j + 1)) + 1 by omega, List.getElem?_cons_succ]
      · rw [if_neg (by omega), if_neg c2, Array.getElem?_setIfInBounds, if_neg (by omega)]
theorem putAll_perm {off : Nat} {m : List Keyed} {xs : Array Keyed} (h : off + m.length ≤ xs.size) (hp : m.Perm ((xs.toList.drop off).take m.length)) : (putAll off (m.zipIdx 0) xs).Perm xs := by
  rw [Array.perm_iff_toList_perm]
  have e : (putAll off (m.zipIdx 0) xs).toList = xs.toList.take off ++ (m ++ xs.toList.drop (off + m.length)) := by
    apply List.ext_getElem?
    intro i
    have hlen : xs.toList.length = xs.size := Array.length_toList
    rw [Array.getElem?_toList, putAll_get off m 0 xs (by omega), List.getElem?_append, List.length_take, hlen, Nat.min_eq_left (by omega)]
    by_cases c : i < off
    · rw [if_neg (by omega), if_pos c, List.getElem?_take, if_pos c, Array.getElem?_toList]
    · rw [if_neg c, List.getElem?_append]
      by_cases c2 : i < off + m.length
      · rw [if_pos (by omega), if_pos (by omega), Nat.add_zero]
      · rw [if_neg (by omega), if_neg (by omega), List.getElem?_drop, Array.getElem?_toList, show off + m.length + (i - off - m.length) = i by omega]
  rw [e]
  have e2 : xs.toList = xs.toList.take off ++ ((xs.toList.drop off).take m.length ++ xs.toList.drop (off + m.length)) := by
    rw [← List.drop_drop, List.take_append_drop, List.take_append_drop]
  conv => rhs; rw [e2]
  exact List.Perm.append_left _ (List.Perm.append_right _ hp)
section
variable {prog : Program} {w : World} {A : Around} {E : Value → Shared → Prop} {s : Shared} {R : Keyed → Int} {κ : SortKind} {a₀ : Array Keyed} {pd : Array (Nat × Nat × Nat)}
theorem w_set {σ : Type} {M : Model} {st0 : σ} {Q : PUnit → σ → Prop} {st : σ} (h : Q ⟨⟩ st0) : wpS M A E s (set st0 : StateT σ Sem PUnit) Q st := by
  unfold wpS; exact wpAny_pure ⟨rfl, h⟩
theorem Up.ext {xs : Array Keyed} {lo hi : Nat} (u : Up R xs lo hi) (h : hi ≤ xs.size) : Up R (xs.extract lo hi) 0 (xs.extract lo hi).size := fun i j _ h2 h3 => by
  rw [Array.size_extract] at h3
  have e : ∀ k, k < hi - lo → (xs.extract lo hi)[k]? = xs[lo + k]? := fun k hk => by
    rw [Array.getElem?_extract]
    rw [if_pos (by omega)]
  rw [kv_eq (e i (by omega)), kv_eq (e j (by omega))]
  exact u _ _ (by omega) (by omega) (by omega)
theorem w_mergeAt (C : Cm prog w A s R κ a₀) {st : SortSt} (b : Bs κ a₀ pd st) {i : Nat} {sa na pa nb pb : Nat} (hp1 : pd[i]? = some (sa, na, pa)) (hp2 : pd[i + 1]? = some (sa + na, nb, pb))
    (h1 : 1 ≤ na) (h2 : 1 ≤ nb) (hs : sa + na + nb ≤ a₀.size) (ua : Up R (arrOf st) sa (sa + na)) (ub : Up R (arrOf st) (sa + na) (sa + na + nb)) {Q : Bool → SortSt → Prop}
    (h : ∀ st', Bs κ a₀ ((pd.setIfInBounds i (sa, na + nb, pa)).eraseIdxIfInBounds (i + 1)) st' → (∀ j, (j < sa ∨ sa + na + nb ≤ j) → (arrOf st')[j]? = (arrOf st)[j]?) → Up R (arrOf st') sa (sa + na + nb) → Q true st') :
    wpS (model prog w) A E s (mergeAt' i) Q st := by
  rcases st with ⟨kd, xs, pn, mg, fl⟩
  have e1 : pn = pd := b.pend
  have e2 : kd = κ := b.kind
  have e3 : fl = none := b.ok
  subst e1 e2 e3
  have hsz : xs.size = a₀.size := b.size
  have hin : ∀ x, x ∈ xs.toList → x ∈ a₀.toList := fun x hx => (Array.perm_iff_toList_perm.mp (show xs.Perm a₀ from b.perm)).mem_iff.mp hx
  change Up R xs sa (sa + na) at ua
  change Up R xs (sa + na) (sa + na + nb) at ub
  change ∀ st', _ → (∀ j, _ → (arrOf st')[j]? = xs[j]?) → _ at h
  generalize hpd' : (pn.setIfInBounds i (sa, na + nb, pa)).eraseIdxIfInBounds (i + 1) = pd' at h
  have hle : ∀ {i j : Nat} {x y : Keyed}, xs[i]? = some x → xs[j]? = some y → kv R xs i ≤ kv R xs j → R x ≤ R y := fun q1 q2 q3 => by rwa [kv_at q1, kv_at q2] at q3
  unfold mergeAt'
  refine wpS_bind (wpS_get ?_)
  dsimp only
  rw [hp1, hp2]
  refine wpS_bind (w_set ?_)
  rw [hpd']
  have st1 : Bs kd a₀ pd' (SortSt.mk' kd xs pd' mg none) := ⟨b.perm, rfl, rfl, rfl⟩
  obtain ⟨b0, eb0, mb0⟩ := get_at (a := xs) (i := sa + na) (by omega)
  refine wpS_bind (w_elem eb0 ?_)
  refine wpS_bind (w_gallop (base := sa) (n := na) (hint := 0) C rfl (hin _ mb0) (fun i hi => by
    obtain ⟨z, z1, z2⟩ := get_at (a := xs) (i := sa + i) (by omega)
    exact ⟨z, z1, hin _ z2⟩) (by omega) ua fun k k1 k2 k3 => ?_)
  have lowk : ∀ j, sa ≤ j → j < sa + k → kv R xs j ≤ R b0 := fun j q1 q2 => by
    have q := gl_false (k2 (j - sa) (by omega))
    rwa [show sa + (j - sa) = j by omega] at q
  have upk : ∀ j, sa + k ≤ j → j < sa + na → R b0 < kv R xs j := fun j q1 q2 => by
    have q := gl_false0 (k3 (j - sa) (by omega) (by omega))
    rwa [show sa + (j - sa) = j by omega] at q
  have upb : ∀ j, sa + na ≤ j → j < sa + na + nb → R b0 ≤ kv R xs j := fun j q1 q2 => by
    have q := ub (sa + na) j (Nat.le_refl _) q1 q2
    rwa [kv_at eb0] at q
  refine w_ite (fun c => wpS_pure (h _ st1 (fun _ _ => rfl) ?_)) fun c1 => ?_
  · have ek : k = na := by
      have c' : na - k = 0 := by simpa using c
      omega
    intro i j q1 q2 q3
    show kv R xs i ≤ kv R xs j
    by_cases cj : j < sa + na
    · exact ua i j q1 q2 cj
    · by_cases ci : i < sa + na
      · exact Int.le_trans (lowk i q1 (by omega)) (upb j (by omega) q3)
      · exact ub i j (by omega) q2 q3
  have c1' : k < na := by
    have c' : na - k ≠ 0 := by simpa using c1
    omega
  obtain ⟨al, eal, mal⟩ := get_at (a := xs) (i := sa + k + (na - k) - 1) (by omega)
  refine wpS_bind (w_elem eal ?_)
  refine wpS_bind (w_gallop (base := sa + na) (n := nb) (hint := nb - 1) C rfl (hin _ mal) (fun i hi => by
    obtain ⟨z, z1, z2⟩ := get_at (a := xs) (i := sa + na + i) (by omega)
    exact ⟨z, z1, hin _ z2⟩) (by omega) ub fun n2 j1 j2 j3 => ?_)
  rw [show sa + k + (na - k) - 1 = sa + na - 1 by omega] at eal
  have lastA : ∀ j, sa ≤ j → j < sa + na → kv R xs j ≤ R al := fun j q1 q2 => by
    have q := ua j (sa + na - 1) q1 (by omega) (by omega)
    rwa [kv_at eal] at q
  have lowB : ∀ j, sa + na ≤ j → j < sa + na + n2 → kv R xs j < R al := fun j q1 q2 => by
    have q := gl_true (j2 (j - (sa + na)) (by omega))
    rwa [show sa + na + (j - (sa + na)) = j by omega] at q
  have upB : ∀ j, sa + na + n2 ≤ j → j < sa + na + nb → R al ≤ kv R xs j := fun j q1 q2 => by
    have q := gl_true0 (j3 (j - (sa + na)) (by omega) (by omega))
    rwa [show sa + na + (j - (sa + na)) = j by omega] at q
  refine w_ite (fun c => wpS_pure (h _ st1 (fun _ _ => rfl) ?_)) fun c2 => ?_
  · have e2 : n2 = 0 := by simpa using c
    intro i j q1 q2 q3
    show kv R xs i ≤ kv R xs j
    by_cases cj : j < sa + na
    · exact ua i j q1 q2 cj
    · by_cases ci : i < sa + na
      · exact Int.le_trans (lastA i q1 ci) (upB j (by omega) q3)
      · exact ub i j (by omega) q2 q3
  have c2' : 1 ≤ n2 := by
    have c' : n2 ≠ 0 := by simpa using c2
    omega
  have hx : Up R (xs.extract (sa + k) (sa + na)) 0 (xs.extract (sa + k) (sa + na)).size := Up.ext (fun i j q1 q2 q3 => ua i j (by omega) q2 q3) (by omega)
  have hy : Up R (xs.extract (sa + na) (sa + na + n2)) 0 (xs.extract (sa + na) (sa + na + n2)).size := Up.ext (fun i j q1 q2 q3 => ub i j (by omega) q2 (by omega)) (by omega)
  have sx : (xs.extract (sa + k) (sa + na)).size = na - k := by rw [Array.size_extract]; omega
  have sy : (xs.extract (sa + na) (sa + na + n2)).size = n2 := by rw [Array.size_extract]; omega
  have gx : ∀ j, j < na - k → (xs.extract (sa + k) (sa + na))[j]? = xs[sa + k + j]? := fun j hj => by rw [Array.getElem?_extract, if_pos (by omega)]
  have gy : ∀ j, j < n2 → (xs.extract (sa + na) (sa + na + n2))[j]? = xs[sa + na + j]? := fun j hj => by rw [Array.getElem?_extract, if_pos (by omega)]
  have ix : ∀ z ∈ (xs.extract (sa + k) (sa + na)).toList, z ∈ a₀.toList := fun z hz => by
    obtain ⟨j, q1, q2, q3⟩ := mem_ext' hz
    obtain ⟨v, v1, v2⟩ := get_at (a := xs) (i := j) (by omega)
    rw [q3] at v1
    cases v1
    exact hin _ v2
  have iy : ∀ z ∈ (xs.extract (sa + na) (sa + na + n2)).toList, z ∈ a₀.toList := fun z hz => by
    obtain ⟨j, q1, q2, q3⟩ := mem_ext' hz
    obtain ⟨v, v1, v2⟩ := get_at (a := xs) (i := j) (by omega)
    rw [q3] at v1
    cases v1
    exact hin _ v2
  have p0 : ∀ x y, (xs.extract (sa + na) (sa + na + n2))[0]? = some x → (xs.extract (sa + k) (sa + na))[0]? = some y → R x < R y := fun x y q1 q2 => by
    rw [gy 0 (by omega)] at q1
    rw [gx 0 (by omega)] at q2
    have q := upk (sa + k + 0) (by omega) (by omega)
    rw [kv_at q2] at q
    have e : x = b0 := by
      rw [Nat.add_zero, eb0] at q1
      cases q1; rfl
    rw [e]; exact q
  have pl : ∀ x y, x ∈ (xs.extract (sa + na) (sa + na + n2)).toList → (xs.extract (sa + k) (sa + na))[(xs.extract (sa + k) (sa + na)).size - 1]? = some y → R x < R y := fun x y q1 q2 => by
    rw [sx, gx _ (by omega), show sa + k + (na - k - 1) = sa + na - 1 by omega, eal] at q2
    cases q2
    obtain ⟨j, r1, r2, r3⟩ := mem_ext' q1
    have q := lowB j r1 r2
    rwa [kv_at r3] at q
  have fini : ∀ (m : Array Keyed) (st' : SortSt), Lk (SortSt.mk' kd xs pd' mg none) st' → Fi R m.toList ((xs.extract (sa + k) (sa + na)).toList ++ (xs.extract (sa + na) (sa + na + n2)).toList) →
      Q true (SortSt.mk' (kindOf st') (putAll (sa + k) (m.toList.zipIdx 0) (arrOf st')) (pendingOf st') (gallopOf st') (failedOf st')) ∧ failedOf st' = none := by
    intro m st' l f
    have ea : arrOf st' = xs := l.arr
    have hml : m.toList.length = na - k + n2 := by
      rw [f.2.length_eq, List.length_append, Array.length_toList, Array.length_toList, sx, sy]
    have hmz : ∀ z ∈ m.toList, ∃ j, sa + k ≤ j ∧ j < sa + na + n2 ∧ xs[j]? = some z := fun z hz => by
      rcases List.mem_append.mp (f.2.mem_iff.mp hz) with q | q
      · obtain ⟨j, q1, q2, q3⟩ := mem_ext' q
        exact ⟨j, q1, by omega, q3⟩
      · obtain ⟨j, q1, q2, q3⟩ := mem_ext' q
        exact ⟨j, by omega, q2, q3⟩
    have hperm : (putAll (sa + k) (m.toList.zipIdx 0) xs).Perm xs := by
      refine putAll_perm (by omega) (f.2.trans ?_)
      rw [hml, List.take_add, ext_list, ext_list, List.drop_drop, show sa + na - (sa + k) = na - k by omega, show sa + k + (na - k) = sa + na by omega, show sa + na + n2 - (sa + na) = n2 by omega]
    have hget := putAll_get (sa + k) m.toList 0 xs (by omega)
    rw [hml] at hget
    refine ⟨h _ ⟨?_, l.kind, l.ok, l.pend⟩ ?_ ?_, l.ok⟩
    · show (putAll (sa + k) (m.toList.zipIdx 0) (arrOf st')).Perm a₀
      rw [ea]; exact hperm.trans b.perm
    · intro j hj
      show (putAll (sa + k) (m.toList.zipIdx 0) (arrOf st'))[j]? = xs[j]?
      rw [ea, hget, if_neg (by omega)]
    · intro i j q1 q2 q3
      show kv R (putAll (sa + k) (m.toList.zipIdx 0) (arrOf st')) i ≤ kv R (putAll (sa + k) (m.toList.zipIdx 0) (arrOf st')) j
      rw [ea]
      have out : ∀ i, ¬ (sa + k ≤ i ∧ i < sa + na + n2) → kv R (putAll (sa + k) (m.toList.zipIdx 0) xs) i = kv R xs i := fun i hi => kv_eq (by rw [hget, if_neg (by omega)])
      have ins : ∀ i, sa + k ≤ i → i < sa + na + n2 → ∃ z, m.toList[i - (sa + k)]? = some z ∧ z ∈ m.toList ∧ kv R (putAll (sa + k) (m.toList.zipIdx 0) xs) i = R z := fun i hi1 hi2 => by
        have hlt : i - (sa + k) < m.toList.length := by omega
        refine ⟨m.toList[i - (sa + k)], List.getElem?_eq_getElem hlt, List.getElem_mem _, kv_at ?_⟩
        rw [hget, if_pos (by omega), Nat.add_zero]
        exact List.getElem?_eq_getElem hlt
      by_cases ci : sa + k ≤ i ∧ i < sa + na + n2
      · obtain ⟨z, z1, z2, z3⟩ := ins i ci.1 ci.2
        obtain ⟨iz, y1, y2, y3⟩ := hmz z z2
        by_cases cj : sa + k ≤ j ∧ j < sa + na + n2
        · obtain ⟨v, v1, v2, v3⟩ := ins j cj.1 cj.2
          rw [z3, v3]
          by_cases eij : i = j
          · rw [eij] at z1
            rw [z1] at v1
            cases v1
            exact Int.le_refl _
          · have hlt1 : i - (sa + k) < m.toList.length := by omega
            have hlt2 : j - (sa + k) < m.toList.length := by omega
            have q := List.pairwise_iff_getElem.mp f.1 (i - (sa + k)) (j - (sa + k)) hlt1 hlt2 (by omega)
            rw [List.getElem?_eq_getElem hlt1] at z1
            rw [List.getElem?_eq_getElem hlt2] at v1
            cases z1
            cases v1
            exact q
        · rw [z3, out j cj, ← kv_at (R := R) y3]
          have hj2 : sa + na + n2 ≤ j := by omega
          refine Int.le_trans ?_ (upB j hj2 q3)
          by_cases cz : iz < sa + na
          · exact lastA iz (by omega) cz
          · exact Int.le_of_lt (lowB iz (by omega) y2)
      · rw [out i ci]
        by_cases cj : sa + k ≤ j ∧ j < sa + na + n2
        · obtain ⟨v, v1, v2, v3⟩ := ins j cj.1 cj.2
          obtain ⟨iz, y1, y2, y3⟩ := hmz v v2
          rw [v3, ← kv_at (R := R) y3]
          refine Int.le_trans (lowk i q1 (by omega)) ?_
          by_cases cz : iz < sa + na
          · exact Int.le_of_lt (upk iz y1 cz)
          · exact upb iz (by omega) (by omega)
        · rw [out j cj]
          by_cases c3 : j < sa + na
          · exact ua i j q1 q2 c3
          · by_cases c4 : i < sa + na
            · exact Int.le_trans (lowk i q1 (by omega)) (upb j (by omega) q3)
            · exact ub i j (by omega) q2 q3
  have close : ∀ (m : Array Keyed) (st' : SortSt), Lk (SortSt.mk' kd xs pd' mg none) st' → Fi R m.toList ((xs.extract (sa + k) (sa + na)).toList ++ (xs.extract (sa + na) (sa + na + n2)).toList) →
      Q (failedOf (SortSt.mk' (kindOf st') (putAll (sa + k) (m.toList.zipIdx 0) (arrOf st')) (pendingOf st') (gallopOf st') (failedOf st'))).isNone (SortSt.mk' (kindOf st') (putAll (sa + k) (m.toList.zipIdx 0) (arrOf st')) (pendingOf st') (gallopOf st') (failedOf st')) := by
    intro m st' l f
    obtain ⟨z1, z2⟩ := fini m st' l f
    show Q (failedOf st').isNone _
    rw [z2] at z1 ⊢
    exact z1
  refine w_ite (fun c => ?_) fun c => ?_
  · exact wpS_bind (w_mLo C rfl ix iy hx hy (by omega) (by omega) p0 pl (List.Perm.refl _) fun m st' l f => wpS_bind (wpS_modify (wpS_bind (wpS_get (wpS_pure (close m st' l f))))))
  · exact wpS_bind (w_mHi C rfl ix iy hx hy (by omega) (by omega) p0 pl (List.Perm.refl _) fun m st' l f => wpS_bind (wpS_modify (wpS_bind (wpS_get (wpS_pure (close m st' l f))))))
end
end So

set_option Elab.async false
set_option linter.all false
set_option maxRecDepth 100000
set_option maxHeartbeats 4000000
namespace So
open PySem PyProof.Rows
def two (pd : Array (Nat × Nat × Nat)) : List (Nat × Nat) := pd.toList.map fun t => (t.1, t.2.1)
def Ch (R : Keyed → Int) (xs : Array Keyed) : Nat → List (Nat × Nat) → Nat → Prop
  | p, [], q => p = q
  | p, (s, n) :: r, q => s = p ∧ 1 ≤ n ∧ Up R xs s (s + n) ∧ Ch R xs (s + n) r q
section
variable {R : Keyed → Int} {xs ys : Array Keyed}
theorem Ch.app : ∀ {l1 l2 : List (Nat × Nat)} {p q : Nat}, Ch R xs p (l1 ++ l2) q ↔ ∃ m, Ch R xs p l1 m ∧ Ch R xs m l2 q
  | [], l2, p, q => ⟨fun h => ⟨p, rfl, h⟩, fun ⟨m, e, h⟩ => by rw [show p = m from e]; exact h⟩
  | (s, n) :: l1, l2, p, q => by
    show s = p ∧ 1 ≤ n ∧ Up R xs s (s + n) ∧ Ch R xs (s + n) (l1 ++ l2) q ↔ _
    rw [Ch.app (l1 := l1)]
    exact ⟨fun ⟨a, b, c, m, d, e⟩ => ⟨m, ⟨a, b, c, d⟩, e⟩, fun ⟨m, ⟨a, b, c, d⟩, e⟩ => ⟨a, b, c, m, d, e⟩⟩
theorem Ch.le : ∀ {l : List (Nat × Nat)} {p q : Nat}, Ch R xs p l q → p + l.length ≤ q
  | [], p, q, h => by rw [show p = q from h]; exact Nat.le_refl _
  | (s, n) :: l, p, q, ⟨a, b, c, d⟩ => by
    have z := Ch.le d
    rw [List.length_cons]; omega
theorem Up.like {lo hi : Nat} (u : Up R xs lo hi) (h : ∀ i, lo ≤ i → i < hi → ys[i]? = xs[i]?) : Up R ys lo hi := fun i j h1 h2 h3 => by
  rw [kv_eq (h i h1 (by omega)), kv_eq (h j (by omega) h3)]
  exact u i j h1 h2 h3
theorem Ch.like : ∀ {l : List (Nat × Nat)} {p q : Nat}, Ch R xs p l q → (∀ i, p ≤ i → i < q → ys[i]? = xs[i]?) → Ch R ys p l q
  | [], p, q, h, _ => h
  | (s, n) :: l, p, q, ⟨a, b, c, d⟩, e => by
    have z := Ch.le d
    exact ⟨a, b, c.like fun i h1 h2 => e i (by omega) (by omega), d.like fun i h1 h2 => e i (by omega) h2⟩
end
theorem split2 {α : Type} {l : List α} {i : Nat} (h : i + 1 < l.length) : ∃ P x y S, l = P ++ x :: y :: S ∧ P.length = i ∧ l[i]? = some x ∧ l[i + 1]? = some y := by
  refine ⟨l.take i, l[i], l[i + 1], l.drop (i + 2), ?_, by rw [List.length_take]; omega, List.getElem?_eq_getElem _, List.getElem?_eq_getElem _⟩
  rw [← List.drop_eq_getElem_cons, ← List.drop_eq_getElem_cons, List.take_append_drop]
theorem mid {α : Type} {P S : List α} {x y v : α} : ((P ++ x :: y :: S).set P.length v).eraseIdx (P.length + 1) = P ++ v :: S := by
  rw [List.set_append_right _ _ (Nat.le_refl _), Nat.sub_self, List.set_cons_zero, List.eraseIdx_append_of_length_le (Nat.le_succ _), show P.length.succ - P.length = 1 by omega]
  rfl
section
variable {prog : Program} {w : World} {A : Around} {E : Value → Shared → Prop} {s : Shared} {R : Keyed → Int} {κ : SortKind} {a₀ : Array Keyed} {pd : Array (Nat × Nat × Nat)}
theorem w_mergeCh (C : Cm prog w A s R κ a₀) {st : SortSt} (b : Bs κ a₀ pd st) {i lo : Nat} (ch : Ch R (arrOf st) 0 (two pd) lo) (hlo : lo ≤ a₀.size) (hi : i + 1 < pd.size) {Q : Bool → SortSt → Prop}
    (h : ∀ st' pd', Bs κ a₀ pd' st' → pd'.size + 1 = pd.size → Ch R (arrOf st') 0 (two pd') lo → (∀ j, lo ≤ j → (arrOf st')[j]? = (arrOf st)[j]?) → Q true st') : wpS (model prog w) A E s (mergeAt' i) Q st := by
  obtain ⟨P, x, y, S, e1, e2, e3, e4⟩ := split2 (l := pd.toList) (i := i) (by rw [Array.length_toList]; exact hi)
  obtain ⟨s1, n1, p1⟩ := x
  obtain ⟨s2, n2, p2⟩ := y
  rw [Array.getElem?_toList] at e3 e4
  unfold two at ch
  rw [e1, List.map_append, Ch.app] at ch
  obtain ⟨m, c1, c2⟩ := ch
  rw [List.map_cons, List.map_cons] at c2
  obtain ⟨z1, z2, z3, z4, z5, z6, z7⟩ := c2
  have z1' : s1 = m := z1
  have z4' : s2 = s1 + n1 := z4
  subst z1' z4'
  have z5' : 1 ≤ n2 := z5
  have le2 := Ch.le z7
  have le2' : s1 + n1 + n2 + (S.map fun t => (t.1, t.2.1)).length ≤ lo := le2
  have le1 := Ch.le c1
  refine w_mergeAt C b e3 e4 z2 z5' (by omega) z3 z6 fun st' b' hout u => h st' _ b' ?_ ?_ fun j hj => hout j (.inr (by omega))
  · have q : ((pd.setIfInBounds i (s1, n1 + n2, p1)).eraseIdxIfInBounds (i + 1)).toList.length + 1 = pd.toList.length := by
      rw [Array.toList_eraseIdxIfInBounds, Array.toList_setIfInBounds, e1, ← e2, mid]
      simp only [List.length_append, List.length_cons]
      omega
    rwa [Array.length_toList, Array.length_toList] at q
  · unfold two
    rw [Array.toList_eraseIdxIfInBounds, Array.toList_setIfInBounds, e1, ← e2, mid, List.map_append, Ch.app]
    refine ⟨s1, c1.like fun k q1 q2 => hout k (.inl q2), rfl, by show 1 ≤ n1 + n2; omega, ?_, ?_⟩
    · show Up R (arrOf st') s1 (s1 + (n1 + n2))
      rw [← Nat.add_assoc]; exact u
    · show Ch R (arrOf st') (s1 + (n1 + n2)) _ lo
      rw [← Nat.add_assoc]
      exact z7.like fun k q1 q2 => hout k (.inr q1)
theorem two_push (x : Nat × Nat × Nat) : two (pd.push x) = two pd ++ [(x.1, x.2.1)] := by
  unfold two; rw [Array.toList_push, List.map_append]; rfl
theorem two_mod (i p : Nat) : two (pd.modify i fun x => match x with | (a, n, _) => (a, n, p)) = two pd := by
  unfold two
  rw [Array.toList_modify]
  apply List.ext_getElem?
  intro j
  rw [List.getElem?_map, List.getElem?_map, List.getElem?_modify]
  cases pd.toList[j]? with
  | none => rfl
  | some t =>
    obtain ⟨a, n, q⟩ := t
    by_cases c : i = j <;> simp [c]
theorem w_sort (C : Cm prog w A s R κ a₀) {st : SortSt} (b : Bs κ a₀ #[] st) (h1 : 1 ≤ a₀.size) {Q : Unit → SortSt → Prop}
    (h : ∀ st', (arrOf st').Perm a₀ → failedOf st' = none → Up R (arrOf st') 0 a₀.size → Q () st') : wpS (model prog w) A E s sortRuns' Q st := by
  have pn : ∀ {st : SortSt} {pd : Array (Nat × Nat × Nat)}, Bs κ a₀ pd st → (sortPriv% PySem.Builtin.SortState.pending) st = pd := fun b => b.pend
  have sz : (sortPriv% PySem.Builtin.SortState.a) st = arrOf st := rfl
  unfold sortRuns'
  refine wpS_bind (wpS_get ?_)
  rw [sz, b.size]
  refine wpS_bind (wpS_mono (wpS_forRange (I := fun x (c : Option Unit × Nat) st' => ∃ lo pd, c = (none, lo) ∧ Bs κ a₀ pd st' ∧ Ch R (arrOf st') 0 (two pd) lo ∧ lo ≤ a₀.size ∧ min x a₀.size ≤ lo)
    (Q := fun (c : Option Unit × Nat) st' => ∃ pd, c = (none, a₀.size) ∧ Bs κ a₀ pd st' ∧ Ch R (arrOf st') 0 (two pd) a₀.size) ?step ?fin ⟨0, #[], rfl, b, rfl, Nat.zero_le _, by omega⟩) ?post)
  case fin =>
    rintro c st' ⟨lo, pd, rfl, b', ch, q1, q2⟩
    have e : lo = a₀.size := by omega
    subst e
    exact ⟨pd, rfl, b', ch⟩
  case post =>
    rintro c st' ⟨pd, rfl, b', ch⟩
    refine wpS_bind (wpS_mono (wpS_forRange (I := fun x (c : Option Unit × Unit) st' => ∃ pd, c = (none, ()) ∧ Bs κ a₀ pd st' ∧ Ch R (arrOf st') 0 (two pd) a₀.size ∧ (pd.size + x ≤ a₀.size ∨ pd.size ≤ 1))
      (Q := fun (c : Option Unit × Unit) st' => ∃ pd, c = (none, ()) ∧ Bs κ a₀ pd st' ∧ Ch R (arrOf st') 0 (two pd) a₀.size ∧ pd.size ≤ 1) ?s2 ?f2 ⟨pd, rfl, b', ch, ?_⟩) ?p2)
    case f2 =>
      rintro c st2 ⟨pd, rfl, b2, ch2, q⟩
      exact ⟨pd, rfl, b2, ch2, by omega⟩
    case p2 =>
      rintro c st2 ⟨pd, rfl, b2, ch2, q⟩
      refine wpS_pure (h st2 b2.perm b2.ok ?_)
      match hl : two pd, ch2 with
      | [], e => exact absurd (show 0 = a₀.size from e) (by omega)
      | [(p1, n1)], ⟨e1, e2, e3, e4⟩ =>
        have e1' : p1 = 0 := e1
        have e4' : p1 + n1 = a₀.size := e4
        rw [e4'] at e3
        rw [e1'] at e3
        exact e3
      | x :: y :: r, _ =>
        have z : (two pd).length = pd.size := by unfold two; rw [List.length_map, Array.length_toList]
        rw [hl, List.length_cons, List.length_cons] at z
        omega
    case s2 =>
      rintro x c st2 _ hx ⟨pd, rfl, b2, ch2, q⟩
      refine wpS_bind (wpS_get ?_)
      rw [pn b2]
      refine w_ite (fun c => wpS_pure ⟨pd, rfl, b2, ch2, c⟩) fun c => ?_
      refine wpS_bind (w_mergeCh C b2 ch2 (Nat.le_refl _) ?_ fun st3 pd3 b3 q3 ch3 _ => ?_)
      · exact (fun (c : Prop) [Decidable c] => (by split <;> omega : (if c then pd.size - 2 - 1 else pd.size - 2) + 1 < pd.size)) _
      · exact w_ite (fun c => by cases c) fun _ => wpS_pure ⟨pd3, rfl, b3, ch3, by omega⟩
    · have z := Ch.le ch
      unfold two at z
      rw [List.length_map, Array.length_toList] at z
      omega
  case step =>
    rintro x c st' _ hx ⟨lo, pd, rfl, b', ch, q1, q2⟩
    refine w_ite (fun c => ?_) fun c => ?_
    · have e : lo = a₀.size := by
        have c' : lo ≥ a₀.size := c
        omega
      subst e
      exact wpS_pure ⟨pd, rfl, b', ch⟩
    have c' : lo < a₀.size := Nat.lt_of_not_le c
    refine wpS_bind (w_count (lo := lo) (nrem := a₀.size - lo) C (by omega) (by omega) b' fun m st2 b2 f2 m1 m2 u2 => ?_)
    have ch2 : Ch R (arrOf st2) 0 (two pd) lo := ch.like fun i _ hi => f2 i hi
    have push : ∀ (n : Nat) (st4 : SortSt) (pd4 : Array (Nat × Nat × Nat)), Bs κ a₀ pd4 st4 → Ch R (arrOf st4) 0 (two pd4) lo → Up R (arrOf st4) lo (lo + n) → 1 ≤ n → lo + n ≤ a₀.size →
        ∃ lo' pd', ((none, lo + n) : Option Unit × Nat) = (none, lo') ∧ Bs κ a₀ pd' (SortSt.mk' (kindOf st4) (arrOf st4) ((pendingOf st4).push (lo, n, 0)) (gallopOf st4) (failedOf st4)) ∧ Ch R (arrOf st4) 0 (two pd') lo' ∧ lo' ≤ a₀.size ∧ min (x + 1) a₀.size ≤ lo' := by
      intro n st4 pd4 b4 ch4 u4 n1 n2
      refine ⟨lo + n, pd4.push (lo, n, 0), rfl, ⟨b4.perm, b4.kind, b4.ok, ?_⟩, ?_, n2, by omega⟩
      · show (pendingOf st4).push (lo, n, 0) = _
        rw [b4.pend]
      · rw [two_push, Ch.app]
        exact ⟨lo, ch4, rfl, n1, u4, rfl⟩
    refine w_ite (fun cm => ?_) fun cm => ?_
    case' refine_1 =>
      refine wpS_bind (wpS_lift (wpAny_rule ⟨rfl, ?_⟩))
      refine wpS_bind (w_ins (lo := lo) (n := min (a₀.size - lo) (minRun' a₀.size a₀.size 0)) (ok := m) C (by omega) (by
        have cm' : m < minRun' a₀.size a₀.size 0 := cm
        omega) b2 u2 fun st3 b3 f3 u3 => ?_)
      refine w_ite (fun c => by cases c) fun _ => ?_
      have ch3 : Ch R (arrOf st3) 0 (two pd) lo := ch2.like fun i _ hi => f3 i hi
      have n1 : 1 ≤ min (a₀.size - lo) (minRun' a₀.size a₀.size 0) := by
        have cm' : m < minRun' a₀.size a₀.size 0 := cm
        omega
      have n2 : lo + min (a₀.size - lo) (minRun' a₀.size a₀.size 0) ≤ a₀.size := by omega
      obtain ⟨n, hn⟩ : ∃ n, n = min (a₀.size - lo) (minRun' a₀.size a₀.size 0) := ⟨_, rfl⟩
    case' refine_2 =>
      have ch3 := ch2
      have b3 := b2
      have u3 := u2
      have n1 := m1
      have n2 : lo + m ≤ a₀.size := by omega
      obtain ⟨n, hn⟩ : ∃ n, n = m := ⟨_, rfl⟩
    all_goals
      refine wpS_bind (wpS_get ?_)
      rw [pn b3]
      cases hb : pd.back? with
      | none => exact wpS_bind (wpS_modify (wpS_pure (push _ _ _ b3 ch3 u3 n1 n2)))
      | some t =>
        obtain ⟨s1, k1, p1⟩ := t
        rw [← hn] at u3
        refine wpS_bind (wpS_mono (wpS_forRange (I := fun y (c : Option Unit × Unit) st4 => c = (none, ()) ∧ ∃ pd4, Bs κ a₀ pd4 st4 ∧ Ch R (arrOf st4) 0 (two pd4) lo ∧ Up R (arrOf st4) lo (lo + n))
          (Q := fun (c : Option Unit × Unit) st4 => c = (none, ()) ∧ ∃ pd4, Bs κ a₀ pd4 st4 ∧ Ch R (arrOf st4) 0 (two pd4) lo ∧ Up R (arrOf st4) lo (lo + n)) ?s4 (fun _ _ z => z) ⟨rfl, pd, b3, ch3, u3⟩) ?p4)
        case s4 =>
          rintro y c st4 _ hy ⟨rfl, pd4, b4, ch4, u4⟩
          refine wpS_bind (wpS_get ?_)
          rw [pn b4]
          dsimp only
          by_cases c4 : pd4.size > 1
          · have e : (if pd4.size > 1 then pd4[pd4.size - 2]? else none) = some (pd4[pd4.size - 2]'(by omega)) := by rw [if_pos c4]; exact getElem?_pos _ _ (by omega)
            rw [e]
            obtain ⟨v1, v2, v3⟩ := pd4[pd4.size - 2]'(by omega)
            refine w_ite (fun _ => wpS_pure ⟨rfl, pd4, b4, ch4, u4⟩) fun _ => ?_
            refine wpS_bind (w_mergeCh C b4 ch4 (by omega) (by omega) fun st5 pd5 b5 _ ch5 o5 => ?_)
            exact w_ite (fun c => by cases c) fun _ => wpS_pure ⟨rfl, pd5, b5, ch5, u4.like fun i h1 _ => o5 i h1⟩
          · rw [if_neg c4]
            exact wpS_pure ⟨rfl, pd4, b4, ch4, u4⟩
        case p4 =>
          rintro c st4 ⟨rfl, pd4, b4, ch4, u4⟩
          rw [hn] at u4
          refine wpS_bind (wpS_modify (wpS_bind (wpS_modify (wpS_pure ?_))))
          refine push _ _ _ ⟨b4.perm, b4.kind, b4.ok, rfl⟩ ?_ u4 n1 n2
          refine (congrArg (fun z => Ch R (arrOf st4) 0 z lo) (two_mod (pd := pendingOf st4) _ _)).mpr ?_
          rw [b4.pend]
          exact ch4
end
end So

set_option Elab.async false
set_option linter.all false
set_option maxRecDepth 100000
set_option maxHeartbeats 4000000
namespace So
open PySem PyProof.Rows
section
variable {prog : Program} {w : World} {A : Around} {E : Value → Shared → Prop} {s : Shared}
theorem Up.all {R : Keyed → Int} {xs : Array Keyed} (u : Up R xs 0 xs.size) : xs.toList.Pairwise (Le R) := by
  rw [List.pairwise_iff_getElem]
  intro i j hi hj hij
  rw [Array.length_toList] at hi hj
  exact u.le (getElem?_pos xs i hi) (getElem?_pos xs j hj) (Nat.le_of_lt hij)
/-- pairs of numbers -/
def PairAt (h : Heap) (v : Value) (x y : Int) : Prop := ∃ a o t u n, v = .ref a ∧ h.get? a = some o ∧ o.cls = .type "tuple" ∧ o.data = .seq #[.int x t, .int y u] n
theorem firsts_of {h : Heap} : ∀ {vs : List Value}, (∀ v ∈ vs, ∃ x y, PairAt h v x y) → ∃ fs, PySem.W.KatTups h vs fs ∧ fs.length = vs.length ∧ ∀ f ∈ fs, ∃ i t, f = .int i t
  | [], _ => ⟨[], trivial, rfl, fun _ q => by cases q⟩
  | v :: vs, hv => by
    obtain ⟨fs, h1, h2, h3⟩ := firsts_of (vs := vs) fun v m => hv v (.tail _ m)
    obtain ⟨x, y, a, o, t, u, n, rfl, e1, e2, e3⟩ := hv v (.head _)
    refine ⟨.int x t :: fs, .cons e1 e2 e3 rfl h1, by rw [List.length_cons, List.length_cons, h2], fun f m => ?_⟩
    rcases List.mem_cons.mp m with rfl | m
    · exact ⟨x, t, rfl⟩
    · exact h3 f m
theorem lex_iff {B x y x' y' : Int} (h1 : 0 ≤ y) (h2 : y < B) (h3 : 0 ≤ y') (h4 : y' < B) : x * B + y < x' * B + y' ↔ x < x' ∨ (x = x' ∧ y < y') := by
  constructor
  · intro h
    rcases Int.lt_trichotomy x x' with c | c | c
    · exact .inl c
    · subst c; exact .inr ⟨rfl, by omega⟩
    · exfalso
      have q : (x' + 1) * B ≤ x * B := Int.mul_le_mul_of_nonneg_right (by omega) (by omega)
      rw [Int.add_mul, Int.one_mul] at q
      omega
  · rintro (c | ⟨rfl, c⟩)
    · have q : (x + 1) * B ≤ x' * B := Int.mul_le_mul_of_nonneg_right (by omega) (by omega)
      rw [Int.add_mul, Int.one_mul] at q
      omega
    · omega
end
end So

set_option Elab.async false
set_option linter.all false
set_option maxRecDepth 100000
set_option maxHeartbeats 2000000
namespace L2
open PySem PySem.Spec PyProof.Rows
/-! ### sorted, of pairs of numbers, of any length -/
end L2

set_option Elab.async false
set_option linter.all false
set_option maxRecDepth 100000
set_option maxHeartbeats 2000000
namespace L2
open PySem PySem.Spec PyProof.Rows
/-! ### sum of numbers; is, is not of truths -/
def fIsB (f : Bool → Bool) : R2 := fun x y H Q => match x, y with
  | .bl a, .bl b => Q (.bl (f (a == b))) H
  | _, _ => False
end L2

set_option Elab.async false
set_option linter.all false
set_option maxRecDepth 100000
set_option maxHeartbeats 2000000
namespace L2
open PySem PySem.Spec PyProof.Rows
/-! ### a dict walked: it is known to the object from then on -/
theorem kv_at {kvs : List (Key × V)} {vs : List (Key × Value)} (r : KV kvs vs) {i : Nat} {k : Key} {x : Value} (e : vs[i]? = some (k, x)) : ∃ kv, kvs[i]? = some kv ∧ kv.1 = k := by
  obtain ⟨kv, e1, e2⟩ := paired_right r e
  exact ⟨kv, e1, e2.1⟩
/-! ### d.update(e), of two dicts -/
/-! ### list(d): the keys -/
/-! ### xs.pop() -/
end L2

set_option Elab.async false
set_option linter.all false
set_option maxRecDepth 100000
set_option maxHeartbeats 2000000
namespace L2
open PySem PySem.Spec PyProof.Rows
section
variable {X : Cx}
/-- l.insert(k, y) within the list -/
def fInsS : V → List V → Hp → VK → Prop := fun x vs H Q => match x, vs with
  | .ref l, [.int k, y] => match H l with
    | some (.lst xs) => (0 ≤ k ∧ k ≤ xs.length ∧ xs.length < 1000) ∧ Q .non (upd H l (.lst (xs.take k.toNat ++ y :: xs.drop k.toNat)))
    | _ => False
  | _, _ => False
/-! ### a dict that is known to the object already, walked once more -/
end
end L2

set_option Elab.async false
set_option linter.all false
set_option maxRecDepth 100000
set_option maxHeartbeats 4000000
/-! Sorting by a key that a call tells: a pair of numbers for each thing. -/
namespace So
open PySem PyProof.Rows PySem.W
section
variable {prog : Program} {w : World} {A : Around} {E : Value → Shared → Prop} {s : Shared}
def Kp (h h' : Heap) : Prop := ∀ b o, h.get? b = some o → h'.get? b = some o
theorem PairAt.kp {h h' : Heap} {v : Value} {x y : Int} (p : PairAt h v x y) (k : ∀ b o, h.get? b = some o → o.cls = .type "tuple" → h'.get? b = some o) : PairAt h' v x y := by
  obtain ⟨a, o, t, u, n, e0, e1, e2, e3⟩ := p
  exact ⟨a, o, t, u, n, e0, k _ _ e1 e2, e2, e3⟩
def rank (rk : Value → Int × Int) (B : Int) (v : Value) : Int := (rk v).1 * B + (rk v).2
/-- the keys told so far -/
def Kys (rk : Value → Int × Int) (vs : List Value) (h : Heap) (kA : Array Value) (i : Nat) : Prop := kA.size = i ∧ ∀ (j : Nat) (k v : Value), kA[j]? = some k → vs[j]? = some v → PairAt h k (rk v).1 (rk v).2
theorem Kys.kp {rk : Value → Int × Int} {vs : List Value} {h h' : Heap} {kA : Array Value} {i : Nat} (p : Kys rk vs h kA i) (k : ∀ b o, h.get? b = some o → o.cls = .type "tuple" → h'.get? b = some o) : Kys rk vs h' kA i :=
  ⟨p.1, fun j a v e1 e2 => (p.2 j a v e1 e2).kp k⟩
theorem upd_tup {h : Heap} {x : Addr} {xs : Array Value} {e : Nat} {g : Obj → Obj} (hx : h.get? x = some (seqObj "list" xs e)) : ∀ b o, h.get? b = some o → o.cls = .type "tuple" → (h.update x g).get? b = some o := fun b o q c => by
  have ne : b ≠ x := fun z => by
    rw [z, hx] at q
    cases q
    have c' : Value.type "list" = Value.type "tuple" := c
    injection c' with c'
    exact absurd c' (by decide)
  rw [Heap.get?_update_ne _ _ _ _ ne]
  exact q
theorem zip_mem {kA : Array Value} {vs : List Value} {p : Keyed} (h : p ∈ (kA.zip vs.toArray).toList) : ∃ j : Nat, kA[j]? = some p.1 ∧ vs[j]? = some p.2 := by
  rw [ksk_zip] at h
  obtain ⟨j, hj, e⟩ := List.mem_iff_getElem.mp h
  rw [List.getElem_zip] at e
  rw [List.length_zip] at hj
  refine ⟨j, ?_, ?_⟩
  · rw [← Array.getElem?_toList, List.getElem?_eq_getElem (by omega), ← e]
  · rw [List.getElem?_eq_getElem (by omega), ← e]
theorem lt_pairs {k1 k2 : Value} {x1 y1 x2 y2 B : Int} (p : PairAt s.heap k1 x1 y1) (p' : PairAt s.heap k2 x2 y2) (r1 : 0 ≤ y1 ∧ y1 < B) (r2 : 0 ≤ y2 ∧ y2 < B) {Q : Bool → Shared → Prop} (q : Q (decide (x1 * B + y1 < x2 * B + y2)) s) :
    wpAny (model prog w) A (keyLt' (tuples' true) k1 k2) Q E s := by
  obtain ⟨a, o, t1, t2, n, rfl, e1, e2, e3⟩ := p
  obtain ⟨b, p, t3, t4, m, rfl, f1, f2, f3⟩ := p'
  have lx := lex_iff (x := x1) (x' := x2) r1.1 r1.2 r2.1 r2.2
  refine PySem.W.kat_lt (b := true) e1 e3 f1 f3 ?_
  refine PySem.W.kat_cons (wpAny_eqBool_int ?_)
  by_cases c : x1 = x2
  · rw [show (x1 == x2) = true by rw [c]; exact beq_self_eq_true _]
    refine PySem.W.kat_yes (PySem.W.kat_cons (wpAny_eqBool_int ?_))
    by_cases c2 : y1 = y2
    · rw [show (y1 == y2) = true by rw [c2]; exact beq_self_eq_true _]
      refine PySem.W.kat_yes (PySem.W.kat_nil ?_)
      rw [show decide (x1 * B + y1 < x2 * B + y2) = false by rw [decide_eq_false_iff_not, lx]; omega] at q
      exact q
    · rw [show (y1 == y2) = false by rw [beq_eq_false_iff_ne]; exact c2]
      refine PySem.W.kat_no (PySem.W.kat_one _ _ (lt_int ?_))
      rw [show decide (x1 * B + y1 < x2 * B + y2) = decide (y1 < y2) by rw [decide_eq_decide, lx]; omega] at q
      exact q
  · rw [show (x1 == x2) = false by rw [beq_eq_false_iff_ne]; exact c]
    refine PySem.W.kat_no (oneLt_int ?_)
    rw [show decide (x1 * B + y1 < x2 * B + y2) = decide (x1 < x2) by rw [decide_eq_decide, lx]; omega] at q
    exact q
theorem cm_keys {rk : Value → Int × Int} {vs : List Value} {kA : Array Value} {B : Int} {i : Nat} (ky : Kys rk vs s.heap kA i) (hB : ∀ v ∈ vs, 0 ≤ (rk v).2 ∧ (rk v).2 < B) {a₀ : Array Keyed} (ha : ∀ p ∈ a₀.toList, p ∈ (kA.zip vs.toArray).toList) :
    Cm prog w A s (fun k => rank rk B k.2) (tuples' true) a₀ := by
  intro x y hx hy Q E q
  obtain ⟨j1, a1, a2⟩ := zip_mem (ha x hx)
  obtain ⟨j2, b1, b2⟩ := zip_mem (ha y hy)
  exact lt_pairs (ky.2 _ _ _ a1 a2) (ky.2 _ _ _ b1 b2) (hB x.2 (List.mem_of_getElem? a2)) (hB y.2 (List.mem_of_getElem? b2)) q
theorem kind_keys {rk : Value → Int × Int} {vs : List Value} {kA : Array Value} {i : Nat} (ky : Kys rk vs s.heap kA i) (hl : kA.size = vs.length) (h2 : 1 ≤ vs.length) {Q : SortKind → Shared → Prop} (q : Q (tuples' true) s) : wpAny (model prog w) A (keyKind' kA) Q E s := by
  obtain ⟨fs, k1, k2, k3⟩ := firsts_of (h := s.heap) (vs := kA.toList) fun v m => by
    obtain ⟨j, hj, e⟩ := List.mem_iff_getElem.mp m
    have hj' : j < kA.size := by rwa [Array.length_toList] at hj
    have e1 : kA[j]? = some v := by rw [← Array.getElem?_toList, List.getElem?_eq_getElem hj, e]
    have e2 : vs[j]? = some (vs[j]'(by rw [← hl]; exact hj')) := List.getElem?_eq_getElem _
    exact ⟨_, _, ky.2 j v _ e1 e2⟩
  have hf : 0 < fs.length := by rw [k2, Array.length_toList, hl]; omega
  have z := PySem.W.kat_kind (M := model prog w) (A := A) (E := E) (Q := Q) (T := .type "int") k1 hf (fun f m => by
    obtain ⟨i, t, rfl⟩ := k3 f m
    exact PySem.W.Looks.of_pure rfl) rfl q
  rwa [Array.toArray_toList] at z
/-- what comes out -/
def Out (rk : Value → Int × Int) (B : Int) (b : Bool) (vs out : List Value) : Prop := out.Perm vs ∧ out.Pairwise fun p q => if b = true then rank rk B q ≤ rank rk B p else rank rk B p ≤ rank rk B q
theorem out_key {rk : Value → Int × Int} {B : Int} {b : Bool} {vs : List Value} {kA : Array Value} (hl : kA.size = vs.length) {xs : Array Keyed} (p : xs.Perm (kA.zip vs.toArray)) (u : Up (fun k => rank rk B k.2) xs 0 xs.size) :
    Out rk B b vs (if b = true then (xs.map (·.2)).reverse else xs.map (·.2)).toList := by
  have hp : xs.toList.Perm (kA.toList.zip vs) := by rw [← ksk_zip]; exact Array.perm_iff_toList_perm.mp p
  have h1 : (xs.map (·.2)).toList.Perm vs := by
    rw [Array.toList_map]
    have z := hp.map Prod.snd
    rwa [List.map_snd_zip (by have := Array.length_toList (xs := kA); omega)] at z
  have h2 : (xs.map (·.2)).toList.Pairwise fun p q => rank rk B p ≤ rank rk B q := by
    rw [Array.toList_map, List.pairwise_map]
    exact u.all
  cases b with
  | false => exact ⟨h1, h2⟩
  | true =>
    refine ⟨?_, ?_⟩
    · rw [if_pos rfl, Array.toList_reverse]
      exact (List.reverse_perm _).trans h1
    · rw [if_pos rfl, Array.toList_reverse, List.pairwise_reverse]
      exact h2
theorem tail_key {rk : Value → Int × Int} {B : Int} {a kS : Addr} {b : Bool} {vs : List Value} {kA : Array Value} {e e1 : Nat} {h₁ : Heap} {P : PySem.Fin → Shared → Prop} {st : SortSt} (k0 : Kp h₁ s.heap) (n1 : h₁.get? kS = none) (n2 : h₁.get? a = none)
    (nk : s.heap.get? kS = some (seqObj "list" kA e)) (na : s.heap.get? a = some (seqObj "list" #[] e1)) (hka : kS ≠ a) (hl : kA.size = vs.length) (hz : vs.length ≤ 1000)
    (hp : (arrOf st).Perm (kA.zip vs.toArray)) (hs : Up (fun k => rank rk B k.2) (arrOf st) 0 (arrOf st).size) (hfl : failedOf st = none)
    (h : ∀ h' tk out c, Kp h₁ h' → h'.get? a = some (seqObj "list" out c) → Out rk B b vs out.toList → P (.done (.ret .none)) { s with heap := h', toks := tk }) :
    wpAny (model prog w) A (ksk_tail a b e1 (.ref kS) st) P E s := by
  have hz1 : (1000 : Nat) ≤ sizeLine := by decide
  have hsz2 : (arrOf st).size = vs.length := by rw [hp.size_eq, Array.size_zip, hl, List.size_toArray, Nat.min_self]
  have hout : (if b then ((arrOf st).map (·.2)).reverse else (arrOf st).map (·.2)).size = vs.length := by
    cases b with
    | false => simp only [Bool.false_eq_true, if_false, Array.size_map]; exact hsz2
    | true => simp only [if_true, Array.size_reverse, Array.size_map]; exact hsz2
  have na1 : (s.heap.update kS (Obj.mapSeq fun _ => (#[] : Array Value))).get? a = some (seqObj "list" #[] e1) := by rw [Heap.get?_update_ne _ _ _ _ hka.symm]; exact na
  have hc2 := get?_update_seq na1 fun _ : Array Value => if b then ((arrOf st).map (·.2)).reverse else (arrOf st).map (·.2)
  unfold ksk_tail
  try dsimp only
  refine wpAny_bind (listUpdate_at nk rfl ?_ (by rw [hl]; omega) (Nat.zero_le _))
  refine wpAny_bind (wpAny_letGo ?_)
  refine wpAny_bind (seqEpoch_at na1 rfl ?_)
  refine wpAny_bind (listUpdate_at na1 rfl ?_ (Nat.zero_le _) (Nat.le_trans (Nat.le_of_eq hout) (by omega)))
  rw [hfl]
  simp only [bne_self_eq_false, Bool.false_eq_true, if_false]
  refine wpAny_pure (h _ _ _ _ (fun x o q => ?_) hc2 (out_key hl hp hs))
  have y1 : x ≠ kS := fun z => by rw [z, n1] at q; cases q
  have y2 : x ≠ a := fun z => by rw [z, n2] at q; cases q
  rw [Heap.get?_update_ne _ _ _ _ y2, Heap.get?_update_ne _ _ _ _ y1]
  exact k0 x o q
theorem end_key {rk : Value → Int × Int} {B : Int} {a kS : Addr} {b : Bool} {vs : List Value} {kA : Array Value} {e e1 : Nat} {h₁ : Heap} {P : PySem.Fin → Shared → Prop} (k0 : Kp h₁ s.heap) (n1 : h₁.get? kS = none) (n2 : h₁.get? a = none)
    (nk : s.heap.get? kS = some (seqObj "list" kA e)) (na : s.heap.get? a = some (seqObj "list" #[] e1)) (hka : kS ≠ a) (hz : vs.length ≤ 1000)
    (ky : Kys rk vs s.heap kA vs.length) (hB : ∀ v ∈ vs, 0 ≤ (rk v).2 ∧ (rk v).2 < B)
    (h : ∀ h' tk out c, Kp h₁ h' → h'.get? a = some (seqObj "list" out c) → Out rk B b vs out.toList → P (.done (.ret .none)) { s with heap := h', toks := tk }) :
    wpAny (model prog w) A (ksk_end a b vs.toArray e1 (.ref kS) kA) P E s := by
  have hl := ky.1
  have hzs : (kA.zip vs.toArray).size = vs.length := by rw [Array.size_zip, hl, List.size_toArray, Nat.min_self]
  have step : ∀ t : Sem PySem.Fin, wpAny (model prog w) A t P E s → wpAny (model prog w) A (if b = true then (do let _ ← rule "list.sort.reverse"; t) else t) P E s := by
    intro t ht
    split
    · exact wpAny_bind (wpAny_rule ht)
    · exact ht
  have hstart : (if b = true then (kA.zip vs.toArray).reverse else kA.zip vs.toArray).Perm (kA.zip vs.toArray) := by
    cases b with
    | false => exact Array.Perm.refl _
    | true => exact Array.perm_iff_toList_perm.mpr (by rw [if_pos rfl, Array.toList_reverse]; exact List.reverse_perm _)
  unfold ksk_end
  try dsimp only
  refine step _ ?_
  by_cases h2 : vs.toArray.size < 2
  · rw [if_pos h2, if_pos h2]
    refine wpAny_bind (wpAny_pure ?_)
    rw [StateT.run_pure]
    refine wpAny_bind (wpAny_pure ?_)
    try dsimp only
    refine tail_key (st := SortSt.mk' general' (if b = true then (kA.zip vs.toArray).reverse else kA.zip vs.toArray) #[] 7 none) k0 n1 n2 nk na hka hl hz hstart (Up.one ?_) rfl h
    show (if b = true then (kA.zip vs.toArray).reverse else kA.zip vs.toArray).size ≤ 1
    rw [hstart.size_eq, hzs]
    rw [List.size_toArray] at h2
    omega
  · rw [if_neg h2, if_neg h2]
    rw [List.size_toArray] at h2
    refine wpAny_bind (kind_keys ky hl (by omega) ?_)
    have k2 : Cm prog w A s (fun k => rank rk B k.2) (tuples' true) (kA.zip vs.toArray) := cm_keys ky hB fun p m => m
    have k3 := w_sort (E := E) (st := SortSt.mk' (tuples' true) (if b = true then (kA.zip vs.toArray).reverse else kA.zip vs.toArray) #[] 7 none) (Q := fun _ st' => (arrOf st').Perm (kA.zip vs.toArray) ∧ failedOf st' = none ∧ Up (fun k => rank rk B k.2) (arrOf st') 0 (kA.zip vs.toArray).size) k2 ⟨hstart, rfl, rfl, rfl⟩ (by rw [hzs]; omega) fun st' a1 a2 a3 => ⟨a1, a2, a3⟩
    refine wpAny_bind (wpAny_mono k3 ?_ fun _ _ e => e)
    rintro ⟨⟨⟩, st'⟩ s' ⟨rfl, hp, hf, hs⟩
    try dsimp only
    exact tail_key k0 n1 n2 nk na hka hl hz hp (by rw [hp.size_eq]; exact hs) hf h
theorem rest_key {rk : Value → Int × Int} {B : Int} {a kS : Addr} {b : Bool} {vs : List Value} {f : Value} {e1 : Nat} {h₁ : Heap} {P : PySem.Fin → Shared → Prop} (k0 : Kp h₁ s.heap) (n1 : h₁.get? kS = none) (n2 : h₁.get? a = none)
    (nk : s.heap.get? kS = some (seqObj "list" #[] 0)) (na : s.heap.get? a = some (seqObj "list" #[] e1)) (hka : kS ≠ a) (hz : vs.length ≤ 1000)
    (hB : ∀ v ∈ vs, 0 ≤ (rk v).2 ∧ (rk v).2 < B)
    (turn : ∀ v ∈ vs, ∀ (h : Heap) (tk : Nat), Kp h₁ h → wpAny (model prog w) A (call f [v]) (fun k s2 => ∃ h' tk', s2 = { s with heap := h', toks := tk' } ∧ Kp h h' ∧ PairAt h' k (rk v).1 (rk v).2) (fun _ _ => False) { s with heap := h, toks := tk })
    (h : ∀ h' tk out c, Kp h₁ h' → h'.get? a = some (seqObj "list" out c) → Out rk B b vs out.toList → P (.done (.ret .none)) { s with heap := h', toks := tk }) :
    wpAny (model prog w) A (ksk_rest a f b vs.toArray e1 (.ref kS)) P E s := by
  have hz1 : (1001 : Nat) ≤ sizeLine := by decide
  unfold ksk_rest
  refine wpAny_bind (wpAny_rule ?_)
  first
    | rw [List.forIn_toArray]
    | (rw [← Array.forIn_toList]; simp only [List.toList_toArray])
    | rw [← Array.forIn_toList]
  refine wpAny_bind (ksk_fold (fun i s' => ∃ h' tk kA e, s' = { s with heap := h', toks := tk } ∧ Kp h₁ h' ∧ h'.get? kS = some (seqObj "list" kA e) ∧ h'.get? a = some (seqObj "list" #[] e1) ∧ Kys rk vs h' kA i) vs 0 s
    ⟨s.heap, s.toks, #[], 0, rfl, k0, nk, na, rfl, fun j k v q _ => by simp at q⟩ ?step ?done)
  case step =>
    rintro j x s' hx ⟨h', tk, kA, e, rfl, K', nk', na', ky⟩
    simp only [Nat.zero_add] at ky ⊢
    have hj : j < vs.length := (List.getElem?_eq_some_iff.mp hx).1
    refine wpAny_bind (wpAny_attempt (wpAny_mono (turn x (List.mem_of_getElem? hx) h' tk K') (fun v s2 he => ?_) fun _ _ hF => hF.elim))
    obtain ⟨g, tk2, rfl, K2, pa⟩ := he
    try dsimp only
    have nk2 := K2 _ _ nk'
    have na2 := K2 _ _ na'
    have hsz := ky.1
    have hc2 := get?_update_seq nk2 fun q : Array Value => q.push v
    have tu := upd_tup (g := Obj.mapSeq (·.push v)) nk2
    refine wpAny_bind (listUpdate_at nk2 rfl ?_ (by omega) (Nat.le_trans (Nat.le_of_eq (Array.size_push ..)) (by omega)))
    refine wpAny_pure ⟨rfl, _, _, kA.push v, _, rfl, fun y o q => ?_, hc2, ?_, ?_, fun i k u q1 q2 => ?_⟩
    · rw [Heap.get?_update_ne _ _ _ _ (fun z => by rw [z, n1] at q; cases q)]
      exact K2 _ _ (K' _ _ q)
    · rw [Heap.get?_update_ne _ _ _ _ hka.symm]
      exact na2
    · rw [Array.size_push, hsz]
    · by_cases c : i = j
      · subst c
        rw [← hsz, Array.getElem?_push_size] at q1
        cases q1
        rw [hx] at q2
        cases q2
        exact pa.kp tu
      · have q3 : kA[i]? = some k := by
          rw [Array.getElem?_push, if_neg (by rw [hsz]; exact c)] at q1
          exact q1
        exact (ky.2 i k u q3 q2).kp fun y o z1 z2 => tu _ _ (K2 _ _ z1) z2
  case done =>
    rintro s' ⟨h', tk, kA, e, rfl, K', nk', na', ky⟩
    rw [Nat.zero_add] at ky
    try dsimp only
    refine wpAny_bind (listItems_at nk' rfl ?_)
    exact end_key (s := { s with heap := h', toks := tk }) K' n1 n2 nk' na' hka hz ky hB fun h3 tk3 out c a1 a2 a3 => h h3 tk3 out c a1 a2 a3
theorem sort_key {rk : Value → Int × Int} {B : Int} {a : Addr} {b : Bool} {vs : List Value} {f : Value} {n : Nat} {h₁ : Heap} {P : PySem.Fin → Shared → Prop} (ho : s.heap.get? a = some (seqObj "list" vs.toArray n)) (hz : vs.length ≤ 1000)
    (hold : ∀ x o, h₁.get? x = some o → x ≠ a ∧ s.heap.get? x = some o) (h0 : h₁.objs.size ≤ s.heap.objs.size)
    (hB : ∀ v ∈ vs, 0 ≤ (rk v).2 ∧ (rk v).2 < B)
    (turn : ∀ v ∈ vs, ∀ (h : Heap) (tk : Nat), Kp h₁ h → wpAny (model prog w) A (call f [v]) (fun k s2 => ∃ h' tk', s2 = { s with heap := h', toks := tk' } ∧ Kp h h' ∧ PairAt h' k (rk v).1 (rk v).2) (fun _ _ => False) { s with heap := h, toks := tk })
    (h : ∀ h' tk out c, Kp h₁ h' → h'.get? a = some (seqObj "list" out c) → Out rk B b vs out.toList → P (.done (.ret .none)) { s with heap := h', toks := tk }) :
    wpAny (model prog w) A (ksk_tree a f b) P E s := by
  have hz1 : (1001 : Nat) ≤ sizeLine := by decide
  have ha : a < s.heap.objs.size := Heap.lt_size ho
  have ho1 := get?_update_seq ho fun _ : Array Value => #[]
  have n2 : h₁.get? a = none := by
    cases q : h₁.get? a with
    | none => rfl
    | some o => exact absurd rfl (hold a o q).1
  have hkS : ((s.heap.update a (Obj.mapSeq fun _ => (#[] : Array Value))).push (seqObj "tuple" vs.toArray 0)).objs.size = s.heap.objs.size + 1 := by rw [size_push', Heap.size_update]
  unfold ksk_tree
  refine wpAny_bind (listItems_at ho rfl ?_)
  refine wpAny_bind (listUpdate_at ho rfl ?_ (by rw [List.size_toArray]; omega) (Nat.zero_le _))
  refine wpAny_bind (seqEpoch_at ho1 rfl ?_)
  refine wpAny_bind (wpAny_newTuple ?_ (by show vs.length ≤ _; omega))
  refine wpAny_bind (wpAny_newList ?_ (Nat.zero_le _))
  refine wpAny_holding ?_
  refine rest_key (s := { s with heap := ((s.heap.update a (Obj.mapSeq fun _ => (#[] : Array Value))).push (seqObj "tuple" vs.toArray 0)).push (seqObj "list" #[] 0) }) (kS := ((s.heap.update a (Obj.mapSeq fun _ => (#[] : Array Value))).push (seqObj "tuple" vs.toArray 0)).objs.size) (h₁ := h₁)
    (fun x o q => ?_) ?_ n2 (Heap.get?_push_size _ rfl) (Heap.get?_push_of_some _ (Heap.get?_push_of_some _ ho1)) (by rw [hkS]; exact Nat.ne_of_gt (Nat.lt_succ_of_lt ha)) hz hB turn h
  · exact Heap.get?_push_of_some _ (Heap.get?_push_of_some _ (by rw [Heap.get?_update_ne _ _ _ _ (hold x o q).1]; exact (hold x o q).2))
  · rw [hkS]
    exact Heap.get?_none_of_le (by omega)
theorem sorted_key {rk : Value → Int × Int} {B : Int} {l : Addr} {b : Bool} {vs : List Value} {f : Value} {kw : List (Str × Value)} {Q : Value → Shared → Prop} (hl : s.heap.IsList l vs.toArray) (hz : vs.length ≤ 1000)
    (ha1 : argsOk "sorted" ⟨[.ref l], kw⟩) (ha2 : ∀ x, argsOk "list.sort" ⟨[.ref x], kw⟩) (ht : ∀ x, Builtin.«list.sort» ⟨[.ref x], kw⟩ = ksk_tree x f b)
    (hB : ∀ v ∈ vs, 0 ≤ (rk v).2 ∧ (rk v).2 < B)
    (turn : ∀ v ∈ vs, ∀ (h : Heap) (tk : Nat), Kp s.heap h → wpAny (model prog w) A.in1.in1 (call f [v]) (fun k s2 => ∃ h' tk', s2 = { s with heap := h', toks := tk' } ∧ Kp h h' ∧ PairAt h' k (rk v).1 (rk v).2) (fun _ _ => False) { s with heap := h, toks := tk })
    (h : ∀ D h' tk out c, s.heap.objs.size ≤ D → Kp s.heap h' → h'.get? D = some (seqObj "list" out c) → Out rk B b vs out.toList → Q (.ref D) { s with heap := h', toks := tk }) :
    wpAny (model prog w) A (call (.builtin "sorted") [.ref l] kw) Q E s := by
  have hz1 : (1001 : Nat) ≤ sizeLine := by decide
  refine call_function_entry_kw kind_sorted plain_sorted entry_sorted ha1 ?_
  unfold Builtin.«sorted»
  refine wpAny_bind (m := checkCount "sorted" 1 1 _) (wpAny_pure ?_)
  refine wpAny_bind (collect_list hl ?_ (by omega))
  refine wpAny_bind (wpAny_newList ?_ (by omega))
  have hsz : ((s.heap.push (seqObj "list" #[] 0)).update s.heap.objs.size (Obj.mapSeq (· ++ vs.toArray))).objs.size = s.heap.objs.size + 1 := by
    rw [Heap.size_update, size_push']
  have hoL : (((s.heap.push (seqObj "list" #[] 0)).update s.heap.objs.size (Obj.mapSeq (· ++ vs.toArray))).push (seqObj "list" vs.toArray 0)).get? (s.heap.objs.size + 1) = some (seqObj "list" vs.toArray 0) := by
    rw [← hsz]; exact Heap.get?_push_size _ rfl
  have hsz2 : (((s.heap.push (seqObj "list" #[] 0)).update s.heap.objs.size (Obj.mapSeq (· ++ vs.toArray))).push (seqObj "list" vs.toArray 0)).objs.size = s.heap.objs.size + 2 := by rw [size_push', hsz]
  have keep : ∀ b o, s.heap.get? b = some o → b ≠ s.heap.objs.size + 1 ∧ (((s.heap.push (seqObj "list" #[] 0)).update s.heap.objs.size (Obj.mapSeq (· ++ vs.toArray))).push (seqObj "list" vs.toArray 0)).get? b = some o := fun b o q => by
    have hlt : b < s.heap.objs.size := Heap.lt_size q
    refine ⟨Nat.ne_of_lt (Nat.lt_succ_of_lt hlt), ?_⟩
    rw [Heap.get?_push_ne _ _ _ (by rw [hsz]; exact Nat.ne_of_lt (Nat.lt_succ_of_lt hlt)), Heap.get?_update_ne _ _ _ _ (Nat.ne_of_lt hlt), Heap.get?_push_ne _ _ _ (Nat.ne_of_lt hlt)]
    exact q
  show wpAny _ _ _ _ _ { s with heap := ((s.heap.push (seqObj "list" #[] 0)).update s.heap.objs.size (Obj.mapSeq (· ++ vs.toArray))).push (seqObj "list" vs.toArray 0) }
  rw [hsz]
  refine wpAny_bind (wpAny_holding (wpAny_call_entry_kw slot_list_sort ⟨_, hoL, rfl⟩ entry_list_sort ?body (ha2 _)))
  case body =>
    have ht' := ht (s.heap.objs.size + 1)
    show wpAny (model prog w) A.in1.in1 (Builtin.«list.sort» ⟨[.ref (s.heap.objs.size + 1)], kw⟩) _ _ _
    rw [ht']
    refine sort_key (h₁ := s.heap) (s := { s with heap := ((s.heap.push (seqObj "list" #[] 0)).update s.heap.objs.size (Obj.mapSeq (· ++ vs.toArray))).push (seqObj "list" vs.toArray 0) })
      hoL hz keep (by show s.heap.objs.size ≤ _; rw [hsz2]; omega) hB turn fun h' tk out c a1 a2 a3 => ⟨_, rfl, ?_⟩
    exact wpAny_pure ⟨_, rfl, h _ h' tk out c (Nat.le_succ _) a1 a2 a3⟩
end
end So

set_option Elab.async false
set_option linter.all false
set_option maxRecDepth 100000
set_option maxHeartbeats 1000000
namespace L2
open PySem PySem.Spec PyProof.Rows
/-! ### lambda p: (d[p], p) -/
def lamScope (pn dn : Str) : Scope := { kind := .function, names := [(pn, .local), (dn, .free)], isGenerator := false, isCoroutine := false, more := [] }
def lamParams (pn : Str) (pp : Pos) : Arguments := { posonlyargs := [], args := [{ arg := pn, annotation := none, pos := pp }], vararg := none, kwonlyargs := [], kw_defaults := [], kwarg := none, defaults := [] }
def lamBody (pn dn : Str) (p1 p2 p3 p4 p5 : Pos) (k : Nat) : Expr := .Tuple [.Subscript (.Name dn p1) (.Name pn p2) p3, .Name pn p4] k p5
section
variable {prog : Program} {w : World} {A : Around} {s : Shared}
theorem lam_turn {h : Heap} {tk : Nat} {f c c' d : Addr} {pn dn qual : Str} {pp p1 p2 p3 p4 p5 : Pos} {k : Nat} {pm ctv : Value} {vs : List (Key × Value)} {n pr : Int} {t t' : Tok}
    (hpd : (pn == dn) = false) (hdn : (dn == pn) = false) (h1 : (pn == ("__debug__" : Str)) = false) (h2 : (dn == ("__debug__" : Str)) = false) (h3 : (dn == ("__classdict__" : Str)) = false)
    (hf : h.get? f = some (PySem.W.kla_obj "<lambda>" qual (lamParams pn pp) (lamBody pn dn p1 p2 p3 p4 p5 k) (lamScope pn dn) [(dn, c)] pm c' ctv))
    (hb : ∀ (pm : Value) (c c' : Addr) (ctv v : Value), bindArgs (PySem.W.kla_fn "<lambda>" qual (lamParams pn pp) (lamBody pn dn p1 p2 p3 p4 p5 k) (lamScope pn dn) [(dn, c)] pm (.ref c') ctv) ⟨[v], []⟩ = pure [(pn, v)])
    (hcd : h.CodeRec (.ref c') qual) (hcell : h.IsCell c (some (.ref d))) (hdd : h.DictOf (mixKind prog w) d vs) (hv : valueAt vs (Sum.inl n) = some (.int pr t')) (lim : h.NoLimit) (hroom : A.depth < recursionLimit) :
    wpAny (model prog w) A (call (.ref f) [.int n t]) (fun kv s2 => ∃ h' tk', s2 = { s with heap := h', toks := tk' } ∧ So.Kp h h' ∧ So.PairAt h' kv pr n) (fun _ _ => False) { s with heap := h, toks := tk } := by
  refine wpAny_call (PySem.W.kla_callFunE (s := { s with heap := h, toks := tk }) hroom hf rfl rfl rfl rfl hcd ?_)
  refine (BindsTo.of_eq (hb _ _ _ _ _)) _ _ _ _ ?_
  refine wpAny_newFunctionEnv ?_ ?_ (fun h4 hns hsb => ⟨?_, PySem.W.kla_codeExpr ?_⟩) rfl
  · intro x hx
    simp only [lamScope, List.mem_cons, List.not_mem_nil, or_false] at hx
    rcases hx with rfl | rfl <;> (intro z; cases z)
  · intro x hx
    have e : x = (pn, Value.int n t) := by simpa using hx
    subst e
    show List.lookup pn [(pn, NameKind.local), (dn, NameKind.free)] = _
    rw [List.lookup_cons, beq_self_eq_true]
  · exact lim.keeps fun b o e => hsb.extBut b o (Nat.ne_of_lt (Heap.lt_size e)) (Heap.get?_push_of_some _ e)
  have kp : So.Kp h h4 := fun b o e => hsb.extBut b o (Nat.ne_of_lt (Heap.lt_size e)) (Heap.get?_push_of_some _ e)
  generalize henv : newEnv (lamScope pn dn) h.objs.size mainGlobals [(dn, c)] (qual ++ Str.ofString ".<locals>.") (some f) (Value.ref c') none builtinsNs = env
  have e1 : env.scope = lamScope pn dn := by rw [← henv]; rfl
  have e2 : env.cells = [(dn, c)] := by rw [← henv]; rfl
  have e3 : env.locals = h.objs.size := by rw [← henv]; rfl
  have kk : env.scope.kind = .function := by rw [e1]; rfl
  have kP : env.kindOf pn = some .local := by
    show env.scope.names.lookup pn = _
    rw [e1]
    show List.lookup pn [(pn, NameKind.local), (dn, NameKind.free)] = _
    rw [List.lookup_cons, beq_self_eq_true]
  have kD : env.kindOf dn = some .free := by
    show env.scope.names.lookup dn = _
    rw [e1]
    show List.lookup dn [(pn, NameKind.local), (dn, NameKind.free)] = _
    rw [List.lookup_cons, hdn, List.lookup_cons, beq_self_eq_true]
  have cD : env.cells.lookup dn = some c := by rw [e2, List.lookup_cons, beq_self_eq_true]
  have nP : h4.Ns env.locals (fun x => List.lookup x [(pn, Value.int n t)].reverse) := by rw [e3]; exact hns
  have vP : (fun x => List.lookup x [(pn, Value.int n t)].reverse) pn = some (.int n t) := by
    show List.lookup pn [(pn, Value.int n t)] = _
    rw [List.lookup_cons, beq_self_eq_true]
  obtain ⟨od, es, ep, hod, r1, r2⟩ := id hdd
  have hdd4 : h4.DictOf (mixKind prog w) d vs := ⟨od, es, ep, kp _ _ hod, r1, r2⟩
  have hc4 : h4.IsCell c (some (.ref d)) := by
    obtain ⟨oc, hoc, r⟩ := hcell
    exact ⟨oc, kp _ _ hoc, r⟩
  refine wpAny_Tuple_spliced ?_
  show wpAny _ _ (spliced ((false, eval (.Subscript (.Name dn p1) (.Name pn p2) p3) env) :: backTo p5 (starEach [.Name pn p4] env))) _ _ _
  refine Calls.spliced_cons (subD_of PySem.F.slot_dict_getitem.lookup (fun _ _ => rfl) ?_)
  refine wpAny_Name (wpAny_loadName_free kk kD cD hc4 ?_ h3) h2
  refine wpAny_Name (wpAny_loadName_local kk kP nP vP ?_) h1
  refine ⟨⟨od, kp _ _ hod, r1.1⟩, wpAny_getItem_of (k := (Sum.inl n : Key)) (keyIs_int n t) hdd4.mapOf hv ?_⟩
  refine Calls.spliced_cons (wpAny_Name (wpAny_loadName_local kk kP nP vP ?_) h1)
  refine Calls.spliced_nil ⟨by show 2 ≤ sizeLine; decide, ?_⟩
  exact ⟨_, _, rfl, fun b o e => Heap.get?_push_of_some _ (kp b o e), _, _, t', t, 0, rfl, Heap.get?_push_size _ rfl, rfl, rfl⟩
end
end L2

set_option Elab.async false
set_option linter.all false
set_option maxRecDepth 100000
set_option maxHeartbeats 1000000
namespace L2
open PySem PySem.Spec PyProof.Rows
/-! ### a lambda made in a def's body -/
/-- a code object of that name -/
def codO (c : Addr) (qual : Str) : HO := .ext fun h => ∃ oc vs tq, h.get? c = some oc ∧ oc.data = .fields vs ∧ vs[1]? = some (.str qual tq)
def lamO (f : Addr) (o : Obj) : HO := .ext fun h => h.get? f = some o
theorem codO_ok {P : Program} {w : World} {H : Hp} {h : Heap} {c : Addr} {qual : Str} (x : h.CodeRec (.ref c) qual) : ObjOk P w H h c (codO c qual) := by
  obtain ⟨c2, oc, vs, tq, e, hoc, hd, hv⟩ := x
  cases e
  exact ⟨⟨oc, vs, tq, hoc, hd, hv⟩, ⟨oc, hoc⟩, fun h1 h2 ⟨o1, v1, t1, a1, a2, a3⟩ k => ⟨o1, v1, t1, k _ a1, a2, a3⟩⟩
theorem codO_rec {P : Program} {w : World} {H : Hp} {h : Heap} {c : Addr} {qual : Str} (x : ObjOk P w H h c (codO c qual)) : h.CodeRec (.ref c) qual := by
  obtain ⟨⟨oc, vs, tq, h1, h2, h3⟩, _⟩ := x
  exact ⟨c, oc, vs, tq, rfl, h1, h2, h3⟩
theorem lamO_ok {P : Program} {w : World} {H : Hp} {h : Heap} {f : Addr} {o : Obj} (x : h.get? f = some o) : ObjOk P w H h f (lamO f o) := ⟨x, ⟨o, x⟩, fun h1 h2 a k => k _ a⟩
theorem lamO_get {P : Program} {w : World} {H : Hp} {h : Heap} {f : Addr} {o : Obj} (x : ObjOk P w H h f (lamO f o)) : h.get? f = some o := x.1
/-- the table of a def that makes one lambda: none made yet, or that one -/
def TabO (pos : Pos) (qual : Str) (H : Hp) (P : Addr) : Prop :=
  ∃ ps, H P = some (.tbl ps) ∧ TriplesOk ps.toList ∧ (codeAmong pos ps.toList = none ∨ ∃ c', codeAmong pos ps.toList = some (.ref c') ∧ H c' = some (codO c' qual))
/-- all but the table -/
def ButT (P : Addr) (H H' : Hp) : Prop := ∀ b o, b ≠ P → H b = some o → H' b = some o
structure BltAt (mg : Str → Option Value) (h : Heap) : Prop where
  ex : ∃ bm o, mg "__builtins__" = some (.ref bm) ∧ bm ≠ builtinsNs ∧ bm ≠ mainGlobals ∧ h.get? bm = some o ∧ o.cls = .type "module" ∧ o.dict = some builtinsNs ∧ o.data = .plain
def tLam (X : Cx) (P : Addr) (qual pn dn : Str) (pp p1 p2 p3 p4 p5 pos : Pos) (k : Nat) : TE := fun _ H Q => TabO pos qual H P ∧ ∀ f c c' ctv H', ButT P H H' → TabO pos qual H' P → H f = none → X.env.cells.lookup dn = some c → H' c' = some (codO c' qual) →
  H' f = some (lamO f (PySem.W.kla_obj "<lambda>" qual (lamParams pn pp) (lamBody pn dn p1 p2 p3 p4 p5 k) (lamScope pn dn) [(dn, c)] ((X.mg "__name__").getD .none) c' ctv)) → Q (.ref f) H'
section
variable {X : Cx} {P c0 : Addr} {qual pn dn : Str} {pp p1 p2 p3 p4 p5 pos : Pos} {k : Nat}
theorem pe_lam (hcode : X.env.code = .ref c0) (C : PySem.W.CodeHd X.base c0 P) (hb : BltAt X.mg X.base) (hq : X.env.qual ++ Str.ofString "<lambda>" = qual) (hdef : defaultsOf (lamParams pn pp) X.env = ([], []))
    (hcell : ∃ c, X.env.cells.lookup dn = some c) (hcl : ∀ c, X.env.cells.lookup dn = some c → closureFor (lamScope pn dn) X.env = pure [(dn, c)]) :
    PE X (.Lambda (lamParams pn pp) (lamBody pn dn p1 p2 p3 p4 p5 k) (lamScope pn dn) pos) (tLam X P qual pn dn pp p1 p2 p3 p4 p5 pos k) := by
  intro pins s σ H Q I ⟨tab, h⟩
  obtain ⟨c, hc⟩ := hcell
  subst hq
  refine PySem.W.kla_eval hdef ?_
  obtain ⟨ps, eP, tr, hit⟩ := tab
  have hP : s.heap.get? P = some (PySem.W.tabObj ps) := I.hok P _ eP
  have C' := C.keeps I.bk
  have hg : s.heap.Ns mainGlobals X.mg := I.mod.glob.keeps I.bk
  have nb : ∀ b o, X.base.get? b = some o → b ≠ P := fun b o e z => by
    have := (I.bs b o e).2
    rw [z, eP] at this
    cases this
  have hgP : mainGlobals ≠ P := by
    obtain ⟨o, es, ep, e, _⟩ := I.mod.glob
    exact nb _ _ e
  have hb' : s.heap.BuiltinsAt X.mg P := by
    obtain ⟨bm, o, b1, b2, b3, b4, b5⟩ := hb.ex
    exact ⟨bm, o, b1, b2, b3, nb _ _ b4, I.bk _ _ b4, b5⟩
  rcases hit with hnf | ⟨c', hhit, ec'⟩
  · refine PySem.W.kla_makeFunction (hcl c hc) I.ok.glob hg hcode C' hP tr hnf hgP hb' fun c' ctv h' tk hx hge hlt hrec htb => ?_
    generalize hO : PySem.W.kla_obj "<lambda>" (X.env.qual ++ Str.ofString "<lambda>") (lamParams pn pp) (lamBody pn dn p1 p2 p3 p4 p5 k) (lamScope pn dn) [(dn, c)] ((X.mg "__name__").getD .none) c' ctv = ob
    have hfr : ob.isFreed = false := by rw [← hO]; rfl
    have hPl : P < s.heap.objs.size := Heap.lt_size hP
    have n1 : P ≠ c' := Nat.ne_of_lt (Nat.lt_of_lt_of_le hPl hge)
    have n2 : c' ≠ h'.objs.size := Nat.ne_of_lt hlt
    have n3 : P ≠ h'.objs.size := Nat.ne_of_lt (Nat.lt_trans (Nat.lt_of_lt_of_le hPl hge) hlt)
    have z1 : H c' = none := I.hok.fresh hge
    have z2 : H h'.objs.size = none := I.hok.fresh (Nat.le_trans hge (Nat.le_of_lt hlt))
    have kept : ∀ b o, b ≠ P → s.heap.get? b = some o → (h'.push ob).get? b = some o := fun b o nb e => Heap.get?_push_of_some _ (hx b o nb e)
    have same : ∀ b o, b ≠ P → H b = some o → upd (upd (upd H P (.tbl (ps ++ #[rawInt pos.line, rawInt pos.col, .ref c']))) c' (codO c' (X.env.qual ++ Str.ofString "<lambda>"))) h'.objs.size (lamO h'.objs.size ob) b = some o := fun b o nb e => by
      rw [upd_ne (ne_of_none e z2), upd_ne (ne_of_none e z1), upd_ne nb]
      exact e
    have eP' : upd (upd (upd H P (.tbl (ps ++ #[rawInt pos.line, rawInt pos.col, .ref c']))) c' (codO c' (X.env.qual ++ Str.ofString "<lambda>"))) h'.objs.size (lamO h'.objs.size ob) P = some (.tbl (ps ++ #[rawInt pos.line, rawInt pos.col, .ref c'])) := by
      rw [upd_ne n3, upd_ne n1, upd_same]
    have ec' : upd (upd (upd H P (.tbl (ps ++ #[rawInt pos.line, rawInt pos.col, .ref c']))) c' (codO c' (X.env.qual ++ Str.ofString "<lambda>"))) h'.objs.size (lamO h'.objs.size ob) c' = some (codO c' (X.env.qual ++ Str.ofString "<lambda>")) := by
      rw [upd_ne n2, upd_same]
    have nP : ∀ b, H b = none → b ≠ P := fun b n z => by rw [z, eP] at n; cases n
    have I' : Inv X pins σ (upd (upd (upd H P (.tbl (ps ++ #[rawInt pos.line, rawInt pos.col, .ref c']))) c' (codO c' (X.env.qual ++ Str.ofString "<lambda>"))) h'.objs.size (lamO h'.objs.size ob)) { s with heap := h'.push ob, toks := tk } := by
      refine I.un ⟨fun b o e n _ _ => kept b o (nP b n) e, fun b o e n _ _ => ⟨o.slots, kept b o (nP b n) e⟩, fun b o e n _ => ?_, fun b o e _ => ?_, fun b xs e => same b _ (fun z => by rw [z, eP] at e; cases e) e, fun b o u e => same b _ (fun z => by rw [z, eP] at e; cases e) e, fun b qs e => ?_⟩ fun a o e => ?_
      · have hb : b < s.heap.objs.size := Heap.lt_size e
        rw [upd_ne (Nat.ne_of_lt (Nat.lt_of_lt_of_le hb (Nat.le_trans hge (Nat.le_of_lt hlt)))), upd_ne (Nat.ne_of_lt (Nat.lt_of_lt_of_le hb hge)), upd_ne (nP b n)]
        exact n
      · by_cases hb : b = P
        · rw [hb]; exact ⟨_, Heap.get?_push_of_some _ htb⟩
        · exact ⟨o, kept b o hb e⟩
      · by_cases hb : b = P
        · rw [hb] at e ⊢
          rw [eP] at e
          cases e
          exact ⟨_, eP'⟩
        · exact ⟨#[], by rw [same b _ hb e]; simp⟩
      · by_cases h1 : a = h'.objs.size
        · rw [h1, upd_same] at e
          cases e
          rw [h1]
          exact lamO_ok (Heap.get?_push_size _ hfr)
        · rw [upd_ne h1] at e
          by_cases h2 : a = c'
          · rw [h2, upd_same] at e
            cases e
            rw [h2]
            refine codO_ok ?_
            obtain ⟨c2, oc, vs, tq, q1, q2, q3⟩ := hrec
            exact ⟨c2, oc, vs, tq, q1, Heap.get?_push_of_some _ q2, q3⟩
          · rw [upd_ne h2] at e
            by_cases h3 : a = P
            · rw [h3, upd_same] at e
              cases e
              rw [h3]
              exact Heap.get?_push_of_some _ htb
            · rw [upd_ne h3] at e
              refine (I.hok a o e).stay (fun b u hb q => kept b u ?_ q) (fun b q => same b _ ?_ q) fun b xs q => same b _ ?_ q
              · rcases hb with hb | hb
                · rw [hb]; exact h3
                · intro z; rw [z, eP] at hb; cases hb
              · intro z; rw [z, eP] at q; cases q
              · intro z; rw [z, eP] at q; cases q
    refine ⟨.ref _, _, I', rfl, h _ c c' ctv _ (fun b o nb e => same b o nb e) ⟨_, eP', ?_, .inr ⟨c', ?_, ec'⟩⟩ z2 hc ec' (by rw [hO]; exact upd_same)⟩
    · rw [Array.toList_append]
      exact TriplesOk_snoc _ _ _ _ tr
    · rw [Array.toList_append]
      exact codeAmong_snoc _ tr hnf
  · refine PySem.W.kla_makeFunctionHit (hcl c hc) I.ok.glob hg hcode C' hP tr hhit hb' fun ctv h' tk kp hsz => ?_
    have I1 : Inv X pins σ H { s with heap := h', toks := s.toks } := I.kept kp
    have z2 : H h'.objs.size = none := I.hok.fresh hsz
    refine ⟨.ref _, _, I1.laid (a := h'.objs.size) (o := lamO h'.objs.size _) (t' := tk) (fun b u e => Heap.get?_push_of_some _ e) (Nat.le_refl _) (lamO_ok (Heap.get?_push_size _ rfl)), rfl, h _ c c' ctv _ (fun b o nb e => by rw [upd_ne (ne_of_none e z2)]; exact e) ⟨ps, by rw [upd_ne (ne_of_none eP z2)]; exact eP, tr, .inr ⟨c', hhit, by rw [upd_ne (ne_of_none ec' z2)]; exact ec'⟩⟩ z2 hc (by rw [upd_ne (ne_of_none ec' z2)]; exact ec') upd_same⟩
end
end L2

set_option Elab.async false
set_option linter.all false
set_option maxRecDepth 100000
set_option maxHeartbeats 2000000
namespace L2
open PySem PySem.Spec PyProof.Rows
/-! ### sorted(xs, key=lambda p: (d[p], p), reverse=True) -/
def intOf : Value → Int
  | .int n _ => n
  | _ => 0
theorem vals_intOf : ∀ {us : List Value}, (∀ v ∈ us, ∃ n t, v = Value.int n t) → Vals ((us.map intOf).map V.int) us
  | [], _ => .nil
  | u :: us, h => by
    obtain ⟨n, t, rfl⟩ := h u (.head _)
    exact .cons ⟨t, rfl⟩ (vals_intOf fun v m => h v (.tail _ m))
theorem vals_ints_of : ∀ {ns : List Int} {us : List Value}, Vals (ns.map V.int) us → us.map intOf = ns ∧ ∀ v ∈ us, ∃ n t, v = Value.int n t ∧ n ∈ ns
  | [], _, .nil => ⟨rfl, fun _ h => by cases h⟩
  | n :: ns, _, .cons r t => by
    obtain ⟨k, rfl⟩ := r
    obtain ⟨e, q⟩ := vals_ints_of t
    refine ⟨by rw [List.map_cons, e]; rfl, fun v m => ?_⟩
    rcases List.mem_cons.mp m with rfl | m
    · exact ⟨n, k, rfl, .head _⟩
    · obtain ⟨n', t', e', m'⟩ := q v m
      exact ⟨n', t', e', .tail _ m'⟩
/-- i: the list's slot, j: the dict's -/
def tSortLam (P : Addr) (qual : Str) (pos : Pos) (i j : Nat) : TE := fun σ H Q => ∃ (l d : Addr) (ns : List Int) (kvs : List (Key × V)) (pr : Int → Int), σ[i]? = some (some (.ref l)) ∧ σ[j]? = some (some (.ref d)) ∧ H l = some (.lst (ns.map V.int)) ∧ H d = some (.dK kvs) ∧ ns.length ≤ 1000 ∧
  (∀ n ∈ ns, 0 ≤ n ∧ n < 1000 ∧ valV kvs (Sum.inl n : Key) = some (.int (pr n))) ∧ TabO pos qual H P ∧
  ∀ (D : Addr) (out : List Int) (H' : Hp), ButT P H H' → TabO pos qual H' P → H D = none → H' D = some (.lst (out.map V.int)) → out.Perm ns → out.Pairwise (fun p q => pr q * 1000 + q ≤ pr p * 1000 + p) → Q (.ref D) H'
section
variable {X : Cx} {P c0 : Addr} {qual pn dn xn : Str} {pp p1 p2 p3 p4 p5 pos kp rp cp cpos sp xp : Pos} {k kc i j : Nat}
theorem pe_sortLam (hr : Room 1 X.A) (hNi : X.N[i]? = some xn) (hvi : Vis X.env.scope xn) (hNj : X.N[j]? = some dn) (hvj : Vis X.env.scope dn) (hkj : X.env.scope.names.lookup dn = some .cell)
    (hcode : X.env.code = .ref c0) (C : PySem.W.CodeHd X.base c0 P) (hb : BltAt X.mg X.base) (hq : X.env.qual ++ Str.ofString "<lambda>" = qual) (hdef : defaultsOf (lamParams pn pp) X.env = ([], []))
    (hcl : ∀ c, X.env.cells.lookup dn = some c → closureFor (lamScope pn dn) X.env = pure [(dn, c)])
    (hbd : ∀ (pm : Value) (c c' : Addr) (ctv v : Value), bindArgs (PySem.W.kla_fn "<lambda>" qual (lamParams pn pp) (lamBody pn dn p1 p2 p3 p4 p5 k) (lamScope pn dn) [(dn, c)] pm (.ref c') ctv) ⟨[v], []⟩ = pure [(pn, v)])
    (hg : Gl X "sorted") (hm : X.mg "sorted" = none)
    (he : backTo cpos (starEach [.Name xn xp] X.env) = (false, eval (.Name xn xp) X.env) :: backTo cpos (starEach [] X.env) := by rfl) (hpl : (backTo cpos (starEach [.Name xn xp] X.env)).any (·.1) = false := by rfl)
    (hpd : (pn == dn) = false := by decide) (hdn : (dn == pn) = false := by decide) (h1 : (pn == ("__debug__" : Str)) = false := by decide) (h2 : (dn == ("__debug__" : Str)) = false := by decide) (h3 : (dn == ("__classdict__" : Str)) = false := by decide) (h4 : (xn == ("__debug__" : Str)) = false := by decide) (h5 : (xn == ("__classdict__" : Str)) = false := by decide) :
    PE X (.Call (.Name "sorted" sp) [.Name xn xp] [⟨some "key", .Lambda (lamParams pn pp) (lamBody pn dn p1 p2 p3 p4 p5 k) (lamScope pn dn) pos, kp⟩, ⟨some "reverse", .Constant (.bool true) kc cp, rp⟩] cpos) (tSortLam P qual pos i j) := by
  intro pins s σ H Q I h
  obtain ⟨l, d, ns, kvs, pr, eσ, eσ2, el, ed, hz, hn, tab, h⟩ := h
  have hcell : ∃ c, X.env.cells.lookup dn = some c := I.ok.has dn (.inl hkj)
  refine wpAny_Call_Name_kw (ld_blt I hg hm boot_sorted ?_ (by decide) (by decide))
  have ha : PA X [.Name xn xp] (tCons (tVar i) tNil) := pa_cons (pe_var hNi hvi h4 h5) pa_nil
  have hk : PK X [⟨some "key", .Lambda (lamParams pn pp) (lamBody pn dn p1 p2 p3 p4 p5 k) (lamScope pn dn) pos, kp⟩, ⟨some "reverse", .Constant (.bool true) kc cp, rp⟩] (tCons (tLam X P qual pn dn pp p1 p2 p3 p4 p5 pos k) (tCons (tC (.bl true)) tNil)) :=
    pk_cons (pe_lam hcode C hb hq hdef hcell hcl) (pk_cons pe_bl pk_nil)
  refine callWith_kw (thn (ha cpos pins s σ H (fun vs H1 => vs = [.ref l] ∧ H1 = H) I ⟨_, eσ, rfl, rfl⟩) fun us s1 ⟨vs, H1, I1, r1, q1⟩ => ?_) he hpl
  obtain ⟨rfl, rfl⟩ := q1
  obtain ⟨u, rfl, ru⟩ := r1.one
  cases ru
  refine thn (hk cpos pins s1 σ H1 (fun zs H2 => ∃ f c c' ctv, zs = [.ref f, .bl true] ∧ ButT P H1 H2 ∧ TabO pos qual H2 P ∧ X.env.cells.lookup dn = some c ∧ H2 c' = some (codO c' qual) ∧
      H2 f = some (lamO f (PySem.W.kla_obj "<lambda>" qual (lamParams pn pp) (lamBody pn dn p1 p2 p3 p4 p5 k) (lamScope pn dn) [(dn, c)] ((X.mg "__name__").getD .none) c' ctv))) I1 ⟨tab, fun f c c' ctv H' a1 a2 a3 a4 a5 a6 => ⟨f, c, c', ctv, rfl, a1, a2, a4, a5, a6⟩⟩) fun ws s2 ⟨zs, H2, I2, r2, f, c, c', ctv, ez, b2, tab2, hc, ec', ef⟩ => ?_
  subst ez
  obtain ⟨w1, w2, rfl, rw1, rw2⟩ := r2.two
  cases rw1
  cases rw2
  have nP : ∀ b o, H1 b = some o → (∀ ps, o ≠ .tbl ps) → b ≠ P := fun b o e n z => by
    obtain ⟨ps, eP, _⟩ := tab
    rw [z, eP] at e
    exact n ps (Option.some.inj e).symm
  have el2 := b2 _ _ (nP _ _ el fun _ z => by cases z) el
  have ed2 := b2 _ _ (nP _ _ ed fun _ z => by cases z) ed
  obtain ⟨z, its, ep, r', hlen, e'⟩ := I2.lstM el2
  obtain ⟨hit, hval⟩ := vals_ints_of r'
  obtain ⟨zd, hsm, dvs, kv, dd⟩ := dk_rd I2.hok (.inl ed2)
  have hfo := lamO_get (I2.hok _ _ ef)
  have hco := codO_rec (I2.hok _ _ ec')
  obtain ⟨m, hmn, hlk⟩ := I2.loc
  obtain ⟨ud, rud, lk⟩ := hlk j dn (.ref d) hNj eσ2 hvj
  cases rud
  have hcellv : s2.heap.IsCell c (some (.ref d)) := by
    rcases lk with ⟨hk1, _⟩ | ⟨_, cc, hcc, hcv⟩
    · rw [show X.env.kindOf dn = some .cell from hkj] at hk1; cases hk1
    · rw [hc] at hcc; cases hcc; exact hcv
  have hL : s2.heap.IsList l its.toArray := ⟨_, e', rfl, _, rfl⟩
  refine So.sorted_key (rk := fun v => (pr (intOf v), intOf v)) (B := 1000) (b := true) (f := .ref f) hL (by rw [← hlen, List.length_map]; exact hz) (PyProof.Rows.ksk_s2 _ _ _) (fun x => PyProof.Rows.ksk_l2 _ _ _) (fun x => PyProof.Rows.ksk_t2 _ _ _) (fun v hv => ?_) (fun v hv hh tk kp => ?_) fun D h' tk out cc hD kp' hget hout => ?_
  · obtain ⟨n, t, rfl, hm⟩ := hval v hv
    exact ⟨(hn n hm).1, (hn n hm).2.1⟩
  · obtain ⟨n, t, rfl, hm⟩ := hval v hv
    obtain ⟨w', hw, rw'⟩ := RelO.some_of (v := .int (pr n)) (o := valueAt dvs (Sum.inl n : Key)) (by rw [← (hn n hm).2.2]; exact kv.val _)
    obtain ⟨t', rfl⟩ := rw'
    obtain ⟨od, es, epo, hod, rr⟩ := dd
    obtain ⟨c2, oc, cvs, tq, q1, q2, q3⟩ := hco
    refine lam_turn hpd hdn h1 h2 h3 (kp _ _ hfo) hbd ⟨c2, oc, cvs, tq, q1, kp _ _ q2, q3⟩ (hcellv.keeps kp) ⟨od, es, epo, kp _ _ hod, rr⟩ hw (I2.nolimit.keeps kp) ?_
    have := hr.dp
    show X.A.depth < _
    omega
  · have hvo : ∀ v ∈ out.toList, ∃ n t, v = Value.int n t := fun v hv => by
      obtain ⟨n, t, e, _⟩ := hval v (hout.1.mem_iff.mp hv)
      exact ⟨n, t, e⟩
    have hlo : out.toList.length = its.length := hout.1.length_eq
    have zD : H2 D = none := I2.hok.fresh hD
    have J := I2.kept (t' := tk) kp'
    have hz2 : its.length ≤ sizeLine := by rw [← hlen]; exact z
    have new : ObjOk X.prog X.w (upd H2 D (.lst ((out.toList.map intOf).map V.int))) h' D (.lst ((out.toList.map intOf).map V.int)) := ⟨by rw [List.length_map, List.length_map, hlo]; exact hz2, out.toList, cc, vals_intOf hvo, hget⟩
    have J2 : Inv X pins σ (upd H2 D (.lst ((out.toList.map intOf).map V.int))) { s2 with heap := h', toks := tk } := I2.laid kp' hD new
    have nDP : P ≠ D := fun z => by
      obtain ⟨ps, eP, _⟩ := tab2
      rw [z, zD] at eP
      cases eP
    refine ⟨.ref D, _, J2, rfl, h D (out.toList.map intOf) _ (fun b o nb e => ?_) ?_ ?_ upd_same ?_ ?_⟩
    · have e2 := b2 b o nb e
      rw [upd_ne (ne_of_none e2 zD)]
      exact e2
    · obtain ⟨ps, eP, tr, hit2⟩ := tab2
      refine ⟨ps, by rw [upd_ne nDP]; exact eP, tr, ?_⟩
      rcases hit2 with hit2 | ⟨c3, q1, q2⟩
      · exact .inl hit2
      · exact .inr ⟨c3, q1, by rw [upd_ne (ne_of_none q2 zD)]; exact q2⟩
    · cases q : H1 D with
      | none => rfl
      | some o =>
        by_cases hp : D = P
        · exact absurd hp.symm nDP
        · rw [b2 D o hp q] at zD; cases zD
    · have := hout.1.map intOf
      rw [hit] at this
      exact this
    · rw [List.pairwise_map]
      exact hout.2.imp fun {p q} h => by simpa [So.rank] using h
end
end L2

set_option Elab.async false
set_option linter.all false
set_option maxRecDepth 100000
set_option maxHeartbeats 2000000
namespace L2
open PySem PySem.Spec PyProof.Rows
/-! ### the entry, with the table of a def that makes lambdas -/
theorem law_callT {P : Program} {w : World} {K : PySem.W.Frag} {mg mb : Str → Option Value} {CX : CXT} {k : Nat} {fa a c T : Addr} {fd : FuncData} {x : Str} {sp : Sp} {s₁ : Shared} {vs : List Value} {ns : List Int}
    (KX : K.In s₁.heap) (hns : s₁.heap.Ns mainGlobals mg) (hb : s₁.heap.Ns builtinsNs mb) (hbb : ∀ x : Str, x ≠ "__name__" → mb x = bootBuiltins x) (hlim : s₁.heap.NoLimit) (hg : s₁.gens = #[])
    (ha : s₁.heap.get? a = some { cls := .type "list", data := .seq vs.toArray }) (hi : IntsAre vs ns) (hl : ns.length ≤ sizeLine) (hr : Room k callerA)
    (hC : PySem.W.CodeHd s₁.heap c T) (hT : s₁.heap.get? T = some (PySem.W.tabObj #[])) (hnt : PySem.W.noTabs K = true) (hB : BltAt mg s₁.heap)
    (F : ∀ base : Heap, K.In base → base.Ns mainGlobals mg → PySem.W.CodeHd base c T → BltAt mg base → FnOk P w K mg base CX k fa fd [x] sp) (hbind : ∀ (s : Shared) (u : Value), BindsTo s fd ⟨[u], []⟩ [(x, u)])
    (hsp : ∀ H : Hp, Scr K H a ns → H T = some (.tbl #[]) → sp [.ref a] H (fun v _ => v = .bl true) fun _ _ _ => False)
    (hCX : ∀ H e s', CX [] H s₁ (fun _ _ _ => False) e s' → False) :
    codeAny (model P w) callerA (.call (.ref fa) ⟨[.ref a], []⟩) (fun r s' => r = .ok (.ret (.bool true)) ∧ OldK s₁.heap s'.heap ∧ s'.os = s₁.os ∧ AllBare s'.gens) s₁ := by
  have rv := vals_ints hi
  have lenV := hi.length
  have naT : a ≠ T := fun z => by rw [z, hT] at ha; cases ha
  have hKT : K.lookup T = none := by
    cases q : K.lookup T with
    | none => rfl
    | some o =>
      have e := KX T o q
      rw [hT] at e
      cases e
      have h2 := List.all_eq_true.mp hnt (T, PySem.W.tabObj #[]) (PySem.W.mem_of_lookupK q)
      exact absurd (show false = true from h2) Bool.false_ne_true
  -- from an abstract heap in which nothing but the script and the table may be tracked
  have core : ∀ H : Hp, Scr K H a ns → H T = some (.tbl #[]) → (∀ b u, H b = some u → b = T ∨ (b = a ∧ ∃ o xs, u = .frz o (.lst xs))) → HOk P w H s₁.heap → (H a ≠ none → K.lookup a = none) →
      codeAny (model P w) callerA (.call (.ref fa) ⟨[.ref a], []⟩) (fun r s' => r = .ok (.ret (.bool true)) ∧ OldK s₁.heap s'.heap ∧ s'.os = s₁.os ∧ AllBare s'.gens) s₁ := by
    intro H hS eT hO hok hK
    have base_of : ∀ {b : Addr} {o : Obj}, s₁.heap.get? b = some o → H b = none → (hidT s₁.heap H).get? b = some o := fun e n => hidT_get e n
    have noA : ∀ {b : Addr} {o : Obj}, s₁.heap.get? b = some o → o.cls ≠ .type "list" → o.cls ≠ .none → H b = none := fun {b o} e d1 d2 => by
      cases q : H b with
      | none => rfl
      | some u =>
        rcases hO b u q with z | ⟨z, _⟩
        · rw [z, hT] at e; cases e; exact absurd rfl d2
        · rw [z, ha] at e; cases e; exact absurd rfl d1
    have noD : ∀ {b : Addr} {o : Obj} {es : Array DictEntry} {ep : Nat}, s₁.heap.get? b = some o → o.data = .dict es ep → H b = none := fun {b o es ep} e d => by
      cases q : H b with
      | none => rfl
      | some u =>
        rcases hO b u q with z | ⟨z, _⟩
        · rw [z, hT] at e; cases e; cases d
        · rw [z, ha] at e; cases e; cases d
    have nsK : ∀ {b : Addr} {m : Str → Option Value}, s₁.heap.Ns b m → (hidT s₁.heap H).Ns b m := fun {b m} ⟨o, es, ep, e, d, r⟩ => ⟨o, es, ep, base_of e (noD e d), d, r⟩
    have hKb : K.In (hidT s₁.heap H) := fun b o e => base_of (KX b o e) (by
      cases q : H b with
      | none => rfl
      | some u =>
        rcases hO b u q with z | ⟨z, _⟩
        · rw [z, hKT] at e; cases e
        · subst z; rw [hK (by rw [q]; simp)] at e; cases e)
    have hM : Mod K mg (hidT s₁.heap H) := ⟨hKb, nsK hns, ⟨mb, nsK hb, hbb⟩, let ⟨mc, h1, h2⟩ := hlim; ⟨mc, nsK h1, h2⟩⟩
    have hC2 : PySem.W.CodeHd (hidT s₁.heap H) c T := by
      obtain ⟨o, fvs, file, tf, flags, tg, inF, text, tt, e1, r1, r⟩ := hC
      exact ⟨o, fvs, file, tf, flags, tg, inF, text, tt, base_of e1 (noA e1 (by rw [r1]; decide) (by rw [r1]; intro z; cases z)), r1, r⟩
    have hB2 : BltAt mg (hidT s₁.heap H) := by
      obtain ⟨bm, o, b1, b2, b3, b4, b5, b6⟩ := hB.ex
      exact ⟨bm, o, b1, b2, b3, base_of b4 (noA b4 (by rw [b5]; decide) (by rw [b5]; intro z; cases z)), b5, b6⟩
    have e0 : Env0 P w K mg (hidT s₁.heap H) callerA [] s₁ H := ⟨rfl, hM, fun b o e => of_hidT e, Nat.le_of_eq (hidT_size _ _), trivial, fun b hb => absurd (show b ∈ ([] : List Addr) from hb) (by simp), hok, .of_eq hg⟩
    refine codeAny_mono ((F _ hKb (nsK hns) hC2 hB2).run callerA [] s₁ H ⟨[.ref a], []⟩ [.ref a] [.ref a] _ _ hr e0 (hbind s₁ (.ref a)) (.cons rfl .nil) (hsp H hS eT)) fun r s' h => ?_
    cases r with
    | error e => exact (hCX H e s' h).elim
    | ok fl =>
      cases fl with
      | next => exact False.elim h
      | brk => exact False.elim h
      | cont => exact False.elim h
      | ret u =>
        obtain ⟨v, H', os, bare, un, hok', r', q⟩ := h
        have q' : v = .bl true := q
        subst q'
        obtain rfl : u = Value.bool true := r'
        have keep : ∀ b o, b ≠ T → s₁.heap.get? b = some o → s'.heap.get? b = some o := fun b o nb e => by
          cases q : H b with
          | none => exact un.keep b o e q (by intro z; exact absurd (show b ∈ ([] : List Addr) from z) (by simp)) (by simp)
          | some u =>
            rcases hO b u q with z | ⟨_, ob, xs, z⟩
            · exact absurd z nb
            · subst z
              have z2 := un.frzs b ob _ q
              obtain ⟨e1, _⟩ := hok b _ q
              obtain ⟨e2, _⟩ := hok' b _ z2
              rw [e] at e1; cases e1
              exact e2
        obtain ⟨more, eT'⟩ := un.tbls T _ eT
        have hT' : s'.heap.get? T = some { cls := .none, data := .fields (#[] ++ more) } := hok' T _ eT'
        refine ⟨rfl, ⟨fun b o e => ?_, fun b o e => ?_⟩, os, bare⟩
        · by_cases hbT : b = T
          · subst hbT
            rw [hT] at e
            cases e
            exact .inr (.inl ⟨(hC.tab hT).isCodeTable, rfl, #[], more, rfl, hT'⟩)
          · exact .inl (keep b o hbT e)
        · by_cases hbT : b = T
          · rw [hbT]; exact ⟨_, hT'⟩
          · exact ⟨o, keep b o hbT e⟩
  cases hk : K.lookup a with
  | some o =>
    have e := KX a o hk
    rw [ha] at e
    cases e
    refine core (fun b => if b = T then some (.tbl #[]) else none) (.inr ⟨_, vs.toArray, _, hk, rfl, rfl, rfl, by rw [List.size_toArray, lenV]; exact hl, by simpa using rv⟩) (if_pos rfl) (fun b u z => ?_) (fun b u z => ?_) fun z => absurd (if_neg naT) z
    · by_cases hbT : b = T
      · exact .inl hbT
      · have z' := (if_neg hbT).symm.trans z
        cases z'
    · by_cases hbT : b = T
      · have z' := (if_pos hbT).symm.trans z
        cases z'
        rw [hbT]
        exact hT
      · have z' := (if_neg hbT).symm.trans z
        cases z'
  | none =>
    have hHa : (fun b => if b = T then some (HO.tbl #[]) else if b = a then some (.frz { cls := .type "list", data := .seq vs.toArray } (.lst (ns.map V.int))) else none) a = some (.frz { cls := .type "list", data := .seq vs.toArray } (.lst (ns.map V.int))) := by
      show (if a = T then some (HO.tbl #[]) else if a = a then _ else none) = _
      rw [if_neg naT, if_pos rfl]
    refine core (fun b => if b = T then some (.tbl #[]) else if b = a then some (.frz { cls := .type "list", data := .seq vs.toArray } (.lst (ns.map V.int))) else none) (.inl ⟨_, hHa⟩) (if_pos rfl) (fun b u z => ?_) (fun b u z => ?_) fun _ => hk
    · by_cases hbT : b = T
      · exact .inl hbT
      · have z' := (if_neg hbT).symm.trans z
        by_cases hba : b = a
        · have z2 := (if_pos hba).symm.trans z'
          cases z2
          exact .inr ⟨hba, _, _, rfl⟩
        · have z2 := (if_neg hba).symm.trans z'
          cases z2
    · by_cases hbT : b = T
      · have z' := (if_pos hbT).symm.trans z
        cases z'
        rw [hbT]
        exact hT
      · have z' := (if_neg hbT).symm.trans z
        by_cases hba : b = a
        · have z2 := (if_pos hba).symm.trans z'
          cases z2
          rw [hba]
          exact ⟨ha, by rw [List.length_map]; exact hl, vs, _, rv, ha⟩
        · have z2 := (if_neg hba).symm.trans z'
          cases z2
theorem walk_ofT {l : PySem.W.OpenLaw} {n k : Nat} {q : Program} {loose : List Str} {XP : (Str → Option Value) → Heap → Prop} {YP : World → Heap → Prop} {d : DefRec} {K : Params → PySem.W.Frag} {CX : World → CXT} {sp : World → Addr → Sp} {x tn : Str}
    (hn : l.most = some n) (hn2 : n ≤ sizeLine) (hdf : d.params.defaults = []) (hr : Room k callerA)
    (hY : ∀ (w : World) (h : Heap), YP w h → (K w.params).In h) (hrec : ((PyProof.Rows.recsOf q).find? fun e => e.name == tn).isSome = true) (hnt : ∀ w : World, PySem.W.noTabs (K w.params) = true)
    (F : ∀ (w : World) (mg : Str → Option Value) (fa : Addr) (h : Heap), (K w.params).In h → h.Ns mainGlobals mg → mg d.name = some (.ref fa) →
      ∃ (fd : FuncData) (c T : Addr), PySem.W.tabIn (K w.params) tn = some (c, T) ∧ (∀ (s : Shared) (u : Value), BindsTo s fd ⟨[u], []⟩ [(x, u)]) ∧
        ∀ base : Heap, (K w.params).In base → base.Ns mainGlobals mg → PySem.W.CodeHd base c T → BltAt mg base → FnOk l.prog w (K w.params) mg base (CX w) k fa fd [x] (sp w T))
    (hsp : ∀ (w : World) (H : Hp) (a T : Addr) (ns : List Int), ns.length ≤ n → Scr (K w.params) H a ns → H T = some (.tbl #[]) → sp w T [.ref a] H (fun v _ => v = .bl true) fun _ _ _ => False)
    (hCX : ∀ (w : World) (H : Hp) (s : Shared) (e : Value) (s' : Shared), CX w [] H s (fun _ _ _ => False) e s' → False) :
    PySem.W.WalkO q loose XP YP l.row.toRowW d [] (fun f vs => PySem.call f vs) := by
  refine Att.attach_call hn hdf fun w s₀ s₁ mg mb fa o pm cd doc a vs ns G Y ho hd hcd hmg hobj hints hlen hg => ?_
  have KX := hY w _ Y
  obtain ⟨fd, c, T, ht, hb, hF⟩ := F w mg fa _ KX G.T.g hmg
  obtain ⟨dr, hdr⟩ := Option.isSome_iff_exists.mp hrec
  obtain ⟨hC, hT⟩ := PySem.W.tab_of G.T KX hdr ht
  have hB : BltAt mg s₁.heap := by
    obtain ⟨bm, ob, b1, b2, b3, b4, b5⟩ := G.T.bmain
    have hbG : bm ≠ mainGlobals := fun q => by
      obtain ⟨o, es, ep, e, hd, _⟩ := G.T.g
      rw [q, e] at b3; cases b3; rw [hd] at b5; cases b5.2
    exact ⟨bm, ob, b1, b2, hbG, b3, b4, b5⟩
  exact law_callT KX G.T.g G.T.b G.T.builtins G.T.nolimit hg hobj hints (Nat.le_trans hlen hn2) hr hC hT (hnt w) hB hF hb (fun H hS hTT => hsp w H a T ns hlen hS hTT) fun H e s' => hCX w H s₁ e s'
/-- a def whose code object is known -/
theorem Fun.okC {P : Program} {w : World} {K : PySem.W.Frag} {mg : Str → Option Value} {base : Heap} {x qual : Str} {st : Stmt} {f : Addr} {fd : FuncData} {N ps : List Str} {k : Nat} {sp : Sp} (F : Fun K x qual st f fd) (S : FnScope N ps (defScope st)) (len : ∀ vs H Q E, sp vs H Q E → vs.length = ps.length)
    (hbody : ∀ (A : Around) (outer : List Env) (s : Shared) (H : Hp) (vs : List V) (Q : VK) (E : XK), Room k (A.deeper (envOfC qual (defScope st) s.heap.objs.size f fd.code)) → sp vs H Q E →
      ∃ t, PSs (cxOf CX0 P w K mg base N qual (defScope st) f fd.code A outer s H E).nox (defBody st) t ∧ t { nx := fun _ H' => Q .non H', rt := Q } (start N vs) H) : FnOk P w K mg base CX0 (k + 1) f fd ps sp := by
  obtain ⟨oc, od, kV, doc, pm, an, cdv, ct, osl, rfl, lk, hcd⟩ := F.ex
  refine fn_of lk hcd S len fun A outer s H vs Q E hr hsp => ?_
  obtain ⟨t, h, q⟩ := hbody A outer s H vs Q E hr hsp
  exact ⟨t, h.nox, q⟩
end L2

set_option Elab.async false
set_option linter.all false
set_option maxRecDepth 100000
set_option maxHeartbeats 2000000
namespace L2
open PySem PySem.Spec PyProof.Rows
/-! ### xs.remove(y) -/
theorem rm_loop {l : Addr} {ys : Array Value} {ep : Nat} {x : Value} {e : Value → Bool} {j : Nat} (hj : j < ys.size) (hit : e ys[j] = true) (hz : ys.size ≤ sizeLine) : ∀ (k i : Nat), j - i = k → i ≤ j → (∀ m (hm : m < ys.size), i ≤ m → m < j → e ys[m] = false) →
    Meets (Builtin.«list.remove.loop» ⟨[.ref l, x, rawInt i], []⟩) (fun A R s => s.heap.get? l = some { cls := .type "list", data := .seq ys ep } ∧ (∀ y, y ∈ ys → SeqAt.EqAt A.in1 s y x (e y)) ∧ R (.ok (.ret .none)) { s with heap := s.heap.update l (Obj.mapSeq fun zs => zs.eraseIdxIfInBounds j) })
  | 0, i, hk, hij, hno => by
    intro prog w A R s h
    obtain ⟨hp, g, dr, tk, os⟩ := s
    obtain ⟨hl, he, h⟩ := h
    obtain rfl : i = j := by omega
    wp_walk using wpAny_loadPart' hl
    rw [show ys[((i : Nat) : Int).toNat]? = some ys[i] by simp [hj]]
    refine wpAny_bind (he _ (Array.getElem_mem hj) prog w _ _ ?_)
    rw [hit]
    have hz2 : (ys.eraseIdxIfInBounds i).size ≤ sizeLine + 1 := Nat.le_trans (MeetsSeq.size_erased ys _) (Nat.le_succ_of_le hz)
    wp_walk using (wpAny_updateSeq hl rfl (hz := hz) (_hz' := hz2)), wpAny_loadPart' hl
    simpa using h
  | k + 1, i, hk, hij, hno => by
    intro prog w A R s h
    obtain ⟨hp, g, dr, tk, os⟩ := s
    obtain ⟨hl, he, h⟩ := h
    have hi : i < ys.size := by omega
    wp_walk using wpAny_loadPart' hl
    rw [show ys[((i : Nat) : Int).toNat]? = some ys[i] by simp [hi]]
    refine wpAny_bind (he _ (Array.getElem_mem hi) prog w _ _ ?_)
    rw [hno i hi (Nat.le_refl _) (by omega)]
    wp_walk
    rw [show ((i : Int) + 1) = ((i + 1 : Nat) : Int) by omega]
    exact ⟨plainId_quiet MeetsSeq.plain_remove_loop _, codeAny_builtin MeetsSeq.entry_remove_loop (by
      rw [Around.under_plainId MeetsSeq.plain_remove_loop _]
      exact rm_loop hj hit hz k (i + 1) (by omega) (by omega) (fun m hm a b => hno m hm (by omega) b) prog w A R _ ⟨hl, he, h⟩)⟩
theorem rm_list {l : Addr} {ys : Array Value} {ep : Nat} {x : Value} {e : Value → Bool} {j : Nat} (hj : j < ys.size) (hit : e ys[j] = true) (hz : ys.size ≤ sizeLine) (hno : ∀ m (hm : m < ys.size), m < j → e ys[m] = false) :
    Meets (Builtin.«list.remove» ⟨[.ref l, x], []⟩) (fun A R s => s.heap.get? l = some { cls := .type "list", data := .seq ys ep } ∧ (∀ y, y ∈ ys → SeqAt.EqAt A.in1 s y x (e y)) ∧ R (.ok (.ret .none)) { s with heap := s.heap.update l (Obj.mapSeq fun zs => zs.eraseIdxIfInBounds j) }) := by
  intro prog w A R s h
  obtain ⟨hp, g, dr, tk, os⟩ := s
  obtain ⟨hl, he, h⟩ := h
  wp_walk using wpAny_loadPart' hl
  exact ⟨plainId_quiet MeetsSeq.plain_remove_loop _, codeAny_builtin MeetsSeq.entry_remove_loop (by
    rw [Around.under_plainId MeetsSeq.plain_remove_loop _]
    exact rm_loop hj hit hz _ 0 rfl (Nat.zero_le _) (fun m hm _ b => hno m hm b) prog w A R _ ⟨hl, he, h⟩)⟩
def fRemoveD : V → List V → Hp → VK → Prop := fun x vs H Q => ∃ (l : Addr) (xs : List V) (cs : List Dt) (y : V) (d : Dt) (j : Nat), x = .ref l ∧ vs = [y] ∧ H l = some (.lst xs) ∧ Reps H cs xs ∧ Rep H d y ∧ depPs cs ≤ 20 ∧ (cs[j]?.map fun c => eqP c d) = some true ∧ (∀ m c, m < j → cs[m]? = some c → eqP c d = false) ∧ Q .non (upd H l (.lst (xs.eraseIdx j)))
theorem vals_erase : ∀ {xs : List V} {us : List Value} (j : Nat), Vals xs us → Vals (xs.eraseIdx j) (us.eraseIdx j)
  | [], [], _, _ => .nil
  | x :: xs, u :: us, 0, .cons r t => t
  | x :: xs, u :: us, j + 1, .cons r t => .cons r (vals_erase j t)
section
variable {X : Cx}
theorem q_removeD (hu : X.A.units + 64 < cLine) : MtR X "list.remove" fRemoveD := by
  intro pins s σ H x vs v us Q I rx rv h
  obtain ⟨l, xs, cs, y, d, j, rfl, rfl, el, rc, rd, hd, hj, hno, q⟩ := h
  cases rx
  obtain ⟨u, rfl, ru⟩ := rv.one
  obtain ⟨z, its, n, r, hlen, e⟩ := I.lstM el
  have hits := in_items hu I rd ru rc r hd
  have hcl := rc.len
  obtain ⟨c, hc, hce⟩ := Option.map_eq_some_iff.mp hj
  have hjl : j < cs.length := (List.getElem?_eq_some_iff.mp hc).1
  have key : ∀ (m : Nat) (hm : m < its.toArray.size) (c : Dt), cs[m]? = some c → eqW H d its.toArray[m] = eqP c d := fun m hm c hc => by
    have hm2 : m < its.length := by simpa using hm
    have hm3 : m < xs.length := by omega
    obtain ⟨u', e1, q1⟩ := r.get (i := m) (x := xs[m]) (List.getElem?_eq_getElem hm3)
    obtain ⟨c2, f1, g1⟩ := rc.at (i := m) (List.getElem?_eq_getElem hm3)
    rw [hc] at f1
    cases f1
    rw [List.getElem?_eq_getElem hm2] at e1
    cases e1
    exact eqW_of q1 g1
  have hj2 : j < its.toArray.size := by rw [List.size_toArray]; omega
  refine call_meets F.slot_list_remove ⟨_, e, rfl⟩ F.entry_list_remove (F.args_list_remove_2 _ _) (rm_list (ep := n) (e := eqW H d) hj2 (by rw [key j hj2 c hc]; exact hce) (by rw [List.size_toArray]; omega) (fun m hm hmj => ?_)) ⟨e, ?_, ?_⟩
  · have hmc : m < cs.length := by omega
    rw [key m hm _ (List.getElem?_eq_getElem hmc)]
    exact hno m _ hmj (List.getElem?_eq_getElem hmc)
  · exact hits
  · refine ⟨.non, _, I.lset (its' := its.eraseIdx j) el e ?_ (vals_erase j r) ?_, rfl, q⟩
    · rw [List.eraseIdxIfInBounds_toArray]
    · rw [List.length_eraseIdx]
      split <;> omega
end
end L2

set_option Elab.async false
set_option linter.all false
set_option maxRecDepth 100000
set_option maxHeartbeats 4000000
namespace My
open PySem L2
theorem sl0 : (0 ≤ sizeLine) = True := eq_true (by decide)
theorem sl1 : (1 ≤ sizeLine) = True := eq_true (by decide)
theorem sl2 : (2 ≤ sizeLine) = True := eq_true (by decide)
theorem sl3 : (3 ≤ sizeLine) = True := eq_true (by decide)
theorem sl4 : (4 ≤ sizeLine) = True := eq_true (by decide)
theorem szl' {n : Nat} (h : n ≤ 1000) : n < sizeLine := Nat.lt_of_le_of_lt h (by decide)
def top (i : Nat) : Stmt := PySem.Challenge.pw_touchall_k11_whole_made_lean.main.body.getD i (.Pass ⟨0, 0, 0, 0⟩)
/-- a def as it stands behind the top -/
structure DefAt (K : PySem.W.Frag) (mg : Str → Option Value) (x : Str) (st : Stmt) (ps : List Str) (f : Addr) (fd : FuncData) : Prop where
  F : Fun K x x st f fd
  b : Binds K fd ps []
  m : mg x = some (.ref f)
/-- built-in names that the text leaves as they are -/
structure Blt (mg : Str → Option Value) : Prop where
  len : mg "len" = none
  isinstance : mg "isinstance" = none
  all : mg "all" = none
  min : mg "min" = none
  list : mg "list" = none
  dict : mg "dict" = none
  int : mg "int" = none
  bool : mg "bool" = none
  str : mg "str" = none
  tuple : mg "tuple" = none
  range : mg "range" = none
  enumerate : mg "enumerate" = none
  zip : mg "zip" = none
  max : mg "max" = none
  any : mg "any" = none
  sum : mg "sum" = none
  sorted : mg "sorted" = none
/-- the text's own numbers -/
structure Cst (mg : Str → Option Value) (t1 t2 t3 t4 : Tok) : Prop where
  MOST_PLACES : mg "MOST_PLACES" = some (.int 40 t1)
  MOST_TIES : mg "MOST_TIES" = some (.int 120 t2)
  LAST_PLACE : mg "LAST_PLACE" = some (.int 999 t3)
  MOST_PRICE : mg "MOST_PRICE" = some (.int 1000000000000 t4)
section
variable {P : Program} {w : World} {K : PySem.W.Frag} {mg : Str → Option Value} {base : Heap} {c1 c2 c3 c4 : Tok}
theorem at0 {α : Type} {x : α} {r : List α} : atI (x :: r) 0 = some x := by
  have e : atI (x :: r) ((0 : Nat) : Int) = some x := atI_nat rfl
  exact e
theorem at1 {α : Type} {x y : α} {r : List α} : atI (x :: y :: r) 1 = some y := by
  have e : atI (x :: y :: r) ((1 : Nat) : Int) = some y := atI_nat rfl
  exact e
theorem at2 {α : Type} {x y z : α} {r : List α} : atI (x :: y :: z :: r) 2 = some z := by
  have e : atI (x :: y :: z :: r) ((2 : Nat) : Int) = some z := atI_nat rfl
  exact e
def wholeK : Kd → Bool
  | .int => true
  | _ => false
def spWhole : Sp := fun vs H Q _ => ∃ x k, vs = [x] ∧ kd H x = some k ∧ Q (.bl (wholeK k)) H
/-- a tuple of many -/
def spTupleOf : Sp := fun vs H Q _ => ∃ a xs m, vs = [.ref a, .int m] ∧ H a = some (.tup xs) ∧ Q (.bl (decide ((xs.length : Int) = m))) H
def spListUpTo : Sp := fun vs H Q _ => ∃ a xs m, vs = [.ref a, .int m] ∧ H a = some (.lst xs) ∧ Q (.bl (decide ((xs.length : Int) ≤ m))) H
def spPair : Sp := fun vs H Q _ => ∃ x p, vs = [x] ∧ Pr H x p ∧ Q (.bl true) H
def spPlaceStands : Sp := fun vs H Q _ => ∃ x p l s, vs = [x, .int l, .int s] ∧ Pr H x p ∧ (l < p.1 ∧ p.1 ≤ 999 ∧ 1 ≤ p.2 ∧ p.2 ≤ 1000000000000 - s) ∧ Q (.bl true) H
def hasK (kvs : List (Key × V)) (n : Int) : Bool := (valV kvs (Sum.inl n : Key)).isSome
def spTieStands : Sp := fun vs H Q _ => ∃ x p y q d kvs, vs = [x, y, .ref d] ∧ Pr H x p ∧ Pr H y q ∧ H d = some (.dK kvs) ∧ (HT.lexLt [q.1, q.2] [p.1, p.2] = true ∧ p.1 < p.2 ∧ hasK kvs p.1 = true ∧ hasK kvs p.2 = true) ∧ Q (.bl true) H
theorem ok_is_whole {f : Addr} {fd : FuncData}  (B : Blt mg) (D : DefAt K mg "is_whole" (top 5) ["thing"] f fd) : FnOk P w K mg base CX0 1 f fd ["thing"] spWhole := by
  have sc : FnScope ["thing"] ["thing"] (defScope (top 5)) := ⟨rfl, rfl, rfl, by decide +kernel, rfl, by decide +kernel, by decide +kernel⟩
  refine D.F.ok sc (fun vs H Q E h => ?_) (fun cdv A outer s H vs Q E hr h => ?_)
  · obtain ⟨x, k, rfl, _⟩ := h
    rfl
  obtain ⟨x, k, rfl, ek, h⟩ := h
  have hu := hu_of hr
  have hu0 : _ < PySem.cLine := Nat.lt_of_succ_lt hu
  refine ⟨_, (pss_one (ps_ret (q_and (pe_callB (q_isi .int) rfl B.isinstance PyProof.Rows.boot_isinstance (pa_cons (qv 0) (pa_cons (pe_bltn (v := .ty "int") rfl B.int PyProof.Rows.boot_int rfl) pa_nil))) (pe_one (q_not (pe_callB (q_isi .bl) rfl B.isinstance PyProof.Rows.boot_isinstance (pa_cons (qv 0) (pa_cons (pe_bltn (v := .ty "bool") rfl B.bool PyProof.Rows.boot_bool rfl) pa_nil)))))))), ?_⟩
  try simp only [fInsS, fIsB, tSeq, tNext, tDrop, tRet, tRetN, tIfS, tAsg, gName, fAug, tOp, tUn, tC, fVar, fI, fIC, fNeg, fEq, fNe, fIsN, isNon, fAnd, fOr, fNot, fB, tNot, tAnd, tOr, fChain, fIx, fLen, fListOf, fMin, fMax, fInL, fSlL, tSl, fPart, tNoPart, fAppend, fBM, fSetL, gSub, fGNil, fGCons, fGTup, fGLst, fDGet2, sDPutF, tDNewK, fCat, fClear, fBM0, fSlT, fInt1, tCBK, fDIn, fDGet, fIsi, fBools, fDictL, fLtT, tCall, tCB, tCons, tNil, tTup, tLst, tIf, tTrue, Kd.nm, L2.start, List.map_cons, List.map_nil, List.length_cons, List.length_nil, Nat.reduceAdd, Nat.reduceSub, List.replicate_succ, List.replicate_zero, List.getElem?_cons_zero, List.getElem?_cons_succ, List.set_cons_zero, List.set_cons_succ, List.append_nil, List.nil_append, List.cons_append, eq_self, true_and, and_true, if_true, Bool.false_eq_true, if_false, Bool.not_true, Bool.not_false, id_eq, sl0, sl1, sl2, sl3, sl4, ek]
  cases k <;> simpa only [isi, wholeK, if_true, if_false, Bool.false_eq_true, Bool.not_true, Bool.not_false] using h
theorem ok_is_tuple_of {f : Addr} {fd : FuncData}  (B : Blt mg) (D : DefAt K mg "is_tuple_of" (top 6) ["thing", "many"] f fd) : FnOk P w K mg base CX0 1 f fd ["thing", "many"] spTupleOf := by
  have sc : FnScope ["thing", "many"] ["thing", "many"] (defScope (top 6)) := ⟨rfl, rfl, rfl, by decide +kernel, rfl, by decide +kernel, by decide +kernel⟩
  refine D.F.ok sc (fun vs H Q E h => ?_) (fun cdv A outer s H vs Q E hr h => ?_)
  · obtain ⟨a, xs, m, rfl, _⟩ := h
    rfl
  obtain ⟨a, xs, m, rfl, ea, h⟩ := h
  have hu := hu_of hr
  have hu0 : _ < PySem.cLine := Nat.lt_of_succ_lt hu
  refine ⟨_, (pss_one (ps_ret (q_and (pe_callB (q_isi .tup) rfl B.isinstance PyProof.Rows.boot_isinstance (pa_cons (qv 0) (pa_cons (pe_bltn (v := .ty "tuple") rfl B.tuple PyProof.Rows.boot_tuple rfl) pa_nil))) (pe_one (pe_cmpR q_eq (pe_callB q_len rfl B.len PySem.boot_len (pa_cons (qv 0) pa_nil)) (qv 1) (nomark _)))))), ?_⟩
  try simp only [fInsS, fIsB, tSeq, tNext, tDrop, tRet, tRetN, tIfS, tAsg, gName, fAug, tOp, tUn, tC, fVar, fI, fIC, fNeg, fEq, fNe, fIsN, isNon, fAnd, fOr, fNot, fB, tNot, tAnd, tOr, fChain, fIx, fLen, fListOf, fMin, fMax, fInL, fSlL, tSl, fPart, tNoPart, fAppend, fBM, fSetL, gSub, fGNil, fGCons, fGTup, fGLst, fDGet2, sDPutF, tDNewK, fCat, fClear, fBM0, fSlT, fInt1, tCBK, fDIn, fDGet, fIsi, fBools, fDictL, fLtT, tCall, tCB, tCons, tNil, tTup, tLst, tIf, tTrue, Kd.nm, L2.start, List.map_cons, List.map_nil, List.length_cons, List.length_nil, Nat.reduceAdd, Nat.reduceSub, List.replicate_succ, List.replicate_zero, List.getElem?_cons_zero, List.getElem?_cons_succ, List.set_cons_zero, List.set_cons_succ, List.append_nil, List.nil_append, List.cons_append, eq_self, true_and, and_true, if_true, Bool.false_eq_true, if_false, Bool.not_true, Bool.not_false, id_eq, sl0, sl1, sl2, sl3, sl4, kd, ea, seqOf, isi]
  exact h
theorem ok_is_list_up_to {f : Addr} {fd : FuncData}  (B : Blt mg) (D : DefAt K mg "is_list_up_to" (top 8) ["thing", "most"] f fd) : FnOk P w K mg base CX0 1 f fd ["thing", "most"] spListUpTo := by
  have sc : FnScope ["thing", "most"] ["thing", "most"] (defScope (top 8)) := ⟨rfl, rfl, rfl, by decide +kernel, rfl, by decide +kernel, by decide +kernel⟩
  refine D.F.ok sc (fun vs H Q E h => ?_) (fun cdv A outer s H vs Q E hr h => ?_)
  · obtain ⟨a, xs, m, rfl, _⟩ := h
    rfl
  obtain ⟨a, xs, m, rfl, ea, h⟩ := h
  have hu := hu_of hr
  have hu0 : _ < PySem.cLine := Nat.lt_of_succ_lt hu
  refine ⟨_, (pss_one (ps_ret (q_and (pe_callB (q_isi .lst) rfl B.isinstance PyProof.Rows.boot_isinstance (pa_cons (qv 0) (pa_cons (pe_bltn (v := .ty "list") rfl B.list PyProof.Rows.boot_list rfl) pa_nil))) (pe_one (pe_cmpR q_le (pe_callB q_len rfl B.len PySem.boot_len (pa_cons (qv 0) pa_nil)) (qv 1) (nomark _)))))), ?_⟩
  try simp only [fInsS, fIsB, tSeq, tNext, tDrop, tRet, tRetN, tIfS, tAsg, gName, fAug, tOp, tUn, tC, fVar, fI, fIC, fNeg, fEq, fNe, fIsN, isNon, fAnd, fOr, fNot, fB, tNot, tAnd, tOr, fChain, fIx, fLen, fListOf, fMin, fMax, fInL, fSlL, tSl, fPart, tNoPart, fAppend, fBM, fSetL, gSub, fGNil, fGCons, fGTup, fGLst, fDGet2, sDPutF, tDNewK, fCat, fClear, fBM0, fSlT, fInt1, tCBK, fDIn, fDGet, fIsi, fBools, fDictL, fLtT, tCall, tCB, tCons, tNil, tTup, tLst, tIf, tTrue, Kd.nm, L2.start, List.map_cons, List.map_nil, List.length_cons, List.length_nil, Nat.reduceAdd, Nat.reduceSub, List.replicate_succ, List.replicate_zero, List.getElem?_cons_zero, List.getElem?_cons_succ, List.set_cons_zero, List.set_cons_succ, List.append_nil, List.nil_append, List.cons_append, eq_self, true_and, and_true, if_true, Bool.false_eq_true, if_false, Bool.not_true, Bool.not_false, id_eq, sl0, sl1, sl2, sl3, sl4, kd, ea, seqOf, isi]
  exact h
theorem ok_is_pair_of_wholes {f : Addr} {fd : FuncData} {f_is_tuple_of : Addr} {d_is_tuple_of : FuncData} {f_is_whole : Addr} {d_is_whole : FuncData} (B : Blt mg) (D : DefAt K mg "is_pair_of_wholes" (top 7) ["thing"] f fd) (D_is_tuple_of : DefAt K mg "is_tuple_of" (top 6) ["thing", "many"] f_is_tuple_of d_is_tuple_of) (G_is_tuple_of : FnOk P w K mg base CX0 1 f_is_tuple_of d_is_tuple_of ["thing", "many"] spTupleOf) (D_is_whole : DefAt K mg "is_whole" (top 5) ["thing"] f_is_whole d_is_whole) (G_is_whole : FnOk P w K mg base CX0 1 f_is_whole d_is_whole ["thing"] spWhole) : FnOk P w K mg base CX0 2 f fd ["thing"] spPair := by
  have sc : FnScope ["thing"] ["thing"] (defScope (top 7)) := ⟨rfl, rfl, rfl, by decide +kernel, rfl, by decide +kernel, by decide +kernel⟩
  refine D.F.ok sc (fun vs H Q E h => ?_) (fun cdv A outer s H vs Q E hr h => ?_)
  · obtain ⟨x, p, rfl, _⟩ := h
    rfl
  obtain ⟨x, p, rfl, ⟨a, rfl, ea⟩, h⟩ := h
  have hu := hu_of hr
  have hu0 : _ < PySem.cLine := Nat.lt_of_succ_lt hu
  refine ⟨_, (pss_one (ps_ret (q_and (pe_call G_is_tuple_of (hr.mono (by decide)) rfl D_is_tuple_of.m D_is_tuple_of.F.kp D_is_tuple_of.b .nil pass0 (pa_cons (qv 0) (pa_cons pe_int pa_nil))) (q_and (pe_call G_is_whole (hr.mono (by decide)) rfl D_is_whole.m D_is_whole.F.kp D_is_whole.b .nil pass0 (pa_cons (pe_ix q_ix (qv 0) pe_int (fun _ _ => rfl)) pa_nil)) (pe_one (pe_call G_is_whole (hr.mono (by decide)) rfl D_is_whole.m D_is_whole.F.kp D_is_whole.b .nil pass0 (pa_cons (pe_ix q_ix (qv 0) pe_int (fun _ _ => rfl)) pa_nil))))))), ?_⟩
  try simp only [fInsS, fIsB, tSeq, tNext, tDrop, tRet, tRetN, tIfS, tAsg, gName, fAug, tOp, tUn, tC, fVar, fI, fIC, fNeg, fEq, fNe, fIsN, isNon, fAnd, fOr, fNot, fB, tNot, tAnd, tOr, fChain, fIx, fLen, fListOf, fMin, fMax, fInL, fSlL, tSl, fPart, tNoPart, fAppend, fBM, fSetL, gSub, fGNil, fGCons, fGTup, fGLst, fDGet2, sDPutF, tDNewK, fCat, fClear, fBM0, fSlT, fInt1, tCBK, fDIn, fDGet, fIsi, fBools, fDictL, fLtT, tCall, tCB, tCons, tNil, tTup, tLst, tIf, tTrue, Kd.nm, L2.start, List.map_cons, List.map_nil, List.length_cons, List.length_nil, Nat.reduceAdd, Nat.reduceSub, List.replicate_succ, List.replicate_zero, List.getElem?_cons_zero, List.getElem?_cons_succ, List.set_cons_zero, List.set_cons_succ, List.append_nil, List.nil_append, List.cons_append, eq_self, true_and, and_true, if_true, Bool.false_eq_true, if_false, Bool.not_true, Bool.not_false, id_eq, sl0, sl1, sl2, sl3, sl4, seqOf, ea, at0, at1]
  refine ⟨a, _, 2, rfl, ea, ?_⟩
  try simp only [fInsS, fIsB, tSeq, tNext, tDrop, tRet, tRetN, tIfS, tAsg, gName, fAug, tOp, tUn, tC, fVar, fI, fIC, fNeg, fEq, fNe, fIsN, isNon, fAnd, fOr, fNot, fB, tNot, tAnd, tOr, fChain, fIx, fLen, fListOf, fMin, fMax, fInL, fSlL, tSl, fPart, tNoPart, fAppend, fBM, fSetL, gSub, fGNil, fGCons, fGTup, fGLst, fDGet2, sDPutF, tDNewK, fCat, fClear, fBM0, fSlT, fInt1, tCBK, fDIn, fDGet, fIsi, fBools, fDictL, fLtT, tCall, tCB, tCons, tNil, tTup, tLst, tIf, tTrue, Kd.nm, L2.start, List.map_cons, List.map_nil, List.length_cons, List.length_nil, Nat.reduceAdd, Nat.reduceSub, List.replicate_succ, List.replicate_zero, List.getElem?_cons_zero, List.getElem?_cons_succ, List.set_cons_zero, List.set_cons_succ, List.append_nil, List.nil_append, List.cons_append, eq_self, true_and, and_true, if_true, Bool.false_eq_true, if_false, Bool.not_true, Bool.not_false, id_eq, sl0, sl1, sl2, sl3, sl4, seqOf, ea, at0, at1, Int.cast_ofNat_Int, decide_true]
  refine ⟨_, .int, rfl, rfl, ?_⟩
  try simp only [fInsS, fIsB, tSeq, tNext, tDrop, tRet, tRetN, tIfS, tAsg, gName, fAug, tOp, tUn, tC, fVar, fI, fIC, fNeg, fEq, fNe, fIsN, isNon, fAnd, fOr, fNot, fB, tNot, tAnd, tOr, fChain, fIx, fLen, fListOf, fMin, fMax, fInL, fSlL, tSl, fPart, tNoPart, fAppend, fBM, fSetL, gSub, fGNil, fGCons, fGTup, fGLst, fDGet2, sDPutF, tDNewK, fCat, fClear, fBM0, fSlT, fInt1, tCBK, fDIn, fDGet, fIsi, fBools, fDictL, fLtT, tCall, tCB, tCons, tNil, tTup, tLst, tIf, tTrue, Kd.nm, L2.start, List.map_cons, List.map_nil, List.length_cons, List.length_nil, Nat.reduceAdd, Nat.reduceSub, List.replicate_succ, List.replicate_zero, List.getElem?_cons_zero, List.getElem?_cons_succ, List.set_cons_zero, List.set_cons_succ, List.append_nil, List.nil_append, List.cons_append, eq_self, true_and, and_true, if_true, Bool.false_eq_true, if_false, Bool.not_true, Bool.not_false, id_eq, sl0, sl1, sl2, sl3, sl4, wholeK, seqOf, ea, at0, at1]
  exact ⟨_, .int, rfl, rfl, h⟩
local macro_rules | `(tactic| walk_at "RD") => `(tactic| try simp only [fInsS, fIsB, tSeq, tNext, tDrop, tRet, tRetN, tIfS, tAsg, gName, fAug, tOp, tUn, tC, fVar, fI, fIC, fNeg, fEq, fNe, fIsN, isNon, fAnd, fOr, fNot, fB, tNot, tAnd, tOr, fChain, fIx, fLen, fListOf, fMin, fMax, fInL, fSlL, tSl, fPart, tNoPart, fAppend, fBM, fSetL, gSub, fGNil, fGCons, fGTup, fGLst, fDGet2, sDPutF, tDNewK, fCat, fClear, fBM0, fSlT, fInt1, tCBK, fDIn, fDGet, fIsi, fBools, fDictL, fLtT, tCall, tCB, tCons, tNil, tTup, tLst, tIf, tTrue, Kd.nm, L2.start, List.map_cons, List.map_nil, List.length_cons, List.length_nil, Nat.reduceAdd, Nat.reduceSub, List.replicate_succ, List.replicate_zero, List.getElem?_cons_zero, List.getElem?_cons_succ, List.set_cons_zero, List.set_cons_succ, List.append_nil, List.nil_append, List.cons_append, eq_self, true_and, and_true, if_true, Bool.false_eq_true, if_false, Bool.not_true, Bool.not_false, id_eq, sl0, sl1, sl2, sl3, sl4])
theorem ok_place_stands {f : Addr} {fd : FuncData} {f_is_pair_of_wholes : Addr} {d_is_pair_of_wholes : FuncData} (B : Blt mg) (C : Cst mg c1 c2 c3 c4) (D : DefAt K mg "place_stands" (top 15) ["thing", "last", "spent"] f fd) (D_is_pair_of_wholes : DefAt K mg "is_pair_of_wholes" (top 7) ["thing"] f_is_pair_of_wholes d_is_pair_of_wholes) (G_is_pair_of_wholes : FnOk P w K mg base CX0 2 f_is_pair_of_wholes d_is_pair_of_wholes ["thing"] spPair) : FnOk P w K mg base CX0 3 f fd ["thing", "last", "spent"] spPlaceStands := by
  have sc : FnScope ["thing", "last", "spent"] ["thing", "last", "spent"] (defScope (top 15)) := ⟨rfl, rfl, rfl, by decide +kernel, rfl, by decide +kernel, by decide +kernel⟩
  refine D.F.ok sc (fun vs H Q E h => ?_) (fun cdv A outer s H vs Q E hr h => ?_)
  · obtain ⟨x, p, l, s, rfl, _⟩ := h
    rfl
  obtain ⟨x, p, l, sp, rfl, hp, ⟨b1, b2, b3, b4⟩, h⟩ := h
  obtain ⟨a, rfl, ea⟩ := id hp
  have hu := hu_of hr
  have hu0 : _ < PySem.cLine := Nat.lt_of_succ_lt hu
  refine ⟨_, (pss_cons (ps_if (pt_not (qt_val (pe_call G_is_pair_of_wholes (hr.mono (by decide)) rfl D_is_pair_of_wholes.m D_is_pair_of_wholes.F.kp D_is_pair_of_wholes.b .nil pass0 (pa_cons (qv 0) pa_nil)))) (pss_one (ps_ret pe_bl)) pss_nil) (pss_one (ps_ret (q_and (q_chain q_lt q_le (qv 1) (pe_ix q_ix (qv 0) pe_int (fun _ _ => rfl)) (pe_glob (v := .int 999) rfl C.LAST_PLACE ⟨_, rfl⟩)) (pe_one (q_chain q_le q_le pe_int (pe_ix q_ix (qv 0) pe_int (fun _ _ => rfl)) (pe_op q_sub (pe_glob (v := .int 1000000000000) rfl C.MOST_PRICE ⟨_, rfl⟩) (qv 2)))))))), ?_⟩
  walk_at "RD"
  refine ⟨_, p, rfl, hp, ?_⟩
  try simp only [fInsS, fIsB, tSeq, tNext, tDrop, tRet, tRetN, tIfS, tAsg, gName, fAug, tOp, tUn, tC, fVar, fI, fIC, fNeg, fEq, fNe, fIsN, isNon, fAnd, fOr, fNot, fB, tNot, tAnd, tOr, fChain, fIx, fLen, fListOf, fMin, fMax, fInL, fSlL, tSl, fPart, tNoPart, fAppend, fBM, fSetL, gSub, fGNil, fGCons, fGTup, fGLst, fDGet2, sDPutF, tDNewK, fCat, fClear, fBM0, fSlT, fInt1, tCBK, fDIn, fDGet, fIsi, fBools, fDictL, fLtT, tCall, tCB, tCons, tNil, tTup, tLst, tIf, tTrue, Kd.nm, L2.start, List.map_cons, List.map_nil, List.length_cons, List.length_nil, Nat.reduceAdd, Nat.reduceSub, List.replicate_succ, List.replicate_zero, List.getElem?_cons_zero, List.getElem?_cons_succ, List.set_cons_zero, List.set_cons_succ, List.append_nil, List.nil_append, List.cons_append, eq_self, true_and, and_true, if_true, Bool.false_eq_true, if_false, Bool.not_true, Bool.not_false, id_eq, sl0, sl1, sl2, sl3, sl4, seqOf, ea, at0, at1, decide_eq_true b1, decide_eq_true b2, decide_eq_true b3, decide_eq_true b4]
  exact h
theorem ok_tie_stands {f : Addr} {fd : FuncData} {f_is_pair_of_wholes : Addr} {d_is_pair_of_wholes : FuncData} (B : Blt mg) (D : DefAt K mg "tie_stands" (top 16) ["thing", "last", "prices"] f fd) (D_is_pair_of_wholes : DefAt K mg "is_pair_of_wholes" (top 7) ["thing"] f_is_pair_of_wholes d_is_pair_of_wholes) (G_is_pair_of_wholes : FnOk P w K mg base CX0 2 f_is_pair_of_wholes d_is_pair_of_wholes ["thing"] spPair) : FnOk P w K mg base CX0 3 f fd ["thing", "last", "prices"] spTieStands := by
  have sc : FnScope ["thing", "last", "prices"] ["thing", "last", "prices"] (defScope (top 16)) := ⟨rfl, rfl, rfl, by decide +kernel, rfl, by decide +kernel, by decide +kernel⟩
  refine D.F.ok sc (fun vs H Q E h => ?_) (fun cdv A outer s H vs Q E hr h => ?_)
  · obtain ⟨x, p, y, q, d, kvs, rfl, _⟩ := h
    rfl
  obtain ⟨x, p, y, q, d, kvs, rfl, hp, hq, hd, ⟨b1, b2, b3, b4⟩, h⟩ := h
  obtain ⟨a, rfl, ea⟩ := id hp
  obtain ⟨b, rfl, eb⟩ := id hq
  unfold hasK at b3 b4
  have hu := hu_of hr
  have hu0 : _ < PySem.cLine := Nat.lt_of_succ_lt hu
  refine ⟨_, (pss_cons (ps_if (pt_not (qt_val (pe_call G_is_pair_of_wholes (hr.mono (by decide)) rfl D_is_pair_of_wholes.m D_is_pair_of_wholes.F.kp D_is_pair_of_wholes.b .nil pass0 (pa_cons (qv 0) pa_nil)))) (pss_one (ps_ret pe_bl)) pss_nil) (pss_one (ps_ret (q_and (pe_cmpR (q_ltT hu0) (qv 1) (qv 0) (nomark _)) (q_and (pe_cmpR q_lt (pe_ix q_ix (qv 0) pe_int (fun _ _ => rfl)) (pe_ix q_ix (qv 0) pe_int (fun _ _ => rfl)) (nomark _)) (q_and (pe_cmp (q_din hu (pe_ix q_ix (qv 0) pe_int (fun _ _ => rfl)) (qv 2))) (pe_one (pe_cmp (q_din hu (pe_ix q_ix (qv 0) pe_int (fun _ _ => rfl)) (qv 2)))))))))), ?_⟩
  walk_at "RD"
  refine ⟨_, p, rfl, hp, ?_⟩
  try simp only [fInsS, fIsB, tSeq, tNext, tDrop, tRet, tRetN, tIfS, tAsg, gName, fAug, tOp, tUn, tC, fVar, fI, fIC, fNeg, fEq, fNe, fIsN, isNon, fAnd, fOr, fNot, fB, tNot, tAnd, tOr, fChain, fIx, fLen, fListOf, fMin, fMax, fInL, fSlL, tSl, fPart, tNoPart, fAppend, fBM, fSetL, gSub, fGNil, fGCons, fGTup, fGLst, fDGet2, sDPutF, tDNewK, fCat, fClear, fBM0, fSlT, fInt1, tCBK, fDIn, fDGet, fIsi, fBools, fDictL, fLtT, tCall, tCB, tCons, tNil, tTup, tLst, tIf, tTrue, Kd.nm, L2.start, List.map_cons, List.map_nil, List.length_cons, List.length_nil, Nat.reduceAdd, Nat.reduceSub, List.replicate_succ, List.replicate_zero, List.getElem?_cons_zero, List.getElem?_cons_succ, List.set_cons_zero, List.set_cons_succ, List.append_nil, List.nil_append, List.cons_append, eq_self, true_and, and_true, if_true, Bool.false_eq_true, if_false, Bool.not_true, Bool.not_false, id_eq, sl0, sl1, sl2, sl3, sl4, seqOf, ea, eb, hd, at0, at1, b1, decide_eq_true b2, b3, b4]
  exact h
end
end My

set_option Elab.async false
set_option linter.all false
set_option maxRecDepth 100000
set_option maxHeartbeats 4000000
namespace My
open PySem L2
section
variable {P : Program} {w : World} {K : PySem.W.Frag} {mg : Str → Option Value} {base : Heap} {c1 c2 c3 c4 : Tok}
/-- places that can stand behind a last one, so much spent -/
def PlOk : Int → Int → List (Int × Int) → Prop
  | _, _, [] => True
  | l, s, p :: r => (l < p.1 ∧ p.1 ≤ 999 ∧ 1 ≤ p.2 ∧ p.2 ≤ 1000000000000 - s) ∧ PlOk p.1 (s + p.2) r
/-- the prices by the places -/
def kvsOf (ps : List (Int × Int)) : List (Key × V) := ps.map fun p => (Sum.inl p.1, V.int p.2)
/-- ties that can stand behind a last one -/
def TiOk (kvs : List (Key × V)) : Int × Int → List (Int × Int) → Prop
  | _, [] => True
  | q, p :: r => (HT.lexLt [q.1, q.2] [p.1, p.2] = true ∧ p.1 < p.2 ∧ hasK kvs p.1 = true ∧ hasK kvs p.2 = true) ∧ TiOk kvs p r
structure WebOk (ps ts : List (Int × Int)) : Prop where
  pl : ps.length ≤ 40
  p : PlOk (-1) 0 ps
  tl : ts.length ≤ 120
  t : TiOk (kvsOf ps) (-1, -1) ts
def WebAt (H : Hp) (v : V) (ps ts : List (Int × Int)) : Prop :=
  ∃ u pa ta xs ys, v = .ref u ∧ H u = some (.tup [.ref pa, .ref ta]) ∧ H pa = some (.lst xs) ∧ H ta = some (.lst ys) ∧ Prs H xs ps ∧ Prs H ys ts
theorem WebAt.same {H H' : Hp} {v : V} {ps ts : List (Int × Int)} (h : WebAt H v ps ts) (s : Same H H') : WebAt H' v ps ts := by
  obtain ⟨u, pa, ta, xs, ys, e, h1, h2, h3, h4, h5⟩ := h
  exact ⟨u, pa, ta, xs, ys, e, s _ _ h1, s _ _ h2, s _ _ h3, Prs.same s h4, Prs.same s h5⟩
theorem PlOk.gt : ∀ {ps : List (Int × Int)} {l s : Int}, PlOk l s ps → ∀ p ∈ ps, l < p.1
  | [], _, _, _, _, h => by cases h
  | q :: r, l, s, h, p, hp => by
    rcases List.mem_cons.mp hp with e | hp
    · rw [e]; exact h.1.1
    · have := PlOk.gt h.2 p hp
      have := h.1.1
      omega
theorem PlOk.nodup : ∀ {ps : List (Int × Int)} {l s : Int}, PlOk l s ps → (ps.map (·.1)).Nodup
  | [], _, _, _ => List.nodup_nil
  | q :: r, l, s, h => by
    rw [List.map_cons]
    refine List.nodup_cons.mpr ⟨fun hm => ?_, PlOk.nodup h.2⟩
    obtain ⟨p, hp, e⟩ := List.mem_map.mp hm
    have := PlOk.gt h.2 p hp
    omega
theorem keys_nodup {ps : List (Int × Int)} (h : (ps.map (·.1)).Nodup) : ((kvsOf ps).map (·.1)).Nodup := by
  unfold kvsOf
  rw [List.map_map]
  have e : ((fun (x : Key × V) => x.1) ∘ fun (p : Int × Int) => ((Sum.inl p.1 : Key), V.int p.2)) = (fun (n : Int) => (Sum.inl n : Key)) ∘ fun (p : Int × Int) => p.1 := rfl
  rw [e, ← List.map_map]
  unfold List.Nodup at h ⊢
  rw [List.pairwise_map]
  exact h.imp fun q z => q (Sum.inl.inj z)
theorem pairs_at {H : Hp} : ∀ {xs : List V} {ps : List (Int × Int)}, Prs H xs ps → Paired (PairAt H) xs (kvsOf ps)
  | _, _, .nil => .nil
  | _, _, .cons r t => by
    obtain ⟨a, e, q⟩ := r
    exact .cons ⟨a, e, q⟩ (pairs_at t)
theorem valV_of : ∀ {ps : List (Int × Int)} {p : Int × Int}, (ps.map (·.1)).Nodup → p ∈ ps → valV (kvsOf ps) (Sum.inl p.1 : Key) = some (.int p.2)
  | [], _, _, h => by cases h
  | q :: r, p, hn, h => by
    rw [List.map_cons] at hn
    unfold kvsOf valV
    rw [List.map_cons, List.find?_cons]
    rcases List.mem_cons.mp h with e | h
    · rw [e]
      simp
    · have hne : q.1 ≠ p.1 := fun z => (List.nodup_cons.mp hn).1 (by rw [z]; exact List.mem_map_of_mem h)
      have hd : decide ((Sum.inl q.1 : Key) = Sum.inl p.1) = false := decide_eq_false fun z => hne (Sum.inl.inj z)
      dsimp only
      rw [hd]
      exact valV_of (List.nodup_cons.mp hn).2 h
theorem hasK_of {ps : List (Int × Int)} {p : Int × Int} (hn : (ps.map (·.1)).Nodup) (h : p ∈ ps) : hasK (kvsOf ps) p.1 = true := by
  unfold hasK
  rw [valV_of hn h]
  rfl
def spLookPlaces : Sp := fun vs H Q _ => ∃ a xs ps, vs = [.ref a] ∧ H a = some (.lst xs) ∧ Prs H xs ps ∧ ps.length ≤ 40 ∧ PlOk (-1) 0 ps ∧ ∀ H', Same H H' → Q .non H'
def spLookTies : Sp := fun vs H Q _ => ∃ a d xs ts kvs, vs = [.ref a, .ref d] ∧ H a = some (.lst xs) ∧ H d = some (.dK kvs) ∧ Prs H xs ts ∧ ts.length ≤ 120 ∧ TiOk kvs (-1, -1) ts ∧ ∀ H', Same H H' → Q .non H'
def spLookWeb : Sp := fun vs H Q _ => ∃ v ps ts, vs = [v] ∧ WebAt H v ps ts ∧ WebOk ps ts ∧ ∀ H', Same H H' → Q .non H'
local macro_rules | `(tactic| walk_at "RD") => `(tactic| try simp only [fInsS, fIsB, tSeq, tNext, tDrop, tRet, tRetN, tIfS, tAsg, gName, fAug, tOp, tUn, tC, fVar, fI, fIC, fNeg, fEq, fNe, fIsN, isNon, fAnd, fOr, fNot, fB, tNot, tAnd, tOr, fChain, fIx, fLen, fListOf, fMin, fMax, fInL, fSlL, tSl, fPart, tNoPart, fAppend, fBM, fSetL, gSub, fGNil, fGCons, fGTup, fGLst, fDGet2, sDPutF, tDNewK, fCat, fClear, fBM0, fSlT, fInt1, tCBK, fDIn, fDGet, fIsi, fBools, fDictL, fLtT, tCall, tCB, tCons, tNil, tTup, tLst, tIf, tTrue, Kd.nm, L2.start, List.map_cons, List.map_nil, List.length_cons, List.length_nil, Nat.reduceAdd, Nat.reduceSub, List.replicate_succ, List.replicate_zero, List.getElem?_cons_zero, List.getElem?_cons_succ, List.set_cons_zero, List.set_cons_succ, List.append_nil, List.nil_append, List.cons_append, eq_self, true_and, and_true, if_true, Bool.false_eq_true, if_false, Bool.not_true, Bool.not_false, id_eq, sl0, sl1, sl2, sl3, sl4])
theorem ok_look_at_places {f : Addr} {fd : FuncData} {f_is_list_up_to : Addr} {d_is_list_up_to : FuncData} {f_place_stands : Addr} {d_place_stands : FuncData} (B : Blt mg) (C : Cst mg c1 c2 c3 c4) (D : DefAt K mg "look_at_places" (top 17) ["places"] f fd) (D_is_list_up_to : DefAt K mg "is_list_up_to" (top 8) ["thing", "most"] f_is_list_up_to d_is_list_up_to) (G_is_list_up_to : FnOk P w K mg base CX0 1 f_is_list_up_to d_is_list_up_to ["thing", "most"] spListUpTo) (D_place_stands : DefAt K mg "place_stands" (top 15) ["thing", "last", "spent"] f_place_stands d_place_stands) (G_place_stands : FnOk P w K mg base CX0 3 f_place_stands d_place_stands ["thing", "last", "spent"] spPlaceStands) : FnOk P w K mg base CX0 4 f fd ["places"] spLookPlaces := by
  have sc : FnScope ["places", "last", "spent", "number", "thing"] ["places"] (defScope (top 17)) := ⟨rfl, rfl, rfl, by decide +kernel, rfl, by decide +kernel, by decide +kernel⟩
  refine D.F.ok sc (fun vs H Q E h => ?_) (fun cdv A outer s H vs Q E hr h => ?_)
  · obtain ⟨a, xs, ps, rfl, _⟩ := h
    rfl
  obtain ⟨a, xs, ps, rfl, ea, hp, hl, ok, h⟩ := h
  have hlx : xs.length = ps.length := Paired.length hp
  have hu := hu_of hr
  have hu0 : _ < PySem.cLine := Nat.lt_of_succ_lt hu
  refine ⟨_, (pss_cons (ps_if (pt_not (qt_val (pe_call G_is_list_up_to (hr.mono (by decide)) rfl D_is_list_up_to.m D_is_list_up_to.F.kp D_is_list_up_to.b .nil pass0 (pa_cons (qv 0) (pa_cons (pe_glob (v := .int 40) rfl C.MOST_PLACES ⟨_, rfl⟩) pa_nil))))) (pss_one ps_never) pss_nil) (pss_cons (ps_set (i := 1) sc.nd rfl (Or.inl rfl) (pe_un q_neg pe_int)) (pss_cons (ps_set (i := 2) sc.nd rfl (Or.inl rfl) pe_int) (pss_one (ps_for PassesOwn.never rfl (pi_enum rfl B.enumerate (pa_cons (qv 0) pa_nil)) (qg_tup (n := 2) rfl (qgs_cons (pg_name (i := 3) sc.nd rfl (Or.inl rfl)) (qgs_cons (pg_name (i := 4) sc.nd rfl (Or.inl rfl)) qgs_nil))) (pss_cons (ps_if (pt_not (qt_val (pe_call G_place_stands (hr.mono (by decide)) rfl D_place_stands.m D_place_stands.F.kp D_place_stands.b .nil pass0 (pa_cons (qv 4) (pa_cons (qv 1) (pa_cons (qv 2) pa_nil)))))) (pss_one ps_never) pss_nil) (pss_cons (ps_set (i := 1) sc.nd rfl (Or.inl rfl) (pe_ix q_ix (qv 4) pe_int (fun _ _ => rfl))) (pss_one (qs_aug (i := 2) sc.nd rfl (Or.inl rfl) (pe_ix q_ix (qv 4) pe_int (fun _ _ => rfl)) q_iadd))))))))), ?_⟩
  walk_at "RD"
  refine ⟨a, xs, 40, rfl, ea, ?_⟩
  rw [decide_eq_true (show (xs.length : Int) ≤ 40 by omega)]
  walk_at "RD"
  refine ⟨a, rfl, ⟨xs, SqL.of ea⟩, for_enum (K := K) (a := a) (xs := xs) (fun i σ H1 => ∃ l sp nb th, σ = [some (.ref a), some (.int l), some (.int sp), nb, th] ∧ Same H H1 ∧ PlOk l sp (ps.drop i)) ⟨-1, 0, none, none, rfl, Same.refl _, ok⟩ (fun i σ H1 _ ⟨_, _, _, _, _, s1, _⟩ => SqL.of (s1 _ _ ea)) ?_ ?_⟩
  · rintro i x σ H1 t hi ⟨l, sp, nb, th, rfl, s1, ok1⟩ ht
    obtain ⟨p, hpi, px⟩ := paired_left hp hi
    rw [drop_get hpi] at ok1
    have s2 : Same H (upd H1 t (.tup [.int i, x])) := s1.trans (same_new ht _)
    have px2 := px.same s2
    obtain ⟨u, rfl, eu⟩ := id px2
    try simp only [fInsS, fIsB, tSeq, tNext, tDrop, tRet, tRetN, tIfS, tAsg, gName, fAug, tOp, tUn, tC, fVar, fI, fIC, fNeg, fEq, fNe, fIsN, isNon, fAnd, fOr, fNot, fB, tNot, tAnd, tOr, fChain, fIx, fLen, fListOf, fMin, fMax, fInL, fSlL, tSl, fPart, tNoPart, fAppend, fBM, fSetL, gSub, fGNil, fGCons, fGTup, fGLst, fDGet2, sDPutF, tDNewK, fCat, fClear, fBM0, fSlT, fInt1, tCBK, fDIn, fDGet, fIsi, fBools, fDictL, fLtT, tCall, tCB, tCons, tNil, tTup, tLst, tIf, tTrue, Kd.nm, L2.start, List.map_cons, List.map_nil, List.length_cons, List.length_nil, Nat.reduceAdd, Nat.reduceSub, List.replicate_succ, List.replicate_zero, List.getElem?_cons_zero, List.getElem?_cons_succ, List.set_cons_zero, List.set_cons_succ, List.append_nil, List.nil_append, List.cons_append, eq_self, true_and, and_true, if_true, Bool.false_eq_true, if_false, Bool.not_true, Bool.not_false, id_eq, sl0, sl1, sl2, sl3, sl4, upd_same]
    refine ⟨_, p, l, sp, rfl, px2, ok1.1, ?_⟩
    try simp only [fInsS, fIsB, tSeq, tNext, tDrop, tRet, tRetN, tIfS, tAsg, gName, fAug, tOp, tUn, tC, fVar, fI, fIC, fNeg, fEq, fNe, fIsN, isNon, fAnd, fOr, fNot, fB, tNot, tAnd, tOr, fChain, fIx, fLen, fListOf, fMin, fMax, fInL, fSlL, tSl, fPart, tNoPart, fAppend, fBM, fSetL, gSub, fGNil, fGCons, fGTup, fGLst, fDGet2, sDPutF, tDNewK, fCat, fClear, fBM0, fSlT, fInt1, tCBK, fDIn, fDGet, fIsi, fBools, fDictL, fLtT, tCall, tCB, tCons, tNil, tTup, tLst, tIf, tTrue, Kd.nm, L2.start, List.map_cons, List.map_nil, List.length_cons, List.length_nil, Nat.reduceAdd, Nat.reduceSub, List.replicate_succ, List.replicate_zero, List.getElem?_cons_zero, List.getElem?_cons_succ, List.set_cons_zero, List.set_cons_succ, List.append_nil, List.nil_append, List.cons_append, eq_self, true_and, and_true, if_true, Bool.false_eq_true, if_false, Bool.not_true, Bool.not_false, id_eq, sl0, sl1, sl2, sl3, sl4, seqOf, eu, at0, at1]
    exact ⟨_, _, _, _, rfl, s2, ok1.2⟩
  · rintro σ H1 ⟨l, sp, nb, th, rfl, s1, _⟩
    exact h H1 s1
theorem ok_look_at_ties {f : Addr} {fd : FuncData} {f_is_list_up_to : Addr} {d_is_list_up_to : FuncData} {f_tie_stands : Addr} {d_tie_stands : FuncData} (B : Blt mg) (C : Cst mg c1 c2 c3 c4) (D : DefAt K mg "look_at_ties" (top 18) ["ties", "prices"] f fd) (D_is_list_up_to : DefAt K mg "is_list_up_to" (top 8) ["thing", "most"] f_is_list_up_to d_is_list_up_to) (G_is_list_up_to : FnOk P w K mg base CX0 1 f_is_list_up_to d_is_list_up_to ["thing", "most"] spListUpTo) (D_tie_stands : DefAt K mg "tie_stands" (top 16) ["thing", "last", "prices"] f_tie_stands d_tie_stands) (G_tie_stands : FnOk P w K mg base CX0 3 f_tie_stands d_tie_stands ["thing", "last", "prices"] spTieStands) : FnOk P w K mg base CX0 4 f fd ["ties", "prices"] spLookTies := by
  have sc : FnScope ["ties", "prices", "last", "number", "thing"] ["ties", "prices"] (defScope (top 18)) := ⟨rfl, rfl, rfl, by decide +kernel, rfl, by decide +kernel, by decide +kernel⟩
  refine D.F.ok sc (fun vs H Q E h => ?_) (fun cdv A outer s H vs Q E hr h => ?_)
  · obtain ⟨a, d, xs, ts, kvs, rfl, _⟩ := h
    rfl
  obtain ⟨a, d, xs, ts, kvs, rfl, ea, ed, hp, hl, ok, h⟩ := h
  have hlx : xs.length = ts.length := Paired.length hp
  have hu := hu_of hr
  have hu0 : _ < PySem.cLine := Nat.lt_of_succ_lt hu
  refine ⟨_, (pss_cons (ps_if (pt_not (qt_val (pe_call G_is_list_up_to (hr.mono (by decide)) rfl D_is_list_up_to.m D_is_list_up_to.F.kp D_is_list_up_to.b .nil pass0 (pa_cons (qv 0) (pa_cons (pe_glob (v := .int 120) rfl C.MOST_TIES ⟨_, rfl⟩) pa_nil))))) (pss_one ps_never) pss_nil) (pss_cons (ps_set (i := 2) sc.nd rfl (Or.inl rfl) (pe_tup (pa_cons (pe_un q_neg pe_int) (pa_cons (pe_un q_neg pe_int) pa_nil)))) (pss_one (ps_for PassesOwn.never rfl (pi_enum rfl B.enumerate (pa_cons (qv 0) pa_nil)) (qg_tup (n := 2) rfl (qgs_cons (pg_name (i := 3) sc.nd rfl (Or.inl rfl)) (qgs_cons (pg_name (i := 4) sc.nd rfl (Or.inl rfl)) qgs_nil))) (pss_cons (ps_if (pt_not (qt_val (pe_call G_tie_stands (hr.mono (by decide)) rfl D_tie_stands.m D_tie_stands.F.kp D_tie_stands.b .nil pass0 (pa_cons (qv 4) (pa_cons (qv 2) (pa_cons (qv 1) pa_nil)))))) (pss_one ps_never) pss_nil) (pss_one (ps_set (i := 2) sc.nd rfl (Or.inl rfl) (qv 4)))))))), ?_⟩
  walk_at "RD"
  refine ⟨a, xs, 120, rfl, ea, ?_⟩
  rw [decide_eq_true (show (xs.length : Int) ≤ 120 by omega)]
  walk_at "RD"
  intro t0 ht0
  refine ⟨a, rfl, ⟨xs, SqL.of (same_new ht0 _ _ _ ea)⟩, for_enum (K := K) (a := a) (xs := xs) (fun i σ H1 => ∃ lv q nb th, σ = [some (.ref a), some (.ref d), some lv, nb, th] ∧ Same H H1 ∧ Pr H1 lv q ∧ TiOk kvs q (ts.drop i)) ⟨_, (-1, -1), none, none, rfl, same_new ht0 _, ⟨t0, rfl, upd_same⟩, ok⟩ (fun i σ H1 _ ⟨_, _, _, _, _, s1, _⟩ => SqL.of (s1 _ _ ea)) ?_ ?_⟩
  · rintro i x σ H1 t hi ⟨lv, q, nb, th, rfl, s1, pq, ok1⟩ ht
    obtain ⟨p, hpi, px⟩ := paired_left hp hi
    rw [drop_get hpi] at ok1
    have s2 : Same H (upd H1 t (.tup [.int i, x])) := s1.trans (same_new ht _)
    have px2 := px.same s2
    try simp only [fInsS, fIsB, tSeq, tNext, tDrop, tRet, tRetN, tIfS, tAsg, gName, fAug, tOp, tUn, tC, fVar, fI, fIC, fNeg, fEq, fNe, fIsN, isNon, fAnd, fOr, fNot, fB, tNot, tAnd, tOr, fChain, fIx, fLen, fListOf, fMin, fMax, fInL, fSlL, tSl, fPart, tNoPart, fAppend, fBM, fSetL, gSub, fGNil, fGCons, fGTup, fGLst, fDGet2, sDPutF, tDNewK, fCat, fClear, fBM0, fSlT, fInt1, tCBK, fDIn, fDGet, fIsi, fBools, fDictL, fLtT, tCall, tCB, tCons, tNil, tTup, tLst, tIf, tTrue, Kd.nm, L2.start, List.map_cons, List.map_nil, List.length_cons, List.length_nil, Nat.reduceAdd, Nat.reduceSub, List.replicate_succ, List.replicate_zero, List.getElem?_cons_zero, List.getElem?_cons_succ, List.set_cons_zero, List.set_cons_succ, List.append_nil, List.nil_append, List.cons_append, eq_self, true_and, and_true, if_true, Bool.false_eq_true, if_false, Bool.not_true, Bool.not_false, id_eq, sl0, sl1, sl2, sl3, sl4, upd_same]
    refine ⟨_, p, _, q, d, kvs, rfl, px2, pq.same (same_new ht _), s2 _ _ ed, ok1.1, ?_⟩
    walk_at "RD"
    exact ⟨_, _, _, _, rfl, s2, px2, ok1.2⟩
  · rintro σ H1 ⟨lv, q, nb, th, rfl, s1, _⟩
    exact h H1 s1
theorem ok_look_at_web {f : Addr} {fd : FuncData} {f_is_tuple_of : Addr} {d_is_tuple_of : FuncData} {f_look_at_places : Addr} {d_look_at_places : FuncData} {f_look_at_ties : Addr} {d_look_at_ties : FuncData} (B : Blt mg) (D : DefAt K mg "look_at_web" (top 19) ["thing"] f fd) (D_is_tuple_of : DefAt K mg "is_tuple_of" (top 6) ["thing", "many"] f_is_tuple_of d_is_tuple_of) (G_is_tuple_of : FnOk P w K mg base CX0 1 f_is_tuple_of d_is_tuple_of ["thing", "many"] spTupleOf) (D_look_at_places : DefAt K mg "look_at_places" (top 17) ["places"] f_look_at_places d_look_at_places) (G_look_at_places : FnOk P w K mg base CX0 4 f_look_at_places d_look_at_places ["places"] spLookPlaces) (D_look_at_ties : DefAt K mg "look_at_ties" (top 18) ["ties", "prices"] f_look_at_ties d_look_at_ties) (G_look_at_ties : FnOk P w K mg base CX0 4 f_look_at_ties d_look_at_ties ["ties", "prices"] spLookTies) : FnOk P w K mg base CX0 5 f fd ["thing"] spLookWeb := by
  have sc : FnScope ["thing"] ["thing"] (defScope (top 19)) := ⟨rfl, rfl, rfl, by decide +kernel, rfl, by decide +kernel, by decide +kernel⟩
  refine D.F.ok sc (fun vs H Q E h => ?_) (fun cdv A outer s H vs Q E hr h => ?_)
  · obtain ⟨v, ps, ts, rfl, _⟩ := h
    rfl
  obtain ⟨v, ps, ts, rfl, hw, ok, h⟩ := h
  obtain ⟨u, pa, ta, xs, ys, rfl, eu, ep, et, pp, pt⟩ := hw
  have hlx : xs.length = ps.length := Paired.length pp
  have okl := ok.pl
  have hu := hu_of hr
  have hu0 : _ < PySem.cLine := Nat.lt_of_succ_lt hu
  refine ⟨_, (pss_cons (ps_if (pt_not (qt_val (pe_call G_is_tuple_of (hr.mono (by decide)) rfl D_is_tuple_of.m D_is_tuple_of.F.kp D_is_tuple_of.b .nil pass0 (pa_cons (qv 0) (pa_cons pe_int pa_nil))))) (pss_one ps_never) pss_nil) (pss_cons (ps_expr (pe_call G_look_at_places (hr.mono (by decide)) rfl D_look_at_places.m D_look_at_places.F.kp D_look_at_places.b .nil pass0 (pa_cons (pe_ix q_ix (qv 0) pe_int (fun _ _ => rfl)) pa_nil))) (pss_one (ps_expr (pe_call G_look_at_ties (hr.mono (by decide)) rfl D_look_at_ties.m D_look_at_ties.F.kp D_look_at_ties.b .nil pass0 (pa_cons (pe_ix q_ix (qv 0) pe_int (fun _ _ => rfl)) (pa_cons (pe_callTy (q_dictL rfl) rfl B.dict PyProof.Rows.boot_dict (pa_cons (pe_ix q_ix (qv 0) pe_int (fun _ _ => rfl)) pa_nil)) pa_nil))))))), ?_⟩
  walk_at "RD"
  refine ⟨u, _, 2, rfl, eu, ?_⟩
  try simp only [fInsS, fIsB, tSeq, tNext, tDrop, tRet, tRetN, tIfS, tAsg, gName, fAug, tOp, tUn, tC, fVar, fI, fIC, fNeg, fEq, fNe, fIsN, isNon, fAnd, fOr, fNot, fB, tNot, tAnd, tOr, fChain, fIx, fLen, fListOf, fMin, fMax, fInL, fSlL, tSl, fPart, tNoPart, fAppend, fBM, fSetL, gSub, fGNil, fGCons, fGTup, fGLst, fDGet2, sDPutF, tDNewK, fCat, fClear, fBM0, fSlT, fInt1, tCBK, fDIn, fDGet, fIsi, fBools, fDictL, fLtT, tCall, tCB, tCons, tNil, tTup, tLst, tIf, tTrue, Kd.nm, L2.start, List.map_cons, List.map_nil, List.length_cons, List.length_nil, Nat.reduceAdd, Nat.reduceSub, List.replicate_succ, List.replicate_zero, List.getElem?_cons_zero, List.getElem?_cons_succ, List.set_cons_zero, List.set_cons_succ, List.append_nil, List.nil_append, List.cons_append, eq_self, true_and, and_true, if_true, Bool.false_eq_true, if_false, Bool.not_true, Bool.not_false, id_eq, sl0, sl1, sl2, sl3, sl4, seqOf, eu, at0, at1, Int.cast_ofNat_Int, decide_true]
  refine ⟨pa, xs, ps, rfl, ep, pp, ok.pl, ok.p, fun H1 s1 => ?_⟩
  try simp only [fInsS, fIsB, tSeq, tNext, tDrop, tRet, tRetN, tIfS, tAsg, gName, fAug, tOp, tUn, tC, fVar, fI, fIC, fNeg, fEq, fNe, fIsN, isNon, fAnd, fOr, fNot, fB, tNot, tAnd, tOr, fChain, fIx, fLen, fListOf, fMin, fMax, fInL, fSlL, tSl, fPart, tNoPart, fAppend, fBM, fSetL, gSub, fGNil, fGCons, fGTup, fGLst, fDGet2, sDPutF, tDNewK, fCat, fClear, fBM0, fSlT, fInt1, tCBK, fDIn, fDGet, fIsi, fBools, fDictL, fLtT, tCall, tCB, tCons, tNil, tTup, tLst, tIf, tTrue, Kd.nm, L2.start, List.map_cons, List.map_nil, List.length_cons, List.length_nil, Nat.reduceAdd, Nat.reduceSub, List.replicate_succ, List.replicate_zero, List.getElem?_cons_zero, List.getElem?_cons_succ, List.set_cons_zero, List.set_cons_succ, List.append_nil, List.nil_append, List.cons_append, eq_self, true_and, and_true, if_true, Bool.false_eq_true, if_false, Bool.not_true, Bool.not_false, id_eq, sl0, sl1, sl2, sl3, sl4, seqOf, s1 _ _ eu, s1 _ _ ep, at0, at1]
  refine ⟨kvsOf ps, pairs_at (Prs.same s1 pp), by omega, keys_nodup ok.p.nodup, fun d hd => ?_⟩
  have s2 : Same H (upd H1 d (.dK (kvsOf ps))) := s1.trans (same_new hd _)
  exact ⟨ta, d, ys, ts, _, rfl, s2 _ _ et, upd_same, Prs.same s2 pt, ok.tl, ok.t, fun H3 s3 => h H3 (s2.trans s3)⟩
end
end My

set_option Elab.async false
set_option linter.all false
set_option maxRecDepth 100000
set_option maxHeartbeats 4000000
namespace My
open PySem L2
section
variable {P : Program} {w : World} {K : PySem.W.Frag} {mg : Str → Option Value} {base : Heap} {c1 c2 c3 c4 : Tok}
theorem ix30 : ixN 3 0 = some 0 := rfl
theorem ix31 : ixN 3 1 = some 1 := rfl
theorem ix32 : ixN 3 2 = some 2 := rfl
/-- the drawing's state -/
def StO (o : HO) : Prop := ∃ c st fl, o = .lst [.int c, .int st, .bl fl] ∧ 0 ≤ st ∧ st < 4294967296
theorem StO.imm {o : HO} (h : StO o) : isImm o = false := by obtain ⟨_, _, _, rfl, _⟩ := h; rfl
def spBegun (K : PySem.W.Frag) : Sp := fun vs H Q _ => ∃ a k ns, vs = [.ref a, .int k] ∧ Scr K H a ns ∧ 0 ≤ k ∧ k ≤ 1000 ∧ ∀ s o, H s = none → StO o → Q (.ref s) (upd H s o)
def spTake : Sp := fun vs H Q _ => ∃ s o m, vs = [.ref s, .int m] ∧ H s = some o ∧ StO o ∧ 1 ≤ m ∧ m < 1073741824 ∧ ∀ d o, 0 ≤ d → d < m → StO o → Q (.int d) (upd H s o)
theorem cmR {i j : Int} (h1 : -(2 ^ 64) < j) (h2 : j < 2 ^ 64) : CMul i j := .inr ⟨h1, h2⟩
theorem cmL {i j : Int} (h1 : -(2 ^ 64) < i) (h2 : i < 2 ^ 64) : CMul i j := .inl ⟨h1, h2⟩
/-- what the places drawn are: rising from a last one by one to twenty-three, prices from 1 to 10 ** 9 -/
def Dr : Int → List (Int × Int) → Prop
  | _, [] => True
  | l, p :: r => (l < p.1 ∧ p.1 ≤ l + 23 ∧ 1 ≤ p.2 ∧ p.2 ≤ 1000000000) ∧ Dr p.1 r
def lastP (l : Int) : List (Int × Int) → Int
  | [] => l
  | p :: r => lastP p.1 r
theorem Dr.snoc : ∀ {ps : List (Int × Int)} {l : Int} {p : Int × Int}, Dr l ps → (lastP l ps < p.1 ∧ p.1 ≤ lastP l ps + 23 ∧ 1 ≤ p.2 ∧ p.2 ≤ 1000000000) → Dr l (ps ++ [p])
  | [], _, _, _, h => ⟨h, trivial⟩
  | q :: r, _, _, h, h2 => ⟨h.1, Dr.snoc h.2 h2⟩
theorem lastP_snoc : ∀ {ps : List (Int × Int)} {l : Int} {p : Int × Int}, lastP l (ps ++ [p]) = p.1
  | [], _, _ => rfl
  | q :: r, _, _ => lastP_snoc (ps := r)
/-- all but the one at s stays -/
def But (s : Addr) (H H' : Hp) : Prop := ∀ b o, b ≠ s → H b = some o → H' b = some o
theorem But.refl (s : Addr) (H : Hp) : But s H H := fun _ _ _ q => q
theorem But.trans {s : Addr} {H H1 H2 : Hp} (a : But s H H1) (b : But s H1 H2) : But s H H2 := fun c o n q => b c o n (a c o n q)
theorem But.at (s : Addr) (H : Hp) (o : HO) : But s H (upd H s o) := fun b u n q => by rw [upd_ne n]; exact q
theorem But.new {s t : Addr} {H : Hp} {o : HO} (h : H t = none) : But s H (upd H t o) := fun b u n q => by rw [upd_ne (ne_of_none q h)]; exact q
theorem But.tups {s : Addr} {H H' : Hp} (h : But s H H') {o : HO} (e : H s = some o) (i : isImm o = false) : TupS H H' := fun b u z q => h b u (fun x => by rw [x, e] at q; cases q; rw [i] at z; cases z) q
theorem at3 {α : Type} {x y z u : α} {r : List α} : atI (x :: y :: z :: u :: r) 3 = some u := by
  have e : atI (x :: y :: z :: u :: r) ((3 : Nat) : Int) = some u := atI_nat rfl
  exact e
theorem menu4 {a b c e d : Int} (h0 : 0 ≤ d) (h1 : d < 4) : ∃ v, atI [V.int a, .int b, .int c, .int e] d = some (.int v) ∧ (v = a ∨ v = b ∨ v = c ∨ v = e) := by
  have hd : d = 0 ∨ d = 1 ∨ d = 2 ∨ d = 3 := by omega
  rcases hd with rfl | rfl | rfl | rfl
  · exact ⟨a, at0, .inl rfl⟩
  · exact ⟨b, at1, .inr (.inl rfl)⟩
  · exact ⟨c, at2, .inr (.inr (.inl rfl))⟩
  · exact ⟨e, at3, .inr (.inr (.inr rfl))⟩
theorem p9 : (10 : Int) ^ Int.toNat 9 = 1000000000 := by decide
def spPlaces : Sp := fun vs H Q _ => ∃ s o n, vs = [.ref s, .int n] ∧ H s = some o ∧ StO o ∧ 0 ≤ n ∧ n ≤ 100 ∧
  ∀ r H' o' xs ps, H r = none → But s H H' → H' s = some o' → StO o' → H' r = some (.lst xs) → Prs H' xs ps → (ps.length : Int) = n → Dr (-1) ps → Q (.ref r) H'
def spCopy : Sp := fun vs H Q _ => ∃ v ps ts, vs = [v] ∧ WebAt H v ps ts ∧ ∀ v' H', Same H H' → WebAt H' v' ps ts → Q v' H'
theorem ok_law_take {f : Addr} {fd : FuncData}  (B : Blt mg) (D : DefAt K mg "_law_take" (top 31) ["_law_state", "_law_many"] f fd) : FnOk P w K mg base CX0 1 f fd ["_law_state", "_law_many"] spTake := by
  have sc : FnScope ["_law_state", "_law_many", "_law_digit", "_law_number"] ["_law_state", "_law_many"] (defScope (top 31)) := ⟨rfl, rfl, rfl, by decide +kernel, rfl, by decide +kernel, by decide +kernel⟩
  refine D.F.ok sc (fun vs H Q E h => ?_) (fun cdv A outer s H vs Q E hr h => ?_)
  · obtain ⟨s, o, m, rfl, _⟩ := h
    rfl
  obtain ⟨st, o, m, rfl, es, ⟨c, x, fl, rfl, x0, x1⟩, m0, m1, h⟩ := h
  have hu := hu_of hr
  have hu0 : _ < PySem.cLine := Nat.lt_of_succ_lt hu
  refine ⟨_, (pss_cons (ps_if (qt_val (pe_ix q_ix (qv 0) pe_int (fun _ _ => rfl))) (pss_cons (ps_set (i := 2) sc.nd rfl (Or.inl rfl) (pe_op q_mod (pe_ix q_ix (qv 0) pe_int (fun _ _ => rfl)) (qv 1))) (pss_cons (ps_asg (pe_op q_fdiv (pe_ix q_ix (qv 0) pe_int (fun _ _ => rfl)) (qv 1)) (pg_sub (qv 0) pe_int q_setL)) (pss_cons (ps_asg (pe_cmpR q_gt (pe_ix q_ix (qv 0) pe_int (fun _ _ => rfl)) pe_int (nomark _)) (pg_sub (qv 0) pe_int q_setL)) (pss_one (ps_ret (qv 2)))))) pss_nil) (pss_cons (ps_asg (pe_op q_mod (pe_op q_add (pe_op q_mul (pe_ix q_ix (qv 0) pe_int (fun _ _ => rfl)) pe_int) pe_int) pe_int) (pg_sub (qv 0) pe_int q_setL)) (pss_cons (ps_set (i := 3) sc.nd rfl (Or.inl rfl) (pe_op q_fdiv (pe_op q_mod (pe_op q_mul (pe_ix q_ix (qv 0) pe_int (fun _ _ => rfl)) (pe_ix q_ix (qv 0) pe_int (fun _ _ => rfl))) pe_int) pe_int)) (pss_cons (ps_if (qt_cmp q_gt (qv 1) (pe_op q_pow pe_int pe_int) (nomark _)) (pss_cons (ps_asg (pe_op q_mod (pe_op q_add (pe_op q_mul (pe_ix q_ix (qv 0) pe_int (fun _ _ => rfl)) pe_int) pe_int) pe_int) (pg_sub (qv 0) pe_int q_setL)) (pss_one (ps_set (i := 3) sc.nd rfl (Or.inl rfl) (pe_op q_add (pe_op q_mul (qv 3) pe_int) (pe_ix q_ix (qv 0) pe_int (fun _ _ => rfl)))))) pss_nil) (pss_one (ps_ret (pe_op q_mod (qv 3) (qv 1)))))))), ?_⟩
  try simp only [fInsS, fIsB, tSeq, tNext, tDrop, tRet, tRetN, tIfS, tAsg, gName, fAug, tOp, tUn, tC, fVar, fI, fIC, fNeg, fEq, fNe, fIsN, isNon, fAnd, fOr, fNot, fB, tNot, tAnd, tOr, fChain, fIx, fLen, fListOf, fMin, fMax, fInL, fSlL, tSl, fPart, tNoPart, fAppend, fBM, fSetL, gSub, fGNil, fGCons, fGTup, fGLst, fDGet2, sDPutF, tDNewK, fCat, fClear, fBM0, fSlT, fInt1, tCBK, fDIn, fDGet, fIsi, fBools, fDictL, fLtT, tCall, tCB, tCons, tNil, tTup, tLst, tIf, tTrue, Kd.nm, L2.start, List.map_cons, List.map_nil, List.length_cons, List.length_nil, Nat.reduceAdd, Nat.reduceSub, List.replicate_succ, List.replicate_zero, List.getElem?_cons_zero, List.getElem?_cons_succ, List.set_cons_zero, List.set_cons_succ, List.append_nil, List.nil_append, List.cons_append, eq_self, true_and, and_true, if_true, Bool.false_eq_true, if_false, Bool.not_true, Bool.not_false, id_eq, sl0, sl1, sl2, sl3, sl4, seqOf, es, at0, at1, at2, ix30, ix31, ix32, upd_same, upd_upd]
  have lo : ∀ n : Int, 0 ≤ n % m := fun n => Int.emod_nonneg _ (by omega)
  have hi : ∀ n : Int, n % m < m := fun n => Int.emod_lt_of_pos _ (by omega)
  have y0 : 0 ≤ (x * 48271 + 39373) % 2147483647 := Int.emod_nonneg _ (by decide)
  have y1 : (x * 48271 + 39373) % 2147483647 < 2147483647 := Int.emod_lt_of_pos _ (by decide)
  generalize (x * 48271 + 39373) % 2147483647 = y at y0 y1
  have z0 : 0 ≤ (y * 48271 + 39373) % 2147483647 := Int.emod_nonneg _ (by decide)
  have z1 : (y * 48271 + 39373) % 2147483647 < 2147483647 := Int.emod_lt_of_pos _ (by decide)
  generalize (y * 48271 + 39373) % 2147483647 = z at z0 z1
  have cd : CDiv c m := ⟨by omega, by omega⟩
  have cd2 : ∀ n : Int, CDiv n 16 := fun n => ⟨by decide, by decide⟩
  have cp : CPow 10 6 := ⟨by decide, by decide, by decide⟩
  refine ite2 (fun _ => ⟨by omega, cd, h _ _ (lo _) (hi _) ⟨_, _, _, rfl, x0, x1⟩⟩) (fun _ => ⟨cmR (by decide) (by decide), by decide, cmL (by omega) (by omega), by decide, cd2 _, cp, ?_⟩)
  refine ite2 (fun _ => ⟨cmR (by decide) (by decide), by decide, cmR (by decide) (by decide), by omega, h _ _ (lo _) (hi _) ⟨_, _, _, rfl, z0, by omega⟩⟩) (fun _ => ⟨by omega, h _ _ (lo _) (hi _) ⟨_, _, _, rfl, y0, by omega⟩⟩)
local macro_rules | `(tactic| walk_at "RD") => `(tactic| try simp only [fInsS, fIsB, tSeq, tNext, tDrop, tRet, tRetN, tIfS, tAsg, gName, fAug, tOp, tUn, tC, fVar, fI, fIC, fNeg, fEq, fNe, fIsN, isNon, fAnd, fOr, fNot, fB, tNot, tAnd, tOr, fChain, fIx, fLen, fListOf, fMin, fMax, fInL, fSlL, tSl, fPart, tNoPart, fAppend, fBM, fSetL, gSub, fGNil, fGCons, fGTup, fGLst, fDGet2, sDPutF, tDNewK, fCat, fClear, fBM0, fSlT, fInt1, tCBK, fDIn, fDGet, fIsi, fBools, fDictL, fLtT, tCall, tCB, tCons, tNil, tTup, tLst, tIf, tTrue, Kd.nm, L2.start, List.map_cons, List.map_nil, List.length_cons, List.length_nil, Nat.reduceAdd, Nat.reduceSub, List.replicate_succ, List.replicate_zero, List.getElem?_cons_zero, List.getElem?_cons_succ, List.set_cons_zero, List.set_cons_succ, List.append_nil, List.nil_append, List.cons_append, eq_self, true_and, and_true, if_true, Bool.false_eq_true, if_false, Bool.not_true, Bool.not_false, id_eq, sl0, sl1, sl2, sl3, sl4])
theorem ok_law_begun {f : Addr} {fd : FuncData}  (B : Blt mg) (D : DefAt K mg "_law_begun" (top 30) ["_law_script", "_law_k"] f fd) : FnOk P w K mg base CX0 1 f fd ["_law_script", "_law_k"] (spBegun K) := by
  have sc : FnScope ["_law_script", "_law_k", "_law_cell", "_law_start"] ["_law_script", "_law_k"] (defScope (top 30)) := ⟨rfl, rfl, rfl, by decide +kernel, rfl, by decide +kernel, by decide +kernel⟩
  refine D.F.ok sc (fun vs H Q E h => ?_) (fun cdv A outer s H vs Q E hr h => ?_)
  · obtain ⟨a, k, ns, rfl, _⟩ := h
    rfl
  obtain ⟨a, k, ns, rfl, hs, k0, k1, h⟩ := h
  have hu := hu_of hr
  have hu0 : _ < PySem.cLine := Nat.lt_of_succ_lt hu
  refine ⟨_, (pss_cons (ps_set (i := 2) sc.nd rfl (Or.inl rfl) pe_int) (pss_cons (ps_if (qt_cmp q_lt (qv 1) (pe_callB call_len_seq rfl B.len PySem.boot_len (pa_cons (qv 0) pa_nil)) (nomark _)) (pss_one (ps_set (i := 2) sc.nd rfl (Or.inl rfl) (pe_ix ix_list (qv 0) (qv 1) (fun _ _ => rfl)))) pss_nil) (pss_cons (ps_set (i := 3) sc.nd rfl (Or.inl rfl) (pe_op q_add (pe_op q_add (pe_op q_mod (qv 2) pe_int) (pe_op q_mul pe_int (qv 1))) (pe_op q_mul pe_int (pe_op q_fdiv (qv 1) pe_int)))) (pss_one (ps_ret (pe_lst (pa_cons (qv 2) (pa_cons (pe_op q_mod (qv 3) pe_int) (pa_cons (pe_cmpR q_ge (qv 2) (pe_op q_pow pe_int pe_int) (nomark _)) pa_nil))))))))), ?_⟩
  walk_at "RD"
  refine ⟨a, _, rfl, .inl hs.sq, ?_⟩
  try simp only [fInsS, fIsB, tSeq, tNext, tDrop, tRet, tRetN, tIfS, tAsg, gName, fAug, tOp, tUn, tC, fVar, fI, fIC, fNeg, fEq, fNe, fIsN, isNon, fAnd, fOr, fNot, fB, tNot, tAnd, tOr, fChain, fIx, fLen, fListOf, fMin, fMax, fInL, fSlL, tSl, fPart, tNoPart, fAppend, fBM, fSetL, gSub, fGNil, fGCons, fGTup, fGLst, fDGet2, sDPutF, tDNewK, fCat, fClear, fBM0, fSlT, fInt1, tCBK, fDIn, fDGet, fIsi, fBools, fDictL, fLtT, tCall, tCB, tCons, tNil, tTup, tLst, tIf, tTrue, Kd.nm, L2.start, List.map_cons, List.map_nil, List.length_cons, List.length_nil, Nat.reduceAdd, Nat.reduceSub, List.replicate_succ, List.replicate_zero, List.getElem?_cons_zero, List.getElem?_cons_succ, List.set_cons_zero, List.set_cons_succ, List.append_nil, List.nil_append, List.cons_append, eq_self, true_and, and_true, if_true, Bool.false_eq_true, if_false, Bool.not_true, Bool.not_false, id_eq, sl0, sl1, sl2, sl3, sl4, List.length_map, rIxL]
  have q0 : ∀ n : Int, 0 ≤ n % 2147483629 := fun n => Int.emod_nonneg _ (by decide)
  have q1 : ∀ n : Int, n % 2147483629 < 2147483629 := fun n => Int.emod_lt_of_pos _ (by decide)
  have cp : CPow 10 18 := ⟨by decide, by decide, by decide⟩
  have cd : CDiv k 7 := ⟨by decide, by decide⟩
  refine ite2 (fun c => ?_) (fun c => ?_)
  · have c' : k < (ns.length : Int) := of_decide_eq_true c
    have hk : k.toNat < ns.length := by omega
    have e1 : atI (ns.map V.int) ((k.toNat : Nat) : Int) = some (.int ns[k.toNat]) := atI_nat (by rw [List.getElem?_map, List.getElem?_eq_getElem hk]; rfl)
    rw [show ((k.toNat : Nat) : Int) = k by omega] at e1
    refine ⟨a, _, k, _, rfl, rfl, hs.sq, e1, ?_⟩
    walk_at "RD"
    exact ⟨by decide, cmL (by decide) (by decide), cd, cmL (by decide) (by decide), by decide, cp, fun p hp => h p _ hp ⟨_, _, _, rfl, q0 _, by have := q1 (ns[k.toNat] % 2147483629 + 104729 * k + 7919 * (k / 7)); omega⟩⟩
  · exact ⟨by decide, cmL (by decide) (by decide), cd, cmL (by decide) (by decide), by decide, cp, fun p hp => h p _ hp ⟨_, _, _, rfl, q0 _, by have := q1 (0 % 2147483629 + 104729 * k + 7919 * (k / 7)); omega⟩⟩
theorem ok_law_copy {f : Addr} {fd : FuncData}  (B : Blt mg) (D : DefAt K mg "_law_copy" (top 35) ["_law_web_here"] f fd) : FnOk P w K mg base CX0 1 f fd ["_law_web_here"] spCopy := by
  have sc : FnScope ["_law_web_here"] ["_law_web_here"] (defScope (top 35)) := ⟨rfl, rfl, rfl, by decide +kernel, rfl, by decide +kernel, by decide +kernel⟩
  refine D.F.ok sc (fun vs H Q E h => ?_) (fun cdv A outer s H vs Q E hr h => ?_)
  · obtain ⟨v, ps, ts, rfl, _⟩ := h
    rfl
  obtain ⟨v, ps, ts, rfl, hw, h⟩ := h
  obtain ⟨u, pa, ta, xs, ys, rfl, eu, ep, et, pp, pt⟩ := id hw
  have hu := hu_of hr
  have hu0 : _ < PySem.cLine := Nat.lt_of_succ_lt hu
  refine ⟨_, (pss_one (ps_ret (pe_tup (pa_cons (pe_callTy q_listOf rfl B.list PyProof.Rows.boot_list (pa_cons (pe_ix q_ix (qv 0) pe_int (fun _ _ => rfl)) pa_nil)) (pa_cons (pe_callTy q_listOf rfl B.list PyProof.Rows.boot_list (pa_cons (pe_ix q_ix (qv 0) pe_int (fun _ _ => rfl)) pa_nil)) pa_nil))))), ?_⟩
  try simp only [fInsS, fIsB, tSeq, tNext, tDrop, tRet, tRetN, tIfS, tAsg, gName, fAug, tOp, tUn, tC, fVar, fI, fIC, fNeg, fEq, fNe, fIsN, isNon, fAnd, fOr, fNot, fB, tNot, tAnd, tOr, fChain, fIx, fLen, fListOf, fMin, fMax, fInL, fSlL, tSl, fPart, tNoPart, fAppend, fBM, fSetL, gSub, fGNil, fGCons, fGTup, fGLst, fDGet2, sDPutF, tDNewK, fCat, fClear, fBM0, fSlT, fInt1, tCBK, fDIn, fDGet, fIsi, fBools, fDictL, fLtT, tCall, tCB, tCons, tNil, tTup, tLst, tIf, tTrue, Kd.nm, L2.start, List.map_cons, List.map_nil, List.length_cons, List.length_nil, Nat.reduceAdd, Nat.reduceSub, List.replicate_succ, List.replicate_zero, List.getElem?_cons_zero, List.getElem?_cons_succ, List.set_cons_zero, List.set_cons_succ, List.append_nil, List.nil_append, List.cons_append, eq_self, true_and, and_true, if_true, Bool.false_eq_true, if_false, Bool.not_true, Bool.not_false, id_eq, sl0, sl1, sl2, sl3, sl4, seqOf, eu, ep, at0, at1]
  intro l1 h1
  have s1 : Same H (upd H l1 (.lst xs)) := same_new h1 _
  try simp only [fInsS, fIsB, tSeq, tNext, tDrop, tRet, tRetN, tIfS, tAsg, gName, fAug, tOp, tUn, tC, fVar, fI, fIC, fNeg, fEq, fNe, fIsN, isNon, fAnd, fOr, fNot, fB, tNot, tAnd, tOr, fChain, fIx, fLen, fListOf, fMin, fMax, fInL, fSlL, tSl, fPart, tNoPart, fAppend, fBM, fSetL, gSub, fGNil, fGCons, fGTup, fGLst, fDGet2, sDPutF, tDNewK, fCat, fClear, fBM0, fSlT, fInt1, tCBK, fDIn, fDGet, fIsi, fBools, fDictL, fLtT, tCall, tCB, tCons, tNil, tTup, tLst, tIf, tTrue, Kd.nm, L2.start, List.map_cons, List.map_nil, List.length_cons, List.length_nil, Nat.reduceAdd, Nat.reduceSub, List.replicate_succ, List.replicate_zero, List.getElem?_cons_zero, List.getElem?_cons_succ, List.set_cons_zero, List.set_cons_succ, List.append_nil, List.nil_append, List.cons_append, eq_self, true_and, and_true, if_true, Bool.false_eq_true, if_false, Bool.not_true, Bool.not_false, id_eq, sl0, sl1, sl2, sl3, sl4, seqOf, s1 _ _ eu, s1 _ _ et, at0, at1]
  intro l2 h2
  have s2 : Same H (upd (upd H l1 (.lst xs)) l2 (.lst ys)) := s1.trans (same_new h2 _)
  intro t h3
  have s3 : Same (upd (upd H l1 (.lst xs)) l2 (.lst ys)) (upd (upd (upd H l1 (.lst xs)) l2 (.lst ys)) t (.tup [.ref l1, .ref l2])) := same_new h3 _
  refine h _ _ (s2.trans s3) ⟨t, l1, l2, xs, ys, rfl, upd_same, s3 _ _ (same_new h2 _ _ _ upd_same), s3 _ _ upd_same, Prs.same (s2.trans s3) pp, Prs.same (s2.trans s3) pt⟩
theorem ok_law_places {f : Addr} {fd : FuncData} {f_law_take : Addr} {d_law_take : FuncData} (B : Blt mg) (D : DefAt K mg "_law_places" (top 32) ["_law_state", "_law_count"] f fd) (D_law_take : DefAt K mg "_law_take" (top 31) ["_law_state", "_law_many"] f_law_take d_law_take) (G_law_take : FnOk P w K mg base CX0 1 f_law_take d_law_take ["_law_state", "_law_many"] spTake) : FnOk P w K mg base CX0 2 f fd ["_law_state", "_law_count"] spPlaces := by
  have sc : FnScope ["_law_state", "_law_count", "_law_kind", "_law_places_here", "_law_number", "_law_k"] ["_law_state", "_law_count"] (defScope (top 32)) := ⟨rfl, rfl, rfl, by decide +kernel, rfl, by decide +kernel, by decide +kernel⟩
  refine D.F.ok sc (fun vs H Q E h => ?_) (fun cdv A outer s H vs Q E hr h => ?_)
  · obtain ⟨s, o, n, rfl, _⟩ := h
    rfl
  obtain ⟨st, o, n, rfl, es, so, n0, n1, h⟩ := h
  have hu := hu_of hr
  have hu0 : _ < PySem.cLine := Nat.lt_of_succ_lt hu
  refine ⟨_, (pss_cons (ps_set (i := 2) sc.nd rfl (Or.inl rfl) (pe_call G_law_take (hr.mono (by decide)) rfl D_law_take.m D_law_take.F.kp D_law_take.b .nil pass0 (pa_cons (qv 0) (pa_cons pe_int pa_nil)))) (pss_cons (ps_set (i := 3) sc.nd rfl (Or.inl rfl) (pe_lst pa_nil)) (pss_cons (ps_set (i := 4) sc.nd rfl (Or.inl rfl) (pe_un q_neg pe_int)) (pss_cons (ps_for PassesOwn.never rfl (pi_range1 rfl B.range (pa_cons (qv 1) pa_nil)) (pg_name (i := 5) sc.nd rfl (Or.inl rfl)) (pss_cons (ps_set (i := 4) sc.nd rfl (Or.inl rfl) (pe_op q_add (pe_op q_add (qv 4) pe_int) (pe_call G_law_take (hr.mono (by decide)) rfl D_law_take.m D_law_take.F.kp D_law_take.b .nil pass0 (pa_cons (qv 0) (pa_cons (pe_ix q_ix (pe_lst (pa_cons pe_int (pa_cons pe_int (pa_cons pe_int (pa_cons pe_int pa_nil))))) (pe_call G_law_take (hr.mono (by decide)) rfl D_law_take.m D_law_take.F.kp D_law_take.b .nil pass0 (pa_cons (qv 0) (pa_cons pe_int pa_nil))) (fun _ _ => rfl)) pa_nil))))) (pss_one (ps_expr (q_bm PySem.F.plainAttrs_list PySem.F.slot_list_append PySem.F.type_list_append q_append (qv 3) (pa_cons (pe_tup (pa_cons (qv 4) (pa_cons (pe_op q_add pe_int (pe_call G_law_take (hr.mono (by decide)) rfl D_law_take.m D_law_take.F.kp D_law_take.b .nil pass0 (pa_cons (qv 0) (pa_cons (pe_ix q_ix (pe_lst (pa_cons pe_int (pa_cons pe_int (pa_cons pe_int (pa_cons (pe_op q_pow pe_int pe_int) pa_nil))))) (qv 2) (fun _ _ => rfl)) pa_nil)))) pa_nil))) pa_nil)))))) (pss_one (ps_ret (qv 3))))))), ?_⟩
  walk_at "RD"
  refine ⟨st, o, 4, rfl, es, so, by decide, by decide, fun kind o1 k0 k1 so1 => ?_⟩
  walk_at "RD"
  intro r hr1
  have nr : r ≠ st := fun z => by rw [z, upd_same] at hr1; cases hr1
  have hr0 : H r = none := by rw [← hr1, upd_ne nr]
  refine ⟨n, rfl, by omega, by omega, for_range (n := n.toNat) (fun i σ H1 => ∃ l kk ps xs o', σ = [some (.ref st), some (.int n), some (.int kind), some (.ref r), some (.int l), kk] ∧ But st H H1 ∧ H1 st = some o' ∧ StO o' ∧ H1 r = some (.lst xs) ∧ Prs H1 xs ps ∧ ps.length = i ∧ Dr (-1) ps ∧ l = lastP (-1) ps) ?_ ?_ ?_⟩
  · refine ⟨-1, none, [], [], o1, rfl, fun b u nb q => ?_, by rw [upd_ne nr.symm, upd_same], so1, upd_same, .nil, rfl, trivial, rfl⟩
    rw [upd_ne (ne_of_none q hr0), upd_ne nb]
    exact q
  · rintro i σ H1 hi ⟨l, kk, ps, xs, o', rfl, b1, e1, so', er, pp, hlen, dr, el⟩
    have hlx : xs.length = ps.length := Paired.length pp
    walk_at "RD"
    intro p1 hp1
    have np : p1 ≠ st := (ne_of_none e1 hp1).symm
    have nr1 : r ≠ p1 := ne_of_none er hp1
    refine ⟨st, o', 4, rfl, (by rw [upd_ne np.symm]; exact e1), so', by decide, by decide, fun d1 o2 d10 d11 so2 => ?_⟩
    obtain ⟨v, ev, v0, v1⟩ : ∃ v, atI [V.int 1, .int 2, .int 6, .int 23] d1 = some (.int v) ∧ 1 ≤ v ∧ v ≤ 23 := by
      obtain ⟨v, ev, hv⟩ := menu4 (a := 1) (b := 2) (c := 6) (e := 23) d10 d11
      exact ⟨v, ev, by omega, by omega⟩
    try simp only [fInsS, fIsB, tSeq, tNext, tDrop, tRet, tRetN, tIfS, tAsg, gName, fAug, tOp, tUn, tC, fVar, fI, fIC, fNeg, fEq, fNe, fIsN, isNon, fAnd, fOr, fNot, fB, tNot, tAnd, tOr, fChain, fIx, fLen, fListOf, fMin, fMax, fInL, fSlL, tSl, fPart, tNoPart, fAppend, fBM, fSetL, gSub, fGNil, fGCons, fGTup, fGLst, fDGet2, sDPutF, tDNewK, fCat, fClear, fBM0, fSlT, fInt1, tCBK, fDIn, fDGet, fIsi, fBools, fDictL, fLtT, tCall, tCB, tCons, tNil, tTup, tLst, tIf, tTrue, Kd.nm, L2.start, List.map_cons, List.map_nil, List.length_cons, List.length_nil, Nat.reduceAdd, Nat.reduceSub, List.replicate_succ, List.replicate_zero, List.getElem?_cons_zero, List.getElem?_cons_succ, List.set_cons_zero, List.set_cons_succ, List.append_nil, List.nil_append, List.cons_append, eq_self, true_and, and_true, if_true, Bool.false_eq_true, if_false, Bool.not_true, Bool.not_false, id_eq, sl0, sl1, sl2, sl3, sl4, seqOf, upd_ne np, upd_same, ev]
    refine ⟨st, o2, v, rfl, upd_same, so2, by omega, by omega, fun d2 o3 d20 d21 so3 => ?_⟩
    try simp only [fInsS, fIsB, tSeq, tNext, tDrop, tRet, tRetN, tIfS, tAsg, gName, fAug, tOp, tUn, tC, fVar, fI, fIC, fNeg, fEq, fNe, fIsN, isNon, fAnd, fOr, fNot, fB, tNot, tAnd, tOr, fChain, fIx, fLen, fListOf, fMin, fMax, fInL, fSlL, tSl, fPart, tNoPart, fAppend, fBM, fSetL, gSub, fGNil, fGCons, fGTup, fGLst, fDGet2, sDPutF, tDNewK, fCat, fClear, fBM0, fSlT, fInt1, tCBK, fDIn, fDGet, fIsi, fBools, fDictL, fLtT, tCall, tCB, tCons, tNil, tTup, tLst, tIf, tTrue, Kd.nm, L2.start, List.map_cons, List.map_nil, List.length_cons, List.length_nil, Nat.reduceAdd, Nat.reduceSub, List.replicate_succ, List.replicate_zero, List.getElem?_cons_zero, List.getElem?_cons_succ, List.set_cons_zero, List.set_cons_succ, List.append_nil, List.nil_append, List.cons_append, eq_self, true_and, and_true, if_true, Bool.false_eq_true, if_false, Bool.not_true, Bool.not_false, id_eq, sl0, sl1, sl2, sl3, sl4, upd_upd]
    have b3 : But st H1 (upd (upd H1 p1 (.lst [.int 1, .int 2, .int 6, .int 23])) st o3) := (But.new hp1).trans (But.at _ _ _)
    have e3 : (upd (upd H1 p1 (.lst [.int 1, .int 2, .int 6, .int 23])) st o3) st = some o3 := upd_same
    generalize upd (upd H1 p1 (.lst [.int 1, .int 2, .int 6, .int 23])) st o3 = H3 at b3 e3
    have t3 : TupS H1 H3 := b3.tups e1 so'.imm
    have er3 := b3 _ _ nr er
    refine ⟨⟨r, xs, rfl, er3⟩, ⟨by decide, by decide, by decide⟩, ?_⟩
    intro p2 hp2
    have np2 : p2 ≠ st := (ne_of_none e3 hp2).symm
    have nr2 : r ≠ p2 := ne_of_none er3 hp2
    obtain ⟨v2, ev2, v20, v21⟩ : ∃ v, atI [V.int 1, .int 3, .int 9, .int (10 ^ Int.toNat 9)] kind = some (.int v) ∧ 1 ≤ v ∧ v ≤ 1000000000 := by
      obtain ⟨v, ev, hv⟩ := menu4 (a := 1) (b := 3) (c := 9) (e := 10 ^ Int.toNat 9) k0 k1
      rw [p9] at hv
      exact ⟨v, ev, by omega, by omega⟩
    try simp only [fInsS, fIsB, tSeq, tNext, tDrop, tRet, tRetN, tIfS, tAsg, gName, fAug, tOp, tUn, tC, fVar, fI, fIC, fNeg, fEq, fNe, fIsN, isNon, fAnd, fOr, fNot, fB, tNot, tAnd, tOr, fChain, fIx, fLen, fListOf, fMin, fMax, fInL, fSlL, tSl, fPart, tNoPart, fAppend, fBM, fSetL, gSub, fGNil, fGCons, fGTup, fGLst, fDGet2, sDPutF, tDNewK, fCat, fClear, fBM0, fSlT, fInt1, tCBK, fDIn, fDGet, fIsi, fBools, fDictL, fLtT, tCall, tCB, tCons, tNil, tTup, tLst, tIf, tTrue, Kd.nm, L2.start, List.map_cons, List.map_nil, List.length_cons, List.length_nil, Nat.reduceAdd, Nat.reduceSub, List.replicate_succ, List.replicate_zero, List.getElem?_cons_zero, List.getElem?_cons_succ, List.set_cons_zero, List.set_cons_succ, List.append_nil, List.nil_append, List.cons_append, eq_self, true_and, and_true, if_true, Bool.false_eq_true, if_false, Bool.not_true, Bool.not_false, id_eq, sl0, sl1, sl2, sl3, sl4, seqOf, upd_same, ev2]
    refine ⟨st, o3, v2, rfl, (by rw [upd_ne np2.symm]; exact e3), so3, by omega, by omega, fun d3 o4 d30 d31 so4 => ?_⟩
    walk_at "RD"
    have b4 : But st H3 (upd (upd H3 p2 (.lst [.int 1, .int 3, .int 9, .int (10 ^ Int.toNat 9)])) st o4) := (But.new hp2).trans (But.at _ _ _)
    have e4 : (upd (upd H3 p2 (.lst [.int 1, .int 3, .int 9, .int (10 ^ Int.toNat 9)])) st o4) st = some o4 := upd_same
    generalize upd (upd H3 p2 (.lst [.int 1, .int 3, .int 9, .int (10 ^ Int.toNat 9)])) st o4 = H4 at b4 e4
    have t4 : TupS H3 H4 := b4.tups e3 so3.imm
    have er4 := b4 _ _ nr er3
    intro t ht
    have nt : t ≠ st := (ne_of_none e4 ht).symm
    have er5 : upd H4 t (.tup [.int (l + 1 + d2), .int (1 + d3)]) r = some (.lst xs) := by rw [upd_ne (ne_of_none er4 ht)]; exact er4
    try simp only [fInsS, fIsB, tSeq, tNext, tDrop, tRet, tRetN, tIfS, tAsg, gName, fAug, tOp, tUn, tC, fVar, fI, fIC, fNeg, fEq, fNe, fIsN, isNon, fAnd, fOr, fNot, fB, tNot, tAnd, tOr, fChain, fIx, fLen, fListOf, fMin, fMax, fInL, fSlL, tSl, fPart, tNoPart, fAppend, fBM, fSetL, gSub, fGNil, fGCons, fGTup, fGLst, fDGet2, sDPutF, tDNewK, fCat, fClear, fBM0, fSlT, fInt1, tCBK, fDIn, fDGet, fIsi, fBools, fDictL, fLtT, tCall, tCB, tCons, tNil, tTup, tLst, tIf, tTrue, Kd.nm, L2.start, List.map_cons, List.map_nil, List.length_cons, List.length_nil, Nat.reduceAdd, Nat.reduceSub, List.replicate_succ, List.replicate_zero, List.getElem?_cons_zero, List.getElem?_cons_succ, List.set_cons_zero, List.set_cons_succ, List.append_nil, List.nil_append, List.cons_append, eq_self, true_and, and_true, if_true, Bool.false_eq_true, if_false, Bool.not_true, Bool.not_false, id_eq, sl0, sl1, sl2, sl3, sl4, er5]
    have t5 : TupS H4 (upd H4 t (.tup [.int (l + 1 + d2), .int (1 + d3)])) := tups_new ht
    have t6 := tups_lst (ys := xs ++ [.ref t]) er5
    refine ⟨szl' (by omega), l + 1 + d2, _, ps ++ [(l + 1 + d2, 1 + d3)], _, o4, rfl, fun b u nb q => ?_, ?_, so4, (by first | rfl | exact upd_same), ?_, ?_, ?_, ?_⟩
    · have q1 := b4 _ _ nb (b3 _ _ nb (b1 _ _ nb q))
      rw [upd_ne (ne_of_none q hr0), upd_ne (ne_of_none q1 ht)]
      exact q1
    · rw [upd_ne nr.symm, upd_ne nt.symm]
      exact e4
    · exact paired_snoc (Prs.tups (((t3.trans t4).trans t5).trans t6) pp) (Pr.tups ⟨t, rfl, upd_same⟩ t6)
    · rw [List.length_append, hlen]
      rfl
    · exact dr.snoc ⟨by show _ < l + 1 + d2; omega, by show l + 1 + d2 ≤ _; omega, by show 1 ≤ 1 + d3; omega, by show 1 + d3 ≤ _; omega⟩
    · rw [lastP_snoc]
  · rintro σ H1 ⟨l, kk, ps, xs, o', rfl, b1, e1, so', er, pp, hlen, dr, el⟩
    walk_at "RD"
    exact h r H1 o' xs ps hr0 b1 e1 so' er pp (by omega) dr
end
end My

set_option Elab.async false
set_option linter.all false
set_option maxRecDepth 100000
set_option maxHeartbeats 4000000
namespace My
open PySem L2
section
variable {P : Program} {w : World} {K : PySem.W.Frag} {mg : Str → Option Value} {base : Heap} {c1 c2 c3 c4 : Tok}
theorem Dr.prices : ∀ {ps : List (Int × Int)} {l : Int}, Dr l ps → ∀ p ∈ ps, 1 ≤ p.2 ∧ p.2 ≤ 1000000000
  | [], _, _, _, h => by cases h
  | q :: r, l, h, p, hp => by
    rcases List.mem_cons.mp hp with e | hp
    · rw [e]; exact ⟨h.1.2.2.1, h.1.2.2.2⟩
    · exact Dr.prices h.2 p hp
mutual
def dep : Dt → Nat
  | .tup ds => deps ds + 1
  | .lst ds => deps ds + 1
  | _ => 1
def deps : List Dt → Nat
  | [] => 0
  | d :: ds => max (dep d) (deps ds)
end
mutual
def wid : Dt → Nat
  | .tup ds => max ds.length (wids ds)
  | .lst ds => max ds.length (wids ds)
  | _ => 0
def wids : List Dt → Nat
  | [] => 0
  | d :: ds => max (wid d) (wids ds)
end
theorem deps_at : ∀ {ds : List Dt} {i : Nat} {d : Dt}, ds[i]? = some d → dep d ≤ deps ds
  | [], i, d, h => by simp at h
  | x :: r, 0, d, h => by simp at h; subst h; rw [deps]; exact Nat.le_max_left _ _
  | x :: r, i + 1, d, h => by rw [deps]; exact Nat.le_trans (deps_at (i := i) (by simpa using h)) (Nat.le_max_right _ _)
theorem wids_at : ∀ {ds : List Dt} {i : Nat} {d : Dt}, ds[i]? = some d → wid d ≤ wids ds
  | [], i, d, h => by simp at h
  | x :: r, 0, d, h => by simp at h; subst h; rw [wids]; exact Nat.le_max_left _ _
  | x :: r, i + 1, d, h => by rw [wids]; exact Nat.le_trans (wids_at (i := i) (by simpa using h)) (Nat.le_max_right _ _)
def spSame (n : Nat) : Sp := fun vs H Q _ => ∃ v1 v2 d, vs = [v1, v2] ∧ Rep H d v1 ∧ Rep H d v2 ∧ dep d ≤ n ∧ wid d ≤ 1000 ∧ ∀ H', Same H H' → Q (.bl true) H'
theorem rep_snoc : ∀ {i : Nat}, (List.replicate i true).map V.bl ++ [V.bl true] = V.bl true :: (List.replicate i true).map V.bl
  | 0 => rfl
  | i + 1 => by
    rw [List.replicate_succ, List.map_cons, List.cons_append, rep_snoc]
theorem rep_all {n : Nat} : ((List.replicate n true).all id) = true := by
  rw [List.all_eq_true]
  intro b hb
  rw [(List.mem_replicate.mp hb).2]
  rfl
local macro_rules | `(tactic| walk_at "RD") => `(tactic| try simp only [fInsS, fIsB, tSeq, tNext, tDrop, tRet, tRetN, tIfS, tAsg, gName, fAug, tOp, tUn, tC, fVar, fI, fIC, fNeg, fEq, fNe, fIsN, isNon, fAnd, fOr, fNot, fB, tNot, tAnd, tOr, fChain, fIx, fLen, fListOf, fMin, fMax, fInL, fSlL, tSl, fPart, tNoPart, fAppend, fBM, fSetL, gSub, fGNil, fGCons, fGTup, fGLst, fDGet2, sDPutF, tDNewK, fCat, fClear, fBM0, fSlT, fInt1, tCBK, fDIn, fDGet, fIsi, fBools, fDictL, fLtT, tCall, tCB, tCons, tNil, tTup, tLst, tIf, tTrue, Kd.nm, L2.start, List.map_cons, List.map_nil, List.length_cons, List.length_nil, Nat.reduceAdd, Nat.reduceSub, List.replicate_succ, List.replicate_zero, List.getElem?_cons_zero, List.getElem?_cons_succ, List.set_cons_zero, List.set_cons_succ, List.append_nil, List.nil_append, List.cons_append, eq_self, true_and, and_true, if_true, Bool.false_eq_true, if_false, Bool.not_true, Bool.not_false, id_eq, sl0, sl1, sl2, sl3, sl4])
theorem ok_law_same {n : Nat} {f : Addr} {fd : FuncData} {f_law_same : Addr} {d_law_same : FuncData} (B : Blt mg) (D : DefAt K mg "_law_same" (top 34) ["_law_found", "_law_due"] f fd) (D_law_same : DefAt K mg "_law_same" (top 34) ["_law_found", "_law_due"] f_law_same d_law_same) (G_law_same : FnOk P w K mg base CX0 n f_law_same d_law_same ["_law_found", "_law_due"] (spSame n)) : FnOk P w K mg base CX0 (n + 1) f fd ["_law_found", "_law_due"] (spSame (n + 1)) := by
  have sc : FnScope ["_law_found", "_law_due"] ["_law_found", "_law_due"] (defScope (top 34)) := ⟨rfl, rfl, rfl, by decide +kernel, rfl, by decide +kernel, by decide +kernel⟩
  refine D.F.ok sc (fun vs H Q E h => ?_) (fun cdv A outer s H vs Q E hr h => ?_)
  · obtain ⟨v1, v2, d, rfl, _⟩ := h
    rfl
  obtain ⟨v1, v2, d, rfl, r1, r2, hdep, hwid, h⟩ := h
  have hu := hu_of hr
  have hu0 : _ < PySem.cLine := Nat.lt_of_succ_lt hu
  refine ⟨_, (pss_cons (ps_if (PW.pt (pw_or (qt_val (pe_callB (q_isi .lst) rfl B.isinstance PyProof.Rows.boot_isinstance (pa_cons (qv 1) (pa_cons (pe_bltn (v := .ty "list") rfl B.list PyProof.Rows.boot_list rfl) pa_nil)))) (pw_or1 (qt_val (pe_callB (q_isi .tup) rfl B.isinstance PyProof.Rows.boot_isinstance (pa_cons (qv 1) (pa_cons (pe_bltn (v := .ty "tuple") rfl B.tuple PyProof.Rows.boot_tuple rfl) pa_nil))))))) (pss_cons (ps_if (PW.pt (pw_and (pt_not (qt_val (pe_callB (q_isi .lst) rfl B.isinstance PyProof.Rows.boot_isinstance (pa_cons (qv 0) (pa_cons (pe_bltn (v := .ty "list") rfl B.list PyProof.Rows.boot_list rfl) pa_nil))))) (pw_and1 (pt_not (qt_val (pe_callB (q_isi .tup) rfl B.isinstance PyProof.Rows.boot_isinstance (pa_cons (qv 0) (pa_cons (pe_bltn (v := .ty "tuple") rfl B.tuple PyProof.Rows.boot_tuple rfl) pa_nil)))))))) (pss_one (ps_ret pe_bl)) pss_nil) (pss_cons (ps_if (PW.pt (pw_or (qt_cmp q_ne (pe_callB (q_isi .lst) rfl B.isinstance PyProof.Rows.boot_isinstance (pa_cons (qv 0) (pa_cons (pe_bltn (v := .ty "list") rfl B.list PyProof.Rows.boot_list rfl) pa_nil))) (pe_callB (q_isi .lst) rfl B.isinstance PyProof.Rows.boot_isinstance (pa_cons (qv 1) (pa_cons (pe_bltn (v := .ty "list") rfl B.list PyProof.Rows.boot_list rfl) pa_nil))) (nomark _)) (pw_or1 (qt_cmp q_ne (pe_callB q_len rfl B.len PySem.boot_len (pa_cons (qv 0) pa_nil)) (pe_callB q_len rfl B.len PySem.boot_len (pa_cons (qv 1) pa_nil)) (nomark _))))) (pss_one (ps_ret pe_bl)) pss_nil) (pss_one (ps_ret (pe_callB (q_all rfl) rfl B.all PyProof.Rows.boot_all (pa_cons (pe_comp (CpScope.of (N := ["_law_one", "_law_other"]) (src := [none, none]) (by rfl)) rfl (pi_zipE rfl B.zip (pa_cons (qv 0) (pa_cons (qv 1) pa_nil))) (fun _ _ _ _ => (qg_tup (n := 2) rfl (qgs_cons (pg_name (i := 0) (nodupB_ok (l := ["_law_one", "_law_other"]) (by rfl)) rfl (Or.inl rfl)) (qgs_cons (pg_name (i := 1) (nodupB_ok (l := ["_law_one", "_law_other"]) (by rfl)) rfl (Or.inl rfl)) qgs_nil)))) (fun _ _ _ _ => pif_nil) (fun _ _ _ _ => (pe_call G_law_same hr rfl D_law_same.m D_law_same.F.kp D_law_same.b .nil pass0 (pa_cons (qv 0) (pa_cons (qv 1) pa_nil))))) pa_nil)))))) pss_nil) (pss_cons (ps_if (qt_cmp q_isN (qv 1) pe_non (nomark _)) (pss_one (ps_ret (pe_cmpR q_isN (qv 0) pe_non (nomark _)))) pss_nil) (pss_cons (ps_if (PW.pt (pw_or (qt_val (pe_callB (q_isi .bl) rfl B.isinstance PyProof.Rows.boot_isinstance (pa_cons (qv 1) (pa_cons (pe_bltn (v := .ty "bool") rfl B.bool PyProof.Rows.boot_bool rfl) pa_nil)))) (pw_or1 (qt_val (pe_callB (q_isi .bl) rfl B.isinstance PyProof.Rows.boot_isinstance (pa_cons (qv 0) (pa_cons (pe_bltn (v := .ty "bool") rfl B.bool PyProof.Rows.boot_bool rfl) pa_nil))))))) (pss_one (ps_ret (q_and (pe_callB (q_isi .bl) rfl B.isinstance PyProof.Rows.boot_isinstance (pa_cons (qv 1) (pa_cons (pe_bltn (v := .ty "bool") rfl B.bool PyProof.Rows.boot_bool rfl) pa_nil))) (q_and (pe_callB (q_isi .bl) rfl B.isinstance PyProof.Rows.boot_isinstance (pa_cons (qv 0) (pa_cons (pe_bltn (v := .ty "bool") rfl B.bool PyProof.Rows.boot_bool rfl) pa_nil))) (pe_one (pe_cmpR q_eq (qv 0) (qv 1) (nomark _))))))) pss_nil) (pss_cons (ps_if (qt_val (pe_callB (q_isi .str) rfl B.isinstance PyProof.Rows.boot_isinstance (pa_cons (qv 1) (pa_cons (pe_bltn (v := .ty "str") rfl B.str PyProof.Rows.boot_str rfl) pa_nil)))) (pss_one (ps_ret (q_and (pe_callB (q_isi .str) rfl B.isinstance PyProof.Rows.boot_isinstance (pa_cons (qv 0) (pa_cons (pe_bltn (v := .ty "str") rfl B.str PyProof.Rows.boot_str rfl) pa_nil))) (pe_one (pe_cmpR q_eq (qv 0) (qv 1) (nomark _)))))) pss_nil) (pss_one (ps_ret (q_and (pe_callB (q_isi .int) rfl B.isinstance PyProof.Rows.boot_isinstance (pa_cons (qv 0) (pa_cons (pe_bltn (v := .ty "int") rfl B.int PyProof.Rows.boot_int rfl) pa_nil))) (pe_one (pe_cmpR q_eq (qv 0) (qv 1) (nomark _)))))))))), ?_⟩
  cases d with
  | non =>
    rw [Rep] at r1 r2
    subst r1 r2
    try simp only [fInsS, fIsB, tSeq, tNext, tDrop, tRet, tRetN, tIfS, tAsg, gName, fAug, tOp, tUn, tC, fVar, fI, fIC, fNeg, fEq, fNe, fIsN, isNon, fAnd, fOr, fNot, fB, tNot, tAnd, tOr, fChain, fIx, fLen, fListOf, fMin, fMax, fInL, fSlL, tSl, fPart, tNoPart, fAppend, fBM, fSetL, gSub, fGNil, fGCons, fGTup, fGLst, fDGet2, sDPutF, tDNewK, fCat, fClear, fBM0, fSlT, fInt1, tCBK, fDIn, fDGet, fIsi, fBools, fDictL, fLtT, tCall, tCB, tCons, tNil, tTup, tLst, tIf, tTrue, Kd.nm, L2.start, List.map_cons, List.map_nil, List.length_cons, List.length_nil, Nat.reduceAdd, Nat.reduceSub, List.replicate_succ, List.replicate_zero, List.getElem?_cons_zero, List.getElem?_cons_succ, List.set_cons_zero, List.set_cons_succ, List.append_nil, List.nil_append, List.cons_append, eq_self, true_and, and_true, if_true, Bool.false_eq_true, if_false, Bool.not_true, Bool.not_false, id_eq, sl0, sl1, sl2, sl3, sl4, kd, isi]
    exact h H (Same.refl _)
  | bl b =>
    rw [Rep] at r1 r2
    subst r1 r2
    try simp only [fInsS, fIsB, tSeq, tNext, tDrop, tRet, tRetN, tIfS, tAsg, gName, fAug, tOp, tUn, tC, fVar, fI, fIC, fNeg, fEq, fNe, fIsN, isNon, fAnd, fOr, fNot, fB, tNot, tAnd, tOr, fChain, fIx, fLen, fListOf, fMin, fMax, fInL, fSlL, tSl, fPart, tNoPart, fAppend, fBM, fSetL, gSub, fGNil, fGCons, fGTup, fGLst, fDGet2, sDPutF, tDNewK, fCat, fClear, fBM0, fSlT, fInt1, tCBK, fDIn, fDGet, fIsi, fBools, fDictL, fLtT, tCall, tCB, tCons, tNil, tTup, tLst, tIf, tTrue, Kd.nm, L2.start, List.map_cons, List.map_nil, List.length_cons, List.length_nil, Nat.reduceAdd, Nat.reduceSub, List.replicate_succ, List.replicate_zero, List.getElem?_cons_zero, List.getElem?_cons_succ, List.set_cons_zero, List.set_cons_succ, List.append_nil, List.nil_append, List.cons_append, eq_self, true_and, and_true, if_true, Bool.false_eq_true, if_false, Bool.not_true, Bool.not_false, id_eq, sl0, sl1, sl2, sl3, sl4, kd, isi, decide_true]
    exact h H (Same.refl _)
  | int b =>
    rw [Rep] at r1 r2
    subst r1 r2
    try simp only [fInsS, fIsB, tSeq, tNext, tDrop, tRet, tRetN, tIfS, tAsg, gName, fAug, tOp, tUn, tC, fVar, fI, fIC, fNeg, fEq, fNe, fIsN, isNon, fAnd, fOr, fNot, fB, tNot, tAnd, tOr, fChain, fIx, fLen, fListOf, fMin, fMax, fInL, fSlL, tSl, fPart, tNoPart, fAppend, fBM, fSetL, gSub, fGNil, fGCons, fGTup, fGLst, fDGet2, sDPutF, tDNewK, fCat, fClear, fBM0, fSlT, fInt1, tCBK, fDIn, fDGet, fIsi, fBools, fDictL, fLtT, tCall, tCB, tCons, tNil, tTup, tLst, tIf, tTrue, Kd.nm, L2.start, List.map_cons, List.map_nil, List.length_cons, List.length_nil, Nat.reduceAdd, Nat.reduceSub, List.replicate_succ, List.replicate_zero, List.getElem?_cons_zero, List.getElem?_cons_succ, List.set_cons_zero, List.set_cons_succ, List.append_nil, List.nil_append, List.cons_append, eq_self, true_and, and_true, if_true, Bool.false_eq_true, if_false, Bool.not_true, Bool.not_false, id_eq, sl0, sl1, sl2, sl3, sl4, kd, isi, decide_true]
    exact h H (Same.refl _)
  | str b =>
    rw [Rep] at r1 r2
    subst r1 r2
    try simp only [fInsS, fIsB, tSeq, tNext, tDrop, tRet, tRetN, tIfS, tAsg, gName, fAug, tOp, tUn, tC, fVar, fI, fIC, fNeg, fEq, fNe, fIsN, isNon, fAnd, fOr, fNot, fB, tNot, tAnd, tOr, fChain, fIx, fLen, fListOf, fMin, fMax, fInL, fSlL, tSl, fPart, tNoPart, fAppend, fBM, fSetL, gSub, fGNil, fGCons, fGTup, fGLst, fDGet2, sDPutF, tDNewK, fCat, fClear, fBM0, fSlT, fInt1, tCBK, fDIn, fDGet, fIsi, fBools, fDictL, fLtT, tCall, tCB, tCons, tNil, tTup, tLst, tIf, tTrue, Kd.nm, L2.start, List.map_cons, List.map_nil, List.length_cons, List.length_nil, Nat.reduceAdd, Nat.reduceSub, List.replicate_succ, List.replicate_zero, List.getElem?_cons_zero, List.getElem?_cons_succ, List.set_cons_zero, List.set_cons_succ, List.append_nil, List.nil_append, List.cons_append, eq_self, true_and, and_true, if_true, Bool.false_eq_true, if_false, Bool.not_true, Bool.not_false, id_eq, sl0, sl1, sl2, sl3, sl4, kd, isi, decide_true]
    exact h H (Same.refl _)
  | tup ds =>
    rw [Rep] at r1 r2
    rw [dep] at hdep
    rw [wid] at hwid
    obtain ⟨a1, vs1, rfl, e1, q1⟩ := r1
    obtain ⟨a2, vs2, rfl, e2, q2⟩ := r2
    have l1 := q1.len
    have l2 := q2.len
    try simp only [fInsS, fIsB, tSeq, tNext, tDrop, tRet, tRetN, tIfS, tAsg, gName, fAug, tOp, tUn, tC, fVar, fI, fIC, fNeg, fEq, fNe, fIsN, isNon, fAnd, fOr, fNot, fB, tNot, tAnd, tOr, fChain, fIx, fLen, fListOf, fMin, fMax, fInL, fSlL, tSl, fPart, tNoPart, fAppend, fBM, fSetL, gSub, fGNil, fGCons, fGTup, fGLst, fDGet2, sDPutF, tDNewK, fCat, fClear, fBM0, fSlT, fInt1, tCBK, fDIn, fDGet, fIsi, fBools, fDictL, fLtT, tCall, tCB, tCons, tNil, tTup, tLst, tIf, tTrue, Kd.nm, L2.start, List.map_cons, List.map_nil, List.length_cons, List.length_nil, Nat.reduceAdd, Nat.reduceSub, List.replicate_succ, List.replicate_zero, List.getElem?_cons_zero, List.getElem?_cons_succ, List.set_cons_zero, List.set_cons_succ, List.append_nil, List.nil_append, List.cons_append, eq_self, true_and, and_true, if_true, Bool.false_eq_true, if_false, Bool.not_true, Bool.not_false, id_eq, sl0, sl1, sl2, sl3, sl4, kd, isi, e1, e2, seqOf, l1, l2, decide_true]
    refine tComp_hide (Itz false K a1 a2) H (fun R hR => ?_) (fun l hl => comp_run ds.length (fun i σ' Hc => ∃ w1 w2, σ' = [w1, w2] ∧ Same H Hc ∧ Hc l = some (.lst ((List.replicate i true).map V.bl))) ⟨none, none, rfl, same_new hl _, upd_same⟩ ?_ ?_)
    · unfold iZipE
      walk_at "RD"
      exact ⟨false, a1, a2, rfl, ⟨vs1, SqT.of e1⟩, ⟨vs2, SqT.of e2⟩, hR⟩
    · rintro i σ' Hc hi ⟨w1, w2, rfl, s2, el⟩
      have x1 : vs1[i]? = some (vs1[i]'(by omega)) := List.getElem?_eq_getElem _
      have x2 : vs2[i]? = some (vs2[i]'(by omega)) := List.getElem?_eq_getElem _
      have z1 : SqB false K Hc a1 vs1 := SqT.of (s2 _ _ e1)
      have z2 : SqB false K Hc a2 vs2 := SqT.of (s2 _ _ e2)
      refine ⟨⟨vs1, vs2, _, _, z1, z2, x1, x2⟩, ?_⟩
      rintro x H' ⟨t, y1, y2, ht, rfl, rfl, g1, g2⟩
      obtain ⟨d1, hd1, rr1⟩ := q1.at (g1 _ z1)
      obtain ⟨d2, hd2, rr2⟩ := q2.at (g2 _ z2)
      have ed : d1 = d2 := Option.some.inj (hd1.symm.trans hd2)
      subst ed
      have s3 : Same H (upd Hc t (.tup [y1, y2])) := s2.trans (same_new ht _)
      have b1 := deps_at hd1
      have b2 := wids_at hd1
      try simp only [fInsS, fIsB, tSeq, tNext, tDrop, tRet, tRetN, tIfS, tAsg, gName, fAug, tOp, tUn, tC, fVar, fI, fIC, fNeg, fEq, fNe, fIsN, isNon, fAnd, fOr, fNot, fB, tNot, tAnd, tOr, fChain, fIx, fLen, fListOf, fMin, fMax, fInL, fSlL, tSl, fPart, tNoPart, fAppend, fBM, fSetL, gSub, fGNil, fGCons, fGTup, fGLst, fDGet2, sDPutF, tDNewK, fCat, fClear, fBM0, fSlT, fInt1, tCBK, fDIn, fDGet, fIsi, fBools, fDictL, fLtT, tCall, tCB, tCons, tNil, tTup, tLst, tIf, tTrue, Kd.nm, L2.start, List.map_cons, List.map_nil, List.length_cons, List.length_nil, Nat.reduceAdd, Nat.reduceSub, List.replicate_succ, List.replicate_zero, List.getElem?_cons_zero, List.getElem?_cons_succ, List.set_cons_zero, List.set_cons_succ, List.append_nil, List.nil_append, List.cons_append, eq_self, true_and, and_true, if_true, Bool.false_eq_true, if_false, Bool.not_true, Bool.not_false, id_eq, sl0, sl1, sl2, sl3, sl4, upd_same]
      refine ⟨y1, y2, d1, rfl, Rep.same s3 _ rr1, Rep.same s3 _ rr2, by omega, by omega, fun H5 s5 => ?_⟩
      have el5 := s5 _ _ (same_new ht _ _ _ el)
      refine ⟨_, el5, ?_, _, _, rfl, same_upd (s3.trans s5) hl, ?_⟩
      · rw [List.length_map, List.length_replicate]
        exact szl' (by omega)
      · exact congrArg (fun z => some (HO.lst z)) rep_snoc
    · rintro σ' Hc ⟨w1, w2, rfl, s2, el⟩
      refine ⟨⟨vs1, vs2, SqT.of (s2 _ _ e1), SqT.of (s2 _ _ e2), .inl (by omega)⟩, ?_⟩
      try simp only [fInsS, fIsB, tSeq, tNext, tDrop, tRet, tRetN, tIfS, tAsg, gName, fAug, tOp, tUn, tC, fVar, fI, fIC, fNeg, fEq, fNe, fIsN, isNon, fAnd, fOr, fNot, fB, tNot, tAnd, tOr, fChain, fIx, fLen, fListOf, fMin, fMax, fInL, fSlL, tSl, fPart, tNoPart, fAppend, fBM, fSetL, gSub, fGNil, fGCons, fGTup, fGLst, fDGet2, sDPutF, tDNewK, fCat, fClear, fBM0, fSlT, fInt1, tCBK, fDIn, fDGet, fIsi, fBools, fDictL, fLtT, tCall, tCB, tCons, tNil, tTup, tLst, tIf, tTrue, Kd.nm, L2.start, List.map_cons, List.map_nil, List.length_cons, List.length_nil, Nat.reduceAdd, Nat.reduceSub, List.replicate_succ, List.replicate_zero, List.getElem?_cons_zero, List.getElem?_cons_succ, List.set_cons_zero, List.set_cons_succ, List.append_nil, List.nil_append, List.cons_append, eq_self, true_and, and_true, if_true, Bool.false_eq_true, if_false, Bool.not_true, Bool.not_false, id_eq, sl0, sl1, sl2, sl3, sl4, el]
      refine ⟨_, rfl, ?_⟩
      rw [rep_all]
      exact h Hc s2
  | lst ds =>
    rw [Rep] at r1 r2
    rw [dep] at hdep
    rw [wid] at hwid
    obtain ⟨a1, vs1, rfl, e1, q1⟩ := r1
    obtain ⟨a2, vs2, rfl, e2, q2⟩ := r2
    have l1 := q1.len
    have l2 := q2.len
    try simp only [fInsS, fIsB, tSeq, tNext, tDrop, tRet, tRetN, tIfS, tAsg, gName, fAug, tOp, tUn, tC, fVar, fI, fIC, fNeg, fEq, fNe, fIsN, isNon, fAnd, fOr, fNot, fB, tNot, tAnd, tOr, fChain, fIx, fLen, fListOf, fMin, fMax, fInL, fSlL, tSl, fPart, tNoPart, fAppend, fBM, fSetL, gSub, fGNil, fGCons, fGTup, fGLst, fDGet2, sDPutF, tDNewK, fCat, fClear, fBM0, fSlT, fInt1, tCBK, fDIn, fDGet, fIsi, fBools, fDictL, fLtT, tCall, tCB, tCons, tNil, tTup, tLst, tIf, tTrue, Kd.nm, L2.start, List.map_cons, List.map_nil, List.length_cons, List.length_nil, Nat.reduceAdd, Nat.reduceSub, List.replicate_succ, List.replicate_zero, List.getElem?_cons_zero, List.getElem?_cons_succ, List.set_cons_zero, List.set_cons_succ, List.append_nil, List.nil_append, List.cons_append, eq_self, true_and, and_true, if_true, Bool.false_eq_true, if_false, Bool.not_true, Bool.not_false, id_eq, sl0, sl1, sl2, sl3, sl4, kd, isi, e1, e2, seqOf, l1, l2, decide_true]
    refine tComp_hide (Itz true K a1 a2) H (fun R hR => ?_) (fun l hl => comp_run ds.length (fun i σ' Hc => ∃ w1 w2, σ' = [w1, w2] ∧ Same H Hc ∧ Hc l = some (.lst ((List.replicate i true).map V.bl))) ⟨none, none, rfl, same_new hl _, upd_same⟩ ?_ ?_)
    · unfold iZipE
      walk_at "RD"
      exact ⟨true, a1, a2, rfl, ⟨vs1, SqL.of e1⟩, ⟨vs2, SqL.of e2⟩, hR⟩
    · rintro i σ' Hc hi ⟨w1, w2, rfl, s2, el⟩
      have x1 : vs1[i]? = some (vs1[i]'(by omega)) := List.getElem?_eq_getElem _
      have x2 : vs2[i]? = some (vs2[i]'(by omega)) := List.getElem?_eq_getElem _
      have z1 : SqB true K Hc a1 vs1 := SqL.of (s2 _ _ e1)
      have z2 : SqB true K Hc a2 vs2 := SqL.of (s2 _ _ e2)
      refine ⟨⟨vs1, vs2, _, _, z1, z2, x1, x2⟩, ?_⟩
      rintro x H' ⟨t, y1, y2, ht, rfl, rfl, g1, g2⟩
      obtain ⟨d1, hd1, rr1⟩ := q1.at (g1 _ z1)
      obtain ⟨d2, hd2, rr2⟩ := q2.at (g2 _ z2)
      have ed : d1 = d2 := Option.some.inj (hd1.symm.trans hd2)
      subst ed
      have s3 : Same H (upd Hc t (.tup [y1, y2])) := s2.trans (same_new ht _)
      have b1 := deps_at hd1
      have b2 := wids_at hd1
      try simp only [fInsS, fIsB, tSeq, tNext, tDrop, tRet, tRetN, tIfS, tAsg, gName, fAug, tOp, tUn, tC, fVar, fI, fIC, fNeg, fEq, fNe, fIsN, isNon, fAnd, fOr, fNot, fB, tNot, tAnd, tOr, fChain, fIx, fLen, fListOf, fMin, fMax, fInL, fSlL, tSl, fPart, tNoPart, fAppend, fBM, fSetL, gSub, fGNil, fGCons, fGTup, fGLst, fDGet2, sDPutF, tDNewK, fCat, fClear, fBM0, fSlT, fInt1, tCBK, fDIn, fDGet, fIsi, fBools, fDictL, fLtT, tCall, tCB, tCons, tNil, tTup, tLst, tIf, tTrue, Kd.nm, L2.start, List.map_cons, List.map_nil, List.length_cons, List.length_nil, Nat.reduceAdd, Nat.reduceSub, List.replicate_succ, List.replicate_zero, List.getElem?_cons_zero, List.getElem?_cons_succ, List.set_cons_zero, List.set_cons_succ, List.append_nil, List.nil_append, List.cons_append, eq_self, true_and, and_true, if_true, Bool.false_eq_true, if_false, Bool.not_true, Bool.not_false, id_eq, sl0, sl1, sl2, sl3, sl4, upd_same]
      refine ⟨y1, y2, d1, rfl, Rep.same s3 _ rr1, Rep.same s3 _ rr2, by omega, by omega, fun H5 s5 => ?_⟩
      have el5 := s5 _ _ (same_new ht _ _ _ el)
      refine ⟨_, el5, ?_, _, _, rfl, same_upd (s3.trans s5) hl, ?_⟩
      · rw [List.length_map, List.length_replicate]
        exact szl' (by omega)
      · exact congrArg (fun z => some (HO.lst z)) rep_snoc
    · rintro σ' Hc ⟨w1, w2, rfl, s2, el⟩
      refine ⟨⟨vs1, vs2, SqL.of (s2 _ _ e1), SqL.of (s2 _ _ e2), .inl (by omega)⟩, ?_⟩
      try simp only [fInsS, fIsB, tSeq, tNext, tDrop, tRet, tRetN, tIfS, tAsg, gName, fAug, tOp, tUn, tC, fVar, fI, fIC, fNeg, fEq, fNe, fIsN, isNon, fAnd, fOr, fNot, fB, tNot, tAnd, tOr, fChain, fIx, fLen, fListOf, fMin, fMax, fInL, fSlL, tSl, fPart, tNoPart, fAppend, fBM, fSetL, gSub, fGNil, fGCons, fGTup, fGLst, fDGet2, sDPutF, tDNewK, fCat, fClear, fBM0, fSlT, fInt1, tCBK, fDIn, fDGet, fIsi, fBools, fDictL, fLtT, tCall, tCB, tCons, tNil, tTup, tLst, tIf, tTrue, Kd.nm, L2.start, List.map_cons, List.map_nil, List.length_cons, List.length_nil, Nat.reduceAdd, Nat.reduceSub, List.replicate_succ, List.replicate_zero, List.getElem?_cons_zero, List.getElem?_cons_succ, List.set_cons_zero, List.set_cons_succ, List.append_nil, List.nil_append, List.cons_append, eq_self, true_and, and_true, if_true, Bool.false_eq_true, if_false, Bool.not_true, Bool.not_false, id_eq, sl0, sl1, sl2, sl3, sl4, el]
      refine ⟨_, rfl, ?_⟩
      rw [rep_all]
      exact h Hc s2
end
end My

set_option Elab.async false
set_option linter.all false
set_option maxRecDepth 100000
set_option maxHeartbeats 4000000
namespace My
open PySem L2
section
variable {P : Program} {w : World} {K : PySem.W.Frag} {mg : Str → Option Value} {base : Heap} {c1 c2 c3 c4 : Tok}
/-- a set's places, behind a last one -/
def SeOk (kvs : List (Key × V)) : Int → List Int → Prop
  | _, [] => True
  | l, n :: r => (hasK kvs n = true ∧ l < n) ∧ SeOk kvs n r
theorem SeOk.gt {kvs : List (Key × V)} : ∀ {ss : List Int} {l : Int}, SeOk kvs l ss → ∀ n ∈ ss, l < n
  | [], _, _, _, h => by cases h
  | q :: r, l, h, n, hn => by
    rcases List.mem_cons.mp hn with e | hn
    · rw [e]; exact h.1.2
    · have := SeOk.gt h.2 n hn
      have := h.1.2
      omega
theorem SeOk.nodup {kvs : List (Key × V)} : ∀ {ss : List Int} {l : Int}, SeOk kvs l ss → ss.Nodup
  | [], _, _ => List.nodup_nil
  | q :: r, l, h => List.nodup_cons.mpr ⟨fun hm => by have := SeOk.gt h.2 q hm; omega, SeOk.nodup h.2⟩
def SetAt (H : Hp) (v : V) (ss : List Int) : Prop := ∃ a, v = .ref a ∧ H a = some (.lst (ss.map V.int))
theorem SetAt.same {H H' : Hp} {v : V} {ss : List Int} (h : SetAt H v ss) (s : Same H H') : SetAt H' v ss := let ⟨a, e, q⟩ := h; ⟨a, e, s _ _ q⟩
structure SetIn (ps : List (Int × Int)) (ss : List Int) : Prop where
  len : ss.length ≤ 40
  ok : SeOk (kvsOf ps) (-1) ss
def spIsPlace : Sp := fun vs H Q _ => ∃ d n kvs, vs = [.ref d, .int n] ∧ H d = some (.dK kvs) ∧ hasK kvs n = true ∧ Q (.bl true) H
def spIsSet : Sp := fun vs H Q _ => ∃ v u ps ts ss, vs = [v, u] ∧ WebAt H v ps ts ∧ WebOk ps ts ∧ SetAt H u ss ∧ SetIn ps ss ∧ ∀ H', Same H H' → Q (.bl true) H'
def spLookSet : Sp := fun vs H Q _ => ∃ v u ps ts ss, vs = [v, u] ∧ WebAt H v ps ts ∧ WebOk ps ts ∧ SetAt H u ss ∧ SetIn ps ss ∧ ∀ H', Same H H' → Q .non H'
def mk (ss : List Int) : List (Key × V) := ss.map fun n => (Sum.inl n, V.bl true)
theorem mk_val : ∀ (ss : List Int) (n : Int), (valV (mk ss) (Sum.inl n : Key)).isSome = decide (n ∈ ss)
  | [], n => by simp [mk, valV]
  | m :: r, n => by
    have ih := mk_val r n
    unfold mk valV at ih ⊢
    rw [List.map_cons, List.find?_cons]
    by_cases h : m = n
    · subst h; simp
    · have hd : decide ((Sum.inl m : Key) = Sum.inl n) = false := decide_eq_false fun z => h (Sum.inl.inj z)
      dsimp only
      rw [hd]
      dsimp only
      rw [ih]
      have hn : ¬ n = m := fun z => h z.symm
      simp [hn]
def spMarked : Sp := fun vs H Q _ => ∃ u ss, vs = [u] ∧ SetAt H u ss ∧ ss.Nodup ∧ ss.length ≤ 900 ∧ ∀ d H', H d = none → Same H H' → H' d = some (.dK (mk ss)) → Q (.ref d) H'
/-- the ties with no end in the set -/
def leftT (ss : List Int) (ts : List (Int × Int)) : List (Int × Int) := ts.filter fun t => !decide (t.1 ∈ ss) && !decide (t.2 ∈ ss)
def spLeftBy : Sp := fun vs H Q _ => ∃ v u ps ts ss, vs = [v, u] ∧ WebAt H v ps ts ∧ WebOk ps ts ∧ SetAt H u ss ∧ SetIn ps ss ∧ ∀ l zs H', H l = none → Same H H' → H' l = some (.lst zs) → Prs H' zs (leftT ss ts) → Q (.ref l) H'
theorem filter_take {α : Type} {f : α → Bool} {l : List α} {i : Nat} {x : α} (h : l[i]? = some x) : (l.take (i + 1)).filter f = (l.take i).filter f ++ (if f x = true then [x] else []) := by
  rw [take_get h, List.filter_append, List.filter_cons]
  rfl
local macro_rules | `(tactic| walk_at "RD") => `(tactic| try simp only [fInsS, fIsB, tSeq, tNext, tDrop, tRet, tRetN, tIfS, tAsg, gName, fAug, tOp, tUn, tC, fVar, fI, fIC, fNeg, fEq, fNe, fIsN, isNon, fAnd, fOr, fNot, fB, tNot, tAnd, tOr, fChain, fIx, fLen, fListOf, fMin, fMax, fInL, fSlL, tSl, fPart, tNoPart, fAppend, fBM, fSetL, gSub, fGNil, fGCons, fGTup, fGLst, fDGet2, sDPutF, tDNewK, fCat, fClear, fBM0, fSlT, fInt1, tCBK, fDIn, fDGet, fIsi, fBools, fDictL, fLtT, tCall, tCB, tCons, tNil, tTup, tLst, tIf, tTrue, Kd.nm, L2.start, List.map_cons, List.map_nil, List.length_cons, List.length_nil, Nat.reduceAdd, Nat.reduceSub, List.replicate_succ, List.replicate_zero, List.getElem?_cons_zero, List.getElem?_cons_succ, List.set_cons_zero, List.set_cons_succ, List.append_nil, List.nil_append, List.cons_append, eq_self, true_and, and_true, if_true, Bool.false_eq_true, if_false, Bool.not_true, Bool.not_false, id_eq, sl0, sl1, sl2, sl3, sl4])
theorem ok_is_place {f : Addr} {fd : FuncData} {f_is_whole : Addr} {d_is_whole : FuncData} (B : Blt mg) (D : DefAt K mg "is_place" (top 20) ["prices", "thing"] f fd) (D_is_whole : DefAt K mg "is_whole" (top 5) ["thing"] f_is_whole d_is_whole) (G_is_whole : FnOk P w K mg base CX0 1 f_is_whole d_is_whole ["thing"] spWhole) : FnOk P w K mg base CX0 2 f fd ["prices", "thing"] spIsPlace := by
  have sc : FnScope ["prices", "thing"] ["prices", "thing"] (defScope (top 20)) := ⟨rfl, rfl, rfl, by decide +kernel, rfl, by decide +kernel, by decide +kernel⟩
  refine D.F.ok sc (fun vs H Q E h => ?_) (fun cdv A outer s H vs Q E hr h => ?_)
  · obtain ⟨d, n, kvs, rfl, _⟩ := h
    rfl
  obtain ⟨d, n, kvs, rfl, ed, hk, h⟩ := h
  unfold hasK at hk
  have hu := hu_of hr
  have hu0 : _ < PySem.cLine := Nat.lt_of_succ_lt hu
  refine ⟨_, (pss_one (ps_ret (q_and (pe_call G_is_whole (hr.mono (by decide)) rfl D_is_whole.m D_is_whole.F.kp D_is_whole.b .nil pass0 (pa_cons (qv 1) pa_nil)) (pe_one (pe_cmp (q_din hu (qv 1) (qv 0))))))), ?_⟩
  walk_at "RD"
  refine ⟨_, .int, rfl, rfl, ?_⟩
  try simp only [fInsS, fIsB, tSeq, tNext, tDrop, tRet, tRetN, tIfS, tAsg, gName, fAug, tOp, tUn, tC, fVar, fI, fIC, fNeg, fEq, fNe, fIsN, isNon, fAnd, fOr, fNot, fB, tNot, tAnd, tOr, fChain, fIx, fLen, fListOf, fMin, fMax, fInL, fSlL, tSl, fPart, tNoPart, fAppend, fBM, fSetL, gSub, fGNil, fGCons, fGTup, fGLst, fDGet2, sDPutF, tDNewK, fCat, fClear, fBM0, fSlT, fInt1, tCBK, fDIn, fDGet, fIsi, fBools, fDictL, fLtT, tCall, tCB, tCons, tNil, tTup, tLst, tIf, tTrue, Kd.nm, L2.start, List.map_cons, List.map_nil, List.length_cons, List.length_nil, Nat.reduceAdd, Nat.reduceSub, List.replicate_succ, List.replicate_zero, List.getElem?_cons_zero, List.getElem?_cons_succ, List.set_cons_zero, List.set_cons_succ, List.append_nil, List.nil_append, List.cons_append, eq_self, true_and, and_true, if_true, Bool.false_eq_true, if_false, Bool.not_true, Bool.not_false, id_eq, sl0, sl1, sl2, sl3, sl4, wholeK, ed, hk]
  exact h
theorem ok_is_set {f : Addr} {fd : FuncData} {f_look_at_web : Addr} {d_look_at_web : FuncData} {f_is_place : Addr} {d_is_place : FuncData} (B : Blt mg) (D : DefAt K mg "is_set" (top 23) ["web", "thing"] f fd) (D_look_at_web : DefAt K mg "look_at_web" (top 19) ["thing"] f_look_at_web d_look_at_web) (G_look_at_web : FnOk P w K mg base CX0 5 f_look_at_web d_look_at_web ["thing"] spLookWeb) (D_is_place : DefAt K mg "is_place" (top 20) ["prices", "thing"] f_is_place d_is_place) (G_is_place : FnOk P w K mg base CX0 2 f_is_place d_is_place ["prices", "thing"] spIsPlace) : FnOk P w K mg base CX0 6 f fd ["web", "thing"] spIsSet := by
  have sc : FnScope ["web", "thing", "prices", "last", "place"] ["web", "thing"] (defScope (top 23)) := ⟨rfl, rfl, rfl, by decide +kernel, rfl, by decide +kernel, by decide +kernel⟩
  refine D.F.ok sc (fun vs H Q E h => ?_) (fun cdv A outer s H vs Q E hr h => ?_)
  · obtain ⟨v, u, ps, ts, ss, rfl, _⟩ := h
    rfl
  obtain ⟨v, u, ps, ts, ss, rfl, hw, wok, hset, sin, h⟩ := h
  obtain ⟨x, pa, ta, xs, ys, rfl, ex, ep, et, pp, pt⟩ := id hw
  obtain ⟨sa, rfl, es⟩ := id hset
  have hlx : xs.length = ps.length := Paired.length pp
  have okl := wok.pl
  have hu := hu_of hr
  have hu0 : _ < PySem.cLine := Nat.lt_of_succ_lt hu
  refine ⟨_, (pss_cons (ps_expr (pe_call G_look_at_web (hr.mono (by decide)) rfl D_look_at_web.m D_look_at_web.F.kp D_look_at_web.b .nil pass0 (pa_cons (qv 0) pa_nil))) (pss_cons (ps_if (pt_not (qt_val (pe_callB (q_isi .lst) rfl B.isinstance PyProof.Rows.boot_isinstance (pa_cons (qv 1) (pa_cons (pe_bltn (v := .ty "list") rfl B.list PyProof.Rows.boot_list rfl) pa_nil))))) (pss_one (ps_ret pe_bl)) pss_nil) (pss_cons (ps_set (i := 2) sc.nd rfl (Or.inl rfl) (pe_callTy (q_dictL rfl) rfl B.dict PyProof.Rows.boot_dict (pa_cons (pe_ix q_ix (qv 0) pe_int (fun _ _ => rfl)) pa_nil))) (pss_cons (ps_set (i := 3) sc.nd rfl (Or.inl rfl) (pe_un q_neg pe_int)) (pss_cons (ps_for PassesOwn.never rfl (pi_list (qv 1)) (pg_name (i := 4) sc.nd rfl (Or.inl rfl)) (pss_cons (ps_if (PW.pt (pw_or (pt_not (qt_val (pe_call G_is_place (hr.mono (by decide)) rfl D_is_place.m D_is_place.F.kp D_is_place.b .nil pass0 (pa_cons (qv 2) (pa_cons (qv 4) pa_nil))))) (pw_or1 (qt_cmp q_le (qv 4) (qv 3) (nomark _))))) (pss_one (ps_ret pe_bl)) pss_nil) (pss_one (ps_set (i := 3) sc.nd rfl (Or.inl rfl) (qv 4))))) (pss_one (ps_ret pe_bl))))))), ?_⟩
  walk_at "RD"
  refine ⟨_, ps, ts, rfl, hw, wok, fun H1 s1 => ?_⟩
  try simp only [fInsS, fIsB, tSeq, tNext, tDrop, tRet, tRetN, tIfS, tAsg, gName, fAug, tOp, tUn, tC, fVar, fI, fIC, fNeg, fEq, fNe, fIsN, isNon, fAnd, fOr, fNot, fB, tNot, tAnd, tOr, fChain, fIx, fLen, fListOf, fMin, fMax, fInL, fSlL, tSl, fPart, tNoPart, fAppend, fBM, fSetL, gSub, fGNil, fGCons, fGTup, fGLst, fDGet2, sDPutF, tDNewK, fCat, fClear, fBM0, fSlT, fInt1, tCBK, fDIn, fDGet, fIsi, fBools, fDictL, fLtT, tCall, tCB, tCons, tNil, tTup, tLst, tIf, tTrue, Kd.nm, L2.start, List.map_cons, List.map_nil, List.length_cons, List.length_nil, Nat.reduceAdd, Nat.reduceSub, List.replicate_succ, List.replicate_zero, List.getElem?_cons_zero, List.getElem?_cons_succ, List.set_cons_zero, List.set_cons_succ, List.append_nil, List.nil_append, List.cons_append, eq_self, true_and, and_true, if_true, Bool.false_eq_true, if_false, Bool.not_true, Bool.not_false, id_eq, sl0, sl1, sl2, sl3, sl4, kd, s1 _ _ es, isi, seqOf, s1 _ _ ex, s1 _ _ ep, at0]
  refine ⟨kvsOf ps, pairs_at (Prs.same s1 pp), by omega, keys_nodup wok.p.nodup, fun d hd => ?_⟩
  have s2 : Same H (upd H1 d (.dK (kvsOf ps))) := s1.trans (same_new hd _)
  have ed : upd H1 d (.dK (kvsOf ps)) d = some (.dK (kvsOf ps)) := upd_same
  generalize upd H1 d (.dK (kvsOf ps)) = H2 at s2 ed
  refine tFor_hide (Itl K sa) H2 (fun R hR => ?_) (for_list (K := K) (a := sa) (xs := ss.map V.int) (fun i σ H3 => ∃ l pl, σ = [some (.ref x), some (.ref sa), some (.ref d), some (.int l), pl] ∧ Same H2 H3 ∧ SeOk (kvsOf ps) l (ss.drop i)) ⟨-1, none, rfl, Same.refl _, sin.ok⟩ (fun i σ H3 _ ⟨_, _, _, s3, _⟩ => SqL.of (s3 _ _ (s2 _ _ es))) ?_ ?_)
  · unfold iList
    walk_at "RD"
    exact ⟨sa, rfl, ⟨_, SqL.of (s2 _ _ es)⟩, hR⟩
  · rintro i y σ H3 hi ⟨l, pl, rfl, s3, ok3⟩
    rw [List.getElem?_map] at hi
    obtain ⟨n, hn, rfl⟩ := Option.map_eq_some_iff.mp hi
    rw [drop_get hn] at ok3
    have hk := ok3.1.1
    walk_at "RD"
    refine ⟨d, n, _, rfl, s3 _ _ ed, hk, ?_⟩
    try simp only [fInsS, fIsB, tSeq, tNext, tDrop, tRet, tRetN, tIfS, tAsg, gName, fAug, tOp, tUn, tC, fVar, fI, fIC, fNeg, fEq, fNe, fIsN, isNon, fAnd, fOr, fNot, fB, tNot, tAnd, tOr, fChain, fIx, fLen, fListOf, fMin, fMax, fInL, fSlL, tSl, fPart, tNoPart, fAppend, fBM, fSetL, gSub, fGNil, fGCons, fGTup, fGLst, fDGet2, sDPutF, tDNewK, fCat, fClear, fBM0, fSlT, fInt1, tCBK, fDIn, fDGet, fIsi, fBools, fDictL, fLtT, tCall, tCB, tCons, tNil, tTup, tLst, tIf, tTrue, Kd.nm, L2.start, List.map_cons, List.map_nil, List.length_cons, List.length_nil, Nat.reduceAdd, Nat.reduceSub, List.replicate_succ, List.replicate_zero, List.getElem?_cons_zero, List.getElem?_cons_succ, List.set_cons_zero, List.set_cons_succ, List.append_nil, List.nil_append, List.cons_append, eq_self, true_and, and_true, if_true, Bool.false_eq_true, if_false, Bool.not_true, Bool.not_false, id_eq, sl0, sl1, sl2, sl3, sl4, decide_eq_false (show ¬ n ≤ l by have := ok3.1.2; omega)]
    exact ⟨_, _, rfl, s3, ok3.2⟩
  · rintro σ H3 ⟨l, pl, rfl, s3, _⟩
    walk_at "RD"
    exact h H3 (s2.trans s3)
theorem ok_look_at_set {f : Addr} {fd : FuncData} {f_is_set : Addr} {d_is_set : FuncData} (B : Blt mg) (D : DefAt K mg "look_at_set" (top 24) ["web", "thing"] f fd) (D_is_set : DefAt K mg "is_set" (top 23) ["web", "thing"] f_is_set d_is_set) (G_is_set : FnOk P w K mg base CX0 6 f_is_set d_is_set ["web", "thing"] spIsSet) : FnOk P w K mg base CX0 7 f fd ["web", "thing"] spLookSet := by
  have sc : FnScope ["web", "thing"] ["web", "thing"] (defScope (top 24)) := ⟨rfl, rfl, rfl, by decide +kernel, rfl, by decide +kernel, by decide +kernel⟩
  refine D.F.ok sc (fun vs H Q E h => ?_) (fun cdv A outer s H vs Q E hr h => ?_)
  · obtain ⟨v, u, ps, ts, ss, rfl, _⟩ := h
    rfl
  obtain ⟨v, u, ps, ts, ss, rfl, hw, wok, hset, sin, h⟩ := h
  have hu := hu_of hr
  have hu0 : _ < PySem.cLine := Nat.lt_of_succ_lt hu
  refine ⟨_, (pss_one (ps_if (pt_not (qt_val (pe_call G_is_set (hr.mono (by decide)) rfl D_is_set.m D_is_set.F.kp D_is_set.b .nil pass0 (pa_cons (qv 0) (pa_cons (qv 1) pa_nil))))) (pss_one ps_never) pss_nil)), ?_⟩
  walk_at "RD"
  refine ⟨_, _, ps, ts, ss, rfl, hw, wok, hset, sin, fun H1 s1 => ?_⟩
  walk_at "RD"
  exact h H1 s1
theorem ok_marked {f : Addr} {fd : FuncData}  (B : Blt mg) (D : DefAt K mg "marked" (top 9) ["places"] f fd) : FnOk P w K mg base CX0 1 f fd ["places"] spMarked := by
  have sc : FnScope ["places"] ["places"] (defScope (top 9)) := ⟨rfl, rfl, rfl, by decide +kernel, rfl, by decide +kernel, by decide +kernel⟩
  refine D.F.ok sc (fun vs H Q E h => ?_) (fun cdv A outer s H vs Q E hr h => ?_)
  · obtain ⟨u, ss, rfl, _⟩ := h
    rfl
  obtain ⟨u, ss, rfl, ⟨sa, rfl, es⟩, nd, hl, h⟩ := h
  have hu := hu_of hr
  have hu0 : _ < PySem.cLine := Nat.lt_of_succ_lt hu
  refine ⟨_, (pss_one (ps_ret (pe_callTy (q_dictL rfl) rfl B.dict PyProof.Rows.boot_dict (pa_cons (pe_comp (CpScope.of (N := ["place"]) (src := [none]) (by rfl)) rfl (pi_list (qv 0)) (fun _ _ _ _ => (pg_name (i := 0) (nodupB_ok (l := ["place"]) (by rfl)) rfl (Or.inl rfl))) (fun _ _ _ _ => pif_nil) (fun _ _ _ _ => (pe_tup (pa_cons (qv 0) (pa_cons pe_bl pa_nil))))) pa_nil)))), ?_⟩
  walk_at "RD"
  refine tComp_hide (Itl K sa) H (fun R hR => ?_) (fun l hl0 => comp_run ss.length (fun i σ' Hc => ∃ w1 zs, σ' = [w1] ∧ Same H Hc ∧ Hc l = some (.lst zs) ∧ Paired (PairAt Hc) zs (mk (ss.take i))) ⟨none, [], rfl, same_new hl0 _, upd_same, .nil⟩ ?_ ?_)
  · unfold iList
    walk_at "RD"
    exact ⟨sa, rfl, ⟨_, SqL.of es⟩, hR⟩
  · rintro i σ' Hc hi ⟨w1, zs, rfl, s2, ez, pz⟩
    have x1 : ss[i]? = some ss[i] := List.getElem?_eq_getElem hi
    have X1 : (ss.map V.int)[i]? = some (.int ss[i]) := by rw [List.getElem?_map, x1]; rfl
    have hlz : zs.length = (mk (ss.take i)).length := Paired.length pz
    have hlz2 : zs.length ≤ i := by
      rw [hlz, mk, List.length_map, List.length_take]
      omega
    refine ⟨⟨_, _, SqL.of (s2 _ _ es), X1⟩, ?_⟩
    rintro y H' ⟨rfl, hy⟩
    have E1 : V.int ss[i] = y := Option.some.inj (X1.symm.trans (hy _ (SqL.of (s2 _ _ es))))
    subst E1
    walk_at "RD"
    intro t ht
    have ez2 := same_new ht (.tup [.int ss[i], .bl true]) _ _ ez
    have t6 := tups_lst (ys := zs ++ [.ref t]) ez2
    refine ⟨zs, ez2, szl' (by omega), _, zs ++ [.ref t], rfl, same_upd (s2.trans (same_new ht _)) hl0, (by first | rfl | exact upd_same), ?_⟩
    rw [take_get x1, mk, List.map_append]
    refine paired_snoc (Paired.mapP pz fun v p q => ?_) ?_
    · obtain ⟨b, e, q⟩ := q
      exact ⟨b, e, t6 _ _ rfl (same_new ht _ _ _ q)⟩
    · exact ⟨t, rfl, t6 _ _ rfl upd_same⟩
  · rintro σ' Hc ⟨w1, zs, rfl, s2, ez, pz⟩
    refine ⟨⟨_, SqL.of (s2 _ _ es), by rw [List.length_map]; exact Nat.le_refl _⟩, ?_⟩
    rw [List.take_length] at pz
    have hlz : zs.length = (mk ss).length := Paired.length pz
    rw [mk, List.length_map] at hlz
    try simp only [fInsS, fIsB, tSeq, tNext, tDrop, tRet, tRetN, tIfS, tAsg, gName, fAug, tOp, tUn, tC, fVar, fI, fIC, fNeg, fEq, fNe, fIsN, isNon, fAnd, fOr, fNot, fB, tNot, tAnd, tOr, fChain, fIx, fLen, fListOf, fMin, fMax, fInL, fSlL, tSl, fPart, tNoPart, fAppend, fBM, fSetL, gSub, fGNil, fGCons, fGTup, fGLst, fDGet2, sDPutF, tDNewK, fCat, fClear, fBM0, fSlT, fInt1, tCBK, fDIn, fDGet, fIsi, fBools, fDictL, fLtT, tCall, tCB, tCons, tNil, tTup, tLst, tIf, tTrue, Kd.nm, L2.start, List.map_cons, List.map_nil, List.length_cons, List.length_nil, Nat.reduceAdd, Nat.reduceSub, List.replicate_succ, List.replicate_zero, List.getElem?_cons_zero, List.getElem?_cons_succ, List.set_cons_zero, List.set_cons_succ, List.append_nil, List.nil_append, List.cons_append, eq_self, true_and, and_true, if_true, Bool.false_eq_true, if_false, Bool.not_true, Bool.not_false, id_eq, sl0, sl1, sl2, sl3, sl4, ez]
    refine ⟨mk ss, pz, by omega, ?_, fun d hd => h d _ (s2.free hd) (s2.trans (same_new hd _)) upd_same⟩
    unfold mk
    rw [List.map_map]
    have e : ((fun (x : Key × V) => x.1) ∘ fun (n : Int) => ((Sum.inl n : Key), V.bl true)) = fun (n : Int) => (Sum.inl n : Key) := rfl
    rw [e]
    unfold List.Nodup at nd ⊢
    rw [List.pairwise_map]
    exact nd.imp fun q z => q (Sum.inl.inj z)
theorem ok_left_by {f : Addr} {fd : FuncData} {f_look_at_set : Addr} {d_look_at_set : FuncData} {f_marked : Addr} {d_marked : FuncData} (B : Blt mg) (D : DefAt K mg "left_by" (top 26) ["web", "some"] f fd) (D_look_at_set : DefAt K mg "look_at_set" (top 24) ["web", "thing"] f_look_at_set d_look_at_set) (G_look_at_set : FnOk P w K mg base CX0 7 f_look_at_set d_look_at_set ["web", "thing"] spLookSet) (D_marked : DefAt K mg "marked" (top 9) ["places"] f_marked d_marked) (G_marked : FnOk P w K mg base CX0 1 f_marked d_marked ["places"] spMarked) : FnOk P w K mg base CX0 8 f fd ["web", "some"] spLeftBy := by
  have sc : FnScope ["web", "some", "chosen"] ["web", "some"] (defScope (top 26)) := ⟨rfl, rfl, rfl, by decide +kernel, rfl, by decide +kernel, by decide +kernel⟩
  refine D.F.ok sc (fun vs H Q E h => ?_) (fun cdv A outer s H vs Q E hr h => ?_)
  · obtain ⟨v, u, ps, ts, ss, rfl, _⟩ := h
    rfl
  obtain ⟨v, u, ps, ts, ss, rfl, hw, wok, hset, sin, h⟩ := h
  obtain ⟨x, pa, ta, xs, ys, rfl, ex, ep, et, pp, pt⟩ := id hw
  have hly : ys.length = ts.length := Paired.length pt
  have okl := wok.tl
  have okq := sin.len
  have hu := hu_of hr
  have hu0 : _ < PySem.cLine := Nat.lt_of_succ_lt hu
  refine ⟨_, (pss_cons (ps_expr (pe_call G_look_at_set (hr.mono (by decide)) rfl D_look_at_set.m D_look_at_set.F.kp D_look_at_set.b .nil pass0 (pa_cons (qv 0) (pa_cons (qv 1) pa_nil)))) (pss_cons (ps_set (i := 2) sc.nd rfl (Or.inr rfl) (pe_call G_marked (hr.mono (by decide)) rfl D_marked.m D_marked.F.kp D_marked.b .nil pass0 (pa_cons (qv 1) pa_nil))) (pss_one (ps_ret (pe_comp (CpScope.of (N := ["one", "other", "chosen"]) (src := [none, none, some 2]) (by rfl)) rfl (pi_list (pe_ix q_ix (qv 0) pe_int (fun _ _ => rfl))) (fun _ _ _ _ => (qg_tup (n := 2) rfl (qgs_cons (pg_name (i := 0) (nodupB_ok (l := ["one", "other", "chosen"]) (by rfl)) rfl (Or.inl rfl)) (qgs_cons (pg_name (i := 1) (nodupB_ok (l := ["one", "other", "chosen"]) (by rfl)) rfl (Or.inl rfl)) qgs_nil)))) (fun _ _ _ _ => (pif_one (PW.pt (pw_and (qt_pc (q_dnotin hu (qv 0) (qv 2))) (pw_and1 (qt_pc (q_dnotin hu (qv 1) (qv 2)))))))) (fun _ _ _ _ => (pe_tup (pa_cons (qv 0) (pa_cons (qv 1) pa_nil))))))))), ?_⟩
  walk_at "RD"
  refine ⟨_, _, ps, ts, ss, rfl, hw, wok, hset, sin, fun H1 s1 => ?_⟩
  walk_at "RD"
  refine ⟨_, ss, rfl, hset.same s1, sin.ok.nodup, by omega, fun d H2 hd s2 ed => ?_⟩
  have s3 := s1.trans s2
  walk_at "RD"
  refine tComp_hide (Itl K ta) H2 (fun R hR => ?_) (fun l hl0 => comp_run ts.length (fun i σ' Hc => ∃ w1 w2 zs, σ' = [w1, w2, some (.ref d)] ∧ Same H2 Hc ∧ Hc l = some (.lst zs) ∧ Prs Hc zs (leftT ss (ts.take i))) ⟨none, none, [], rfl, same_new hl0 _, upd_same, .nil⟩ ?_ ?_)
  · unfold iList
    try simp only [fInsS, fIsB, tSeq, tNext, tDrop, tRet, tRetN, tIfS, tAsg, gName, fAug, tOp, tUn, tC, fVar, fI, fIC, fNeg, fEq, fNe, fIsN, isNon, fAnd, fOr, fNot, fB, tNot, tAnd, tOr, fChain, fIx, fLen, fListOf, fMin, fMax, fInL, fSlL, tSl, fPart, tNoPart, fAppend, fBM, fSetL, gSub, fGNil, fGCons, fGTup, fGLst, fDGet2, sDPutF, tDNewK, fCat, fClear, fBM0, fSlT, fInt1, tCBK, fDIn, fDGet, fIsi, fBools, fDictL, fLtT, tCall, tCB, tCons, tNil, tTup, tLst, tIf, tTrue, Kd.nm, L2.start, List.map_cons, List.map_nil, List.length_cons, List.length_nil, Nat.reduceAdd, Nat.reduceSub, List.replicate_succ, List.replicate_zero, List.getElem?_cons_zero, List.getElem?_cons_succ, List.set_cons_zero, List.set_cons_succ, List.append_nil, List.nil_append, List.cons_append, eq_self, true_and, and_true, if_true, Bool.false_eq_true, if_false, Bool.not_true, Bool.not_false, id_eq, sl0, sl1, sl2, sl3, sl4, seqOf, s3 _ _ ex, at1]
    exact ⟨ta, rfl, ⟨_, SqL.of (s3 _ _ et)⟩, hR⟩
  · rintro i σ' Hc hi ⟨w1, w2, zs, rfl, s4, ez, pz⟩
    have x1 : ys[i]? = some (ys[i]'(by omega)) := List.getElem?_eq_getElem _
    have z1 : SqL K Hc ta ys := SqL.of (s4 _ _ (s3 _ _ et))
    have hlz : zs.length = (leftT ss (ts.take i)).length := Paired.length pz
    have hlz2 : zs.length ≤ i := by
      rw [hlz]
      refine Nat.le_trans (List.length_filter_le _ _) ?_
      rw [List.length_take]
      omega
    refine ⟨⟨_, _, z1, x1⟩, ?_⟩
    rintro y H' ⟨rfl, hy⟩
    obtain ⟨q, hq, pq⟩ := paired_left pt (hy _ z1)
    obtain ⟨t, rfl, ht⟩ := pq.same (s3.trans s4)
    have ft := filter_take (f := fun t => !decide (t.1 ∈ ss) && !decide (t.2 ∈ ss)) hq
    try simp only [fInsS, fIsB, tSeq, tNext, tDrop, tRet, tRetN, tIfS, tAsg, gName, fAug, tOp, tUn, tC, fVar, fI, fIC, fNeg, fEq, fNe, fIsN, isNon, fAnd, fOr, fNot, fB, tNot, tAnd, tOr, fChain, fIx, fLen, fListOf, fMin, fMax, fInL, fSlL, tSl, fPart, tNoPart, fAppend, fBM, fSetL, gSub, fGNil, fGCons, fGTup, fGLst, fDGet2, sDPutF, tDNewK, fCat, fClear, fBM0, fSlT, fInt1, tCBK, fDIn, fDGet, fIsi, fBools, fDictL, fLtT, tCall, tCB, tCons, tNil, tTup, tLst, tIf, tTrue, Kd.nm, L2.start, List.map_cons, List.map_nil, List.length_cons, List.length_nil, Nat.reduceAdd, Nat.reduceSub, List.replicate_succ, List.replicate_zero, List.getElem?_cons_zero, List.getElem?_cons_succ, List.set_cons_zero, List.set_cons_succ, List.append_nil, List.nil_append, List.cons_append, eq_self, true_and, and_true, if_true, Bool.false_eq_true, if_false, Bool.not_true, Bool.not_false, id_eq, sl0, sl1, sl2, sl3, sl4, ht, s4 _ _ ed, mk_val]
    have no : ∀ b : Bool, b = false → (∃ w1 w2 zs_1, [some (V.int q.1), some (V.int q.2), some (.ref d)] = [w1, w2, some (.ref d)] ∧ Same H2 H' ∧ H' l = some (.lst zs_1) ∧ Prs H' zs_1 (leftT ss (ts.take i) ++ if b = true then [q] else [])) := fun b hb => by
      subst hb
      refine ⟨_, _, zs, rfl, s4, ez, ?_⟩
      rw [if_neg Bool.false_ne_true, List.append_nil]
      exact pz
    unfold leftT
    rw [ft]
    by_cases c1 : q.1 ∈ ss
    · simp only [c1, decide_true, Bool.not_true, Bool.false_and, Bool.false_eq_true, if_false, if_true]
      exact no false rfl
    by_cases c2 : q.2 ∈ ss
    · simp only [c1, c2, decide_true, decide_false, Bool.not_true, Bool.not_false, Bool.and_false, Bool.false_eq_true, if_false, if_true]
      exact no false rfl
    simp only [c1, c2, decide_false, Bool.not_false, Bool.and_true, Bool.and_self, if_true]
    intro t2 ht2
    have ez2 := same_new ht2 (.tup [.int q.1, .int q.2]) _ _ ez
    have t6 := tups_lst (ys := zs ++ [.ref t2]) ez2
    refine ⟨zs, ez2, szl' (by omega), _, _, zs ++ [.ref t2], rfl, same_upd (s4.trans (same_new ht2 _)) hl0, (by first | rfl | exact upd_same), ?_⟩
    exact paired_snoc (Prs.tups ((tups_new ht2).trans t6) pz) (Pr.tups ⟨t2, rfl, upd_same⟩ t6)
  · rintro σ' Hc ⟨w1, w2, zs, rfl, s4, ez, pz⟩
    refine ⟨⟨_, SqL.of (s4 _ _ (s3 _ _ et)), by omega⟩, ?_⟩
    rw [List.take_length] at pz
    exact h l zs Hc (s3.free hl0) (s3.trans s4) ez pz
end
end My

set_option Elab.async false
set_option linter.all false
set_option maxRecDepth 100000
set_option maxHeartbeats 4000000
namespace My
open PySem L2
section
variable {P : Program} {w : World} {K : PySem.W.Frag} {mg : Str → Option Value} {base : Heap} {c1 c2 c3 c4 : Tok}
def nr (n : Int) (t : Int × Int) : List Int := if t.1 = n then [t.2] else if t.2 = n then [t.1] else []
/-- near a place, by the ties in their order -/
def nearL (ts : List (Int × Int)) (n : Int) : List Int := ts.flatMap (nr n)
theorem nearL_take {ts : List (Int × Int)} {j : Nat} {t : Int × Int} (h : ts[j]? = some t) (n : Int) : nearL (ts.take (j + 1)) n = nearL (ts.take j) n ++ nr n t := by
  unfold nearL
  rw [take_get h, List.flatMap_append]
  simp
theorem nearL_len : ∀ (ts : List (Int × Int)) (n : Int), (nearL ts n).length ≤ ts.length
  | [], n => by simp [nearL]
  | t :: r, n => by
    have ih := nearL_len r n
    have e : nearL (t :: r) n = nr n t ++ nearL r n := by simp [nearL]
    have e2 : (nr n t).length ≤ 1 := by
      unfold nr
      split
      · simp
      · split <;> simp
    rw [e, List.length_append, List.length_cons]
    omega
/-- places with their lists' addresses -/
def kz : List (Int × Int) → List Addr → List (Key × V)
  | p :: r, a :: s => (Sum.inl p.1, V.ref a) :: kz r s
  | _, _ => []
theorem kz_snoc : ∀ {ps : List (Int × Int)} {as : List Addr} {p : Int × Int} {a : Addr}, ps.length = as.length → kz (ps ++ [p]) (as ++ [a]) = kz ps as ++ [(Sum.inl p.1, V.ref a)]
  | [], [], _, _, _ => rfl
  | [], _ :: _, _, _, h => by simp at h
  | _ :: _, [], _, _, h => by simp at h
  | q :: r, b :: s, p, a, h => by
    have ih := kz_snoc (ps := r) (as := s) (p := p) (a := a) (by simpa using h)
    show (Sum.inl q.1, V.ref b) :: kz (r ++ [p]) (s ++ [a]) = _
    rw [ih]
    rfl
theorem kz_keys : ∀ {ps : List (Int × Int)} {as : List Addr}, ps.length = as.length → (kz ps as).map (·.1) = ps.map fun p => (Sum.inl p.1 : Key)
  | [], [], _ => rfl
  | [], _ :: _, h => by simp at h
  | _ :: _, [], h => by simp at h
  | q :: r, b :: s, h => by
    show (Sum.inl q.1 : Key) :: (kz r s).map (·.1) = _
    rw [kz_keys (by simpa using h)]
    rfl
theorem kz_val : ∀ {ps : List (Int × Int)} {as : List Addr} {i : Nat} {p : Int × Int} {a : Addr}, (ps.map (·.1)).Nodup → ps[i]? = some p → as[i]? = some a → valV (kz ps as) (Sum.inl p.1 : Key) = some (.ref a)
  | [], _, i, _, _, _, h, _ => by simp at h
  | _ :: _, [], i, _, _, _, _, h => by simp at h
  | q :: r, b :: s, i, p, a, hn, h1, h2 => by
    rw [List.map_cons] at hn
    unfold valV
    show Option.map _ (List.find? _ ((Sum.inl q.1, V.ref b) :: kz r s)) = _
    rw [List.find?_cons]
    cases i with
    | zero =>
      simp at h1 h2
      subst h1 h2
      simp
    | succ i =>
      have hp : p ∈ r := List.mem_of_getElem? (by simpa using h1)
      have hne : q.1 ≠ p.1 := fun z => (List.nodup_cons.mp hn).1 (by rw [z]; exact List.mem_map_of_mem hp)
      have hd : decide ((Sum.inl q.1 : Key) = Sum.inl p.1) = false := decide_eq_false fun z => hne (Sum.inl.inj z)
      dsimp only
      rw [hd]
      exact kz_val (List.nodup_cons.mp hn).2 (i := i) (by simpa using h1) (by simpa using h2)
theorem hasK_inv {ps : List (Int × Int)} {n : Int} (h : hasK (kvsOf ps) n = true) : ∃ (i : Nat) (p : Int × Int), ps[i]? = some p ∧ p.1 = n := by
  unfold hasK valV kvsOf at h
  rw [Option.isSome_map, List.find?_isSome] at h
  obtain ⟨kv, hm, he⟩ := h
  obtain ⟨p, hp, e⟩ := List.mem_map.mp hm
  subst e
  obtain ⟨i, hi, e2⟩ := List.mem_iff_getElem.mp hp
  refine ⟨i, p, by rw [List.getElem?_eq_getElem hi, e2], ?_⟩
  exact Sum.inl.inj (of_decide_eq_true he)
theorem TiOk.at {kvs : List (Key × V)} : ∀ {ts : List (Int × Int)} {q : Int × Int}, TiOk kvs q ts → ∀ t ∈ ts, t.1 < t.2 ∧ hasK kvs t.1 = true ∧ hasK kvs t.2 = true
  | [], _, _, _, h => by cases h
  | p :: r, q, h, t, ht => by
    rcases List.mem_cons.mp ht with e | ht
    · rw [e]; exact ⟨h.1.2.1, h.1.2.2.1, h.1.2.2.2⟩
    · exact TiOk.at h.2 t ht
/-- the lists of what is near, each at its own address -/
def Nears (H : Hp) (ps ts : List (Int × Int)) (as : List Addr) : Prop := ∀ (i : Nat) (p : Int × Int) (a : Addr), ps[i]? = some p → as[i]? = some a → H a = some (.lst ((nearL ts p.1).map V.int))
def spNearsIn : Sp := fun vs H Q _ => ∃ v ps ts, vs = [v] ∧ WebAt H v ps ts ∧ WebOk ps ts ∧ ∀ d as H', H d = none → Same H H' → H' d = some (.dK (kz ps as)) → as.length = ps.length → Nears H' ps ts as → Q (.ref d) H'
def spAllIn : Sp := fun vs H Q _ => ∃ (a d : Addr) (ns ss : List Int), vs = [.ref a, .ref d] ∧ H a = some (.lst (ns.map V.int)) ∧ H d = some (.dK (mk ss)) ∧ ns.length ≤ 900 ∧ ∀ H', Same H H' → Q (.bl (ns.all fun n => decide (n ∈ ss))) H'
def needL (ss : List Int) (ts : List (Int × Int)) : List Int := ss.filter fun n => (nearL ts n).all fun m => decide (m ∈ ss)
def spNeedless : Sp := fun vs H Q _ => ∃ v u ps ts ss, vs = [v, u] ∧ WebAt H v ps ts ∧ WebOk ps ts ∧ SetAt H u ss ∧ SetIn ps ss ∧ ∀ l H', H l = none → Same H H' → H' l = some (.lst ((needL ss ts).map V.int)) → Q (.ref l) H'
theorem nodup_at {α : Type} {l : List α} (h : l.Nodup) {i j : Nat} {a b : α} (h1 : l[i]? = some a) (h2 : l[j]? = some b) (hij : i ≠ j) : a ≠ b := by
  intro e
  subst e
  obtain ⟨p1, q1⟩ := List.getElem?_eq_some_iff.mp h1
  obtain ⟨p2, q2⟩ := List.getElem?_eq_some_iff.mp h2
  exact hij ((List.getElem_inj h).mp (q1.trans q2.symm))
theorem SeOk.has {kvs : List (Key × V)} : ∀ {ss : List Int} {l : Int}, SeOk kvs l ss → ∀ n ∈ ss, hasK kvs n = true
  | [], _, _, _, h => by cases h
  | q :: r, l, h, n, hn => by
    rcases List.mem_cons.mp hn with e | hn
    · rw [e]; exact h.1.1
    · exact SeOk.has h.2 n hn
local macro_rules | `(tactic| walk_at "RD") => `(tactic| try simp only [fInsS, fIsB, tSeq, tNext, tDrop, tRet, tRetN, tIfS, tAsg, gName, fAug, tOp, tUn, tC, fVar, fI, fIC, fNeg, fEq, fNe, fIsN, isNon, fAnd, fOr, fNot, fB, tNot, tAnd, tOr, fChain, fIx, fLen, fListOf, fMin, fMax, fInL, fSlL, tSl, fPart, tNoPart, fAppend, fBM, fSetL, gSub, fGNil, fGCons, fGTup, fGLst, fDGet2, sDPutF, tDNewK, fCat, fClear, fBM0, fSlT, fInt1, tCBK, fDIn, fDGet, fIsi, fBools, fDictL, fLtT, tCall, tCB, tCons, tNil, tTup, tLst, tIf, tTrue, Kd.nm, L2.start, List.map_cons, List.map_nil, List.length_cons, List.length_nil, Nat.reduceAdd, Nat.reduceSub, List.replicate_succ, List.replicate_zero, List.getElem?_cons_zero, List.getElem?_cons_succ, List.set_cons_zero, List.set_cons_succ, List.append_nil, List.nil_append, List.cons_append, eq_self, true_and, and_true, if_true, Bool.false_eq_true, if_false, Bool.not_true, Bool.not_false, id_eq, sl0, sl1, sl2, sl3, sl4])
theorem ok_nears_in {f : Addr} {fd : FuncData}  (B : Blt mg) (D : DefAt K mg "nears_in" (top 21) ["web"] f fd) : FnOk P w K mg base CX0 1 f fd ["web"] spNearsIn := by
  have sc : FnScope ["web", "nears", "one", "other"] ["web"] (defScope (top 21)) := ⟨rfl, rfl, rfl, by decide +kernel, rfl, by decide +kernel, by decide +kernel⟩
  refine D.F.ok sc (fun vs H Q E h => ?_) (fun cdv A outer s H vs Q E hr h => ?_)
  · obtain ⟨v, ps, ts, rfl, _⟩ := h
    rfl
  obtain ⟨v, ps, ts, rfl, hw, wok, h⟩ := h
  obtain ⟨x, pa, ta, xs, ys, rfl, ex, ep, et, pp, pt⟩ := id hw
  have hlx : xs.length = ps.length := Paired.length pp
  have hly : ys.length = ts.length := Paired.length pt
  have okl := wok.pl
  have okt := wok.tl
  have hnd := wok.p.nodup
  have hu := hu_of hr
  have hu0 : _ < PySem.cLine := Nat.lt_of_succ_lt hu
  refine ⟨_, (pss_cons (ps_set (i := 1) sc.nd rfl (Or.inl rfl) (pe_callTy (q_dictL rfl) rfl B.dict PyProof.Rows.boot_dict (pa_cons (pe_comp (CpScope.of (N := ["place", "price"]) (src := [none, none]) (by rfl)) rfl (pi_list (pe_ix q_ix (qv 0) pe_int (fun _ _ => rfl))) (fun _ _ _ _ => (qg_tup (n := 2) rfl (qgs_cons (pg_name (i := 0) (nodupB_ok (l := ["place", "price"]) (by rfl)) rfl (Or.inl rfl)) (qgs_cons (pg_name (i := 1) (nodupB_ok (l := ["place", "price"]) (by rfl)) rfl (Or.inl rfl)) qgs_nil)))) (fun _ _ _ _ => pif_nil) (fun _ _ _ _ => (pe_tup (pa_cons (qv 0) (pa_cons (pe_lst pa_nil) pa_nil))))) pa_nil))) (pss_cons (ps_for PassesOwn.never rfl (pi_list (pe_ix q_ix (qv 0) pe_int (fun _ _ => rfl))) (qg_tup (n := 2) rfl (qgs_cons (pg_name (i := 2) sc.nd rfl (Or.inl rfl)) (qgs_cons (pg_name (i := 3) sc.nd rfl (Or.inl rfl)) qgs_nil))) (pss_cons (ps_expr (q_bm PySem.F.plainAttrs_list PySem.F.slot_list_append PySem.F.type_list_append q_append (q_dget hu (qv 1) (qv 2) (fun _ _ => rfl)) (pa_cons (qv 3) pa_nil))) (pss_one (ps_expr (q_bm PySem.F.plainAttrs_list PySem.F.slot_list_append PySem.F.type_list_append q_append (q_dget hu (qv 1) (qv 3) (fun _ _ => rfl)) (pa_cons (qv 2) pa_nil)))))) (pss_one (ps_ret (qv 1))))), ?_⟩
  walk_at "RD"
  refine tComp_hide (Itl K pa) H (fun R hR => ?_) (fun l hl0 => comp_run ps.length (fun i σ' Hc => ∃ w1 w2 zs as, σ' = [w1, w2] ∧ Same H Hc ∧ Hc l = some (.lst zs) ∧ as.length = i ∧ as.Nodup ∧ (∀ a ∈ as, H a = none ∧ a ≠ l ∧ Hc a = some (.lst [])) ∧ Paired (PairAt Hc) zs (kz (ps.take i) as)) ⟨none, none, [], [], rfl, same_new hl0 _, upd_same, rfl, List.nodup_nil, (fun _ h => by cases h), .nil⟩ ?_ ?_)
  · unfold iList
    try simp only [fInsS, fIsB, tSeq, tNext, tDrop, tRet, tRetN, tIfS, tAsg, gName, fAug, tOp, tUn, tC, fVar, fI, fIC, fNeg, fEq, fNe, fIsN, isNon, fAnd, fOr, fNot, fB, tNot, tAnd, tOr, fChain, fIx, fLen, fListOf, fMin, fMax, fInL, fSlL, tSl, fPart, tNoPart, fAppend, fBM, fSetL, gSub, fGNil, fGCons, fGTup, fGLst, fDGet2, sDPutF, tDNewK, fCat, fClear, fBM0, fSlT, fInt1, tCBK, fDIn, fDGet, fIsi, fBools, fDictL, fLtT, tCall, tCB, tCons, tNil, tTup, tLst, tIf, tTrue, Kd.nm, L2.start, List.map_cons, List.map_nil, List.length_cons, List.length_nil, Nat.reduceAdd, Nat.reduceSub, List.replicate_succ, List.replicate_zero, List.getElem?_cons_zero, List.getElem?_cons_succ, List.set_cons_zero, List.set_cons_succ, List.append_nil, List.nil_append, List.cons_append, eq_self, true_and, and_true, if_true, Bool.false_eq_true, if_false, Bool.not_true, Bool.not_false, id_eq, sl0, sl1, sl2, sl3, sl4, seqOf, ex, at0]
    exact ⟨pa, rfl, ⟨_, SqL.of ep⟩, hR⟩
  · rintro i σ' Hc hi ⟨w1, w2, zs, as, rfl, s2, ez, hla, nda, ha, pz⟩
    have x1 : xs[i]? = some (xs[i]'(by omega)) := List.getElem?_eq_getElem _
    have z1 : SqL K Hc pa xs := SqL.of (s2 _ _ ep)
    have hlt : (ps.take i).length = as.length := by rw [List.length_take]; omega
    have hlz : zs.length = (kz (ps.take i) as).length := Paired.length pz
    have hlz2 : zs.length ≤ i := by
      have e := congrArg List.length (kz_keys hlt)
      rw [List.length_map, List.length_map] at e
      omega
    refine ⟨⟨_, _, z1, x1⟩, ?_⟩
    rintro y H' ⟨rfl, hy⟩
    obtain ⟨q, hq, pq⟩ := paired_left pp (hy _ z1)
    obtain ⟨t, rfl, ht⟩ := pq.same s2
    try simp only [fInsS, fIsB, tSeq, tNext, tDrop, tRet, tRetN, tIfS, tAsg, gName, fAug, tOp, tUn, tC, fVar, fI, fIC, fNeg, fEq, fNe, fIsN, isNon, fAnd, fOr, fNot, fB, tNot, tAnd, tOr, fChain, fIx, fLen, fListOf, fMin, fMax, fInL, fSlL, tSl, fPart, tNoPart, fAppend, fBM, fSetL, gSub, fGNil, fGCons, fGTup, fGLst, fDGet2, sDPutF, tDNewK, fCat, fClear, fBM0, fSlT, fInt1, tCBK, fDIn, fDGet, fIsi, fBools, fDictL, fLtT, tCall, tCB, tCons, tNil, tTup, tLst, tIf, tTrue, Kd.nm, L2.start, List.map_cons, List.map_nil, List.length_cons, List.length_nil, Nat.reduceAdd, Nat.reduceSub, List.replicate_succ, List.replicate_zero, List.getElem?_cons_zero, List.getElem?_cons_succ, List.set_cons_zero, List.set_cons_succ, List.append_nil, List.nil_append, List.cons_append, eq_self, true_and, and_true, if_true, Bool.false_eq_true, if_false, Bool.not_true, Bool.not_false, id_eq, sl0, sl1, sl2, sl3, sl4, ht]
    intro a1 ha1 t2 ht2
    have na1 : a1 ≠ l := fun z => by rw [z, ez] at ha1; cases ha1
    have nt2 : t2 ≠ a1 := fun z => by rw [z, upd_same] at ht2; cases ht2
    have s3 := same_new ha1 (.lst [])
    have s4 := same_new ht2 (.tup [.int q.1, .ref a1])
    have ez2 := s4 _ _ (s3 _ _ ez)
    have t6 := tups_lst (ys := zs ++ [.ref t2]) ez2
    refine ⟨zs, ez2, szl' (by omega), _, _, zs ++ [.ref t2], as ++ [a1], rfl, same_upd (s2.trans (s3.trans s4)) hl0, (by first | rfl | exact upd_same), (by rw [List.length_append, hla]; rfl), ?_, ?_, ?_⟩
    · rw [List.nodup_append]
      refine ⟨nda, (by simp), fun a hm b hb => ?_⟩
      have hb' : b = a1 := by simpa using hb
      intro z
      rw [hb'] at z
      have := (ha a hm).2.2
      rw [z, ha1] at this
      cases this
    · intro a hm
      rcases List.mem_append.mp hm with hm | hm
      · obtain ⟨q1, q2, q3⟩ := ha a hm
        refine ⟨q1, q2, ?_⟩
        rw [upd_ne q2]
        exact s4 _ _ (s3 _ _ q3)
      · have e : a = a1 := by simpa using hm
        subst e
        refine ⟨s2.free ha1, na1, ?_⟩
        rw [upd_ne na1]
        exact s4 _ _ upd_same
    · rw [take_get hq, kz_snoc hlt]
      refine paired_snoc (Paired.mapP pz fun v p q => ?_) ⟨t2, rfl, t6 _ _ rfl upd_same⟩
      obtain ⟨b, e, q⟩ := q
      exact ⟨b, e, t6 _ _ rfl (s4 _ _ (s3 _ _ q))⟩
  rintro σ' Hc ⟨w1, w2, zs, as, rfl, s2, ez, hla, nda, ha, pz⟩
  refine ⟨⟨_, SqL.of (s2 _ _ ep), by omega⟩, ?_⟩
  rw [List.take_length] at pz
  have hlz : zs.length = (kz ps as).length := Paired.length pz
  have hkk := kz_keys (ps := ps) (as := as) hla.symm
  have hlz2 : zs.length = ps.length := by
    have e := congrArg List.length hkk
    rw [List.length_map, List.length_map] at e
    omega
  try simp only [fInsS, fIsB, tSeq, tNext, tDrop, tRet, tRetN, tIfS, tAsg, gName, fAug, tOp, tUn, tC, fVar, fI, fIC, fNeg, fEq, fNe, fIsN, isNon, fAnd, fOr, fNot, fB, tNot, tAnd, tOr, fChain, fIx, fLen, fListOf, fMin, fMax, fInL, fSlL, tSl, fPart, tNoPart, fAppend, fBM, fSetL, gSub, fGNil, fGCons, fGTup, fGLst, fDGet2, sDPutF, tDNewK, fCat, fClear, fBM0, fSlT, fInt1, tCBK, fDIn, fDGet, fIsi, fBools, fDictL, fLtT, tCall, tCB, tCons, tNil, tTup, tLst, tIf, tTrue, Kd.nm, L2.start, List.map_cons, List.map_nil, List.length_cons, List.length_nil, Nat.reduceAdd, Nat.reduceSub, List.replicate_succ, List.replicate_zero, List.getElem?_cons_zero, List.getElem?_cons_succ, List.set_cons_zero, List.set_cons_succ, List.append_nil, List.nil_append, List.cons_append, eq_self, true_and, and_true, if_true, Bool.false_eq_true, if_false, Bool.not_true, Bool.not_false, id_eq, sl0, sl1, sl2, sl3, sl4, ez]
  refine ⟨kz ps as, pz, by omega, ?_, fun d hd => ?_⟩
  · rw [hkk]
    have hnd2 := hnd
    unfold List.Nodup at hnd2 ⊢
    rw [List.pairwise_map] at hnd2 ⊢
    exact hnd2.imp fun q z => q (Sum.inl.inj z)
  have s3 := same_new hd (.dK (kz ps as))
  have ed : upd Hc d (.dK (kz ps as)) d = some (.dK (kz ps as)) := upd_same
  have hd0 := s2.free hd
  have ha3 : ∀ a ∈ as, H a = none ∧ a ≠ d ∧ upd Hc d (.dK (kz ps as)) a = some (.lst []) := fun a hm => by
    obtain ⟨q1, q2, q3⟩ := ha a hm
    exact ⟨q1, ne_of_none q3 hd, s3 _ _ q3⟩
  have s23 := s2.trans s3
  generalize upd Hc d (.dK (kz ps as)) = H2 at s23 ed ha3
  clear s3 s2 ez pz ha hlz hd
  refine tFor_hide (Itl K ta) H2 (fun R hR => ?_) (for_list (K := K) (a := ta) (xs := ys) (fun j σ H3 => ∃ v1 v2, σ = [some (.ref x), some (.ref d), v1, v2] ∧ Same H H3 ∧ H3 d = some (.dK (kz ps as)) ∧ Nears H3 ps (ts.take j) as) ⟨none, none, rfl, s23, ed, fun i p a _ h2 => (ha3 a (List.mem_of_getElem? h2)).2.2⟩ (fun i σ H3 _ ⟨_, _, _, s3, _⟩ => SqL.of (s3 _ _ et)) ?_ ?_)
  · unfold iList
    try simp only [fInsS, fIsB, tSeq, tNext, tDrop, tRet, tRetN, tIfS, tAsg, gName, fAug, tOp, tUn, tC, fVar, fI, fIC, fNeg, fEq, fNe, fIsN, isNon, fAnd, fOr, fNot, fB, tNot, tAnd, tOr, fChain, fIx, fLen, fListOf, fMin, fMax, fInL, fSlL, tSl, fPart, tNoPart, fAppend, fBM, fSetL, gSub, fGNil, fGCons, fGTup, fGLst, fDGet2, sDPutF, tDNewK, fCat, fClear, fBM0, fSlT, fInt1, tCBK, fDIn, fDGet, fIsi, fBools, fDictL, fLtT, tCall, tCB, tCons, tNil, tTup, tLst, tIf, tTrue, Kd.nm, L2.start, List.map_cons, List.map_nil, List.length_cons, List.length_nil, Nat.reduceAdd, Nat.reduceSub, List.replicate_succ, List.replicate_zero, List.getElem?_cons_zero, List.getElem?_cons_succ, List.set_cons_zero, List.set_cons_succ, List.append_nil, List.nil_append, List.cons_append, eq_self, true_and, and_true, if_true, Bool.false_eq_true, if_false, Bool.not_true, Bool.not_false, id_eq, sl0, sl1, sl2, sl3, sl4, seqOf, s23 _ _ ex, at1]
    exact ⟨ta, rfl, ⟨_, SqL.of (s23 _ _ et)⟩, hR⟩
  · rintro j y σ H3 hj ⟨v1, v2, rfl, s3, ed3, hN⟩
    obtain ⟨q, hq, pq⟩ := paired_left pt hj
    obtain ⟨t, rfl, ht⟩ := pq.same s3
    obtain ⟨b1, b2, b3⟩ := wok.t.at q (List.mem_of_getElem? hq)
    obtain ⟨i1, p1, g1, e1⟩ := hasK_inv b2
    obtain ⟨i2, p2, g2, e2⟩ := hasK_inv b3
    have hi1 : i1 < as.length := by have := (List.getElem?_eq_some_iff.mp g1).1; omega
    have hi2 : i2 < as.length := by have := (List.getElem?_eq_some_iff.mp g2).1; omega
    have A1 : as[i1]? = some as[i1] := List.getElem?_eq_getElem hi1
    have A2 : as[i2]? = some as[i2] := List.getElem?_eq_getElem hi2
    generalize as[i1] = a1 at A1
    generalize as[i2] = a2 at A2
    have V1 := kz_val hnd g1 A1
    have V2 := kz_val hnd g2 A2
    have n12 : i1 ≠ i2 := fun z => by rw [z, g2] at g1; cases g1; omega
    have na : a1 ≠ a2 := nodup_at nda A1 A2 n12
    rw [e1] at V1
    rw [e2] at V2
    have M1 := hN i1 p1 a1 g1 A1
    have M2 := hN i2 p2 a2 g2 A2
    have hlj : ∀ n, (nearL (ts.take j) n).length ≤ 120 := fun n => Nat.le_trans (nearL_len _ _) (by rw [List.length_take]; omega)
    have nd1 : d ≠ a1 := ((ha3 a1 (List.mem_of_getElem? A1)).2.1).symm
    have nd2 : d ≠ a2 := ((ha3 a2 (List.mem_of_getElem? A2)).2.1).symm
    try simp only [fInsS, fIsB, tSeq, tNext, tDrop, tRet, tRetN, tIfS, tAsg, gName, fAug, tOp, tUn, tC, fVar, fI, fIC, fNeg, fEq, fNe, fIsN, isNon, fAnd, fOr, fNot, fB, tNot, tAnd, tOr, fChain, fIx, fLen, fListOf, fMin, fMax, fInL, fSlL, tSl, fPart, tNoPart, fAppend, fBM, fSetL, gSub, fGNil, fGCons, fGTup, fGLst, fDGet2, sDPutF, tDNewK, fCat, fClear, fBM0, fSlT, fInt1, tCBK, fDIn, fDGet, fIsi, fBools, fDictL, fLtT, tCall, tCB, tCons, tNil, tTup, tLst, tIf, tTrue, Kd.nm, L2.start, List.map_cons, List.map_nil, List.length_cons, List.length_nil, Nat.reduceAdd, Nat.reduceSub, List.replicate_succ, List.replicate_zero, List.getElem?_cons_zero, List.getElem?_cons_succ, List.set_cons_zero, List.set_cons_succ, List.append_nil, List.nil_append, List.cons_append, eq_self, true_and, and_true, if_true, Bool.false_eq_true, if_false, Bool.not_true, Bool.not_false, id_eq, sl0, sl1, sl2, sl3, sl4, ht, ed3, V1]
    refine ⟨⟨a1, _, rfl, M1⟩, ?_⟩
    try simp only [fInsS, fIsB, tSeq, tNext, tDrop, tRet, tRetN, tIfS, tAsg, gName, fAug, tOp, tUn, tC, fVar, fI, fIC, fNeg, fEq, fNe, fIsN, isNon, fAnd, fOr, fNot, fB, tNot, tAnd, tOr, fChain, fIx, fLen, fListOf, fMin, fMax, fInL, fSlL, tSl, fPart, tNoPart, fAppend, fBM, fSetL, gSub, fGNil, fGCons, fGTup, fGLst, fDGet2, sDPutF, tDNewK, fCat, fClear, fBM0, fSlT, fInt1, tCBK, fDIn, fDGet, fIsi, fBools, fDictL, fLtT, tCall, tCB, tCons, tNil, tTup, tLst, tIf, tTrue, Kd.nm, L2.start, List.map_cons, List.map_nil, List.length_cons, List.length_nil, Nat.reduceAdd, Nat.reduceSub, List.replicate_succ, List.replicate_zero, List.getElem?_cons_zero, List.getElem?_cons_succ, List.set_cons_zero, List.set_cons_succ, List.append_nil, List.nil_append, List.cons_append, eq_self, true_and, and_true, if_true, Bool.false_eq_true, if_false, Bool.not_true, Bool.not_false, id_eq, sl0, sl1, sl2, sl3, sl4, M1]
    refine ⟨szl' (by rw [List.length_map]; have := hlj p1.1; omega), ?_⟩
    try simp only [fInsS, fIsB, tSeq, tNext, tDrop, tRet, tRetN, tIfS, tAsg, gName, fAug, tOp, tUn, tC, fVar, fI, fIC, fNeg, fEq, fNe, fIsN, isNon, fAnd, fOr, fNot, fB, tNot, tAnd, tOr, fChain, fIx, fLen, fListOf, fMin, fMax, fInL, fSlL, tSl, fPart, tNoPart, fAppend, fBM, fSetL, gSub, fGNil, fGCons, fGTup, fGLst, fDGet2, sDPutF, tDNewK, fCat, fClear, fBM0, fSlT, fInt1, tCBK, fDIn, fDGet, fIsi, fBools, fDictL, fLtT, tCall, tCB, tCons, tNil, tTup, tLst, tIf, tTrue, Kd.nm, L2.start, List.map_cons, List.map_nil, List.length_cons, List.length_nil, Nat.reduceAdd, Nat.reduceSub, List.replicate_succ, List.replicate_zero, List.getElem?_cons_zero, List.getElem?_cons_succ, List.set_cons_zero, List.set_cons_succ, List.append_nil, List.nil_append, List.cons_append, eq_self, true_and, and_true, if_true, Bool.false_eq_true, if_false, Bool.not_true, Bool.not_false, id_eq, sl0, sl1, sl2, sl3, sl4, upd_ne nd1, ed3, V2]
    refine ⟨⟨a2, _, rfl, (by rw [upd_ne na.symm]; exact M2)⟩, ?_⟩
    try simp only [fInsS, fIsB, tSeq, tNext, tDrop, tRet, tRetN, tIfS, tAsg, gName, fAug, tOp, tUn, tC, fVar, fI, fIC, fNeg, fEq, fNe, fIsN, isNon, fAnd, fOr, fNot, fB, tNot, tAnd, tOr, fChain, fIx, fLen, fListOf, fMin, fMax, fInL, fSlL, tSl, fPart, tNoPart, fAppend, fBM, fSetL, gSub, fGNil, fGCons, fGTup, fGLst, fDGet2, sDPutF, tDNewK, fCat, fClear, fBM0, fSlT, fInt1, tCBK, fDIn, fDGet, fIsi, fBools, fDictL, fLtT, tCall, tCB, tCons, tNil, tTup, tLst, tIf, tTrue, Kd.nm, L2.start, List.map_cons, List.map_nil, List.length_cons, List.length_nil, Nat.reduceAdd, Nat.reduceSub, List.replicate_succ, List.replicate_zero, List.getElem?_cons_zero, List.getElem?_cons_succ, List.set_cons_zero, List.set_cons_succ, List.append_nil, List.nil_append, List.cons_append, eq_self, true_and, and_true, if_true, Bool.false_eq_true, if_false, Bool.not_true, Bool.not_false, id_eq, sl0, sl1, sl2, sl3, sl4, upd_ne na.symm, M2]
    refine ⟨szl' (by rw [List.length_map]; have := hlj p2.1; omega), _, _, rfl, ?_, ?_, ?_⟩
    · intro b o hb
      rw [upd_ne (ne_of_none hb (ha3 a2 (List.mem_of_getElem? A2)).1), upd_ne (ne_of_none hb (ha3 a1 (List.mem_of_getElem? A1)).1)]
      exact s3 b o hb
    · rw [upd_ne nd2, upd_ne nd1]
      exact ed3
    · intro i p a hp ha'
      rw [nearL_take hq, List.map_append]
      have hpe : ∀ {k : Nat} {r : Int × Int}, ps[k]? = some r → r.1 = p.1 → k = i := fun {k r} hr he => by
        have h1 : (ps.map (·.1))[k]? = some r.1 := by rw [List.getElem?_map, hr]; rfl
        have h2 : (ps.map (·.1))[i]? = some p.1 := by rw [List.getElem?_map, hp]; rfl
        by_cases z : k = i
        · exact z
        · exact absurd he (nodup_at hnd h1 h2 z)
      by_cases c2 : i = i2
      · subst c2
        rw [g2] at hp
        cases hp
        rw [A2] at ha'
        cases ha'
        have e3 : nr p2.1 q = [q.1] := by
          unfold nr
          rw [if_neg (by omega), if_pos e2.symm]
        rw [upd_same, e3]
        rfl
      by_cases c1 : i = i1
      · subst c1
        rw [g1] at hp
        cases hp
        rw [A1] at ha'
        cases ha'
        have e3 : nr p1.1 q = [q.2] := by
          unfold nr
          rw [if_pos e1.symm]
        rw [upd_ne na, upd_same, e3]
        rfl
      have n1 : a ≠ a1 := nodup_at nda ha' A1 c1
      have n2 : a ≠ a2 := nodup_at nda ha' A2 c2
      have e3 : nr p.1 q = [] := by
        unfold nr
        rw [if_neg (fun z => c1 (hpe g1 (e1.trans z)).symm), if_neg (fun z => c2 (hpe g2 (e2.trans z)).symm)]
      rw [upd_ne n2, upd_ne n1, e3, List.map_nil, List.append_nil]
      exact hN i p a hp ha'
  · rintro σ H3 ⟨v1, v2, rfl, s3, ed3, hN⟩
    rw [hly, List.take_length] at hN
    walk_at "RD"
    exact h d as H3 hd0 s3 ed3 hla hN
theorem ok_all_in {f : Addr} {fd : FuncData}  (B : Blt mg) (D : DefAt K mg "all_in" (top 25) ["places", "chosen"] f fd) : FnOk P w K mg base CX0 1 f fd ["places", "chosen"] spAllIn := by
  have sc : FnScope ["places", "chosen"] ["places", "chosen"] (defScope (top 25)) := ⟨rfl, rfl, rfl, by decide +kernel, rfl, by decide +kernel, by decide +kernel⟩
  refine D.F.ok sc (fun vs H Q E h => ?_) (fun cdv A outer s H vs Q E hr h => ?_)
  · obtain ⟨a, d, ns, ss, rfl, _⟩ := h
    rfl
  obtain ⟨a, d, ns, ss, rfl, ea, ed, hl, h⟩ := h
  have hu := hu_of hr
  have hu0 : _ < PySem.cLine := Nat.lt_of_succ_lt hu
  refine ⟨_, (pss_one (ps_ret (pe_callB (q_all rfl) rfl B.all PyProof.Rows.boot_all (pa_cons (pe_comp (CpScope.of (N := ["place", "chosen"]) (src := [none, some 1]) (by rfl)) rfl (pi_list (qv 0)) (fun _ _ _ _ => (pg_name (i := 0) (nodupB_ok (l := ["place", "chosen"]) (by rfl)) rfl (Or.inl rfl))) (fun _ _ _ _ => pif_nil) (fun _ _ _ _ => (pe_cmp (q_din hu (qv 0) (qv 1))))) pa_nil)))), ?_⟩
  walk_at "RD"
  refine tComp_hide (Itl K a) H (fun R hR => ?_) (fun l hl0 => comp_run ns.length (fun i σ' Hc => ∃ w1, σ' = [w1, some (.ref d)] ∧ Same H Hc ∧ Hc l = some (.lst (((ns.take i).map fun n => decide (n ∈ ss)).map V.bl))) ⟨none, rfl, same_new hl0 _, upd_same⟩ ?_ ?_)
  · unfold iList
    walk_at "RD"
    exact ⟨a, rfl, ⟨_, SqL.of ea⟩, hR⟩
  · rintro i σ' Hc hi ⟨w1, rfl, s2, ez⟩
    have x1 : ns[i]? = some ns[i] := List.getElem?_eq_getElem hi
    have X1 : (ns.map V.int)[i]? = some (.int ns[i]) := by rw [List.getElem?_map, x1]; rfl
    refine ⟨⟨_, _, SqL.of (s2 _ _ ea), X1⟩, ?_⟩
    rintro y H' ⟨rfl, hy⟩
    have E1 : V.int ns[i] = y := Option.some.inj (X1.symm.trans (hy _ (SqL.of (s2 _ _ ea))))
    subst E1
    try simp only [fInsS, fIsB, tSeq, tNext, tDrop, tRet, tRetN, tIfS, tAsg, gName, fAug, tOp, tUn, tC, fVar, fI, fIC, fNeg, fEq, fNe, fIsN, isNon, fAnd, fOr, fNot, fB, tNot, tAnd, tOr, fChain, fIx, fLen, fListOf, fMin, fMax, fInL, fSlL, tSl, fPart, tNoPart, fAppend, fBM, fSetL, gSub, fGNil, fGCons, fGTup, fGLst, fDGet2, sDPutF, tDNewK, fCat, fClear, fBM0, fSlT, fInt1, tCBK, fDIn, fDGet, fIsi, fBools, fDictL, fLtT, tCall, tCB, tCons, tNil, tTup, tLst, tIf, tTrue, Kd.nm, L2.start, List.map_cons, List.map_nil, List.length_cons, List.length_nil, Nat.reduceAdd, Nat.reduceSub, List.replicate_succ, List.replicate_zero, List.getElem?_cons_zero, List.getElem?_cons_succ, List.set_cons_zero, List.set_cons_succ, List.append_nil, List.nil_append, List.cons_append, eq_self, true_and, and_true, if_true, Bool.false_eq_true, if_false, Bool.not_true, Bool.not_false, id_eq, sl0, sl1, sl2, sl3, sl4, s2 _ _ ed, mk_val]
    refine ⟨_, ez, ?_, _, rfl, same_upd s2 hl0, ?_⟩
    · rw [List.length_map, List.length_map, List.length_take]
      exact szl' (by omega)
    · rw [take_get x1, List.map_append, List.map_append]
      first | rfl | exact upd_same
  · rintro σ' Hc ⟨w1, rfl, s2, ez⟩
    refine ⟨⟨_, SqL.of (s2 _ _ ea), by rw [List.length_map]; exact Nat.le_refl _⟩, ?_⟩
    rw [List.take_length] at ez
    try simp only [fInsS, fIsB, tSeq, tNext, tDrop, tRet, tRetN, tIfS, tAsg, gName, fAug, tOp, tUn, tC, fVar, fI, fIC, fNeg, fEq, fNe, fIsN, isNon, fAnd, fOr, fNot, fB, tNot, tAnd, tOr, fChain, fIx, fLen, fListOf, fMin, fMax, fInL, fSlL, tSl, fPart, tNoPart, fAppend, fBM, fSetL, gSub, fGNil, fGCons, fGTup, fGLst, fDGet2, sDPutF, tDNewK, fCat, fClear, fBM0, fSlT, fInt1, tCBK, fDIn, fDGet, fIsi, fBools, fDictL, fLtT, tCall, tCB, tCons, tNil, tTup, tLst, tIf, tTrue, Kd.nm, L2.start, List.map_cons, List.map_nil, List.length_cons, List.length_nil, Nat.reduceAdd, Nat.reduceSub, List.replicate_succ, List.replicate_zero, List.getElem?_cons_zero, List.getElem?_cons_succ, List.set_cons_zero, List.set_cons_succ, List.append_nil, List.nil_append, List.cons_append, eq_self, true_and, and_true, if_true, Bool.false_eq_true, if_false, Bool.not_true, Bool.not_false, id_eq, sl0, sl1, sl2, sl3, sl4, ez]
    refine ⟨_, rfl, ?_⟩
    have e : (ns.map fun n => decide (n ∈ ss)).all id = ns.all fun n => decide (n ∈ ss) := by
      rw [List.all_map]
      rfl
    rw [e]
    exact h Hc s2
theorem ok_needless {f : Addr} {fd : FuncData} {f_look_at_set : Addr} {d_look_at_set : FuncData} {f_nears_in : Addr} {d_nears_in : FuncData} {f_marked : Addr} {d_marked : FuncData} {f_all_in : Addr} {d_all_in : FuncData} (B : Blt mg) (D : DefAt K mg "needless" (top 27) ["web", "some"] f fd) (D_look_at_set : DefAt K mg "look_at_set" (top 24) ["web", "thing"] f_look_at_set d_look_at_set) (G_look_at_set : FnOk P w K mg base CX0 7 f_look_at_set d_look_at_set ["web", "thing"] spLookSet) (D_nears_in : DefAt K mg "nears_in" (top 21) ["web"] f_nears_in d_nears_in) (G_nears_in : FnOk P w K mg base CX0 1 f_nears_in d_nears_in ["web"] spNearsIn) (D_marked : DefAt K mg "marked" (top 9) ["places"] f_marked d_marked) (G_marked : FnOk P w K mg base CX0 1 f_marked d_marked ["places"] spMarked) (D_all_in : DefAt K mg "all_in" (top 25) ["places", "chosen"] f_all_in d_all_in) (G_all_in : FnOk P w K mg base CX0 1 f_all_in d_all_in ["places", "chosen"] spAllIn) : FnOk P w K mg base CX0 8 f fd ["web", "some"] spNeedless := by
  have sc : FnScope ["web", "some", "nears", "chosen"] ["web", "some"] (defScope (top 27)) := ⟨rfl, rfl, rfl, by decide +kernel, rfl, by decide +kernel, by decide +kernel⟩
  refine D.F.ok sc (fun vs H Q E h => ?_) (fun cdv A outer s H vs Q E hr h => ?_)
  · obtain ⟨v, u, ps, ts, ss, rfl, _⟩ := h
    rfl
  obtain ⟨v, u, ps, ts, ss, rfl, hw, wok, hset, sin, h⟩ := h
  obtain ⟨sa, rfl, es⟩ := id hset
  have okq := sin.len
  have okt := wok.tl
  have hnd := wok.p.nodup
  have hu := hu_of hr
  have hu0 : _ < PySem.cLine := Nat.lt_of_succ_lt hu
  refine ⟨_, (pss_cons (ps_expr (pe_call G_look_at_set (hr.mono (by decide)) rfl D_look_at_set.m D_look_at_set.F.kp D_look_at_set.b .nil pass0 (pa_cons (qv 0) (pa_cons (qv 1) pa_nil)))) (pss_cons (ps_set (i := 2) sc.nd rfl (Or.inr rfl) (pe_call G_nears_in (hr.mono (by decide)) rfl D_nears_in.m D_nears_in.F.kp D_nears_in.b .nil pass0 (pa_cons (qv 0) pa_nil))) (pss_cons (ps_set (i := 3) sc.nd rfl (Or.inr rfl) (pe_call G_marked (hr.mono (by decide)) rfl D_marked.m D_marked.F.kp D_marked.b .nil pass0 (pa_cons (qv 1) pa_nil))) (pss_one (ps_ret (pe_comp (CpScope.of (N := ["place", "chosen", "nears"]) (src := [none, some 3, some 2]) (by rfl)) rfl (pi_list (qv 1)) (fun _ _ _ _ => (pg_name (i := 0) (nodupB_ok (l := ["place", "chosen", "nears"]) (by rfl)) rfl (Or.inl rfl))) (fun _ _ _ _ => (pif_one (qt_val (pe_call G_all_in (hr.mono (by decide)) rfl D_all_in.m D_all_in.F.kp D_all_in.b .nil pass0 (pa_cons (q_dget hu (qv 2) (qv 0) (fun _ _ => rfl)) (pa_cons (qv 1) pa_nil)))))) (fun _ _ _ _ => (qv 0)))))))), ?_⟩
  walk_at "RD"
  refine ⟨_, _, ps, ts, ss, rfl, hw, wok, hset, sin, fun H1 s1 => ?_⟩
  walk_at "RD"
  refine ⟨_, ps, ts, rfl, hw.same s1, wok, fun d as H2 hd s2 ed hla hN => ?_⟩
  walk_at "RD"
  refine ⟨_, ss, rfl, hset.same (s1.trans s2), sin.ok.nodup, by omega, fun c H3 hc s3 ec => ?_⟩
  walk_at "RD"
  have s13 := s1.trans (s2.trans s3)
  refine tComp_hide (Itl K sa) H3 (fun R hR => ?_) (fun l hl0 => comp_run ss.length (fun i σ' Hc => ∃ w1, σ' = [w1, some (.ref c), some (.ref d)] ∧ Same H3 Hc ∧ Hc l = some (.lst (((ss.take i).filter fun n => (nearL ts n).all fun m => decide (m ∈ ss)).map V.int))) ⟨none, rfl, same_new hl0 _, upd_same⟩ ?_ ?_)
  · unfold iList
    walk_at "RD"
    exact ⟨sa, rfl, ⟨_, SqL.of (s13 _ _ es)⟩, hR⟩
  · rintro i σ' Hc hi ⟨w1, rfl, s4, ez⟩
    have x1 : ss[i]? = some ss[i] := List.getElem?_eq_getElem hi
    generalize ss[i] = n at x1
    have X1 : (ss.map V.int)[i]? = some (.int n) := by rw [List.getElem?_map, x1]; rfl
    have z1 : SqL K Hc sa (ss.map V.int) := SqL.of (s4 _ _ (s13 _ _ es))
    refine ⟨⟨_, _, z1, X1⟩, ?_⟩
    rintro y H' ⟨rfl, hy⟩
    have E1 : V.int n = y := Option.some.inj (X1.symm.trans (hy _ z1))
    subst E1
    obtain ⟨j, p, hp, e⟩ := hasK_inv (sin.ok.has n (List.mem_of_getElem? x1))
    have hj : j < as.length := by have := (List.getElem?_eq_some_iff.mp hp).1; omega
    have A1 : as[j]? = some as[j] := List.getElem?_eq_getElem hj
    generalize as[j] = a1 at A1
    have V1 := kz_val hnd hp A1
    rw [e] at V1
    have M1 := s4 _ _ (s3 _ _ (hN j p a1 hp A1))
    rw [e] at M1
    have hle := nearL_len ts n
    have ft := filter_take (f := fun n => (nearL ts n).all fun m => decide (m ∈ ss)) x1
    try simp only [fInsS, fIsB, tSeq, tNext, tDrop, tRet, tRetN, tIfS, tAsg, gName, fAug, tOp, tUn, tC, fVar, fI, fIC, fNeg, fEq, fNe, fIsN, isNon, fAnd, fOr, fNot, fB, tNot, tAnd, tOr, fChain, fIx, fLen, fListOf, fMin, fMax, fInL, fSlL, tSl, fPart, tNoPart, fAppend, fBM, fSetL, gSub, fGNil, fGCons, fGTup, fGLst, fDGet2, sDPutF, tDNewK, fCat, fClear, fBM0, fSlT, fInt1, tCBK, fDIn, fDGet, fIsi, fBools, fDictL, fLtT, tCall, tCB, tCons, tNil, tTup, tLst, tIf, tTrue, Kd.nm, L2.start, List.map_cons, List.map_nil, List.length_cons, List.length_nil, Nat.reduceAdd, Nat.reduceSub, List.replicate_succ, List.replicate_zero, List.getElem?_cons_zero, List.getElem?_cons_succ, List.set_cons_zero, List.set_cons_succ, List.append_nil, List.nil_append, List.cons_append, eq_self, true_and, and_true, if_true, Bool.false_eq_true, if_false, Bool.not_true, Bool.not_false, id_eq, sl0, sl1, sl2, sl3, sl4, s4 _ _ (s3 _ _ ed), V1]
    refine ⟨a1, c, _, ss, rfl, M1, s4 _ _ ec, by omega, fun H5 s5 => ?_⟩
    walk_at "RD"
    rw [ft]
    have e5 := s5 _ _ ez
    refine ite2 (fun c1 => ?_) (fun c1 => ?_)
    · rw [if_pos c1]
      refine ⟨_, e5, ?_, _, rfl, same_upd (s4.trans s5) hl0, ?_⟩
      · rw [List.length_map]
        exact szl' (Nat.le_trans (List.length_filter_le _ _) (by rw [List.length_take]; omega))
      · rw [List.map_append]
        first | rfl | exact upd_same
    · rw [if_neg c1, List.append_nil]
      exact ⟨_, rfl, s4.trans s5, e5⟩
  · rintro σ' Hc ⟨w1, rfl, s4, ez⟩
    refine ⟨⟨_, SqL.of (s4 _ _ (s13 _ _ es)), by rw [List.length_map]; exact Nat.le_refl _⟩, ?_⟩
    rw [List.take_length] at ez
    exact h l Hc (s13.free hl0) (s13.trans s4) ez
end
end My

set_option Elab.async false
set_option linter.all false
set_option maxRecDepth 100000
set_option maxHeartbeats 4000000
namespace My
open PySem L2
section
variable {P : Program} {w : World} {K : PySem.W.Frag} {mg : Str → Option Value} {base : Heap} {c1 c2 c3 c4 : Tok}
theorem Dr.pl : ∀ {ps : List (Int × Int)} {l s : Int}, Dr l ps → l + 23 * ps.length ≤ 999 → s + 1000000000 * ps.length ≤ 1000000000000 → PlOk l s ps
  | [], _, _, _, _, _ => trivial
  | p :: r, l, s, h, h1, h2 => by
    have e : ((p :: r).length : Int) = r.length + 1 := by simp
    rw [e] at h1 h2
    obtain ⟨⟨a1, a2, a3, a4⟩, h3⟩ := h
    exact ⟨⟨a1, by omega, a3, by omega⟩, Dr.pl h3 (by omega) (by omega)⟩
theorem Dr.gt : ∀ {ps : List (Int × Int)} {l : Int}, Dr l ps → ∀ p ∈ ps, l < p.1
  | [], _, _, _, h => by cases h
  | q :: r, l, h, p, hp => by
    rcases List.mem_cons.mp hp with e | hp
    · rw [e]; exact h.1.1
    · have := Dr.gt h.2 p hp
      have := h.1.1
      omega
/-- the numbers rise -/
theorem Dr.rise : ∀ {ps : List (Int × Int)} {l : Int}, Dr l ps → ∀ (i j : Nat) (p q : Int × Int), i < j → ps[i]? = some p → ps[j]? = some q → p.1 < q.1
  | [], _, _, i, j, p, q, _, h, _ => by simp at h
  | r :: rs, l, h, i, j, p, q, hij, hi, hj => by
    cases j with
    | zero => omega
    | succ j =>
      have hj' : rs[j]? = some q := by simpa using hj
      cases i with
      | zero =>
        have e : r = p := by simpa using hi
        subst e
        exact Dr.gt h.2 q (List.mem_of_getElem? hj')
      | succ i => exact Dr.rise h.2 i j p q (by omega) (by simpa using hi) hj'
theorem lex_lt {a b c d : Int} (h : a < c) : HT.lexLt [a, b] [c, d] = true := by
  rw [HT.lexLt_cons, if_neg (by omega)]
  exact decide_eq_true h
theorem lex_eq {a b d : Int} (h : b < d) : HT.lexLt [a, b] [a, d] = true := by
  rw [HT.lexLt_cons, if_pos rfl, HT.lexLt_cons, if_neg (by omega)]
  exact decide_eq_true h
def lastT (q : Int × Int) : List (Int × Int) → Int × Int
  | [] => q
  | p :: r => lastT p r
theorem lastT_snoc : ∀ {ts : List (Int × Int)} {q p : Int × Int}, lastT q (ts ++ [p]) = p
  | [], _, _ => rfl
  | t :: r, _, _ => lastT_snoc (ts := r)
theorem TiOk.snoc {kvs : List (Key × V)} : ∀ {ts : List (Int × Int)} {q p : Int × Int}, TiOk kvs q ts → (HT.lexLt [(lastT q ts).1, (lastT q ts).2] [p.1, p.2] = true ∧ p.1 < p.2 ∧ hasK kvs p.1 = true ∧ hasK kvs p.2 = true) → TiOk kvs q (ts ++ [p])
  | [], _, _, _, h => ⟨h, trivial⟩
  | t :: r, _, _, h, h2 => ⟨h.1, TiOk.snoc h.2 h2⟩
theorem SeOk.snoc {kvs : List (Key × V)} : ∀ {ss : List Int} {l n : Int}, SeOk kvs l ss → hasK kvs n = true → l < n → (∀ m ∈ ss, m < n) → SeOk kvs l (ss ++ [n])
  | [], _, _, _, h1, h2, _ => ⟨⟨h1, h2⟩, trivial⟩
  | s :: r, _, n, h, h1, _, h3 => ⟨h.1, SeOk.snoc h.2 h1 (h3 s List.mem_cons_self) fun m hm => h3 m (List.mem_cons_of_mem _ hm)⟩
theorem PlOk.rise : ∀ {ps : List (Int × Int)} {l s : Int}, PlOk l s ps → ∀ (i j : Nat) (p q : Int × Int), i < j → ps[i]? = some p → ps[j]? = some q → p.1 < q.1
  | [], _, _, _, i, j, p, q, _, h, _ => by simp at h
  | r :: rs, l, s, h, i, j, p, q, hij, hi, hj => by
    cases j with
    | zero => omega
    | succ j =>
      have hj' : rs[j]? = some q := by simpa using hj
      cases i with
      | zero =>
        have e : r = p := by simpa using hi
        subst e
        exact PlOk.gt h.2 q (List.mem_of_getElem? hj')
      | succ i => exact PlOk.rise h.2 i j p q (by omega) (by simpa using hi) hj'
theorem ne_st {H : Hp} {a st : Addr} {xs : List V} {ps : List (Int × Int)} {o : HO} (ha : H a = some (.lst xs)) (pp : Prs H xs ps) (hs : H st = some o) (so : StO o) : a ≠ st := by
  intro z
  obtain ⟨c, s, f, e, _⟩ := so
  rw [z, hs, e] at ha
  cases ha
  cases pp with
  | cons r _ => obtain ⟨t, e, _⟩ := r; cases e
theorem WebAt.but {H H' : Hp} {st : Addr} {o : HO} {v : V} {ps ts : List (Int × Int)} (h : WebAt H v ps ts) (hs : H st = some o) (so : StO o) (b : But st H H') : WebAt H' v ps ts := by
  obtain ⟨u, pa, ta, xs, ys, e, h1, h2, h3, h4, h5⟩ := h
  have t := b.tups hs so.imm
  exact ⟨u, pa, ta, xs, ys, e, t _ _ rfl h1, b _ _ (ne_st h2 h4 hs so) h2, b _ _ (ne_st h3 h5 hs so) h3, Prs.tups t h4, Prs.tups t h5⟩
/-- how many ties the first k rows may have -/
def tri : Nat → Nat
  | 0 => 0
  | k + 1 => tri k + (14 - k)
theorem tri_le {k : Nat} (h : k ≤ 15) : tri k ≤ 105 := by
  have : ∀ k : Fin 16, tri k.1 ≤ 105 := by decide
  exact this ⟨k, by omega⟩
def spWebD : Sp := fun vs H Q _ => ∃ s o m, vs = [.ref s, .int m] ∧ H s = some o ∧ StO o ∧ 0 ≤ m ∧ m ≤ 15 ∧
  ∀ v H' o' ps ts, But s H H' → H' s = some o' → StO o' → WebAt H' v ps ts → WebOk ps ts → Dr (-1) ps → Q v H'
def spSome : Sp := fun vs H Q _ => ∃ s o v ps ts, vs = [.ref s, v] ∧ H s = some o ∧ StO o ∧ WebAt H v ps ts ∧ WebOk ps ts ∧
  ∀ l H' o' ss, H l = none → But s H H' → H' s = some o' → StO o' → H' l = some (.lst (ss.map V.int)) → SetIn ps ss → Q (.ref l) H'
theorem has_at {ps : List (Int × Int)} (hn : (ps.map (·.1)).Nodup) {i : Nat} {p : Int × Int} (h : ps[i]? = some p) : hasK (kvsOf ps) p.1 = true := hasK_of hn (List.mem_of_getElem? h)
local macro_rules | `(tactic| walk_at "RD") => `(tactic| try simp only [fInsS, fIsB, tSeq, tNext, tDrop, tRet, tRetN, tIfS, tAsg, gName, fAug, tOp, tUn, tC, fVar, fI, fIC, fNeg, fEq, fNe, fIsN, isNon, fAnd, fOr, fNot, fB, tNot, tAnd, tOr, fChain, fIx, fLen, fListOf, fMin, fMax, fInL, fSlL, tSl, fPart, tNoPart, fAppend, fBM, fSetL, gSub, fGNil, fGCons, fGTup, fGLst, fDGet2, sDPutF, tDNewK, fCat, fClear, fBM0, fSlT, fInt1, tCBK, fDIn, fDGet, fIsi, fBools, fDictL, fLtT, tCall, tCB, tCons, tNil, tTup, tLst, tIf, tTrue, Kd.nm, L2.start, List.map_cons, List.map_nil, List.length_cons, List.length_nil, Nat.reduceAdd, Nat.reduceSub, List.replicate_succ, List.replicate_zero, List.getElem?_cons_zero, List.getElem?_cons_succ, List.set_cons_zero, List.set_cons_succ, List.append_nil, List.nil_append, List.cons_append, eq_self, true_and, and_true, if_true, Bool.false_eq_true, if_false, Bool.not_true, Bool.not_false, id_eq, sl0, sl1, sl2, sl3, sl4])
theorem ok_law_web {f : Addr} {fd : FuncData} {f_law_take : Addr} {d_law_take : FuncData} {f_law_places : Addr} {d_law_places : FuncData} (B : Blt mg) (D : DefAt K mg "_law_web" (top 33) ["_law_state", "_law_most"] f fd) (D_law_take : DefAt K mg "_law_take" (top 31) ["_law_state", "_law_many"] f_law_take d_law_take) (G_law_take : FnOk P w K mg base CX0 1 f_law_take d_law_take ["_law_state", "_law_many"] spTake) (D_law_places : DefAt K mg "_law_places" (top 32) ["_law_state", "_law_count"] f_law_places d_law_places) (G_law_places : FnOk P w K mg base CX0 2 f_law_places d_law_places ["_law_state", "_law_count"] spPlaces) : FnOk P w K mg base CX0 3 f fd ["_law_state", "_law_most"] spWebD := by
  have sc : FnScope ["_law_state", "_law_most", "_law_count", "_law_places_here", "_law_dense", "_law_ties", "_law_k", "_law_j"] ["_law_state", "_law_most"] (defScope (top 33)) := ⟨rfl, rfl, rfl, by decide +kernel, rfl, by decide +kernel, by decide +kernel⟩
  refine D.F.ok sc (fun vs H Q E h => ?_) (fun cdv A outer s H vs Q E hr h => ?_)
  · obtain ⟨s, o, m, rfl, _⟩ := h
    rfl
  obtain ⟨st, o, m, rfl, es, so, m0, m1, h⟩ := h
  have hu := hu_of hr
  have hu0 : _ < PySem.cLine := Nat.lt_of_succ_lt hu
  refine ⟨_, (pss_cons (ps_set (i := 2) sc.nd rfl (Or.inl rfl) (pe_call G_law_take (hr.mono (by decide)) rfl D_law_take.m D_law_take.F.kp D_law_take.b .nil pass0 (pa_cons (qv 0) (pa_cons (pe_op q_add (qv 1) pe_int) pa_nil)))) (pss_cons (ps_set (i := 3) sc.nd rfl (Or.inl rfl) (pe_call G_law_places (hr.mono (by decide)) rfl D_law_places.m D_law_places.F.kp D_law_places.b .nil pass0 (pa_cons (qv 0) (pa_cons (qv 2) pa_nil)))) (pss_cons (ps_set (i := 4) sc.nd rfl (Or.inl rfl) (pe_op q_add pe_int (pe_call G_law_take (hr.mono (by decide)) rfl D_law_take.m D_law_take.F.kp D_law_take.b .nil pass0 (pa_cons (qv 0) (pa_cons pe_int pa_nil))))) (pss_cons (ps_set (i := 5) sc.nd rfl (Or.inl rfl) (pe_lst pa_nil)) (pss_cons (ps_for PassesOwn.never rfl (pi_range1 rfl B.range (pa_cons (qv 2) pa_nil)) (pg_name (i := 6) sc.nd rfl (Or.inl rfl)) (pss_one (ps_for PassesOwn.never rfl (pi_range2 rfl B.range (pa_cons (pe_op q_add (qv 6) pe_int) (pa_cons (qv 2) pa_nil))) (pg_name (i := 7) sc.nd rfl (Or.inl rfl)) (pss_one (ps_if (qt_cmp q_lt (pe_call G_law_take (hr.mono (by decide)) rfl D_law_take.m D_law_take.F.kp D_law_take.b .nil pass0 (pa_cons (qv 0) (pa_cons pe_int pa_nil))) (qv 4) (nomark _)) (pss_one (ps_expr (q_bm PySem.F.plainAttrs_list PySem.F.slot_list_append PySem.F.type_list_append q_append (qv 5) (pa_cons (pe_tup (pa_cons (pe_ix q_ix (pe_ix q_ix (qv 3) (qv 6) (fun _ _ => rfl)) pe_int (fun _ _ => rfl)) (pa_cons (pe_ix q_ix (pe_ix q_ix (qv 3) (qv 7) (fun _ _ => rfl)) pe_int (fun _ _ => rfl)) pa_nil))) pa_nil)))) pss_nil))))) (pss_one (ps_ret (pe_tup (pa_cons (qv 3) (pa_cons (qv 5) pa_nil)))))))))), ?_⟩
  walk_at "RD"
  refine ⟨st, o, m + 1, rfl, es, so, by omega, by omega, fun n o1 n0 n1 so1 => ?_⟩
  walk_at "RD"
  refine ⟨st, o1, n, rfl, upd_same, so1, n0, by omega, fun r HA oA xs ps hr0 bA eA soA er pp hlen dr => ?_⟩
  walk_at "RD"
  refine ⟨st, oA, 4, rfl, eA, soA, by decide, by decide, fun dn oB d0 d1 soB => ?_⟩
  have nr : r ≠ st := fun z => by rw [z, upd_same] at hr0; cases hr0
  have hr1 : H r = none := by rw [← hr0, upd_ne nr]
  have bB : But st H (upd HA st oB) := ((But.at st H o1).trans bA).trans (But.at st HA oB)
  have tB : TupS HA (upd HA st oB) := (But.at st HA oB).tups eA soA.imm
  have erB : upd HA st oB r = some (.lst xs) := by rw [upd_ne nr]; exact er
  have eB : upd HA st oB st = some oB := upd_same
  have pB : Prs (upd HA st oB) xs ps := Prs.tups tB pp
  generalize upd HA st oB = HB at bB erB eB pB
  clear tB pp er eA bA soA
  have hpl : ps.length ≤ 15 := by omega
  have plok := dr.pl (s := 0) (by omega) (by omega)
  have hnd := plok.nodup
  have hlx : xs.length = ps.length := Paired.length pB
  have rise := dr.rise
  walk_at "RD"
  intro tl htl
  have ntl : tl ≠ st := (ne_of_none eB htl).symm
  have nrt : r ≠ tl := ne_of_none erB htl
  have htl0 : H tl = none := by
    cases q : H tl with
    | none => rfl
    | some u => rw [bB _ _ ntl q] at htl; cases htl
  refine tFor_hide (Itr 0 ps.length) (upd HB tl (.lst [])) (fun R hR => ?_) (for_range (n := ps.length) (fun k σ H1 => ∃ kk jj zs ts o', σ = [some (.ref st), some (.int m), some (.int n), some (.ref r), some (.int (1 + dn)), some (.ref tl), kk, jj] ∧ But st H H1 ∧ H1 st = some o' ∧ StO o' ∧ H1 r = some (.lst xs) ∧ Prs H1 xs ps ∧ H1 tl = some (.lst zs) ∧ Prs H1 zs ts ∧ TiOk (kvsOf ps) (-1, -1) ts ∧ (∀ (j : Nat) (p : Int × Int), k ≤ j → ps[j]? = some p → (lastT (-1, -1) ts).1 < p.1) ∧ ts.length ≤ tri k) ?_ ?_ ?_)
  · unfold iRng1
    walk_at "RD"
    exact ⟨n, rfl, by omega, by omega, by rw [← hlen]; exact hR⟩
  · refine ⟨none, none, [], [], oB, rfl, bB.trans (But.new htl), by rw [upd_ne ntl.symm]; exact eB, soB, by rw [upd_ne nrt]; exact erB, Prs.tups (tups_new htl) pB, upd_same, .nil, trivial, fun j p _ hp => ?_, by simp⟩
    have := dr.gt p (List.mem_of_getElem? hp)
    exact this
  · rintro k σ H1 hk ⟨kk, jj, zs, ts, o', rfl, b1, e1, so', er1, pp1, etl, pz, tok, hlast, htn⟩
    have xk : ps[k]? = some ps[k] := List.getElem?_eq_getElem hk
    generalize ps[k] = pk at xk
    have tkb := tri_le (k := k) (by omega)
    walk_at "RD"
    refine tFor_hide (Itr (0 + (k : Int) + 1) (ps.length - (k + 1))) H1 (fun R hR => ?_) (for_range (n := ps.length - (k + 1)) (fun i σ H2 => ∃ jj zs ts o', σ = [some (.ref st), some (.int m), some (.int n), some (.ref r), some (.int (1 + dn)), some (.ref tl), some (.int (0 + (k : Int))), jj] ∧ But st H H2 ∧ H2 st = some o' ∧ StO o' ∧ H2 r = some (.lst xs) ∧ Prs H2 xs ps ∧ H2 tl = some (.lst zs) ∧ Prs H2 zs ts ∧ TiOk (kvsOf ps) (-1, -1) ts ∧ ((lastT (-1, -1) ts).1 < pk.1 ∨ ((lastT (-1, -1) ts).1 = pk.1 ∧ ∀ (j : Nat) (p : Int × Int), k + 1 + i ≤ j → ps[j]? = some p → (lastT (-1, -1) ts).2 < p.1)) ∧ ts.length ≤ tri k + i) ?_ ?_ ?_)
    · unfold iRng2
      walk_at "RD"
      refine ⟨_, _, rfl, ⟨by omega, by omega, by omega, by omega⟩, ?_⟩
      have e : (n - (0 + (k : Int) + 1)).toNat = ps.length - (k + 1) := by omega
      rw [e]
      exact hR
    · exact ⟨jj, zs, ts, o', rfl, b1, e1, so', er1, pp1, etl, pz, tok, .inl (hlast k pk (Nat.le_refl _) xk), by omega⟩
    · rintro i σ H2 hi ⟨jj2, zs2, ts2, o2, rfl, b2, e2, so2, er2, pp2, etl2, pz2, tok2, hl2, htn2⟩
      have hj : k + 1 + i < ps.length := by omega
      have xj : ps[k + 1 + i]? = some ps[k + 1 + i] := List.getElem?_eq_getElem hj
      generalize ps[k + 1 + i] = pj at xj
      have hkj := rise k (k + 1 + i) pk pj (by omega) xk xj
      walk_at "RD"
      refine ⟨st, o2, 5, rfl, e2, so2, by decide, by decide, fun d3 o3 d30 d31 so3 => ?_⟩
      have b3 : But st H2 (upd H2 st o3) := But.at _ _ _
      have t3 : TupS H2 (upd H2 st o3) := b3.tups e2 so2.imm
      have er3 := b3 _ _ nr er2
      have etl3 := b3 _ _ ntl etl2
      have e3 : upd H2 st o3 st = some o3 := upd_same
      generalize upd H2 st o3 = H3 at b3 t3 er3 etl3 e3
      walk_at "RD"
      refine ite2 (fun c => ?_) (fun c => ?_)
      · obtain ⟨uk, gk, hgk⟩ := paired_right pp2 xk
        obtain ⟨uj, gj, hgj⟩ := paired_right pp2 xj
        obtain ⟨tk, ek, hk3⟩ := hgk.tups t3
        obtain ⟨tj, ej, hj3⟩ := hgj.tups t3
        have ak : atI xs (0 + (k : Int)) = some (.ref tk) := by rw [Int.zero_add, ← ek]; exact atI_nat gk
        have aj : atI xs (0 + (k : Int) + 1 + (i : Int)) = some (.ref tj) := by
          rw [show 0 + (k : Int) + 1 + (i : Int) = ((k + 1 + i : Nat) : Int) by omega, ← ej]
          exact atI_nat gj
        refine ⟨⟨tl, _, rfl, etl3⟩, ?_⟩
        try simp only [fInsS, fIsB, tSeq, tNext, tDrop, tRet, tRetN, tIfS, tAsg, gName, fAug, tOp, tUn, tC, fVar, fI, fIC, fNeg, fEq, fNe, fIsN, isNon, fAnd, fOr, fNot, fB, tNot, tAnd, tOr, fChain, fIx, fLen, fListOf, fMin, fMax, fInL, fSlL, tSl, fPart, tNoPart, fAppend, fBM, fSetL, gSub, fGNil, fGCons, fGTup, fGLst, fDGet2, sDPutF, tDNewK, fCat, fClear, fBM0, fSlT, fInt1, tCBK, fDIn, fDGet, fIsi, fBools, fDictL, fLtT, tCall, tCB, tCons, tNil, tTup, tLst, tIf, tTrue, Kd.nm, L2.start, List.map_cons, List.map_nil, List.length_cons, List.length_nil, Nat.reduceAdd, Nat.reduceSub, List.replicate_succ, List.replicate_zero, List.getElem?_cons_zero, List.getElem?_cons_succ, List.set_cons_zero, List.set_cons_succ, List.append_nil, List.nil_append, List.cons_append, eq_self, true_and, and_true, if_true, Bool.false_eq_true, if_false, Bool.not_true, Bool.not_false, id_eq, sl0, sl1, sl2, sl3, sl4, seqOf, er3, ak, aj, hk3, hj3, at0]
        intro t ht
        have etl4 := same_new ht (.tup [.int pk.1, .int pj.1]) _ _ etl3
        try simp only [fInsS, fIsB, tSeq, tNext, tDrop, tRet, tRetN, tIfS, tAsg, gName, fAug, tOp, tUn, tC, fVar, fI, fIC, fNeg, fEq, fNe, fIsN, isNon, fAnd, fOr, fNot, fB, tNot, tAnd, tOr, fChain, fIx, fLen, fListOf, fMin, fMax, fInL, fSlL, tSl, fPart, tNoPart, fAppend, fBM, fSetL, gSub, fGNil, fGCons, fGTup, fGLst, fDGet2, sDPutF, tDNewK, fCat, fClear, fBM0, fSlT, fInt1, tCBK, fDIn, fDGet, fIsi, fBools, fDictL, fLtT, tCall, tCB, tCons, tNil, tTup, tLst, tIf, tTrue, Kd.nm, L2.start, List.map_cons, List.map_nil, List.length_cons, List.length_nil, Nat.reduceAdd, Nat.reduceSub, List.replicate_succ, List.replicate_zero, List.getElem?_cons_zero, List.getElem?_cons_succ, List.set_cons_zero, List.set_cons_succ, List.append_nil, List.nil_append, List.cons_append, eq_self, true_and, and_true, if_true, Bool.false_eq_true, if_false, Bool.not_true, Bool.not_false, id_eq, sl0, sl1, sl2, sl3, sl4, etl4]
        have t6 := tups_lst (ys := zs2 ++ [.ref t]) etl4
        have nst : st ≠ tl := ntl.symm
        have hz2 : zs2.length = ts2.length := Paired.length pz2
        refine ⟨szl' (by omega), _, zs2 ++ [.ref t], ts2 ++ [(pk.1, pj.1)], o3, rfl, fun b u nb q => ?_, ?_, so3, ?_, Prs.tups ((t3.trans (tups_new ht)).trans t6) pp2, (by first | rfl | exact upd_same), paired_snoc (Prs.tups ((t3.trans (tups_new ht)).trans t6) pz2) (Pr.tups ⟨t, rfl, upd_same⟩ t6), ?_, ?_, ?_⟩
        · have q3 := b3 _ _ nb (b2 _ _ nb q)
          rw [upd_ne (ne_of_none q htl0), upd_ne (ne_of_none q3 ht)]
          exact q3
        · rw [upd_ne nst, upd_ne (ne_of_none e3 ht)]
          exact e3
        · rw [upd_ne nrt, upd_ne (ne_of_none er3 ht)]
          exact er3
        · refine tok2.snoc ⟨?_, hkj, (show hasK _ pk.1 = true from has_at hnd xk), (show hasK _ pj.1 = true from has_at hnd xj)⟩
          rcases hl2 with q | ⟨q1, q2⟩
          · exact lex_lt q
          · rw [q1]
            exact lex_eq (q2 _ pj (Nat.le_refl _) xj)
        · rw [lastT_snoc]
          exact .inr ⟨rfl, fun j p hj2 hp => rise _ _ pj p (by omega) xj hp⟩
        · rw [List.length_append]
          show _ + 1 ≤ _
          omega
      · refine ⟨_, zs2, ts2, o3, rfl, b2.trans b3, e3, so3, er3, Prs.tups t3 pp2, etl3, Prs.tups t3 pz2, tok2, ?_, by omega⟩
        rcases hl2 with q | ⟨q1, q2⟩
        · exact .inl q
        · exact .inr ⟨q1, fun j p hj2 hp => q2 j p (by omega) hp⟩
    · rintro σ H2 ⟨jj2, zs2, ts2, o2, rfl, b2, e2, so2, er2, pp2, etl2, pz2, tok2, hl2, htn2⟩
      refine ⟨_, jj2, zs2, ts2, o2, rfl, b2, e2, so2, er2, pp2, etl2, pz2, tok2, fun j p hj hp => ?_, (by show _ ≤ tri k + (14 - k); omega)⟩
      have := rise k j pk p (by omega) xk hp
      rcases hl2 with q | ⟨q1, _⟩
      · omega
      · omega
  · rintro σ H1 ⟨kk, jj, zs, ts, o', rfl, b1, e1, so', er1, pp1, etl, pz, tok, hlast, htn⟩
    walk_at "RD"
    intro wv hwv
    have s1 := same_new hwv (.tup [.ref r, .ref tl])
    exact h _ _ o' ps ts (b1.trans (But.new hwv)) (s1 _ _ e1) so' ⟨wv, r, tl, xs, zs, rfl, upd_same, s1 _ _ er1, s1 _ _ etl, Prs.same s1 pp1, Prs.same s1 pz⟩ ⟨by omega, plok, Nat.le_trans htn (Nat.le_trans (tri_le hpl) (by decide)), tok⟩ dr
theorem ok_law_some {f : Addr} {fd : FuncData} {f_law_take : Addr} {d_law_take : FuncData} (B : Blt mg) (D : DefAt K mg "_law_some" (top 36) ["_law_state", "_law_web_here"] f fd) (D_law_take : DefAt K mg "_law_take" (top 31) ["_law_state", "_law_many"] f_law_take d_law_take) (G_law_take : FnOk P w K mg base CX0 1 f_law_take d_law_take ["_law_state", "_law_many"] spTake) : FnOk P w K mg base CX0 2 f fd ["_law_state", "_law_web_here"] spSome := by
  have sc : FnScope ["_law_state", "_law_web_here", "_law_share"] ["_law_state", "_law_web_here"] (defScope (top 36)) := ⟨rfl, rfl, rfl, by decide +kernel, rfl, by decide +kernel, by decide +kernel⟩
  refine D.F.ok sc (fun vs H Q E h => ?_) (fun cdv A outer s H vs Q E hr h => ?_)
  · obtain ⟨s, o, v, ps, ts, rfl, _⟩ := h
    rfl
  obtain ⟨st, o, v, ps, ts, rfl, es, so, hw, wok, h⟩ := h
  obtain ⟨x, pa, ta, xs, ys, rfl, ex, ep, et, pp, pt⟩ := id hw
  have hlx : xs.length = ps.length := Paired.length pp
  have okl := wok.pl
  have hnd := wok.p.nodup
  have hu := hu_of hr
  have hu0 : _ < PySem.cLine := Nat.lt_of_succ_lt hu
  refine ⟨_, (pss_cons (ps_set (i := 2) sc.nd rfl (Or.inr rfl) (pe_op q_add pe_int (pe_call G_law_take (hr.mono (by decide)) rfl D_law_take.m D_law_take.F.kp D_law_take.b .nil pass0 (pa_cons (qv 0) (pa_cons pe_int pa_nil))))) (pss_one (ps_ret (pe_comp (CpScope.of (N := ["_law_place", "_law_price", "_law_share", "_law_state"]) (src := [none, none, some 2, some 0]) (by rfl)) rfl (pi_list (pe_ix q_ix (qv 1) pe_int (fun _ _ => rfl))) (fun _ _ _ _ => (qg_tup (n := 2) rfl (qgs_cons (pg_name (i := 0) (nodupB_ok (l := ["_law_place", "_law_price", "_law_share", "_law_state"]) (by rfl)) rfl (Or.inl rfl)) (qgs_cons (pg_name (i := 1) (nodupB_ok (l := ["_law_place", "_law_price", "_law_share", "_law_state"]) (by rfl)) rfl (Or.inl rfl)) qgs_nil)))) (fun _ _ _ _ => (pif_one (qt_cmp q_lt (pe_call G_law_take (hr.mono (by decide)) rfl D_law_take.m D_law_take.F.kp D_law_take.b .nil pass0 (pa_cons (qv 3) (pa_cons pe_int pa_nil))) (qv 2) (nomark _)))) (fun _ _ _ _ => (qv 0)))))), ?_⟩
  walk_at "RD"
  refine ⟨st, o, 5, rfl, es, so, by decide, by decide, fun sh o1 h0 h1 so1 => ?_⟩
  have npa := ne_st ep pp es so
  have t1 : TupS H (upd H st o1) := (But.at st H o1).tups es so.imm
  have ex1 := t1 _ _ rfl ex
  have ep1 : upd H st o1 pa = some (.lst xs) := by rw [upd_ne npa]; exact ep
  walk_at "RD"
  refine tComp_hide (Itl K pa) (upd H st o1) (fun R hR => ?_) (fun l hl => comp_run ps.length (fun i σ' Hc => ∃ w1 w2 ss o', σ' = [w1, w2, some (.int (1 + sh)), some (.ref st)] ∧ But st H Hc ∧ Hc st = some o' ∧ StO o' ∧ Hc l = some (.lst (ss.map V.int)) ∧ SeOk (kvsOf ps) (-1) ss ∧ (∀ m ∈ ss, ∀ (j : Nat) (p : Int × Int), i ≤ j → ps[j]? = some p → m < p.1) ∧ ss.length ≤ i) ?_ ?_ ?_)
  · unfold iList
    try simp only [fInsS, fIsB, tSeq, tNext, tDrop, tRet, tRetN, tIfS, tAsg, gName, fAug, tOp, tUn, tC, fVar, fI, fIC, fNeg, fEq, fNe, fIsN, isNon, fAnd, fOr, fNot, fB, tNot, tAnd, tOr, fChain, fIx, fLen, fListOf, fMin, fMax, fInL, fSlL, tSl, fPart, tNoPart, fAppend, fBM, fSetL, gSub, fGNil, fGCons, fGTup, fGLst, fDGet2, sDPutF, tDNewK, fCat, fClear, fBM0, fSlT, fInt1, tCBK, fDIn, fDGet, fIsi, fBools, fDictL, fLtT, tCall, tCB, tCons, tNil, tTup, tLst, tIf, tTrue, Kd.nm, L2.start, List.map_cons, List.map_nil, List.length_cons, List.length_nil, Nat.reduceAdd, Nat.reduceSub, List.replicate_succ, List.replicate_zero, List.getElem?_cons_zero, List.getElem?_cons_succ, List.set_cons_zero, List.set_cons_succ, List.append_nil, List.nil_append, List.cons_append, eq_self, true_and, and_true, if_true, Bool.false_eq_true, if_false, Bool.not_true, Bool.not_false, id_eq, sl0, sl1, sl2, sl3, sl4, seqOf, ex1, at0]
    exact ⟨pa, rfl, ⟨_, SqL.of ep1⟩, hR⟩
  · have nl : l ≠ st := fun z => by rw [z, upd_same] at hl; cases hl
    refine ⟨none, none, [], o1, rfl, (But.at st H o1).trans (But.new hl), by rw [upd_ne nl.symm, upd_same], so1, upd_same, trivial, (fun _ h => by cases h), Nat.le_refl _⟩
  · rintro i σ' Hc hi ⟨w1, w2, ss, o', rfl, b2, e2, so2, el, sok, hris, hls⟩
    have nl : l ≠ st := fun z => by rw [z, upd_same] at hl; cases hl
    have hl0 : H l = none := by rw [← hl, upd_ne nl]
    have x1 : xs[i]? = some (xs[i]'(by omega)) := List.getElem?_eq_getElem _
    have z1 : SqL K Hc pa xs := SqL.of (b2 _ _ npa ep)
    refine ⟨⟨_, _, z1, x1⟩, ?_⟩
    rintro y H' ⟨rfl, hy⟩
    obtain ⟨p, hp, pq⟩ := paired_left pp (hy _ z1)
    obtain ⟨t, rfl, ht⟩ := pq.tups (b2.tups es so.imm)
    try simp only [fInsS, fIsB, tSeq, tNext, tDrop, tRet, tRetN, tIfS, tAsg, gName, fAug, tOp, tUn, tC, fVar, fI, fIC, fNeg, fEq, fNe, fIsN, isNon, fAnd, fOr, fNot, fB, tNot, tAnd, tOr, fChain, fIx, fLen, fListOf, fMin, fMax, fInL, fSlL, tSl, fPart, tNoPart, fAppend, fBM, fSetL, gSub, fGNil, fGCons, fGTup, fGLst, fDGet2, sDPutF, tDNewK, fCat, fClear, fBM0, fSlT, fInt1, tCBK, fDIn, fDGet, fIsi, fBools, fDictL, fLtT, tCall, tCB, tCons, tNil, tTup, tLst, tIf, tTrue, Kd.nm, L2.start, List.map_cons, List.map_nil, List.length_cons, List.length_nil, Nat.reduceAdd, Nat.reduceSub, List.replicate_succ, List.replicate_zero, List.getElem?_cons_zero, List.getElem?_cons_succ, List.set_cons_zero, List.set_cons_succ, List.append_nil, List.nil_append, List.cons_append, eq_self, true_and, and_true, if_true, Bool.false_eq_true, if_false, Bool.not_true, Bool.not_false, id_eq, sl0, sl1, sl2, sl3, sl4, ht]
    refine ⟨st, o', 6, rfl, e2, so2, by decide, by decide, fun d o3 d0 d1 so3 => ?_⟩
    have b3 := b2.trans (But.at st H' o3)
    have el3 : upd H' st o3 l = some (.lst (ss.map V.int)) := by rw [upd_ne nl]; exact el
    have e3 : upd H' st o3 st = some o3 := upd_same
    generalize upd H' st o3 = H3 at b3 el3 e3
    walk_at "RD"
    refine ite2 (fun c => ?_) (fun c => ?_)
    · refine ⟨_, el3, szl' (by rw [List.length_map]; omega), _, _, ss ++ [p.1], o3, rfl, fun b u nb q => ?_, ?_, so3, ?_, ?_, ?_, ?_⟩
      · rw [upd_ne (ne_of_none q hl0)]
        exact b3 _ _ nb q
      · rw [upd_ne nl.symm]
        exact e3
      · rw [List.map_append]
        first | rfl | exact upd_same
      · refine sok.snoc (has_at hnd hp) ?_ fun m hm => hris m hm i p (Nat.le_refl _) hp
        exact wok.p.gt p (List.mem_of_getElem? hp)
      · intro m hm j q hj hq
        rcases List.mem_append.mp hm with hm | hm
        · exact hris m hm j q (by omega) hq
        · have e : m = p.1 := by simpa using hm
          rw [e]
          exact wok.p.rise i j p q (by omega) hp hq
      · rw [List.length_append]
        show _ + 1 ≤ _
        omega
    · exact ⟨_, _, ss, o3, rfl, b3, e3, so3, el3, sok, fun m hm j q hj hq => hris m hm j q (by omega) hq, by omega⟩
  · rintro σ' Hc ⟨w1, w2, ss, o', rfl, b2, e2, so2, el, sok, hris, hls⟩
    have nl : l ≠ st := fun z => by rw [z, upd_same] at hl; cases hl
    have hl0 : H l = none := by rw [← hl, upd_ne nl]
    refine ⟨⟨_, SqL.of (b2 _ _ npa ep), by omega⟩, ?_⟩
    exact h l Hc o' ss hl0 b2 e2 so2 el ⟨by omega, sok⟩
end
end My

set_option Elab.async false
set_option linter.all false
set_option maxRecDepth 100000
set_option maxHeartbeats 4000000
namespace My
open PySem L2
def priceL (ps : List (Int × Int)) (n : Int) : Int := match valV (kvsOf ps) (Sum.inl n : Key) with
  | some (.int i) => i
  | _ => 0
theorem kvs_int : ∀ {ps : List (Int × Int)} {n : Int} {v : V}, valV (kvsOf ps) (Sum.inl n : Key) = some v → ∃ i, v = .int i
  | [], _, _, h => by simp [kvsOf, valV] at h
  | p :: r, n, v, h => by
    unfold kvsOf valV at h
    rw [List.map_cons, List.find?_cons] at h
    split at h
    · simp at h; exact ⟨_, h.symm⟩
    · exact kvs_int (ps := r) h
theorem price_val {ps : List (Int × Int)} {n : Int} (h : hasK (kvsOf ps) n = true) : valV (kvsOf ps) (Sum.inl n : Key) = some (.int (priceL ps n)) := by
  unfold hasK at h
  obtain ⟨v, hv⟩ := Option.isSome_iff_exists.mp h
  obtain ⟨i, rfl⟩ := kvs_int hv
  unfold priceL
  rw [hv]

def keyN (ps : List (Int × Int)) (n : Int) : Int := priceL ps n * 1000 + n
def leanGo (ts : List (Int × Int)) : List Int → List Int → List Int
  | [], left => left
  | n :: r, left => if ((nearL ts n).all fun m => decide (m ∈ left)) = true then leanGo ts r (left.filter fun m => !decide (m = n)) else leanGo ts r left
def IsLean (ps ts : List (Int × Int)) (ss out : List Int) : Prop := ∃ ord, ord.Perm ss ∧ ord.Pairwise (fun p q => keyN ps q < keyN ps p) ∧ out = leanGo ts ord ss
theorem leanGo_sub {ts : List (Int × Int)} : ∀ {ord left : List Int}, (leanGo ts ord left).Sublist left
  | [], _ => List.Sublist.refl _
  | n :: r, left => by
    rw [leanGo]
    split
    · exact List.Sublist.trans leanGo_sub List.filter_sublist
    · exact leanGo_sub
theorem ord_unique {ps : List (Int × Int)} {a b : List Int} (h1 : a.Pairwise (fun p q => keyN ps q < keyN ps p)) (h2 : b.Pairwise (fun p q => keyN ps q < keyN ps p)) (p : a.Perm b) : a = b :=
  List.Perm.eq_of_pairwise (le := fun p q => keyN ps q < keyN ps p) (fun x y _ _ u v => by omega) h1 h2 p
theorem IsLean.unique {ps ts : List (Int × Int)} {ss o1 o2 : List Int} (h1 : IsLean ps ts ss o1) (h2 : IsLean ps ts ss o2) : o1 = o2 := by
  obtain ⟨a, pa, sa, rfl⟩ := h1
  obtain ⟨b, pb, sb, rfl⟩ := h2
  rw [ord_unique sa sb (pa.trans pb.symm)]
theorem mem_nearL {ts : List (Int × Int)} {n m : Int} : m ∈ nearL ts n ↔ ∃ t ∈ ts, (t.1 = n ∧ t.2 = m) ∨ (t.1 ≠ n ∧ t.2 = n ∧ t.1 = m) := by
  unfold nearL
  rw [List.mem_flatMap]
  constructor
  · rintro ⟨t, ht, h⟩
    refine ⟨t, ht, ?_⟩
    unfold nr at h
    split at h
    · rename_i c; exact .inl ⟨c, (List.mem_singleton.mp h).symm⟩
    · rename_i c
      split at h
      · rename_i d; exact .inr ⟨c, d, (List.mem_singleton.mp h).symm⟩
      · cases h
  · rintro ⟨t, ht, h⟩
    refine ⟨t, ht, ?_⟩
    unfold nr
    rcases h with ⟨a, b⟩ | ⟨a, b, c⟩
    · rw [if_pos a, b]; simp
    · rw [if_neg a, if_pos b, c]; simp
theorem leanGo_left {ts : List (Int × Int)} (hne : ∀ t ∈ ts, t.1 < t.2) : ∀ {ord left : List Int}, leftT (leanGo ts ord left) ts = leftT left ts
  | [], _ => rfl
  | n :: r, left => by
    rw [leanGo]
    split
    · rename_i c
      rw [leanGo_left hne]
      have hall : ∀ m ∈ nearL ts n, m ∈ left := fun m hm => of_decide_eq_true (List.all_eq_true.mp c m hm)
      unfold leftT
      apply List.filter_congr
      intro t ht
      have nt := hne t ht
      rw [Bool.eq_iff_iff]
      simp only [Bool.and_eq_true, Bool.not_eq_true', decide_eq_false_iff_not, List.mem_filter, decide_eq_true_eq, not_and, Bool.not_eq_false']
      constructor
      · rintro ⟨h1, h2⟩
        refine ⟨fun z => ?_, fun z => ?_⟩
        · have e1 : t.1 = n := Classical.not_not.mp (h1 z)
          have hm : t.2 ∈ left := hall t.2 (mem_nearL.mpr ⟨t, ht, .inl ⟨e1, rfl⟩⟩)
          have e2 : t.2 = n := Classical.not_not.mp (h2 hm)
          omega
        · have e2 : t.2 = n := Classical.not_not.mp (h2 z)
          have hm : t.1 ∈ left := hall t.1 (mem_nearL.mpr ⟨t, ht, .inr ⟨by omega, e2, rfl⟩⟩)
          have e1 : t.1 = n := Classical.not_not.mp (h1 hm)
          omega
      · rintro ⟨h1, h2⟩
        exact ⟨fun z => absurd z h1, fun z => absurd z h2⟩
    · exact leanGo_left hne
/-- something near it is not there -/
def Stuck (ts : List (Int × Int)) (left : List Int) (n : Int) : Prop := ∃ m ∈ nearL ts n, m ∉ left
theorem leanGo_stuck {ts : List (Int × Int)} : ∀ {ord left : List Int} {n : Int}, n ∈ ord → n ∈ leanGo ts ord left → Stuck ts (leanGo ts ord left) n
  | [], _, _, h, _ => by cases h
  | k :: r, left, n, h, ho => by
    rw [leanGo] at ho ⊢
    rcases List.mem_cons.mp h with rfl | h
    · split at ho
      · rename_i c
        have := leanGo_sub.subset ho
        rw [List.mem_filter] at this
        simp at this
      · rename_i c
        rw [if_neg c]
        rw [List.all_eq_true] at c
        obtain ⟨m, hm⟩ := Classical.not_forall.mp c
        obtain ⟨hm1, hm2⟩ := Classical.not_imp.mp hm
        exact ⟨m, hm1, fun z => hm2 (decide_eq_true (leanGo_sub.subset z))⟩
    · split at ho
      · rename_i c; rw [if_pos c]; exact leanGo_stuck h ho
      · rename_i c; rw [if_neg c]; exact leanGo_stuck h ho
theorem leanGo_idem {ts : List (Int × Int)} : ∀ {ord left : List Int}, (∀ n ∈ ord, Stuck ts left n) → leanGo ts ord left = left
  | [], _, _ => rfl
  | n :: r, left, h => by
    rw [leanGo, if_neg, leanGo_idem fun m hm => h m (.tail _ hm)]
    intro c
    obtain ⟨m, hm, hn⟩ := h n (.head _)
    exact hn (of_decide_eq_true (List.all_eq_true.mp c m hm))
theorem IsLean.stuck {ps ts : List (Int × Int)} {ss out : List Int} (h : IsLean ps ts ss out) : ∀ n ∈ out, Stuck ts out n := by
  obtain ⟨ord, p, s, rfl⟩ := h
  exact fun n hn => leanGo_stuck (p.mem_iff.mpr (leanGo_sub.subset hn)) hn
theorem IsLean.sub {ps ts : List (Int × Int)} {ss out : List Int} (h : IsLean ps ts ss out) : out.Sublist ss := by
  obtain ⟨ord, p, s, rfl⟩ := h
  exact leanGo_sub
theorem IsLean.left {ps ts : List (Int × Int)} {ss out : List Int} (hne : ∀ t ∈ ts, t.1 < t.2) (h : IsLean ps ts ss out) : leftT out ts = leftT ss ts := by
  obtain ⟨ord, p, s, rfl⟩ := h
  exact leanGo_left hne
theorem IsLean.need {ps ts : List (Int × Int)} {ss out : List Int} (h : IsLean ps ts ss out) : needL out ts = [] := by
  unfold needL
  rw [List.filter_eq_nil_iff]
  intro n hn c
  obtain ⟨m, hm, hn2⟩ := h.stuck n hn
  exact hn2 (of_decide_eq_true (List.all_eq_true.mp c m hm))
/-- made lean once more it is the same -/
theorem IsLean.again {ps ts : List (Int × Int)} {ss out o2 : List Int} (h : IsLean ps ts ss out) (h2 : IsLean ps ts out o2) : o2 = out := by
  obtain ⟨ord, p, s, rfl⟩ := h2
  exact leanGo_idem fun n hn => h.stuck n (p.mem_iff.mp hn)
theorem SeOk.sub {kvs : List (Key × V)} : ∀ {ss out : List Int} {l : Int}, out.Sublist ss → SeOk kvs l ss → SeOk kvs l out
  | _, _, _, .slnil, _ => trivial
  | _ :: ss, out, l, .cons _ h, k => by
    have := SeOk.sub h k.2
    cases out with
    | nil => trivial
    | cons n r => exact ⟨⟨this.1.1, by have := this.1.2; have := k.1.2; omega⟩, this.2⟩
  | _ :: ss, _ :: out, l, .cons₂ _ h, k => ⟨k.1, SeOk.sub h k.2⟩
theorem SetIn.sub {ps : List (Int × Int)} {ss out : List Int} (h : SetIn ps ss) (s : out.Sublist ss) : SetIn ps out := ⟨Nat.le_trans s.length_le h.len, SeOk.sub s h.ok⟩
end My

set_option Elab.async false
set_option linter.all false
set_option maxRecDepth 100000
set_option maxHeartbeats 4000000
namespace My
open PySem L2
section
variable {P : Program} {w : World} {K : PySem.W.Frag} {mg : Str → Option Value} {base : Heap} {c1 c2 c3 c4 : Tok}
theorem lam_clos {env : Env} {pn dn : Str} {c : Addr} (h : env.cells.lookup dn = some c) : closureFor (lamScope pn dn) env = pure [(dn, c)] := by
  rw [closureFor_closOf]
  · show pure (closOf env [(pn, NameKind.local), (dn, NameKind.free)] []) = _
    simp [closOf, h]
  · intro y hy e
    simp only [lamScope, List.mem_cons, List.not_mem_nil, or_false] at hy
    rcases hy with rfl | rfl
    · cases e
    · exact ⟨c, h⟩
def lpos : Pos := ⟨98, 34, 98, 58⟩
def lq : Str := (Str.ofString "lean" ++ Str.ofString ".<locals>.") ++ Str.ofString "<lambda>"
abbrev Tab (H : Hp) (T : Addr) : Prop := TabO lpos lq H T
theorem tabSame {pos : Pos} {q : Str} {H H' : Hp} {T : Addr} (h : TabO pos q H T) (s : Same H H') : TabO pos q H' T := by
  obtain ⟨ps, e, t, c⟩ := h
  refine ⟨ps, s _ _ e, t, ?_⟩
  rcases c with c | ⟨c', c1, c2⟩
  · exact .inl c
  · exact .inr ⟨c', c1, s _ _ c2⟩
def spLean (T : Addr) : Sp := fun vs H Q _ => ∃ v u ps ts ss, vs = [v, u] ∧ WebAt H v ps ts ∧ WebOk ps ts ∧ SetAt H u ss ∧ SetIn ps ss ∧ Tab H T ∧ ∀ l H' out, H l = none → ButT T H H' → Tab H' T → H' l = some (.lst (out.map V.int)) → IsLean ps ts ss out → Q (.ref l) H'
theorem PlOk.nb : ∀ {ps : List (Int × Int)} {l s : Int}, -1 ≤ l → 0 ≤ s → PlOk l s ps → ∀ p ∈ ps, 0 ≤ p.1 ∧ p.1 ≤ 999 ∧ 1 ≤ p.2 ∧ p.2 ≤ 1000000000000
  | [], _, _, _, _, _, _, h => by cases h
  | q :: r, l, s, hl, hs, h, p, hp => by
    have b := h.1
    rcases List.mem_cons.mp hp with e | hp
    · rw [e]; omega
    · exact PlOk.nb (by omega) (by omega) h.2 p hp
theorem tFor_hideI {ι : Type} {wi : TI} {g : TG} {tb : TS} {D : Ends} {σ : St} {H : Hp} (J : ι → It) (H1 : ι → Hp) (ok : ι → Prop) (h1 : ∀ R : It → Hp → Prop, (∀ i, ok i → R (J i) (H1 i)) → wi σ H R)
    (h2 : ∀ i0, ok i0 → ∃ W : Nat → Nat → St → Hp → Prop, (∃ m, W 0 m σ (H1 i0)) ∧ ∀ i m σ H, W i m σ H → ((J i0).stop i H ∧ D.nx σ H) ∨ ((J i0).go i H ∧ ∃ N : St → Hp → Prop, (∀ σ' H', N σ' H' → ∃ m', m' < m ∧ W (i + 1) m' σ' H') ∧ ∀ x H', (J i0).yld i H x H' → g x σ H' fun σ2 H2 => tb { D with nx := N, ct := N, bk := D.nx } σ2 H2)) :
    tFor wi g tb D σ H := h1 _ h2
theorem mk_drop : ∀ (left : List Int) (n : Int), dropK (mk left) (Sum.inl n : Key) = mk (left.filter fun m => !decide (m = n))
  | [], _ => rfl
  | m :: r, n => by
    have ih := mk_drop r n
    unfold mk at ih ⊢
    rw [List.map_cons, List.filter_cons]
    by_cases h : m = n
    · rw [dropK_pos (by rw [h]), ih, if_neg (by simp [h])]
    · rw [dropK_neg (fun z => h (Sum.inl.inj z)), ih, if_pos (by simp [h]), List.map_cons]
theorem mk_some {left : List Int} {n : Int} (h : n ∈ left) : valV (mk left) (Sum.inl n : Key) = some (.bl true) := by
  have e := mk_val left n
  rw [decide_eq_true h] at e
  obtain ⟨v, hv⟩ := Option.isSome_iff_exists.mp e
  rw [hv]
  unfold valV at hv
  obtain ⟨p, hp, rfl⟩ := Option.map_eq_some_iff.mp hv
  have hm := List.mem_of_find?_eq_some hp
  unfold mk at hm
  obtain ⟨k, _, rfl⟩ := List.mem_map.mp hm
  rfl
theorem leanGo_append {ts : List (Int × Int)} : ∀ {a b l : List Int}, leanGo ts (a ++ b) l = leanGo ts b (leanGo ts a l)
  | [], _, _ => rfl
  | n :: a, b, l => by
    rw [List.cons_append, leanGo, leanGo]
    split <;> exact leanGo_append
theorem leanGo_keeps {ts : List (Int × Int)} {m : Int} : ∀ {ord l : List Int}, m ∈ l → m ∉ ord → m ∈ leanGo ts ord l
  | [], _, h, _ => h
  | n :: r, l, h, hn => by
    rw [leanGo]
    have n1 : m ≠ n := fun z => hn (by rw [z]; exact .head _)
    have n2 : m ∉ r := fun z => hn (.tail _ z)
    split
    · exact leanGo_keeps (List.mem_filter.mpr ⟨h, by simp [n1]⟩) n2
    · exact leanGo_keeps h n2
theorem set_bounds {ps ts : List (Int × Int)} {ss : List Int} (wok : WebOk ps ts) (sin : SetIn ps ss) : ∀ n ∈ ss, 0 ≤ n ∧ n < 1000 ∧ valV (kvsOf ps) (Sum.inl n : Key) = some (.int (priceL ps n)) := fun n hn => by
  have hk := sin.ok.has n hn
  obtain ⟨i, p, hp, rfl⟩ := hasK_inv hk
  have b := wok.p.nb (by decide) (by decide) p (List.mem_of_getElem? hp)
  exact ⟨by omega, by omega, price_val hk⟩
theorem strict_of {ps : List (Int × Int)} : ∀ {l : List Int}, (∀ n ∈ l, 0 ≤ n ∧ n < 1000) → l.Nodup → l.Pairwise (fun p q => priceL ps q * 1000 + q ≤ priceL ps p * 1000 + p) → l.Pairwise (fun p q => keyN ps q < keyN ps p)
  | [], _, _, _ => .nil
  | n :: r, hb, nd, h => by
    rw [List.pairwise_cons] at h ⊢
    rw [List.nodup_cons] at nd
    refine ⟨fun m hm => ?_, strict_of (fun k hk => hb k (.tail _ hk)) nd.2 h.2⟩
    have h1 := h.1 m hm
    have b1 := hb n (.head _)
    have b2 := hb m (.tail _ hm)
    have ne : m ≠ n := fun z => nd.1 (z ▸ hm)
    unfold keyN
    omega
theorem rising_perm {a b : List Int} (h1 : a.Pairwise (· ≤ ·)) (h2 : b.Pairwise (· < ·)) (p : a.Perm b) : a = b :=
  List.Perm.eq_of_pairwise (le := (· ≤ ·)) (fun x y _ _ u v => by omega) h1 (h2.imp fun h => by omega) p
theorem SeOk.rise2 {kvs : List (Key × V)} : ∀ {ss : List Int} {l : Int}, SeOk kvs l ss → ss.Pairwise (· < ·)
  | [], _, _ => .nil
  | q :: r, l, h => List.pairwise_cons.mpr ⟨fun n hn => SeOk.gt h.2 n hn, SeOk.rise2 h.2⟩
local macro_rules | `(tactic| walk_at "RD") => `(tactic| try simp only [fInsS, fIsB, tSeq, tNext, tDrop, tRet, tRetN, tIfS, tAsg, gName, fAug, tOp, tUn, tC, fVar, fI, fIC, fNeg, fEq, fNe, fIsN, isNon, fAnd, fOr, fNot, fB, tNot, tAnd, tOr, fChain, fIx, fLen, fListOf, fMin, fMax, fInL, fSlL, tSl, fPart, tNoPart, fAppend, fBM, fSetL, gSub, fGNil, fGCons, fGTup, fGLst, fDGet2, sDPutF, tDNewK, fCat, fClear, fBM0, fSlT, fInt1, tCBK, fDIn, fDGet, fIsi, fBools, fDictL, fLtT, tCall, tCB, tCons, tNil, tTup, tLst, tIf, tTrue, Kd.nm, L2.start, List.map_cons, List.map_nil, List.length_cons, List.length_nil, Nat.reduceAdd, Nat.reduceSub, List.replicate_succ, List.replicate_zero, List.getElem?_cons_zero, List.getElem?_cons_succ, List.set_cons_zero, List.set_cons_succ, List.append_nil, List.nil_append, List.cons_append, eq_self, true_and, and_true, if_true, Bool.false_eq_true, if_false, Bool.not_true, Bool.not_false, id_eq, sl0, sl1, sl2, sl3, sl4])
theorem ok_lean {tc tT : Addr} (hC : PySem.W.CodeHd base tc tT) (hBl : BltAt mg base) {f : Addr} {fd : FuncData} {f_look_at_set : Addr} {d_look_at_set : FuncData} {f_nears_in : Addr} {d_nears_in : FuncData} {f_marked : Addr} {d_marked : FuncData} {f_all_in : Addr} {d_all_in : FuncData} (B : Blt mg) (D : DefAt K mg "lean" (top 28) ["web", "some"] f fd) (D_look_at_set : DefAt K mg "look_at_set" (top 24) ["web", "thing"] f_look_at_set d_look_at_set) (G_look_at_set : FnOk P w K mg base CX0 7 f_look_at_set d_look_at_set ["web", "thing"] spLookSet) (D_nears_in : DefAt K mg "nears_in" (top 21) ["web"] f_nears_in d_nears_in) (G_nears_in : FnOk P w K mg base CX0 1 f_nears_in d_nears_in ["web"] spNearsIn) (D_marked : DefAt K mg "marked" (top 9) ["places"] f_marked d_marked) (G_marked : FnOk P w K mg base CX0 1 f_marked d_marked ["places"] spMarked) (D_all_in : DefAt K mg "all_in" (top 25) ["places", "chosen"] f_all_in d_all_in) (G_all_in : FnOk P w K mg base CX0 1 f_all_in d_all_in ["places", "chosen"] spAllIn) (hfc : fd.code = .ref tc) : FnOk P w K mg base CX0 9 f fd ["web", "some"] (spLean tT) := by
  have sc : FnScope ["web", "some", "prices", "nears", "left", "place"] ["web", "some"] (defScope (top 28)) := ⟨rfl, rfl, rfl, by decide +kernel, rfl, by decide +kernel, by decide +kernel⟩
  refine D.F.okC sc (fun vs H Q E h => ?_) (fun A outer s H vs Q E hr h => ?_)
  · obtain ⟨v, u, ps, ts, ss, rfl, _⟩ := h
    rfl
  obtain ⟨v, u, ps, ts, ss, rfl, hw, wok, hset, sin, tab, h⟩ := h
  obtain ⟨x, pa, ta, xs, ys, rfl, ex, ep, et, pp, pt⟩ := id hw
  obtain ⟨sa, rfl, es⟩ := id hset
  have hlx : xs.length = ps.length := Paired.length pp
  have hly : ys.length = ts.length := Paired.length pt
  have okl := wok.pl
  have okt := wok.tl
  have okq := sin.len
  have hu := hu_of hr
  have hu0 : _ < PySem.cLine := Nat.lt_of_succ_lt hu
  refine ⟨_, (pss_cons (ps_expr (pe_call G_look_at_set (hr.mono (by decide)) rfl D_look_at_set.m D_look_at_set.F.kp D_look_at_set.b .nil pass0 (pa_cons (qv 0) (pa_cons (qv 1) pa_nil)))) (pss_cons (ps_set (i := 2) sc.nd rfl (Or.inr rfl) (pe_callTy (q_dictL rfl) rfl B.dict PyProof.Rows.boot_dict (pa_cons (pe_ix q_ix (qv 0) pe_int (fun _ _ => rfl)) pa_nil))) (pss_cons (ps_set (i := 3) sc.nd rfl (Or.inl rfl) (pe_call G_nears_in (hr.mono (by decide)) rfl D_nears_in.m D_nears_in.F.kp D_nears_in.b .nil pass0 (pa_cons (qv 0) pa_nil))) (pss_cons (ps_set (i := 4) sc.nd rfl (Or.inl rfl) (pe_call G_marked (hr.mono (by decide)) rfl D_marked.m D_marked.F.kp D_marked.b .nil pass0 (pa_cons (qv 1) pa_nil))) (pss_cons (ps_for PassesOwn.never rfl (pi_list (pe_sortLam (P := tT) (c0 := tc) (i := 1) (j := 2) (hr.mono (by decide)) rfl (Or.inl rfl) rfl (Or.inr (Or.inl rfl)) rfl hfc hC hBl rfl rfl (fun c hc => lam_clos hc) (fun _ _ _ _ _ => rfl) rfl B.sorted)) (pg_name (i := 5) sc.nd rfl (Or.inl rfl)) (pss_one (ps_if (qt_val (pe_call G_all_in (hr.mono (by decide)) rfl D_all_in.m D_all_in.F.kp D_all_in.b .nil pass0 (pa_cons (q_dget hu (qv 3) (qv 5) (fun _ _ => rfl)) (pa_cons (qv 4) pa_nil)))) (pss_one (ps_expr (pe_dpop1 (qv 4) (qv 5) ⟨rfl, rfl, rfl, rfl⟩))) pss_nil))) (pss_one (ps_ret (pe_callB (call_sortD rfl) rfl B.sorted PyProof.Rows.boot_sorted (pa_cons (qv 4) pa_nil))))))))), ?_⟩
  walk_at "RD"
  refine ⟨_, _, ps, ts, ss, rfl, hw, wok, hset, sin, fun H1 s1 => ?_⟩
  try simp only [fInsS, fIsB, tSeq, tNext, tDrop, tRet, tRetN, tIfS, tAsg, gName, fAug, tOp, tUn, tC, fVar, fI, fIC, fNeg, fEq, fNe, fIsN, isNon, fAnd, fOr, fNot, fB, tNot, tAnd, tOr, fChain, fIx, fLen, fListOf, fMin, fMax, fInL, fSlL, tSl, fPart, tNoPart, fAppend, fBM, fSetL, gSub, fGNil, fGCons, fGTup, fGLst, fDGet2, sDPutF, tDNewK, fCat, fClear, fBM0, fSlT, fInt1, tCBK, fDIn, fDGet, fIsi, fBools, fDictL, fLtT, tCall, tCB, tCons, tNil, tTup, tLst, tIf, tTrue, Kd.nm, L2.start, List.map_cons, List.map_nil, List.length_cons, List.length_nil, Nat.reduceAdd, Nat.reduceSub, List.replicate_succ, List.replicate_zero, List.getElem?_cons_zero, List.getElem?_cons_succ, List.set_cons_zero, List.set_cons_succ, List.append_nil, List.nil_append, List.cons_append, eq_self, true_and, and_true, if_true, Bool.false_eq_true, if_false, Bool.not_true, Bool.not_false, id_eq, sl0, sl1, sl2, sl3, sl4, seqOf, s1 _ _ ex, s1 _ _ ep, at0]
  refine ⟨kvsOf ps, pairs_at (Prs.same s1 pp), by omega, keys_nodup wok.p.nodup, fun d hd => ?_⟩
  have s2 : Same H (upd H1 d (.dK (kvsOf ps))) := s1.trans (same_new hd _)
  have ed : upd H1 d (.dK (kvsOf ps)) d = some (.dK (kvsOf ps)) := upd_same
  generalize upd H1 d (.dK (kvsOf ps)) = H2 at s2 ed
  walk_at "RD"
  refine ⟨_, ps, ts, rfl, hw.same s2, wok, fun nd as H3 hnd s3 en hla nears => ?_⟩
  have s23 := s2.trans s3
  walk_at "RD"
  refine ⟨_, ss, rfl, hset.same s23, sin.ok.nodup, by omega, fun ld H4 hld s4 eld => ?_⟩
  have s24 := s23.trans s4
  have ed4 := s4 _ _ (s3 _ _ ed)
  have en4 := s4 _ _ en
  have es4 := s24 _ _ es
  walk_at "RD"
  refine tFor_hideI (ι := Addr × List Int × Hp) (fun i => Itl K i.1) (fun i => i.2.2) (fun i => ButT tT H4 i.2.2 ∧ Tab i.2.2 tT ∧ H4 i.1 = none ∧ i.2.2 i.1 = some (.lst (i.2.1.map V.int)) ∧ i.2.1.Perm ss ∧ i.2.1.Pairwise (fun p q => priceL ps q * 1000 + q ≤ priceL ps p * 1000 + p)) (fun R hR => ?_) (fun i0 ok0 => ?_)
  · unfold iList
    exact ⟨sa, d, ss, kvsOf ps, priceL ps, rfl, rfl, es4, ed4, by omega, set_bounds wok sin, tabSame tab s24, fun D out H5 b5 t5 hD e5 pm pw => ⟨D, rfl, ⟨_, SqL.of e5⟩, hR (D, out, H5) ⟨b5, t5, hD, e5, pm, pw⟩⟩⟩
  obtain ⟨D, ord, H5⟩ := i0
  obtain ⟨b5, t5, hD, e5, pm, pw⟩ := ok0
  dsimp only at b5 t5 hD e5 pm pw
  have nT : ∀ b o, H4 b = some o → (∀ ps, o ≠ .tbl ps) → b ≠ tT := fun b o e n z => by
    obtain ⟨qs, eT, _⟩ := tabSame tab s24
    rw [z, eT] at e
    exact n qs (Option.some.inj e).symm
  have eld5 := b5 _ _ (nT _ _ eld fun _ z => by cases z) eld
  have en5 := b5 _ _ (nT _ _ en4 fun _ z => by cases z) en4
  have nDl : D ≠ ld := fun z => by rw [z, eld] at hD; cases hD
  have nTl : tT ≠ ld := (nT _ _ eld fun _ z => by cases z).symm
  have ndl : nd ≠ ld := ne_of_none en hld
  have ndo : ord.Nodup := pm.nodup_iff.mpr sin.ok.nodup
  refine for_list (K := K) (a := D) (xs := ord.map V.int) (fun i σ H6 => ∃ pl, σ = [some (.ref x), some (.ref sa), some (.ref d), some (.ref nd), some (.ref ld), pl] ∧ But ld H5 H6 ∧ H6 ld = some (.dK (mk (leanGo ts (ord.take i) ss)))) ⟨none, rfl, But.refl _ _, eld5⟩ (fun i σ H6 _ ⟨_, _, b6, _⟩ => SqL.of (b6 _ _ nDl e5)) ?_ ?_
  · rintro i y σ H6 hi ⟨pl, rfl, b6, el6⟩
    rw [List.getElem?_map] at hi
    obtain ⟨n, hn, rfl⟩ := Option.map_eq_some_iff.mp hi
    have hns : n ∈ ss := pm.mem_iff.mp (List.mem_of_getElem? hn)
    obtain ⟨i2, p, hp, rfl⟩ := hasK_inv (sin.ok.has n hns)
    have hi2 : i2 < as.length := by have := (List.getElem?_eq_some_iff.mp hp).1; omega
    have A1 : as[i2]? = some as[i2] := List.getElem?_eq_getElem hi2
    generalize as[i2] = a1 at A1
    have V1 := kz_val wok.p.nodup hp A1
    have M1 := nears i2 p a1 hp A1
    have na1 : a1 ≠ ld := ne_of_none M1 hld
    have M4 := s4 _ _ M1
    have M6 := b6 _ _ na1 (b5 _ _ (nT _ _ M4 fun _ z => by cases z) M4)
    have en6 := b6 _ _ ndl en5
    have hnot : p.1 ∉ ord.take i := fun z => by
      obtain ⟨j, e⟩ := List.mem_iff_getElem?.mp z
      have hj := (List.getElem?_eq_some_iff.mp e).1
      rw [List.length_take] at hj
      have e2 : ord[j]? = some p.1 := by
        rw [List.getElem?_take] at e
        split at e
        · exact e
        · cases e
      exact absurd rfl (nodup_at ndo e2 hn (by omega))
    have hin : p.1 ∈ leanGo ts (ord.take i) ss := leanGo_keeps hns hnot
    have hnl := nearL_len ts p.1
    try simp only [fInsS, fIsB, tSeq, tNext, tDrop, tRet, tRetN, tIfS, tAsg, gName, fAug, tOp, tUn, tC, fVar, fI, fIC, fNeg, fEq, fNe, fIsN, isNon, fAnd, fOr, fNot, fB, tNot, tAnd, tOr, fChain, fIx, fLen, fListOf, fMin, fMax, fInL, fSlL, tSl, fPart, tNoPart, fAppend, fBM, fSetL, gSub, fGNil, fGCons, fGTup, fGLst, fDGet2, sDPutF, tDNewK, fCat, fClear, fBM0, fSlT, fInt1, tCBK, fDIn, fDGet, fIsi, fBools, fDictL, fLtT, tCall, tCB, tCons, tNil, tTup, tLst, tIf, tTrue, Kd.nm, L2.start, List.map_cons, List.map_nil, List.length_cons, List.length_nil, Nat.reduceAdd, Nat.reduceSub, List.replicate_succ, List.replicate_zero, List.getElem?_cons_zero, List.getElem?_cons_succ, List.set_cons_zero, List.set_cons_succ, List.append_nil, List.nil_append, List.cons_append, eq_self, true_and, and_true, if_true, Bool.false_eq_true, if_false, Bool.not_true, Bool.not_false, id_eq, sl0, sl1, sl2, sl3, sl4, en6, V1]
    refine ⟨a1, ld, nearL ts p.1, _, rfl, M6, el6, by omega, fun H7 s7 => ?_⟩
    have el7 := s7 _ _ el6
    have hstep : leanGo ts (ord.take (i + 1)) ss = if ((nearL ts p.1).all fun m => decide (m ∈ leanGo ts (ord.take i) ss)) = true then (leanGo ts (ord.take i) ss).filter (fun m => !decide (m = p.1)) else leanGo ts (ord.take i) ss := by
      rw [take_get hn, leanGo_append, leanGo]
      split <;> rfl
    cases c : (nearL ts p.1).all fun m => decide (m ∈ leanGo ts (ord.take i) ss) with
    | true =>
      rw [c, if_pos rfl] at hstep
      try simp only [fInsS, fIsB, tSeq, tNext, tDrop, tRet, tRetN, tIfS, tAsg, gName, fAug, tOp, tUn, tC, fVar, fI, fIC, fNeg, fEq, fNe, fIsN, isNon, fAnd, fOr, fNot, fB, tNot, tAnd, tOr, fChain, fIx, fLen, fListOf, fMin, fMax, fInL, fSlL, tSl, fPart, tNoPart, fAppend, fBM, fSetL, gSub, fGNil, fGCons, fGTup, fGLst, fDGet2, sDPutF, tDNewK, fCat, fClear, fBM0, fSlT, fInt1, tCBK, fDIn, fDGet, fIsi, fBools, fDictL, fLtT, tCall, tCB, tCons, tNil, tTup, tLst, tIf, tTrue, Kd.nm, L2.start, List.map_cons, List.map_nil, List.length_cons, List.length_nil, Nat.reduceAdd, Nat.reduceSub, List.replicate_succ, List.replicate_zero, List.getElem?_cons_zero, List.getElem?_cons_succ, List.set_cons_zero, List.set_cons_succ, List.append_nil, List.nil_append, List.cons_append, eq_self, true_and, and_true, if_true, Bool.false_eq_true, if_false, Bool.not_true, Bool.not_false, id_eq, sl0, sl1, sl2, sl3, sl4, tDPop1]
      refine ⟨ld, rfl, .inl ⟨_, .inl el7⟩, _, Sum.inl p.1, _, el7, rfl, mk_some hin, _, rfl, fun b o nb q => ?_, ?_⟩
      · rw [upd_ne nb]; exact s7 _ _ (b6 _ _ nb q)
      · rw [upd_same, mk_drop, hstep]
    | false =>
      rw [c, if_neg (by decide)] at hstep
      walk_at "RD"
      exact ⟨_, rfl, fun b o nb q => s7 _ _ (b6 _ _ nb q), by rw [hstep]; exact el7⟩
  · rintro σ H6 ⟨pl, rfl, b6, el6⟩
    rw [List.length_map, List.take_length] at el6
    have isl : IsLean ps ts ss (leanGo ts ord ss) := ⟨ord, pm, strict_of (fun n hn => by have := set_bounds wok sin n (pm.mem_iff.mp hn); exact ⟨this.1, this.2.1⟩) ndo pw, rfl⟩
    have hsub := isl.sub
    have hrise := (sin.sub hsub).ok.rise2
    walk_at "RD"
    refine ⟨ld, _, leanGo ts ord ss, rfl, el6, ?_, ?_, fun l ms hl pms pws => ?_⟩
    · unfold mk; rw [List.map_map]; rfl
    · have := hsub.length_le; omega
    · rw [rising_perm pws hrise pms]
      have e6 : ∀ b o, b ≠ tT → H b = some o → H6 b = some o := fun b o nb q => b6 _ _ (fun z => by rw [z] at q; have := s23 _ _ q; rw [hld] at this; cases this) (b5 _ _ nb (s24 _ _ q))
      refine h l _ _ ?_ (fun b o nb q => ?_) ?_ upd_same isl
      · cases q : H l with
        | none => rfl
        | some o =>
          by_cases z : l = tT
          · obtain ⟨qs, eT, _⟩ := t5
            have := b6 _ _ nTl eT
            rw [z, this] at hl; cases hl
          · rw [e6 _ _ z q] at hl; cases hl
      · have := e6 _ _ nb q
        rw [upd_ne (ne_of_none this hl)]
        exact this
      · obtain ⟨qs, eT, tr, cc⟩ := t5
        have eT6 := b6 _ _ nTl eT
        refine ⟨qs, by rw [upd_ne (ne_of_none eT6 hl)]; exact eT6, tr, ?_⟩
        rcases cc with cc | ⟨c', q1, q2⟩
        · exact .inl cc
        · have ncl : c' ≠ ld := ne_of q2 eld5 (by intro z; cases z)
          have q6 := b6 _ _ ncl q2
          exact .inr ⟨c', q1, by rw [upd_ne (ne_of_none q6 hl)]; exact q6⟩
end
end My

set_option Elab.async false
set_option linter.all false
set_option maxRecDepth 100000
set_option maxHeartbeats 8000000
namespace My
open PySem L2
section
variable {P : Program} {w : World} {K : PySem.W.Frag} {mg : Str → Option Value} {base : Heap} {c1 c2 c3 c4 : Tok}
theorem rise_eq : ∀ {as bs : List Int}, as.Pairwise (· < ·) → bs.Pairwise (· < ·) → (∀ n, n ∈ as ↔ n ∈ bs) → as = bs
  | [], [], _, _, _ => rfl
  | [], b :: r, _, _, h => by have := (h b).mpr (.head _); cases this
  | a :: r, [], _, _, h => by have := (h a).mp (.head _); cases this
  | a :: r, b :: q, h1, h2, h => by
    rw [List.pairwise_cons] at h1 h2
    have e : a = b := by
      have g1 := (h a).mp (.head _)
      have g2 := (h b).mpr (.head _)
      rcases List.mem_cons.mp g1 with c | c
      · exact c
      · rcases List.mem_cons.mp g2 with d | d
        · exact d.symm
        · have z1 := h2.1 a c
          have z2 := h1.1 b d
          omega
    subst e
    rw [rise_eq h1.2 h2.2 fun n => ?_]
    constructor
    · intro m
      rcases List.mem_cons.mp ((h n).mp (.tail _ m)) with c | c
      · have := h1.1 n m; omega
      · exact c
    · intro m
      rcases List.mem_cons.mp ((h n).mpr (.tail _ m)) with c | c
      · have := h2.1 n m; omega
      · exact c
theorem PlOk.rises : ∀ {ps : List (Int × Int)} {l s : Int}, PlOk l s ps → ps.Pairwise (fun p q => p.1 < q.1)
  | [], _, _, _ => .nil
  | q :: r, l, s, h => List.pairwise_cons.mpr ⟨fun p hp => PlOk.gt h.2 p hp, PlOk.rises h.2⟩
theorem hasK_mem : ∀ {ps : List (Int × Int)} {n : Int}, hasK (kvsOf ps) n = true → ∃ p ∈ ps, p.1 = n
  | [], n, h => by simp [hasK, kvsOf, valV] at h
  | q :: r, n, h => by
    by_cases c : q.1 = n
    · exact ⟨q, .head _, c⟩
    · unfold hasK kvsOf valV at h
      rw [List.map_cons, List.find?_cons] at h
      have hd : decide ((Sum.inl q.1 : Key) = Sum.inl n) = false := decide_eq_false fun z => c (Sum.inl.inj z)
      dsimp only at h
      rw [hd] at h
      obtain ⟨p, hp, e⟩ := hasK_mem (ps := r) (n := n) h
      exact ⟨p, .tail _ hp, e⟩
theorem set_fst {ps ts : List (Int × Int)} {ss : List Int} (wok : WebOk ps ts) (sin : SetIn ps ss) : (ps.filter fun p => decide (p.1 ∈ ss)).map (·.1) = ss := by
  refine rise_eq ?_ sin.ok.rise2 fun n => ?_
  · rw [List.pairwise_map]
    exact List.Pairwise.filter _ wok.p.rises
  · rw [List.mem_map]
    constructor
    · rintro ⟨p, hp, rfl⟩
      simpa using (List.mem_filter.mp hp).2
    · intro hn
      obtain ⟨p, hp, e⟩ := hasK_mem (sin.ok.has n hn)
      exact ⟨p, List.mem_filter.mpr ⟨hp, by rw [e]; simpa using hn⟩, e⟩
def passT (n : Int) (ss : List Int) (t : Int × Int) : Bool := !((decide (t.1 = n) && !decide (t.2 ∈ ss)) || (decide (t.2 = n) && !decide (t.1 ∈ ss)))
theorem pass_near {ss : List Int} {n : Int} : ∀ {ts : List (Int × Int)}, (∀ t ∈ ts, t.1 < t.2) → ts.all (passT n ss) = (nearL ts n).all fun m => decide (m ∈ ss)
  | [], _ => rfl
  | t :: r, h => by
    have ih := pass_near (ss := ss) (n := n) (ts := r) fun u hu => h u (.tail _ hu)
    have ht := h t (.head _)
    unfold nearL at ih ⊢
    rw [List.all_cons, ih, List.flatMap_cons, List.all_append]
    congr 1
    unfold passT nr
    by_cases a : t.1 = n
    · have b : ¬ t.2 = n := by omega
      simp [a, b]
    · by_cases b : t.2 = n <;> simp [a, b]
theorem goes_if {n : Int} {ss : List Int} {t : Int × Int} {A B : Prop} (hA : passT n ss t = false → A) (hB : passT n ss t = true → B) :
    if decide (t.1 = n) = true then (if (!decide (t.2 ∈ ss)) = true then A else if decide (t.2 = n) = true then (if (!decide (t.1 ∈ ss)) = true then A else B) else B) else if decide (t.2 = n) = true then (if (!decide (t.1 ∈ ss)) = true then A else B) else B := by
  unfold passT at hA hB
  cases h1 : decide (t.1 = n) <;> cases h2 : decide (t.2 ∈ ss) <;> cases h3 : decide (t.2 = n) <;> cases h4 : decide (t.1 ∈ ss) <;> rw [h1, h2, h3, h4] at hA hB <;> simp only [Bool.not_true, Bool.not_false, Bool.false_eq_true, if_true, if_false] <;> first | exact hA rfl | exact hB rfl
def spGoes : Sp := fun vs H Q _ => ∃ v n u ps ts ss, vs = [v, .int n, u] ∧ WebAt H v ps ts ∧ SetAt H u ss ∧ (∀ t ∈ ts, t.1 < t.2) ∧ Q (.bl ((nearL ts n).all fun m => decide (m ∈ ss))) H
def leP (q p : Int × Int) : Prop := q.2 < p.2 ∨ (q.2 = p.2 ∧ q.1 ≤ p.1)
def spDearest : Sp := fun vs H Q _ => ∃ l xs qs, vs = [.ref l] ∧ H l = some (.lst xs) ∧ Prs H xs qs ∧ qs ≠ [] ∧ ∀ (j : Nat) x p, xs[j]? = some x → qs[j]? = some p → (∀ q ∈ qs, leP q p) → Q x H
local macro_rules | `(tactic| walk_at "RD") => `(tactic| try simp only [fInsS, fIsB, tSeq, tNext, tDrop, tRet, tRetN, tIfS, tAsg, gName, fAug, tOp, tUn, tC, fVar, fI, fIC, fNeg, fEq, fNe, fIsN, isNon, fAnd, fOr, fNot, fB, tNot, tAnd, tOr, fChain, fIx, fLen, fListOf, fMin, fMax, fInL, fSlL, tSl, fPart, tNoPart, fAppend, fBM, fSetL, gSub, fGNil, fGCons, fGTup, fGLst, fDGet2, sDPutF, tDNewK, fCat, fClear, fBM0, fSlT, fInt1, tCBK, fDIn, fDGet, fIsi, fBools, fDictL, fLtT, tCall, tCB, tCons, tNil, tTup, tLst, tIf, tTrue, Kd.nm, L2.start, List.map_cons, List.map_nil, List.length_cons, List.length_nil, Nat.reduceAdd, Nat.reduceSub, List.replicate_succ, List.replicate_zero, List.getElem?_cons_zero, List.getElem?_cons_succ, List.set_cons_zero, List.set_cons_succ, List.append_nil, List.nil_append, List.cons_append, eq_self, true_and, and_true, if_true, Bool.false_eq_true, if_false, Bool.not_true, Bool.not_false, id_eq, sl0, sl1, sl2, sl3, sl4])
theorem ok_law_goes {f : Addr} {fd : FuncData}  (B : Blt mg) (D : DefAt K mg "_law_goes" (top 37) ["_law_web_here", "_law_place", "_law_some_here"] f fd) : FnOk P w K mg base CX0 1 f fd ["_law_web_here", "_law_place", "_law_some_here"] spGoes := by
  have sc : FnScope ["_law_web_here", "_law_place", "_law_some_here", "_law_one", "_law_other"] ["_law_web_here", "_law_place", "_law_some_here"] (defScope (top 37)) := ⟨rfl, rfl, rfl, by decide +kernel, rfl, by decide +kernel, by decide +kernel⟩
  refine D.F.ok sc (fun vs H Q E h => ?_) (fun cdv A outer s H vs Q E hr h => ?_)
  · obtain ⟨v, n, u, ps, ts, ss, rfl, _⟩ := h
    rfl
  obtain ⟨v, n, u, ps, ts, ss, rfl, hw, hset, hlt, h⟩ := h
  obtain ⟨x, pa, ta, xs, ys, rfl, ex, ep, et, pp, pt⟩ := id hw
  obtain ⟨sa, rfl, es⟩ := id hset
  have hly : ys.length = ts.length := Paired.length pt
  have hu := hu_of hr
  have hu0 : _ < PySem.cLine := Nat.lt_of_succ_lt hu
  refine ⟨_, (pss_cons (ps_for PassesOwn.never rfl (pi_list (pe_ix q_ix (qv 0) pe_int (fun _ _ => rfl))) (qg_tup (n := 2) rfl (qgs_cons (pg_name (i := 3) sc.nd rfl (Or.inl rfl)) (qgs_cons (pg_name (i := 4) sc.nd rfl (Or.inl rfl)) qgs_nil))) (pss_one (ps_if (PW.pt (pw_or (PW.pt (pw_and (qt_cmp q_eq (qv 3) (qv 1) (nomark _)) (pw_and1 (qt_cmp q_notinL (qv 4) (qv 2) (by with_unfolding_all rfl))))) (pw_or1 (PW.pt (pw_and (qt_cmp q_eq (qv 4) (qv 1) (nomark _)) (pw_and1 (qt_cmp q_notinL (qv 3) (qv 2) (by with_unfolding_all rfl)))))))) (pss_one (ps_ret pe_bl)) pss_nil))) (pss_one (ps_ret pe_bl))), ?_⟩
  walk_at "RD"
  refine tFor_hide (Itl K ta) H (fun R hR => ?_) (for_list (K := K) (a := ta) (xs := ys) (fun i σ H1 => ∃ w1 w2, σ = [some (.ref x), some (.int n), some (.ref sa), w1, w2] ∧ H1 = H ∧ (ts.take i).all (passT n ss) = true) ⟨none, none, rfl, rfl, rfl⟩ (fun i σ H1 _ ⟨_, _, _, e, _⟩ => by rw [e]; exact SqL.of et) ?_ ?_)
  · unfold iList
    try simp only [fInsS, fIsB, tSeq, tNext, tDrop, tRet, tRetN, tIfS, tAsg, gName, fAug, tOp, tUn, tC, fVar, fI, fIC, fNeg, fEq, fNe, fIsN, isNon, fAnd, fOr, fNot, fB, tNot, tAnd, tOr, fChain, fIx, fLen, fListOf, fMin, fMax, fInL, fSlL, tSl, fPart, tNoPart, fAppend, fBM, fSetL, gSub, fGNil, fGCons, fGTup, fGLst, fDGet2, sDPutF, tDNewK, fCat, fClear, fBM0, fSlT, fInt1, tCBK, fDIn, fDGet, fIsi, fBools, fDictL, fLtT, tCall, tCB, tCons, tNil, tTup, tLst, tIf, tTrue, Kd.nm, L2.start, List.map_cons, List.map_nil, List.length_cons, List.length_nil, Nat.reduceAdd, Nat.reduceSub, List.replicate_succ, List.replicate_zero, List.getElem?_cons_zero, List.getElem?_cons_succ, List.set_cons_zero, List.set_cons_succ, List.append_nil, List.nil_append, List.cons_append, eq_self, true_and, and_true, if_true, Bool.false_eq_true, if_false, Bool.not_true, Bool.not_false, id_eq, sl0, sl1, sl2, sl3, sl4, seqOf, ex, at1]
    exact ⟨ta, rfl, ⟨_, SqL.of et⟩, hR⟩
  · rintro i y σ H1 hi ⟨w1, w2, rfl, rfl, ok⟩
    obtain ⟨t, ht, pr⟩ := paired_left pt hi
    obtain ⟨tt, rfl, ett⟩ := id pr
    have hpass : passT n ss t = false → ((nearL ts n).all fun m => decide (m ∈ ss)) = false := fun e => by
      rw [← pass_near hlt, Bool.eq_false_iff]
      intro z
      rw [List.all_eq_true.mp z t (List.mem_of_getElem? ht)] at e
      cases e
    have hall : passT n ss t = true → (ts.take (i + 1)).all (passT n ss) = true := fun e => by
      rw [take_get ht, List.all_append, ok, List.all_cons, List.all_nil, e]
      rfl
    try simp only [fInsS, fIsB, tSeq, tNext, tDrop, tRet, tRetN, tIfS, tAsg, gName, fAug, tOp, tUn, tC, fVar, fI, fIC, fNeg, fEq, fNe, fIsN, isNon, fAnd, fOr, fNot, fB, tNot, tAnd, tOr, fChain, fIx, fLen, fListOf, fMin, fMax, fInL, fSlL, tSl, fPart, tNoPart, fAppend, fBM, fSetL, gSub, fGNil, fGCons, fGTup, fGLst, fDGet2, sDPutF, tDNewK, fCat, fClear, fBM0, fSlT, fInt1, tCBK, fDIn, fDGet, fIsi, fBools, fDictL, fLtT, tCall, tCB, tCons, tNil, tTup, tLst, tIf, tTrue, Kd.nm, L2.start, List.map_cons, List.map_nil, List.length_cons, List.length_nil, Nat.reduceAdd, Nat.reduceSub, List.replicate_succ, List.replicate_zero, List.getElem?_cons_zero, List.getElem?_cons_succ, List.set_cons_zero, List.set_cons_succ, List.append_nil, List.nil_append, List.cons_append, eq_self, true_and, and_true, if_true, Bool.false_eq_true, if_false, Bool.not_true, Bool.not_false, id_eq, sl0, sl1, sl2, sl3, sl4, ett, seqOf, es, flatV, flat_ints, inV_ints]
    exact goes_if (fun e => by rw [hpass e] at h; exact h) fun e => ⟨_, _, rfl, hall e⟩
  · rintro σ H1 ⟨w1, w2, rfl, rfl, ok⟩
    rw [hly, List.take_length, pass_near hlt] at ok
    rw [ok] at h
    walk_at "RD"
    exact h
theorem ok_law_dearest {f : Addr} {fd : FuncData}  (B : Blt mg) (D : DefAt K mg "_law_dearest" (top 38) ["_law_left"] f fd) : FnOk P w K mg base CX0 1 f fd ["_law_left"] spDearest := by
  have sc : FnScope ["_law_left", "_law_best", "_law_one"] ["_law_left"] (defScope (top 38)) := ⟨rfl, rfl, rfl, by decide +kernel, rfl, by decide +kernel, by decide +kernel⟩
  refine D.F.ok sc (fun vs H Q E h => ?_) (fun cdv A outer s H vs Q E hr h => ?_)
  · obtain ⟨l, xs, qs, rfl, _⟩ := h
    rfl
  obtain ⟨l, xs, qs, rfl, el, pp, hne, h⟩ := h
  have hlx : xs.length = qs.length := Paired.length pp
  have hu := hu_of hr
  have hu0 : _ < PySem.cLine := Nat.lt_of_succ_lt hu
  refine ⟨_, (pss_cons (ps_set (i := 1) sc.nd rfl (Or.inl rfl) (pe_ix q_ix (qv 0) pe_int (fun _ _ => rfl))) (pss_cons (ps_for PassesOwn.never rfl (pi_list (qv 0)) (pg_name (i := 2) sc.nd rfl (Or.inl rfl)) (pss_one (ps_if (PW.pt (pw_or (qt_cmp q_gt (pe_ix q_ix (qv 2) pe_int (fun _ _ => rfl)) (pe_ix q_ix (qv 1) pe_int (fun _ _ => rfl)) (nomark _)) (pw_or1 (PW.pt (pw_and (qt_cmp q_eq (pe_ix q_ix (qv 2) pe_int (fun _ _ => rfl)) (pe_ix q_ix (qv 1) pe_int (fun _ _ => rfl)) (nomark _)) (pw_and1 (qt_cmp q_gt (pe_ix q_ix (qv 2) pe_int (fun _ _ => rfl)) (pe_ix q_ix (qv 1) pe_int (fun _ _ => rfl)) (nomark _)))))))) (pss_one (ps_set (i := 1) sc.nd rfl (Or.inl rfl) (qv 2))) pss_nil))) (pss_one (ps_ret (qv 1))))), ?_⟩
  have hq0 : 0 < qs.length := List.length_pos_iff.mpr hne
  have x0 : xs[0]? = some xs[0] := List.getElem?_eq_getElem (by omega)
  generalize xs[0] = b0 at x0
  obtain ⟨p0, hp0, pr0⟩ := paired_left pp x0
  have a0 : atI xs 0 = some b0 := atI_nat (j := 0) x0
  try simp only [fInsS, fIsB, tSeq, tNext, tDrop, tRet, tRetN, tIfS, tAsg, gName, fAug, tOp, tUn, tC, fVar, fI, fIC, fNeg, fEq, fNe, fIsN, isNon, fAnd, fOr, fNot, fB, tNot, tAnd, tOr, fChain, fIx, fLen, fListOf, fMin, fMax, fInL, fSlL, tSl, fPart, tNoPart, fAppend, fBM, fSetL, gSub, fGNil, fGCons, fGTup, fGLst, fDGet2, sDPutF, tDNewK, fCat, fClear, fBM0, fSlT, fInt1, tCBK, fDIn, fDGet, fIsi, fBools, fDictL, fLtT, tCall, tCB, tCons, tNil, tTup, tLst, tIf, tTrue, Kd.nm, L2.start, List.map_cons, List.map_nil, List.length_cons, List.length_nil, Nat.reduceAdd, Nat.reduceSub, List.replicate_succ, List.replicate_zero, List.getElem?_cons_zero, List.getElem?_cons_succ, List.set_cons_zero, List.set_cons_succ, List.append_nil, List.nil_append, List.cons_append, eq_self, true_and, and_true, if_true, Bool.false_eq_true, if_false, Bool.not_true, Bool.not_false, id_eq, sl0, sl1, sl2, sl3, sl4, seqOf, el, a0]
  refine ⟨l, rfl, ⟨_, SqL.of el⟩, for_list (K := K) (a := l) (xs := xs) (fun i σ H1 => ∃ j b p w1, σ = [some (.ref l), some b, w1] ∧ H1 = H ∧ xs[j]? = some b ∧ qs[j]? = some p ∧ ∀ q ∈ qs.take i, leP q p) ⟨0, b0, p0, none, rfl, rfl, x0, hp0, by simp⟩ (fun i σ H1 _ ⟨_, _, _, _, _, e, _⟩ => by rw [e]; exact SqL.of el) ?_ ?_⟩
  · rintro i y σ H1 hi ⟨j, b, p, w1, rfl, rfl, hj, hpj, ok⟩
    obtain ⟨q, hq, prq⟩ := paired_left pp hi
    obtain ⟨p2, hp2, prp⟩ := paired_left pp hj
    rw [hpj] at hp2
    cases hp2
    obtain ⟨tq, rfl, etq⟩ := id prq
    obtain ⟨tp, rfl, etp⟩ := id prp
    have new : leP p q → ∀ r ∈ qs.take (i + 1), leP r q := fun hl r hr => by
      rw [take_get hq] at hr
      rcases List.mem_append.mp hr with hr | hr
      · have := ok r hr
        unfold leP at this hl ⊢
        omega
      · rw [List.mem_singleton.mp hr]
        unfold leP
        omega
    have old : leP q p → ∀ r ∈ qs.take (i + 1), leP r p := fun hl r hr => by
      rw [take_get hq] at hr
      rcases List.mem_append.mp hr with hr | hr
      · exact ok r hr
      · rw [List.mem_singleton.mp hr]
        exact hl
    unfold leP at new old
    try simp only [fInsS, fIsB, tSeq, tNext, tDrop, tRet, tRetN, tIfS, tAsg, gName, fAug, tOp, tUn, tC, fVar, fI, fIC, fNeg, fEq, fNe, fIsN, isNon, fAnd, fOr, fNot, fB, tNot, tAnd, tOr, fChain, fIx, fLen, fListOf, fMin, fMax, fInL, fSlL, tSl, fPart, tNoPart, fAppend, fBM, fSetL, gSub, fGNil, fGCons, fGTup, fGLst, fDGet2, sDPutF, tDNewK, fCat, fClear, fBM0, fSlT, fInt1, tCBK, fDIn, fDGet, fIsi, fBools, fDictL, fLtT, tCall, tCB, tCons, tNil, tTup, tLst, tIf, tTrue, Kd.nm, L2.start, List.map_cons, List.map_nil, List.length_cons, List.length_nil, Nat.reduceAdd, Nat.reduceSub, List.replicate_succ, List.replicate_zero, List.getElem?_cons_zero, List.getElem?_cons_succ, List.set_cons_zero, List.set_cons_succ, List.append_nil, List.nil_append, List.cons_append, eq_self, true_and, and_true, if_true, Bool.false_eq_true, if_false, Bool.not_true, Bool.not_false, id_eq, sl0, sl1, sl2, sl3, sl4, seqOf, etq, etp, at0, at1]
    by_cases a1 : q.2 > p.2
    · rw [if_pos (decide_eq_true a1)]
      exact ⟨i, _, q, _, rfl, hi, hq, new (by omega)⟩
    · rw [if_neg (by rw [decide_eq_false a1]; decide)]
      by_cases a2 : q.2 = p.2
      · rw [if_pos (decide_eq_true a2)]
        by_cases a3 : q.1 > p.1
        · rw [if_pos (decide_eq_true a3)]
          exact ⟨i, _, q, _, rfl, hi, hq, new (by omega)⟩
        · rw [if_neg (by rw [decide_eq_false a3]; decide)]
          exact ⟨j, _, p, _, rfl, hj, hpj, old (by omega)⟩
      · rw [if_neg (by rw [decide_eq_false a2]; decide)]
        exact ⟨j, _, p, _, rfl, hj, hpj, old (by omega)⟩
  · rintro σ H1 ⟨j, b, p, w1, rfl, rfl, hj, hpj, ok⟩
    rw [hlx, List.take_length] at ok
    walk_at "RD"
    exact h j b p hj hpj ok
end
end My

set_option Elab.async false
set_option linter.all false
set_option maxRecDepth 100000
set_option maxHeartbeats 8000000
namespace My
open PySem L2
section
variable {P : Program} {w : World} {K : PySem.W.Frag} {mg : Str → Option Value} {base : Heap} {c1 c2 c3 c4 : Tok}
theorem paired_erase {α β : Type} {F : α → β → Prop} : ∀ {xs : List α} {ys : List β} (j : Nat), Paired F xs ys → Paired F (xs.eraseIdx j) (ys.eraseIdx j)
  | [], [], _, _ => .nil
  | x :: xs, y :: ys, 0, .cons r t => t
  | x :: xs, y :: ys, j + 1, .cons r t => .cons r (paired_erase j t)
theorem erase_filter {α : Type} [DecidableEq α] : ∀ {l : List α} {j : Nat} {n : α}, l.Nodup → l[j]? = some n → l.eraseIdx j = l.filter fun m => !decide (m = n)
  | [], _, _, _, h => by simp at h
  | x :: r, 0, n, nd, h => by
    have e : x = n := by simpa using h
    subst e
    rw [List.nodup_cons] at nd
    rw [List.eraseIdx_zero, List.tail_cons, List.filter_cons, if_neg (by simp)]
    refine (List.filter_eq_self.mpr fun m hm => ?_).symm
    have : m ≠ x := fun z => nd.1 (z ▸ hm)
    simp [this]
  | x :: r, j + 1, n, nd, h => by
    rw [List.nodup_cons] at nd
    have h2 : r[j]? = some n := by simpa using h
    have ne : x ≠ n := fun z => nd.1 (z ▸ List.mem_of_getElem? h2)
    rw [List.eraseIdx_cons_succ, erase_filter nd.2 h2, List.filter_cons, if_pos (by simp [ne])]
theorem map_erase {α β : Type} {f : α → β} : ∀ {l : List α} {j : Nat}, (l.map f).eraseIdx j = (l.eraseIdx j).map f
  | [], _ => rfl
  | x :: r, 0 => rfl
  | x :: r, j + 1 => by rw [List.map_cons, List.eraseIdx_cons_succ, map_erase, List.eraseIdx_cons_succ, List.map_cons]
theorem erase_perm {α : Type} : ∀ {l : List α} {j : Nat} {x : α}, l[j]? = some x → (x :: l.eraseIdx j).Perm l
  | [], _, _, h => by simp at h
  | y :: r, 0, x, h => by
    have e : y = x := by simpa using h
    subst e
    exact List.Perm.refl _
  | y :: r, j + 1, x, h => by
    rw [List.eraseIdx_cons_succ]
    exact (List.Perm.swap _ _ _).trans ((erase_perm (by simpa using h)).cons y)
theorem pr_rep {H : Hp} {v : V} {p : Int × Int} (h : Pr H v p) : Rep H (pairD p) v := by
  obtain ⟨t, e, q⟩ := h
  unfold pairD
  rw [Rep]
  refine ⟨t, _, e, q, ?_⟩
  rw [Reps]
  refine ⟨_, _, rfl, by rw [Rep], ?_⟩
  rw [Reps]
  exact ⟨_, _, rfl, by rw [Rep], by rw [Reps]⟩
theorem depPs_pairs : ∀ (ts : List (Int × Int)), depPs (ts.map pairD) ≤ 3
  | [] => by simp [depPs]
  | t :: r => by
    have ih := depPs_pairs r
    rw [List.map_cons, depPs]
    have e : depP (pairD t) ≤ 3 := by simp [pairD, depP, depPs]
    omega
theorem depPs_ints : ∀ (ns : List Int), depPs (ns.map Dt.int) ≤ 3
  | [] => by simp [depPs]
  | t :: r => by
    have ih := depPs_ints r
    rw [List.map_cons, depPs]
    have e : depP (Dt.int t) ≤ 3 := by simp [depP]
    omega
theorem eq_pairD {q t : Int × Int} : eqP (pairD q) (pairD t) = decide (q = t) := by
  by_cases c : q = t
  · rw [c, decide_eq_true rfl]; exact eqP_refl _
  · rw [decide_eq_false c]
    unfold pairD
    simp only [eqP, eqPs, Bool.and_true]
    rw [Bool.and_eq_false_iff]
    by_cases c1 : q.1 = t.1
    · refine .inr ?_
      rw [beq_eq_false_iff_ne]
      exact fun z => c (Prod.ext c1 z)
    · exact .inl (by rw [beq_eq_false_iff_ne]; exact c1)
theorem eq_intD {q t : Int} : eqP (.int q) (.int t) = decide (q = t) := by
  simp only [eqP]
  by_cases c : q = t
  · rw [c]; simp
  · rw [decide_eq_false c, beq_eq_false_iff_ne]; exact c
theorem key_of {ps ts : List (Int × Int)} (wok : WebOk ps ts) {p : Int × Int} (h : p ∈ ps) : keyN ps p.1 = p.2 * 1000 + p.1 := by
  unfold keyN priceL
  rw [valV_of wok.p.nodup h]
def spLLean : Sp := fun vs H Q _ => ∃ v u ps ts ss, vs = [v, u] ∧ WebAt H v ps ts ∧ WebOk ps ts ∧ SetAt H u ss ∧ SetIn ps ss ∧ ∀ l H' out, H l = none → Same H H' → H' l = some (.lst (out.map V.int)) → IsLean ps ts ss out → Q (.ref l) H'
local macro_rules | `(tactic| walk_at "RD") => `(tactic| try simp only [fInsS, fIsB, tSeq, tNext, tDrop, tRet, tRetN, tIfS, tAsg, gName, fAug, tOp, tUn, tC, fVar, fI, fIC, fNeg, fEq, fNe, fIsN, isNon, fAnd, fOr, fNot, fB, tNot, tAnd, tOr, fChain, fIx, fLen, fListOf, fMin, fMax, fInL, fSlL, tSl, fPart, tNoPart, fAppend, fBM, fSetL, gSub, fGNil, fGCons, fGTup, fGLst, fDGet2, sDPutF, tDNewK, fCat, fClear, fBM0, fSlT, fInt1, tCBK, fDIn, fDGet, fIsi, fBools, fDictL, fLtT, tCall, tCB, tCons, tNil, tTup, tLst, tIf, tTrue, Kd.nm, L2.start, List.map_cons, List.map_nil, List.length_cons, List.length_nil, Nat.reduceAdd, Nat.reduceSub, List.replicate_succ, List.replicate_zero, List.getElem?_cons_zero, List.getElem?_cons_succ, List.set_cons_zero, List.set_cons_succ, List.append_nil, List.nil_append, List.cons_append, eq_self, true_and, and_true, if_true, Bool.false_eq_true, if_false, Bool.not_true, Bool.not_false, id_eq, sl0, sl1, sl2, sl3, sl4])
theorem ok_law_lean {f : Addr} {fd : FuncData} {f_law_dearest : Addr} {d_law_dearest : FuncData} {f_law_goes : Addr} {d_law_goes : FuncData} (B : Blt mg) (D : DefAt K mg "_law_lean" (top 39) ["_law_web_here", "_law_some_here"] f fd) (D_law_dearest : DefAt K mg "_law_dearest" (top 38) ["_law_left"] f_law_dearest d_law_dearest) (G_law_dearest : FnOk P w K mg base CX0 1 f_law_dearest d_law_dearest ["_law_left"] spDearest) (D_law_goes : DefAt K mg "_law_goes" (top 37) ["_law_web_here", "_law_place", "_law_some_here"] f_law_goes d_law_goes) (G_law_goes : FnOk P w K mg base CX0 1 f_law_goes d_law_goes ["_law_web_here", "_law_place", "_law_some_here"] spGoes) : FnOk P w K mg base CX0 2 f fd ["_law_web_here", "_law_some_here"] spLLean := by
  have sc : FnScope ["_law_web_here", "_law_some_here", "_law_left", "_law_kept", "_law_best"] ["_law_web_here", "_law_some_here"] (defScope (top 39)) := ⟨rfl, rfl, rfl, by decide +kernel, rfl, by decide +kernel, by decide +kernel⟩
  refine D.F.ok sc (fun vs H Q E h => ?_) (fun cdv A outer s H vs Q E hr h => ?_)
  · obtain ⟨v, u, ps, ts, ss, rfl, _⟩ := h
    rfl
  obtain ⟨v, u, ps, ts, ss, rfl, hw, wok, hset, sin, h⟩ := h
  obtain ⟨x, pa, ta, xs, ys, rfl, ex, ep, et, pp, pt⟩ := id hw
  obtain ⟨sa, rfl, es⟩ := id hset
  have hlx : xs.length = ps.length := Paired.length pp
  have okl := wok.pl
  have okq := sin.len
  have hu := hu_of hr
  have hu0 : _ < PySem.cLine := Nat.lt_of_succ_lt hu
  refine ⟨_, (pss_cons (ps_setc (i := 2) sc.nd rfl (Or.inl rfl) (CpScope.of (N := ["_law_one", "_law_some_here"]) (src := [none, some 1]) (by rfl)) rfl (pi_list (pe_ix q_ix (qv 0) pe_int (fun _ _ => rfl))) (fun _ _ _ _ => (pg_name (i := 0) (nodupB_ok (l := ["_law_one", "_law_some_here"]) (by rfl)) rfl (Or.inl rfl))) (fun _ _ _ _ => (pif_one (qt_cmp q_inL (pe_ix q_ix (qv 0) pe_int (fun _ _ => rfl)) (qv 1) (by with_unfolding_all rfl)))) (fun _ _ _ _ => (qv 0))) (pss_cons (ps_set (i := 3) sc.nd rfl (Or.inl rfl) (pe_callTy q_listOf rfl B.list PyProof.Rows.boot_list (pa_cons (qv 1) pa_nil))) (pss_cons (ps_while PassesOwn.never (qt_cmp (op_neD hr.units) (qv 2) (pe_lst pa_nil) (nomark _)) (pss_cons (ps_set (i := 4) sc.nd rfl (Or.inl rfl) (pe_call G_law_dearest (hr.mono (by decide)) rfl D_law_dearest.m D_law_dearest.F.kp D_law_dearest.b .nil pass0 (pa_cons (qv 2) pa_nil))) (pss_cons (ps_expr (q_bm PySem.F.plainAttrs_list PySem.F.slot_list_remove PySem.F.type_list_remove (q_removeD hr.units) (qv 2) (pa_cons (qv 4) pa_nil))) (pss_one (ps_if (qt_val (pe_call G_law_goes (hr.mono (by decide)) rfl D_law_goes.m D_law_goes.F.kp D_law_goes.b .nil pass0 (pa_cons (qv 0) (pa_cons (pe_ix q_ix (qv 4) pe_int (fun _ _ => rfl)) (pa_cons (qv 3) pa_nil))))) (pss_one (ps_expr (q_bm PySem.F.plainAttrs_list PySem.F.slot_list_remove PySem.F.type_list_remove (q_removeD hr.units) (qv 3) (pa_cons (pe_ix q_ix (qv 4) pe_int (fun _ _ => rfl)) pa_nil)))) pss_nil))))) (pss_one (ps_ret (qv 3)))))), ?_⟩
  walk_at "RD"
  refine tComp_hide (Itl K pa) H (fun R hR => ?_) (fun lf hlf => comp_run ps.length (fun i σ' Hc => ∃ w1 zs, σ' = [w1, some (.ref sa)] ∧ Same H Hc ∧ Hc lf = some (.lst zs) ∧ Prs Hc zs ((ps.take i).filter fun p => decide (p.1 ∈ ss))) ⟨none, [], rfl, same_new hlf _, upd_same, .nil⟩ ?_ ?_)
  · unfold iList
    try simp only [fInsS, fIsB, tSeq, tNext, tDrop, tRet, tRetN, tIfS, tAsg, gName, fAug, tOp, tUn, tC, fVar, fI, fIC, fNeg, fEq, fNe, fIsN, isNon, fAnd, fOr, fNot, fB, tNot, tAnd, tOr, fChain, fIx, fLen, fListOf, fMin, fMax, fInL, fSlL, tSl, fPart, tNoPart, fAppend, fBM, fSetL, gSub, fGNil, fGCons, fGTup, fGLst, fDGet2, sDPutF, tDNewK, fCat, fClear, fBM0, fSlT, fInt1, tCBK, fDIn, fDGet, fIsi, fBools, fDictL, fLtT, tCall, tCB, tCons, tNil, tTup, tLst, tIf, tTrue, Kd.nm, L2.start, List.map_cons, List.map_nil, List.length_cons, List.length_nil, Nat.reduceAdd, Nat.reduceSub, List.replicate_succ, List.replicate_zero, List.getElem?_cons_zero, List.getElem?_cons_succ, List.set_cons_zero, List.set_cons_succ, List.append_nil, List.nil_append, List.cons_append, eq_self, true_and, and_true, if_true, Bool.false_eq_true, if_false, Bool.not_true, Bool.not_false, id_eq, sl0, sl1, sl2, sl3, sl4, seqOf, ex, at0]
    exact ⟨pa, rfl, ⟨_, SqL.of ep⟩, hR⟩
  · rintro i σ' Hc hi ⟨w1, zs, rfl, s2, ez, pz⟩
    have x1 : ps[i]? = some ps[i] := List.getElem?_eq_getElem hi
    generalize ps[i] = p at x1
    obtain ⟨u, gu, hgu⟩ := paired_right pp x1
    obtain ⟨t, rfl, ht⟩ := id (hgu.same s2)
    have z1 : SqL K Hc pa _ := SqL.of (s2 _ _ ep)
    refine ⟨⟨_, _, z1, gu⟩, ?_⟩
    rintro y H' ⟨rfl, hy⟩
    have E1 := Option.some.inj (gu.symm.trans (hy _ z1))
    subst E1
    have hlz : zs.length ≤ i := by
      rw [Paired.length pz]
      exact Nat.le_trans (List.length_filter_le _ _) (by rw [List.length_take]; omega)
    rw [filter_take x1]
    try simp only [fInsS, fIsB, tSeq, tNext, tDrop, tRet, tRetN, tIfS, tAsg, gName, fAug, tOp, tUn, tC, fVar, fI, fIC, fNeg, fEq, fNe, fIsN, isNon, fAnd, fOr, fNot, fB, tNot, tAnd, tOr, fChain, fIx, fLen, fListOf, fMin, fMax, fInL, fSlL, tSl, fPart, tNoPart, fAppend, fBM, fSetL, gSub, fGNil, fGCons, fGTup, fGLst, fDGet2, sDPutF, tDNewK, fCat, fClear, fBM0, fSlT, fInt1, tCBK, fDIn, fDGet, fIsi, fBools, fDictL, fLtT, tCall, tCB, tCons, tNil, tTup, tLst, tIf, tTrue, Kd.nm, L2.start, List.map_cons, List.map_nil, List.length_cons, List.length_nil, Nat.reduceAdd, Nat.reduceSub, List.replicate_succ, List.replicate_zero, List.getElem?_cons_zero, List.getElem?_cons_succ, List.set_cons_zero, List.set_cons_succ, List.append_nil, List.nil_append, List.cons_append, eq_self, true_and, and_true, if_true, Bool.false_eq_true, if_false, Bool.not_true, Bool.not_false, id_eq, sl0, sl1, sl2, sl3, sl4, seqOf, ht, at0, s2 _ _ es, flatV, flat_ints, inV_ints]
    by_cases c : p.1 ∈ ss
    · rw [if_pos (decide_eq_true c)]
      have t6 := tups_lst (ys := zs ++ [.ref t]) ez
      refine ⟨zs, ez, szl' (by omega), _, zs ++ [.ref t], rfl, same_upd s2 hlf, upd_same, ?_⟩
      rw [if_pos (decide_eq_true c)]
      exact paired_snoc (Prs.tups t6 pz) (Pr.tups ⟨t, rfl, ht⟩ t6)
    · rw [if_neg (by simpa using c)]
      refine ⟨_, zs, rfl, s2, ez, ?_⟩
      rw [if_neg (by simpa using c), List.append_nil]
      exact pz
  · rintro σ' Hc ⟨w1, zs, rfl, s2, ez, pz⟩
    refine ⟨⟨_, SqL.of (s2 _ _ ep), by omega⟩, ?_⟩
    rw [List.take_length] at pz
    have fst := set_fst wok sin
    have hsub : ∀ q ∈ ps.filter (fun p => decide (p.1 ∈ ss)), q ∈ ps := fun q hq => (List.mem_filter.mp hq).1
    generalize ps.filter (fun p => decide (p.1 ∈ ss)) = qs0 at pz fst hsub
    try simp only [fInsS, fIsB, tSeq, tNext, tDrop, tRet, tRetN, tIfS, tAsg, gName, fAug, tOp, tUn, tC, fVar, fI, fIC, fNeg, fEq, fNe, fIsN, isNon, fAnd, fOr, fNot, fB, tNot, tAnd, tOr, fChain, fIx, fLen, fListOf, fMin, fMax, fInL, fSlL, tSl, fPart, tNoPart, fAppend, fBM, fSetL, gSub, fGNil, fGCons, fGTup, fGLst, fDGet2, sDPutF, tDNewK, fCat, fClear, fBM0, fSlT, fInt1, tCBK, fDIn, fDGet, fIsi, fBools, fDictL, fLtT, tCall, tCB, tCons, tNil, tTup, tLst, tIf, tTrue, Kd.nm, L2.start, List.map_cons, List.map_nil, List.length_cons, List.length_nil, Nat.reduceAdd, Nat.reduceSub, List.replicate_succ, List.replicate_zero, List.getElem?_cons_zero, List.getElem?_cons_succ, List.set_cons_zero, List.set_cons_succ, List.append_nil, List.nil_append, List.cons_append, eq_self, true_and, and_true, if_true, Bool.false_eq_true, if_false, Bool.not_true, Bool.not_false, id_eq, sl0, sl1, sl2, sl3, sl4, seqOf, s2 _ _ es]
    intro kp hkp
    have hkp0 := s2.free hkp
    have nkl : kp ≠ lf := (ne_of_none ez hkp).symm
    have hlt : ∀ t ∈ ts, t.1 < t.2 := fun t ht => (wok.t.at t ht).1
    refine while_by (fun σ H1 => ∃ zs qs dn bv, σ = [some (.ref x), some (.ref sa), some (.ref lf), some (.ref kp), bv] ∧ Same H H1 ∧ H1 lf = some (.lst zs) ∧ Prs H1 zs qs ∧ H1 kp = some (.lst ((leanGo ts dn ss).map V.int)) ∧ (dn ++ qs.map (·.1)).Perm ss ∧ dn.Pairwise (fun p q => keyN ps q < keyN ps p) ∧ (∀ m ∈ dn, ∀ q ∈ qs, keyN ps q.1 < keyN ps m) ∧ ∀ q ∈ qs, q ∈ ps) (fun _ H1 => match H1 lf with | some (.lst zs) => zs.length | _ => 0) ?_ ?_ ?_
    · exact ⟨zs, qs0, [], none, rfl, s2.trans (same_new hkp _), by rw [upd_ne nkl.symm]; exact ez, Prs.same (same_new hkp _) pz, upd_same, by rw [List.nil_append, fst], .nil, (fun _ h => by cases h), hsub⟩
    · rintro σ H1 ⟨zs, qs, dn, bv, rfl, s3, ez3, pq, ek, pm, pw, hk, hps⟩
      have hlq : zs.length = qs.length := Paired.length pq
      have ndA : (dn ++ qs.map (·.1)).Nodup := pm.nodup_iff.mpr sin.ok.nodup
      walk_at "RD"
      intro e0 he0
      have s4 := same_new he0 (.lst [])
      have ez4 := s4 _ _ ez3
      have ek4 := s4 _ _ ek
      have pq4 := Prs.same s4 pq
      have s34 := s3.trans s4
      have r0 : Rep (upd H1 e0 (.lst [])) (.lst []) (.ref e0) := by
        rw [Rep]
        exact ⟨e0, [], rfl, upd_same, by rw [Reps]⟩
      generalize upd H1 e0 (.lst []) = H2 at s4 ez4 ek4 pq4 s34 r0
      refine ⟨.lst (qs.map pairD), .lst [], ?_, r0, ?_, .inl ⟨_, _, rfl, rfl⟩, ?_⟩
      · rw [Rep]; exact ⟨lf, zs, rfl, ez4, Prs.reps pq4⟩
      · have := depPs_pairs qs; rw [depP]; omega
      cases qs with
      | nil =>
        have e : eqP (.lst ([].map pairD)) (.lst []) = true := by simp [eqP, eqPs]
        rw [e]
        walk_at "RD"
        refine h kp H2 _ hkp0 s34 ek4 ⟨dn, ?_, pw, rfl⟩
        simpa using pm
      | cons q0 qr =>
        have e : eqP (.lst ((q0 :: qr).map pairD)) (.lst []) = false := by simp [eqP, eqPs]
        rw [e]
        generalize hqs : q0 :: qr = qs at *
        walk_at "RD"
        refine ⟨lf, zs, qs, rfl, ez4, pq4, by rw [← hqs]; simp, fun j b p hj hpj best => ?_⟩
        obtain ⟨p', hp', prb⟩ := paired_left pq4 hj
        rw [hpj] at hp'
        cases hp'
        have hpm : p ∈ qs := List.mem_of_getElem? hpj
        have hpp := hps p hpm
        have hjl := (List.getElem?_eq_some_iff.mp hj).1
        walk_at "RD"
        refine ⟨⟨lf, zs, rfl, ez4⟩, lf, zs, qs.map pairD, b, pairD p, j, rfl, rfl, ez4, Prs.reps pq4, pr_rep prb, Nat.le_trans (depPs_pairs qs) (by decide), ?_, ?_, ?_⟩
        · rw [List.getElem?_map, hpj, Option.map_some, Option.map_some, eqP_refl]
        · intro m c hm hc
          rw [List.getElem?_map] at hc
          obtain ⟨q, hq, rfl⟩ := Option.map_eq_some_iff.mp hc
          rw [eq_pairD]
          refine decide_eq_false fun z => ?_
          have h1 : (qs.map (·.1))[m]? = some q.1 := by rw [List.getElem?_map, hq]; rfl
          have h2 : (qs.map (·.1))[j]? = some p.1 := by rw [List.getElem?_map, hpj]; rfl
          exact nodup_at (List.nodup_append.mp ndA).2.1 h1 h2 (by omega) (by rw [z])
        obtain ⟨tb, rfl, etb⟩ := id prb
        have t5 := tups_lst (ys := zs.eraseIdx j) ez4
        have etb5 := t5 _ _ rfl etb
        have ek5 : upd H2 lf (.lst (zs.eraseIdx j)) kp = some (.lst ((leanGo ts dn ss).map V.int)) := by rw [upd_ne nkl]; exact ek4
        have ez5 : upd H2 lf (.lst (zs.eraseIdx j)) lf = some (.lst (zs.eraseIdx j)) := upd_same
        have s5 : Same H (upd H2 lf (.lst (zs.eraseIdx j))) := same_upd s34 hlf
        have pq5 : Prs (upd H2 lf (.lst (zs.eraseIdx j))) (zs.eraseIdx j) (qs.eraseIdx j) := paired_erase j (Prs.tups t5 pq4)
        generalize upd H2 lf (.lst (zs.eraseIdx j)) = H5 at t5 etb5 ek5 ez5 s5 pq5
        have hper := erase_perm hpj
        have nin : p.1 ∉ dn := fun z => absurd rfl ((List.nodup_append.mp ndA).2.2 p.1 z p.1 (List.mem_map_of_mem hpm))
        have pin : p.1 ∈ ss := pm.mem_iff.mp (List.mem_append_right _ (List.mem_map_of_mem hpm))
        have pm2 : ((dn ++ [p.1]) ++ (qs.eraseIdx j).map (·.1)).Perm ss := by
          rw [List.append_assoc]
          refine List.Perm.trans (List.Perm.append_left dn ?_) pm
          have := hper.map (·.1)
          rwa [List.map_cons] at this
        have pw2 : (dn ++ [p.1]).Pairwise (fun p q => keyN ps q < keyN ps p) := by
          rw [List.pairwise_append]
          refine ⟨pw, List.pairwise_singleton _ _, fun m hm n hn => ?_⟩
          rw [List.mem_singleton.mp hn]
          exact hk m hm p hpm
        have hk2 : ∀ m ∈ dn ++ [p.1], ∀ q ∈ qs.eraseIdx j, keyN ps q.1 < keyN ps m := fun m hm q hq => by
          have hqm : q ∈ qs := hper.mem_iff.mp (.tail _ hq)
          rcases List.mem_append.mp hm with hm | hm
          · exact hk m hm q hqm
          · rw [List.mem_singleton.mp hm, key_of wok hpp, key_of wok (hps q hqm)]
            have b1 := wok.p.nb (by decide) (by decide) p hpp
            have b2 := wok.p.nb (by decide) (by decide) q (hps q hqm)
            have nd3 : ((p :: qs.eraseIdx j).map (·.1)).Nodup := (hper.map (·.1)).nodup_iff.mpr (List.nodup_append.mp ndA).2.1
            rw [List.map_cons, List.nodup_cons] at nd3
            have ne : q.1 ≠ p.1 := fun z => nd3.1 (z ▸ List.mem_map_of_mem hq)
            have := best q hqm
            unfold leP at this
            omega
        have hps2 : ∀ q ∈ qs.eraseIdx j, q ∈ ps := fun q hq => hps q (hper.mem_iff.mp (.tail _ hq))
        have hlen : (zs.eraseIdx j).length < zs.length := by rw [List.length_eraseIdx, if_pos hjl]; omega
        have hmu : (match H1 lf with | some (.lst zs) => zs.length | _ => 0) = zs.length := by rw [ez3]
        try simp only [fInsS, fIsB, tSeq, tNext, tDrop, tRet, tRetN, tIfS, tAsg, gName, fAug, tOp, tUn, tC, fVar, fI, fIC, fNeg, fEq, fNe, fIsN, isNon, fAnd, fOr, fNot, fB, tNot, tAnd, tOr, fChain, fIx, fLen, fListOf, fMin, fMax, fInL, fSlL, tSl, fPart, tNoPart, fAppend, fBM, fSetL, gSub, fGNil, fGCons, fGTup, fGLst, fDGet2, sDPutF, tDNewK, fCat, fClear, fBM0, fSlT, fInt1, tCBK, fDIn, fDGet, fIsi, fBools, fDictL, fLtT, tCall, tCB, tCons, tNil, tTup, tLst, tIf, tTrue, Kd.nm, L2.start, List.map_cons, List.map_nil, List.length_cons, List.length_nil, Nat.reduceAdd, Nat.reduceSub, List.replicate_succ, List.replicate_zero, List.getElem?_cons_zero, List.getElem?_cons_succ, List.set_cons_zero, List.set_cons_succ, List.append_nil, List.nil_append, List.cons_append, eq_self, true_and, and_true, if_true, Bool.false_eq_true, if_false, Bool.not_true, Bool.not_false, id_eq, sl0, sl1, sl2, sl3, sl4, seqOf, etb5, at0]
        refine ⟨_, p.1, _, ps, ts, leanGo ts dn ss, rfl, hw.same s5, ⟨kp, rfl, ek5⟩, hlt, ?_⟩
        have hstep : leanGo ts (dn ++ [p.1]) ss = if ((nearL ts p.1).all fun m => decide (m ∈ leanGo ts dn ss)) = true then (leanGo ts dn ss).filter (fun m => !decide (m = p.1)) else leanGo ts dn ss := by
          rw [leanGo_append, leanGo]
          split <;> rfl
        cases c : (nearL ts p.1).all fun m => decide (m ∈ leanGo ts dn ss) with
        | true =>
          rw [c, if_pos rfl] at hstep
          have hin : p.1 ∈ leanGo ts dn ss := leanGo_keeps pin nin
          have ndk : (leanGo ts dn ss).Nodup := leanGo_sub.nodup sin.ok.nodup
          obtain ⟨j2, hj2⟩ := List.mem_iff_getElem?.mp hin
          try simp only [fInsS, fIsB, tSeq, tNext, tDrop, tRet, tRetN, tIfS, tAsg, gName, fAug, tOp, tUn, tC, fVar, fI, fIC, fNeg, fEq, fNe, fIsN, isNon, fAnd, fOr, fNot, fB, tNot, tAnd, tOr, fChain, fIx, fLen, fListOf, fMin, fMax, fInL, fSlL, tSl, fPart, tNoPart, fAppend, fBM, fSetL, gSub, fGNil, fGCons, fGTup, fGLst, fDGet2, sDPutF, tDNewK, fCat, fClear, fBM0, fSlT, fInt1, tCBK, fDIn, fDGet, fIsi, fBools, fDictL, fLtT, tCall, tCB, tCons, tNil, tTup, tLst, tIf, tTrue, Kd.nm, L2.start, List.map_cons, List.map_nil, List.length_cons, List.length_nil, Nat.reduceAdd, Nat.reduceSub, List.replicate_succ, List.replicate_zero, List.getElem?_cons_zero, List.getElem?_cons_succ, List.set_cons_zero, List.set_cons_succ, List.append_nil, List.nil_append, List.cons_append, eq_self, true_and, and_true, if_true, Bool.false_eq_true, if_false, Bool.not_true, Bool.not_false, id_eq, sl0, sl1, sl2, sl3, sl4, seqOf, etb5, at0]
          refine ⟨⟨kp, _, rfl, ek5⟩, kp, _, (leanGo ts dn ss).map Dt.int, .int p.1, .int p.1, j2, rfl, rfl, ek5, ints_reps _, by rw [Rep], Nat.le_trans (depPs_ints _) (by decide), ?_, ?_, ?_⟩
          · rw [List.getElem?_map, hj2, Option.map_some, Option.map_some, eq_intD, decide_eq_true rfl]
          · intro m c hm hc
            rw [List.getElem?_map] at hc
            obtain ⟨q, hq, rfl⟩ := Option.map_eq_some_iff.mp hc
            rw [eq_intD]
            exact decide_eq_false fun z => nodup_at ndk hq hj2 (by omega) z
          · have t6 := tups_lst (ys := ((leanGo ts dn ss).map V.int).eraseIdx j2) ek5
            refine ⟨⟨zs.eraseIdx j, qs.eraseIdx j, dn ++ [p.1], _, rfl, same_upd s5 hkp0, by rw [upd_ne nkl.symm]; exact ez5, Prs.tups t6 pq5, ?_, pm2, pw2, hk2, hps2⟩, ?_⟩
            · rw [upd_same, hstep, map_erase, erase_filter ndk hj2]
            · rw [hmu, upd_ne nkl.symm, ez5]
              exact hlen
        | false =>
          rw [c, if_neg (by decide)] at hstep
          walk_at "RD"
          refine ⟨⟨zs.eraseIdx j, qs.eraseIdx j, dn ++ [p.1], _, rfl, s5, ez5, pq5, ?_, pm2, pw2, hk2, hps2⟩, ?_⟩
          · rw [hstep]; exact ek5
          · rw [hmu, ez5]
            exact hlen
    · intro σ H1 Q1 Q2 hq hh
      unfold fB tOp fVar at hh ⊢
      cases e : σ[2]? with
      | none => rw [e] at hh; exact hh.elim
      | some o =>
        rw [e] at hh
        cases o with
        | none => exact hh.elim
        | some v => exact ⟨hh.1, fun p hp => by obtain ⟨d, e, a, b, c, k, q⟩ := hh.2 p hp; exact ⟨d, e, a, b, c, k, hq _ _ q⟩⟩
end
end My

set_option Elab.async false
set_option linter.all false
set_option maxRecDepth 100000
set_option maxHeartbeats 8000000
namespace My
open PySem L2
section
variable {P : Program} {w : World} {K : PySem.W.Frag} {mg : Str → Option Value} {base : Heap} {c1 c2 c3 c4 : Tok}
def webD (ps ts : List (Int × Int)) : Dt := .tup [.lst (ps.map pairD), .lst (ts.map pairD)]
theorem WebAt.rep {H : Hp} {v : V} {ps ts : List (Int × Int)} (h : WebAt H v ps ts) : Rep H (webD ps ts) v := by
  obtain ⟨u, pa, ta, xs, ys, e, h1, h2, h3, h4, h5⟩ := h
  rw [webD, Rep]
  refine ⟨u, _, e, h1, ?_⟩
  rw [Reps]
  refine ⟨_, _, rfl, ?_, ?_⟩
  · rw [Rep]
    exact ⟨pa, xs, rfl, h2, Prs.reps h4⟩
  · rw [Reps]
    refine ⟨_, _, rfl, ?_, (by rw [Reps])⟩
    rw [Rep]
    exact ⟨ta, ys, rfl, h3, Prs.reps h5⟩
theorem deps_pairs : ∀ (ps : List (Int × Int)), deps (ps.map pairD) ≤ 2 ∧ wids (ps.map pairD) ≤ 2
  | [] => by rw [List.map_nil, deps, wids]; omega
  | p :: r => by
    have h := deps_pairs r
    have e1 : dep (pairD p) = 2 := by simp [pairD, dep, deps]
    have e2 : wid (pairD p) = 2 := by simp [pairD, wid, wids]
    rw [List.map_cons, deps, wids, e1, e2]
    omega
theorem deps_ints : ∀ (ns : List Int), deps (ns.map Dt.int) ≤ 1 ∧ wids (ns.map Dt.int) = 0
  | [] => by rw [List.map_nil, deps, wids]; omega
  | n :: r => by
    have h := deps_ints r
    rw [List.map_cons, deps, wids]
    have e1 : dep (Dt.int n) = 1 := by simp [dep]
    have e2 : wid (Dt.int n) = 0 := by simp [wid]
    rw [e1, e2]
    omega
theorem dep_web (ps ts : List (Int × Int)) : dep (webD ps ts) ≤ 4 := by
  have h1 := (deps_pairs ps).1
  have h2 := (deps_pairs ts).1
  simp only [webD, dep, deps]
  omega
theorem wid_web {ps ts : List (Int × Int)} (h1 : ps.length ≤ 40) (h2 : ts.length ≤ 120) : wid (webD ps ts) ≤ 1000 := by
  have h3 := (deps_pairs ps).2
  have h4 := (deps_pairs ts).2
  simp only [webD, wid, wids, List.length_map, List.length_cons, List.length_nil]
  omega
def numD (ns : List Int) : Dt := .lst (ns.map Dt.int)
theorem num_rep {H : Hp} {l : Addr} {ns : List Int} (h : H l = some (.lst (ns.map V.int))) : Rep H (numD ns) (.ref l) := by
  rw [numD, Rep]
  exact ⟨l, _, rfl, h, ints_reps ns⟩
theorem dep_num (ns : List Int) : dep (numD ns) ≤ 2 := by
  have h := (deps_ints ns).1
  simp only [numD, dep]
  omega
theorem wid_num {ns : List Int} (h : ns.length ≤ 1000) : wid (numD ns) ≤ 1000 := by
  have h2 := (deps_ints ns).2
  simp only [numD, wid, List.length_map]
  omega
def prsD (ts : List (Int × Int)) : Dt := .lst (ts.map pairD)
theorem prs_rep {H : Hp} {l : Addr} {zs : List V} {ts : List (Int × Int)} (h : H l = some (.lst zs)) (p : Prs H zs ts) : Rep H (prsD ts) (.ref l) := by
  rw [prsD, Rep]
  exact ⟨l, zs, rfl, h, Prs.reps p⟩
theorem dep_prs (ts : List (Int × Int)) : dep (prsD ts) ≤ 3 := by
  have h := (deps_pairs ts).1
  simp only [prsD, dep]
  omega
theorem wid_prs {ts : List (Int × Int)} (h : ts.length ≤ 1000) : wid (prsD ts) ≤ 1000 := by
  have h2 := (deps_pairs ts).2
  simp only [prsD, wid, List.length_map]
  omega

/-- all but tables -/
def SmX (H H' : Hp) : Prop := ∀ b o, (∀ ps, o ≠ .tbl ps) → H b = some o → H' b = some o
theorem smxS {H H' : Hp} (s : Same H H') : SmX H H' := fun b o _ q => s b o q
theorem SmX.trans {H H1 H2 : Hp} (a : SmX H H1) (b : SmX H1 H2) : SmX H H2 := fun c o n q => b c o n (a c o n q)
theorem SmX.tups {H H' : Hp} (s : SmX H H') : TupS H H' := fun b o i q => s b o (fun ps z => by rw [z] at i; cases i) q
theorem smx_of {T : Addr} {H H' : Hp} (b : ButT T H H') (t : Tab H T) : SmX H H' := fun c o n q => b c o (fun z => by
  obtain ⟨ps, e, _⟩ := t
  rw [z, e] at q
  exact n ps (Option.some.inj q).symm) q
theorem SmX.lst {H H' : Hp} (s : SmX H H') {a : Addr} {xs : List V} (h : H a = some (.lst xs)) : H' a = some (.lst xs) := s _ _ (fun _ z => by cases z) h
theorem WebAt.smx {H H' : Hp} {v : V} {ps ts : List (Int × Int)} (h : WebAt H v ps ts) (s : SmX H H') : WebAt H' v ps ts := by
  obtain ⟨u, pa, ta, xs, ys, e, h1, h2, h3, h4, h5⟩ := h
  exact ⟨u, pa, ta, xs, ys, e, s _ _ (fun _ z => by cases z) h1, s.lst h2, s.lst h3, Prs.tups s.tups h4, Prs.tups s.tups h5⟩
theorem smx_upd {H H' : Hp} {p : Addr} {o : HO} (s : SmX H H') (h : H p = none) : SmX H (upd H' p o) := fun b u n q => by rw [upd_ne (ne_of_none q h)]; exact s b u n q
theorem tab_upd {H : Hp} {T a : Addr} {xs ys : List V} (t : Tab H T) (h : H a = some (.lst xs)) : Tab (upd H a (.lst ys)) T := by
  obtain ⟨ps, e, tr, c⟩ := t
  refine ⟨ps, by rw [upd_ne (ne_of e h (by intro z; cases z))]; exact e, tr, ?_⟩
  rcases c with c | ⟨c', c1, c2⟩
  · exact .inl c
  · exact .inr ⟨c', c1, by rw [upd_ne (ne_of c2 h (by intro z; cases z))]; exact c2⟩
theorem tab_but {H H' : Hp} {T st : Addr} {o : HO} (t : Tab H T) (h : H st = some o) (so : StO o) (b : But st H H') : Tab H' T := by
  obtain ⟨c0, s0, f0, rfl, _⟩ := so
  obtain ⟨ps, e, tr, c⟩ := t
  refine ⟨ps, b _ _ (ne_of e h (by intro z; cases z)) e, tr, ?_⟩
  rcases c with c | ⟨c', c1, c2⟩
  · exact .inl c
  · exact .inr ⟨c', c1, b _ _ (ne_of c2 h (by intro z; cases z)) c2⟩
def spLaw (K : PySem.W.Frag) (T : Addr) : Sp := fun vs H Q _ => ∃ a ns, vs = [.ref a] ∧ Scr K H a ns ∧ Tab H T ∧ ∀ H', Q (.bl true) H'
local macro_rules | `(tactic| walk_at "RD") => `(tactic| try simp only [fInsS, fIsB, tSeq, tNext, tDrop, tRet, tRetN, tIfS, tAsg, gName, fAug, tOp, tUn, tC, fVar, fI, fIC, fNeg, fEq, fNe, fIsN, isNon, fAnd, fOr, fNot, fB, tNot, tAnd, tOr, fChain, fIx, fLen, fListOf, fMin, fMax, fInL, fSlL, tSl, fPart, tNoPart, fAppend, fBM, fSetL, gSub, fGNil, fGCons, fGTup, fGLst, fDGet2, sDPutF, tDNewK, fCat, fClear, fBM0, fSlT, fInt1, tCBK, fDIn, fDGet, fIsi, fBools, fDictL, fLtT, tCall, tCB, tCons, tNil, tTup, tLst, tIf, tTrue, Kd.nm, L2.start, List.map_cons, List.map_nil, List.length_cons, List.length_nil, Nat.reduceAdd, Nat.reduceSub, List.replicate_succ, List.replicate_zero, List.getElem?_cons_zero, List.getElem?_cons_succ, List.set_cons_zero, List.set_cons_succ, List.append_nil, List.nil_append, List.cons_append, eq_self, true_and, and_true, if_true, Bool.false_eq_true, if_false, Bool.not_true, Bool.not_false, id_eq, sl0, sl1, sl2, sl3, sl4])
theorem ok_law {tT : Addr} {f : Addr} {fd : FuncData} {f_law_begun : Addr} {d_law_begun : FuncData} {f_law_take : Addr} {d_law_take : FuncData} {f_law_web : Addr} {d_law_web : FuncData} {f_law_some : Addr} {d_law_some : FuncData} {f_law_lean : Addr} {d_law_lean : FuncData} {f_law_copy : Addr} {d_law_copy : FuncData} {f_lean : Addr} {d_lean : FuncData} {f_left_by : Addr} {d_left_by : FuncData} {f_law_same : Addr} {d_law_same : FuncData} {f_needless : Addr} {d_needless : FuncData} (B : Blt mg) (D : DefAt K mg "law" (top 40) ["_law_script"] f fd) (D_law_begun : DefAt K mg "_law_begun" (top 30) ["_law_script", "_law_k"] f_law_begun d_law_begun) (G_law_begun : FnOk P w K mg base CX0 1 f_law_begun d_law_begun ["_law_script", "_law_k"] (spBegun K)) (D_law_take : DefAt K mg "_law_take" (top 31) ["_law_state", "_law_many"] f_law_take d_law_take) (G_law_take : FnOk P w K mg base CX0 1 f_law_take d_law_take ["_law_state", "_law_many"] spTake) (D_law_web : DefAt K mg "_law_web" (top 33) ["_law_state", "_law_most"] f_law_web d_law_web) (G_law_web : FnOk P w K mg base CX0 3 f_law_web d_law_web ["_law_state", "_law_most"] spWebD) (D_law_some : DefAt K mg "_law_some" (top 36) ["_law_state", "_law_web_here"] f_law_some d_law_some) (G_law_some : FnOk P w K mg base CX0 2 f_law_some d_law_some ["_law_state", "_law_web_here"] spSome) (D_law_lean : DefAt K mg "_law_lean" (top 39) ["_law_web_here", "_law_some_here"] f_law_lean d_law_lean) (G_law_lean : FnOk P w K mg base CX0 2 f_law_lean d_law_lean ["_law_web_here", "_law_some_here"] spLLean) (D_law_copy : DefAt K mg "_law_copy" (top 35) ["_law_web_here"] f_law_copy d_law_copy) (G_law_copy : FnOk P w K mg base CX0 1 f_law_copy d_law_copy ["_law_web_here"] spCopy) (D_lean : DefAt K mg "lean" (top 28) ["web", "some"] f_lean d_lean) (G_lean : FnOk P w K mg base CX0 9 f_lean d_lean ["web", "some"] (spLean tT)) (D_left_by : DefAt K mg "left_by" (top 26) ["web", "some"] f_left_by d_left_by) (G_left_by : FnOk P w K mg base CX0 8 f_left_by d_left_by ["web", "some"] spLeftBy) (D_law_same : DefAt K mg "_law_same" (top 34) ["_law_found", "_law_due"] f_law_same d_law_same) (G_law_same : FnOk P w K mg base CX0 6 f_law_same d_law_same ["_law_found", "_law_due"] (spSame 6)) (D_needless : DefAt K mg "needless" (top 27) ["web", "some"] f_needless d_needless) (G_needless : FnOk P w K mg base CX0 8 f_needless d_needless ["web", "some"] spNeedless) : FnOk P w K mg base CX0 10 f fd ["_law_script"] (spLaw K tT) := by
  have sc : FnScope ["_law_script", "_law_at", "_law_state", "_law_most", "_law_web_here", "_law_some_here", "_law_due", "_law_handed", "_law_told"] ["_law_script"] (defScope (top 40)) := ⟨rfl, rfl, rfl, by decide +kernel, rfl, by decide +kernel, by decide +kernel⟩
  refine D.F.ok sc (fun vs H Q E h => ?_) (fun cdv A outer s H vs Q E hr h => ?_)
  · obtain ⟨a, ns, rfl, _⟩ := h
    rfl
  obtain ⟨a, ns, rfl, hs, tab, h⟩ := h
  have hu := hu_of hr
  have hu0 : _ < PySem.cLine := Nat.lt_of_succ_lt hu
  refine ⟨_, (pss_cons (ps_for PassesOwn.never rfl (pi_range1 rfl B.range (pa_cons (pe_callB (q_max rfl) rfl B.max PyProof.Rows.boot_max (pa_cons pe_int (pa_cons (pe_callB (q_min rfl) rfl B.min PyProof.Rows.boot_min (pa_cons (pe_callB call_len_seq rfl B.len PySem.boot_len (pa_cons (qv 0) pa_nil)) (pa_cons pe_int pa_nil))) pa_nil))) pa_nil)) (pg_name (i := 1) sc.nd rfl (Or.inl rfl)) (pss_cons (ps_set (i := 2) sc.nd rfl (Or.inl rfl) (pe_call G_law_begun (hr.mono (by decide)) rfl D_law_begun.m D_law_begun.F.kp D_law_begun.b .nil pass0 (pa_cons (qv 0) (pa_cons (qv 1) pa_nil)))) (pss_cons (ps_set (i := 3) sc.nd rfl (Or.inl rfl) pe_int) (pss_cons (ps_if (PW.pt (pw_and (qt_cmp q_eq (qv 1) pe_int (nomark _)) (pw_and1 (qt_cmp q_eq (pe_call G_law_take (hr.mono (by decide)) rfl D_law_take.m D_law_take.F.kp D_law_take.b .nil pass0 (pa_cons (qv 2) (pa_cons pe_int pa_nil))) pe_int (nomark _))))) (pss_one (ps_set (i := 3) sc.nd rfl (Or.inl rfl) pe_int)) pss_nil) (pss_cons (ps_set (i := 4) sc.nd rfl (Or.inl rfl) (pe_call G_law_web (hr.mono (by decide)) rfl D_law_web.m D_law_web.F.kp D_law_web.b .nil pass0 (pa_cons (qv 2) (pa_cons (qv 3) pa_nil)))) (pss_cons (ps_set (i := 5) sc.nd rfl (Or.inl rfl) (pe_call G_law_some (hr.mono (by decide)) rfl D_law_some.m D_law_some.F.kp D_law_some.b .nil pass0 (pa_cons (qv 2) (pa_cons (qv 4) pa_nil)))) (pss_cons (ps_set (i := 6) sc.nd rfl (Or.inl rfl) (pe_call G_law_lean (hr.mono (by decide)) rfl D_law_lean.m D_law_lean.F.kp D_law_lean.b .nil pass0 (pa_cons (qv 4) (pa_cons (qv 5) pa_nil)))) (pss_cons (ps_set (i := 7) sc.nd rfl (Or.inl rfl) (pe_lst (pa_cons (pe_call G_law_copy (hr.mono (by decide)) rfl D_law_copy.m D_law_copy.F.kp D_law_copy.b .nil pass0 (pa_cons (qv 4) pa_nil)) (pa_cons (pe_callTy q_listOf rfl B.list PyProof.Rows.boot_list (pa_cons (qv 5) pa_nil)) pa_nil)))) (pss_cons (ps_set (i := 8) sc.nd rfl (Or.inl rfl) (pe_call G_lean (hr.mono (by decide)) rfl D_lean.m D_lean.F.kp D_lean.b .nil pass0 (pa_cons (pe_ix q_ix (qv 7) pe_int (fun _ _ => rfl)) (pa_cons (pe_ix q_ix (qv 7) pe_int (fun _ _ => rfl)) pa_nil)))) (pss_cons (ps_if (PW.pt (pw_or (pt_not (qt_val (pe_call G_law_same (hr.mono (by decide)) rfl D_law_same.m D_law_same.F.kp D_law_same.b .nil pass0 (pa_cons (qv 8) (pa_cons (qv 6) pa_nil))))) (pw_or1 (pt_not (qt_val (pe_call G_law_same (hr.mono (by decide)) rfl D_law_same.m D_law_same.F.kp D_law_same.b .nil pass0 (pa_cons (pe_call G_left_by (hr.mono (by decide)) rfl D_left_by.m D_left_by.F.kp D_left_by.b .nil pass0 (pa_cons (pe_ix q_ix (qv 7) pe_int (fun _ _ => rfl)) (pa_cons (qv 8) pa_nil))) (pa_cons (pe_call G_left_by (hr.mono (by decide)) rfl D_left_by.m D_left_by.F.kp D_left_by.b .nil pass0 (pa_cons (qv 4) (pa_cons (qv 5) pa_nil))) pa_nil)))))))) (pss_one (ps_ret pe_bl)) pss_nil) (pss_cons (ps_if (pt_not (qt_val (pe_call G_law_same (hr.mono (by decide)) rfl D_law_same.m D_law_same.F.kp D_law_same.b .nil pass0 (pa_cons (pe_call G_needless (hr.mono (by decide)) rfl D_needless.m D_needless.F.kp D_needless.b .nil pass0 (pa_cons (pe_ix q_ix (qv 7) pe_int (fun _ _ => rfl)) (pa_cons (qv 8) pa_nil))) (pa_cons (pe_lst pa_nil) pa_nil))))) (pss_one (ps_ret pe_bl)) pss_nil) (pss_cons (ps_if (pt_not (qt_val (pe_call G_law_same (hr.mono (by decide)) rfl D_law_same.m D_law_same.F.kp D_law_same.b .nil pass0 (pa_cons (pe_call G_lean (hr.mono (by decide)) rfl D_lean.m D_lean.F.kp D_lean.b .nil pass0 (pa_cons (pe_ix q_ix (qv 7) pe_int (fun _ _ => rfl)) (pa_cons (pe_callTy q_listOf rfl B.list PyProof.Rows.boot_list (pa_cons (qv 8) pa_nil)) pa_nil))) (pa_cons (qv 6) pa_nil))))) (pss_one (ps_ret pe_bl)) pss_nil) (pss_cons (ps_expr (q_bm PySem.F.plainAttrs_list PySem.F.slot_list_append PySem.F.type_list_append q_append (qv 8) (pa_cons pe_int pa_nil))) (pss_one (ps_if (PW.pt (pw_or (pt_not (qt_val (pe_call G_law_same (hr.mono (by decide)) rfl D_law_same.m D_law_same.F.kp D_law_same.b .nil pass0 (pa_cons (pe_call G_lean (hr.mono (by decide)) rfl D_lean.m D_lean.F.kp D_lean.b .nil pass0 (pa_cons (pe_ix q_ix (qv 7) pe_int (fun _ _ => rfl)) (pa_cons (pe_ix q_ix (qv 7) pe_int (fun _ _ => rfl)) pa_nil))) (pa_cons (qv 6) pa_nil))))) (pw_or1 (pt_not (qt_val (pe_call G_law_same (hr.mono (by decide)) rfl D_law_same.m D_law_same.F.kp D_law_same.b .nil pass0 (pa_cons (qv 7) (pa_cons (pe_lst (pa_cons (qv 4) (pa_cons (qv 5) pa_nil))) pa_nil)))))))) (pss_one (ps_ret pe_bl)) pss_nil))))))))))))))) (pss_one (ps_ret pe_bl))), ?_⟩
  walk_at "RD"
  refine tFor_hide (Itr 0 (if (1 : Int) < (if (12 : Int) < (ns.length : Int) then 12 else (ns.length : Int)) then (if (12 : Int) < (ns.length : Int) then 12 else (ns.length : Int)) else 1).toNat) H (fun R hR => ?_) (for_range (n := (if (1 : Int) < (if (12 : Int) < (ns.length : Int) then 12 else (ns.length : Int)) then (if (12 : Int) < (ns.length : Int) then 12 else (ns.length : Int)) else 1).toNat) (fun i σ H1 => ∃ v1 v2 v3 v4 v5 v6 v7 v8, σ = [some (.ref a), v1, v2, v3, v4, v5, v6, v7, v8] ∧ Scr K H1 a ns ∧ Tab H1 tT) ⟨none, none, none, none, none, none, none, none, rfl, hs, tab⟩ ?_ ?_)
  · unfold iRng1
    walk_at "RD"
    refine ⟨a, _, rfl, .inl hs.sq, ?_⟩
    try simp only [fInsS, fIsB, tSeq, tNext, tDrop, tRet, tRetN, tIfS, tAsg, gName, fAug, tOp, tUn, tC, fVar, fI, fIC, fNeg, fEq, fNe, fIsN, isNon, fAnd, fOr, fNot, fB, tNot, tAnd, tOr, fChain, fIx, fLen, fListOf, fMin, fMax, fInL, fSlL, tSl, fPart, tNoPart, fAppend, fBM, fSetL, gSub, fGNil, fGCons, fGTup, fGLst, fDGet2, sDPutF, tDNewK, fCat, fClear, fBM0, fSlT, fInt1, tCBK, fDIn, fDGet, fIsi, fBools, fDictL, fLtT, tCall, tCB, tCons, tNil, tTup, tLst, tIf, tTrue, Kd.nm, L2.start, List.map_cons, List.map_nil, List.length_cons, List.length_nil, Nat.reduceAdd, Nat.reduceSub, List.replicate_succ, List.replicate_zero, List.getElem?_cons_zero, List.getElem?_cons_succ, List.set_cons_zero, List.set_cons_succ, List.append_nil, List.nil_append, List.cons_append, eq_self, true_and, and_true, if_true, Bool.false_eq_true, if_false, Bool.not_true, Bool.not_false, id_eq, sl0, sl1, sl2, sl3, sl4, List.length_map]
    refine ⟨_, rfl, ?_, ?_, hR⟩
    · split <;> split <;> omega
    · split <;> split <;> omega
  · rintro i σ H1 hi ⟨v1, v2, v3, v4, v5, v6, v7, v8, rfl, hs1, tab1⟩
    have hi2 : i < 1000 := by split at hi <;> split at hi <;> omega
    walk_at "RD"
    refine ⟨a, 0 + (i : Int), ns, rfl, hs1, by omega, by omega, fun st o hst so => ?_⟩
    walk_at "RD"
    have hsO : Scr K (upd H1 st o) a ns := hs1.tups (tups_new hst)
    have tabO : Tab (upd H1 st o) tT := tabSame tab1 (same_new hst o)
    refine ite2 (fun c => ?g1) (fun c => ?g2)
    case' g1 =>
      refine ⟨st, o, 4, rfl, upd_same, so, by decide, by decide, fun d o1 d0 d1 so1 => ?_⟩
      try simp only [fInsS, fIsB, tSeq, tNext, tDrop, tRet, tRetN, tIfS, tAsg, gName, fAug, tOp, tUn, tC, fVar, fI, fIC, fNeg, fEq, fNe, fIsN, isNon, fAnd, fOr, fNot, fB, tNot, tAnd, tOr, fChain, fIx, fLen, fListOf, fMin, fMax, fInL, fSlL, tSl, fPart, tNoPart, fAppend, fBM, fSetL, gSub, fGNil, fGCons, fGTup, fGLst, fDGet2, sDPutF, tDNewK, fCat, fClear, fBM0, fSlT, fInt1, tCBK, fDIn, fDGet, fIsi, fBools, fDictL, fLtT, tCall, tCB, tCons, tNil, tTup, tLst, tIf, tTrue, Kd.nm, L2.start, List.map_cons, List.map_nil, List.length_cons, List.length_nil, Nat.reduceAdd, Nat.reduceSub, List.replicate_succ, List.replicate_zero, List.getElem?_cons_zero, List.getElem?_cons_succ, List.set_cons_zero, List.set_cons_succ, List.append_nil, List.nil_append, List.cons_append, eq_self, true_and, and_true, if_true, Bool.false_eq_true, if_false, Bool.not_true, Bool.not_false, id_eq, sl0, sl1, sl2, sl3, sl4, upd_upd]
      have hsO1 : Scr K (upd H1 st o1) a ns := hs1.tups (tups_new hst)
      have tabO1 : Tab (upd H1 st o1) tT := tabSame tab1 (same_new hst o1)
      refine ite2 (fun c2 => ?g3) (fun c2 => ?g4)
    case' g3 =>
      walk_at "RD"
      refine ⟨st, o1, 15, rfl, upd_same, so1, by decide, by decide, fun wv HB oB ps ts bB eB soB wB wok dr => ?_⟩
      have hsB : Scr K HB a ns := hsO1.tups (bB.tups upd_same so1.imm)
      have tabB : Tab HB tT := tab_but tabO1 upd_same so1 bB
      clear so1 hsO1 tabO1 d0 d1 c2 dr
    case' g4 =>
      walk_at "RD"
      refine ⟨st, o1, 9, rfl, upd_same, so1, by decide, by decide, fun wv HB oB ps ts bB eB soB wB wok dr => ?_⟩
      have hsB : Scr K HB a ns := hsO1.tups (bB.tups upd_same so1.imm)
      have tabB : Tab HB tT := tab_but tabO1 upd_same so1 bB
      clear so1 hsO1 tabO1 d0 d1 c2 dr
    case' g2 =>
      walk_at "RD"
      refine ⟨st, o, 9, rfl, upd_same, so, by decide, by decide, fun wv HB oB ps ts bB eB soB wB wok dr => ?_⟩
      have hsB : Scr K HB a ns := hsO.tups (bB.tups upd_same so.imm)
      have tabB : Tab HB tT := tab_but tabO upd_same so bB
      clear dr
    all_goals
      clear bB so hs1 hsO hst c tabO tab1
      walk_at "RD"
      refine ⟨st, oB, wv, ps, ts, rfl, eB, soB, wB, wok, fun sl HC oC ss hsl bC eC soC esl sin => ?_⟩
      have hs2 : Scr K HC a ns := hsB.tups (bC.tups eB soB.imm)
      have wC := wB.but eB soB bC
      have tabC : Tab HC tT := tab_but tabB eB soB bC
      clear wB eB soB bC eC soC hsl hsB tabB
      have okq := sin.len
      have okt := wok.tl
      have okl := wok.pl
      have hlt : ∀ t ∈ ts, t.1 < t.2 := fun t ht => (wok.t.at t ht).1
      walk_at "RD"
      refine ⟨wv, .ref sl, ps, ts, ss, rfl, wC, wok, ⟨sl, rfl, esl⟩, sin, fun dl HD due hdl sD edl isl => ?_⟩
      have wD := wC.same sD
      have esD := sD _ _ esl
      have hsD := hs2.tups sD.tups
      have tabD := tabSame tabC sD
      clear wC esl hs2 tabC
      have dsub := isl.sub
      have dlen := dsub.length_le
      have dsin := sin.sub dsub
      walk_at "RD"
      refine ⟨wv, ps, ts, rfl, wD, fun hv HF sF wF => ?_⟩
      try simp only [fInsS, fIsB, tSeq, tNext, tDrop, tRet, tRetN, tIfS, tAsg, gName, fAug, tOp, tUn, tC, fVar, fI, fIC, fNeg, fEq, fNe, fIsN, isNon, fAnd, fOr, fNot, fB, tNot, tAnd, tOr, fChain, fIx, fLen, fListOf, fMin, fMax, fInL, fSlL, tSl, fPart, tNoPart, fAppend, fBM, fSetL, gSub, fGNil, fGCons, fGTup, fGLst, fDGet2, sDPutF, tDNewK, fCat, fClear, fBM0, fSlT, fInt1, tCBK, fDIn, fDGet, fIsi, fBools, fDictL, fLtT, tCall, tCB, tCons, tNil, tTup, tLst, tIf, tTrue, Kd.nm, L2.start, List.map_cons, List.map_nil, List.length_cons, List.length_nil, Nat.reduceAdd, Nat.reduceSub, List.replicate_succ, List.replicate_zero, List.getElem?_cons_zero, List.getElem?_cons_succ, List.set_cons_zero, List.set_cons_succ, List.append_nil, List.nil_append, List.cons_append, eq_self, true_and, and_true, if_true, Bool.false_eq_true, if_false, Bool.not_true, Bool.not_false, id_eq, sl0, sl1, sl2, sl3, sl4, seqOf, sF _ _ esD]
      intro s2 hs20
      have sG := same_new hs20 (.lst (ss.map V.int))
      intro hd hhd
      have sH := same_new hhd (.lst [hv, .ref s2])
      have eH : upd (upd HF s2 (.lst (ss.map V.int))) hd (.lst [hv, .ref s2]) hd = some (.lst [hv, .ref s2]) := upd_same
      have e2H := sH _ _ (show upd HF s2 (.lst (ss.map V.int)) s2 = some (.lst (ss.map V.int)) from upd_same)
      have wH := wF.same (sG.trans sH)
      have sFH := sF.trans (sG.trans sH)
      have wH0 := wD.same sFH
      have esH := sFH _ _ esD
      have edH := sFH _ _ edl
      have hsH := hsD.tups sFH.tups
      have tabH := tabSame tabD sFH
      generalize upd (upd HF s2 (.lst (ss.map V.int))) hd (.lst [hv, .ref s2]) = HH at sH eH e2H wH wH0 esH edH hsH tabH sFH
      clear sG sH sF wF wD edl hsD tabD hhd hs20 sFH esD sD hdl
      have P1 : dep (prsD (leftT ss ts)) ≤ 6 := Nat.le_trans (dep_prs _) (by decide)
      have P2 : wid (prsD (leftT ss ts)) ≤ 1000 := wid_prs (Nat.le_trans (List.length_filter_le _ _) (by omega))
      have N1 : dep (numD due) ≤ 6 := Nat.le_trans (dep_num due) (by decide)
      have N2 : wid (numD due) ≤ 1000 := wid_num (by omega)
      have hleft := isl.left hlt
      have hneed := isl.need
      try simp only [fInsS, fIsB, tSeq, tNext, tDrop, tRet, tRetN, tIfS, tAsg, gName, fAug, tOp, tUn, tC, fVar, fI, fIC, fNeg, fEq, fNe, fIsN, isNon, fAnd, fOr, fNot, fB, tNot, tAnd, tOr, fChain, fIx, fLen, fListOf, fMin, fMax, fInL, fSlL, tSl, fPart, tNoPart, fAppend, fBM, fSetL, gSub, fGNil, fGCons, fGTup, fGLst, fDGet2, sDPutF, tDNewK, fCat, fClear, fBM0, fSlT, fInt1, tCBK, fDIn, fDGet, fIsi, fBools, fDictL, fLtT, tCall, tCB, tCons, tNil, tTup, tLst, tIf, tTrue, Kd.nm, L2.start, List.map_cons, List.map_nil, List.length_cons, List.length_nil, Nat.reduceAdd, Nat.reduceSub, List.replicate_succ, List.replicate_zero, List.getElem?_cons_zero, List.getElem?_cons_succ, List.set_cons_zero, List.set_cons_succ, List.append_nil, List.nil_append, List.cons_append, eq_self, true_and, and_true, if_true, Bool.false_eq_true, if_false, Bool.not_true, Bool.not_false, id_eq, sl0, sl1, sl2, sl3, sl4, seqOf, eH, at0, at1]
      refine ⟨hv, .ref s2, ps, ts, ss, rfl, wH, wok, ⟨s2, rfl, e2H⟩, sin, tabH, fun tl HI out htl bI tabI etl isl2 => ?_⟩
      obtain rfl := isl2.unique isl
      have xI := smx_of bI tabH
      clear bI isl2
      walk_at "RD"
      refine ⟨_, _, numD out, rfl, num_rep etl, num_rep (xI.lst edH), N1, N2, fun HJ sJ => ?_⟩
      have xJ := xI.trans (smxS sJ)
      have etJ := sJ _ _ etl
      have tabJ := tabSame tabI sJ
      clear xI tabI etl sJ
      try simp only [fInsS, fIsB, tSeq, tNext, tDrop, tRet, tRetN, tIfS, tAsg, gName, fAug, tOp, tUn, tC, fVar, fI, fIC, fNeg, fEq, fNe, fIsN, isNon, fAnd, fOr, fNot, fB, tNot, tAnd, tOr, fChain, fIx, fLen, fListOf, fMin, fMax, fInL, fSlL, tSl, fPart, tNoPart, fAppend, fBM, fSetL, gSub, fGNil, fGCons, fGTup, fGLst, fDGet2, sDPutF, tDNewK, fCat, fClear, fBM0, fSlT, fInt1, tCBK, fDIn, fDGet, fIsi, fBools, fDictL, fLtT, tCall, tCB, tCons, tNil, tTup, tLst, tIf, tTrue, Kd.nm, L2.start, List.map_cons, List.map_nil, List.length_cons, List.length_nil, Nat.reduceAdd, Nat.reduceSub, List.replicate_succ, List.replicate_zero, List.getElem?_cons_zero, List.getElem?_cons_succ, List.set_cons_zero, List.set_cons_succ, List.append_nil, List.nil_append, List.cons_append, eq_self, true_and, and_true, if_true, Bool.false_eq_true, if_false, Bool.not_true, Bool.not_false, id_eq, sl0, sl1, sl2, sl3, sl4, seqOf, xJ.lst eH, at0, at1]
      refine ⟨hv, .ref tl, ps, ts, out, rfl, wH.smx xJ, wok, ⟨tl, rfl, etJ⟩, dsin, fun l1 z1 HK hl1 sK e1 p1 => ?_⟩
      rw [hleft] at p1
      have xK := xJ.trans (smxS sK)
      walk_at "RD"
      refine ⟨wv, .ref sl, ps, ts, ss, rfl, wH0.smx xK, wok, ⟨sl, rfl, xK.lst esH⟩, sin, fun l2 z2 HL hl2 sL e2 p2 => ?_⟩
      have xL := xK.trans (smxS sL)
      walk_at "RD"
      refine ⟨_, _, prsD (leftT ss ts), rfl, prs_rep (sL _ _ e1) (Prs.same sL p1), prs_rep e2 p2, P1, P2, fun HM sM => ?_⟩
      have xM := xL.trans (smxS sM)
      have sJM := (sK.trans sL).trans sM
      have etM := sJM _ _ etJ
      have tabM := tabSame tabJ sJM
      clear xJ xK xL tabJ etJ sK sL sM e1 p1 e2 p2 hl1 hl2 sJM
      try simp only [fInsS, fIsB, tSeq, tNext, tDrop, tRet, tRetN, tIfS, tAsg, gName, fAug, tOp, tUn, tC, fVar, fI, fIC, fNeg, fEq, fNe, fIsN, isNon, fAnd, fOr, fNot, fB, tNot, tAnd, tOr, fChain, fIx, fLen, fListOf, fMin, fMax, fInL, fSlL, tSl, fPart, tNoPart, fAppend, fBM, fSetL, gSub, fGNil, fGCons, fGTup, fGLst, fDGet2, sDPutF, tDNewK, fCat, fClear, fBM0, fSlT, fInt1, tCBK, fDIn, fDGet, fIsi, fBools, fDictL, fLtT, tCall, tCB, tCons, tNil, tTup, tLst, tIf, tTrue, Kd.nm, L2.start, List.map_cons, List.map_nil, List.length_cons, List.length_nil, Nat.reduceAdd, Nat.reduceSub, List.replicate_succ, List.replicate_zero, List.getElem?_cons_zero, List.getElem?_cons_succ, List.set_cons_zero, List.set_cons_succ, List.append_nil, List.nil_append, List.cons_append, eq_self, true_and, and_true, if_true, Bool.false_eq_true, if_false, Bool.not_true, Bool.not_false, id_eq, sl0, sl1, sl2, sl3, sl4, seqOf, xM.lst eH, at0, at1]
      refine ⟨hv, .ref tl, ps, ts, out, rfl, wH.smx xM, wok, ⟨tl, rfl, etM⟩, dsin, fun l3 HN hl3 sN e3 => ?_⟩
      rw [hneed] at e3
      walk_at "RD"
      intro l4 hl4
      have s4 := same_new hl4 (.lst [])
      refine ⟨_, _, numD [], rfl, num_rep (s4 _ _ e3), num_rep (ns := []) upd_same, Nat.le_trans (dep_num []) (by decide), wid_num (by simp), fun HO sO => ?_⟩
      have sMO := sN.trans (s4.trans sO)
      have xO := xM.trans (smxS sMO)
      have etO := sMO _ _ etM
      have tabO := tabSame tabM sMO
      clear xM tabM etM sN s4 sO sMO e3 hl3 hl4
      try simp only [fInsS, fIsB, tSeq, tNext, tDrop, tRet, tRetN, tIfS, tAsg, gName, fAug, tOp, tUn, tC, fVar, fI, fIC, fNeg, fEq, fNe, fIsN, isNon, fAnd, fOr, fNot, fB, tNot, tAnd, tOr, fChain, fIx, fLen, fListOf, fMin, fMax, fInL, fSlL, tSl, fPart, tNoPart, fAppend, fBM, fSetL, gSub, fGNil, fGCons, fGTup, fGLst, fDGet2, sDPutF, tDNewK, fCat, fClear, fBM0, fSlT, fInt1, tCBK, fDIn, fDGet, fIsi, fBools, fDictL, fLtT, tCall, tCB, tCons, tNil, tTup, tLst, tIf, tTrue, Kd.nm, L2.start, List.map_cons, List.map_nil, List.length_cons, List.length_nil, Nat.reduceAdd, Nat.reduceSub, List.replicate_succ, List.replicate_zero, List.getElem?_cons_zero, List.getElem?_cons_succ, List.set_cons_zero, List.set_cons_succ, List.append_nil, List.nil_append, List.cons_append, eq_self, true_and, and_true, if_true, Bool.false_eq_true, if_false, Bool.not_true, Bool.not_false, id_eq, sl0, sl1, sl2, sl3, sl4, seqOf, xO.lst eH, at0, at1, etO]
      intro t3 ht3
      have s3 := same_new ht3 (.lst (out.map V.int))
      have xP := xO.trans (smxS s3)
      have etP := s3 _ _ etO
      refine ⟨hv, .ref t3, ps, ts, out, rfl, wH.smx xP, wok, ⟨t3, rfl, upd_same⟩, dsin, tabSame tabO s3, fun l5 HQ out2 hl5 bQ tabQ e5 isl3 => ?_⟩
      obtain rfl := isl.again isl3
      have xPQ := smx_of bQ (tabSame tabO s3)
      have xQ := xP.trans xPQ
      have etQ := xPQ.lst etP
      clear bQ xP etP s3 tabO xO etO isl3
      walk_at "RD"
      refine ⟨_, _, numD out2, rfl, num_rep e5, num_rep (xQ.lst edH), N1, N2, fun HR sR => ?_⟩
      have xR := xQ.trans (smxS sR)
      have etR := sR _ _ etQ
      have tabR := tabSame tabQ sR
      clear xQ etQ tabQ sR e5 hl5 xPQ
      walk_at "RD"
      refine ⟨⟨tl, _, rfl, etR⟩, ?_⟩
      try simp only [fInsS, fIsB, tSeq, tNext, tDrop, tRet, tRetN, tIfS, tAsg, gName, fAug, tOp, tUn, tC, fVar, fI, fIC, fNeg, fEq, fNe, fIsN, isNon, fAnd, fOr, fNot, fB, tNot, tAnd, tOr, fChain, fIx, fLen, fListOf, fMin, fMax, fInL, fSlL, tSl, fPart, tNoPart, fAppend, fBM, fSetL, gSub, fGNil, fGCons, fGTup, fGLst, fDGet2, sDPutF, tDNewK, fCat, fClear, fBM0, fSlT, fInt1, tCBK, fDIn, fDGet, fIsi, fBools, fDictL, fLtT, tCall, tCB, tCons, tNil, tTup, tLst, tIf, tTrue, Kd.nm, L2.start, List.map_cons, List.map_nil, List.length_cons, List.length_nil, Nat.reduceAdd, Nat.reduceSub, List.replicate_succ, List.replicate_zero, List.getElem?_cons_zero, List.getElem?_cons_succ, List.set_cons_zero, List.set_cons_succ, List.append_nil, List.nil_append, List.cons_append, eq_self, true_and, and_true, if_true, Bool.false_eq_true, if_false, Bool.not_true, Bool.not_false, id_eq, sl0, sl1, sl2, sl3, sl4, etR, List.length_map]
      refine ⟨szl' (by omega), ?_⟩
      have xS : SmX HH (upd HR tl (.lst (out2.map V.int ++ [.int 0]))) := smx_upd xR htl
      have tabS : Tab (upd HR tl (.lst (out2.map V.int ++ [.int 0]))) tT := tab_upd tabR etR
      generalize upd HR tl (.lst (out2.map V.int ++ [.int 0])) = HS at xS tabS
      try simp only [fInsS, fIsB, tSeq, tNext, tDrop, tRet, tRetN, tIfS, tAsg, gName, fAug, tOp, tUn, tC, fVar, fI, fIC, fNeg, fEq, fNe, fIsN, isNon, fAnd, fOr, fNot, fB, tNot, tAnd, tOr, fChain, fIx, fLen, fListOf, fMin, fMax, fInL, fSlL, tSl, fPart, tNoPart, fAppend, fBM, fSetL, gSub, fGNil, fGCons, fGTup, fGLst, fDGet2, sDPutF, tDNewK, fCat, fClear, fBM0, fSlT, fInt1, tCBK, fDIn, fDGet, fIsi, fBools, fDictL, fLtT, tCall, tCB, tCons, tNil, tTup, tLst, tIf, tTrue, Kd.nm, L2.start, List.map_cons, List.map_nil, List.length_cons, List.length_nil, Nat.reduceAdd, Nat.reduceSub, List.replicate_succ, List.replicate_zero, List.getElem?_cons_zero, List.getElem?_cons_succ, List.set_cons_zero, List.set_cons_succ, List.append_nil, List.nil_append, List.cons_append, eq_self, true_and, and_true, if_true, Bool.false_eq_true, if_false, Bool.not_true, Bool.not_false, id_eq, sl0, sl1, sl2, sl3, sl4, seqOf, xS.lst eH, at0, at1]
      refine ⟨hv, .ref s2, ps, ts, ss, rfl, wH.smx xS, wok, ⟨s2, rfl, xS.lst e2H⟩, sin, tabS, fun l6 HT out3 hl6 bT tabT e6 isl4 => ?_⟩
      obtain rfl := isl4.unique isl
      have xT := xS.trans (smx_of bT tabS)
      clear bT isl4
      walk_at "RD"
      refine ⟨_, _, numD out3, rfl, num_rep e6, num_rep (xT.lst edH), N1, N2, fun HU sU => ?_⟩
      have xU := xT.trans (smxS sU)
      have tabU := tabSame tabT sU
      clear xT tabT xS tabS xR tabR etR
      walk_at "RD"
      intro pl hpl
      have sV := same_new hpl (.lst [wv, .ref sl])
      have xV := xU.trans (smxS sV)
      have wid1 := wid_web (ts := ts) wok.pl wok.tl
      have dep1 := dep_web ps ts
      have wid2 := wid_num (ns := ss) (by omega)
      have dep2 := dep_num ss
      have dd : dep (.lst [webD ps ts, numD ss]) ≤ 6 := by
        simp only [dep, deps]
        omega
      have ww : wid (.lst [webD ps ts, numD ss]) ≤ 1000 := by
        simp only [wid, wids, List.length_cons, List.length_nil]
        omega
      refine ⟨_, _, .lst [webD ps ts, numD ss], rfl, ?_, ?_, dd, ww, fun HW sW => ?_⟩
      · rw [Rep]
        refine ⟨hd, _, rfl, xV.lst eH, ?_⟩
        rw [Reps]
        refine ⟨_, _, rfl, (wH.smx xV).rep, ?_⟩
        rw [Reps]
        exact ⟨_, _, rfl, num_rep (xV.lst e2H), (by rw [Reps])⟩
      · rw [Rep]
        refine ⟨pl, _, rfl, upd_same, ?_⟩
        rw [Reps]
        refine ⟨_, _, rfl, (wH0.smx xV).rep, ?_⟩
        rw [Reps]
        exact ⟨_, _, rfl, num_rep (xV.lst esH), (by rw [Reps])⟩
      walk_at "RD"
      exact ⟨_, _, _, _, _, _, _, _, rfl, hsH.tups (xV.trans (smxS sW)).tups, tabSame tabU (sV.trans sW)⟩
  · rintro σ H1 ⟨v1, v2, v3, v4, v5, v6, v7, v8, rfl, hs1, tab1⟩
    walk_at "RD"
    exact h H1
end
end My

set_option Elab.async false
set_option linter.all false
set_option maxRecDepth 100000
set_option maxHeartbeats 8000000
namespace My
open PySem L2
theorem dep_pos : ∀ d : Dt, 1 ≤ dep d
  | .non => by simp [dep]
  | .bl _ => by simp [dep]
  | .int _ => by simp [dep]
  | .str _ => by simp [dep]
  | .tup _ => by simp [dep]
  | .lst _ => by simp [dep]
theorem same_n {P : Program} {w : World} {K : PySem.W.Frag} {mg : Str → Option Value} {base : Heap} {f : Addr} {fd : FuncData} (B : Blt mg) (D : DefAt K mg "_law_same" (top 34) ["_law_found", "_law_due"] f fd) :
    ∀ n : Nat, FnOk P w K mg base CX0 n f fd ["_law_found", "_law_due"] (spSame n)
  | 0 => by
    have no : ∀ vs H Q E, ¬ spSame 0 vs H Q E := fun vs H Q E h => by
      obtain ⟨v1, v2, d, _, _, _, hd, _⟩ := h
      have := dep_pos d
      omega
    exact ⟨fun vs H Q E h => absurd h (no vs H Q E), fun A outer s H args us vs Q E _ _ _ _ h => absurd h (no vs H Q E)⟩
  | n + 1 => ok_law_same B D D (same_n B D n)
theorem all_mk {l : PySem.W.OpenLaw} {w : World} {K : PySem.W.Frag} {h : Heap} {mg : Str → Option Value} {fa : Addr} (X : K.In h) (G : h.Ns mainGlobals mg) (hfa : mg "law" = some (.ref fa))
    {f_is_whole : Addr} {od_is_whole an_is_whole : Option Addr} {sl_is_whole : Array (Option Value)} {oc_is_whole kV_is_whole dc_is_whole pm_is_whole cd_is_whole ct_is_whole : Value}
    (a_is_whole : PySem.W.nsIn K mainGlobals "is_whole" = some (some (.ref f_is_whole))) (l_is_whole : K.lookup f_is_whole = some ⟨oc_is_whole, od_is_whole, .func (PySem.W.fnOf "is_whole" "is_whole" (defArgs (top 5)) (defBody (top 5)) (defScope (top 5)) .none kV_is_whole dc_is_whole pm_is_whole an_is_whole cd_is_whole ct_is_whole), sl_is_whole⟩) (c_is_whole : PySem.W.codeIn K cd_is_whole "is_whole" = true) (k_is_whole : PySem.W.keepIn K (.ref f_is_whole) = true)
    {f_is_tuple_of : Addr} {od_is_tuple_of an_is_tuple_of : Option Addr} {sl_is_tuple_of : Array (Option Value)} {oc_is_tuple_of kV_is_tuple_of dc_is_tuple_of pm_is_tuple_of cd_is_tuple_of ct_is_tuple_of : Value}
    (a_is_tuple_of : PySem.W.nsIn K mainGlobals "is_tuple_of" = some (some (.ref f_is_tuple_of))) (l_is_tuple_of : K.lookup f_is_tuple_of = some ⟨oc_is_tuple_of, od_is_tuple_of, .func (PySem.W.fnOf "is_tuple_of" "is_tuple_of" (defArgs (top 6)) (defBody (top 6)) (defScope (top 6)) .none kV_is_tuple_of dc_is_tuple_of pm_is_tuple_of an_is_tuple_of cd_is_tuple_of ct_is_tuple_of), sl_is_tuple_of⟩) (c_is_tuple_of : PySem.W.codeIn K cd_is_tuple_of "is_tuple_of" = true) (k_is_tuple_of : PySem.W.keepIn K (.ref f_is_tuple_of) = true)
    {f_is_pair_of_wholes : Addr} {od_is_pair_of_wholes an_is_pair_of_wholes : Option Addr} {sl_is_pair_of_wholes : Array (Option Value)} {oc_is_pair_of_wholes kV_is_pair_of_wholes dc_is_pair_of_wholes pm_is_pair_of_wholes cd_is_pair_of_wholes ct_is_pair_of_wholes : Value}
    (a_is_pair_of_wholes : PySem.W.nsIn K mainGlobals "is_pair_of_wholes" = some (some (.ref f_is_pair_of_wholes))) (l_is_pair_of_wholes : K.lookup f_is_pair_of_wholes = some ⟨oc_is_pair_of_wholes, od_is_pair_of_wholes, .func (PySem.W.fnOf "is_pair_of_wholes" "is_pair_of_wholes" (defArgs (top 7)) (defBody (top 7)) (defScope (top 7)) .none kV_is_pair_of_wholes dc_is_pair_of_wholes pm_is_pair_of_wholes an_is_pair_of_wholes cd_is_pair_of_wholes ct_is_pair_of_wholes), sl_is_pair_of_wholes⟩) (c_is_pair_of_wholes : PySem.W.codeIn K cd_is_pair_of_wholes "is_pair_of_wholes" = true) (k_is_pair_of_wholes : PySem.W.keepIn K (.ref f_is_pair_of_wholes) = true)
    {f_is_list_up_to : Addr} {od_is_list_up_to an_is_list_up_to : Option Addr} {sl_is_list_up_to : Array (Option Value)} {oc_is_list_up_to kV_is_list_up_to dc_is_list_up_to pm_is_list_up_to cd_is_list_up_to ct_is_list_up_to : Value}
    (a_is_list_up_to : PySem.W.nsIn K mainGlobals "is_list_up_to" = some (some (.ref f_is_list_up_to))) (l_is_list_up_to : K.lookup f_is_list_up_to = some ⟨oc_is_list_up_to, od_is_list_up_to, .func (PySem.W.fnOf "is_list_up_to" "is_list_up_to" (defArgs (top 8)) (defBody (top 8)) (defScope (top 8)) .none kV_is_list_up_to dc_is_list_up_to pm_is_list_up_to an_is_list_up_to cd_is_list_up_to ct_is_list_up_to), sl_is_list_up_to⟩) (c_is_list_up_to : PySem.W.codeIn K cd_is_list_up_to "is_list_up_to" = true) (k_is_list_up_to : PySem.W.keepIn K (.ref f_is_list_up_to) = true)
    {f_marked : Addr} {od_marked an_marked : Option Addr} {sl_marked : Array (Option Value)} {oc_marked kV_marked dc_marked pm_marked cd_marked ct_marked : Value}
    (a_marked : PySem.W.nsIn K mainGlobals "marked" = some (some (.ref f_marked))) (l_marked : K.lookup f_marked = some ⟨oc_marked, od_marked, .func (PySem.W.fnOf "marked" "marked" (defArgs (top 9)) (defBody (top 9)) (defScope (top 9)) .none kV_marked dc_marked pm_marked an_marked cd_marked ct_marked), sl_marked⟩) (c_marked : PySem.W.codeIn K cd_marked "marked" = true) (k_marked : PySem.W.keepIn K (.ref f_marked) = true)
    {f_place_stands : Addr} {od_place_stands an_place_stands : Option Addr} {sl_place_stands : Array (Option Value)} {oc_place_stands kV_place_stands dc_place_stands pm_place_stands cd_place_stands ct_place_stands : Value}
    (a_place_stands : PySem.W.nsIn K mainGlobals "place_stands" = some (some (.ref f_place_stands))) (l_place_stands : K.lookup f_place_stands = some ⟨oc_place_stands, od_place_stands, .func (PySem.W.fnOf "place_stands" "place_stands" (defArgs (top 15)) (defBody (top 15)) (defScope (top 15)) .none kV_place_stands dc_place_stands pm_place_stands an_place_stands cd_place_stands ct_place_stands), sl_place_stands⟩) (c_place_stands : PySem.W.codeIn K cd_place_stands "place_stands" = true) (k_place_stands : PySem.W.keepIn K (.ref f_place_stands) = true)
    {f_tie_stands : Addr} {od_tie_stands an_tie_stands : Option Addr} {sl_tie_stands : Array (Option Value)} {oc_tie_stands kV_tie_stands dc_tie_stands pm_tie_stands cd_tie_stands ct_tie_stands : Value}
    (a_tie_stands : PySem.W.nsIn K mainGlobals "tie_stands" = some (some (.ref f_tie_stands))) (l_tie_stands : K.lookup f_tie_stands = some ⟨oc_tie_stands, od_tie_stands, .func (PySem.W.fnOf "tie_stands" "tie_stands" (defArgs (top 16)) (defBody (top 16)) (defScope (top 16)) .none kV_tie_stands dc_tie_stands pm_tie_stands an_tie_stands cd_tie_stands ct_tie_stands), sl_tie_stands⟩) (c_tie_stands : PySem.W.codeIn K cd_tie_stands "tie_stands" = true) (k_tie_stands : PySem.W.keepIn K (.ref f_tie_stands) = true)
    {f_look_at_places : Addr} {od_look_at_places an_look_at_places : Option Addr} {sl_look_at_places : Array (Option Value)} {oc_look_at_places kV_look_at_places dc_look_at_places pm_look_at_places cd_look_at_places ct_look_at_places : Value}
    (a_look_at_places : PySem.W.nsIn K mainGlobals "look_at_places" = some (some (.ref f_look_at_places))) (l_look_at_places : K.lookup f_look_at_places = some ⟨oc_look_at_places, od_look_at_places, .func (PySem.W.fnOf "look_at_places" "look_at_places" (defArgs (top 17)) (defBody (top 17)) (defScope (top 17)) .none kV_look_at_places dc_look_at_places pm_look_at_places an_look_at_places cd_look_at_places ct_look_at_places), sl_look_at_places⟩) (c_look_at_places : PySem.W.codeIn K cd_look_at_places "look_at_places" = true) (k_look_at_places : PySem.W.keepIn K (.ref f_look_at_places) = true)
    {f_look_at_ties : Addr} {od_look_at_ties an_look_at_ties : Option Addr} {sl_look_at_ties : Array (Option Value)} {oc_look_at_ties kV_look_at_ties dc_look_at_ties pm_look_at_ties cd_look_at_ties ct_look_at_ties : Value}
    (a_look_at_ties : PySem.W.nsIn K mainGlobals "look_at_ties" = some (some (.ref f_look_at_ties))) (l_look_at_ties : K.lookup f_look_at_ties = some ⟨oc_look_at_ties, od_look_at_ties, .func (PySem.W.fnOf "look_at_ties" "look_at_ties" (defArgs (top 18)) (defBody (top 18)) (defScope (top 18)) .none kV_look_at_ties dc_look_at_ties pm_look_at_ties an_look_at_ties cd_look_at_ties ct_look_at_ties), sl_look_at_ties⟩) (c_look_at_ties : PySem.W.codeIn K cd_look_at_ties "look_at_ties" = true) (k_look_at_ties : PySem.W.keepIn K (.ref f_look_at_ties) = true)
    {f_look_at_web : Addr} {od_look_at_web an_look_at_web : Option Addr} {sl_look_at_web : Array (Option Value)} {oc_look_at_web kV_look_at_web dc_look_at_web pm_look_at_web cd_look_at_web ct_look_at_web : Value}
    (a_look_at_web : PySem.W.nsIn K mainGlobals "look_at_web" = some (some (.ref f_look_at_web))) (l_look_at_web : K.lookup f_look_at_web = some ⟨oc_look_at_web, od_look_at_web, .func (PySem.W.fnOf "look_at_web" "look_at_web" (defArgs (top 19)) (defBody (top 19)) (defScope (top 19)) .none kV_look_at_web dc_look_at_web pm_look_at_web an_look_at_web cd_look_at_web ct_look_at_web), sl_look_at_web⟩) (c_look_at_web : PySem.W.codeIn K cd_look_at_web "look_at_web" = true) (k_look_at_web : PySem.W.keepIn K (.ref f_look_at_web) = true)
    {f_is_place : Addr} {od_is_place an_is_place : Option Addr} {sl_is_place : Array (Option Value)} {oc_is_place kV_is_place dc_is_place pm_is_place cd_is_place ct_is_place : Value}
    (a_is_place : PySem.W.nsIn K mainGlobals "is_place" = some (some (.ref f_is_place))) (l_is_place : K.lookup f_is_place = some ⟨oc_is_place, od_is_place, .func (PySem.W.fnOf "is_place" "is_place" (defArgs (top 20)) (defBody (top 20)) (defScope (top 20)) .none kV_is_place dc_is_place pm_is_place an_is_place cd_is_place ct_is_place), sl_is_place⟩) (c_is_place : PySem.W.codeIn K cd_is_place "is_place" = true) (k_is_place : PySem.W.keepIn K (.ref f_is_place) = true)
    {f_nears_in : Addr} {od_nears_in an_nears_in : Option Addr} {sl_nears_in : Array (Option Value)} {oc_nears_in kV_nears_in dc_nears_in pm_nears_in cd_nears_in ct_nears_in : Value}
    (a_nears_in : PySem.W.nsIn K mainGlobals "nears_in" = some (some (.ref f_nears_in))) (l_nears_in : K.lookup f_nears_in = some ⟨oc_nears_in, od_nears_in, .func (PySem.W.fnOf "nears_in" "nears_in" (defArgs (top 21)) (defBody (top 21)) (defScope (top 21)) .none kV_nears_in dc_nears_in pm_nears_in an_nears_in cd_nears_in ct_nears_in), sl_nears_in⟩) (c_nears_in : PySem.W.codeIn K cd_nears_in "nears_in" = true) (k_nears_in : PySem.W.keepIn K (.ref f_nears_in) = true)
    {f_is_set : Addr} {od_is_set an_is_set : Option Addr} {sl_is_set : Array (Option Value)} {oc_is_set kV_is_set dc_is_set pm_is_set cd_is_set ct_is_set : Value}
    (a_is_set : PySem.W.nsIn K mainGlobals "is_set" = some (some (.ref f_is_set))) (l_is_set : K.lookup f_is_set = some ⟨oc_is_set, od_is_set, .func (PySem.W.fnOf "is_set" "is_set" (defArgs (top 23)) (defBody (top 23)) (defScope (top 23)) .none kV_is_set dc_is_set pm_is_set an_is_set cd_is_set ct_is_set), sl_is_set⟩) (c_is_set : PySem.W.codeIn K cd_is_set "is_set" = true) (k_is_set : PySem.W.keepIn K (.ref f_is_set) = true)
    {f_look_at_set : Addr} {od_look_at_set an_look_at_set : Option Addr} {sl_look_at_set : Array (Option Value)} {oc_look_at_set kV_look_at_set dc_look_at_set pm_look_at_set cd_look_at_set ct_look_at_set : Value}
    (a_look_at_set : PySem.W.nsIn K mainGlobals "look_at_set" = some (some (.ref f_look_at_set))) (l_look_at_set : K.lookup f_look_at_set = some ⟨oc_look_at_set, od_look_at_set, .func (PySem.W.fnOf "look_at_set" "look_at_set" (defArgs (top 24)) (defBody (top 24)) (defScope (top 24)) .none kV_look_at_set dc_look_at_set pm_look_at_set an_look_at_set cd_look_at_set ct_look_at_set), sl_look_at_set⟩) (c_look_at_set : PySem.W.codeIn K cd_look_at_set "look_at_set" = true) (k_look_at_set : PySem.W.keepIn K (.ref f_look_at_set) = true)
    {f_all_in : Addr} {od_all_in an_all_in : Option Addr} {sl_all_in : Array (Option Value)} {oc_all_in kV_all_in dc_all_in pm_all_in cd_all_in ct_all_in : Value}
    (a_all_in : PySem.W.nsIn K mainGlobals "all_in" = some (some (.ref f_all_in))) (l_all_in : K.lookup f_all_in = some ⟨oc_all_in, od_all_in, .func (PySem.W.fnOf "all_in" "all_in" (defArgs (top 25)) (defBody (top 25)) (defScope (top 25)) .none kV_all_in dc_all_in pm_all_in an_all_in cd_all_in ct_all_in), sl_all_in⟩) (c_all_in : PySem.W.codeIn K cd_all_in "all_in" = true) (k_all_in : PySem.W.keepIn K (.ref f_all_in) = true)
    {f_left_by : Addr} {od_left_by an_left_by : Option Addr} {sl_left_by : Array (Option Value)} {oc_left_by kV_left_by dc_left_by pm_left_by cd_left_by ct_left_by : Value}
    (a_left_by : PySem.W.nsIn K mainGlobals "left_by" = some (some (.ref f_left_by))) (l_left_by : K.lookup f_left_by = some ⟨oc_left_by, od_left_by, .func (PySem.W.fnOf "left_by" "left_by" (defArgs (top 26)) (defBody (top 26)) (defScope (top 26)) .none kV_left_by dc_left_by pm_left_by an_left_by cd_left_by ct_left_by), sl_left_by⟩) (c_left_by : PySem.W.codeIn K cd_left_by "left_by" = true) (k_left_by : PySem.W.keepIn K (.ref f_left_by) = true)
    {f_needless : Addr} {od_needless an_needless : Option Addr} {sl_needless : Array (Option Value)} {oc_needless kV_needless dc_needless pm_needless cd_needless ct_needless : Value}
    (a_needless : PySem.W.nsIn K mainGlobals "needless" = some (some (.ref f_needless))) (l_needless : K.lookup f_needless = some ⟨oc_needless, od_needless, .func (PySem.W.fnOf "needless" "needless" (defArgs (top 27)) (defBody (top 27)) (defScope (top 27)) .none kV_needless dc_needless pm_needless an_needless cd_needless ct_needless), sl_needless⟩) (c_needless : PySem.W.codeIn K cd_needless "needless" = true) (k_needless : PySem.W.keepIn K (.ref f_needless) = true)
    {f_lean : Addr} {od_lean an_lean : Option Addr} {sl_lean : Array (Option Value)} {oc_lean kV_lean dc_lean pm_lean cd_lean ct_lean : Value}
    (a_lean : PySem.W.nsIn K mainGlobals "lean" = some (some (.ref f_lean))) (l_lean : K.lookup f_lean = some ⟨oc_lean, od_lean, .func (PySem.W.fnOf "lean" "lean" (defArgs (top 28)) (defBody (top 28)) (defScope (top 28)) .none kV_lean dc_lean pm_lean an_lean cd_lean ct_lean), sl_lean⟩) (c_lean : PySem.W.codeIn K cd_lean "lean" = true) (k_lean : PySem.W.keepIn K (.ref f_lean) = true)
    {f_law_begun : Addr} {od_law_begun an_law_begun : Option Addr} {sl_law_begun : Array (Option Value)} {oc_law_begun kV_law_begun dc_law_begun pm_law_begun cd_law_begun ct_law_begun : Value}
    (a_law_begun : PySem.W.nsIn K mainGlobals "_law_begun" = some (some (.ref f_law_begun))) (l_law_begun : K.lookup f_law_begun = some ⟨oc_law_begun, od_law_begun, .func (PySem.W.fnOf "_law_begun" "_law_begun" (defArgs (top 30)) (defBody (top 30)) (defScope (top 30)) .none kV_law_begun dc_law_begun pm_law_begun an_law_begun cd_law_begun ct_law_begun), sl_law_begun⟩) (c_law_begun : PySem.W.codeIn K cd_law_begun "_law_begun" = true) (k_law_begun : PySem.W.keepIn K (.ref f_law_begun) = true)
    {f_law_take : Addr} {od_law_take an_law_take : Option Addr} {sl_law_take : Array (Option Value)} {oc_law_take kV_law_take dc_law_take pm_law_take cd_law_take ct_law_take : Value}
    (a_law_take : PySem.W.nsIn K mainGlobals "_law_take" = some (some (.ref f_law_take))) (l_law_take : K.lookup f_law_take = some ⟨oc_law_take, od_law_take, .func (PySem.W.fnOf "_law_take" "_law_take" (defArgs (top 31)) (defBody (top 31)) (defScope (top 31)) .none kV_law_take dc_law_take pm_law_take an_law_take cd_law_take ct_law_take), sl_law_take⟩) (c_law_take : PySem.W.codeIn K cd_law_take "_law_take" = true) (k_law_take : PySem.W.keepIn K (.ref f_law_take) = true)
    {f_law_places : Addr} {od_law_places an_law_places : Option Addr} {sl_law_places : Array (Option Value)} {oc_law_places kV_law_places dc_law_places pm_law_places cd_law_places ct_law_places : Value}
    (a_law_places : PySem.W.nsIn K mainGlobals "_law_places" = some (some (.ref f_law_places))) (l_law_places : K.lookup f_law_places = some ⟨oc_law_places, od_law_places, .func (PySem.W.fnOf "_law_places" "_law_places" (defArgs (top 32)) (defBody (top 32)) (defScope (top 32)) .none kV_law_places dc_law_places pm_law_places an_law_places cd_law_places ct_law_places), sl_law_places⟩) (c_law_places : PySem.W.codeIn K cd_law_places "_law_places" = true) (k_law_places : PySem.W.keepIn K (.ref f_law_places) = true)
    {f_law_web : Addr} {od_law_web an_law_web : Option Addr} {sl_law_web : Array (Option Value)} {oc_law_web kV_law_web dc_law_web pm_law_web cd_law_web ct_law_web : Value}
    (a_law_web : PySem.W.nsIn K mainGlobals "_law_web" = some (some (.ref f_law_web))) (l_law_web : K.lookup f_law_web = some ⟨oc_law_web, od_law_web, .func (PySem.W.fnOf "_law_web" "_law_web" (defArgs (top 33)) (defBody (top 33)) (defScope (top 33)) .none kV_law_web dc_law_web pm_law_web an_law_web cd_law_web ct_law_web), sl_law_web⟩) (c_law_web : PySem.W.codeIn K cd_law_web "_law_web" = true) (k_law_web : PySem.W.keepIn K (.ref f_law_web) = true)
    {f_law_same : Addr} {od_law_same an_law_same : Option Addr} {sl_law_same : Array (Option Value)} {oc_law_same kV_law_same dc_law_same pm_law_same cd_law_same ct_law_same : Value}
    (a_law_same : PySem.W.nsIn K mainGlobals "_law_same" = some (some (.ref f_law_same))) (l_law_same : K.lookup f_law_same = some ⟨oc_law_same, od_law_same, .func (PySem.W.fnOf "_law_same" "_law_same" (defArgs (top 34)) (defBody (top 34)) (defScope (top 34)) .none kV_law_same dc_law_same pm_law_same an_law_same cd_law_same ct_law_same), sl_law_same⟩) (c_law_same : PySem.W.codeIn K cd_law_same "_law_same" = true) (k_law_same : PySem.W.keepIn K (.ref f_law_same) = true)
    {f_law_copy : Addr} {od_law_copy an_law_copy : Option Addr} {sl_law_copy : Array (Option Value)} {oc_law_copy kV_law_copy dc_law_copy pm_law_copy cd_law_copy ct_law_copy : Value}
    (a_law_copy : PySem.W.nsIn K mainGlobals "_law_copy" = some (some (.ref f_law_copy))) (l_law_copy : K.lookup f_law_copy = some ⟨oc_law_copy, od_law_copy, .func (PySem.W.fnOf "_law_copy" "_law_copy" (defArgs (top 35)) (defBody (top 35)) (defScope (top 35)) .none kV_law_copy dc_law_copy pm_law_copy an_law_copy cd_law_copy ct_law_copy), sl_law_copy⟩) (c_law_copy : PySem.W.codeIn K cd_law_copy "_law_copy" = true) (k_law_copy : PySem.W.keepIn K (.ref f_law_copy) = true)
    {f_law_some : Addr} {od_law_some an_law_some : Option Addr} {sl_law_some : Array (Option Value)} {oc_law_some kV_law_some dc_law_some pm_law_some cd_law_some ct_law_some : Value}
    (a_law_some : PySem.W.nsIn K mainGlobals "_law_some" = some (some (.ref f_law_some))) (l_law_some : K.lookup f_law_some = some ⟨oc_law_some, od_law_some, .func (PySem.W.fnOf "_law_some" "_law_some" (defArgs (top 36)) (defBody (top 36)) (defScope (top 36)) .none kV_law_some dc_law_some pm_law_some an_law_some cd_law_some ct_law_some), sl_law_some⟩) (c_law_some : PySem.W.codeIn K cd_law_some "_law_some" = true) (k_law_some : PySem.W.keepIn K (.ref f_law_some) = true)
    {f_law_goes : Addr} {od_law_goes an_law_goes : Option Addr} {sl_law_goes : Array (Option Value)} {oc_law_goes kV_law_goes dc_law_goes pm_law_goes cd_law_goes ct_law_goes : Value}
    (a_law_goes : PySem.W.nsIn K mainGlobals "_law_goes" = some (some (.ref f_law_goes))) (l_law_goes : K.lookup f_law_goes = some ⟨oc_law_goes, od_law_goes, .func (PySem.W.fnOf "_law_goes" "_law_goes" (defArgs (top 37)) (defBody (top 37)) (defScope (top 37)) .none kV_law_goes dc_law_goes pm_law_goes an_law_goes cd_law_goes ct_law_goes), sl_law_goes⟩) (c_law_goes : PySem.W.codeIn K cd_law_goes "_law_goes" = true) (k_law_goes : PySem.W.keepIn K (.ref f_law_goes) = true)
    {f_law_dearest : Addr} {od_law_dearest an_law_dearest : Option Addr} {sl_law_dearest : Array (Option Value)} {oc_law_dearest kV_law_dearest dc_law_dearest pm_law_dearest cd_law_dearest ct_law_dearest : Value}
    (a_law_dearest : PySem.W.nsIn K mainGlobals "_law_dearest" = some (some (.ref f_law_dearest))) (l_law_dearest : K.lookup f_law_dearest = some ⟨oc_law_dearest, od_law_dearest, .func (PySem.W.fnOf "_law_dearest" "_law_dearest" (defArgs (top 38)) (defBody (top 38)) (defScope (top 38)) .none kV_law_dearest dc_law_dearest pm_law_dearest an_law_dearest cd_law_dearest ct_law_dearest), sl_law_dearest⟩) (c_law_dearest : PySem.W.codeIn K cd_law_dearest "_law_dearest" = true) (k_law_dearest : PySem.W.keepIn K (.ref f_law_dearest) = true)
    {f_law_lean : Addr} {od_law_lean an_law_lean : Option Addr} {sl_law_lean : Array (Option Value)} {oc_law_lean kV_law_lean dc_law_lean pm_law_lean cd_law_lean ct_law_lean : Value}
    (a_law_lean : PySem.W.nsIn K mainGlobals "_law_lean" = some (some (.ref f_law_lean))) (l_law_lean : K.lookup f_law_lean = some ⟨oc_law_lean, od_law_lean, .func (PySem.W.fnOf "_law_lean" "_law_lean" (defArgs (top 39)) (defBody (top 39)) (defScope (top 39)) .none kV_law_lean dc_law_lean pm_law_lean an_law_lean cd_law_lean ct_law_lean), sl_law_lean⟩) (c_law_lean : PySem.W.codeIn K cd_law_lean "_law_lean" = true) (k_law_lean : PySem.W.keepIn K (.ref f_law_lean) = true)
    {f_law : Addr} {od_law an_law : Option Addr} {sl_law : Array (Option Value)} {oc_law kV_law dc_law pm_law cd_law ct_law : Value}
    (a_law : PySem.W.nsIn K mainGlobals "law" = some (some (.ref f_law))) (l_law : K.lookup f_law = some ⟨oc_law, od_law, .func (PySem.W.fnOf "law" "law" (defArgs (top 40)) (defBody (top 40)) (defScope (top 40)) .none kV_law dc_law pm_law an_law cd_law ct_law), sl_law⟩) (c_law : PySem.W.codeIn K cd_law "law" = true) (k_law : PySem.W.keepIn K (.ref f_law) = true)
    (z_len : PySem.W.nsIn K mainGlobals "len" = some none)
    (z_isinstance : PySem.W.nsIn K mainGlobals "isinstance" = some none)
    (z_all : PySem.W.nsIn K mainGlobals "all" = some none)
    (z_min : PySem.W.nsIn K mainGlobals "min" = some none)
    (z_list : PySem.W.nsIn K mainGlobals "list" = some none)
    (z_dict : PySem.W.nsIn K mainGlobals "dict" = some none)
    (z_int : PySem.W.nsIn K mainGlobals "int" = some none)
    (z_bool : PySem.W.nsIn K mainGlobals "bool" = some none)
    (z_str : PySem.W.nsIn K mainGlobals "str" = some none)
    (z_tuple : PySem.W.nsIn K mainGlobals "tuple" = some none)
    (z_range : PySem.W.nsIn K mainGlobals "range" = some none)
    (z_enumerate : PySem.W.nsIn K mainGlobals "enumerate" = some none)
    (z_zip : PySem.W.nsIn K mainGlobals "zip" = some none)
    (z_max : PySem.W.nsIn K mainGlobals "max" = some none)
    (z_any : PySem.W.nsIn K mainGlobals "any" = some none)
    (z_sum : PySem.W.nsIn K mainGlobals "sum" = some none)
    (z_sorted : PySem.W.nsIn K mainGlobals "sorted" = some none)
    {c1 : Tok} (n_MOST_PLACES : PySem.W.nsIn K mainGlobals "MOST_PLACES" = some (some (.int 40 c1)))
    {c2 : Tok} (n_MOST_TIES : PySem.W.nsIn K mainGlobals "MOST_TIES" = some (some (.int 120 c2)))
    {c3 : Tok} (n_LAST_PLACE : PySem.W.nsIn K mainGlobals "LAST_PLACE" = some (some (.int 999 c3)))
    {c4 : Tok} (n_MOST_PRICE : PySem.W.nsIn K mainGlobals "MOST_PRICE" = some (some (.int 1000000000000 c4)))
    {tc tT : Addr} {kcls : Value} {kdct : Option Addr} {kvs : Array Value} {ksl : Array (Option Value)} (hcd : cd_lean = .ref tc) (lcd : K.lookup tc = some ⟨kcls, kdct, .fields kvs, ksl⟩) (v11 : (kvs[11]? : Option Value) = some (.ref tT))
    : ∃ (fd : FuncData) (c T : Addr), PySem.W.tabIn K "lean" = some (c, T) ∧ (∀ (s : Shared) (v : Value), BindsTo s fd ⟨[v], []⟩ [("_law_script", v)]) ∧ ∀ base : Heap, K.In base → base.Ns mainGlobals mg → PySem.W.CodeHd base c T → BltAt mg base → FnOk l.prog w K mg base CX0 10 fa fd ["_law_script"] (spLaw K T) := by
  have e := hfa.symm.trans (PySem.W.mg_of X G a_law)
  cases e
  have B : Blt mg := ⟨PySem.W.mg_none_of X G z_len, PySem.W.mg_none_of X G z_isinstance, PySem.W.mg_none_of X G z_all, PySem.W.mg_none_of X G z_min, PySem.W.mg_none_of X G z_list, PySem.W.mg_none_of X G z_dict, PySem.W.mg_none_of X G z_int, PySem.W.mg_none_of X G z_bool, PySem.W.mg_none_of X G z_str, PySem.W.mg_none_of X G z_tuple, PySem.W.mg_none_of X G z_range, PySem.W.mg_none_of X G z_enumerate, PySem.W.mg_none_of X G z_zip, PySem.W.mg_none_of X G z_max, PySem.W.mg_none_of X G z_any, PySem.W.mg_none_of X G z_sum, PySem.W.mg_none_of X G z_sorted⟩
  have C : Cst mg c1 c2 c3 c4 := ⟨PySem.W.mg_of X G n_MOST_PLACES, PySem.W.mg_of X G n_MOST_TIES, PySem.W.mg_of X G n_LAST_PLACE, PySem.W.mg_of X G n_MOST_PRICE⟩
  have F_is_whole := fun_mk (st := top 5) l_is_whole c_is_whole k_is_whole
  have b_is_whole := F_is_whole.binds (ps := ["thing"]) fun _ _ _ _ _ _ us hl => match us, hl with | [_], _ => rfl
  have D_is_whole : DefAt K mg "is_whole" (top 5) ["thing"] _ _ := ⟨F_is_whole, b_is_whole, PySem.W.mg_of X G a_is_whole⟩
  have F_is_tuple_of := fun_mk (st := top 6) l_is_tuple_of c_is_tuple_of k_is_tuple_of
  have b_is_tuple_of := F_is_tuple_of.binds (ps := ["thing", "many"]) fun _ _ _ _ _ _ us hl => match us, hl with | [_, _], _ => rfl
  have D_is_tuple_of : DefAt K mg "is_tuple_of" (top 6) ["thing", "many"] _ _ := ⟨F_is_tuple_of, b_is_tuple_of, PySem.W.mg_of X G a_is_tuple_of⟩
  have F_is_pair_of_wholes := fun_mk (st := top 7) l_is_pair_of_wholes c_is_pair_of_wholes k_is_pair_of_wholes
  have b_is_pair_of_wholes := F_is_pair_of_wholes.binds (ps := ["thing"]) fun _ _ _ _ _ _ us hl => match us, hl with | [_], _ => rfl
  have D_is_pair_of_wholes : DefAt K mg "is_pair_of_wholes" (top 7) ["thing"] _ _ := ⟨F_is_pair_of_wholes, b_is_pair_of_wholes, PySem.W.mg_of X G a_is_pair_of_wholes⟩
  have F_is_list_up_to := fun_mk (st := top 8) l_is_list_up_to c_is_list_up_to k_is_list_up_to
  have b_is_list_up_to := F_is_list_up_to.binds (ps := ["thing", "most"]) fun _ _ _ _ _ _ us hl => match us, hl with | [_, _], _ => rfl
  have D_is_list_up_to : DefAt K mg "is_list_up_to" (top 8) ["thing", "most"] _ _ := ⟨F_is_list_up_to, b_is_list_up_to, PySem.W.mg_of X G a_is_list_up_to⟩
  have F_marked := fun_mk (st := top 9) l_marked c_marked k_marked
  have b_marked := F_marked.binds (ps := ["places"]) fun _ _ _ _ _ _ us hl => match us, hl with | [_], _ => rfl
  have D_marked : DefAt K mg "marked" (top 9) ["places"] _ _ := ⟨F_marked, b_marked, PySem.W.mg_of X G a_marked⟩
  have F_place_stands := fun_mk (st := top 15) l_place_stands c_place_stands k_place_stands
  have b_place_stands := F_place_stands.binds (ps := ["thing", "last", "spent"]) fun _ _ _ _ _ _ us hl => match us, hl with | [_, _, _], _ => rfl
  have D_place_stands : DefAt K mg "place_stands" (top 15) ["thing", "last", "spent"] _ _ := ⟨F_place_stands, b_place_stands, PySem.W.mg_of X G a_place_stands⟩
  have F_tie_stands := fun_mk (st := top 16) l_tie_stands c_tie_stands k_tie_stands
  have b_tie_stands := F_tie_stands.binds (ps := ["thing", "last", "prices"]) fun _ _ _ _ _ _ us hl => match us, hl with | [_, _, _], _ => rfl
  have D_tie_stands : DefAt K mg "tie_stands" (top 16) ["thing", "last", "prices"] _ _ := ⟨F_tie_stands, b_tie_stands, PySem.W.mg_of X G a_tie_stands⟩
  have F_look_at_places := fun_mk (st := top 17) l_look_at_places c_look_at_places k_look_at_places
  have b_look_at_places := F_look_at_places.binds (ps := ["places"]) fun _ _ _ _ _ _ us hl => match us, hl with | [_], _ => rfl
  have D_look_at_places : DefAt K mg "look_at_places" (top 17) ["places"] _ _ := ⟨F_look_at_places, b_look_at_places, PySem.W.mg_of X G a_look_at_places⟩
  have F_look_at_ties := fun_mk (st := top 18) l_look_at_ties c_look_at_ties k_look_at_ties
  have b_look_at_ties := F_look_at_ties.binds (ps := ["ties", "prices"]) fun _ _ _ _ _ _ us hl => match us, hl with | [_, _], _ => rfl
  have D_look_at_ties : DefAt K mg "look_at_ties" (top 18) ["ties", "prices"] _ _ := ⟨F_look_at_ties, b_look_at_ties, PySem.W.mg_of X G a_look_at_ties⟩
  have F_look_at_web := fun_mk (st := top 19) l_look_at_web c_look_at_web k_look_at_web
  have b_look_at_web := F_look_at_web.binds (ps := ["thing"]) fun _ _ _ _ _ _ us hl => match us, hl with | [_], _ => rfl
  have D_look_at_web : DefAt K mg "look_at_web" (top 19) ["thing"] _ _ := ⟨F_look_at_web, b_look_at_web, PySem.W.mg_of X G a_look_at_web⟩
  have F_is_place := fun_mk (st := top 20) l_is_place c_is_place k_is_place
  have b_is_place := F_is_place.binds (ps := ["prices", "thing"]) fun _ _ _ _ _ _ us hl => match us, hl with | [_, _], _ => rfl
  have D_is_place : DefAt K mg "is_place" (top 20) ["prices", "thing"] _ _ := ⟨F_is_place, b_is_place, PySem.W.mg_of X G a_is_place⟩
  have F_nears_in := fun_mk (st := top 21) l_nears_in c_nears_in k_nears_in
  have b_nears_in := F_nears_in.binds (ps := ["web"]) fun _ _ _ _ _ _ us hl => match us, hl with | [_], _ => rfl
  have D_nears_in : DefAt K mg "nears_in" (top 21) ["web"] _ _ := ⟨F_nears_in, b_nears_in, PySem.W.mg_of X G a_nears_in⟩
  have F_is_set := fun_mk (st := top 23) l_is_set c_is_set k_is_set
  have b_is_set := F_is_set.binds (ps := ["web", "thing"]) fun _ _ _ _ _ _ us hl => match us, hl with | [_, _], _ => rfl
  have D_is_set : DefAt K mg "is_set" (top 23) ["web", "thing"] _ _ := ⟨F_is_set, b_is_set, PySem.W.mg_of X G a_is_set⟩
  have F_look_at_set := fun_mk (st := top 24) l_look_at_set c_look_at_set k_look_at_set
  have b_look_at_set := F_look_at_set.binds (ps := ["web", "thing"]) fun _ _ _ _ _ _ us hl => match us, hl with | [_, _], _ => rfl
  have D_look_at_set : DefAt K mg "look_at_set" (top 24) ["web", "thing"] _ _ := ⟨F_look_at_set, b_look_at_set, PySem.W.mg_of X G a_look_at_set⟩
  have F_all_in := fun_mk (st := top 25) l_all_in c_all_in k_all_in
  have b_all_in := F_all_in.binds (ps := ["places", "chosen"]) fun _ _ _ _ _ _ us hl => match us, hl with | [_, _], _ => rfl
  have D_all_in : DefAt K mg "all_in" (top 25) ["places", "chosen"] _ _ := ⟨F_all_in, b_all_in, PySem.W.mg_of X G a_all_in⟩
  have F_left_by := fun_mk (st := top 26) l_left_by c_left_by k_left_by
  have b_left_by := F_left_by.binds (ps := ["web", "some"]) fun _ _ _ _ _ _ us hl => match us, hl with | [_, _], _ => rfl
  have D_left_by : DefAt K mg "left_by" (top 26) ["web", "some"] _ _ := ⟨F_left_by, b_left_by, PySem.W.mg_of X G a_left_by⟩
  have F_needless := fun_mk (st := top 27) l_needless c_needless k_needless
  have b_needless := F_needless.binds (ps := ["web", "some"]) fun _ _ _ _ _ _ us hl => match us, hl with | [_, _], _ => rfl
  have D_needless : DefAt K mg "needless" (top 27) ["web", "some"] _ _ := ⟨F_needless, b_needless, PySem.W.mg_of X G a_needless⟩
  have F_lean := fun_mk (st := top 28) l_lean c_lean k_lean
  have b_lean := F_lean.binds (ps := ["web", "some"]) fun _ _ _ _ _ _ us hl => match us, hl with | [_, _], _ => rfl
  have D_lean : DefAt K mg "lean" (top 28) ["web", "some"] _ _ := ⟨F_lean, b_lean, PySem.W.mg_of X G a_lean⟩
  have F_law_begun := fun_mk (st := top 30) l_law_begun c_law_begun k_law_begun
  have b_law_begun := F_law_begun.binds (ps := ["_law_script", "_law_k"]) fun _ _ _ _ _ _ us hl => match us, hl with | [_, _], _ => rfl
  have D_law_begun : DefAt K mg "_law_begun" (top 30) ["_law_script", "_law_k"] _ _ := ⟨F_law_begun, b_law_begun, PySem.W.mg_of X G a_law_begun⟩
  have F_law_take := fun_mk (st := top 31) l_law_take c_law_take k_law_take
  have b_law_take := F_law_take.binds (ps := ["_law_state", "_law_many"]) fun _ _ _ _ _ _ us hl => match us, hl with | [_, _], _ => rfl
  have D_law_take : DefAt K mg "_law_take" (top 31) ["_law_state", "_law_many"] _ _ := ⟨F_law_take, b_law_take, PySem.W.mg_of X G a_law_take⟩
  have F_law_places := fun_mk (st := top 32) l_law_places c_law_places k_law_places
  have b_law_places := F_law_places.binds (ps := ["_law_state", "_law_count"]) fun _ _ _ _ _ _ us hl => match us, hl with | [_, _], _ => rfl
  have D_law_places : DefAt K mg "_law_places" (top 32) ["_law_state", "_law_count"] _ _ := ⟨F_law_places, b_law_places, PySem.W.mg_of X G a_law_places⟩
  have F_law_web := fun_mk (st := top 33) l_law_web c_law_web k_law_web
  have b_law_web := F_law_web.binds (ps := ["_law_state", "_law_most"]) fun _ _ _ _ _ _ us hl => match us, hl with | [_, _], _ => rfl
  have D_law_web : DefAt K mg "_law_web" (top 33) ["_law_state", "_law_most"] _ _ := ⟨F_law_web, b_law_web, PySem.W.mg_of X G a_law_web⟩
  have F_law_same := fun_mk (st := top 34) l_law_same c_law_same k_law_same
  have b_law_same := F_law_same.binds (ps := ["_law_found", "_law_due"]) fun _ _ _ _ _ _ us hl => match us, hl with | [_, _], _ => rfl
  have D_law_same : DefAt K mg "_law_same" (top 34) ["_law_found", "_law_due"] _ _ := ⟨F_law_same, b_law_same, PySem.W.mg_of X G a_law_same⟩
  have F_law_copy := fun_mk (st := top 35) l_law_copy c_law_copy k_law_copy
  have b_law_copy := F_law_copy.binds (ps := ["_law_web_here"]) fun _ _ _ _ _ _ us hl => match us, hl with | [_], _ => rfl
  have D_law_copy : DefAt K mg "_law_copy" (top 35) ["_law_web_here"] _ _ := ⟨F_law_copy, b_law_copy, PySem.W.mg_of X G a_law_copy⟩
  have F_law_some := fun_mk (st := top 36) l_law_some c_law_some k_law_some
  have b_law_some := F_law_some.binds (ps := ["_law_state", "_law_web_here"]) fun _ _ _ _ _ _ us hl => match us, hl with | [_, _], _ => rfl
  have D_law_some : DefAt K mg "_law_some" (top 36) ["_law_state", "_law_web_here"] _ _ := ⟨F_law_some, b_law_some, PySem.W.mg_of X G a_law_some⟩
  have F_law_goes := fun_mk (st := top 37) l_law_goes c_law_goes k_law_goes
  have b_law_goes := F_law_goes.binds (ps := ["_law_web_here", "_law_place", "_law_some_here"]) fun _ _ _ _ _ _ us hl => match us, hl with | [_, _, _], _ => rfl
  have D_law_goes : DefAt K mg "_law_goes" (top 37) ["_law_web_here", "_law_place", "_law_some_here"] _ _ := ⟨F_law_goes, b_law_goes, PySem.W.mg_of X G a_law_goes⟩
  have F_law_dearest := fun_mk (st := top 38) l_law_dearest c_law_dearest k_law_dearest
  have b_law_dearest := F_law_dearest.binds (ps := ["_law_left"]) fun _ _ _ _ _ _ us hl => match us, hl with | [_], _ => rfl
  have D_law_dearest : DefAt K mg "_law_dearest" (top 38) ["_law_left"] _ _ := ⟨F_law_dearest, b_law_dearest, PySem.W.mg_of X G a_law_dearest⟩
  have F_law_lean := fun_mk (st := top 39) l_law_lean c_law_lean k_law_lean
  have b_law_lean := F_law_lean.binds (ps := ["_law_web_here", "_law_some_here"]) fun _ _ _ _ _ _ us hl => match us, hl with | [_, _], _ => rfl
  have D_law_lean : DefAt K mg "_law_lean" (top 39) ["_law_web_here", "_law_some_here"] _ _ := ⟨F_law_lean, b_law_lean, PySem.W.mg_of X G a_law_lean⟩
  have F_law := fun_mk (st := top 40) l_law c_law k_law
  have b_law := F_law.binds (ps := ["_law_script"]) fun _ _ _ _ _ _ us hl => match us, hl with | [_], _ => rfl
  have D_law : DefAt K mg "law" (top 40) ["_law_script"] _ _ := ⟨F_law, b_law, PySem.W.mg_of X G a_law⟩
  have tab : PySem.W.tabIn K "lean" = some (tc, tT) := by
    unfold PySem.W.tabIn
    rw [a_lean]
    dsimp only
    rw [l_lean]
    dsimp only
    rw [hcd]
    dsimp only
    rw [lcd]
    dsimp only
    rw [v11]
  refine ⟨PySem.W.fnOf "law" "law" (defArgs (top 40)) (defBody (top 40)) (defScope (top 40)) .none kV_law dc_law pm_law an_law cd_law ct_law, tc, tT, tab, fun s v => .of_eq rfl, fun base _ _ hC hBl => ?_⟩
  have G_is_whole := ok_is_whole (P := l.prog) (w := w) (base := base) B D_is_whole
  have G_is_tuple_of := ok_is_tuple_of (P := l.prog) (w := w) (base := base) B D_is_tuple_of
  have G_is_list_up_to := ok_is_list_up_to (P := l.prog) (w := w) (base := base) B D_is_list_up_to
  have G_is_pair_of_wholes := ok_is_pair_of_wholes (P := l.prog) (w := w) (base := base) B D_is_pair_of_wholes D_is_tuple_of G_is_tuple_of D_is_whole G_is_whole
  have G_place_stands := ok_place_stands (P := l.prog) (w := w) (base := base) B C D_place_stands D_is_pair_of_wholes G_is_pair_of_wholes
  have G_tie_stands := ok_tie_stands (P := l.prog) (w := w) (base := base) B D_tie_stands D_is_pair_of_wholes G_is_pair_of_wholes
  have G_look_at_places := ok_look_at_places (P := l.prog) (w := w) (base := base) B C D_look_at_places D_is_list_up_to G_is_list_up_to D_place_stands G_place_stands
  have G_look_at_ties := ok_look_at_ties (P := l.prog) (w := w) (base := base) B C D_look_at_ties D_is_list_up_to G_is_list_up_to D_tie_stands G_tie_stands
  have G_look_at_web := ok_look_at_web (P := l.prog) (w := w) (base := base) B D_look_at_web D_is_tuple_of G_is_tuple_of D_look_at_places G_look_at_places D_look_at_ties G_look_at_ties
  have G_is_place := ok_is_place (P := l.prog) (w := w) (base := base) B D_is_place D_is_whole G_is_whole
  have G_is_set := ok_is_set (P := l.prog) (w := w) (base := base) B D_is_set D_look_at_web G_look_at_web D_is_place G_is_place
  have G_look_at_set := ok_look_at_set (P := l.prog) (w := w) (base := base) B D_look_at_set D_is_set G_is_set
  have G_marked := ok_marked (P := l.prog) (w := w) (base := base) B D_marked
  have G_left_by := ok_left_by (P := l.prog) (w := w) (base := base) B D_left_by D_look_at_set G_look_at_set D_marked G_marked
  have G_nears_in := ok_nears_in (P := l.prog) (w := w) (base := base) B D_nears_in
  have G_all_in := ok_all_in (P := l.prog) (w := w) (base := base) B D_all_in
  have G_needless := ok_needless (P := l.prog) (w := w) (base := base) B D_needless D_look_at_set G_look_at_set D_nears_in G_nears_in D_marked G_marked D_all_in G_all_in
  have G_lean := ok_lean (P := l.prog) (w := w) (base := base) hC hBl B D_lean D_look_at_set G_look_at_set D_nears_in G_nears_in D_marked G_marked D_all_in G_all_in hcd
  have G_law_begun := ok_law_begun (P := l.prog) (w := w) (base := base) B D_law_begun
  have G_law_take := ok_law_take (P := l.prog) (w := w) (base := base) B D_law_take
  have G_law_places := ok_law_places (P := l.prog) (w := w) (base := base) B D_law_places D_law_take G_law_take
  have G_law_web := ok_law_web (P := l.prog) (w := w) (base := base) B D_law_web D_law_take G_law_take D_law_places G_law_places
  have G_law_same := same_n (P := l.prog) (w := w) (base := base) B D_law_same 6
  have G_law_copy := ok_law_copy (P := l.prog) (w := w) (base := base) B D_law_copy
  have G_law_some := ok_law_some (P := l.prog) (w := w) (base := base) B D_law_some D_law_take G_law_take
  have G_law_goes := ok_law_goes (P := l.prog) (w := w) (base := base) B D_law_goes
  have G_law_dearest := ok_law_dearest (P := l.prog) (w := w) (base := base) B D_law_dearest
  have G_law_lean := ok_law_lean (P := l.prog) (w := w) (base := base) B D_law_lean D_law_dearest G_law_dearest D_law_goes G_law_goes
  exact ok_law B D_law D_law_begun G_law_begun D_law_take G_law_take D_law_web G_law_web D_law_some G_law_some D_law_lean G_law_lean D_law_copy G_law_copy D_lean G_lean D_left_by G_left_by D_law_same G_law_same D_needless G_needless
theorem walk {l : PySem.W.OpenLaw} {q : Program} {loose : List Str} {XP : (Str → Option Value) → Heap → Prop} {YP : World → Heap → Prop} {d : DefRec} {K : Params → PySem.W.Frag} (hn : l.most = some 63) (hdf : d.params.defaults = [])
    (hrec : ((PyProof.Rows.recsOf q).find? fun e => e.name == ("lean" : Str)).isSome = true) (hnt : ∀ w : World, PySem.W.noTabs (K w.params) = true)
    (hY : ∀ (w : World) (h : Heap), YP w h → (K w.params).In h)
    (F : ∀ (w : World) (mg : Str → Option Value) (fa : Addr) (h : Heap), (K w.params).In h → h.Ns mainGlobals mg → mg d.name = some (.ref fa) →
      ∃ (fd : FuncData) (c T : Addr), PySem.W.tabIn (K w.params) "lean" = some (c, T) ∧ (∀ (s : Shared) (u : Value), BindsTo s fd ⟨[u], []⟩ [("_law_script", u)]) ∧ ∀ base : Heap, (K w.params).In base → base.Ns mainGlobals mg → PySem.W.CodeHd base c T → BltAt mg base → FnOk l.prog w (K w.params) mg base CX0 10 fa fd ["_law_script"] (spLaw (K w.params) T)) :
    PySem.W.WalkO q loose XP YP l.row.toRowW d [] (fun f vs => PySem.call f vs) :=
  L2.walk_ofT (n := 63) (k := 10) (x := "_law_script") (tn := "lean") (CX := fun _ => CX0) (sp := fun w T => spLaw (K w.params) T) hn (by decide) hdf ⟨rfl, by decide, by decide⟩ hY hrec hnt F (fun _ _ a T ns hl hS hT => ⟨a, ns, rfl, hS, ⟨_, hT, trivial, .inl rfl⟩, fun _ => rfl⟩) fun _ _ _ _ _ z => z
end My
open PySem PySem.W PyProof.Rows
set_option maxRecDepth 100000 in
set_option maxHeartbeats 0 in
theorem PySem.Challenge.cw_touchall_k11_whole_made_lean_holds : PySem.Challenge.rw_touchall_k11_whole_made_lean.Holds := by
  refine MyHead ?_
  k_fill
  refine My.walk (l := PySem.Challenge.rw_touchall_k11_whole_made_lean) rfl rfl ?hrec ?hnt (fun w h Y => PySem.W.km_in_of Y) ?F
  case hrec => kernel_rfl
  case hnt => intro w; kernel_rfl
  case F =>
    intro w mg fa h KX G hmg
    refine' My.all_mk KX G hmg ?a_is_whole ?l_is_whole ?c_is_whole ?k_is_whole ?a_is_tuple_of ?l_is_tuple_of ?c_is_tuple_of ?k_is_tuple_of ?a_is_pair_of_wholes ?l_is_pair_of_wholes ?c_is_pair_of_wholes ?k_is_pair_of_wholes ?a_is_list_up_to ?l_is_list_up_to ?c_is_list_up_to ?k_is_list_up_to ?a_marked ?l_marked ?c_marked ?k_marked ?a_place_stands ?l_place_stands ?c_place_stands ?k_place_stands ?a_tie_stands ?l_tie_stands ?c_tie_stands ?k_tie_stands ?a_look_at_places ?l_look_at_places ?c_look_at_places ?k_look_at_places ?a_look_at_ties ?l_look_at_ties ?c_look_at_ties ?k_look_at_ties ?a_look_at_web ?l_look_at_web ?c_look_at_web ?k_look_at_web ?a_is_place ?l_is_place ?c_is_place ?k_is_place ?a_nears_in ?l_nears_in ?c_nears_in ?k_nears_in ?a_is_set ?l_is_set ?c_is_set ?k_is_set ?a_look_at_set ?l_look_at_set ?c_look_at_set ?k_look_at_set ?a_all_in ?l_all_in ?c_all_in ?k_all_in ?a_left_by ?l_left_by ?c_left_by ?k_left_by ?a_needless ?l_needless ?c_needless ?k_needless ?a_lean ?l_lean ?c_lean ?k_lean ?a_law_begun ?l_law_begun ?c_law_begun ?k_law_begun ?a_law_take ?l_law_take ?c_law_take ?k_law_take ?a_law_places ?l_law_places ?c_law_places ?k_law_places ?a_law_web ?l_law_web ?c_law_web ?k_law_web ?a_law_same ?l_law_same ?c_law_same ?k_law_same ?a_law_copy ?l_law_copy ?c_law_copy ?k_law_copy ?a_law_some ?l_law_some ?c_law_some ?k_law_some ?a_law_goes ?l_law_goes ?c_law_goes ?k_law_goes ?a_law_dearest ?l_law_dearest ?c_law_dearest ?k_law_dearest ?a_law_lean ?l_law_lean ?c_law_lean ?k_law_lean ?a_law ?l_law ?c_law ?k_law ?z_len ?z_isinstance ?z_all ?z_min ?z_list ?z_dict ?z_int ?z_bool ?z_str ?z_tuple ?z_range ?z_enumerate ?z_zip ?z_max ?z_any ?z_sum ?z_sorted ?n_MOST_PLACES ?n_MOST_TIES ?n_LAST_PLACE ?n_MOST_PRICE ?hcd ?lcd ?v11
    (case a_is_whole => k_is)
    (case l_is_whole => k_is)
    (case c_is_whole => k_is)
    (case k_is_whole => k_is)
    (case a_is_tuple_of => k_is)
    (case l_is_tuple_of => k_is)
    (case c_is_tuple_of => k_is)
    (case k_is_tuple_of => k_is)
    (case a_is_pair_of_wholes => k_is)
    (case l_is_pair_of_wholes => k_is)
    (case c_is_pair_of_wholes => k_is)
    (case k_is_pair_of_wholes => k_is)
    (case a_is_list_up_to => k_is)
    (case l_is_list_up_to => k_is)
    (case c_is_list_up_to => k_is)
    (case k_is_list_up_to => k_is)
    (case a_marked => k_is)
    (case l_marked => k_is)
    (case c_marked => k_is)
    (case k_marked => k_is)
    (case a_place_stands => k_is)
    (case l_place_stands => k_is)
    (case c_place_stands => k_is)
    (case k_place_stands => k_is)
    (case a_tie_stands => k_is)
    (case l_tie_stands => k_is)
    (case c_tie_stands => k_is)
    (case k_tie_stands => k_is)
    (case a_look_at_places => k_is)
    (case l_look_at_places => k_is)
    (case c_look_at_places => k_is)
    (case k_look_at_places => k_is)
    (case a_look_at_ties => k_is)
    (case l_look_at_ties => k_is)
    (case c_look_at_ties => k_is)
    (case k_look_at_ties => k_is)
    (case a_look_at_web => k_is)
    (case l_look_at_web => k_is)
    (case c_look_at_web => k_is)
    (case k_look_at_web => k_is)
    (case a_is_place => k_is)
    (case l_is_place => k_is)
    (case c_is_place => k_is)
    (case k_is_place => k_is)
    (case a_nears_in => k_is)
    (case l_nears_in => k_is)
    (case c_nears_in => k_is)
    (case k_nears_in => k_is)
    (case a_is_set => k_is)
    (case l_is_set => k_is)
    (case c_is_set => k_is)
    (case k_is_set => k_is)
    (case a_look_at_set => k_is)
    (case l_look_at_set => k_is)
    (case c_look_at_set => k_is)
    (case k_look_at_set => k_is)
    (case a_all_in => k_is)
    (case l_all_in => k_is)
    (case c_all_in => k_is)
    (case k_all_in => k_is)
    (case a_left_by => k_is)
    (case l_left_by => k_is)
    (case c_left_by => k_is)
    (case k_left_by => k_is)
    (case a_needless => k_is)
    (case l_needless => k_is)
    (case c_needless => k_is)
    (case k_needless => k_is)
    (case a_lean => k_is)
    (case l_lean => k_is)
    (case c_lean => k_is)
    (case k_lean => k_is)
    (case a_law_begun => k_is)
    (case l_law_begun => k_is)
    (case c_law_begun => k_is)
    (case k_law_begun => k_is)
    (case a_law_take => k_is)
    (case l_law_take => k_is)
    (case c_law_take => k_is)
    (case k_law_take => k_is)
    (case a_law_places => k_is)
    (case l_law_places => k_is)
    (case c_law_places => k_is)
    (case k_law_places => k_is)
    (case a_law_web => k_is)
    (case l_law_web => k_is)
    (case c_law_web => k_is)
    (case k_law_web => k_is)
    (case a_law_same => k_is)
    (case l_law_same => k_is)
    (case c_law_same => k_is)
    (case k_law_same => k_is)
    (case a_law_copy => k_is)
    (case l_law_copy => k_is)
    (case c_law_copy => k_is)
    (case k_law_copy => k_is)
    (case a_law_some => k_is)
    (case l_law_some => k_is)
    (case c_law_some => k_is)
    (case k_law_some => k_is)
    (case a_law_goes => k_is)
    (case l_law_goes => k_is)
    (case c_law_goes => k_is)
    (case k_law_goes => k_is)
    (case a_law_dearest => k_is)
    (case l_law_dearest => k_is)
    (case c_law_dearest => k_is)
    (case k_law_dearest => k_is)
    (case a_law_lean => k_is)
    (case l_law_lean => k_is)
    (case c_law_lean => k_is)
    (case k_law_lean => k_is)
    (case a_law => k_is)
    (case l_law => k_is)
    (case c_law => k_is)
    (case k_law => k_is)
    (case z_len => k_is)
    (case z_isinstance => k_is)
    (case z_all => k_is)
    (case z_min => k_is)
    (case z_list => k_is)
    (case z_dict => k_is)
    (case z_int => k_is)
    (case z_bool => k_is)
    (case z_str => k_is)
    (case z_tuple => k_is)
    (case z_range => k_is)
    (case z_enumerate => k_is)
    (case z_zip => k_is)
    (case z_max => k_is)
    (case z_any => k_is)
    (case z_sum => k_is)
    (case z_sorted => k_is)
    (case n_MOST_PLACES => k_is)
    (case n_MOST_TIES => k_is)
    (case n_LAST_PLACE => k_is)
    (case n_MOST_PRICE => k_is)
    (case hcd => rfl)
    (case lcd => k_is)
    (case v11 => rfl)
#print axioms PySem.Challenge.cw_touchall_k11_whole_made_lean_holds
