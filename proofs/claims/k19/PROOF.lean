import PyProof.Rows.All
import Wide.All
import OpenK.AllK
import Wide.FinOn
import Lean
import PyProof.EqAt
import PyProof.EqKinds
import PyProof.TupleCall
import PyProof.NeKinds
import PyProof.NeData
import PySem.Challenge.RW_touchall_k19_whole_none_costs_less
import PyProof.StationsW
import PyProof.ExcInit
import PyProof.InstStoreFacts
import PyProof.NsDelKeeps
import PyProof.RulesAs
import PyProof.ExcAttrAll.ValueError
import KE.KIsAll
import PyProof.AutoSeq1
import PyProof.Rows.SetFrom
import PyProof.SetRoads
import PyProof.Rows.SortRuns
import PyProof.Rows.SortShell
import KE.KSortTup
import PyProof.Rows.SumAny
section
open PySem PySem.W PyProof.Rows
set_option Elab.async false
set_option maxRecDepth 100000
set_option maxHeartbeats 0
def PySem.W.Fast.tw6372619316201092640 : Nat := 0
def PySem.W.Fast.tw3521003701615117611 : Nat := 0
def PySem.W.Fast.tw1842545590595054091 : Nat := 0
def PySem.W.Fast.tw14781562103584300300 : Nat := 0
def PySem.W.Fast.tw9460297890377761805 : Nat := 0
def PySem.W.Fast.tw13625925112498034575 : Nat := 0
def PySem.W.Fast.tw16599119404929089777 : Nat := 0
def PySem.W.Fast.tw10277216313517438195 : Nat := 0
def PySem.W.Fast.tw14679428800639550772 : Nat := 0
def PySem.W.Fast.tw17423434754506706324 : Nat := 0
def PySem.W.Fast.tw280475905095942100 : Nat := 0
def PySem.W.Fast.tw17883986908372840214 : Nat := 0
def PySem.W.Fast.tw2616039294046917591 : Nat := 0
def PySem.W.Fast.tw12812782517747823736 : Nat := 0
def PySem.W.Fast.tw9706224574610073889 : Nat := 0
open_top MyHead for PySem.Challenge.rw_touchall_k19_whole_none_costs_less
end
-- CHANGE: your row's module here, as the last of these rows
set_option Elab.async false
set_option linter.all false
set_option maxRecDepth 100000
namespace L2
open PySem PySem.Spec PyProof.Rows
abbrev Key := Sum Int Str
def keyIs : Key → Value → Bool
  | .inl k, v => Value.isInt k v
  | .inr x, v => Value.isStrOf x v
def keyH (w : World) : Key → Int
  | .inl k => hashInt k
  | .inr x => hashStr w x
theorem keyIs_shape : ∀ {k : Key} {v : Value}, keyIs k v = true → (∃ i t, k = Sum.inl i ∧ v = Value.int i t) ∨ (∃ x t, k = Sum.inr x ∧ v = Value.str x t)
  | .inl i, v, h => by
    obtain ⟨t, e⟩ := Value.isInt_shape (k := i) (v := v) h
    exact .inl ⟨i, t, rfl, e⟩
  | .inr x, v, h => by
    obtain ⟨t, e⟩ := Value.isStrOf_shape (x := x) (v := v) h
    exact .inr ⟨x, t, rfl, e⟩
theorem keyIs_int (i : Int) (t : Tok) : keyIs (.inl i) (.int i t) = true := by simp [keyIs, Value.isInt]
theorem keyIs_str (x : Str) (t : Tok) : keyIs (.inr x) (.str x t) = true := by simp [keyIs, Value.isStrOf]
theorem key_ll (a b : Int) : decide ((Sum.inl a : Key) = Sum.inl b) = (a == b) := by
  by_cases e : a = b
  · subst e; simp
  · have h : ¬ (Sum.inl a : Key) = Sum.inl b := fun q => e (Sum.inl.inj q)
    rw [decide_eq_false h]
    exact (beq_eq_false_iff_ne.mpr e).symm
theorem key_rr (a b : Str) : decide ((Sum.inr a : Key) = Sum.inr b) = decide (a = b) := by
  by_cases e : a = b
  · subst e; simp
  · have h : ¬ (Sum.inr a : Key) = Sum.inr b := fun q => e (Sum.inr.inj q)
    rw [decide_eq_false h, decide_eq_false e]
theorem key_lr (a : Int) (b : Str) : decide ((Sum.inl a : Key) = Sum.inr b) = false := decide_eq_false (fun q => nomatch q)
theorem key_rl (a : Str) (b : Int) : decide ((Sum.inr a : Key) = Sum.inl b) = false := decide_eq_false (fun q => nomatch q)
def mixKind (prog : Program) (w : World) : PySem.KeyKind prog w Key where
  is := keyIs
  hash := keyH w
  inj := fun v a b ha hb => by
    rcases keyIs_shape ha with ⟨i, t, rfl, rfl⟩ | ⟨x, t, rfl, rfl⟩
    · rcases keyIs_shape hb with ⟨j, u, rfl, e⟩ | ⟨y, u, rfl, e⟩
      · injection e with e1 _; rw [e1]
      · exact nomatch e
    · rcases keyIs_shape hb with ⟨j, u, rfl, e⟩ | ⟨y, u, rfl, e⟩
      · exact nomatch e
      · injection e with e1 _; rw [e1]
  byValue := fun k v h => by
    rcases keyIs_shape h with ⟨i, t, rfl, rfl⟩ | ⟨x, t, rfl, rfl⟩ <;> rfl
  pyHash := fun hv h => by
    rcases keyIs_shape hv with ⟨i, t, rfl, rfl⟩ | ⟨x, t, rfl, rfl⟩
    · exact wpAny_pyHash_int h
    · exact wpAny_pyHash_str h
  eqBool := fun hu hv h => by
    rcases keyIs_shape hu with ⟨i, t, rfl, rfl⟩ | ⟨x, t, rfl, rfl⟩
    · rcases keyIs_shape hv with ⟨j, u, rfl, rfl⟩ | ⟨y, u, rfl, rfl⟩
      · rw [key_ll] at h; exact wpAny_eqBool_int h
      · rw [key_lr] at h; exact SeqAt.EqAt.int_str i t y u _ _ _ _ h
    · rcases keyIs_shape hv with ⟨j, u, rfl, rfl⟩ | ⟨y, u, rfl, rfl⟩
      · rw [key_rl] at h; exact SeqAt.EqAt.str_int x t j u _ _ _ _ h
      · rw [key_rr] at h; exact wpAny_eqBool_str h
  «strs» := fun k x t v h => by
    rcases keyIs_shape h with ⟨i, u, rfl, e⟩ | ⟨y, u, rfl, e⟩
    · exact nomatch e
    · injection e with e1 _
      subst e1
      cases v <;> rfl
theorem mixKind_int (prog : Program) (w : World) (i : Int) (t : Tok) : (mixKind prog w).is (.inl i) (.int i t) = true := keyIs_int i t
theorem mixKind_str (prog : Program) (w : World) (x : Str) (t : Tok) : (mixKind prog w).is (.inr x) (.str x t) = true := keyIs_str x t
end L2
namespace L2
open PySem PySem.Spec PyProof.Rows
inductive V where
  | non | bl (b : Bool) | int (i : Int) | str (x : Str) | byt (b : Array UInt8) | flt (b : UInt64) | ref (a : Addr) | ty (n : String)
  deriving DecidableEq
def RelV : V → Value → Prop
  | .non, u => u = Value.none
  | .bl b, u => u = Value.bool b
  | .int i, u => ∃ t, u = Value.int i t
  | .str x, u => ∃ t, u = Value.str x t
  | .byt b, u => ∃ t, u = Value.bytes b t
  | .flt b, u => ∃ t, u = Value.float b t
  | .ref a, u => u = Value.ref a
  | .ty n, u => u = Value.type n
abbrev Vals : List V → List Value → Prop := Paired RelV
theorem Vals.length {xs : List V} {us : List Value} (r : Vals xs us) : xs.length = us.length := Paired.length r
theorem Vals.get : ∀ {xs : List V} {us : List Value} {i : Nat} {x : V}, Vals xs us → xs[i]? = some x → ∃ u, us[i]? = some u ∧ RelV x u
  | _, _, _, _, .nil, e => by simp at e
  | _, _, 0, _, .cons r _, e => by simp at e; subst e; exact ⟨_, rfl, r⟩
  | _, _, i + 1, x, .cons _ t, e => by
    obtain ⟨u, h1, h2⟩ := Vals.get (i := i) (x := x) t (by simpa using e)
    exact ⟨u, by simpa using h1, h2⟩
theorem Vals.set {x : V} {u : Value} (r : RelV x u) : ∀ {xs : List V} {us : List Value} (i : Nat), Vals xs us → Vals (xs.set i x) (us.set i u)
  | _, _, _, .nil => .nil
  | _, _, 0, .cons _ t => .cons r t
  | _, _, i + 1, .cons q t => .cons q (Vals.set r i t)
theorem Vals.append : ∀ {xs ys : List V} {us ws : List Value}, Vals xs us → Vals ys ws → Vals (xs ++ ys) (us ++ ws)
  | _, _, _, _, .nil, s => s
  | _, _, _, _, .cons r t, s => .cons r (Vals.append t s)
theorem Vals.take : ∀ {xs : List V} {us : List Value} (n : Nat), Vals xs us → Vals (xs.take n) (us.take n)
  | _, _, 0, _ => .nil
  | _, _, _ + 1, .nil => .nil
  | _, _, n + 1, .cons r t => .cons r (Vals.take n t)
theorem Vals.drop : ∀ {xs : List V} {us : List Value} (n : Nat), Vals xs us → Vals (xs.drop n) (us.drop n)
  | _, _, 0, r => r
  | _, _, _ + 1, .nil => .nil
  | _, _, n + 1, .cons _ t => Vals.drop n t
def RelO : Option V → Option Value → Prop
  | some v, some u => RelV v u
  | none, none => True
  | _, _ => False
def KV {κ : Type} : List (κ × V) → List (κ × Value) → Prop := Paired fun (p : κ × V) (q : κ × Value) => p.1 = q.1 ∧ RelV p.2 q.2
def kV : Key → V
  | .inl i => .int i
  | .inr x => .str x
inductive HO where
  | lst (xs : List V)
  | tup (xs : List V)
  | dK (kvs : List (Key × V)) | dT (kvs : List (List Key × V))
  | set (S : Int → Bool) (n : Nat)
  | ins (C dx : Addr) (fs : List (Str × V))
  | own (x : Addr)
  | xd (fs : List (Str × V))
  | met (f x : Addr)
  | rng (lo hi : Int)
  | frz (o : Obj) (u : HO)
  | tbl (ps : Array Value)
  | ext (φ : Heap → Prop)
abbrev Hp := Addr → Option HO
def upd (H : Hp) (a : Addr) (o : HO) : Hp := fun b => if b = a then some o else H b
theorem upd_same {H : Hp} {a : Addr} {o : HO} : upd H a o a = some o := by unfold upd; rw [if_pos rfl]
theorem upd_ne {H : Hp} {a b : Addr} {o : HO} (h : b ≠ a) : upd H a o b = H b := by unfold upd; rw [if_neg h]
theorem upd_upd {H : Hp} {a : Addr} {o u : HO} : upd (upd H a o) a u = upd H a u := by
  funext b; unfold upd; split <;> rfl
theorem ne_of {H : Hp} {a b : Addr} {o u : HO} (h : H a = some o) (h' : H b = some u) (d : o ≠ u) : a ≠ b := by
  intro e; subst e; rw [h] at h'; exact d (Option.some.inj h')
theorem ne_of_none {H : Hp} {a b : Addr} {o : HO} (h : H a = some o) (h' : H b = none) : a ≠ b := by
  intro e; subst e; rw [h] at h'; cases h'
section
variable (P : Program) (w : World)
def ObjOk (H : Hp) (h : Heap) (a : Addr) : HO → Prop
  | .lst xs => xs.length ≤ sizeLine ∧ ∃ (its : List Value) (n : Nat), Vals xs its ∧ h.get? a = some { cls := .type "list", data := .seq its.toArray n }
  | .tup xs => xs.length ≤ sizeLine ∧ ∃ its : List Value, Vals xs its ∧ IsTup h a its.toArray
  | .dK kvs => kvs.length ≤ sizeLine ∧ (a == sysModules) = false ∧ ∃ vs, KV kvs vs ∧ h.DictOf (mixKind P w) a vs
  | .dT kvs => kvs.length ≤ sizeLine ∧ (a == sysModules) = false ∧ ∃ xs : List (List Key × Addr × Value),
      Paired (fun (p : List Key × V) (q : List Key × Addr × Value) => p.1 = q.1 ∧ H q.2.1 = some (.tup (p.1.map kV)) ∧ RelV p.2 q.2.2) kvs xs ∧
      ∃ o es ep, h.get? a = some o ∧ o.ExactDict ∧ o.data = .dict es ep ∧ es.toList = xs.map (entryOfKey (tupleKind (mixKind P w))) ∧ (xs.map (·.1)).Nodup
  | .set S n => h.SetOf (intKind P w) a S n
  | .ins C dx fs => H dx = some (.own a) ∧ fs.length ≤ 1000 ∧ dx ≠ a ∧ h.get? a = some (PySem.W.instObj C dx) ∧
      ∃ mA, h.Ns1 dx mA ∧ (∀ f, RelO (fs.lookup f) (mA f)) ∧ PySem.Within mA (fs.map (·.1))
  | .own _ => ∃ o, h.get? a = some o
  | .xd fs => ∃ mA, h.Ns1 a mA ∧ ∀ f, RelO (fs.lookup f) (mA f)
  | .rng lo hi => ∃ t u v, h.get? a = some { cls := .type "range", data := .fields #[.int lo t, .int hi u, .int 1 v] }
  | .frz o u => h.get? a = some o ∧ ObjOk H h a u
  | .tbl ps => h.get? a = some { cls := .none, data := .fields ps }
  | .met f x => h.get? a = some (PySem.W.methodObj (.ref f) (.ref x))
  | .ext φ => φ h ∧ (∃ o, h.get? a = some o) ∧ ∀ h1 h2 : Heap, φ h1 → (∀ o, h1.get? a = some o → h2.get? a = some o) → φ h2
def HOk (H : Hp) (h : Heap) : Prop := ∀ a o, H a = some o → ObjOk P w H h a o
end
section
variable {P : Program} {w : World} {H H' : Hp} {h h' : Heap} {a : Addr} {o : HO}
theorem ObjOk.lt (x : ObjOk P w H h a o) : a < h.objs.size := by
  cases o with
  | lst xs => obtain ⟨_, _, _, _, e⟩ := x; exact Heap.lt_size e
  | tup xs => obtain ⟨_, _, _, p⟩ := x; exact p.lt
  | dK kvs => obtain ⟨_, _, _, _, o, _, _, e, _⟩ := x; exact Heap.lt_size e
  | dT kvs => obtain ⟨_, _, _, _, o, _, _, e, _⟩ := x; exact Heap.lt_size e
  | set S n => obtain ⟨o, _, _, _, e, _⟩ := x; exact Heap.lt_size e
  | ins C dx fs => obtain ⟨_, _, _, e, _⟩ := x; exact Heap.lt_size e
  | own y => obtain ⟨_, e⟩ := x; exact Heap.lt_size e
  | xd fs => obtain ⟨_, ⟨_, _, _, e, _⟩, _⟩ := x; exact Heap.lt_size e
  | rng lo hi => obtain ⟨_, _, _, e⟩ := x; exact Heap.lt_size e
  | frz ob u => obtain ⟨e, _⟩ := x; exact Heap.lt_size e
  | tbl ps => exact Heap.lt_size (show h.get? a = some _ from x)
  | met f y => exact Heap.lt_size (show h.get? a = some _ from x)
  | ext φ => obtain ⟨_, ⟨_, e⟩, _⟩ := x; exact Heap.lt_size e
theorem Paired.mapP {α β : Type} {F G : α → β → Prop} : ∀ {l₁ : List α} {l₂ : List β}, Paired F l₁ l₂ → (∀ a b, F a b → G a b) → Paired G l₁ l₂
  | _, _, .nil, _ => .nil
  | _, _, .cons r t, f => .cons (f _ _ r) (Paired.mapP t f)
theorem ObjOk.stay (x : ObjOk P w H h a o) (k : ∀ b u, (b = a ∨ H b = some (.own a)) → h.get? b = some u → h'.get? b = some u)
    (ho : ∀ b, H b = some (.own a) → H' b = some (.own a)) (ht : ∀ b xs, H b = some (.tup xs) → H' b = some (.tup xs)) : ObjOk P w H' h' a o := by
  induction o with
  | lst xs => obtain ⟨z, its, n, r, e⟩ := x; exact ⟨z, its, n, r, k _ _ (.inl rfl) e⟩
  | tup xs => obtain ⟨z, its, r, ob, e, c⟩ := x; exact ⟨z, its, r, ob, k _ _ (.inl rfl) e, c⟩
  | dK kvs => obtain ⟨z, y, vs, r, ob, es, ep, e, c⟩ := x; exact ⟨z, y, vs, r, ob, es, ep, k _ _ (.inl rfl) e, c⟩
  | dT kvs =>
    obtain ⟨z, y, xs, r, ob, es, ep, e, c⟩ := x
    exact ⟨z, y, xs, Paired.mapP r fun p q z => ⟨z.1, ht _ _ z.2.1, z.2.2⟩, ob, es, ep, k _ _ (.inl rfl) e, c⟩
  | set S n => obtain ⟨ob, es, ep, t, e, c⟩ := x; exact ⟨ob, es, ep, t, k _ _ (.inl rfl) e, c⟩
  | ins C dx fs =>
    obtain ⟨d, z, ne, e, mA, ⟨od, es, ep, e2, c⟩, r⟩ := x
    exact ⟨ho _ d, z, ne, k _ _ (.inl rfl) e, mA, ⟨od, es, ep, k _ _ (.inr d) e2, c⟩, r⟩
  | own y => obtain ⟨ob, e⟩ := x; exact ⟨ob, k _ _ (.inl rfl) e⟩
  | xd fs => obtain ⟨mA, ⟨od, es, ep, e, c⟩, r⟩ := x; exact ⟨mA, ⟨od, es, ep, k _ _ (.inl rfl) e, c⟩, r⟩
  | rng lo hi => obtain ⟨t, u, v, e⟩ := x; exact ⟨t, u, v, k _ _ (.inl rfl) e⟩
  | frz ob u ih => obtain ⟨e, q⟩ := x; exact ⟨k _ _ (.inl rfl) e, ih q⟩
  | tbl ps =>
    have e : h.get? a = some { cls := .none, data := .fields ps } := x
    show h'.get? a = some { cls := .none, data := .fields ps }
    exact k a _ (.inl rfl) e
  | met f y =>
    have e : h.get? a = some (PySem.W.methodObj (.ref f) (.ref y)) := x
    show h'.get? a = some (PySem.W.methodObj (.ref f) (.ref y))
    exact k a _ (.inl rfl) e
  | ext φ => obtain ⟨p, ⟨o, e⟩, st⟩ := x; exact ⟨st _ _ p fun o q => k _ _ (.inl rfl) q, ⟨o, k _ _ (.inl rfl) e⟩, st⟩
theorem HOk.lt (x : HOk P w H h) (e : H a = some o) : a < h.objs.size := (x a o e).lt
theorem HOk.fresh (x : HOk P w H h) (e : h.objs.size ≤ a) : H a = none := by
  cases q : H a with
  | none => rfl
  | some u => exact absurd (Nat.lt_of_lt_of_le (x.lt q) e) (Nat.lt_irrefl _)
theorem HOk.kept (x : HOk P w H h) (k : ∀ b u, h.get? b = some u → h'.get? b = some u) : HOk P w H h' := fun a o e =>
  (x a o e).stay (fun b u _ q => k b u q) (fun _ q => q) fun _ _ q => q
theorem HOk.laid (x : HOk P w H h) (k : ∀ b u, h.get? b = some u → h'.get? b = some u) (hp : h.objs.size ≤ a) (new : ObjOk P w (upd H a o) h' a o) : HOk P w (upd H a o) h' := fun b u e => by
  have hn := x.fresh hp
  by_cases hb : b = a
  · subst hb; rw [upd_same] at e; cases e; exact new
  · rw [upd_ne hb] at e
    exact (x b u e).stay (fun c v _ q => k c v q) (fun c q => by rw [upd_ne (ne_of_none q hn)]; exact q) fun c xs q => by rw [upd_ne (ne_of_none q hn)]; exact q
end
def Rd (H : Hp) (a : Addr) (u : HO) : Prop := H a = some u ∨ ∃ o, H a = some (.frz o u)
theorem Rd.of {H : Hp} {a : Addr} {u : HO} (h : H a = some u) : Rd H a u := .inl h
theorem Rd.ok {P : Program} {w : World} {H : Hp} {h : Heap} {a : Addr} {u : HO} (r : Rd H a u) (x : HOk P w H h) : ObjOk P w H h a u := by
  rcases r with r | ⟨o, r⟩
  · exact x a u r
  · obtain ⟨_, q⟩ := x a _ r
    exact q
def Mut : Option HO → Prop
  | some (.lst _) => True
  | some (.dK _) => True
  | some (.dT _) => True
  | some (.set _ _) => True
  | some (.ins _ _ _) => True
  | some (.ext _) => True
  | _ => False
section
variable {P : Program} {w : World} {H : Hp} {h h' : Heap} {x e : Addr} {o' : HO}
theorem HOk.write (ok : HOk P w H h) (mu : Mut (H x)) (he : e = x ∨ H e = some (.own x)) (k : ∀ b u, b ≠ e → h.get? b = some u → h'.get? b = some u) (heo : ∃ u, h'.get? e = some u)
    (new : ObjOk P w (upd H x o') h' x o') : HOk P w (upd H x o') h' := fun b u q => by
  have nown : ∀ c y, H c = some (.own y) → c ≠ x := fun c y r z => by subst z; rw [r] at mu; exact mu
  have ntup : ∀ c xs, H c = some (.tup xs) → c ≠ x := fun c xs r z => by subst z; rw [r] at mu; exact mu
  by_cases hb : b = x
  · subst hb; rw [upd_same] at q; cases q; exact new
  · rw [upd_ne hb] at q
    by_cases hbe : b = e
    · have q' : H b = some (.own x) := by
        rcases he with z | z
        · exact absurd (hbe.trans z) hb
        · rw [hbe]; exact z
      rw [q] at q'; cases q'
      obtain ⟨v, hv⟩ := heo
      exact ⟨v, by rw [hbe]; exact hv⟩
    · refine (ok b u q).stay (fun c v hc r => k c v ?_ r) (fun c r => by rw [upd_ne (nown c b r)]; exact r) fun c xs r => by rw [upd_ne (ntup c xs r)]; exact r
      rcases hc with rfl | hc
      · exact hbe
      · rintro rfl
        rcases he with z | z
        · exact nown c b hc z
        · rw [hc] at z; cases z; exact hb rfl
end
structure Un (fs ex : List Addr) (H H' : Hp) (h h' : Heap) : Prop where
  keep : ∀ b o, h.get? b = some o → H b = none → b ∉ fs → b ∉ ex → h'.get? b = some o
  slot : ∀ b o, h.get? b = some o → H b = none → b ∈ fs → b ∉ ex → ∃ sl, h'.get? b = some { o with slots := sl }
  free : ∀ b o, h.get? b = some o → H b = none → b ∉ ex → H' b = none
  there : ∀ b o, h.get? b = some o → b ∉ ex → ∃ o', h'.get? b = some o'
  tups : ∀ b xs, H b = some (.tup xs) → H' b = some (.tup xs)
  frzs : ∀ b o u, H b = some (.frz o u) → H' b = some (.frz o u)
  tbls : ∀ b ps, H b = some (.tbl ps) → ∃ more, H' b = some (.tbl (ps ++ more))
section
variable {fs fs' ex ex' : List Addr} {H H1 H2 : Hp} {h h1 h2 h' : Heap} {a x e : Addr} {o : HO}
theorem Un.any (u : Un fs ex H H1 h h1) {b : Addr} {ob : Obj} (q : h.get? b = some ob) (n : H b = none) (hx : b ∉ ex) : ∃ sl, h1.get? b = some { ob with slots := sl } := by
  by_cases hb : b ∈ fs
  · exact u.slot b ob q n hb hx
  · exact ⟨ob.slots, u.keep b ob q n hb hx⟩
theorem Un.trans (a : Un fs ex H H1 h h1) (b : Un fs ex H1 H2 h1 h2) : Un fs ex H H2 h h2 where
  keep := fun c ob q n hc hx => b.keep c ob (a.keep c ob q n hc hx) (a.free c ob q n hx) hc hx
  slot := fun c ob q n hc hx => by
    obtain ⟨sl, e1⟩ := a.slot c ob q n hc hx
    obtain ⟨sl', e2⟩ := b.slot c _ e1 (a.free c ob q n hx) hc hx
    exact ⟨sl', e2⟩
  free := fun c ob q n hx => by
    obtain ⟨o', e1⟩ := a.there c ob q hx
    exact b.free c o' e1 (a.free c ob q n hx) hx
  there := fun c ob q hx => by
    obtain ⟨o', e1⟩ := a.there c ob q hx
    exact b.there c o' e1 hx
  tups := fun c xs q => b.tups c xs (a.tups c xs q)
  frzs := fun c ob xs q => b.frzs c ob xs (a.frzs c ob xs q)
  tbls := fun c ps q => by
    obtain ⟨m1, e1⟩ := a.tbls c ps q
    obtain ⟨m2, e2⟩ := b.tbls c _ e1
    exact ⟨m1 ++ m2, by rw [e2, Array.append_assoc]⟩
theorem Un.kept (k : ∀ b u, h.get? b = some u → h'.get? b = some u) : Un fs ex H H h h' :=
  ⟨fun b ob q _ _ _ => k b ob q, fun b ob q _ _ _ => ⟨ob.slots, k b ob q⟩, fun _ _ _ n _ => n, fun b ob q _ => ⟨ob, k b ob q⟩, fun _ _ q => q, fun _ _ _ q => q, fun _ ps q => ⟨#[], by rw [q]; simp⟩⟩
theorem Un.refl : Un fs ex H H h h := Un.kept fun _ _ q => q
theorem Un.laid (k : ∀ b u, h.get? b = some u → h'.get? b = some u) (hp : h.objs.size ≤ a) (hn : H a = none) : Un fs ex H (upd H a o) h h' where
  keep := fun b u q _ _ _ => k b u q
  slot := fun b u q _ _ _ => ⟨u.slots, k b u q⟩
  free := fun b u q n _ => by rw [upd_ne (Nat.ne_of_lt (Nat.lt_of_lt_of_le (Heap.lt_size q) hp))]; exact n
  there := fun b u q _ => ⟨u, k b u q⟩
  tups := fun b xs q => by rw [upd_ne (ne_of_none q hn)]; exact q
  frzs := fun b u xs q => by rw [upd_ne (ne_of_none q hn)]; exact q
  tbls := fun b ps q => ⟨#[], by rw [upd_ne (ne_of_none q hn), q]; simp⟩
theorem Un.write (mu : Mut (H x)) (he : e = x ∨ H e = some (.own x)) (k : ∀ b u, b ≠ e → h.get? b = some u → h'.get? b = some u) (heo : ∃ u, h'.get? e = some u) : Un fs ex H (upd H x o) h h' := by
  have hx : ∀ b, H b = none → b ≠ x := fun b n z => by subst z; rw [n] at mu; exact mu
  have hb : ∀ b, H b = none → b ≠ e := fun b n z => by
    subst z
    rcases he with r | r
    · exact hx b n r
    · rw [n] at r; cases r
  have hm : ∀ b u, H b = some u → ¬ Mut (some u) → b ≠ x := fun b u q nm z => by subst z; rw [q] at mu; exact nm mu
  refine ⟨fun b u q n _ _ => k b u (hb b n) q, fun b u q n _ _ => ⟨u.slots, k b u (hb b n) q⟩, fun b u q n _ => by rw [upd_ne (hx b n)]; exact n, fun b u q _ => ?_,
    fun b xs q => by rw [upd_ne (hm b _ q fun z => z)]; exact q, fun b u xs q => by rw [upd_ne (hm b _ q fun z => z)]; exact q, fun b ps q => ⟨#[], by rw [upd_ne (hm b _ q fun z => z), q]; simp⟩⟩
  by_cases hbe : b = e
  · subst hbe; exact heo
  · exact ⟨u, k b u hbe q⟩
theorem Un.mono (u : Un fs ex H H1 h h1) (hs : ∀ b ∈ fs, b ∈ fs') (hx : ∀ b ∈ ex, b ∈ ex') : Un fs' ex' H H1 h h1 :=
  ⟨fun b ob q n hb he => u.keep b ob q n (fun z => hb (hs b z)) fun z => he (hx b z), fun _ _ q n _ he => u.any q n fun z => he (hx _ z), fun b ob q n he => u.free b ob q n fun z => he (hx b z), fun b ob q he => u.there b ob q fun z => he (hx b z), u.tups, u.frzs, u.tbls⟩
end
def trk (h : Heap) (H : Hp) : List Addr := (List.range h.objs.size).filter fun a => (H a).isSome
def hidT (h : Heap) (H : Hp) : Heap := PySem.W.hideAll h (trk h H)
theorem hidT_size (h : Heap) (H : Hp) : (hidT h H).objs.size = h.objs.size := PySem.W.hideAll_size _ _
theorem hidT_get {h : Heap} {H : Hp} {b : Addr} {o : Obj} (e : h.get? b = some o) (n : H b = none) : (hidT h H).get? b = some o :=
  PySem.W.hideAll_get _ e fun hm => by
    have q : (H b).isSome = true := (List.mem_filter.mp hm).2
    rw [n] at q; simp at q
theorem of_hidT {h : Heap} {H : Hp} {b : Addr} {o : Obj} (e : (hidT h H).get? b = some o) : h.get? b = some o ∧ H b = none := by
  have e' : h.get? b = some o := PySem.W.of_hideAll (trk h H) e
  refine ⟨e', ?_⟩
  cases q : H b with
  | none => rfl
  | some x =>
    have hm : b ∈ trk h H := List.mem_filter.mpr ⟨List.mem_range.mpr (Heap.lt_size e'), by simp [q]⟩
    have z : (hidT h H).get? b = none := PySem.W.hideAll_none (trk h H) hm
    rw [z] at e; cases e
end L2
namespace L2
open PySem PySem.Spec PyProof.Rows
structure Mod (K : PySem.W.Frag) (mg : Str → Option Value) (base : Heap) : Prop where
  kin : K.In base
  glob : base.Ns mainGlobals mg
  blt : ∃ mb, base.Ns builtinsNs mb ∧ ∀ x : Str, x ≠ "__name__" → mb x = bootBuiltins x
  nolimit : base.NoLimit
structure Cx where
  prog : Program
  w : World
  K : PySem.W.Frag
  mg : Str → Option Value
  base : Heap
  A : Around
  N : List Str
  s₀ : Shared
  H₀ : Hp
  env : Env
  outer : List Env
  stack : List Env
  ex : List Addr
  fn : Str → Bool
  calm : Bool
  pn : List (Addr × Obj)
  xe : Value → Shared → Prop
def frs (l : List Env) : List Addr := l.filterMap (·.frame)
abbrev Cx.fs (X : Cx) : List Addr := frs X.outer
def Vis (sc : Scope) (x : Str) : Prop := sc.names.lookup x = some .local ∨ sc.names.lookup x = some .cell ∨ sc.names.lookup x = some .free
def Loc (sc : Scope) (x : Str) : Prop := sc.names.lookup x = some .local ∨ sc.names.lookup x = some .cell
def Look (env : Env) (h : Heap) (m : Str → Option Value) (x : Str) (u : Value) : Prop :=
  (env.kindOf x = some .local ∧ m x = some u) ∨ ((env.kindOf x = some .cell ∨ env.kindOf x = some .free) ∧ ∃ c, env.cells.lookup x = some c ∧ h.IsCell c (some u))
structure Cx.Ok (X : Cx) : Prop where
  mod : Mod X.K X.mg X.base
  kind : X.env.scope.kind = .function
  glob : X.env.globals = mainGlobals
  blt : X.env.builtins = builtinsNs
  above : X.s₀.heap.objs.size ≤ X.env.locals
  inj : ∀ x y c, X.env.cells.lookup x = some c → X.env.cells.lookup y = some c → x = y
  has : ∀ x, (X.env.kindOf x = some .cell ∨ X.env.kindOf x = some .free) → ∃ c, X.env.cells.lookup x = some c
  cab : ∀ x c, X.fn x = true → X.env.cells.lookup x = some c → X.s₀.heap.objs.size ≤ c
  hd : X.calm = true → X.A.handled = none
  frames : X.A.frames = some X.stack
  stk : X.stack = X.outer ∨ (X.stack = X.env :: X.outer ∧ X.env.frame = some X.env.locals)
  exf : ∀ b ∈ X.ex, b ≠ X.env.locals ∧ ∀ x c, X.env.cells.lookup x = some c → c ≠ b
  bs : ∀ b o, X.base.get? b = some o → X.s₀.heap.get? b = some o ∧ X.H₀ b = none
  bsz : X.base.objs.size ≤ X.s₀.heap.objs.size
  noex : ∀ b o, X.base.get? b = some o → b ∉ X.ex
  exfs : ∀ b ∈ X.ex, b ∉ X.fs
  funs : X.s₀.heap.FunFrames X.base X.outer
  frf : ∀ b ∈ X.fs, X.H₀ b = none
structure Inv (X : Cx) (pins : List (Addr × Obj)) (σ : List (Option V)) (H : Hp) (s : Shared) : Prop where
  ok : X.Ok
  os : s.os = X.s₀.os
  bare : AllBare s.gens
  base : Un X.fs X.ex X.H₀ H X.s₀.heap s.heap
  loc : ∃ m, s.heap.Ns X.env.locals m ∧ ∀ (i : Nat) (x : Str) (v : V), X.N[i]? = some x → σ[i]? = some (some v) → Vis X.env.scope x → ∃ u, RelV v u ∧ Look X.env s.heap m x u
  cell : ∀ x c, X.env.cells.lookup x = some c → ∃ v, s.heap.IsCell c v
  free : H X.env.locals = none
  freeC : ∀ x c, X.env.cells.lookup x = some c → H c = none
  pin : ∀ p ∈ X.pn ++ pins, s.heap.get? p.1 = some p.2 ∧ H p.1 = none ∧ p.1 ≠ X.env.locals ∧ p.1 ∉ X.fs ∧ ∀ v, p.2.data ≠ .cell v
  hok : HOk X.prog X.w H s.heap
  len : σ.length = X.N.length
section
variable {X : Cx} {pins : List (Addr × Obj)} {σ : List (Option V)} {H H' : Hp} {s : Shared} {h' : Heap}
theorem Cx.Ok.nofr (ok : X.Ok) {b : Addr} {o : Obj} (e : X.base.get? b = some o) : b ∉ X.fs := fun hb => by
  have := (ok.funs.mem hb).1
  rw [e] at this; cases this
theorem Inv.bs (I : Inv X pins σ H s) : ∀ b o, X.base.get? b = some o → s.heap.get? b = some o ∧ H b = none := fun b o e =>
  ⟨I.base.keep b o (I.ok.bs b o e).1 (I.ok.bs b o e).2 (I.ok.nofr e) (I.ok.noex b o e), I.base.free b o (I.ok.bs b o e).1 (I.ok.bs b o e).2 (I.ok.noex b o e)⟩
theorem Inv.bk (I : Inv X pins σ H s) : ∀ b o, X.base.get? b = some o → s.heap.get? b = some o := fun b o e => (I.bs b o e).1
theorem Inv.mod (I : Inv X pins σ H s) : Mod X.K X.mg X.base := I.ok.mod
theorem Inv.kIn (I : Inv X pins σ H s) : X.K.In s.heap := I.ok.mod.kin.keeps I.bk
theorem Inv.lt (I : Inv X pins σ H s) : X.env.locals < s.heap.objs.size := let ⟨_, hn, _⟩ := I.loc; hn.lt
theorem Inv.sz (I : Inv X pins σ H s) : X.s₀.heap.objs.size ≤ s.heap.objs.size := Nat.le_trans I.ok.above (Nat.le_of_lt I.lt)
theorem Inv.nofs (I : Inv X pins σ H s) {a : Addr} (h : s.heap.objs.size ≤ a) : a ∉ X.fs := fun hb => by
  obtain ⟨_, o, ho, _⟩ := I.ok.funs.mem hb
  exact absurd (Nat.lt_of_lt_of_le (Heap.lt_size ho) (Nat.le_trans I.sz h)) (Nat.lt_irrefl _)
theorem Inv.cne (I : Inv X pins σ H s) : ∀ x c, X.env.cells.lookup x = some c → c ≠ X.env.locals := fun x c e z => by
  obtain ⟨v, o, ho, hd⟩ := I.cell x c e
  obtain ⟨m, ⟨o', es, ep, ho', hd', _⟩, _⟩ := I.loc
  rw [z, ho'] at ho; cases ho; rw [hd'] at hd; cases hd
theorem Inv.funs (I : Inv X pins σ H s) : s.heap.FunFrames X.base X.outer := by
  have all : ∀ (l : List Env), (∀ b ∈ frs l, b ∈ X.fs) → X.s₀.heap.FunFrames X.base l → s.heap.FunFrames X.base l := by
    intro l
    induction l with
    | nil => intro _ _; trivial
    | cons env r ih =>
      intro hs hl
      obtain ⟨hk, ⟨L, o, hf, hn, ho, hd⟩, hr⟩ := hl
      have hL : L ∈ X.fs := hs L (by unfold frs; rw [List.filterMap_cons, hf]; exact List.mem_cons_self)
      obtain ⟨sl, e⟩ := I.base.slot L o ho (I.ok.frf L hL) hL fun z => I.ok.exfs L z hL
      exact ⟨hk, ⟨L, _, hf, hn, e, hd⟩, ih (fun b hb => hs b (by unfold frs; rw [List.filterMap_cons, hf]; exact List.mem_cons_of_mem _ hb)) hr⟩
  exact all X.outer (fun _ hb => hb) I.ok.funs
theorem Inv.stack (I : Inv X pins σ H s) : s.heap.FunFrames X.base X.stack := by
  rcases I.ok.stk with e | ⟨e, hf⟩
  · rw [e]; exact I.funs
  · rw [e]
    obtain ⟨m, hn, _⟩ := I.loc
    refine .cons (by rw [I.ok.kind]; decide) hf hn ?_ I.funs
    exact Heap.get?_none_of_le (Nat.le_trans I.ok.bsz I.ok.above)
theorem Inv.stkSub (I : Inv X pins σ H s) : ∀ b ∈ frs X.stack, b ∈ X.env.locals :: X.fs := fun b hb => by
  rcases I.ok.stk with e | ⟨e, hf⟩
  · rw [e] at hb; exact List.mem_cons_of_mem _ hb
  · rw [e] at hb
    unfold frs at hb
    rw [List.filterMap_cons, hf] at hb
    exact hb
theorem Inv.stkFree (I : Inv X pins σ H s) : ∀ b ∈ frs X.stack, H b = none := fun b hb => by
  rcases List.mem_cons.mp (I.stkSub b hb) with e | hb
  · rw [e]; exact I.free
  · obtain ⟨_, o, ho, _⟩ := I.ok.funs.mem hb
    exact I.base.free b o ho (I.ok.frf b hb) fun z => I.ok.exfs b z hb
theorem Inv.step {g' : Array GenState} {t' : Nat} {d' : Drawn} {ch : List Addr} (I : Inv X pins σ H s)
    (hch : ∀ b ∈ ch, (b ∈ X.ex ∨ X.s₀.heap.objs.size ≤ b) ∧ b ≠ X.env.locals ∧ (∀ x c, X.env.cells.lookup x = some c → c ≠ b) ∧ ∀ p ∈ X.pn ++ pins, p.1 ≠ b)
    (keep : ∀ b o, b ≠ X.env.locals → b ∉ X.fs → b ∉ ch → s.heap.get? b = some o → H b = none → h'.get? b = some o)
    (slot : ∀ b o, b ≠ X.env.locals → b ∈ X.fs → b ∉ ch → s.heap.get? b = some o → H b = none → ∃ sl, h'.get? b = some { o with slots := sl }) (free : ∀ b o, b ∉ ch → s.heap.get? b = some o → H b = none → H' b = none)
    (there : ∀ b o, b ∉ ch → s.heap.get? b = some o → ∃ o', h'.get? b = some o')
    (tups : ∀ b xs, H b = some (.tup xs) → H' b = some (.tup xs)) (frzs : ∀ b o u, H b = some (.frz o u) → H' b = some (.frz o u)) (tbls : ∀ b ps, H b = some (.tbl ps) → ∃ more, H' b = some (.tbl (ps ++ more)))
    (ns : ∀ m, s.heap.Ns X.env.locals m → h'.Ns X.env.locals m) (hok : HOk X.prog X.w H' h') (hg : AllBare g') :
    Inv X pins σ H' { s with heap := h', gens := g', drawn := d', toks := t' } := by
  have neL : ∀ b o, X.s₀.heap.get? b = some o → b ≠ X.env.locals := fun b o e => Nat.ne_of_lt (Nat.lt_of_lt_of_le (Heap.lt_size e) I.ok.above)
  have neC : ∀ b o, X.s₀.heap.get? b = some o → b ∉ X.ex → b ∉ ch := fun b o e hx hb => by
    rcases (hch b hb).1 with z | z
    · exact hx z
    · exact absurd (Nat.lt_of_lt_of_le (Heap.lt_size e) z) (Nat.lt_irrefl _)
  have cellK : ∀ x c, X.env.cells.lookup x = some c → ∀ v, s.heap.IsCell c v → h'.IsCell c v := fun x c e v ⟨o, ho, hd⟩ => by
    have nch : c ∉ ch := fun z => (hch c z).2.2.1 x c e rfl
    by_cases hc : c ∈ X.fs
    · obtain ⟨sl, q⟩ := slot c o (I.cne x c e) hc nch ho (I.freeC x c e)
      exact ⟨_, q, hd⟩
    · exact ⟨o, keep c o (I.cne x c e) hc nch ho (I.freeC x c e), hd⟩
  refine ⟨I.ok, I.os, hg, ⟨fun b o e n hb hx => ?_, fun b o e n hb hx => ?_, fun b o e n hx => ?_, fun b o e hx => ?_, fun b xs e => tups b xs (I.base.tups b xs e), fun b o xs e => frzs b o xs (I.base.frzs b o xs e), fun b ps e => ?_⟩, ?_, fun x c e => ?_, ?_, fun x c e => ?_, fun p hp => ?_, hok, I.len⟩
  · exact keep b o (neL b o e) hb (neC b o e hx) (I.base.keep b o e n hb hx) (I.base.free b o e n hx)
  · obtain ⟨sl, e1⟩ := I.base.slot b o e n hb hx
    obtain ⟨sl', e2⟩ := slot b _ (neL b o e) hb (neC b o e hx) e1 (I.base.free b o e n hx)
    exact ⟨sl', e2⟩
  · obtain ⟨o', e1⟩ := I.base.there b o e hx
    exact free b o' (neC b o e hx) e1 (I.base.free b o e n hx)
  · obtain ⟨o', e1⟩ := I.base.there b o e hx
    exact there b o' (neC b o e hx) e1
  · obtain ⟨m1, e1⟩ := I.base.tbls b ps e
    obtain ⟨m2, e2⟩ := tbls b _ e1
    exact ⟨m1 ++ m2, by rw [e2, Array.append_assoc]⟩
  · obtain ⟨m, hn, hl⟩ := I.loc
    refine ⟨m, ns m hn, fun i x v e1 e2 e3 => ?_⟩
    obtain ⟨u, r, l⟩ := hl i x v e1 e2 e3
    refine ⟨u, r, ?_⟩
    rcases l with l | ⟨k, c, e, z⟩
    · exact .inl l
    · exact .inr ⟨k, c, e, cellK x c e _ z⟩
  · obtain ⟨v, z⟩ := I.cell x c e
    exact ⟨v, cellK x c e v z⟩
  · obtain ⟨m, ⟨o, _, _, ho, _⟩, _⟩ := I.loc
    exact free _ o (fun z => (hch _ z).2.1 rfl) ho I.free
  · obtain ⟨v, o, ho, hd⟩ := I.cell x c e
    exact free c o (fun z => (hch c z).2.2.1 x c e rfl) ho (I.freeC x c e)
  · obtain ⟨e, n, ne, nf, d⟩ := I.pin p hp
    have nch : p.1 ∉ ch := fun z => (hch p.1 z).2.2.2 p hp rfl
    exact ⟨keep p.1 p.2 ne nf nch e n, free p.1 p.2 nch e n, ne, nf, d⟩
theorem Inv.un {t' : Nat} (I : Inv X pins σ H s) (u : Un X.fs [] H H' s.heap h') (hok : HOk X.prog X.w H' h') : Inv X pins σ H' { s with heap := h', toks := t' } := by
  obtain ⟨m, ⟨o, es, ep, ho, r⟩, _⟩ := id I.loc
  obtain ⟨sl, hL⟩ := u.any ho I.free (by simp)
  exact I.step (g' := s.gens) (d' := s.drawn) (ch := []) (fun _ z => nomatch z) (fun b o _ hb _ e n => u.keep b o e n hb (by simp)) (fun b o _ hb _ e n => u.slot b o e n hb (by simp)) (fun b o _ e n => u.free b o e n (by simp)) (fun b o _ e => u.there b o e (by simp)) u.tups u.frzs u.tbls (fun m' hm => by
    obtain ⟨o', es', ep', ho', r'⟩ := hm
    rw [ho] at ho'; cases ho'
    exact ⟨_, es', ep', hL, r'⟩) hok I.bare
theorem Inv.call {g' : Array GenState} {t' : Nat} {d' : Drawn} {ch : List Addr} (I : Inv X pins σ H s) (u : Un (frs X.stack) ch H H' s.heap h') (hok : HOk X.prog X.w H' h') (hg : AllBare g')
    (hch : ∀ b ∈ ch, (b ∈ X.ex ∨ X.s₀.heap.objs.size ≤ b) ∧ b ≠ X.env.locals ∧ (∀ x c, X.env.cells.lookup x = some c → c ≠ b) ∧ ∀ p ∈ X.pn ++ pins, p.1 ≠ b) :
    Inv X pins σ H' { s with heap := h', gens := g', drawn := d', toks := t' } := by
  obtain ⟨m, ⟨o, es, ep, ho, r⟩, _⟩ := id I.loc
  obtain ⟨sl, hL⟩ := u.any ho I.free fun z => (hch _ z).2.1 rfl
  exact I.step (ch := ch) hch (fun b o hL hb hc e n => u.keep b o e n (fun z => (List.mem_cons.mp (I.stkSub b z)).elim hL hb) hc) (fun b o _ _ hc e n => u.any e n hc) (fun b o hc e n => u.free b o e n hc) (fun b o hc e => u.there b o e hc) u.tups u.frzs u.tbls (fun m' hm => by
    obtain ⟨o', es', ep', ho', r'⟩ := hm
    rw [ho] at ho'; cases ho'
    exact ⟨_, es', ep', hL, r'⟩) hok hg
theorem Inv.turned {t' : Nat} {it : Addr} (I : Inv X pins σ H s) (k : ∀ b o, b ≠ it → s.heap.get? b = some o → h'.get? b = some o) (hn : H it = none) (hL : it ≠ X.env.locals)
    (h1 : it ∈ X.ex ∨ X.s₀.heap.objs.size ≤ it) (h2 : ∀ x c, X.env.cells.lookup x = some c → c ≠ it) (h3 : ∀ p ∈ X.pn ++ pins, p.1 ≠ it) : Inv X pins σ H { s with heap := h', toks := t' } := by
  have nit : ∀ b u, H b = some u → b ≠ it := fun b u e z => by rw [z, hn] at e; cases e
  refine I.step (g' := s.gens) (d' := s.drawn) (ch := [it]) (fun b hb => ?_) (fun b o _ _ hc e _ => k b o (fun z => hc (by simp [z])) e) (fun b o _ _ hc e _ => ⟨o.slots, k b o (fun z => hc (by simp [z])) e⟩) (fun _ _ _ _ n => n)
    (fun b o hc e => ⟨o, k b o (fun z => hc (by simp [z])) e⟩) (fun _ _ e => e) (fun _ _ _ e => e) (fun b ps e => ⟨#[], by rw [e]; simp⟩) (fun m hm => ?_) (fun b u e => ?_) I.bare
  · have e : b = it := by simpa using hb
    subst e
    exact ⟨h1, hL, h2, h3⟩
  · obtain ⟨o, es, ep, ho, r⟩ := hm
    exact ⟨o, es, ep, k _ o (Ne.symm hL) ho, r⟩
  · refine (I.hok b u e).stay (fun c v hc q => k c v ?_ q) (fun _ q => q) fun _ _ q => q
    rcases hc with z | z
    · rw [z]; exact nit b u e
    · exact nit c _ z
theorem Inv.tok (I : Inv X pins σ H s) (t : Nat) : Inv X pins σ H { s with toks := t } := I.un (h' := s.heap) (t' := t) Un.refl I.hok
theorem Inv.kept {t' : Nat} (I : Inv X pins σ H s) (k : ∀ b u, s.heap.get? b = some u → h'.get? b = some u) : Inv X pins σ H { s with heap := h', toks := t' } := I.un (Un.kept k) (I.hok.kept k)
theorem Inv.laid {a : Addr} {o : HO} {t' : Nat} (I : Inv X pins σ H s) (k : ∀ b u, s.heap.get? b = some u → h'.get? b = some u) (hp : s.heap.objs.size ≤ a) (new : ObjOk X.prog X.w (upd H a o) h' a o) :
    Inv X pins σ (upd H a o) { s with heap := h', toks := t' } := I.un (Un.laid k hp (I.hok.fresh hp)) (I.hok.laid k hp new)
theorem Inv.write {x e : Addr} {o : HO} {t' : Nat} (I : Inv X pins σ H s) (mu : Mut (H x)) (he : e = x ∨ H e = some (.own x)) (k : ∀ b u, b ≠ e → s.heap.get? b = some u → h'.get? b = some u) (heo : ∃ u, h'.get? e = some u)
    (new : ObjOk X.prog X.w (upd H x o) h' x o) : Inv X pins σ (upd H x o) { s with heap := h', toks := t' } := I.un (Un.write mu he k heo) (I.hok.write mu he k heo new)
theorem Inv.pins_of {pins' : List (Addr × Obj)} (I : Inv X pins σ H s) (h : ∀ p ∈ pins', s.heap.get? p.1 = some p.2 ∧ H p.1 = none ∧ p.1 ≠ X.env.locals ∧ p.1 ∉ X.fs ∧ ∀ v, p.2.data ≠ .cell v) : Inv X pins' σ H s :=
  ⟨I.ok, I.os, I.bare, I.base, I.loc, I.cell, I.free, I.freeC, fun p hp => (List.mem_append.mp hp).elim (fun z => I.pin p (List.mem_append_left _ z)) (h p), I.hok, I.len⟩
theorem nodup_ix {N : List Str} (hN : N.Nodup) {i j : Nat} {x : Str} (a : N[i]? = some x) (b : N[j]? = some x) : i = j := by
  obtain ⟨h1, e1⟩ := List.getElem?_eq_some_iff.mp a
  obtain ⟨h2, e2⟩ := List.getElem?_eq_some_iff.mp b
  exact (List.getElem_inj hN).mp (e1.trans e2.symm)
theorem store_ok2 {M : Model} {A : Around} {E : Value → Shared → Prop} {i : Nat} {x : Str} {v : V} {u : Value} {Q : Unit → Shared → Prop} (I : Inv X pins σ H s) (hN : X.N.Nodup) (hi : X.N[i]? = some x) (hx : Loc X.env.scope x) (r : RelV v u)
    (h : ∀ s', Inv X pins (σ.set i (some v)) H s' → (∃ a, Heap.SameBut a s.heap s'.heap ∧ (a = X.env.locals ∨ X.env.cells.lookup x = some a)) → Q () s') (hf : X.fn x = true ∨ X.env.scope.names.lookup x = some .local := by first | exact .inl rfl | exact .inr rfl | assumption) : wpAny M A (storeName X.env x u) Q E s := by
  obtain ⟨m, hn, hl⟩ := id I.loc
  have hcls : (X.env.scope.kind == .class || (X.env.scope.kind == .module && X.env.locals != X.env.globals)) = false := by rw [I.ok.kind]; rfl
  have hiσ : i < σ.length := by rw [I.len]; exact (List.getElem?_eq_some_iff.mp hi).1
  have cne := I.cne
  have tracked : ∀ {a : Addr} {h' : Heap}, (∃ o, s.heap.get? a = some o ∧ H a = none) → Heap.SameBut a s.heap h' → HOk X.prog X.w H h' := fun {a h'} ha hs b ob e => by
    obtain ⟨_, _, hfree⟩ := ha
    refine (I.hok b ob e).stay (fun c w' hc q => (hs.2 c ?_).trans q) (fun _ q => q) fun _ _ q => q
    rintro rfl
    rcases hc with rfl | hc
    · rw [hfree] at e; cases e
    · rw [hfree] at hc; cases hc
  rcases hx with hk | hk
  · refine wpAny_storeName_local hk hn (fun h' hn' hs => ?_) hcls
    obtain ⟨oL, _, _, hoL, _⟩ := id hn
    refine h _ ⟨I.ok, I.os, I.bare, ⟨fun b o e n hb hx => ?_, fun b o e n hb hx => ?_, I.base.free, fun b o e hx => ?_, I.base.tups, I.base.frzs, I.base.tbls⟩, ⟨_, hn', fun j y v' e1 e2 e3 => ?_⟩, fun y c e => ?_, I.free, I.freeC, fun p hp => ?_, tracked ⟨oL, hoL, I.free⟩ hs, by simpa using I.len⟩ ⟨_, hs, .inl rfl⟩
    · exact (hs.2 b (Nat.ne_of_lt (Nat.lt_of_lt_of_le (Heap.lt_size e) I.ok.above))).trans (I.base.keep b o e n hb hx)
    · obtain ⟨sl, e1⟩ := I.base.slot b o e n hb hx
      exact ⟨sl, (hs.2 b (Nat.ne_of_lt (Nat.lt_of_lt_of_le (Heap.lt_size e) I.ok.above))).trans e1⟩
    · obtain ⟨o', e1⟩ := I.base.there b o e hx
      exact ⟨o', (hs.2 b (Nat.ne_of_lt (Nat.lt_of_lt_of_le (Heap.lt_size e) I.ok.above))).trans e1⟩
    · by_cases hj : j = i
      · subst hj
        rw [hi] at e1; cases e1
        rw [List.getElem?_set_self hiσ] at e2
        cases e2
        exact ⟨u, r, .inl ⟨hk, by simp⟩⟩
      · rw [List.getElem?_set_ne (Ne.symm hj)] at e2
        obtain ⟨u', r', q⟩ := hl j y v' e1 e2 e3
        refine ⟨u', r', ?_⟩
        rcases q with ⟨k, e⟩ | ⟨k, c, e, z⟩
        · refine .inl ⟨k, ?_⟩
          have : y ≠ x := fun e => hj (nodup_ix hN e1 (e ▸ hi))
          simp [this, e]
        · exact .inr ⟨k, c, e, z.sameBut hs (cne y c e)⟩
    · obtain ⟨w', z⟩ := I.cell y c e
      exact ⟨w', z.sameBut hs (cne y c e)⟩
    · obtain ⟨e, n, ne, nf, d⟩ := I.pin p hp
      exact ⟨(hs.2 p.1 ne).trans e, n, ne, nf, d⟩
  · have hfn : X.fn x = true := by
      rcases hf with z | z
      · exact z
      · rw [z] at hk; cases hk
    obtain ⟨c, hc⟩ := I.ok.has x (.inl hk)
    obtain ⟨w', z⟩ := I.cell x c hc
    refine wpAny_storeName_cell I.ok.kind hk hc z (fun h' hc' hs => ?_)
    obtain ⟨oc, hoc, hocd⟩ := id z
    refine h { s with heap := h' } ⟨I.ok, I.os, I.bare, ⟨fun b o e n hb hx => ?_, fun b o e n hb hx => ?_, I.base.free, fun b o e hx => ?_, I.base.tups, I.base.frzs, I.base.tbls⟩, ⟨m, hn.sameBut hs (Ne.symm (cne x c hc)), fun j y v' e1 e2 e3 => ?_⟩, fun y c' e => ?_, I.free, I.freeC, fun p hp => ?_, tracked ⟨oc, hoc, I.freeC x c hc⟩ hs, by simpa using I.len⟩ ⟨c, hs, .inr hc⟩
    · exact (hs.2 b (Nat.ne_of_lt (Nat.lt_of_lt_of_le (Heap.lt_size e) (I.ok.cab x c hfn hc)))).trans (I.base.keep b o e n hb hx)
    · obtain ⟨sl, e1⟩ := I.base.slot b o e n hb hx
      exact ⟨sl, (hs.2 b (Nat.ne_of_lt (Nat.lt_of_lt_of_le (Heap.lt_size e) (I.ok.cab x c hfn hc)))).trans e1⟩
    · obtain ⟨o', e1⟩ := I.base.there b o e hx
      exact ⟨o', (hs.2 b (Nat.ne_of_lt (Nat.lt_of_lt_of_le (Heap.lt_size e) (I.ok.cab x c hfn hc)))).trans e1⟩
    · by_cases hj : j = i
      · subst hj
        rw [hi] at e1; cases e1
        rw [List.getElem?_set_self hiσ] at e2
        cases e2
        exact ⟨u, r, .inr ⟨.inl hk, c, hc, hc'⟩⟩
      · rw [List.getElem?_set_ne (Ne.symm hj)] at e2
        obtain ⟨u', r', q⟩ := hl j y v' e1 e2 e3
        refine ⟨u', r', ?_⟩
        rcases q with q | ⟨k, c', e, z'⟩
        · exact .inl q
        · refine .inr ⟨k, c', e, z'.sameBut hs ?_⟩
          rintro rfl
          exact hj (nodup_ix hN e1 (I.ok.inj _ _ _ e hc ▸ hi))
    · by_cases hcc : c' = c
      · subst hcc; exact ⟨_, hc'⟩
      · obtain ⟨w2, z2⟩ := I.cell y c' e
        exact ⟨w2, z2.sameBut hs hcc⟩
    · obtain ⟨e, n, ne, nf, d⟩ := I.pin p hp
      refine ⟨(hs.2 p.1 ?_).trans e, n, ne, nf, d⟩
      intro q
      rw [q, hoc] at e
      have q' : oc = p.2 := Option.some.inj e
      exact d w' (by rw [← q']; exact hocd)
theorem store_ok {M : Model} {A : Around} {E : Value → Shared → Prop} {i : Nat} {x : Str} {v : V} {u : Value} {Q : Unit → Shared → Prop} (I : Inv X pins σ H s) (hN : X.N.Nodup) (hi : X.N[i]? = some x) (hx : Loc X.env.scope x) (r : RelV v u)
    (h : ∀ s', Inv X pins (σ.set i (some v)) H s' → Q () s') (hf : X.fn x = true ∨ X.env.scope.names.lookup x = some .local := by first | exact .inl rfl | exact .inr rfl | assumption) : wpAny M A (storeName X.env x u) Q E s :=
  store_ok2 I hN hi hx r (fun s' I' _ => h s' I') hf
theorem Inv.call' {s' : Shared} {ch : List Addr} (I : Inv X pins σ H s) (ho : s'.os = s.os) (u : Un (frs X.stack) ch H H' s.heap s'.heap) (hok : HOk X.prog X.w H' s'.heap) (hg : AllBare s'.gens)
    (hch : ∀ b ∈ ch, (b ∈ X.ex ∨ X.s₀.heap.objs.size ≤ b) ∧ b ≠ X.env.locals ∧ (∀ x c, X.env.cells.lookup x = some c → c ≠ b) ∧ ∀ p ∈ X.pn ++ pins, p.1 ≠ b) : Inv X pins σ H' s' := by
  obtain ⟨h', g', d', t', o'⟩ := s'
  have e : o' = s.os := ho
  subst e
  exact I.call (g' := g') (t' := t') (d' := d') u hok hg hch
end
abbrev XK := Value → Option Addr → Hp → Prop
abbrev St := List (Option V)
abbrev VK := V → Hp → Prop
abbrev TE := St → Hp → VK → Prop
abbrev TT := St → Hp → (Bool → Hp → Prop) → Prop
abbrev TA := St → Hp → (List V → Hp → Prop) → Prop
structure Ends where
  nx : St → Hp → Prop
  rt : VK
  bk : St → Hp → Prop := fun _ _ => False
  ct : St → Hp → Prop := fun _ _ => False
abbrev TS := Ends → St → Hp → Prop
def EP (X : Cx) (pins : List (Addr × Obj)) (σ : St) (Q : VK) (u : Value) (s' : Shared) : Prop := ∃ v H', Inv X pins σ H' s' ∧ RelV v u ∧ Q v H'
def TP (X : Cx) (pins : List (Addr × Obj)) (σ : St) (Q : Bool → Hp → Prop) (b : Bool) (s' : Shared) : Prop := ∃ H', Inv X pins σ H' s' ∧ Q b H'
def AP (X : Cx) (pins : List (Addr × Obj)) (σ : St) (Q : List V → Hp → Prop) (us : List Value) (s' : Shared) : Prop := ∃ vs H', Inv X pins σ H' s' ∧ Vals vs us ∧ Q vs H'
def SP (X : Cx) (pins : List (Addr × Obj)) (D : Ends) (f : Flow) (s' : Shared) : Prop :=
  match f with
  | .next => ∃ σ' H', Inv X pins σ' H' s' ∧ D.nx σ' H'
  | .brk => ∃ σ' H', Inv X pins σ' H' s' ∧ D.bk σ' H'
  | .cont => ∃ σ' H', Inv X pins σ' H' s' ∧ D.ct σ' H'
  | .ret u => ∃ v σ' H', Inv X pins σ' H' s' ∧ RelV v u ∧ D.rt v H'
def PE (X : Cx) (e : Expr) (t : TE) : Prop :=
  ∀ (pins : List (Addr × Obj)) (s : Shared) (σ : St) (H : Hp) (Q : VK), Inv X pins σ H s → t σ H Q → wpAny (model X.prog X.w) X.A (eval e X.env) (EP X pins σ Q) X.xe s
def PT (X : Cx) (e : Expr) (t : TT) : Prop :=
  ∀ (pins : List (Addr × Obj)) (s : Shared) (σ : St) (H : Hp) (Q : Bool → Hp → Prop), Inv X pins σ H s → t σ H Q → wpAny (model X.prog X.w) X.A (isTrue e X.env (eval e X.env)) (TP X pins σ Q) X.xe s
def PW (X : Cx) (e : Expr) (t : TT) : Prop :=
  ∀ (whole : Sem Value) (pins : List (Addr × Obj)) (s : Shared) (σ : St) (H : Hp) (Q : Bool → Hp → Prop), Inv X pins σ H s → t σ H Q → wpAny (model X.prog X.w) X.A (isTrue e X.env whole) (TP X pins σ Q) X.xe s
theorem PW.pt {X : Cx} {e : Expr} {t : TT} (h : PW X e t) : PT X e t := h _
def PA (X : Cx) (es : List Expr) (t : TA) : Prop :=
  ∀ (pos : Pos) (pins : List (Addr × Obj)) (s : Shared) (σ : St) (H : Hp) (Q : List V → Hp → Prop), Inv X pins σ H s → t σ H Q → wpAny (model X.prog X.w) X.A (spliced (backTo pos (starEach es X.env))) (AP X pins σ Q) X.xe s
def PS (X : Cx) (st : Stmt) (t : TS) : Prop :=
  ∀ (pins : List (Addr × Obj)) (s : Shared) (σ : St) (H : Hp) (D : Ends), Inv X pins σ H s → t D σ H → wpAny (model X.prog X.w) X.A (exec st X.env) (SP X pins D) X.xe s
def PSs (X : Cx) (st : List Stmt) (t : TS) : Prop :=
  ∀ (pins : List (Addr × Obj)) (s : Shared) (σ : St) (H : Hp) (D : Ends), Inv X pins σ H s → t D σ H → wpAny (model X.prog X.w) X.A (execs st X.env) (SP X pins D) X.xe s
theorem thn {α : Type} {t : Sem α} {Q Q' : α → Shared → Prop} {M : Model} {A : Around} {E : Value → Shared → Prop} {s : Shared} (h : wpAny M A t Q E s) (hQ : ∀ a s, Q a s → Q' a s) : wpAny M A t Q' E s := wpAny_mono h hQ fun _ _ x => x
end L2
namespace L2
open PySem PySem.Spec PyProof.Rows
section
variable {X : Cx}
def tVar (i : Nat) : TE := fun σ H Q => ∃ v, σ[i]? = some (some v) ∧ Q v H
def tC (v : V) : TE := fun _ H Q => Q v H
theorem pe_var {i : Nat} {x : Str} {pos : Pos} (hN : X.N[i]? = some x) (hv : Vis X.env.scope x) (hd : (x == ("__debug__" : Str)) = false := by decide) (hcd : (x == ("__classdict__" : Str)) = false := by decide) : PE X (.Name x pos) (tVar i) := by
  intro pins s σ H Q I h
  obtain ⟨v, e, h⟩ := h
  obtain ⟨m, hn, hl⟩ := I.loc
  obtain ⟨u, r, l⟩ := hl i x v hN e hv
  have fin : EP X pins σ Q u s := ⟨v, H, I, r, h⟩
  rcases l with ⟨hk, hm⟩ | ⟨hk, c, hc, hcell⟩
  · exact wpAny_Name (wpAny_loadName_local I.ok.kind hk hn hm fin) hd
  · rcases hk with hk | hk
    · exact wpAny_Name (wpAny_loadName_cell I.ok.kind hk hc hcell fin) hd
    · exact wpAny_Name (wpAny_loadName_free I.ok.kind hk hc hcell fin hcd) hd
theorem pe_int {i j pos} : PE X (.Constant (.int i) j pos) (tC (.int i)) := fun _ _ _ H _ I h => wpAny_Constant_int ⟨.int i, H, I.tok _, ⟨_, rfl⟩, h⟩
theorem pe_bl {b j pos} : PE X (.Constant (.bool b) j pos) (tC (.bl b)) := fun _ _ _ H _ I h => Constant_bool ⟨.bl b, H, I, rfl, h⟩
theorem pe_non {j pos} : PE X (.Constant .none j pos) (tC .non) := fun _ _ _ H _ I h => Constant_none ⟨.non, H, I, rfl, h⟩
theorem pe_str {x j pos} : PE X (.Constant (.str x) j pos) (tC (.str x)) := fun _ _ _ H _ I h => Calls.Constant_str ⟨.str x, H, I.tok _, ⟨_, rfl⟩, h⟩
def Gl (X : Cx) (x : Str) : Prop := X.env.kindOf x = some .globalImplicit
theorem ld_glob {E : Value → Shared → Prop} {pins : List (Addr × Obj)} {s : Shared} {σ : St} {H : Hp} {x : Str} {u : Value} {pos : Pos} {Q : Value → Shared → Prop} (I : Inv X pins σ H s) (hg : Gl X x) (hm : X.mg x = some u) (h : Q u s)
    (hd : (x == ("__debug__" : Str)) = false := by decide) : wpAny (model X.prog X.w) X.A (eval (.Name x pos) X.env) Q E s :=
  Calls.Name_function_global I.ok.kind hg (Calls.loadGlobal_global (by rw [I.ok.glob]; exact I.mod.glob.keeps I.bk) hm h) hd
theorem ld_blt {E : Value → Shared → Prop} {pins : List (Addr × Obj)} {s : Shared} {σ : St} {H : Hp} {x : Str} {u : Value} {pos : Pos} {Q : Value → Shared → Prop} (I : Inv X pins σ H s) (hg : Gl X x) (hm : X.mg x = none) (hv : bootBuiltins x = some u) (h : Q u s)
    (hn : x ≠ "__name__" := by decide) (hd : (x == ("__debug__" : Str)) = false := by decide) : wpAny (model X.prog X.w) X.A (eval (.Name x pos) X.env) Q E s := by
  obtain ⟨mb, h1, h2⟩ := I.mod.blt
  exact Calls.Name_function_global I.ok.kind hg (Calls.loadGlobal_builtin (by rw [I.ok.glob]; exact I.mod.glob.keeps I.bk) hm (by rw [I.ok.blt]; exact h1.keeps I.bk) ((h2 x hn).trans hv) h) hd
theorem pe_glob {x : Str} {v : V} {u : Value} {pos : Pos} (hg : Gl X x) (hm : X.mg x = some u) (r : RelV v u) (hd : (x == ("__debug__" : Str)) = false := by decide) : PE X (.Name x pos) (tC v) :=
  fun _ _ _ H _ I h => ld_glob I hg hm ⟨v, H, I, r, h⟩ hd
theorem pe_bltn {x : Str} {v : V} {u : Value} {pos : Pos} (hg : Gl X x) (hm : X.mg x = none) (hv : bootBuiltins x = some u) (r : RelV v u) (hn : x ≠ "__name__" := by decide) (hd : (x == ("__debug__" : Str)) = false := by decide) : PE X (.Name x pos) (tC v) :=
  fun _ _ _ H _ I h => ld_blt I hg hm hv ⟨v, H, I, r, h⟩ hn hd
variable {a b : Expr} {ta tb : TE} {pos : Pos}
def PC (X : Cx) (op : CmpOp) (a b : Expr) (t : TE) : Prop :=
  ∀ (pins : List (Addr × Obj)) (s : Shared) (σ : St) (H : Hp) (Q : VK), Inv X pins σ H s → t σ H Q →
    wpAny (model X.prog X.w) X.A (eval a X.env) (fun v s₁ => wpAny (model X.prog X.w) X.A (eval b X.env) (fun u s₂ => wpAny (model X.prog X.w) X.A (compareOp op v u) (EP X pins σ Q) X.xe s₂) X.xe s₁) X.xe s
theorem nobehind (b : Expr) {op : CmpOp} (h : op ≠ .In) (h2 : op ≠ .NotIn) : behindInMarks op b = false := by
  have e1 : (op == CmpOp.In) = false := by cases op <;> first | rfl | exact absurd rfl h
  have e2 : (op == CmpOp.NotIn) = false := by cases op <;> first | rfl | exact absurd rfl h2
  cases b <;> simp [behindInMarks, e1, e2]
theorem pe_cmp {op : CmpOp} {t : TE} (h : PC X op a b t) (h1 : behindInMarks op b = false := by first | exact nobehind _ (by decide) (by decide) | rfl) : PE X (.Compare a [op] [b] pos) t := fun pins s σ H Q I hw => wpAny_Compare1 (h pins s σ H Q I hw) h1
variable {tA tB' : TT} {rest : List Expr}
def tAnd (t u : TT) : TT := fun σ H Q => t σ H fun c H1 => if c = true then u σ H1 Q else Q false H1
def tOr (t u : TT) : TT := fun σ H Q => t σ H fun c H1 => if c = true then Q true H1 else u σ H1 Q
def tNot (t : TT) : TT := fun σ H Q => t σ H fun c H1 => Q (!c) H1
theorem pw_and1 (ha : PT X a tA) : PW X (.BoolOp .And [a] pos) tA := by
  intro wh pins s σ H Q I h
  refine isTrue_and (thn (ha pins s σ H Q I h) fun c s1 e => ?_)
  cases c with
  | true => exact isTrue_and_nil e
  | false => exact e
theorem pw_or1 (ha : PT X a tA) : PW X (.BoolOp .Or [a] pos) tA := by
  intro wh pins s σ H Q I h
  refine isTrue_or (thn (ha pins s σ H Q I h) fun c s1 e => ?_)
  cases c with
  | false => exact isTrue_or_nil e
  | true => exact e
theorem pw_and (ha : PT X a tA) (hb : PW X (.BoolOp .And (b :: rest) pos) tB') : PW X (.BoolOp .And (a :: b :: rest) pos) (tAnd tA tB') := by
  intro wh pins s σ H Q I h
  refine isTrue_and (thn (ha pins s σ H _ I h) fun c s1 ⟨H1, I1, q1⟩ => ?_)
  cases c with
  | true => exact hb wh pins s1 σ H1 Q I1 q1
  | false => exact ⟨H1, I1, q1⟩
theorem pw_or (ha : PT X a tA) (hb : PW X (.BoolOp .Or (b :: rest) pos) tB') : PW X (.BoolOp .Or (a :: b :: rest) pos) (tOr tA tB') := by
  intro wh pins s σ H Q I h
  refine isTrue_or (thn (ha pins s σ H _ I h) fun c s1 ⟨H1, I1, q1⟩ => ?_)
  cases c with
  | true => exact ⟨H1, I1, q1⟩
  | false => exact hb wh pins s1 σ H1 Q I1 q1
theorem pt_not (ha : PT X a tA) : PT X (.UnaryOp .Not a pos) (tNot tA) := by
  intro pins s σ H Q I h
  exact isTrue_not (ha pins s σ H (fun c H1 => Q (!c) H1) I h)
theorem pe_one {op} {t : TE} (h : PE X a t) : PE X (.BoolOp op [a] pos) t := fun pins s σ H Q I hw => BoolOp_one (h pins s σ H Q I hw)
def tIf (t : TT) (ta tb : TE) : TE := fun σ H Q => t σ H fun c H1 => if c = true then ta σ H1 Q else tb σ H1 Q
theorem pe_ifExp {c : Expr} (hc : PT X c tA) (ha : PE X a ta) (hb : PE X b tb) : PE X (.IfExp c a b pos) (tIf tA ta tb) := by
  intro pins s σ H Q I h
  refine wpAny_IfExp (thn (hc pins s σ H _ I h) fun d s1 ⟨H1, I1, q1⟩ => ?_)
  cases d with
  | true => exact ha pins s1 σ H1 Q I1 q1
  | false => exact hb pins s1 σ H1 Q I1 q1
end
end L2
namespace L2
open PySem PySem.Spec PyProof.Rows
def SqL (K : PySem.W.Frag) (H : Hp) (a : Addr) (xs : List V) : Prop :=
  Rd H a (.lst xs) ∨
    ∃ (o : Obj) (its : Array Value) (n : Nat), K.lookup a = some o ∧ o.cls = .type "list" ∧ o.dict = none ∧ o.data = .seq its n ∧ its.size ≤ sizeLine ∧ Vals xs its.toList
def SqT (K : PySem.W.Frag) (H : Hp) (a : Addr) (xs : List V) : Prop :=
  Rd H a (.tup xs) ∨
    ∃ (o : Obj) (its : Array Value) (n : Nat), K.lookup a = some o ∧ o.cls = .type "tuple" ∧ o.data = .seq its n ∧ its.size ≤ sizeLine ∧ Vals xs its.toList
def absV : Value → Option V
  | .none => some .non
  | .bool b => some (.bl b)
  | .int i _ => some (.int i)
  | .str x _ => some (.str x)
  | .bytes b _ => some (.byt b)
  | .float b _ => some (.flt b)
  | .ref a => some (.ref a)
  | .type n => some (.ty n)
  | _ => none
theorem RelV.abs {x : V} {u : Value} (r : RelV x u) : absV u = some x := by
  cases x with
  | non => cases r; rfl
  | bl _ => cases r; rfl
  | int _ => obtain ⟨t, rfl⟩ := r; rfl
  | str _ => obtain ⟨t, rfl⟩ := r; rfl
  | byt _ => obtain ⟨t, rfl⟩ := r; rfl
  | flt _ => obtain ⟨t, rfl⟩ := r; rfl
  | ref _ => cases r; rfl
  | ty _ => cases r; rfl
theorem RelV.inj {x y : V} {u : Value} (r : RelV x u) (q : RelV y u) : x = y := Option.some.inj (r.abs.symm.trans q.abs)
theorem Vals.inj : ∀ {xs ys : List V} {us : List Value}, Vals xs us → Vals ys us → xs = ys
  | _, _, _, .nil, .nil => rfl
  | _, _, _, .cons r t, .cons r' t' => by rw [r.inj r', Vals.inj t t']
section
variable {X : Cx} {pins : List (Addr × Obj)} {σ : St} {H : Hp} {s : Shared} {a : Addr} {xs ys : List V}
theorem SqL.of {K : PySem.W.Frag} (h : H a = some (.lst xs)) : SqL K H a xs := .inl (.inl h)
theorem SqT.of {K : PySem.W.Frag} (h : H a = some (.tup xs)) : SqT K H a xs := .inl (.inl h)
theorem Inv.list (I : Inv X pins σ H s) (h : SqL X.K H a xs) : ∃ its : List Value, Vals xs its ∧ PlainL s.heap a its.toArray ∧ xs.length ≤ sizeLine := by
  rcases h with h | ⟨o, its, n, hk, hc, hd, hs, hz, r⟩
  · obtain ⟨z, its, n, r, e⟩ := h.ok I.hok
    exact ⟨its, r, ⟨_, n, e, rfl, rfl, rfl⟩, z⟩
  · refine ⟨its.toList, r, ⟨o, n, I.kIn a o hk, hc, hd, by simpa using hs⟩, ?_⟩
    have e := r.length
    simp only [Array.length_toList] at e
    omega
theorem Inv.tuple (I : Inv X pins σ H s) (h : SqT X.K H a xs) : ∃ its : List Value, Vals xs its ∧ IsTup s.heap a its.toArray ∧ xs.length ≤ sizeLine := by
  rcases h with h | ⟨o, its, n, hk, hc, hs, hz, r⟩
  · obtain ⟨z, its, r, p⟩ := h.ok I.hok
    exact ⟨its, r, p, z⟩
  · refine ⟨its.toList, r, ⟨o, I.kIn a o hk, hc, n, by simpa using hs⟩, ?_⟩
    have e := r.length
    simp only [Array.length_toList] at e
    omega
theorem Inv.list_inj (I : Inv X pins σ H s) (h : SqL X.K H a xs) (h' : SqL X.K H a ys) : xs = ys := by
  obtain ⟨its, r, ⟨o, n, e, _, _, d⟩, _⟩ := I.list h
  obtain ⟨its', r', ⟨o', n', e', _, _, d'⟩, _⟩ := I.list h'
  rw [e] at e'; cases e'
  rw [d] at d'
  injection d' with d1 _
  have : its = its' := by simpa using congrArg Array.toList d1
  subst this
  exact r.inj r'
theorem Inv.tuple_inj (I : Inv X pins σ H s) (h : SqT X.K H a xs) (h' : SqT X.K H a ys) : xs = ys := by
  obtain ⟨its, r, ⟨o, e, _, n, d⟩, _⟩ := I.tuple h
  obtain ⟨its', r', ⟨o', e', _, n', d'⟩, _⟩ := I.tuple h'
  rw [e] at e'; cases e'
  rw [d] at d'
  injection d' with d1 _
  have : its = its' := by simpa using congrArg Array.toList d1
  subst this
  exact r.inj r'
end
abbrev Cx.wish (X : Cx) (E : Value → Shared → Prop) : Cx := { X with xe := E }
abbrev Cx.nox (X : Cx) : Cx := X.wish fun _ _ => False
theorem Cx.Ok.wish {X : Cx} (ok : X.Ok) (E : Value → Shared → Prop) : (X.wish E).Ok :=
  ⟨ok.mod, ok.kind, ok.glob, ok.blt, ok.above, ok.inj, ok.has, ok.cab, ok.hd, ok.frames, ok.stk, ok.exf, ok.bs, ok.bsz, ok.noex, ok.exfs, ok.funs, ok.frf⟩
theorem Cx.Ok.unwish {X : Cx} {E : Value → Shared → Prop} (ok : (X.wish E).Ok) : X.Ok :=
  ⟨ok.mod, ok.kind, ok.glob, ok.blt, ok.above, ok.inj, ok.has, ok.cab, ok.hd, ok.frames, ok.stk, ok.exf, ok.bs, ok.bsz, ok.noex, ok.exfs, ok.funs, ok.frf⟩
section
variable {X : Cx} {pins : List (Addr × Obj)} {σ : St} {H : Hp} {s : Shared} {E : Value → Shared → Prop}
theorem Inv.wish (I : Inv X pins σ H s) (E : Value → Shared → Prop) : Inv (X.wish E) pins σ H s := ⟨I.ok.wish E, I.os, I.bare, I.base, I.loc, I.cell, I.free, I.freeC, I.pin, I.hok, I.len⟩
theorem Inv.unwish (I : Inv (X.wish E) pins σ H s) : Inv X pins σ H s := ⟨I.ok.unwish, I.os, I.bare, I.base, I.loc, I.cell, I.free, I.freeC, I.pin, I.hok, I.len⟩
theorem SP.unwish {D : Ends} {f : Flow} {s' : Shared} (h : SP (X.wish E) pins D f s') : SP X pins D f s' := by
  cases f with
  | next => obtain ⟨σ', H', I, q⟩ := h; exact ⟨σ', H', I.unwish, q⟩
  | brk => obtain ⟨σ', H', I, q⟩ := h; exact ⟨σ', H', I.unwish, q⟩
  | cont => obtain ⟨σ', H', I, q⟩ := h; exact ⟨σ', H', I.unwish, q⟩
  | ret u => obtain ⟨v, σ', H', I, r, q⟩ := h; exact ⟨v, σ', H', I.unwish, r, q⟩
theorem PSs.nox {st : List Stmt} {t : TS} (h : PSs X.nox st t) : PSs X st t := fun pins s σ H D I hw =>
  wpAny_mono (h pins s σ H D (I.wish _) hw) (fun _ _ q => q.unwish) fun _ _ z => False.elim z
end
section
variable {X : Cx} {st : Stmt} {rest : List Stmt} {t u : TS} {e : Expr} {te : TE} {pos : Pos}
def tNext : TS := fun D σ H => D.nx σ H
def tSeq (t u : TS) : TS := fun D σ H => t { D with nx := u D } σ H
theorem pss_nil : PSs X [] tNext := fun _ _ σ H _ I h => wpAny_execs_nil ⟨σ, H, I, h⟩
theorem pss_cons (h1 : PS X st t) (h2 : PSs X rest u) : PSs X (st :: rest) (tSeq t u) := by
  intro pins s σ H D I h
  refine wpAny_execs_cons (thn (h1 pins s σ H { D with nx := u D } I h) fun f s1 q => ?_)
  cases f with
  | next =>
    obtain ⟨σ', H', I', q⟩ := q
    exact h2 pins s1 σ' H' D I' q
  | ret v => exact q
  | brk => exact q
  | cont => exact q
theorem pss_one (h1 : PS X st t) : PSs X [st] t := by
  intro pins s σ H D I h
  refine wpAny_execs_cons (thn (h1 pins s σ H D I h) fun f s1 q => ?_)
  cases f with
  | next => exact wpAny_execs_nil q
  | ret v => exact q
  | brk => exact q
  | cont => exact q
theorem Inv.quiet {pins : List (Addr × Obj)} {σ : St} {H : Hp} {s : Shared} (I : Inv X pins σ H s) : interactive X.env = false := by simp [interactive, I.ok.kind]
def tDrop (te : TE) : TS := fun D σ H => te σ H fun _ H1 => D.nx σ H1
theorem ps_expr (he : PE X e te) (hs : swapsWith e none pos.line X.env = pure false := by rfl) : PS X (.Expr e pos) (tDrop te) := by
  intro pins s σ H D I h
  exact wpAny_Expr_any (thn (he pins s σ H _ I h) fun v s1 ⟨x, H1, I1, r1, q1⟩ => ⟨σ, H1, I1, q1⟩) I.quiet hs
def tRet (te : TE) : TS := fun D σ H => te σ H D.rt
theorem ps_ret (he : PE X e te) : PS X (.Return (some e) pos) (tRet te) := by
  intro pins s σ H D I h
  exact wpAny_Return_some (thn (he pins s σ H _ I h) fun v s1 ⟨x, H1, I1, r1, q1⟩ => ⟨x, σ, H1, I1, r1, q1⟩)
def tRetN : TS := fun D _ H => D.rt .non H
def tIfS (c : TT) (t u : TS) : TS := fun D σ H => c σ H fun b H1 => if b = true then t D σ H1 else u D σ H1
theorem ps_if {c : Expr} {a b : List Stmt} {tc : TT} (hc : PT X c tc) (ha : PSs X a t) (hb : PSs X b u) : PS X (.If c a b pos) (tIfS tc t u) := by
  intro pins s σ H D I h
  refine wpAny_If (thn (hc pins s σ H _ I h) fun d s1 ⟨H1, I1, q1⟩ => ?_)
  cases d with
  | true => exact ha pins s1 σ H1 D I1 q1
  | false => exact hb pins s1 σ H1 D I1 q1
def tNever : TS := fun _ _ _ => False
theorem ps_never : PS X st tNever := fun _ _ _ _ _ _ h => h.elim
end
abbrev TG := V → St → Hp → (St → Hp → Prop) → Prop
abbrev TGs := List V → St → Hp → (St → Hp → Prop) → Prop
def PG (X : Cx) (target : Expr) (t : TG) : Prop :=
  ∀ (pins : List (Addr × Obj)) (s : Shared) (σ : St) (H : Hp) (v : V) (u : Value) (Q : St → Hp → Prop), Inv X pins σ H s → RelV v u → t v σ H Q →
    wpAny (model X.prog X.w) X.A (assign target X.env u) (fun _ s' => ∃ σ' H', Inv X pins σ' H' s' ∧ Q σ' H') X.xe s
def PGs (X : Cx) (ts : List Expr) (t : TGs) : Prop :=
  ∀ (pins : List (Addr × Obj)) (s : Shared) (σ : St) (H : Hp) (vs : List V) (us : List Value) (Q : St → Hp → Prop), Inv X pins σ H s → Vals vs us → t vs σ H Q →
    wpAny (model X.prog X.w) X.A (assignInOrder ((assignEach ts X.env).map (·.2)) us) (fun _ s' => ∃ σ' H', Inv X pins σ' H' s' ∧ Q σ' H') X.xe s
abbrev TSet := V → V → V → Hp → (Hp → Prop) → Prop
def PSet (X : Cx) (t : TSet) : Prop :=
  ∀ (pins : List (Addr × Obj)) (s : Shared) (σ : St) (H : Hp) (o i v : V) (ov iv u : Value) (Q : Hp → Prop), Inv X pins σ H s → RelV o ov → RelV i iv → RelV v u → t o i v H Q →
    wpAny (model X.prog X.w) X.A (setItem ov iv u) (fun _ s' => ∃ H', Inv X pins σ H' s' ∧ Q H') X.xe s
abbrev TIp := V → V → Hp → VK → Prop
def PIp (X : Cx) (op : Operator) (t : TIp) : Prop :=
  ∀ (pins : List (Addr × Obj)) (s : Shared) (σ : St) (H : Hp) (x y : V) (v u : Value) (Q : VK), Inv X pins σ H s → RelV x v → RelV y u → t x y H Q →
    wpAny (model X.prog X.w) X.A (inplaceOp op v u) (EP X pins σ Q) X.xe s
section
variable {X : Cx} {pos : Pos}
def gName (i : Nat) : TG := fun v σ H Q => Q (σ.set i (some v)) H
theorem pg_name {i : Nat} {x : Str} (hN : X.N.Nodup) (hi : X.N[i]? = some x) (hx : Loc X.env.scope x) (hf : X.fn x = true ∨ X.env.scope.names.lookup x = some .local := by first | exact .inl rfl | exact .inr rfl | assumption) : PG X (.Name x pos) (gName i) := by
  intro pins s σ H v u Q I r h
  exact wpAny_assign_Name (store_ok I hN hi hx r (fun s' I' => ⟨_, H, I', h⟩) hf)
def gNil : TGs := fun vs σ H Q => vs = [] ∧ Q σ H
def gCons (t : TG) (u : TGs) : TGs := fun vs σ H Q => ∃ v r, vs = v :: r ∧ t v σ H fun σ' H' => u r σ' H' Q
theorem pgs_nil : PGs X [] gNil := by
  intro pins s σ H vs us Q I r h
  obtain ⟨e, h⟩ := h
  subst e
  cases r
  exact assignInOrder_nil ⟨σ, H, I, h⟩
theorem pgs_cons {e : Expr} {es : List Expr} {t : TG} {u : TGs} (h1 : PG X e t) (h2 : PGs X es u)
    (hs : (assignEach (e :: es) X.env).map (·.2) = assign e X.env :: (assignEach es X.env).map (·.2) := by rfl) : PGs X (e :: es) (gCons t u) := by
  intro pins s σ H vs us Q I r h
  obtain ⟨v, vr, e1, h⟩ := h
  subst e1
  cases r with
  | cons r rr =>
    rw [hs]
    refine assignInOrder_cons (thn (h1 pins s σ H _ _ _ I r h) fun _ s1 ⟨σ1, H1, I1, q1⟩ => ?_)
    exact h2 pins s1 σ1 H1 _ _ Q I1 rr q1
def gTup (K : PySem.W.Frag) (n : Nat) (t : TGs) : TG := fun v σ H Q => ∃ a xs, v = .ref a ∧ SqT K H a xs ∧ xs.length = n ∧ t xs σ H Q
theorem pg_tup {es : List Expr} {k : Nat} {t : TGs} {n : Nat} (hc : X.calm = true) (h : PGs X es t)
    (hn : (assignEach es X.env).length = n := by rfl) (hst : (assignEach es X.env).findIdx? (·.1) = none := by rfl) : PG X (.Tuple es k pos) (gTup X.K n t) := by
  intro pins s σ H v u Q I r hw
  obtain ⟨a, xs, e1, hq, hl, hw⟩ := hw
  subst e1
  cases r
  obtain ⟨its, rv, ht, hz⟩ := I.tuple hq
  refine assign_Tuple_tuple (I.ok.hd hc) ht (by simp [hn, ← hl, rv.length]) hst fun h' hx => ?_
  have I1 : Inv X pins σ H { s with heap := h' } := I.kept (t' := s.toks) fun b o e => hx b o (Nat.ne_of_lt (Heap.lt_size e)) e
  exact h pins _ σ H xs _ Q I1 (by simpa using rv) hw
def gSub (to ti : TE) (t : TSet) : TG := fun v σ H Q => to σ H fun o H1 => ti σ H1 fun i H2 => t o i v H2 fun H3 => Q σ H3
theorem pg_sub {o i : Expr} {to ti : TE} {t : TSet} (ho : PE X o to) (hi : PE X i ti) (hs : PSet X t)
    (ha : ∀ v, assign (.Subscript o i pos) X.env v = (do
      let ov ← holding [v] (eval o X.env)
      let iv ← holding [v, ov] (eval i X.env)
      standAt pos
      holding [v, ov, iv] (setItem ov iv v)
      release [v, ov, iv] []) := by intro _; rfl) : PG X (.Subscript o i pos) (gSub to ti t) := by
  intro pins s σ H v u Q I r h
  rw [ha]
  refine wpAny_bind (wpAny_holding (thn (ho pins s σ H _ I h) fun ov s1 ⟨x, H1, I1, r1, q1⟩ => ?_))
  refine wpAny_bind (wpAny_holding (thn (hi pins s1 σ H1 _ I1 q1) fun iv s2 ⟨y, H2, I2, r2, q2⟩ => ?_))
  refine wpAny_bind (wpAny_standAt (wpAny_bind (wpAny_holding (thn (hs pins s2 σ H2 x y v ov iv u _ I2 r1 r2 r q2) fun _ s3 ⟨H3, I3, q3⟩ => ?_))))
  exact wpAny_release ⟨σ, H3, I3, q3⟩
def tAsg (te : TE) (g : TG) : TS := fun D σ H => te σ H fun x H1 => g x σ H1 D.nx
theorem ps_asg {tg e : Expr} {te : TE} {g : TG} (he : PE X e te) (hg : PG X tg g) (hs : swapsWithSole [tg] e pos.line X.env = pure false := by rfl) (hw : swappedStores [tg] e X.env = pure none := by rfl)
    (h1 : (assignEach [tg] X.env).map (·.2) = [assign tg X.env] := by rfl) : PS X (.Assign [tg] e pos) (tAsg te g) := by
  intro pins s σ H D I h
  refine wpAny_Assign_stores (thn (he pins s σ H _ I h) fun v s1 ⟨x, H1, I1, r1, q1⟩ => ?_) hs hw
  rw [h1]
  exact thn (hg pins s1 σ H1 x v _ I1 r1 q1) fun _ s2 q => q
theorem ps_set {i : Nat} {x : Str} {e : Expr} {te : TE} {pos' : Pos} (hN : X.N.Nodup) (hi : X.N[i]? = some x) (hx : Loc X.env.scope x) (he : PE X e te) (hs : swapsWith e (some (.Name x pos')) pos.line X.env = pure false := by rfl) (hf : X.fn x = true ∨ X.env.scope.names.lookup x = some .local := by first | exact .inl rfl | exact .inr rfl | assumption) :
    PS X (.Assign [.Name x pos'] e pos) (tAsg te (gName i)) := by
  intro pins s σ H D I h
  refine wpAny_Assign_Name (thn (he pins s σ H _ I h) fun v s1 ⟨y, H1, I1, r1, q1⟩ => ?_) hs
  exact store_ok I1 hN hi hx r1 (fun s2 I2 => ⟨_, H1, I2, q1⟩) hf
def tAug (i : Nat) (te : TE) (ti : TIp) : TS := fun D σ H => ∃ x, σ[i]? = some (some x) ∧ te σ H fun y H1 => ti x y H1 fun z H2 => D.nx (σ.set i (some z)) H2
theorem ps_aug {i : Nat} {x : Str} {e : Expr} {te : TE} {op : Operator} {ti : TIp} {pos' : Pos} (hN : X.N.Nodup) (hi : X.N[i]? = some x) (hx : Loc X.env.scope x) (he : PE X e te) (ho : PIp X op ti) (hf : X.fn x = true ∨ X.env.scope.names.lookup x = some .local := by first | exact .inl rfl | exact .inr rfl | assumption) :
    PS X (.AugAssign (.Name x pos') op e pos) (tAug i te ti) := by
  intro pins s σ H D I h
  obtain ⟨v, e1, h⟩ := h
  obtain ⟨m, hn, hl⟩ := I.loc
  have vis : Vis X.env.scope x := by rcases hx with k | k; exact .inl k; exact .inr (.inl k)
  obtain ⟨u, r, l⟩ := hl i x v hi e1 vis
  refine wpAny_AugAssign_Name ?_
  have go : wpAny (model X.prog X.w) X.A (eval e X.env) (fun w s₂ => wpAny (model X.prog X.w) X.A (inplaceOp op u w) (fun r s₃ => wpAny (model X.prog X.w) X.A (storeName X.env x r) (fun _ => SP X pins D .next) X.xe s₃) X.xe s₂) X.xe s := by
    refine thn (he pins s σ H _ I h) fun w s1 ⟨y, H1, I1, r1, q1⟩ => ?_
    refine thn (ho pins s1 σ H1 v y u w _ I1 r r1 q1) fun z s2 ⟨zv, H2, I2, r2, q2⟩ => ?_
    exact store_ok I2 hN hi hx r2 (fun s3 I3 => ⟨_, H2, I3, q2⟩) hf
  rcases l with ⟨hk, hm⟩ | ⟨hk, c, hc, hcell⟩
  · exact wpAny_loadName_local I.ok.kind hk hn hm go
  · rcases hk with hk | hk
    · exact wpAny_loadName_cell I.ok.kind hk hc hcell go
    · rcases hx with k | k
      · have : X.env.scope.names.lookup x = some .free := hk
        rw [k] at this; cases this
      · have : X.env.scope.names.lookup x = some .free := hk
        rw [k] at this; cases this
end
section
variable {X : Cx} {pos : Pos}
end
structure It where
  go : Nat → Hp → Prop
  yld : Nat → Hp → V → Hp → Prop
  stop : Nat → Hp → Prop
def FpOk (X : Cx) (pins : List (Addr × Obj)) (H : Hp) (b : Addr) : Prop :=
  H b = none ∧ b ≠ X.env.locals ∧ b ∉ X.fs ∧ (b ∈ X.ex ∨ X.s₀.heap.objs.size ≤ b) ∧ (∀ x c, X.env.cells.lookup x = some c → c ≠ b) ∧ ∀ p ∈ X.pn ++ pins, p.1 ≠ b
theorem Inv.fpOk {X : Cx} {pins : List (Addr × Obj)} {σ : St} {H H' : Hp} {s : Shared} {b : Addr} (I : Inv X pins σ H s) (hb : s.heap.objs.size ≤ b) (hn : H' b = none) : FpOk X pins H' b := by
  refine ⟨hn, Nat.ne_of_gt (Nat.lt_of_lt_of_le I.lt hb), I.nofs hb, .inr (Nat.le_trans I.sz hb), fun x c e z => ?_, fun p hp z => ?_⟩
  · obtain ⟨v, q⟩ := I.cell x c e
    exact absurd (Nat.lt_of_lt_of_le q.lt (by rw [z]; exact hb)) (Nat.lt_irrefl _)
  · exact absurd (Nat.lt_of_lt_of_le (Heap.lt_size (I.pin p hp).1) (by rw [z]; exact hb)) (Nat.lt_irrefl _)
structure Turn (P : Program) (w : World) (K : PySem.W.Frag) (tg : Expr) (J : It) (fp : List Addr) (it : Addr) (tn : Nat → Heap → Prop) : Prop where
  mem : it ∈ fp
  obj : ∀ i h, tn i h → ∀ b ∈ fp, ∃ o, h.get? b = some o ∧ ∀ v, o.data ≠ .cell v
  keep : ∀ i h h', tn i h → (∀ b ∈ fp, ∀ o, h.get? b = some o → h'.get? b = some o) → tn i h'
  item : ∀ (X : Cx), X.prog = P → X.w = w → X.K = K → X.calm = true → ∀ (i : Nat) (pins : List (Addr × Obj)) (s : Shared) (σ : St) (H : Hp) (E : Value → Shared → Prop), Inv X pins σ H s → (∀ b ∈ fp, FpOk X pins H b) → tn i s.heap → J.go i H →
    wpAny (model P w) X.A (pyNext (.ref it)) (fun r s1 => ∃ u, r = some u ∧
      wpAny (model P w) X.A (letOwnedTupleGo tg (.ref it) u) (fun _ s2 => ∃ x H', Inv X pins σ H' s2 ∧ RelV x u ∧ J.yld i H x H' ∧ tn (i + 1) s2.heap ∧ ∀ b ∈ fp, H' b = none) E s1) E s
  done : ∀ (X : Cx), X.prog = P → X.w = w → X.K = K → X.calm = true → ∀ (i : Nat) (pins : List (Addr × Obj)) (s : Shared) (σ : St) (H : Hp) (E : Value → Shared → Prop), Inv X pins σ H s → (∀ b ∈ fp, FpOk X pins H b) → tn i s.heap → J.stop i H →
    wpAny (model P w) X.A (pyNext (.ref it)) (fun r s1 => r = none ∧ Inv X pins σ H s1) E s
  self : ∀ (A : Around) (i : Nat) (s : Shared) (Q : Value → Shared → Prop) (E : Value → Shared → Prop), tn i s.heap → Q (.ref it) s → wpAny (model P w) A (pyIter (.ref it)) Q E s
abbrev TI := St → Hp → (It → Hp → Prop) → Prop
def PIE (X : Cx) (pins : List (Addr × Obj)) (σ : St) (tg : Expr) (R : It → Hp → Prop) (itv : Value) (s2 : Shared) : Prop :=
  ∃ (it : Addr) (fp : List Addr) (tn : Nat → Heap → Prop) (J : It) (H' : Hp), itv = .ref it ∧ Inv X pins σ H' s2 ∧ Turn X.prog X.w X.K tg J fp it tn ∧ tn 0 s2.heap ∧ (∀ b ∈ fp, FpOk X pins H' b) ∧ R J H'
def PI (X : Cx) (tg iter : Expr) (wi : TI) : Prop :=
  ∀ (pins : List (Addr × Obj)) (s : Shared) (σ : St) (H : Hp) (R : It → Hp → Prop), Inv X pins σ H s → wi σ H R →
    wpAny (model X.prog X.w) X.A (eval iter X.env) (fun v s1 => wpAny (model X.prog X.w) X.A (pyIter v) (PIE X pins σ tg R) X.xe s1) X.xe s
theorem go_of {M : Model} {A : Around} {E : Value → Shared → Prop} {s : Shared} {tg : Expr} {it : Addr} {u : Value} {o : Obj} {n : String} {vs : Array Value} {Q : Unit → Shared → Prop} (ho : s.heap.get? it = some o) (hc : o.cls = .type n) (hd : o.data = .fields vs)
    (hn : ["enumerate", "zip", "dict_itemiterator", "dict_reverseitemiterator", "odict_iterator", "itertools.zip_longest", "itertools.pairwise"].contains n = false) (hQ : Q () s) : wpAny M A (letOwnedTupleGo tg (.ref it) u) Q E s := by
  unfold letOwnedTupleGo
  cases tg <;> first
    | exact wpAny_pure hQ
    | (cases u <;> first
        | exact wpAny_pure hQ
        | (refine wpAny_bind (wpAny_load ho ?_)
           rw [hc, hd]
           show wpAny M A (if (["enumerate", "zip", "dict_itemiterator", "dict_reverseitemiterator", "odict_iterator", "itertools.zip_longest", "itertools.pairwise"].contains n && vs[0]? == some (rawInt _)) = true then _ else _) Q E s
           rw [if_neg (by intro h; rw [hn, Bool.false_and] at h; cases h)]
           exact wpAny_pure hQ))
def Itl (K : PySem.W.Frag) (a : Addr) : It :=
  ⟨fun i H => ∃ xs x, SqL K H a xs ∧ xs[i]? = some x, fun i H x H' => H' = H ∧ ∀ xs, SqL K H a xs → xs[i]? = some x, fun i H => ∃ xs, SqL K H a xs ∧ xs.length ≤ i⟩
def Itr (lo : Int) (n : Nat) : It := ⟨fun i _ => i < n, fun i H x H' => H' = H ∧ x = .int (lo + i), fun i _ => n ≤ i⟩
theorem turn_list {P : Program} {w : World} {K : PySem.W.Frag} {tg : Expr} (a it : Addr) : Turn P w K tg (Itl K a) [it] it (fun i h => h.IsListIter it a i) where
  mem := by simp
  obj := fun i h st b hb => by
    have e : b = it := by simpa using hb
    subst e
    obtain ⟨o, e, c, d⟩ := st
    exact ⟨o, e, fun v z => by rw [d] at z; cases z⟩
  keep := fun i h h' st k => st.at fun o e => k it (by simp) o e
  item := by
    intro X hP hw hK hc i pins s σ H E I hf st hg
    subst hP hw hK
    obtain ⟨xs, x, hq, hx⟩ := hg
    obtain ⟨its, rv, p, hz⟩ := I.list hq
    obtain ⟨u, hu, ru⟩ := rv.get hx
    obtain ⟨f0, f1, f2, f3, f4, f5⟩ := hf it (by simp)
    refine wpAny_pyNext_list_item st p.isList (x := u) (by simpa using hu) fun h' st' sb => ?_
    have I1 : Inv X pins σ H { s with heap := h' } := I.turned (t' := s.toks) (fun b o hb e => (sb.2 b hb).trans e) f0 f1 f3 f4 f5
    obtain ⟨o, e, c, d⟩ := id st'
    exact ⟨u, rfl, go_of (s := { s with heap := h' }) e c d (by decide) ⟨x, H, I1, ru, ⟨rfl, fun ys hy => by rw [I.list_inj hy hq]; exact hx⟩, st', fun b hb => (hf b hb).1⟩⟩
  done := by
    intro X hP hw hK hc i pins s σ H E I hf st hg
    subst hP hw hK
    obtain ⟨xs, hq, hx⟩ := hg
    obtain ⟨its, rv, p, hz⟩ := I.list hq
    obtain ⟨f0, f1, f2, f3, f4, f5⟩ := hf it (by simp)
    have hl := rv.length
    exact wpAny_pyNext_list_end (I.ok.hd hc) st p.isList (by simp; omega) fun h' eb => ⟨rfl, I.turned (t' := s.toks) (fun b o hb e => eb b o hb e) f0 f1 f3 f4 f5⟩
  self := fun _ _ _ _ _ st h => wpAny_pyIter_listiter st h
theorem turn_range {P : Program} {w : World} {K : PySem.W.Frag} {tg : Expr} (it : Addr) (lo : Int) (n : Nat) : Turn P w K tg (Itr lo n) [it] it (fun i h => IsRangeIter h it (lo + (i : Nat) * 1) ((n : Int) - (i : Nat)) 1) where
  mem := by simp
  obj := fun i h st b hb => by
    have e : b = it := by simpa using hb
    subst e
    exact ⟨_, st, fun v z => by
      have z' : Data.fields _ = Data.cell v := z
      cases z'⟩
  keep := fun i h h' st k => k it (by simp) _ st
  item := by
    intro X hP hw hK hc i pins s σ H E I hf st hg
    subst hP hw hK
    obtain ⟨f0, f1, f2, f3, f4, f5⟩ := hf it (by simp)
    have W := Walks.range (prog := X.prog) (w := X.w) (I.ok.hd hc) it lo 1 n
    refine W.item i s _ _ hg st fun v h' tk hv st' kk => ?_
    obtain ⟨t, rfl⟩ := hv
    have I1 : Inv X pins σ H { s with heap := h', toks := tk } := I.turned (fun b o hb e => kk b o (by simpa using hb) e) f0 f1 f3 f4 f5
    refine ⟨_, rfl, go_of (s := { s with heap := h', toks := tk }) (n := "range_iterator") st' rfl rfl (by decide) ⟨.int (lo + i), H, I1, ⟨t, ?_⟩, ⟨rfl, rfl⟩, st', fun b hb => (hf b hb).1⟩⟩
    rw [Int.mul_one]
  done := by
    intro X hP hw hK hc i pins s σ H E I hf st hg
    subst hP hw hK
    obtain ⟨f0, f1, f2, f3, f4, f5⟩ := hf it (by simp)
    exact wpAny_pyNext_range_end (I.ok.hd hc) st (by have : n ≤ i := hg; omega) fun h' eb => ⟨rfl, I.turned (t' := s.toks) (fun b o hb e => eb b o hb e) f0 f1 f3 f4 f5⟩
  self := fun _ _ _ _ _ st h => wpAny_pyIter_rangeiter st h
end L2
namespace L2
open PySem PySem.Spec PyProof.Rows
section
variable {X : Cx} {tg : Expr}
def iList (K : PySem.W.Frag) (tl : TE) : TI := fun σ H R => tl σ H fun x H1 => ∃ a, x = .ref a ∧ (∃ xs, SqL K H1 a xs) ∧ R (Itl K a) H1
theorem pi_list {l : Expr} {tl : TE} (hl : PE X l tl) : PI X tg l (iList X.K tl) := by
  intro pins s σ H R I h
  refine thn (hl pins s σ H _ I h) fun v s1 ⟨x, H1, I1, r1, q1⟩ => ?_
  obtain ⟨a, e, ⟨xs, hq⟩, q⟩ := q1
  subst e
  cases r1
  obtain ⟨its, rv, p, hz⟩ := I1.list hq
  refine wpAny_pyIter_list p.isList ?_
  refine ⟨s1.heap.objs.size, [s1.heap.objs.size], _, _, H1, rfl, I1.kept (t' := s1.toks) fun b o e => Heap.get?_push_of_some _ e, turn_list a _, ⟨_, Heap.get?_push_size _ rfl, rfl, rfl⟩, fun b hb => ?_, q⟩
  have e : b = s1.heap.objs.size := by simpa using hb
  subst e
  exact I1.fpOk (Nat.le_refl _) (I1.hok.fresh (Nat.le_refl _))
theorem range_it {pins : List (Addr × Obj)} {σ : St} {H : Hp} {s : Shared} {R : It → Hp → Prop} {E : Value → Shared → Prop} {lo hi : Int} {t u v : Tok} {tk : Nat} (I : Inv X pins σ H s) (h1 : -(2 ^ 62) ≤ lo) (h2 : lo < 2 ^ 62) (h3 : -(2 ^ 62) ≤ hi) (h4 : hi < 2 ^ 62)
    (q : R (Itr lo (hi - lo).toNat) H) : wpAny (model X.prog X.w) X.A (pyIter (.ref s.heap.objs.size)) (PIE X pins σ tg R) E { s with heap := s.heap.push { cls := .type "range", data := .fields #[.int lo t, .int hi u, .int 1 v] }, toks := tk } := by
  refine wpAny_pyIter_range (IsRange.new ..) (small_one h1 h2 h3 h4) ?_
  have I1 : Inv X pins σ H { s with heap := s.heap.push { cls := .type "range", data := .fields #[.int lo t, .int hi u, .int 1 v] }, toks := tk } := I.kept fun b o e => Heap.get?_push_of_some _ e
  refine ⟨(s.heap.push { cls := .type "range", data := .fields #[.int lo t, .int hi u, .int 1 v] }).objs.size, [(s.heap.push { cls := .type "range", data := .fields #[.int lo t, .int hi u, .int 1 v] }).objs.size], _, _, H, rfl,
    I1.kept (t' := tk) fun b o e => Heap.get?_push_of_some _ e, turn_range _ lo (hi - lo).toNat, ?_, fun b hb => ?_, q⟩
  · have e1 : lo + ((0 : Nat) : Int) * 1 = lo := by simp
    have e2 : (((hi - lo).toNat : Nat) : Int) - ((0 : Nat) : Int) = Builtin.Range.rangeSize lo hi 1 := by rw [rangeSize_one]; split <;> omega
    show IsRangeIter _ _ (lo + ((0 : Nat) : Int) * 1) ((((hi - lo).toNat : Nat) : Int) - ((0 : Nat) : Int)) 1
    rw [e1, e2]
    exact Heap.get?_push_size _ rfl
  · have e : b = (s.heap.push { cls := .type "range", data := .fields #[.int lo t, .int hi u, .int 1 v] }).objs.size := by simpa using hb
    subst e
    exact I1.fpOk (Nat.le_refl _) (I1.hok.fresh (Nat.le_refl _))
def iRng1 (ta : TA) : TI := fun σ H R => ta σ H fun vs H1 => ∃ j : Int, vs = [.int j] ∧ -(2 ^ 62) ≤ j ∧ j < 2 ^ 62 ∧ R (Itr 0 j.toNat) H1
def iRng2 (ta : TA) : TI := fun σ H R => ta σ H fun vs H1 => ∃ i j : Int, vs = [.int i, .int j] ∧ (-(2 ^ 62) ≤ i ∧ i < 2 ^ 62 ∧ -(2 ^ 62) ≤ j ∧ j < 2 ^ 62) ∧ R (Itr i (j - i).toNat) H1
theorem pi_range1 {a : Expr} {ta : TA} {p pos : Pos} (hg : Gl X "range") (hm : X.mg "range" = none) (ha : PA X [a] ta) (hs : starEach [a] X.env = [(false, eval a X.env)] := by rfl) : PI X tg (.Call (.Name "range" p) [a] [] pos) (iRng1 ta) := by
  intro pins s σ H R I h
  refine Call_ (ld_blt I hg hm boot_range (PyProof.Rows.callWith_type1 (thn (ha pos pins s σ H _ I h) fun us s1 ⟨vs, H1, I1, r1, q1⟩ => ?_) hs rfl))
  obtain ⟨j, e, q1, q2, q⟩ := q1
  subst e
  cases r1 with
  | cons r rr =>
    cases rr
    obtain ⟨t, rfl⟩ := r
    exact call_range_1 (range_it I1 (by omega) (by omega) q1 q2 (by simpa using q))
theorem pi_range2 {a b : Expr} {ta : TA} {p pos : Pos} (hg : Gl X "range") (hm : X.mg "range" = none) (ha : PA X [a, b] ta) (hs : starEach [a, b] X.env = [(false, eval a X.env), (false, eval b X.env)] := by rfl) (hs2 : starEach [b] X.env = [(false, eval b X.env)] := by rfl) :
    PI X tg (.Call (.Name "range" p) [a, b] [] pos) (iRng2 ta) := by
  intro pins s σ H R I h
  refine Call_ (ld_blt I hg hm boot_range (PyProof.Rows.callWith_type1 (thn (ha pos pins s σ H _ I h) fun us s1 ⟨vs, H1, I1, r1, q1⟩ => ?_) (by rw [hs, hs2]) (by rw [hs2]; rfl)))
  obtain ⟨i, j, e, ⟨q1, q2, q3, q4⟩, q⟩ := q1
  subst e
  cases r1 with
  | cons r rr =>
    cases rr with
    | cons r' rr =>
      cases rr
      obtain ⟨t, rfl⟩ := r
      obtain ⟨t', rfl⟩ := r'
      exact call_range_2 (range_it I1 q1 q2 q3 q4 q)
def tFor (wi : TI) (g : TG) (tb : TS) : TS := fun D σ H => wi σ H fun J H1 => ∃ W : Nat → Nat → St → Hp → Prop, (∃ m, W 0 m σ H1) ∧ ∀ i m σ H, W i m σ H →
  (J.stop i H ∧ D.nx σ H) ∨ (J.go i H ∧ ∃ N : St → Hp → Prop, (∀ σ' H', N σ' H' → ∃ m', m' < m ∧ W (i + 1) m' σ' H') ∧ ∀ x H', J.yld i H x H' → g x σ H' fun σ2 H2 => tb { D with nx := N, ct := N, bk := D.nx } σ2 H2)
def pinsAt (fp : List Addr) (h : Heap) : List (Addr × Obj) := fp.filterMap fun b => (h.get? b).map fun o => (b, o)
theorem mem_pinsAt {fp : List Addr} {h : Heap} {b : Addr} {o : Obj} (hb : b ∈ fp) (e : h.get? b = some o) : (b, o) ∈ pinsAt fp h := List.mem_filterMap.mpr ⟨b, hb, by rw [e]; rfl⟩
theorem of_pinsAt {fp : List Addr} {h : Heap} {p : Addr × Obj} (hp : p ∈ pinsAt fp h) : p.1 ∈ fp ∧ h.get? p.1 = some p.2 := by
  obtain ⟨b, hb, e⟩ := List.mem_filterMap.mp hp
  cases q : h.get? b with
  | none => rw [q] at e; cases e
  | some o =>
    rw [q] at e
    have e' : (b, o) = p := Option.some.inj e
    subst e'
    exact ⟨hb, q⟩
theorem Inv.pinned {pins : List (Addr × Obj)} {σ : St} {H : Hp} {s : Shared} {fp : List Addr} (I : Inv X pins σ H s) (hf : ∀ b ∈ fp, FpOk X pins H b) (ho : ∀ b ∈ fp, ∃ o, s.heap.get? b = some o ∧ ∀ v, o.data ≠ .cell v) : Inv X (pins ++ pinsAt fp s.heap) σ H s :=
  I.pins_of fun p hp => (List.mem_append.mp hp).elim (fun z => I.pin p (List.mem_append_right _ z)) fun z => by
    obtain ⟨hb, e⟩ := of_pinsAt z
    obtain ⟨f0, f1, f2, _⟩ := hf p.1 hb
    obtain ⟨o, e', d⟩ := ho p.1 hb
    rw [e] at e'; cases e'
    exact ⟨e, f0, f1, f2, d⟩
theorem Inv.unpinned {pins pl : List (Addr × Obj)} {σ : St} {H : Hp} {s : Shared} (I : Inv X (pins ++ pl) σ H s) : Inv X pins σ H s := I.pins_of fun p hp => I.pin p (List.mem_append_right _ (List.mem_append_left _ hp))
theorem ps_for {iter : Expr} {body : List Stmt} {wi : TI} {g : TG} {tb : TS} {pos : Pos} (hp : PassesOwn (model X.prog X.w) X.A X.env X.xe) (hc : X.calm = true) (hi : PI X tg iter wi) (hg : PG X tg g) (hb : PSs X body tb)
    (hs : ∀ x, foldedSetIterable iter X.env x = pure x := by intro _; rfl) : PS X (.For tg iter body [] pos) (tFor wi g tb) := by
  intro pins s σ H D I h
  refine wpAny_For (thn (hi pins s σ H _ I h) fun v s1 h1 => thn h1 fun itv s2 h2 => ?_) hs
  obtain ⟨it, fp, tn, J, H2, e, I2, T, st2, f2, W, ⟨m0, w0⟩, turn⟩ := h2
  subst e
  -- what stays true of the iterator's objects through the loop
  have stat : ∀ {H' : Hp}, (∀ b ∈ fp, H' b = none) → ∀ b ∈ fp, FpOk X pins H' b := fun hn b hb => ⟨hn b hb, (f2 b hb).2⟩
  refine codeAny_forLoop_any (fun n s' => ∃ i σ' H', Inv X pins σ' H' s' ∧ tn i s'.heap ∧ (∀ b ∈ fp, H' b = none) ∧ W i n σ' H') ?_ m0 ⟨0, σ, H2, I2, st2, fun b hb => (f2 b hb).1, w0⟩
  rintro n s3 ⟨i, σ3, H3, I3, st3, fr3, w3⟩
  rcases turn i n σ3 H3 w3 with ⟨stop, qn⟩ | ⟨go, N, hN, step⟩
  · refine wpAny_passesOwn hp (thn (T.done X rfl rfl rfl hc i pins s3 σ3 H3 X.xe I3 (stat fr3) st3 stop) fun r s4 ⟨hr, I4⟩ => ?_)
    subst hr
    exact wpAny_execs_nil ⟨σ3, H3, I4, qn⟩
  · refine wpAny_passesOwn hp (thn (T.item X rfl rfl rfl hc i pins s3 σ3 H3 X.xe I3 (stat fr3) st3 go) fun r s4 ⟨u, hr, h4⟩ => ?_)
    subst hr
    refine wpAny_passesOwn hp (thn h4 fun _ s5 ⟨x, H5, I5, r5, y5, st5, fr5⟩ => ?_)
    have I5' := I5.pinned (stat fr5) (T.obj _ _ st5)
    refine wpAny_passesOwn hp (thn (hg _ s5 σ3 H5 x u _ I5' r5 (step x H5 y5)) fun _ s6 ⟨σ6, H6, I6, q6⟩ => ?_)
    refine wpAny_passesOwn hp (thn (hb _ s6 σ6 H6 _ I6 q6) fun f s7 q7 => ?_)
    have again : ∀ {σ7 : St} {H7 : Hp}, Inv X (pins ++ pinsAt fp s5.heap) σ7 H7 s7 → N σ7 H7 → ∃ m, m < n ∧ ∃ i σ' H', Inv X pins σ' H' s7 ∧ tn i s7.heap ∧ (∀ b ∈ fp, H' b = none) ∧ W i m σ' H' := fun {σ7 H7} I7 n7 => by
      obtain ⟨m', hm, w7⟩ := hN σ7 H7 n7
      refine ⟨m', hm, i + 1, σ7, H7, I7.unpinned, T.keep _ _ _ st5 fun b hb o e => (I7.pin (b, o) (List.mem_append_right _ (List.mem_append_right _ (mem_pinsAt hb e)))).1, fun b hb => ?_, w7⟩
      obtain ⟨o, e, d⟩ := T.obj _ _ st5 b hb
      exact (I7.pin (b, o) (List.mem_append_right _ (List.mem_append_right _ (mem_pinsAt hb e)))).2.1
    cases f with
    | next => obtain ⟨σ7, H7, I7, n7⟩ := q7; exact again I7 n7
    | cont => obtain ⟨σ7, H7, I7, n7⟩ := q7; exact again I7 n7
    | brk => obtain ⟨σ7, H7, I7, q7⟩ := q7; exact ⟨σ7, H7, I7.unpinned, q7⟩
    | ret v => obtain ⟨x7, σ7, H7, I7, r7, q7⟩ := q7; exact ⟨x7, σ7, H7, I7.unpinned, r7, q7⟩
end
theorem for_list {K : PySem.W.Frag} {a : Addr} {xs : List V} {g : TG} {tb : TS} {D : Ends} {σ : St} {H : Hp} (Pv : Nat → St → Hp → Prop) (h0 : Pv 0 σ H) (hl : ∀ i σ H, i ≤ xs.length → Pv i σ H → SqL K H a xs)
    (hs : ∀ i x σ H, xs[i]? = some x → Pv i σ H → g x σ H fun σ2 H2 => tb { D with nx := Pv (i + 1), ct := Pv (i + 1), bk := D.nx } σ2 H2) (hd : ∀ σ H, Pv xs.length σ H → D.nx σ H) :
    ∃ W : Nat → Nat → St → Hp → Prop, (∃ m, W 0 m σ H) ∧ ∀ i m σ H, W i m σ H →
      ((Itl K a).stop i H ∧ D.nx σ H) ∨ ((Itl K a).go i H ∧ ∃ N : St → Hp → Prop, (∀ σ' H', N σ' H' → ∃ m', m' < m ∧ W (i + 1) m' σ' H') ∧ ∀ x H', (Itl K a).yld i H x H' → g x σ H' fun σ2 H2 => tb { D with nx := N, ct := N, bk := D.nx } σ2 H2) := by
  refine ⟨fun i m σ H => m = xs.length - i ∧ i ≤ xs.length ∧ Pv i σ H, ⟨xs.length, by simp, Nat.zero_le _, h0⟩, ?_⟩
  rintro i m σ H ⟨rfl, hi, p⟩
  have q := hl i σ H hi p
  by_cases hlt : i < xs.length
  · refine .inr ⟨⟨xs, xs[i], q, by simp [hlt]⟩, Pv (i + 1), fun σ' H' p' => ⟨xs.length - (i + 1), by omega, rfl, hlt, p'⟩, fun x H' y => ?_⟩
    obtain ⟨e, y⟩ := y
    subst e
    exact hs i x σ _ (y xs q) p
  · have e : i = xs.length := by omega
    subst e
    exact .inl ⟨⟨xs, q, Nat.le_refl _⟩, hd σ H p⟩
theorem for_range {lo : Int} {n : Nat} {g : TG} {tb : TS} {D : Ends} {σ : St} {H : Hp} (Pv : Nat → St → Hp → Prop) (h0 : Pv 0 σ H)
    (hs : ∀ i σ H, i < n → Pv i σ H → g (.int (lo + i)) σ H fun σ2 H2 => tb { D with nx := Pv (i + 1), ct := Pv (i + 1), bk := D.nx } σ2 H2) (hd : ∀ σ H, Pv n σ H → D.nx σ H) :
    ∃ W : Nat → Nat → St → Hp → Prop, (∃ m, W 0 m σ H) ∧ ∀ i m σ H, W i m σ H →
      ((Itr lo n).stop i H ∧ D.nx σ H) ∨ ((Itr lo n).go i H ∧ ∃ N : St → Hp → Prop, (∀ σ' H', N σ' H' → ∃ m', m' < m ∧ W (i + 1) m' σ' H') ∧ ∀ x H', (Itr lo n).yld i H x H' → g x σ H' fun σ2 H2 => tb { D with nx := N, ct := N, bk := D.nx } σ2 H2) := by
  refine ⟨fun i m σ H => m = n - i ∧ i ≤ n ∧ Pv i σ H, ⟨n, by simp, Nat.zero_le _, h0⟩, ?_⟩
  rintro i m σ H ⟨rfl, hi, p⟩
  by_cases hlt : i < n
  · refine .inr ⟨hlt, Pv (i + 1), fun σ' H' p' => ⟨n - (i + 1), by omega, rfl, hlt, p'⟩, fun x H' y => ?_⟩
    obtain ⟨e, y⟩ := y
    subst e y
    exact hs i σ _ hlt p
  · have e : i = n := by omega
    subst e
    exact .inl ⟨Nat.le_refl _, hd σ H p⟩
end L2
namespace L2
open PySem PySem.Spec PyProof.Rows
abbrev R2 := V → V → Hp → VK → Prop
def OpR (X : Cx) (f : Value → Value → Sem Value) (r : R2) : Prop :=
  ∀ (pins : List (Addr × Obj)) (s : Shared) (σ : St) (H : Hp) (x y : V) (v u : Value) (Q : VK), Inv X pins σ H s → RelV x v → RelV y u → r x y H Q →
    wpAny (model X.prog X.w) X.A (f v u) (EP X pins σ Q) X.xe s
def UnR (X : Cx) (f : Value → Sem Value) (r : V → Hp → VK → Prop) : Prop :=
  ∀ (pins : List (Addr × Obj)) (s : Shared) (σ : St) (H : Hp) (x : V) (v : Value) (Q : VK), Inv X pins σ H s → RelV x v → r x H Q →
    wpAny (model X.prog X.w) X.A (f v) (EP X pins σ Q) X.xe s
def CallR (X : Cx) (f : Value) (r : List V → Hp → VK → Prop) : Prop :=
  ∀ (pins : List (Addr × Obj)) (s : Shared) (σ : St) (H : Hp) (xs : List V) (us : List Value) (Q : VK), Inv X pins σ H s → Vals xs us → r xs H Q →
    wpAny (model X.prog X.w) X.A (call f us) (EP X pins σ Q) X.xe s
def tOp (r : R2) (ta tb : TE) : TE := fun σ H Q => ta σ H fun x H1 => tb σ H1 fun y H2 => r x y H2 Q
def tUn (r : V → Hp → VK → Prop) (ta : TE) : TE := fun σ H Q => ta σ H fun x H1 => r x H1 Q
def rI (C : Int → Int → Prop) (g : Int → Int → V) : R2 := fun x y H Q => ∃ i j, x = .int i ∧ y = .int j ∧ C i j ∧ Q (g i j) H
def rI0 (g : Int → Int → V) : R2 := fun x y H Q => ∃ i j, x = .int i ∧ y = .int j ∧ Q (g i j) H
def rU (g : Int → V) : V → Hp → VK → Prop := fun x H Q => ∃ i, x = .int i ∧ Q (g i) H
section
variable {X : Cx} {a b c : Expr} {ta tb tc : TE} {pos : Pos}
theorem binT (ha : PE X a ta) (hb : PE X b tb) {pins : List (Addr × Obj)} {s : Shared} {σ : St} {H : Hp} {R : V → V → Hp → Prop} (I : Inv X pins σ H s)
    (h : ta σ H fun x H1 => tb σ H1 fun y H2 => R x y H2) {Q : Value → Shared → Prop} {f : Value → Value → Sem Value}
    (hf : ∀ v u s2 x y H2, Inv X pins σ H2 s2 → RelV x v → RelV y u → R x y H2 → wpAny (model X.prog X.w) X.A (f v u) Q X.xe s2) :
    wpAny (model X.prog X.w) X.A (eval a X.env) (fun v s₁ => wpAny (model X.prog X.w) X.A (eval b X.env) (fun u s₂ => wpAny (model X.prog X.w) X.A (f v u) Q X.xe s₂) X.xe s₁) X.xe s := by
  refine thn (ha pins s σ H _ I h) fun v s1 ⟨x, H1, I1, r1, q1⟩ => ?_
  refine thn (hb pins s1 σ H1 _ I1 q1) fun u s2 ⟨y, H2, I2, r2, q2⟩ => ?_
  exact hf v u s2 x y H2 I2 r1 r2 q2
theorem pe_op {op : Operator} {r : R2} (ho : OpR X (binaryOp op) r) (ha : PE X a ta) (hb : PE X b tb) : PE X (.BinOp a op b pos) (tOp r ta tb) := by
  intro pins s σ H Q I h
  exact wpAny_BinOp (binT ha hb I h fun v u s2 x y H2 I2 rx ry q => ho pins s2 σ H2 x y v u Q I2 rx ry q)
theorem pe_un {op : UnaryOp} {r : V → Hp → VK → Prop} (ho : UnR X (unaryOp op) r) (ha : PE X a ta) : PE X (.UnaryOp op a pos) (tUn r ta) := by
  intro pins s σ H Q I h
  exact UnaryOp_ (thn (ha pins s σ H _ I h) fun v s1 ⟨x, H1, I1, r1, q1⟩ => ho pins s1 σ H1 x v Q I1 r1 q1)
theorem opI {f : Value → Value → Sem Value} {C : Int → Int → Prop} {g : Int → Int → Int}
    (rule : ∀ (i j : Int) (t u : Tok) (s : Shared) (Q : Value → Shared → Prop) (E : Value → Shared → Prop), C i j → Q (.int (g i j) s.toks) { s with toks := s.toks + 1 } → wpAny (model X.prog X.w) X.A (f (.int i t) (.int j u)) Q E s) :
    OpR X f (rI C fun i j => .int (g i j)) := by
  intro pins s σ H x y v u Q I rx ry h
  obtain ⟨i, j, rfl, rfl, hc, q⟩ := h
  obtain ⟨t, rfl⟩ := rx
  obtain ⟨t', rfl⟩ := ry
  exact rule i j t t' s _ _ hc ⟨.int (g i j), H, I.tok _, ⟨_, rfl⟩, q⟩
theorem opI0 {f : Value → Value → Sem Value} {g : Int → Int → Int}
    (rule : ∀ (i j : Int) (t u : Tok) (s : Shared) (Q : Value → Shared → Prop) (E : Value → Shared → Prop), Q (.int (g i j) s.toks) { s with toks := s.toks + 1 } → wpAny (model X.prog X.w) X.A (f (.int i t) (.int j u)) Q E s) :
    OpR X f (rI0 fun i j => .int (g i j)) := by
  intro pins s σ H x y v u Q I rx ry h
  obtain ⟨i, j, rfl, rfl, q⟩ := h
  obtain ⟨t, rfl⟩ := rx
  obtain ⟨t', rfl⟩ := ry
  exact rule i j t t' s _ _ ⟨.int (g i j), H, I.tok _, ⟨_, rfl⟩, q⟩
theorem opB0 {f : Value → Value → Sem Value} {g : Int → Int → Bool}
    (rule : ∀ (i j : Int) (t u : Tok) (s : Shared) (Q : Value → Shared → Prop) (E : Value → Shared → Prop), Q (.bool (g i j)) s → wpAny (model X.prog X.w) X.A (f (.int i t) (.int j u)) Q E s) :
    OpR X f (rI0 fun i j => .bl (g i j)) := by
  intro pins s σ H x y v u Q I rx ry h
  obtain ⟨i, j, rfl, rfl, q⟩ := h
  obtain ⟨t, rfl⟩ := rx
  obtain ⟨t', rfl⟩ := ry
  exact rule i j t t' s _ _ ⟨.bl (g i j), H, I, rfl, q⟩
def CDiv (i j : Int) : Prop := 0 < j ∧ j < 1073741824
def CPow (i j : Int) : Prop := 0 ≤ j ∧ j ≤ 1000000 ∧ i.natAbs < 2 ^ 64
def CMul (i j : Int) : Prop := (-(2 ^ 64) < i ∧ i < 2 ^ 64) ∨ (-(2 ^ 64) < j ∧ j < 2 ^ 64)
theorem CMul.ok {i j : Int} (h : CMul i j) : IntMulOk i j := by
  rcases h with ⟨h1, h2⟩ | ⟨h1, h2⟩
  · exact .of_left (intBits_le_64 h1 h2)
  · exact .of_right (intBits_le_64 h1 h2)
theorem op_add : OpR X (binaryOp .Add) (rI0 fun i j => .int (i + j)) := opI0 fun _ _ _ _ _ _ _ q => add_int q
theorem op_sub : OpR X (binaryOp .Sub) (rI0 fun i j => .int (i - j)) := opI0 fun _ _ _ _ _ _ _ q => sub_int q
theorem op_mul : OpR X (binaryOp .Mult) (rI CMul fun i j => .int (i * j)) := opI fun _ _ _ _ _ _ _ hc q => mul_int q hc.ok
theorem op_fdiv : OpR X (binaryOp .FloorDiv) (rI CDiv fun i j => .int (i / j)) := opI fun i j _ _ _ _ _ hc q => by
  have h1 : (0 : Int) < j := hc.1
  have h2 : j < 1073741824 := hc.2
  exact floordiv_int (by omega) (by rw [Int.fdiv_eq_ediv_of_nonneg i (by omega)]; exact q) (.inl (PyProof.noPylong_small (by omega)))
theorem op_mod : OpR X (binaryOp .Mod) (rI (fun _ j => 0 < j) fun i j => .int (i % j)) := opI fun i j _ _ _ _ _ hc q => by
  have h1 : (0 : Int) < j := hc
  exact mod_int' (by omega) (by rw [Int.fmod_eq_emod_of_nonneg i (by omega)]; exact q)
theorem op_pow : OpR X (binaryOp .Pow) (rI CPow fun i j => .int (i ^ j.toNat)) := opI fun _ _ _ _ _ _ _ hc q => pow_int_small hc.1 hc.2.1 hc.2.2 q
theorem iop_add : OpR X (inplaceOp .Add) (rI0 fun i j => .int (i + j)) := opI0 fun _ _ _ _ _ _ _ q => iadd_int q
theorem unI {f : Value → Sem Value} {g : Int → Int}
    (rule : ∀ (i : Int) (t : Tok) (s : Shared) (Q : Value → Shared → Prop) (E : Value → Shared → Prop), Q (.int (g i) s.toks) { s with toks := s.toks + 1 } → wpAny (model X.prog X.w) X.A (f (.int i t)) Q E s) :
    UnR X f (rU fun i => .int (g i)) := by
  intro pins s σ H x v Q I rx h
  obtain ⟨i, rfl, q⟩ := h
  obtain ⟨t, rfl⟩ := rx
  exact rule i t s _ _ ⟨.int (g i), H, I.tok _, ⟨_, rfl⟩, q⟩
theorem un_neg : UnR X (unaryOp .USub) (rU fun i => .int (-i)) := unI fun _ _ _ _ _ q => neg_int q
end
def scal : V → V → Bool
  | .non, .non => true | .non, .int _ => true | .int _, .non => true | .non, .bl _ => true | .bl _, .non => true | .non, .str _ => true | .str _, .non => true
  | .int _, .int _ => true | .bl _, .bl _ => true | .str _, .str _ => true | .byt _, .byt _ => true
  | .int _, .str _ => true | .str _, .int _ => true | .bl _, .str _ => true | .str _, .bl _ => true
  | _, _ => false
def rEq : R2 := fun x y H Q => scal x y = true ∧ Q (.bl (decide (x = y))) H
def rNe : R2 := fun x y H Q => scal x y = true ∧ Q (.bl (!decide (x = y))) H
theorem dec_int {i j : Int} : decide (V.int i = V.int j) = (i == j) := by
  rw [Bool.eq_iff_iff]
  simp
theorem dec_bl {i j : Bool} : decide (V.bl i = V.bl j) = (i == j) := by
  rw [Bool.eq_iff_iff]
  simp
theorem dec_str {i j : Str} : decide (V.str i = V.str j) = (i == j) := by
  rw [Bool.eq_iff_iff]
  simp
theorem dec_byt {i j : Array UInt8} : decide (V.byt i = V.byt j) = (i.toList == j.toList) := by
  rw [Bool.eq_iff_iff]
  cases i
  cases j
  simp
section
variable {X : Cx} {a b c : Expr} {ta tb tc : TE} {pos : Pos}
theorem fin_bl {pins : List (Addr × Obj)} {σ : St} {H : Hp} {s : Shared} {Q : VK} {k k' : Bool} (I : Inv X pins σ H s) (q : Q (.bl k) H) (e : k = k') : EP X pins σ Q (.bool k') s := by
  subst e
  exact ⟨.bl k, H, I, rfl, q⟩
theorem op_eq : OpR X (compareOp .Eq) rEq := by
  intro pins s σ H x y v u Q I rx ry h
  obtain ⟨hs, q⟩ := h
  cases x with
  | non =>
    cases rx
    cases y with
    | non => cases ry; exact PySem.EqNone.eq_none_none (fin_bl I q (by simp))
    | bl j => cases ry; exact PySem.EqNone.eq_none_bool (fin_bl I q (by simp))
    | int j => obtain ⟨t', rfl⟩ := ry; exact PySem.EqNone.eq_none_int (fin_bl I q (by simp))
    | str j => obtain ⟨t', rfl⟩ := ry; exact PySem.EqNone.eq_none_str (fin_bl I q (by simp))
    | _ => exact absurd (show false = true from hs) Bool.false_ne_true
  | bl i =>
    cases rx
    cases y with
    | non => cases ry; exact PySem.EqNone.eq_bool_none (fin_bl I q (by simp))
    | bl j => cases ry; exact eq_bool (fin_bl I q dec_bl)
    | str j => obtain ⟨t', rfl⟩ := ry; exact PySem.EqMixed.eq_bool_str (fin_bl I q (by simp))
    | _ => exact absurd (show false = true from hs) Bool.false_ne_true
  | int i =>
    obtain ⟨t, rfl⟩ := rx
    cases y with
    | non => cases ry; exact PySem.EqNone.eq_int_none (fin_bl I q (by simp))
    | int j => obtain ⟨t', rfl⟩ := ry; exact eq_int (fin_bl I q dec_int)
    | str j => obtain ⟨t', rfl⟩ := ry; exact PySem.EqMixed.eq_int_str (fin_bl I q (by simp))
    | _ => exact absurd (show false = true from hs) Bool.false_ne_true
  | str i =>
    obtain ⟨t, rfl⟩ := rx
    cases y with
    | non => cases ry; exact PySem.EqNone.eq_str_none (fin_bl I q (by simp))
    | bl j => cases ry; exact PySem.EqMixed.eq_str_bool (fin_bl I q (by simp))
    | int j => obtain ⟨t', rfl⟩ := ry; exact PySem.EqMixed.eq_str_int (fin_bl I q (by simp))
    | str j => obtain ⟨t', rfl⟩ := ry; exact eq_str (fin_bl I q dec_str)
    | _ => exact absurd (show false = true from hs) Bool.false_ne_true
  | byt i =>
    obtain ⟨t, rfl⟩ := rx
    cases y with
    | byt j => obtain ⟨t', rfl⟩ := ry; exact PySem.W.eq_bytes (fin_bl I q dec_byt)
    | _ => exact absurd (show false = true from hs) Bool.false_ne_true
  | _ => cases y <;> exact absurd (show false = true from hs) Bool.false_ne_true
theorem op_ne : OpR X (compareOp .NotEq) rNe := by
  intro pins s σ H x y v u Q I rx ry h
  obtain ⟨hs, q⟩ := h
  cases x with
  | non =>
    cases rx
    cases y with
    | non => cases ry; exact PySem.EqNone.ne_none_none (fin_bl I q (by simp))
    | bl j => cases ry; exact PySem.EqNone.ne_none_bool (fin_bl I q (by simp))
    | int j => obtain ⟨t', rfl⟩ := ry; exact PySem.EqNone.ne_none_int (fin_bl I q (by simp))
    | str j => obtain ⟨t', rfl⟩ := ry; exact PySem.EqNone.ne_none_str (fin_bl I q (by simp))
    | _ => exact absurd (show false = true from hs) Bool.false_ne_true
  | bl i =>
    cases rx
    cases y with
    | non => cases ry; exact PySem.EqNone.ne_bool_none (fin_bl I q (by simp))
    | bl j => cases ry; exact ne_bool (fin_bl I q (congrArg not dec_bl))
    | str j => obtain ⟨t', rfl⟩ := ry; exact PySem.EqMixed.ne_bool_str (fin_bl I q (by simp))
    | _ => exact absurd (show false = true from hs) Bool.false_ne_true
  | int i =>
    obtain ⟨t, rfl⟩ := rx
    cases y with
    | non => cases ry; exact PySem.EqNone.ne_int_none (fin_bl I q (by simp))
    | int j => obtain ⟨t', rfl⟩ := ry; exact ne_int (fin_bl I q (congrArg not dec_int))
    | str j => obtain ⟨t', rfl⟩ := ry; exact PySem.EqMixed.ne_int_str (fin_bl I q (by simp))
    | _ => exact absurd (show false = true from hs) Bool.false_ne_true
  | str i =>
    obtain ⟨t, rfl⟩ := rx
    cases y with
    | non => cases ry; exact PySem.EqNone.ne_str_none (fin_bl I q (by simp))
    | bl j => cases ry; exact PySem.EqMixed.ne_str_bool (fin_bl I q (by simp))
    | int j => obtain ⟨t', rfl⟩ := ry; exact PySem.EqMixed.ne_str_int (fin_bl I q (by simp))
    | str j => obtain ⟨t', rfl⟩ := ry; exact ne_str (fin_bl I q (congrArg not dec_str))
    | _ => exact absurd (show false = true from hs) Bool.false_ne_true
  | byt i =>
    obtain ⟨t, rfl⟩ := rx
    cases y with
    | byt j => obtain ⟨t', rfl⟩ := ry; exact PySem.W.ne_bytes (fin_bl I q (congrArg not dec_byt))
    | _ => exact absurd (show false = true from hs) Bool.false_ne_true
  | _ => cases y <;> exact absurd (show false = true from hs) Bool.false_ne_true
theorem op_lt : OpR X (compareOp .Lt) (rI0 fun i j => .bl (decide (i < j))) := opB0 fun _ _ _ _ _ _ _ q => lt_int q
theorem op_le : OpR X (compareOp .LtE) (rI0 fun i j => .bl (decide (i ≤ j))) := opB0 fun _ _ _ _ _ _ _ q => le_int q
theorem op_gt : OpR X (compareOp .Gt) (rI0 fun i j => .bl (decide (j < i))) := opB0 fun _ _ _ _ _ _ _ q => gt_int q
theorem op_ge : OpR X (compareOp .GtE) (rI0 fun i j => .bl (decide (j ≤ i))) := opB0 fun _ _ _ _ _ _ _ q => ge_int q
theorem op_isN : OpR X (compareOp .Is) (fun x y H Q => y = .non ∧ Q (.bl (decide (x = .non))) H) := by
  intro pins s σ H x y v u Q I rx ry h
  obtain ⟨rfl, q⟩ := h
  cases ry
  refine is_none_gen (fin_bl I q ?_)
  cases x <;> first
    | (cases rx; rfl)
    | (obtain ⟨t, rfl⟩ := rx; rfl)
theorem op_notN : OpR X (compareOp .IsNot) (fun x y H Q => y = .non ∧ Q (.bl (!decide (x = .non))) H) := by
  intro pins s σ H x y v u Q I rx ry h
  obtain ⟨rfl, q⟩ := h
  cases ry
  refine isnot_none_gen (fin_bl I q ?_)
  cases x <;> first
    | (cases rx; rfl)
    | (obtain ⟨t, rfl⟩ := rx; rfl)
theorem nomark (b : Expr) {op : CmpOp} (h : op ≠ .In := by decide) (h2 : op ≠ .NotIn := by decide) : behindInMarks op b = false := by
  have e1 : (op == CmpOp.In) = false := by cases op <;> first | rfl | exact absurd rfl h
  have e2 : (op == CmpOp.NotIn) = false := by cases op <;> first | rfl | exact absurd rfl h2
  cases b <;> simp [behindInMarks, e1, e2]
theorem pe_cmpR {op : CmpOp} {r : R2} (ho : OpR X (compareOp op) r) (ha : PE X a ta) (hb : PE X b tb) (hm : behindInMarks op b = false) : PE X (.Compare a [op] [b] pos) (tOp r ta tb) := by
  intro pins s σ H Q I h
  exact wpAny_Compare1 (binT ha hb I h fun v u s2 x y H2 I2 rx ry q => ho pins s2 σ H2 x y v u Q I2 rx ry q) hm
theorem line63 : (sizeLine : Nat) < 2 ^ 63 := by rw [sizeLine_eq]; decide
theorem vals1 {x : V} {us : List Value} (r : Vals [x] us) : ∃ u, us = [u] ∧ RelV x u := by
  cases r with
  | cons r1 r2 => cases r2; exact ⟨_, rfl, r1⟩
theorem vals2 {x y : V} {us : List Value} (r : Vals [x, y] us) : ∃ u w', us = [u, w'] ∧ RelV x u ∧ RelV y w' := by
  cases r with
  | cons r1 r2 =>
    cases r2 with
    | cons r3 r4 => cases r4; exact ⟨_, _, rfl, r1, r3⟩
theorem call_max2 (hc : X.calm = true) : CallR X (.builtin "max") (fun xs H Q => ∃ i j, xs = [.int i, .int j] ∧ Q (.int (if j > i then j else i)) H) := by
  intro pins s σ H xs us Q I r h
  obtain ⟨i, j, rfl, q⟩ := h
  obtain ⟨u, w', rfl, ⟨t, rfl⟩, ⟨t', rfl⟩⟩ := vals2 r
  refine max_two_ints (I.ok.hd hc) fun h' tk k => ⟨_, H, I.kept k, ?_, q⟩
  by_cases hj : j > i
  · rw [if_pos hj, if_pos hj]; exact ⟨_, rfl⟩
  · rw [if_neg hj, if_neg hj]; exact ⟨_, rfl⟩
theorem call_min2 (hc : X.calm = true) : CallR X (.builtin "min") (fun xs H Q => ∃ i j, xs = [.int i, .int j] ∧ Q (.int (if j < i then j else i)) H) := by
  intro pins s σ H xs us Q I r h
  obtain ⟨i, j, rfl, q⟩ := h
  obtain ⟨u, w', rfl, ⟨t, rfl⟩, ⟨t', rfl⟩⟩ := vals2 r
  refine min_two_ints (I.ok.hd hc) fun h' tk k => ⟨_, H, I.kept k, ?_, q⟩
  by_cases hj : j < i
  · rw [if_pos hj, if_pos hj]; exact ⟨_, rfl⟩
  · rw [if_neg hj, if_neg hj]; exact ⟨_, rfl⟩
theorem call_int1 : CallR X (.type "int") (fun xs H Q => (∃ i, xs = [.int i] ∧ Q (.int i) H) ∨ ∃ k, xs = [.bl k] ∧ Q (.int (if k then 1 else 0)) H) := by
  intro pins s σ H xs us Q I r h
  rcases h with ⟨i, rfl, q⟩ | ⟨k, rfl, q⟩
  · obtain ⟨u, rfl, t, rfl⟩ := vals1 r
    exact call_int_int ⟨.int i, H, I, ⟨_, rfl⟩, q⟩
  · obtain ⟨u, rfl, r1⟩ := vals1 r
    cases r1
    exact call_int_bool ⟨.int (if k then 1 else 0), H, I.tok _, ⟨_, rfl⟩, q⟩
end
end L2
namespace L2
open PySem PySem.Spec PyProof.Rows
structure ObjM (h : Heap) (x dx C : Addr) (mA : Str → Option Value) : Prop where
  obj : h.get? x = some (PySem.W.instObj C dx)
  ns : h.Ns1 dx mA
  ne : dx ≠ x
theorem lookIn_ns {h : Heap} {dx : Addr} {mA : Str → Option Value} (n : h.Ns1 dx mA) : ∃ od, h.get? dx = some od ∧ ∀ name, PySem.W.lookIn name od = some (mA name) := by
  obtain ⟨o, es, ep, ho, hd, hk, _, hm⟩ := n
  refine ⟨o, ho, fun name => ?_⟩
  have e := hm name
  unfold nsFind findBy at e
  rw [← Array.find?_toList] at e
  unfold PySem.W.lookIn
  rw [hd]
  dsimp only
  split
  · rename_i y q
    rw [q] at e
    exact congrArg some e
  · rename_i q
    rw [q] at e
    have a : es.toList.any (·.refKey) = false := by
      rw [List.any_eq_false]
      intro y hy
      obtain ⟨z, t, hkey⟩ := hk y (Array.mem_toList_iff.mp hy)
      simp [DictEntry.refKey, hkey]
    have a' : ¬ es.toList.any (·.refKey) = true := by rw [a]; exact Bool.false_ne_true
    rw [if_neg a']
    exact congrArg some e
theorem ObjM.look {h : Heap} {x dx C : Addr} {mA : Str → Option Value} (I : ObjM h x dx C mA) : ∃ od, PySem.W.InstAt h x (PySem.W.instObj C dx) C (some od) ∧ ∀ name, PySem.W.lookIn name od = some (mA name) :=
  let ⟨od, ho, hl⟩ := lookIn_ns I.ns
  ⟨od, ⟨I.obj, rfl, rfl, ho⟩, hl⟩
section
variable {prog : Program} {w : World} {A : Around} {E : Value → Shared → Prop} {s : Shared} {K : PySem.W.Frag} {x dx C f : Addr} {mA : Str → Option Value} {name : Str} {v : Value}
end
def putF (f : Str) (v : V) : List (Str × V) → List (Str × V)
  | [] => [(f, v)]
  | (g, x) :: r => if g = f then (g, v) :: r else (g, x) :: putF f v r
theorem lookup_putF (f g : Str) (v : V) : ∀ fs : List (Str × V), (putF f v fs).lookup g = if g = f then some v else fs.lookup g
  | [] => by
    show List.lookup g [(f, v)] = _
    by_cases h : g = f
    · have hb : (g == f) = true := beq_iff_eq.mpr h
      simp only [List.lookup, hb, if_pos h]
    · have hb : (g == f) = false := beq_eq_false_iff_ne.mpr h
      simp only [List.lookup, hb, if_neg h]
  | (k, x) :: r => by
    have ih := lookup_putF f g v r
    rw [show putF f v ((k, x) :: r) = (if k = f then (k, v) :: r else (k, x) :: putF f v r) from rfl]
    by_cases hk : k = f
    · rw [if_pos hk]
      by_cases h : g = k
      · have hb : (g == k) = true := beq_iff_eq.mpr h
        simp only [List.lookup, hb, if_pos (h.trans hk)]
      · have hb : (g == k) = false := beq_eq_false_iff_ne.mpr h
        simp only [List.lookup, hb, if_neg (fun e : g = f => h (e.trans hk.symm))]
    · rw [if_neg hk]
      by_cases h : g = k
      · have hb : (g == k) = true := beq_iff_eq.mpr h
        simp only [List.lookup, hb, if_neg (fun e : g = f => hk (h.symm.trans e))]
      · have hb : (g == k) = false := beq_eq_false_iff_ne.mpr h
        simp only [List.lookup, hb]
        exact ih
theorem keys_putF (f : Str) (v : V) : ∀ fs : List (Str × V), f ∈ (putF f v fs).map (·.1) ∧ ∀ g, g ∈ fs.map (·.1) → g ∈ (putF f v fs).map (·.1)
  | [] => ⟨by simp [putF], fun g h => by simp at h⟩
  | (k, x) :: r => by
    obtain ⟨i1, i2⟩ := keys_putF f v r
    rw [show putF f v ((k, x) :: r) = (if k = f then (k, v) :: r else (k, x) :: putF f v r) from rfl]
    by_cases hk : k = f
    · rw [if_pos hk]
      subst hk
      exact ⟨by simp, fun g h => by simpa using h⟩
    · rw [if_neg hk]
      refine ⟨?_, fun g h => ?_⟩
      · rw [List.map_cons]
        exact List.mem_cons_of_mem _ i1
      · rw [List.map_cons] at h ⊢
        rcases List.mem_cons.mp h with e | e
        · exact List.mem_cons.mpr (.inl e)
        · exact List.mem_cons_of_mem _ (i2 g e)
theorem RelO.some_of {v : V} {o : Option Value} (r : RelO (some v) o) : ∃ u, o = some u ∧ RelV v u := by
  cases o with
  | none => exact (show False from r).elim
  | some u => exact ⟨u, rfl, r⟩
section
variable {P : Program} {w : World} {H H' : Hp} {h h' : Heap} {a C dx : Addr} {fs fs' : List (Str × V)}
theorem ins_get (hok : HOk P w H h) (e : H a = some (.ins C dx fs)) : ∃ mA, ObjM h a dx C mA ∧ (∀ f, RelO (fs.lookup f) (mA f)) ∧ PySem.Within mA (fs.map (·.1)) ∧ fs.length ≤ 1000 ∧ H dx = some (.own a) := by
  obtain ⟨d, z, ne, ob, mA, n, r, q⟩ := (show ObjOk P w H h a (.ins C dx fs) from hok a _ e)
  exact ⟨mA, ⟨ob, n, ne⟩, r, q, z, d⟩
end
structure Cls (K : PySem.W.Frag) (C : Addr) : Prop where
  pg : PySem.W.plainGet K C Str.empty = true
  hd : PySem.W.hasDictIn K C = true
  po : PySem.W.plainOver K C = true
  sa : PySem.W.findIn K (.ref C) "__setattr__" = some (some (.builtin "object.__setattr__"))
theorem Cls.get {K : PySem.W.Frag} {C : Addr} (c : Cls K C) (f : Str) : PySem.W.plainGet K C f = true := c.pg
section
variable {X : Cx} {pins : List (Addr × Obj)} {σ : St} {H : Hp} {s : Shared} {a C dx : Addr} {fs : List (Str × V)} {f : Str} {v : V} {A : Around} {E : Value → Shared → Prop}
end
section
variable {X : Cx} {o e value : Expr} {f : Str} {pos pos' tpos : Pos} {ta tv : TE}
end
section
variable {X : Cx} {pins : List (Addr × Obj)} {σ : St} {H : Hp} {s : Shared} {A : Around} {E : Value → Shared → Prop} {Q : Value → Shared → Prop} {c : Value} {b : Bool}
inductive TyOf (K : PySem.W.Frag) (H : Hp) : V → Value → Prop where
  | non : TyOf K H .non (.type "NoneType")
  | bl (x : Bool) : TyOf K H (.bl x) (.type "bool")
  | int (i : Int) : TyOf K H (.int i) (.type "int")
  | str (x : Str) : TyOf K H (.str x) (.type "str")
  | flt (x : UInt64) : TyOf K H (.flt x) (.type "float")
  | lst {a : Addr} {xs : List V} (e : H a = some (.lst xs)) : TyOf K H (.ref a) (.type "list")
  | frz {a : Addr} {o : Obj} {xs : List V} (e : H a = some (.frz o (.lst xs))) : TyOf K H (.ref a) (.type "list")
  | tup {a : Addr} {xs : List V} (e : H a = some (.tup xs)) : TyOf K H (.ref a) (.type "tuple")
  | dK {a : Addr} {kvs : List (Key × V)} (e : H a = some (.dK kvs)) : TyOf K H (.ref a) (.type "dict")
  | dT {a : Addr} {kvs : List (List Key × V)} (e : H a = some (.dT kvs)) : TyOf K H (.ref a) (.type "dict")
  | ins {a C dx : Addr} {fs : List (Str × V)} (e : H a = some (.ins C dx fs)) (cl : Cls K C) (ha : PySem.W.findIn K (.ref C) "__class__" = some (some (.builtin "object.__class__")))
      (hn : PySem.W.specialIn K (.builtin "object.__class__") "__get__" = some (some (.builtin "getset_descriptor.__get__"))) (htk : PySem.W.takesIn K (.builtin "object.__class__") = some true)
      (hm : PySem.W.mroIn K C (.type "object") = some true) : TyOf K H (.ref a) (.ref C)
theorem isinst_ok {x : V} {u t : Value} (I : Inv X pins σ H s) (rx : RelV x u) (ty : TyOf X.K H x t) (e : PySem.W.kitOne X.K t c = some b) (h : ∀ tk, Q (.bool b) { s with toks := tk }) :
    wpAny (model X.prog X.w) A (call (.builtin "isinstance") [u, c]) Q E s := by
  cases ty with
  | non => cases (show u = Value.none from rx); exact PySem.W.kia_one PySem.W.kitx_none I.kIn True.intro e (fun z => nomatch z) h
  | bl y => cases (show u = Value.bool y from rx); exact PySem.W.kia_one PySem.W.kitx_bool I.kIn True.intro e (fun z => nomatch z) h
  | int i => obtain ⟨t, q⟩ := (show ∃ t, u = Value.int i t from rx); cases q; exact PySem.W.kia_one PySem.W.kitx_int I.kIn True.intro e (fun z => nomatch z) h
  | str y => obtain ⟨t, q⟩ := (show ∃ t, u = Value.str y t from rx); cases q; exact PySem.W.kia_one PySem.W.kitx_str I.kIn True.intro e (fun z => nomatch z) h
  | flt y => obtain ⟨t, q⟩ := (show ∃ t, u = Value.float y t from rx); cases q; exact PySem.W.kia_one PySem.W.kitx_float I.kIn True.intro e (fun z => nomatch z) h
  | @lst a xs ea =>
    cases (show u = Value.ref a from rx)
    obtain ⟨_, _, n, _, h1⟩ := (show ObjOk X.prog X.w H s.heap a (.lst xs) from I.hok a _ ea)
    exact PySem.W.kia_one PySem.W.kitx_list I.kIn ⟨_, h1, rfl⟩ e (fun z => nomatch z) h
  | @frz a ob xs ea =>
    cases (show u = Value.ref a from rx)
    obtain ⟨_, _, _, n, _, h1⟩ := (show ObjOk X.prog X.w H s.heap a (.frz ob (.lst xs)) from I.hok a _ ea)
    exact PySem.W.kia_one PySem.W.kitx_list I.kIn ⟨_, h1, rfl⟩ e (fun z => nomatch z) h
  | @tup a xs ea =>
    cases (show u = Value.ref a from rx)
    obtain ⟨_, _, _, p⟩ := (show ObjOk X.prog X.w H s.heap a (.tup xs) from I.hok a _ ea)
    obtain ⟨o, h1, h2, _⟩ := p
    exact PySem.W.kia_one PySem.W.kitx_tuple I.kIn ⟨o, h1, h2⟩ e (fun z => nomatch z) h
  | @dK a kvs ea =>
    cases (show u = Value.ref a from rx)
    obtain ⟨_, _, vs, _, p⟩ := (show ObjOk X.prog X.w H s.heap a (.dK kvs) from I.hok a _ ea)
    obtain ⟨o, es, ep, h1, h2, _⟩ := p
    exact PySem.W.kia_one PySem.W.kitx_dict I.kIn ⟨o, h1, h2.1⟩ e (fun z => nomatch z) h
  | @dT a kvs ea =>
    cases (show u = Value.ref a from rx)
    obtain ⟨_, _, xs, _, o, es, ep, h1, h2, _⟩ := (show ObjOk X.prog X.w H s.heap a (.dT kvs) from I.hok a _ ea)
    exact PySem.W.kia_one PySem.W.kitx_dict I.kIn ⟨o, h1, h2.1⟩ e (fun z => nomatch z) h
  | @ins a C dx fs ea cl ha hn htk hm =>
    cases (show u = Value.ref a from rx)
    obtain ⟨mA, O, _⟩ := ins_get I.hok ea
    obtain ⟨od, J, _⟩ := O.look
    exact PySem.W.kia_one (PySem.W.kitx_own (cl.get _) cl.hd ha hn htk hm) I.kIn J e (fun z => nomatch z) h
end
end L2
namespace L2
open PySem PySem.Spec PyProof.Rows
structure Room (k : Nat) (A : Around) : Prop where
  hd : A.handled = none
  dp : A.depth + 3 * k + 5 < recursionLimit
  un : A.units + 16 * k + 200 < cLine
theorem Room.mono {j k : Nat} {A : Around} (r : Room k A) (h : j ≤ k) : Room j A := ⟨r.hd, by have := r.dp; omega, by have := r.un; omega⟩
theorem Room.deeper {k : Nat} {A : Around} (r : Room (k + 1) A) (env : Env) : Room k (A.deeper env) :=
  ⟨r.hd, by have := r.dp; show A.depth + 1 + 3 * k + 5 < _; omega, by have := r.un; show A.units + 3 + 16 * k + 200 < _; omega⟩
theorem make_depth {A : Around} {C : Addr} {us : List Value} {kw : List (Str × Value)} : (A.under (.builtin "type.__call__" ⟨.ref C :: us, kw⟩)).depth = A.depth + 1 := by
  first | rfl | simp [Around.under, Code.weight, Code.isCreation, Code.isGuard, Code.isCaller, Code.frames, Code.isFrame, guardIds]
theorem make_units {A : Around} {C : Addr} {us : List Value} {kw : List (Str × Value)} : (A.under (.builtin "type.__call__" ⟨.ref C :: us, kw⟩)).units = A.units + 1 := by
  first | rfl | simp [Around.under, Code.cUnits, Code.frames, Code.isFrame]
theorem Room.make {k : Nat} {A : Around} (r : Room (k + 1) A) (C : Addr) (us : List Value) (kw : List (Str × Value)) : Room k (A.under (.builtin "type.__call__" ⟨.ref C :: us, kw⟩)) :=
  ⟨r.hd, by have := r.dp; rw [make_depth]; omega, by have := r.un; rw [make_units]; omega⟩
theorem Room.depth {k : Nat} {A : Around} (r : Room k A) : A.depth < recursionLimit := by have := r.dp; omega
theorem Room.units {k : Nat} {A : Around} (r : Room k A) : A.units + 64 < cLine := by have := r.un; omega
def tNil : TA := fun _ H Q => Q [] H
def tCons (ta : TE) (tr : TA) : TA := fun σ H Q => ta σ H fun x H1 => tr σ H1 fun xs H2 => Q (x :: xs) H2
section
variable {X : Cx} {e : Expr} {es : List Expr} {te : TE} {t : TA} {pos : Pos}
theorem pa_nil : PA X [] tNil := fun _ _ _ _ H Q I h => Calls.spliced_nil ⟨[], H, I, .nil, h⟩
theorem pa_cons (ha : PE X e te) (hr : PA X es t) (hs : starEach (e :: es) X.env = (false, eval e X.env) :: starEach es X.env := by rfl) : PA X (e :: es) (tCons te t) := by
  intro pos pins s σ H Q I h
  rw [hs]
  show wpAny _ _ (spliced ((false, eval e X.env) :: backTo pos (starEach es X.env))) _ _ s
  refine Calls.spliced_cons (thn (ha pins s σ H _ I h) fun u s1 ⟨x, H1, I1, r1, q1⟩ => ?_)
  exact thn (hr pos pins s1 σ H1 _ I1 q1) fun us s2 ⟨xs, H2, I2, r2, q2⟩ => ⟨x :: xs, H2, I2, .cons r1 r2, q2⟩
def tTup (t : TA) : TE := fun σ H Q => t σ H fun xs H1 => xs.length ≤ sizeLine ∧ ∀ p, H1 p = none → Q (.ref p) (upd H1 p (.tup xs))
def tLst (t : TA) : TE := fun σ H Q => t σ H fun xs H1 => xs.length ≤ sizeLine ∧ ∀ p, H1 p = none → Q (.ref p) (upd H1 p (.lst xs))
theorem pe_tup {x1} (h : PA X es t) : PE X (.Tuple es x1 pos) (tTup t) := by
  intro pins s σ H Q I hq
  refine wpAny_Tuple_spliced (thn (h pos pins s σ H _ I hq) fun us s1 ⟨xs, H1, I1, r, z, q⟩ => ⟨by rw [← r.length]; exact z, ?_⟩)
  have hf : H1 s1.heap.objs.size = none := I1.hok.fresh (Nat.le_refl _)
  refine ⟨.ref s1.heap.objs.size, upd H1 s1.heap.objs.size (.tup xs), I1.laid (t' := s1.toks) (fun b u e => Heap.get?_push_of_some _ e) (Nat.le_refl _) ?_, rfl, q _ hf⟩
  exact ⟨z, us, r, ⟨_, Heap.get?_push_size _ rfl, rfl, _, rfl⟩⟩
theorem pe_lst (h : PA X es t) : PE X (.List es pos) (tLst t) := by
  intro pins s σ H Q I hq
  refine wpAny_List_spliced (thn (h pos pins s σ H _ I hq) fun us s1 ⟨xs, H1, I1, r, z, q⟩ => ⟨by rw [← r.length]; exact z, ?_⟩)
  have hf : H1 s1.heap.objs.size = none := I1.hok.fresh (Nat.le_refl _)
  refine ⟨.ref s1.heap.objs.size, upd H1 s1.heap.objs.size (.lst xs), I1.laid (t' := s1.toks) (fun b u e => Heap.get?_push_of_some _ e) (Nat.le_refl _) ?_, rfl, q _ hf⟩
  exact ⟨z, us, 0, r, Heap.get?_push_size _ rfl⟩
end
abbrev Sp := List V → Hp → VK → XK → Prop
abbrev CXT := List Env → Hp → Shared → XK → Value → Shared → Prop
structure Env0 (P : Program) (w : World) (K : PySem.W.Frag) (mg : Str → Option Value) (base : Heap) (A : Around) (outer : List Env) (s : Shared) (H : Hp) : Prop where
  frames : A.frames = some outer
  mod : Mod K mg base
  bs : ∀ b o, base.get? b = some o → s.heap.get? b = some o ∧ H b = none
  bsz : base.objs.size ≤ s.heap.objs.size
  funs : s.heap.FunFrames base outer
  frf : ∀ b ∈ frs outer, H b = none
  hok : HOk P w H s.heap
  bare : AllBare s.gens
def CE (outer : List Env) (P : Program) (w : World) (H : Hp) (s : Shared) (Q : VK) (u : Value) (s' : Shared) : Prop :=
  ∃ v H', s'.os = s.os ∧ AllBare s'.gens ∧ Un (frs outer) [] H H' s.heap s'.heap ∧ HOk P w H' s'.heap ∧ RelV v u ∧ Q v H'
def CR (CX : CXT) (outer : List Env) (P : Program) (w : World) (H : Hp) (s : Shared) (Q : VK) (E : XK) (r : Result) (s' : Shared) : Prop :=
  match r with
  | .ok (.ret u) => CE outer P w H s Q u s'
  | .ok _ => False
  | .error e => CX outer H s E e s'
structure FnOk (P : Program) (w : World) (K : PySem.W.Frag) (mg : Str → Option Value) (base : Heap) (CX : CXT) (k : Nat) (f : Addr) (fd : FuncData) (ps : List Str) (sp : Sp) : Prop where
  len : ∀ vs H Q E, sp vs H Q E → vs.length = ps.length
  run : ∀ (A : Around) (outer : List Env) (s : Shared) (H : Hp) (args : Args) (us : List Value) (vs : List V) (Q : VK) (E : XK), Room k A → Env0 P w K mg base A outer s H → BindsTo s fd args (ps.zip us) → Vals vs us → sp vs H Q E →
    codeAny (model P w) A (.call (.ref f) args) (CR CX outer P w H s Q E) s
theorem FnOk.mono {P : Program} {w : World} {K : PySem.W.Frag} {mg : Str → Option Value} {base : Heap} {CX : CXT} {j k : Nat} {f : Addr} {fd : FuncData} {ps : List Str} {sp : Sp} (F : FnOk P w K mg base CX j f fd ps sp) (h : j ≤ k) :
    FnOk P w K mg base CX k f fd ps sp := ⟨F.len, fun A outer s H args us vs Q E hr => F.run A outer s H args us vs Q E (hr.mono h)⟩
theorem Env0.make {P : Program} {w : World} {K : PySem.W.Frag} {mg : Str → Option Value} {base : Heap} {A : Around} {outer : List Env} {s : Shared} {H : Hp} (e : Env0 P w K mg base A outer s H) (C : Addr) (us : List Value) (kw : List (Str × Value)) :
    Env0 P w K mg base (A.under (.builtin "type.__call__" ⟨.ref C :: us, kw⟩)) outer s H := ⟨by first | exact e.frames | (simpa [Around.under, Code.envs, Code.isFrame, pushEnvs] using e.frames), e.mod, e.bs, e.bsz, e.funs, e.frf, e.hok, e.bare⟩
section
variable {X : Cx} {pins : List (Addr × Obj)} {σ : St} {H : Hp} {s s' : Shared}
theorem Inv.env0 (I : Inv X pins σ H s) : Env0 X.prog X.w X.K X.mg X.base X.A X.stack s H :=
  ⟨I.ok.frames, I.ok.mod, I.bs, Nat.le_trans I.ok.bsz I.sz, I.stack, I.stkFree, I.hok, I.bare⟩
theorem Inv.after {Q : VK} {u : Value} (I : Inv X pins σ H s) (h : CE X.stack X.prog X.w H s Q u s') : EP X pins σ Q u s' := by
  obtain ⟨v, H', os, bare, un, hok, r, q⟩ := h
  obtain ⟨hh, g, d, t, os'⟩ := s'
  obtain rfl : os' = s.os := os
  exact ⟨v, H', I.call (h' := hh) (g' := g) (d' := d) (t' := t) (ch := []) un hok bare (fun b z => absurd z (by simp)), r, q⟩
end
def tCall (sp : Sp) (dvs : List V) (E : XK) (t : TA) : TE := fun σ H Q => t σ H fun vs H1 => sp (vs ++ dvs) H1 Q E
def Binds (K : PySem.W.Frag) (fd : FuncData) (ps : List Str) (ds : List Value) : Prop :=
  ∀ (s : Shared) (us : List Value), K.In s.heap → (us ++ ds).length = ps.length → BindsTo s fd ⟨us, []⟩ (ps.zip (us ++ ds))
theorem Binds.all {K : PySem.W.Frag} {fd : FuncData} {ps : List Str} (h : ∀ us : List Value, us.length = ps.length → bindArgs fd ⟨us, []⟩ = pure (ps.zip us)) : Binds K fd ps [] := fun s us _ hl => by
  rw [List.append_nil] at hl ⊢
  exact .of_eq (h us hl)
def Passes (CX : CXT) (X : Cx) (E : XK) : Prop := ∀ (pins : List (Addr × Obj)) (σ : St) (H : Hp) (s : Shared) (e : Value) (s' : Shared), Inv X pins σ H s → CX X.stack H s E e s' → X.xe e s'
section
variable {X : Cx} {CX : CXT} {k : Nat} {f C : Addr} {fd : FuncData} {ps : List Str} {sp : Sp} {dvs : List V} {ds : List Value} {E : XK} {x m : Str} {p pos apos : Pos} {e o : Expr} {es : List Expr} {ta : TE} {t : TA}
theorem run_fn {pins : List (Addr × Obj)} {σ : St} {H : Hp} {s : Shared} {Q : VK} {us : List Value} {vs : List V} (F : FnOk X.prog X.w X.K X.mg X.base CX k f fd ps sp) (hr : Room k X.A) (hb : Binds X.K fd ps ds) (hd : Vals dvs ds) (hx : Passes CX X E)
    (I : Inv X pins σ H s) (r : Vals vs us) (h : sp (vs ++ dvs) H Q E) : wpAny (model X.prog X.w) X.A (call (.ref f) us) (EP X pins σ Q) X.xe s := by
  have r2 : Vals (vs ++ dvs) (us ++ ds) := r.append hd
  have hl : (us ++ ds).length = ps.length := by rw [← r2.length]; exact F.len _ _ _ _ h
  refine wpAny_call (codeAny_mono (F.run X.A X.stack s H ⟨us, []⟩ (us ++ ds) (vs ++ dvs) Q E hr I.env0 (hb s us I.kIn hl) r2 h) fun r s' hq => ?_)
  cases r with
  | error e => exact hx pins σ H s e s' I hq
  | ok fl =>
    cases fl with
    | ret u => exact I.after hq
    | next => exact False.elim hq
    | brk => exact False.elim hq
    | cont => exact False.elim hq
theorem pe_call (F : FnOk X.prog X.w X.K X.mg X.base CX k f fd ps sp) (hr : Room k X.A) (hg : Gl X x) (hm : X.mg x = some (.ref f)) (hk : PySem.W.keepIn X.K (.ref f) = true) (hb : Binds X.K fd ps ds) (hd : Vals dvs ds) (hx : Passes CX X E)
    (ha : PA X (e :: es) t) (hdb : (x == ("__debug__" : Str)) = false := by decide) (he : starEach (e :: es) X.env = (false, eval e X.env) :: starEach es X.env := by rfl) (hpl : (backTo pos (starEach es X.env)).any (·.1) = false := by rfl) :
    PE X (.Call (.Name x p) (e :: es) [] pos) (tCall sp dvs E t) := by
  intro pins s σ H Q I h
  refine wpAny_Call_Name_kw (ld_glob I hg hm ?_ hdb)
  refine PySem.W.callWith_K (h₀ := X.base) I.ok.mod.kin hk (thn (ha pos pins s σ H _ I h) fun us s1 ⟨vs, H1, I1, r, q⟩ => ⟨I1.kIn, ?_⟩) he hpl
  exact run_fn F hr hb hd hx I1 r q
end
def PK (X : Cx) (kws : List Keyword) (t : TA) : Prop :=
  ∀ (pos : Pos) (pins : List (Addr × Obj)) (s : Shared) (σ : St) (H : Hp) (Q : List V → Hp → Prop), Inv X pins σ H s → t σ H Q → wpAny (model X.prog X.w) X.A (evalAll ((backToKw pos (keywordEach kws X.env)).map (·.2))) (AP X pins σ Q) X.xe s
section
variable {X : Cx} {CX : CXT} {k : Nat} {f C : Addr} {fd : FuncData} {ps ks : List Str} {sp : Sp} {E : XK} {x m : Str} {p pos apos kpos : Pos} {e o : Expr} {es : List Expr} {kws : List Keyword} {te ta : TE} {t tk : TA} {nm : Option Str}
theorem pk_nil : PK X [] tNil := fun _ _ _ _ H Q I h => wpAny_evalAll_nil ⟨[], H, I, .nil, h⟩
theorem pk_cons (ha : PE X e te) (hr : PK X kws t) : PK X (⟨nm, e, kpos⟩ :: kws) (tCons te t) := by
  intro pos pins s σ H Q I h
  show wpAny _ _ (evalAll ((do let v ← eval e X.env; standAt pos; pure v) :: (backToKw pos (keywordEach kws X.env)).map (·.2))) _ _ s
  refine wpAny_evalAll_cons (wpAny_bind (thn (ha pins s σ H _ I h) fun u s1 ⟨x, H1, I1, r1, q1⟩ => wpAny_bind (wpAny_standAt (wpAny_pure ?_))))
  exact thn (hr pos pins s1 σ H1 _ I1 q1) fun us s2 ⟨xs, H2, I2, r2, q2⟩ => ⟨x :: xs, H2, I2, .cons r1 r2, q2⟩
variable {g : List Value → List Value → List Value} {gV : List V → List V → List V}
end
structure FnScope (N P : List Str) (sc : Scope) : Prop where
  kind : sc.kind = .function
  co : sc.isCoroutine = false
  gen : sc.isGenerator = false
  nd : N.Nodup
  pre : N.take P.length = P
  par : ∀ x ∈ P, sc.names.lookup x = some .local ∨ sc.names.lookup x = some .cell
  nofree : ∀ y ∈ sc.names, y.2 ≠ .free
theorem bindL_out {kindOf : Str → Option NameKind} {x : Str} : ∀ {binds : List (Str × Value)} {m : Str → Option Value}, (∀ v, (x, v) ∉ binds) → bindL kindOf binds m x = m x
  | [], _, _ => rfl
  | (n, v) :: r, m, h => by
    unfold bindL
    rw [bindL_out fun w hw => h w (List.mem_cons_of_mem _ hw)]
    split
    · have : x ≠ n := by rintro rfl; exact h v List.mem_cons_self
      simp [this]
    · rfl
theorem bindC_out {kindOf : Str → Option NameKind} {x : Str} : ∀ {binds : List (Str × Value)} {m : Str → Option Value}, (∀ v, (x, v) ∉ binds) → bindC kindOf binds m x = m x
  | [], _, _ => rfl
  | (n, v) :: r, m, h => by
    unfold bindC
    rw [bindC_out fun w hw => h w (List.mem_cons_of_mem _ hw)]
    split
    · rfl
    · have : x ≠ n := by rintro rfl; exact h v List.mem_cons_self
      simp [this]
theorem bindL_get {kindOf : Str → Option NameKind} {x : Str} {v : Value} : ∀ {P : List Str} {vs : List Value} {i : Nat} {m : Str → Option Value}, P.Nodup → P[i]? = some x → vs[i]? = some v → kindOf x = some .local →
    bindL kindOf (P.zip vs) m x = some v
  | [], _, _, _, _, h, _, _ => by simp at h
  | _ :: _, [], _, _, _, _, h, _ => by simp at h
  | p :: P, w :: vs, 0, m, nd, h1, h2, hk => by
    simp at h1 h2; subst h1; subst h2
    show bindL kindOf ((p, w) :: P.zip vs) m p = _
    unfold bindL
    rw [bindL_out fun v hv => (List.nodup_cons.mp nd).1 (List.of_mem_zip hv).1, if_pos hk]
    simp
  | p :: P, w :: vs, i + 1, m, nd, h1, h2, hk => by
    show bindL kindOf ((p, w) :: P.zip vs) m x = _
    unfold bindL
    exact bindL_get (i := i) (List.nodup_cons.mp nd).2 (by simpa using h1) (by simpa using h2) hk
theorem bindC_get {kindOf : Str → Option NameKind} {x : Str} {v : Value} : ∀ {P : List Str} {vs : List Value} {i : Nat} {m : Str → Option Value}, P.Nodup → P[i]? = some x → vs[i]? = some v → kindOf x ≠ some .local →
    bindC kindOf (P.zip vs) m x = some v
  | [], _, _, _, _, h, _, _ => by simp at h
  | _ :: _, [], _, _, _, _, h, _ => by simp at h
  | p :: P, w :: vs, 0, m, nd, h1, h2, hk => by
    simp at h1 h2; subst h1; subst h2
    show bindC kindOf ((p, w) :: P.zip vs) m p = _
    unfold bindC
    rw [bindC_out fun v hv => (List.nodup_cons.mp nd).1 (List.of_mem_zip hv).1, if_neg hk]
    simp
  | p :: P, w :: vs, i + 1, m, nd, h1, h2, hk => by
    show bindC kindOf ((p, w) :: P.zip vs) m x = _
    unfold bindC
    exact bindC_get (i := i) (List.nodup_cons.mp nd).2 (by simpa using h1) (by simpa using h2) hk
def start (N : List Str) (vs : List V) : St := vs.map some ++ List.replicate (N.length - vs.length) none
def cxOf (CX : CXT) (P : Program) (w : World) (K : PySem.W.Frag) (mg : Str → Option Value) (base : Heap) (N : List Str) (qual : Str) (scope : Scope) (f : Addr) (cd : Value) (A : Around) (outer : List Env) (s : Shared) (H : Hp) (E : XK) : Cx where
  prog := P
  w := w
  K := K
  mg := mg
  base := base
  A := A.deeper (envOfC qual scope s.heap.objs.size f cd)
  N := N
  s₀ := s
  H₀ := H
  env := envOfC qual scope s.heap.objs.size f cd
  outer := outer
  stack := envOfC qual scope s.heap.objs.size f cd :: outer
  ex := []
  calm := true
  fn := fun _ => true
  pn := []
  xe := fun e s' => wpAny (model P w) (A.deeper (envOfC qual scope s.heap.objs.size f cd)) (leaving (envOfC qual scope s.heap.objs.size f cd) e) (fun _ s'' => CX outer H s E e s'') (fun e' s'' => CX outer H s E e' s'') s'
theorem cell_has {sc : Scope} {n : Nat} {x : Str} (h : sc.names.lookup x = some .cell) : ∃ c, (cellsFrom n sc.names []).lookup x = some c := by
  have q := PySem.W.cellsFrom_some sc.names n [] (.inl h)
  exact Option.isSome_iff_exists.mp q
theorem inv_start {CX : CXT} {P : Program} {w : World} {K : PySem.W.Frag} {mg : Str → Option Value} {base : Heap} {N ps : List Str} {qual : Str} {scope : Scope} {f : Addr} {cd : Value} {A : Around} {outer : List Env} {s s1 : Shared} {H : Hp} {E : XK} {us : List Value} {vs : List V}
    (S : FnScope N ps scope) (hd : A.handled = none) (e0 : Env0 P w K mg base A outer s H) (hl : vs.length = ps.length) (r : Vals vs us)
    (x : InCallC s s.heap.objs.size (bindL (envOfC qual scope s.heap.objs.size f cd).kindOf (ps.zip us) fun _ => none) (cellsFrom (s.heap.objs.size + 1) scope.names []) (bindC (envOfC qual scope s.heap.objs.size f cd).kindOf (ps.zip us) fun _ => none) s1) :
    Inv (cxOf CX P w K mg base N qual scope f cd A outer s H E) [] (start N vs) H s1 := by
  have hpl : ps.length ≤ N.length := by have := congrArg List.length S.pre; rw [List.length_take] at this; omega
  obtain ⟨h1, tk, rfl, hk⟩ := x.done
  have noA : ∀ b : Addr, b ∉ (cxOf CX P w K mg base N qual scope f cd A outer s H E).ex := fun b z => absurd (show b ∈ ([] : List Addr) from z) (by simp)
  refine ⟨⟨e0.mod, S.kind, rfl, rfl, Nat.le_refl _, fun y z c h1 h2 => ?_, fun y hy => ?_, fun y c _ h => ?_, fun _ => hd, Around.frames_deeper e0.frames, .inr ⟨rfl, rfl⟩, fun b z => absurd z (noA b), e0.bs, e0.bsz, fun b _ _ => noA b, fun b z => absurd z (noA b), e0.funs, e0.frf⟩,
    rfl, e0.bare, Un.kept hk, ⟨_, x.toInCall.ns, fun i y v h1 h2 h3 => ?_⟩, fun y c h => ⟨_, x.cell y c h⟩, e0.hok.fresh (Nat.le_refl _), fun y c h => ?_, fun p hp => absurd (show p ∈ ([] : List (Addr × Obj)) from hp) (by simp), e0.hok.kept hk, ?_⟩
  · exact name_of_addr x.apart (PySem.mem_of_lookup h1) (PySem.mem_of_lookup h2)
  · have hy : scope.names.lookup y = some .cell ∨ scope.names.lookup y = some .free := hy
    rcases hy with hy | hy
    · exact cell_has hy
    · exact absurd rfl (S.nofree _ (PySem.mem_of_lookup hy))
  · exact Nat.le_of_lt (x.above y c (PySem.mem_of_lookup h))
  · have hi : i < vs.length := by
      unfold start at h2
      by_cases hi : i < vs.length
      · exact hi
      · rw [List.getElem?_append_right (by simpa using hi)] at h2
        rw [List.getElem?_replicate] at h2
        split at h2 <;> cases h2
    have ha : vs[i]? = some v := by
      unfold start at h2
      rw [List.getElem?_append_left (by simpa using hi), List.getElem?_map] at h2
      cases e : vs[i]? with
      | none => rw [e] at h2; cases h2
      | some a => rw [e] at h2; cases h2; rfl
    obtain ⟨u, hu, rv⟩ := r.get ha
    have hp : ps[i]? = some y := by
      rw [← S.pre, List.getElem?_take_of_lt (by omega)]; exact h1
    have ndP : ps.Nodup := by rw [← S.pre]; exact S.nd.sublist (List.take_sublist _ _)
    refine ⟨u, rv, ?_⟩
    rcases S.par y (List.mem_of_getElem? hp) with k | k
    · exact .inl ⟨k, bindL_get ndP hp hu k⟩
    · obtain ⟨c, e⟩ := cell_has (n := s.heap.objs.size + 1) k
      refine .inr ⟨.inl k, c, e, ?_⟩
      have q := x.cell y c e
      rw [bindC_get ndP hp hu (by show scope.names.lookup y ≠ _; rw [k]; decide)] at q
      exact q
  · exact e0.hok.fresh (Nat.le_of_lt (x.above y c (PySem.mem_of_lookup h)))
  · unfold start
    show _ = N.length
    rw [List.length_append, List.length_map, List.length_replicate]
    omega
theorem fn_of {CX : CXT} {P : Program} {w : World} {K : PySem.W.Frag} {mg : Str → Option Value} {base : Heap} {k : Nat} {f : Addr} {name qual : Str} {params : Arguments} {body : List Stmt} {scope : Scope} {dV kV doc pm cdv ct oc : Value} {an od : Option Addr}
    {osl : Array (Option Value)} {N ps : List Str} {sp : Sp} (lk : K.lookup f = some ⟨oc, od, .func (PySem.W.fnOf name qual params body scope dV kV doc pm an cdv ct), osl⟩) (hcd : PySem.W.codeIn K cdv qual = true) (S : FnScope N ps scope)
    (len : ∀ vs H Q E, sp vs H Q E → vs.length = ps.length)
    (hbody : ∀ (A : Around) (outer : List Env) (s : Shared) (H : Hp) (vs : List V) (Q : VK) (E : XK), Room k (A.deeper (envOfC qual scope s.heap.objs.size f cdv)) → sp vs H Q E →
      ∃ t, PSs (cxOf CX P w K mg base N qual scope f cdv A outer s H E) body t ∧ t { nx := fun _ H' => Q .non H', rt := Q } (start N vs) H) :
    FnOk P w K mg base CX (k + 1) f (PySem.W.fnOf name qual params body scope dV kV doc pm an cdv ct) ps sp := by
  refine ⟨len, fun A outer s H args us vs Q E hr e0 hb r hsp => ?_⟩
  have hl := len _ _ _ _ hsp
  have KX : K.In s.heap := e0.mod.kin.keeps fun b o e => (e0.bs b o e).1
  have lim : s.heap.NoLimit := e0.mod.nolimit.keeps fun b o e => (e0.bs b o e).1
  have hkind : ∀ y ∈ ps.zip us, scope.names.lookup y.1 = some .local ∨ (scope.names.lookup y.1 = some .cell ∧ ((cellsFrom (s.heap.objs.size + 1) scope.names []).lookup y.1).isSome = true) := fun ⟨n, v⟩ hy => by
    rcases S.par n (List.of_mem_zip hy).1 with q | q
    · exact .inl q
    · exact .inr ⟨q, PySem.W.cellsFrom_some _ _ _ (.inl q)⟩
  refine codeAny_call_function hr.depth (KX _ _ lk) rfl S.co S.gen rfl (PySem.W.codeRec_of KX hcd) (hb _ _ _ _ ?_)
  refine wpAny_newFunctionEnv_cells S.kind hkind fun env he s1 x => ?_
  subst he
  refine ⟨lim.keeps x.toInCall.keep, codeAny_func ?_⟩
  obtain ⟨t, ht, hq⟩ := hbody A outer s H vs Q E (hr.deeper _) hsp
  have I : Inv (cxOf CX P w K mg base N qual scope f cdv A outer s H E) [] (start N vs) H s1 := inv_start S hr.hd e0 hl r x
  refine wpAny_mono (ht [] s1 (start N vs) H _ I hq) (fun fl s' hs => ?_) fun e s' hs => hs
  have fin : ∀ {σ' : St} {H' : Hp} {v : V} {u : Value}, Inv (cxOf CX P w K mg base N qual scope f cdv A outer s H E) [] σ' H' s' → RelV v u → Q v H' → CE outer P w H s Q u s' :=
    fun {σ' H' v u} J rv q => ⟨v, H', J.os, J.bare, J.base, J.hok, rv, q⟩
  cases fl with
  | ret u =>
    obtain ⟨v, σ', H', J, rv, q⟩ := hs
    exact fin J rv q
  | next =>
    obtain ⟨σ', H', J, q⟩ := hs
    exact fin (v := V.non) (u := Value.none) J rfl q
  | brk =>
    obtain ⟨_, _, _, q⟩ := hs
    exact False.elim q
  | cont =>
    obtain ⟨_, _, _, q⟩ := hs
    exact False.elim q
end L2
namespace L2
open PySem PySem.Spec PyProof.Rows
section
variable {X : Cx} {x : Str} {p pos : Pos} {e : Expr} {es : List Expr} {t : TA} {id T : String} {r : List V → Hp → VK → Prop}
def tCB (r : List V → Hp → VK → Prop) (t : TA) : TE := fun σ H Q => t σ H fun vs H1 => r vs H1 Q
theorem pe_callB (hc : CallR X (.builtin id) r) (hg : Gl X x) (hm : X.mg x = none) (hv : bootBuiltins x = some (.builtin id)) (ha : PA X (e :: es) t) (hn : x ≠ "__name__" := by decide) (hdb : (x == ("__debug__" : Str)) = false := by decide)
    (he : starEach (e :: es) X.env = (false, eval e X.env) :: starEach es X.env := by rfl) (hpl : (backTo pos (starEach es X.env)).any (·.1) = false := by rfl) : PE X (.Call (.Name x p) (e :: es) [] pos) (tCB r t) := by
  intro pins s σ H Q I h
  refine wpAny_Call_Name_kw (ld_blt I hg hm hv ?_ hn hdb)
  exact PyProof.Rows.callWith_builtin1 (thn (ha pos pins s σ H _ I h) fun us s1 ⟨vs, H1, I1, r1, q1⟩ => hc pins s1 σ H1 vs us Q I1 r1 q1) he hpl
theorem pe_callTy (hc : CallR X (.type T) r) (hg : Gl X x) (hm : X.mg x = none) (hv : bootBuiltins x = some (.type T)) (ha : PA X (e :: es) t) (hn : x ≠ "__name__" := by decide) (hdb : (x == ("__debug__" : Str)) = false := by decide)
    (he : starEach (e :: es) X.env = (false, eval e X.env) :: starEach es X.env := by rfl) (hpl : (backTo pos (starEach es X.env)).any (·.1) = false := by rfl) : PE X (.Call (.Name x p) (e :: es) [] pos) (tCB r t) := by
  intro pins s σ H Q I h
  refine wpAny_Call_Name_kw (ld_blt I hg hm hv ?_ hn hdb)
  exact PyProof.Rows.callWith_type1 (thn (ha pos pins s σ H _ I h) fun us s1 ⟨vs, H1, I1, r1, q1⟩ => hc pins s1 σ H1 vs us Q I1 r1 q1) he hpl
end
end L2
namespace HT
open PySem PyProof.Rows
def lexLt : List Int → List Int → Bool
  | [], [] => false
  | [], _ :: _ => true
  | _ :: _, [] => false
  | x :: xs, y :: ys => if x = y then lexLt xs ys else decide (x < y)
theorem lexLt_cons (x y : Int) (xs ys : List Int) : lexLt (x :: xs) (y :: ys) = if x = y then lexLt xs ys else decide (x < y) := rfl
theorem lexLt_nil_nil : lexLt [] [] = false := rfl
theorem lexLt_nil_cons (y : Int) (ys : List Int) : lexLt [] (y :: ys) = true := rfl
theorem lexLt_cons_nil (x : Int) (xs : List Int) : lexLt (x :: xs) [] = false := rfl
theorem eqAt_int (A : Around) (s : Shared) (a : Int) (t : Tok) (c : Int) (u : Tok) : ∃ e, SeqAt.EqAt A s (.int a t) (.int c u) e ∧ (e = true ↔ a = c) :=
  ⟨(a == c), SeqAt.EqAt.int_int a t c u, by simp⟩
theorem rcLt_int (A : Around) (s : Shared) (a : Int) (t : Tok) (c : Int) (u : Tok) (prog : Program) (w : World) (E : Value → Shared → Prop) (Q : Value → Shared → Prop) (h : Q (.bool (decide (a < c))) s) :
    wpAny (model prog w) A (richCompare .Lt (.int a t) (.int c u)) Q E s :=
  (PyProof.Rows.lt_int h : wpAny (model prog w) A (compareOp .Lt (.int a t) (.int c u)) Q E s)
section
open PySem.SeqAt
open PySem.AutoSeq1 (wpAny_loadPart')
open PySem.MeetsSeq PySem.MeetsSeq2 PySem.MeetsSeq3
theorem tuple_lt_ints (l b : Addr) (items items2 : Array Value) (n n2 : Nat) (dd dd2 : Option Addr) (sl sl2 : Array (Option Value)) (ns ms : List Int) (hi : IntsAre items.toList ns) (hj : IntsAre items2.toList ms) :
    Meets (Builtin.«tuple.__lt__» ⟨[.ref l, .ref b], []⟩)
      (fun _ R s => s.heap.get? l = some { cls := .type "tuple", dict := dd, data := .seq items n, slots := sl } ∧ s.heap.get? b = some { cls := .type "tuple", dict := dd2, data := .seq items2 n2, slots := sl2 } ∧
        R (.ok (.ret (.bool (lexLt ns ms)))) s) :=
  .of_wp fun prog w A R s h => by
    obtain ⟨hp, g, d, tk, os⟩ := s; obtain ⟨hl, hb, h⟩ := h
    have f2 := AutoSeq1.sub_tuple_tuple
    have z1 : items.size = ns.length := by rw [← hi.length]; simp
    have z2 : items2.size = ms.length := by rw [← hj.length]; simp
    wp_walk using wpAny_loadPart' hl, wpAny_loadPart' hb, wpAny_forIn_list _ (fun rest b s' => b.1 = none ∧ s' = ⟨hp, g, d, tk, os⟩ ∧ ∃ (vs ws : List Value) (ns' ms' : List Int), rest = vs.zip ws ∧
      IntsAre vs ns' ∧ IntsAre ws ms' ∧ ns'.length + items2.size = ms'.length + items.size ∧ R (.ok (.ret (.bool (lexLt ns' ms')))) ⟨hp, g, d, tk, os⟩) _
    case turn =>
      rintro ⟨y, x⟩ rest b s' ⟨hb', rfl, vs, ws, ns', ms', hz, hvi, hwi, hlen, hR⟩
      cases hvi with
      | nil => rw [List.zip_nil_left] at hz; cases hz
      | cons a t hvi' =>
        cases hwi with
        | nil => rw [List.zip_nil_right] at hz; cases hz
        | cons c u hwi' =>
          rw [List.zip_cons_cons] at hz
          injection hz with hyx hrest
          injection hyx with hy hx
          subst hy hx
          rw [lexLt_cons] at hR
          simp only [List.length_cons] at hlen
          obtain ⟨e, he, hiff⟩ := eqAt_int A.in1 ⟨hp, g, d, tk, os⟩ a t c u
          refine wpAny_bind (he prog w _ _ ?_)
          cases e with
          | true =>
            rw [if_pos (hiff.mp rfl)] at hR
            wp_walk
            exact ⟨rfl, rfl, _, _, _, _, hrest, hvi', hwi', by omega, hR⟩
          | false =>
            rw [if_neg (fun q => absurd (hiff.mpr q) Bool.false_ne_true)] at hR
            have hri := rcLt_int A.in1 ⟨hp, g, d, tk, os⟩ a t c u prog w
            wp_walk using hri
            exact ⟨_, rfl, by simpa using hR⟩
    case fin =>
      rintro ⟨b1, b2⟩ s' ⟨hb', rfl, vs, ws, ns', ms', hz, hvi, hwi, hlen, hR⟩
      simp only at hb'
      subst hb'
      have hv : lexLt ns' ms' = decide (items.size < items2.size) := by
        cases hvi with
        | nil =>
          cases hwi with
          | nil =>
            simp only [List.length_nil] at hlen
            rw [lexLt_nil_nil]
            exact (decide_eq_false (by omega)).symm
          | cons c u hw =>
            simp only [List.length_nil, List.length_cons] at hlen
            rw [lexLt_nil_cons]
            exact (decide_eq_true (by omega)).symm
        | cons a t hv =>
          cases hwi with
          | nil =>
            simp only [List.length_nil, List.length_cons] at hlen
            rw [lexLt_cons_nil]
            exact (decide_eq_false (by omega)).symm
          | cons c u hw =>
            rw [List.zip_cons_cons] at hz
            cases hz
      rw [hv] at hR
      wp_walk
      exact ⟨_, rfl, by simpa [Builtin.Tuple.tupleCompareSizes] using hR⟩
    case h =>
      exact ⟨rfl, rfl, items.toList, items2.toList, ns, ms, rfl, hi, hj, by omega, h⟩
end
section
variable {prog : Program} {w : World} {A : Around} {E : Value → Shared → Prop} {s : Shared}
theorem lt_tupInts {l b : Addr} {items items2 : Array Value} {ns ms : List Int} {Q : Value → Shared → Prop} (hl : IsTup s.heap l items) (hb : IsTup s.heap b items2) (hi : IntsAre items.toList ns) (hj : IntsAre items2.toList ms)
    (hu : A.units < cLine) (h : Q (.bool (lexLt ns ms)) s) : wpAny (model prog w) A (compareOp .Lt (.ref l) (.ref b)) Q E s := by
  obtain ⟨⟨cls, dd, data, sl⟩, ho, hc, n, hd⟩ := id hl
  obtain ⟨⟨cls2, dd2, data2, sl2⟩, ho2, hc2, n2, hd2⟩ := id hb
  simp only at hc hd hc2 hd2
  subst hc hd hc2 hd2
  exact richCompare_meets_room (op := .Lt) ⟨_, ho, rfl⟩ ⟨_, ho2, rfl⟩ PySem.F.slot_tuple_lt PySem.F.entry_tuple_lt (PySem.F.args_tuple_lt_2 _ _) (tuple_lt_ints l b items items2 n n2 dd dd2 sl sl2 ns ms hi hj)
    ⟨ho, ho2, show Value.bool (lexLt ns ms) ≠ Value.notImplemented ∧ Q (.bool (lexLt ns ms)) s from ⟨(fun x => nomatch x), h⟩⟩ hu
def sIx (n d : Nat) : Option Int → Nat
  | none => d
  | some v => if v < 0 then (v + (n : Int)).toNat else min v.toNat n
end
end HT
namespace L2
open PySem PySem.Spec PyProof.Rows
abbrev TO := St → Hp → (Option Int → Hp → Prop) → Prop
def PO (X : Cx) (e : Option Expr) (t : TO) : Prop :=
  ∀ (pins : List (Addr × Obj)) (s : Shared) (σ : St) (H : Hp) (Q : Option Int → Hp → Prop), Inv X pins σ H s → t σ H Q →
    wpAny (model X.prog X.w) X.A (evalPart e X.env) (fun u s' => ∃ o H', Inv X pins σ H' s' ∧ IsPart u o ∧ Q o H') X.xe s
def tNoPart : TO := fun _ H Q => Q none H
theorem intsAre_of {ns : List Int} : ∀ {us : List Value}, Vals (ns.map V.int) us → IntsAre us ns := by
  induction ns with
  | nil => intro us r; rw [List.map_nil] at r; cases r; exact .nil
  | cons n ns ih =>
    intro us r
    rw [List.map_cons] at r
    cases r with
    | cons r1 r2 =>
      obtain ⟨t, e⟩ := r1
      subst e
      exact .cons n t (ih r2)
section
variable {X : Cx} {e : Expr} {te : TE} {lo hi : Option Expr} {tl th : TO} {pos p2 : Pos}
theorem po_none : PO X none tNoPart := by
  intro pins s σ H Q I h
  rw [evalPart_none]
  exact wpAny_pure ⟨none, H, I, .none, h⟩
def SlR (X : Cx) (r : V → Option Int → Option Int → Hp → VK → Prop) : Prop :=
  ∀ (pins : List (Addr × Obj)) (s : Shared) (σ : St) (H : Hp) (x : V) (v vl vu : Value) (lo hi : Option Int) (sl : Addr) (Q : VK), Inv X pins σ H s → RelV x v → s.heap.IsSliceOf sl vl vu .none → IsPart vl lo → IsPart vu hi → r x lo hi H Q →
    ∃ T id, typeLookup (.type T) "__getitem__" = pure (some (.builtin id)) ∧ s.TypeIs v T ∧ wpAny (model X.prog X.w) X.A (getItem v (.ref sl)) (EP X pins σ Q) X.xe s
def tSl (r : V → Option Int → Option Int → Hp → VK → Prop) (te : TE) (tl th : TO) : TE := fun σ H Q => te σ H fun x H1 => tl σ H1 fun l H2 => th σ H2 fun u H3 => r x l u H3 Q
theorem pe_slice {r : V → Option Int → Option Int → Hp → VK → Prop} (hr : SlR X r) (he : PE X e te) (hl : PO X lo tl) (hu : PO X hi th) : PE X (.Subscript e (.Slice lo hi none p2) pos) (tSl r te tl th) := by
  intro pins s σ H Q I h
  refine Subscript_ (thn (he pins s σ H _ I h) fun v s1 ⟨x, H1, I1, r1, q1⟩ => ?_)
  refine wpAny_Slice (thn (hl pins s1 σ H1 _ I1 q1) fun vl s2 ⟨l, H2, I2, pl, q2⟩ => thn (hu pins s2 σ H2 _ I2 q2) fun vu s3 ⟨u, H3, I3, pu, q3⟩ => ?_)
  rw [evalPart_none]
  refine wpAny_pure ?_
  have I4 : Inv X pins σ H3 { s3 with heap := s3.heap.push { cls := .type "slice", data := .fields #[vl, vu, .none] } } := I3.kept (t' := s3.toks) fun b ob q => Heap.get?_push_of_some _ q
  obtain ⟨T, id, hT, ht, hg⟩ := hr pins { s3 with heap := s3.heap.push { cls := .type "slice", data := .fields #[vl, vu, .none] } } σ H3 x v vl vu l u s3.heap.objs.size Q I4 r1 (Heap.IsSliceOf.new ..) pl pu q3
  show wpAny (model X.prog X.w) X.A (subscriptTail e (.Slice lo hi none p2) v (.ref s3.heap.objs.size)) (EP X pins σ Q) X.xe { s3 with heap := s3.heap.push { cls := .type "slice", data := .fields #[vl, vu, .none] } }
  exact tail_any (ops := [.ref s3.heap.objs.size, v]) ht hT hg (by with_unfolding_all rfl)
def cutV (xs : List V) (lo hi : Option Int) : List V := (xs.drop (HT.sIx xs.length 0 lo)).take (HT.sIx xs.length xs.length hi - HT.sIx xs.length 0 lo)
theorem cutV_length (xs : List V) (lo hi : Option Int) : (cutV xs lo hi).length ≤ xs.length := by
  unfold cutV
  rw [List.length_take, List.length_drop]
  omega
def rLtT (K : PySem.W.Frag) : R2 := fun x y H Q => ∃ a b ns ms, x = .ref a ∧ y = .ref b ∧ SqT K H a (ns.map V.int) ∧ SqT K H b (ms.map V.int) ∧ Q (.bl (HT.lexLt ns ms)) H
theorem op_ltT (hu : X.A.units < cLine) : OpR X (compareOp .Lt) (rLtT X.K) := by
  intro pins s σ H x y v u Q I rx ry h
  obtain ⟨a, b, ns, ms, rfl, rfl, ha, hb, q⟩ := h
  cases rx
  cases ry
  obtain ⟨its, r1, p1, _⟩ := I.tuple ha
  obtain ⟨its2, r2, p2, _⟩ := I.tuple hb
  have i1 : IntsAre its.toArray.toList ns := intsAre_of r1
  have i2 : IntsAre its2.toArray.toList ms := intsAre_of r2
  exact HT.lt_tupInts p1 p2 i1 i2 hu ⟨.bl (HT.lexLt ns ms), H, I, rfl, q⟩
end
end L2
namespace L2
open PySem PySem.Spec PyProof.Rows
def ixN (n : Nat) (i : Int) : Option Nat := if 0 ≤ i then (if i < n then some i.toNat else none) else if -(n : Int) ≤ i then some (i + n).toNat else none
def atI {α : Type} (xs : List α) (i : Int) : Option α := (ixN xs.length i).bind fun j => xs[j]?
theorem ixN_seq {n : Nat} {i : Int} {j : Nat} (h : ixN n i = some j) : seqIndex? i n = some j ∧ j < n ∧ -(n : Int) ≤ i ∧ i < n := by
  unfold ixN at h
  by_cases h0 : 0 ≤ i
  · rw [if_pos h0] at h
    by_cases h1 : i < n
    · rw [if_pos h1] at h
      have e : i.toNat = j := Option.some.inj h
      exact ⟨by rw [seqIndex_of h0 h1, e], by omega, by omega, h1⟩
    · rw [if_neg h1] at h; cases h
  · rw [if_neg h0] at h
    by_cases h1 : -(n : Int) ≤ i
    · rw [if_pos h1] at h
      have e : (i + n).toNat = j := Option.some.inj h
      exact ⟨by rw [seqIndex_neg (by omega) h1, e], by omega, h1, by omega⟩
    · rw [if_neg h1] at h; cases h
theorem atI_get {α : Type} {xs : List α} {i : Int} {v : α} (h : atI xs i = some v) : ∃ j, seqIndex? i xs.length = some j ∧ xs[j]? = some v ∧ j < xs.length ∧ -(xs.length : Int) ≤ i ∧ i < xs.length := by
  unfold atI at h
  cases e : ixN xs.length i with
  | none => rw [e] at h; cases h
  | some j =>
    rw [e] at h
    obtain ⟨h1, h2, h3, h4⟩ := ixN_seq e
    exact ⟨j, h1, h, h2, h3, h4⟩
theorem atI_nat {α : Type} {xs : List α} {j : Nat} {v : α} (h : xs[j]? = some v) : atI xs (j : Int) = some v := by
  have hj : j < xs.length := (List.getElem?_eq_some_iff.mp h).1
  have e : ixN xs.length (j : Int) = some j := by
    unfold ixN
    rw [if_pos (by omega), if_pos (by omega)]; simp
  unfold atI; rw [e]; exact h
theorem atI_last {α : Type} (xs : List α) (v : α) : atI (xs ++ [v]) (-1) = some v := by
  have hl : (xs ++ [v]).length = xs.length + 1 := by simp
  have e : ixN (xs ++ [v]).length (-1) = some xs.length := by
    unfold ixN
    rw [hl, if_neg (by decide), if_pos (by omega)]
    congr 1
    omega
  unfold atI
  rw [e]
  show (xs ++ [v])[xs.length]? = some v
  simp
def PlainIx (b : Expr) : Prop := ∀ o i, subscripted b false o i = operate [o, i] (getItem o i)
def IxR (X : Cx) (r : R2) : Prop :=
  ∀ (value slice : Expr) (pins : List (Addr × Obj)) (s : Shared) (σ : St) (H : Hp) (x y : V) (v u : Value) (Q : VK), Inv X pins σ H s → RelV x v → RelV y u → r x y H Q →
    subscripted slice false v u = operate [v, u] (getItem v u) → wpAny (model X.prog X.w) X.A (subscriptTail value slice v u) (EP X pins σ Q) X.xe s
def MtR (X : Cx) (id : String) (r : V → List V → Hp → VK → Prop) : Prop :=
  ∀ (pins : List (Addr × Obj)) (s : Shared) (σ : St) (H : Hp) (x : V) (xs : List V) (v : Value) (us : List Value) (Q : VK), Inv X pins σ H s → RelV x v → Vals xs us → r x xs H Q →
    wpAny (model X.prog X.w) X.A (call (.builtin id) (v :: us)) (EP X pins σ Q) X.xe s
section
variable {X : Cx} {a b : Expr} {ta tb : TE} {pos : Pos}
theorem IxR.or {r r' : R2} (h : IxR X r) (h' : IxR X r') : IxR X (fun x y H Q => r x y H Q ∨ r' x y H Q) := by
  intro value slice pins s σ H x y v u Q I rx ry q hs
  rcases q with q | q
  · exact h value slice pins s σ H x y v u Q I rx ry q hs
  · exact h' value slice pins s σ H x y v u Q I rx ry q hs
theorem pe_ix {r : R2} (hr : IxR X r) (ha : PE X a ta) (hb : PE X b tb) (hs : PlainIx b) : PE X (.Subscript a b pos) (tOp r ta tb) := by
  intro pins s σ H Q I h
  exact Subscript_ (binT ha hb I h fun v u s2 x y H2 I2 rx ry q => hr a b pins s2 σ H2 x y v u Q I2 rx ry q (hs _ _))
def rIxL (K : PySem.W.Frag) : R2 := fun x y H Q => ∃ p xs i v, x = .ref p ∧ y = .int i ∧ SqL K H p xs ∧ atI xs i = some v ∧ Q v H
def rIxT (K : PySem.W.Frag) : R2 := fun x y H Q => ∃ p xs i v, x = .ref p ∧ y = .int i ∧ SqT K H p xs ∧ atI xs i = some v ∧ Q v H
theorem ix_list : IxR X (rIxL X.K) := by
  intro value slice pins s σ H x y v u Q I rx ry h hs
  obtain ⟨p, xs, i, z, rfl, rfl, hq, he, q⟩ := h
  cases rx
  obtain ⟨t, rfl⟩ := ry
  obtain ⟨its, r, pl, hz⟩ := I.list hq
  obtain ⟨j, h1, h2, h3, h4, h5⟩ := atI_get he
  obtain ⟨w, ew, rw'⟩ := r.get h2
  have hl := r.length
  have hn := line63
  have fin : EP X pins σ Q w s := ⟨z, H, I, rw', q⟩
  by_cases h0 : 0 ≤ i
  · have hj : i.toNat = j := by
      rw [seqIndex_of h0 h5] at h1
      exact Option.some.inj h1
    exact item_listR pl.isList h0 (by omega) (by rw [hj]; simpa using ew) fin hs
  · have hj : (i + (its.toArray.size : Int)).toNat = j := by
      rw [seqIndex_neg (by omega) h4] at h1
      rw [List.size_toArray, ← hl]
      exact Option.some.inj h1
    exact subscriptTail_builtinR (x := w) pl.isList.typeIs slot_list_getitem.lookup
      (wpAny_getItem_list_neg (Q := fun r s' => r = w ∧ EP X pins σ Q r s') pl.isList (by omega) (by rw [List.size_toArray] <;> omega) (by omega) (by rw [hj]; simpa using ew) ⟨rfl, fin⟩) hs
theorem ix_tup : IxR X (rIxT X.K) := by
  intro value slice pins s σ H x y v u Q I rx ry h hs
  obtain ⟨p, xs, i, z, rfl, rfl, hq, he, q⟩ := h
  cases rx
  obtain ⟨t, rfl⟩ := ry
  obtain ⟨its, r, pl, hz⟩ := I.tuple hq
  obtain ⟨j, h1, h2, h3, h4, h5⟩ := atI_get he
  obtain ⟨w, ew, rw'⟩ := r.get h2
  have hl := r.length
  have hn := line63
  have fin : EP X pins σ Q w s := ⟨z, H, I, rw', q⟩
  exact subscriptTail_builtinR (x := w) pl.typeIs slot_tuple_getitem.lookup
    (getItem_tuple (j := j) (Q := fun r s' => r = w ∧ EP X pins σ Q r s') pl (by omega) (by omega) (by rw [List.size_toArray, ← hl]; exact h1) (by simpa using ew) ⟨rfl, fin⟩) hs
theorem mapSeq_set (its : List Value) (n j : Nat) (u : Value) : Obj.mapSeq (·.setIfInBounds j u) { cls := .type "list", data := .seq its.toArray n } = { cls := .type "list", data := .seq (its.set j u).toArray n } := by
  simp [Obj.mapSeq]
theorem Inv.lst {pins : List (Addr × Obj)} {σ : St} {H : Hp} {s : Shared} {p : Addr} {xs : List V} (I : Inv X pins σ H s) (h : H p = some (.lst xs)) :
    ∃ (its : List Value) (n : Nat), Vals xs its ∧ s.heap.get? p = some { cls := .type "list", data := .seq its.toArray n } ∧ xs.length ≤ sizeLine := by
  obtain ⟨z, its, n, r, e⟩ := I.hok p _ h
  exact ⟨its, n, r, e, z⟩
theorem Inv.lstUpd {pins : List (Addr × Obj)} {σ : St} {H : Hp} {s : Shared} {p : Addr} {xs ys : List V} {its its' : List Value} {n n' : Nat} {f : Obj → Obj} (I : Inv X pins σ H s) (h : H p = some (.lst xs))
    (ho : s.heap.get? p = some { cls := .type "list", data := .seq its.toArray n }) (hf : f { cls := .type "list", data := .seq its.toArray n } = { cls := .type "list", data := .seq its'.toArray n' }) (r : Vals ys its') (hz : ys.length ≤ sizeLine) (t : Nat) :
    Inv X pins σ (upd H p (.lst ys)) { s with heap := s.heap.update p f, toks := t } := by
  have e : (s.heap.update p f).get? p = some { cls := .type "list", data := .seq its'.toArray n' } := by
    rw [Heap.get?_update_self f ho (by rw [hf] <;> rfl), hf]
  refine I.write (x := p) (e := p) (by rw [h]; trivial) (.inl rfl) (fun b u hb q => (Heap.get?_update_other _ _ (Ne.symm hb)).trans q) ⟨_, e⟩ ?_
  exact ⟨hz, its', n', r, e⟩
def rSetL : V → V → V → Hp → (Hp → Prop) → Prop := fun o i v H Q => ∃ p xs k j, o = .ref p ∧ i = .int k ∧ H p = some (.lst xs) ∧ ixN xs.length k = some j ∧ Q (upd H p (.lst (xs.set j v)))
theorem set_list : PSet X rSetL := by
  intro pins s σ H o i v ov iv u Q I ro ri rv h
  obtain ⟨p, xs, k, j, rfl, rfl, hp, hj, q⟩ := h
  cases ro
  obtain ⟨t, rfl⟩ := ri
  obtain ⟨its, n, r, ho, hz⟩ := I.lst hp
  obtain ⟨h1, h2, h3, h4⟩ := ixN_seq hj
  have hl := r.length
  have hn := line63
  have I' : Inv X pins σ (upd H p (.lst (xs.set j v))) { s with heap := s.heap.update p (Obj.mapSeq (·.setIfInBounds j u)) } :=
    I.lstUpd hp ho (mapSeq_set its n j u) (r.set rv j) (by rw [List.length_set]; exact hz) s.toks
  by_cases h0 : 0 ≤ k
  · have hk : k.toNat = j := by
      rw [seqIndex_of h0 h4] at h1
      exact Option.some.inj h1
    exact PySem.W.ki_setAt ho h0 (by omega) (by rw [List.size_toArray, ← hl]; exact h4) (by rw [hk]; exact ⟨_, I', q⟩)
  · have hk : (k + (its.toArray.size : Int)).toNat = j := by
      rw [seqIndex_neg (by omega) h3] at h1
      rw [List.size_toArray, ← hl]
      exact Option.some.inj h1
    exact PySem.W.ki_setBack ho (by omega) (by rw [List.size_toArray, ← hl]; exact h3) (by omega) (by rw [hk]; exact ⟨_, I', q⟩)
theorem slice_bounds (lo hi : Option Int) (n : Nat) : (sliceBounds lo hi none n).1 = ((HT.sIx n 0 lo : Nat) : Int) ∧ (sliceBounds lo hi none n).2.1 = ((HT.sIx n n hi : Nat) : Int) ∧ (sliceBounds lo hi none n).2.2 = 1 := by
  refine ⟨?_, ?_, rfl⟩
  · cases lo with
    | none => simp [sliceBounds, HT.sIx]
    | some i =>
      simp only [sliceBounds, HT.sIx, Option.getD_none, show (1 : Int) > 0 by decide, if_true]
      by_cases h : i < 0
      · simp only [h, if_true] <;> omega
      · simp only [h, if_false] <;> omega
  · cases hi with
    | none => simp [sliceBounds, HT.sIx]
    | some i =>
      simp only [sliceBounds, HT.sIx, Option.getD_none, show (1 : Int) > 0 by decide, if_true]
      by_cases h : i < 0
      · simp only [h, if_true] <;> omega
      · simp only [h, if_false] <;> omega
theorem slicePick_cut (its : List Value) (lo hi : Option Int) : slicePick its.toArray lo hi none = ((its.drop (HT.sIx its.length 0 lo)).take (HT.sIx its.length its.length hi - HT.sIx its.length 0 lo)).toArray := by
  obtain ⟨h1, h2, h3⟩ := slice_bounds lo hi its.toArray.size
  unfold slicePick
  rw [h1, h2, h3]
  simp only [sliceRange_one, pick_run, List.size_toArray] <;> rfl
def rSlL (K : PySem.W.Frag) : V → Option Int → Option Int → Hp → VK → Prop := fun x lo hi H Q => ∃ a xs, x = .ref a ∧ SqL K H a xs ∧ ∀ p, H p = none → Q (.ref p) (upd H p (.lst (cutV xs lo hi)))
theorem sl_list : SlR X (rSlL X.K) := by
  intro pins s σ H x v vl vu lo hi sl Q I rx hs pl pu h
  obtain ⟨a, xs, rfl, hx, q⟩ := h
  cases rx
  obtain ⟨its, r, ht, hz⟩ := I.list hx
  have hlen := r.length
  refine ⟨"list", _, slot_list_getitem.lookup, ht.isList.typeIs, ?_⟩
  refine wpAny_getItem_list_slice ht.isList hs pl pu .none (by simp) ?_ (by rw [List.size_toArray] <;> omega)
  rw [slicePick_cut, ← hlen]
  refine ⟨.ref s.heap.objs.size, _, I.laid (t' := s.toks) (o := .lst (cutV xs lo hi)) (fun b ob q => Heap.get?_push_of_some _ q) (Nat.le_refl _) ?_, rfl, q _ (I.hok.fresh (Nat.le_refl _))⟩
  exact ⟨Nat.le_trans (cutV_length xs lo hi) hz, _, 0, (r.drop (HT.sIx xs.length 0 lo)).take (HT.sIx xs.length xs.length hi - HT.sIx xs.length 0 lo), Heap.get?_push_size _ rfl⟩
def flatV : V → Bool
  | .non => true
  | .bl _ => true
  | .int _ => true
  | .str _ => true
  | _ => false
def eqV : V → V → Bool
  | .non, .non => true
  | .bl a, .bl b => a == b
  | .bl a, .int b => (if a then 1 else 0) == b
  | .int a, .bl b => a == (if b then 1 else 0)
  | .int a, .int b => a == b
  | .str a, .str b => a == b
  | _, _ => false
theorem eqAt_V {A : Around} {s : Shared} {y x : V} {u v : Value} (ry : RelV y u) (rx : RelV x v) (fy : flatV y = true) (fx : flatV x = true) : SeqAt.EqAt A s u v (eqV y x) := by
  cases y with
  | non =>
    cases ry
    cases x with
    | non => cases rx; exact SeqAt.EqAt.same _
    | bl b => cases rx; exact SeqAt.EqAt.none_bool b
    | int b => obtain ⟨t, rfl⟩ := rx; exact SeqAt.EqAt.none_int b t
    | str b => obtain ⟨t, rfl⟩ := rx; exact SeqAt.EqAt.none_str b t
    | _ => exact absurd (show false = true from fx) Bool.false_ne_true
  | bl a =>
    cases ry
    cases x with
    | non => cases rx; exact SeqAt.EqAt.bool_none a
    | bl b => cases rx; exact SeqAt.EqAt.bool_bool a b
    | int b => obtain ⟨t, rfl⟩ := rx; exact SeqAt.EqAt.bool_int a b t
    | str b => obtain ⟨t, rfl⟩ := rx; exact SeqAt.EqAt.bool_str a b t
    | _ => exact absurd (show false = true from fx) Bool.false_ne_true
  | int a =>
    obtain ⟨t', rfl⟩ := ry
    cases x with
    | non => cases rx; exact SeqAt.EqAt.int_none a t'
    | bl b => cases rx; exact SeqAt.EqAt.int_bool a t' b
    | int b => obtain ⟨t, rfl⟩ := rx; exact SeqAt.EqAt.int_int a t' b t
    | str b => obtain ⟨t, rfl⟩ := rx; exact SeqAt.EqAt.int_str a t' b t
    | _ => exact absurd (show false = true from fx) Bool.false_ne_true
  | str a =>
    obtain ⟨t', rfl⟩ := ry
    cases x with
    | non => cases rx; exact SeqAt.EqAt.str_none a t'
    | bl b => cases rx; exact SeqAt.EqAt.str_bool a t' b
    | int b => obtain ⟨t, rfl⟩ := rx; exact SeqAt.EqAt.str_int a t' b t
    | str b => obtain ⟨t, rfl⟩ := rx; exact SeqAt.EqAt.str_str a t' b t
    | _ => exact absurd (show false = true from fx) Bool.false_ne_true
  | _ => exact absurd (show false = true from fy) Bool.false_ne_true
def eqU (x : V) (u : Value) : Bool := match u with
  | .none => eqV .non x
  | .bool b => eqV (.bl b) x
  | .int i _ => eqV (.int i) x
  | .str z _ => eqV (.str z) x
  | _ => false
theorem eqU_of {x y : V} {u : Value} (r : RelV y u) (f : flatV y = true) : eqU x u = eqV y x := by
  cases y with
  | non => cases r; rfl
  | bl b => cases r; rfl
  | int i => obtain ⟨t, rfl⟩ := r; rfl
  | str z => obtain ⟨t, rfl⟩ := r; rfl
  | _ => exact absurd (show false = true from f) Bool.false_ne_true
theorem any_eqU {x : V} : ∀ {xs : List V} {us : List Value}, Vals xs us → xs.all flatV = true → us.any (eqU x) = xs.any fun y => eqV y x
  | _, _, .nil, _ => rfl
  | y :: xs, u :: us, .cons r t, f => by
    rw [List.all_cons, Bool.and_eq_true] at f
    rw [List.any_cons, List.any_cons, eqU_of r f.1, any_eqU t f.2]
theorem mem_eqAt {A : Around} {s : Shared} {x : V} {v : Value} (rx : RelV x v) (fx : flatV x = true) : ∀ {xs : List V} {us : List Value}, Vals xs us → xs.all flatV = true → ∀ u ∈ us, SeqAt.EqAt A s u v (eqU x u)
  | _, _, .nil, _ => fun u hu => by cases hu
  | y :: xs, u :: us, .cons r t, f => fun u' hu => by
    rw [List.all_cons, Bool.and_eq_true] at f
    rcases List.mem_cons.mp hu with rfl | hu
    · rw [eqU_of r f.1]; exact eqAt_V r rx f.1 fx
    · exact mem_eqAt rx fx t f.2 u' hu
def inV (x : V) (xs : List V) : Bool := xs.any fun y => eqV y x
def rIn (K : PySem.W.Frag) (neg : Bool) : R2 := fun x y H Q => ∃ p xs, y = .ref p ∧ (SqL K H p xs ∨ SqT K H p xs) ∧ flatV x = true ∧ xs.all flatV = true ∧ Q (.bl (if neg then !inV x xs else inV x xs)) H
theorem op_in_seq : OpR X (compareOp .In) (rIn X.K false) := by
  intro pins s σ H x y v u Q I rx ry h
  obtain ⟨p, xs, rfl, hq, fx, fs, q⟩ := h
  cases ry
  rcases hq with hq | hq
  · obtain ⟨its, r, pl, hz⟩ := I.list hq
    refine SeqAt.in_listAt (eqU x) pl.isList (fun w hw => mem_eqAt rx fx r fs w (by simpa using hw)) ⟨.bl _, H, I, rfl, ?_⟩
    rw [show its.toArray.any (eqU x) = its.any (eqU x) by simp, any_eqU r fs]
    exact q
  · obtain ⟨its, r, pl, hz⟩ := I.tuple hq
    refine SeqAt.in_tupleAt (eqU x) pl (fun w hw => mem_eqAt rx fx r fs w (by simpa using hw)) ⟨.bl _, H, I, rfl, ?_⟩
    rw [show its.toArray.any (eqU x) = its.any (eqU x) by simp, any_eqU r fs]
    exact q
theorem op_notIn_seq : OpR X (compareOp .NotIn) (rIn X.K true) := by
  intro pins s σ H x y v u Q I rx ry h
  obtain ⟨p, xs, rfl, hq, fx, fs, q⟩ := h
  cases ry
  rcases hq with hq | hq
  · obtain ⟨its, r, pl, hz⟩ := I.list hq
    refine SeqAt.notIn_listAt (eqU x) pl.isList (fun w hw => mem_eqAt rx fx r fs w (by simpa using hw)) ⟨.bl _, H, I, rfl, ?_⟩
    rw [show its.toArray.any (eqU x) = its.any (eqU x) by simp, any_eqU r fs]
    exact q
  · obtain ⟨its, r, pl, hz⟩ := I.tuple hq
    refine SeqAt.notIn_tupleAt (eqU x) pl (fun w hw => mem_eqAt rx fx r fs w (by simpa using hw)) ⟨.bl _, H, I, rfl, ?_⟩
    rw [show its.toArray.any (eqU x) = its.any (eqU x) by simp, any_eqU r fs]
    exact q
theorem call_len_seq : CallR X (.builtin "len") (fun xs H Q => ∃ p ys, xs = [.ref p] ∧ (SqL X.K H p ys ∨ SqT X.K H p ys) ∧ Q (.int ys.length) H) := by
  intro pins s σ H xs us Q I r h
  obtain ⟨p, ys, rfl, hq, q⟩ := h
  obtain ⟨u, rfl, rx⟩ := vals1 r
  cases rx
  have hn := line63
  rcases hq with hq | hq
  · obtain ⟨its, r', pl, hz⟩ := I.list hq
    have hlen := r'.length
    exact Calls.call_len_list pl.isList (by simp only [List.size_toArray] <;> omega) ⟨.int ys.length, H, I.tok _, ⟨s.toks + 1, by rw [List.size_toArray, hlen]⟩, q⟩
  · obtain ⟨its, r', pl, hz⟩ := I.tuple hq
    have hlen := r'.length
    exact len_tuple pl (by simp only [List.size_toArray] <;> omega) ⟨.int ys.length, H, I.tok _, ⟨s.toks + 1, by rw [List.size_toArray, hlen]⟩, q⟩
def tyV (K : PySem.W.Frag) (T : String) (x : V) (H : Hp) : Prop := match x with
  | .str _ => T = "str"
  | .int _ => T = "int"
  | .ref p => (T = "list" ∧ ∃ xs, SqL K H p xs) ∨ (T = "tuple" ∧ ∃ o, K.lookup p = some o ∧ o.cls = .type "tuple" ∧ o.dict = none) ∨
      (T = "dict" ∧ ((∃ kvs, H p = some (.dK kvs)) ∨ ∃ kvs, H p = some (.dT kvs))) ∨ (T = "set" ∧ ∃ S n, H p = some (.set S n))
  | _ => False
theorem tyV_is {pins : List (Addr × Obj)} {σ : St} {H : Hp} {s : Shared} {T : String} {x : V} {v : Value} (I : Inv X pins σ H s) (r : RelV x v) (ty : tyV X.K T x H) :
    s.TypeIs v T ∧ ∀ a, v = .ref a → ∃ ob, s.heap.get? a = some ob ∧ ob.dict = none := by
  cases x with
  | str z =>
    obtain ⟨t, rfl⟩ := r
    cases (show T = "str" from ty)
    exact ⟨typeIs_str s z t, fun _ e => nomatch e⟩
  | int i =>
    obtain ⟨t, rfl⟩ := r
    cases (show T = "int" from ty)
    exact ⟨typeIs_int s i t, fun _ e => nomatch e⟩
  | ref p =>
    cases r
    rcases ty with ⟨rfl, xs, hq⟩ | ⟨rfl, o, hk, hc, hd⟩ | ⟨rfl, hk⟩ | ⟨rfl, S, n, hk⟩
    · obtain ⟨its, _, pl, _⟩ := I.list hq
      refine ⟨pl.isList.typeIs, fun a e => ?_⟩
      cases e
      obtain ⟨o, n, e, c, hd, _⟩ := pl
      exact ⟨o, e, hd⟩
    · refine ⟨⟨o, I.kIn p o hk, hc⟩, fun a e => ?_⟩
      cases e
      exact ⟨o, I.kIn _ o hk, hd⟩
    · have z : ∃ o, s.heap.get? p = some o ∧ o.ExactDict := by
        rcases hk with ⟨kvs, hk⟩ | ⟨kvs, hk⟩
        · obtain ⟨_, _, _, _, o, _, _, e, ex, _⟩ := I.hok p _ hk
          exact ⟨o, e, ex⟩
        · obtain ⟨_, _, _, _, o, _, _, e, ex, _⟩ := I.hok p _ hk
          exact ⟨o, e, ex⟩
      obtain ⟨o, e, ex⟩ := z
      refine ⟨⟨o, e, ex.1⟩, fun a e2 => ?_⟩
      cases e2
      exact ⟨o, e, ex.2.1⟩
    · obtain ⟨o, _, _, _, e, ex, _⟩ := I.hok p _ hk
      refine ⟨⟨o, e, ex.1⟩, fun a e2 => ?_⟩
      cases e2
      exact ⟨o, e, ex.2.1⟩
  | _ => exact False.elim ty
variable {o e : Expr} {es : List Expr} {to : TE} {t : TA} {name : Str} {apos cpos : Pos} {T id : String} {r : V → List V → Hp → VK → Prop}
/- xs.append(e), list.index on a module's tuple .. are MtR facts of 06m -/
end
end L2
namespace L2
open PySem PySem.Spec PyProof.Rows
def MtM (X : Cx) (id : String) (r : V → List V → Hp → VK → Prop) : Prop :=
  ∀ (pins : List (Addr × Obj)) (s : Shared) (σ : St) (H : Hp) (x : V) (xs : List V) (v : Value) (us : List Value) (Q : VK), Inv X pins σ H s → RelV x v → Vals xs us → r x xs H Q →
    wpAny (model X.prog X.w) X.A (call (.builtin id) (v :: us)) (EP X pins σ Q) X.xe s
theorem Vals.one : ∀ {x : V} {us : List Value}, Vals [x] us → ∃ u, us = [u] ∧ RelV x u
  | _, _, .cons r .nil => ⟨_, rfl, r⟩
theorem Vals.two : ∀ {x y : V} {us : List Value}, Vals [x, y] us → ∃ u v, us = [u, v] ∧ RelV x u ∧ RelV y v
  | _, _, _, .cons r (.cons q .nil) => ⟨_, _, rfl, r, q⟩
theorem Vals.rep {xs : List V} {us : List Value} (h : Vals xs us) : ∀ k : Nat, Vals (List.replicate k xs).flatten (List.replicate k us).flatten
  | 0 => .nil
  | k + 1 => by
    rw [List.replicate_succ, List.replicate_succ, List.flatten_cons, List.flatten_cons]
    exact Vals.append h (Vals.rep h k)
section
variable {X : Cx} {pins : List (Addr × Obj)} {σ : St} {H : Hp} {s : Shared} {l b : Addr} {xs ys zs : List V}
theorem Inv.lset {its its' : List Value} {n : Nat} {f : Array Value → Array Value} {t' : Nat} (I : Inv X pins σ H s) (hH : H l = some (.lst xs))
    (e : s.heap.get? l = some { cls := .type "list", data := .seq its.toArray n }) (hf : f its.toArray = its'.toArray) (hv : Vals ys its') (hz : ys.length ≤ sizeLine) :
    Inv X pins σ (upd H l (.lst ys)) { s with heap := s.heap.update l (Obj.mapSeq f), toks := t' } := by
  have q := PySem.IsL.update e f
  rw [hf] at q
  refine I.write (x := l) (e := l) (by rw [hH]; exact trivial) (.inl rfl) (fun b' u hb hu => (Heap.get?_update_other s.heap (Obj.mapSeq f) (Ne.symm hb)).trans hu) ⟨_, q⟩ ?_
  exact ⟨hz, its', _, hv, q⟩
theorem Inv.lnew {its : List Value} {t' : Nat} (I : Inv X pins σ H s) (hv : Vals ys its) (hz : ys.length ≤ sizeLine) :
    Inv X pins σ (upd H s.heap.objs.size (.lst ys)) { s with heap := s.heap.push { cls := .type "list", data := .seq its.toArray }, toks := t' } :=
  I.laid (fun _ _ q => Heap.get?_push_of_some _ q) (Nat.le_refl _) ⟨hz, its, 0, hv, Heap.get?_push_size _ rfl⟩
theorem Inv.fresh (I : Inv X pins σ H s) : H s.heap.objs.size = none := I.hok.fresh (Nat.le_refl _)
theorem Inv.lstM (I : Inv X pins σ H s) (hH : H l = some (.lst xs)) : xs.length ≤ sizeLine ∧ ∃ (its : List Value) (n : Nat), Vals xs its ∧ xs.length = its.length ∧ s.heap.get? l = some { cls := .type "list", data := .seq its.toArray n } := by
  obtain ⟨z, its, n, r, e⟩ := I.hok l _ hH
  exact ⟨z, its, n, r, r.length, e⟩
end
section
variable {X : Cx}
def rAppend : V → List V → Hp → VK → Prop := fun x vs H Q => ∃ l xs y, x = .ref l ∧ vs = [y] ∧ H l = some (.lst xs) ∧ xs.length < sizeLine ∧ Q .non (upd H l (.lst (xs ++ [y])))
theorem mt_append : MtM X "list.append" rAppend := by
  intro pins s σ H x vs v us Q I rx rv h
  obtain ⟨l, xs, y, rfl, rfl, hH, hz, q⟩ := h
  cases rx
  obtain ⟨u, rfl, ru⟩ := rv.one
  obtain ⟨z, its, n, r, hl, e⟩ := I.lstM hH
  refine call_meets F.slot_list_append ⟨_, e, rfl⟩ F.entry_list_append (F.args_list_append_2 _ _) (PySem.list_append l its.toArray n u (by rw [List.size_toArray]; omega)) ⟨e, ?_⟩
  refine ⟨.non, _, I.lset (its' := its ++ [u]) hH e (by simp) (r.append (.cons ru .nil)) ?_, rfl, q⟩
  rw [List.length_append, List.length_singleton]
  omega
def rCat : R2 := fun x y H Q => ∃ l b xs zs, x = .ref l ∧ y = .ref b ∧ H l = some (.lst xs) ∧ H b = some (.lst zs) ∧ xs.length + zs.length ≤ sizeLine ∧ ∀ p, H p = none → Q (.ref p) (upd H p (.lst (xs ++ zs)))
theorem op_cat : OpR X (binaryOp .Add) rCat := by
  intro pins s σ H x y v u Q I rx ry h
  obtain ⟨l, b, xs, zs, rfl, rfl, hH, hB, hz, q⟩ := h
  cases rx
  cases ry
  obtain ⟨z, its, n, r, hl, e⟩ := I.lstM hH
  obtain ⟨z2, its2, n2, r2, hl2, e2⟩ := I.lstM hB
  refine PySem.P.add_list e e2 ?_ (by rw [List.size_toArray, List.size_toArray]; omega)
  have ea : its.toArray ++ its2.toArray = (its ++ its2).toArray := by simp
  rw [ea]
  exact ⟨.ref _, _, I.lnew (t' := s.toks) (r.append r2) (by rw [List.length_append]; omega), rfl, q _ I.fresh⟩
end
section
variable {prog : Program} {w : World} {A : Around} {E : Value → Shared → Prop} {s : Shared}
end
section
variable {X : Cx}
end
end L2
namespace Att
open PySem PySem.W PySem.Calls PyProof.Rows
theorem ints_of_wellAll {P : Params} {h : Heap} : ∀ (ns : List Int) (vs : List Value), WellAll P h vs (ns.map WData.int) → IntsAre vs ns := by
  intro ns
  induction ns with
  | nil =>
    intro vs w
    rw [List.map_nil] at w
    cases w
    exact .nil
  | cons n ns ih =>
    intro vs w
    rw [List.map_cons] at w
    cases w with
    | cons a b =>
      cases a
      exact .cons _ _ (ih _ b)
theorem script_of {l : OpenLaw} {n : Nat} (hn : l.most = some n) {P : Params} {h : Heap} {args : List WData} {vals : List Value}
    (hpre : l.row.toRowW.claim.pre args = true) (hwl : WellAll P h vals args) :
    ∃ a vs ns, vals = [Value.ref a] ∧ args = [WData.list (ns.map WData.int)] ∧ h.get? a = some { cls := .type "list", data := .seq vs.toArray } ∧ IntsAre vs ns ∧ ns.length ≤ n := by
  have hsh : WShape.hasAll [] args [.list .int] = true := (pre_splitW hpre).1
  have hc : l.pre.holds [] { args := args } = true := (pre_splitW hpre).2
  obtain ⟨d, r, rfl, h1, h2⟩ := hasAllW_cons hsh
  obtain rfl := hasAllW_nil h2
  obtain ⟨xs, rfl, h3⟩ := hasW_list h1
  obtain ⟨ns, rfl⟩ := items_int h3
  have hlen : ns.length ≤ n := by
    unfold OpenLaw.pre at hc
    have h4 : (WTm.not (.lt (.lit (.int (n : Int))) (.len (.arg 0)))).holds [] { args := [.list (ns.map .int)] } = true := by
      have h4 := (holds_andW hc).1
      rw [hn] at h4
      exact h4
    have h5 := condW_of h4 (w_not (w_lt w_lit (w_len_list (w_arg rfl))))
    rw [List.length_map] at h5
    refine Nat.le_of_not_lt fun q => ?_
    have q' : (n : Int) < ((ns.length : Nat) : Int) := by omega
    first
      | (rw [decide_eq_true q'] at h5; exact absurd h5 (by decide))
      | (simp at h5; omega)
  cases hwl with
  | cons w1 w2 =>
    cases w2
    cases w1 with
    | list ho hall => exact ⟨_, _, ns, rfl, rfl, ho, ints_of_wellAll ns _ hall, hlen⟩
theorem post_true (l : OpenLaw) (args : List WData) : l.row.toRowW.claim.post args (.bool true) args = true :=
  postW_of (r := l.row.toRowW) (X := (true == true))
    (show WShape.has [] (.bool true) .bool = true by first | rfl | decide | simp [WShape.has, WShape.arms, WShape.armsAll])
    (show (WTm.eq .res (.lit (.bool true))).value [] { args := args, res := some (.bool true), after := args } = some (.bool (true == true)) from w_eq_bool (w_res rfl) w_lit) rfl
theorem attach_call {l : OpenLaw} {n : Nat} {q : Program} {loose : List Str} {XP : (Str → Option Value) → Heap → Prop} {YP : World → Heap → Prop} {d : DefRec}
    (hn : l.most = some n) (hdf : d.params.defaults = [])
    (call : ∀ (w : World) (s₀ s₁ : Shared) (mg mb : Str → Option Value) (fa : Addr) (o : Obj) (pm cd doc : Value) (a : Addr) (vs : List Value) (ns : List Int),
      Ground q loose [] XP w s₀ mg mb s₁.heap → YP w s₁.heap →
      s₁.heap.get? fa = some o → o.data = .func (docDef d.name d.params d.body d.scope pm cd doc) → s₁.heap.CodeRec cd d.name → mg d.name = some (.ref fa) →
      s₁.heap.get? a = some { cls := .type "list", data := .seq vs.toArray } → IntsAre vs ns → ns.length ≤ n → s₁.gens = #[] →
      codeAny (model l.prog w) callerA (.call (.ref fa) ⟨[.ref a], []⟩) (fun r s' => r = .ok (.ret (.bool true)) ∧ OldK s₁.heap s'.heap ∧ s'.os = s₁.os ∧ AllBare s'.gens) s₁) :
    WalkO q loose XP YP l.row.toRowW d [] (fun f vs => PySem.call f vs) := by
  intro w s₀ s₁ mg mb G Y fa o pm cd doc dV kV ho hd hcd hD hmg hg args vals as hpre hlay hrd hwl hlo
  obtain rfl : dV = .none := Dflts.none hD hdf
  obtain rfl : kV = .none := Dflts.noKw hD
  obtain ⟨a, vs, ns, rfl, rfl, hobj, hints, hlen⟩ := script_of hn hpre hwl
  refine enter_call (codeAny_mono (call w s₀ s₁ mg mb fa o pm cd doc a vs ns G Y ho (fd_plain hd) hcd hmg hobj hints hlen hg) fun r s' hq => ?_)
  obtain ⟨rfl, h2, h3, h4⟩ := hq
  exact ⟨.inl ⟨.bool true, .bool true, [], rfl, fun _ => rfl, .bool true, post_true l _, fun _ => ⟨List.Pairwise.nil, fun _ hm => (nomatch hm)⟩⟩, h2, h3, h4⟩
section
variable {prog : Program} {w : World} {A : Around} {E : Value → Shared → Prop} {s : Shared} {K : Frag}
end
end Att
namespace L2
open PySem PySem.Spec PyProof.Rows
theorem vals_ints : ∀ {vs : List Value} {ns : List Int}, IntsAre vs ns → Vals (ns.map V.int) vs
  | _, _, .nil => .nil
  | _, _, .cons n t h => .cons ⟨t, rfl⟩ (vals_ints h)
def Only (H : Hp) : Prop := ∀ b, H b = none ∨ ∃ o xs, H b = some (.frz o (.lst xs))
theorem law_call {P : Program} {w : World} {K : PySem.W.Frag} {mg mb : Str → Option Value} {CX : CXT} {k : Nat} {fa a : Addr} {fd : FuncData} {x : Str} {sp : Sp} {s₁ : Shared} {vs : List Value} {ns : List Int}
    (KX : K.In s₁.heap) (hns : s₁.heap.Ns mainGlobals mg) (hb : s₁.heap.Ns builtinsNs mb) (hbb : ∀ x : Str, x ≠ "__name__" → mb x = bootBuiltins x) (hlim : s₁.heap.NoLimit) (hg : s₁.gens = #[])
    (ha : s₁.heap.get? a = some { cls := .type "list", data := .seq vs.toArray }) (hi : IntsAre vs ns) (hl : ns.length ≤ sizeLine) (hr : Room k callerA)
    (F : ∀ base : Heap, K.In base → base.Ns mainGlobals mg → FnOk P w K mg base CX k fa fd [x] sp) (hbind : ∀ (s : Shared) (u : Value), BindsTo s fd ⟨[u], []⟩ [(x, u)])
    (hsp : ∀ H : Hp, Only H → SqL K H a (ns.map V.int) → sp [.ref a] H (fun v _ => v = .bl true) fun _ _ _ => False)
    (hCX : ∀ H e s', CX [] H s₁ (fun _ _ _ => False) e s' → False) :
    codeAny (model P w) callerA (.call (.ref fa) ⟨[.ref a], []⟩) (fun r s' => r = .ok (.ret (.bool true)) ∧ OldK s₁.heap s'.heap ∧ s'.os = s₁.os ∧ AllBare s'.gens) s₁ := by
  have rv := vals_ints hi
  have lenV := hi.length
  -- from an abstract heap in which nothing but the script may be tracked
  have core : ∀ H : Hp, Only H → SqL K H a (ns.map V.int) → HOk P w H s₁.heap → (∀ b, H b ≠ none → b = a) → (H a ≠ none → K.lookup a = none) →
      codeAny (model P w) callerA (.call (.ref fa) ⟨[.ref a], []⟩) (fun r s' => r = .ok (.ret (.bool true)) ∧ OldK s₁.heap s'.heap ∧ s'.os = s₁.os ∧ AllBare s'.gens) s₁ := by
    intro H hO hS hok hA hK
    have base_of : ∀ {b : Addr} {o : Obj}, s₁.heap.get? b = some o → H b = none → (hidT s₁.heap H).get? b = some o := fun e n => hidT_get e n
    have noA : ∀ {b : Addr} {o : Obj} {es : Array DictEntry} {ep : Nat}, s₁.heap.get? b = some o → o.data = .dict es ep → H b = none := fun {b o es ep} e d => by
      cases q : H b with
      | none => rfl
      | some u =>
        have e' : b = a := hA b (by rw [q]; simp)
        subst e'
        rw [ha] at e; cases e
        have d' : Data.seq vs.toArray _ = Data.dict es ep := d
        cases d'
    have nsK : ∀ {b : Addr} {m : Str → Option Value}, s₁.heap.Ns b m → (hidT s₁.heap H).Ns b m := fun {b m} ⟨o, es, ep, e, d, r⟩ => ⟨o, es, ep, base_of e (noA e d), d, r⟩
    have hKb : K.In (hidT s₁.heap H) := fun b o e => base_of (KX b o e) (by
      cases q : H b with
      | none => rfl
      | some u =>
        have e' : b = a := hA b (by rw [q]; simp)
        subst e'
        rw [hK (by rw [q]; simp)] at e; cases e)
    have hM : Mod K mg (hidT s₁.heap H) := ⟨hKb, nsK hns, ⟨mb, nsK hb, hbb⟩, let ⟨mc, h1, h2⟩ := hlim; ⟨mc, nsK h1, h2⟩⟩
    have e0 : Env0 P w K mg (hidT s₁.heap H) callerA [] s₁ H := ⟨rfl, hM, fun b o e => of_hidT e, Nat.le_of_eq (hidT_size _ _), trivial, fun b hb => absurd (show b ∈ ([] : List Addr) from hb) (by simp), hok, .of_eq hg⟩
    refine codeAny_mono ((F _ hKb (nsK hns)).run callerA [] s₁ H ⟨[.ref a], []⟩ [.ref a] [.ref a] _ _ hr e0 (hbind s₁ (.ref a)) (.cons rfl .nil) (hsp H hO hS)) fun r s' h => ?_
    cases r with
    | error e => exact (hCX H e s' h).elim
    | ok fl =>
      cases fl with
      | next => exact False.elim h
      | brk => exact False.elim h
      | cont => exact False.elim h
      | ret u =>
        obtain ⟨v, H', os, bare, un, hok', r', q⟩ := h
        have q' : v = .bl true := q
        subst q'
        obtain rfl : u = Value.bool true := r'
        refine ⟨rfl, OldK.of_keep fun b o e => ?_, os, bare⟩
        cases q : H b with
        | none => exact un.keep b o e q (by intro z; exact absurd (show b ∈ ([] : List Addr) from z) (by simp)) (by simp)
        | some u =>
          rcases hO b with z | ⟨ob, xs, z⟩
          · rw [q] at z; cases z
          · have z2 := un.frzs b ob _ z
            obtain ⟨e1, _⟩ := hok b _ z
            obtain ⟨e2, _⟩ := hok' b _ z2
            rw [e] at e1; cases e1
            exact e2
  cases hk : K.lookup a with
  | some o =>
    -- the script is one of the module's own objects
    have e := KX a o hk
    rw [ha] at e
    cases e
    refine core (fun _ => none) (fun _ => .inl rfl) (.inr ⟨_, vs.toArray, _, hk, rfl, rfl, rfl, by rw [List.size_toArray, lenV]; exact hl, by simpa using rv⟩) (fun b u z => by have z' : (none : Option HO) = some u := z; cases z') (fun b z => absurd rfl z) fun z => absurd rfl z
  | none =>
    refine core (fun b => if b = a then some (.frz { cls := .type "list", data := .seq vs.toArray } (.lst (ns.map V.int))) else none) (fun b => ?_) (.inl (.inr ⟨{ cls := .type "list", data := .seq vs.toArray }, if_pos rfl⟩)) (fun b u z => ?_) (fun b z => ?_) fun _ => hk
    · by_cases hb : b = a
      · exact .inr ⟨_, _, if_pos hb⟩
      · exact .inl (if_neg hb)
    · by_cases hb : b = a
      · have z' := (if_pos hb).symm.trans z
        cases z'
        subst hb
        exact ⟨ha, by rw [List.length_map]; exact hl, vs, _, rv, ha⟩
      · have z' := (if_neg hb).symm.trans z
        cases z'
    · by_cases hb : b = a
      · exact hb
      · exact absurd (if_neg hb) z
end L2
namespace L2
open PySem PySem.Spec PyProof.Rows
abbrev KOf {K : PySem.W.Frag} {h : Heap} (_ : K.In h) : PySem.W.Frag := K
theorem walk_of {l : PySem.W.OpenLaw} {n k : Nat} {q : Program} {loose : List Str} {XP : (Str → Option Value) → Heap → Prop} {YP : World → Heap → Prop} {d : DefRec} {K : Params → PySem.W.Frag} {CX : World → CXT} {sp : World → Sp} {x : Str}
    (hn : l.most = some n) (hn2 : n ≤ sizeLine) (hdf : d.params.defaults = []) (hr : Room k callerA)
    (hY : ∀ (w : World) (h : Heap), YP w h → (K w.params).In h)
    (F : ∀ (w : World) (mg : Str → Option Value) (fa : Addr) (h : Heap), (K w.params).In h → h.Ns mainGlobals mg → mg d.name = some (.ref fa) →
      ∃ fd : FuncData, (∀ (s : Shared) (u : Value), BindsTo s fd ⟨[u], []⟩ [(x, u)]) ∧
        ∀ base : Heap, (K w.params).In base → base.Ns mainGlobals mg → FnOk l.prog w (K w.params) mg base (CX w) k fa fd [x] (sp w))
    (hsp : ∀ (w : World) (H : Hp) (a : Addr) (ns : List Int), ns.length ≤ n → Only H → SqL (K w.params) H a (ns.map V.int) → sp w [.ref a] H (fun v _ => v = .bl true) fun _ _ _ => False)
    (hCX : ∀ (w : World) (H : Hp) (s : Shared) (e : Value) (s' : Shared), CX w [] H s (fun _ _ _ => False) e s' → False) :
    PySem.W.WalkO q loose XP YP l.row.toRowW d [] (fun f vs => PySem.call f vs) := by
  refine Att.attach_call hn hdf fun w s₀ s₁ mg mb fa o pm cd doc a vs ns G Y ho hd hcd hmg hobj hints hlen hg => ?_
  have KX := hY w _ Y
  obtain ⟨fd, hb, hF⟩ := F w mg fa _ KX G.T.g hmg
  exact law_call KX G.T.g G.T.b G.T.builtins G.T.nolimit hg hobj hints (Nat.le_trans hlen hn2) hr hF hb (fun H hO hS => hsp w H a ns hlen hO hS) fun H e s' => hCX w H s₁ e s'
end L2
/- THE LAST THEOREM (shape; LID, My.* are yours):
   My.Adr: a structure of the addresses that your layer names (classes, functions); My.Txt K t: a structure (Prop) of the equations over K;
   My.txt_mk : {K} {implicit addresses ..} (e1 : nsIn K mainGlobals "law" = some (some (.ref f))) (e2 : K.lookup f = some ⟨oc, od, .func (fnOf "law" "law" params body scope dV kV doc pm an cdv ct), sl⟩) (e3 : codeIn K cdv "law" = true) .. : ∃ t, My.Txt K t
set_option maxRecDepth 100000 in
set_option maxHeartbeats 0 in
theorem PySem.Challenge.cw_LID_holds : PySem.Challenge.rw_LID.Holds := by
  w_on; o_law; k_head; (case hw => w_witness2)
  k_fill
  refine L2.walk_of (l := PySem.Challenge.rw_LID) (n := 63) (k := 40) (x := "script") (CX := fun w => ..) (sp := fun _ => My.sp_law) rfl (by decide) rfl ⟨rfl, by decide, by decide⟩ (fun w h Y => PySem.W.kIn_of Y) ?F ?S ?C
  case F =>
    intro w mg fa h KX G hmg
    have T : ∃ t, My.Txt (L2.KOf KX) t := by
      dsimp only [L2.KOf]                          -- K must stand as «<heap const> w.params» for k_is
      refine' My.txt_mk ?e1 ?e2 ?e3 ..
      (case e1 => PySem.W.k_is)                    -- in the order: a name -> its address -> its object -> its parts
      (case e2 => PySem.W.k_is)
      ..
    obtain ⟨t, T⟩ := T
    have e0 := hmg.symm.trans (PySem.W.mg_of KX G T.law)
    cases e0                                       -- fa is the law's own address
    exact ⟨_, fun s u => .of_eq rfl, fun base kb nb => My.law_fn T kb nb⟩     -- if «.of_eq rfl» comes too early: refine' ⟨_, ?b, fun base kb nb => My.law_fn T kb nb⟩; exact fun s u => .of_eq rfl
  case S => exact fun w H a ns hl hO hS => ..
  case C => exact ..
(the tactic k_is has no namespace: write k_is) -/
namespace L2
open PySem PySem.Spec PyProof.Rows
def defArgs (s : Stmt) : Arguments := match s with
  | .FunctionDef _ a _ _ _ _ _ _ _ _ => a
  | _ => { posonlyargs := [], args := [], vararg := none, kwonlyargs := [], kw_defaults := [], kwarg := none, defaults := [] }
def defBody (s : Stmt) : List Stmt := match s with
  | .FunctionDef _ _ b _ _ _ _ _ _ _ => b
  | _ => []
def defScope (s : Stmt) : Scope := match s with
  | .FunctionDef _ _ _ _ _ _ sc _ _ _ => sc
  | _ => { kind := .function, names := [], isGenerator := false, isCoroutine := false }
abbrev CX0 : CXT := fun _ _ _ _ _ _ => False
abbrev E0 : XK := fun _ _ _ => False
theorem pass0 {X : Cx} : Passes CX0 X E0 := fun _ _ _ _ _ _ _ h => h.elim
structure Fun (K : PySem.W.Frag) (x qual : Str) (st : Stmt) (f : Addr) (fd : FuncData) : Prop where
  ex : ∃ (oc : Value) (od : Option Addr) (kV doc pm : Value) (an : Option Addr) (cdv ct : Value) (osl : Array (Option Value)),
    fd = PySem.W.fnOf x qual (defArgs st) (defBody st) (defScope st) .none kV doc pm an cdv ct ∧ K.lookup f = some ⟨oc, od, .func fd, osl⟩ ∧ PySem.W.codeIn K cdv qual = true
  kp : PySem.W.keepIn K (.ref f) = true
section
variable {P : Program} {w : World} {K : PySem.W.Frag} {mg : Str → Option Value} {base : Heap}
theorem Fun.ok {x qual : Str} {st : Stmt} {f : Addr} {fd : FuncData} {N ps : List Str} {k : Nat} {sp : Sp} (F : Fun K x qual st f fd) (S : FnScope N ps (defScope st)) (len : ∀ vs H Q E, sp vs H Q E → vs.length = ps.length)
    (hbody : ∀ (cdv : Value) (A : Around) (outer : List Env) (s : Shared) (H : Hp) (vs : List V) (Q : VK) (E : XK), Room k (A.deeper (envOfC qual (defScope st) s.heap.objs.size f cdv)) → sp vs H Q E →
      ∃ t, PSs (cxOf CX0 P w K mg base N qual (defScope st) f cdv A outer s H E).nox (defBody st) t ∧ t { nx := fun _ H' => Q .non H', rt := Q } (start N vs) H) : FnOk P w K mg base CX0 (k + 1) f fd ps sp := by
  obtain ⟨oc, od, kV, doc, pm, an, cdv, ct, osl, rfl, lk, hcd⟩ := F.ex
  refine fn_of lk hcd S len fun A outer s H vs Q E hr hsp => ?_
  obtain ⟨t, h, q⟩ := hbody cdv A outer s H vs Q E hr hsp
  exact ⟨t, h.nox, q⟩
theorem Fun.binds {x qual : Str} {st : Stmt} {f : Addr} {fd : FuncData} {ps : List Str} (F : Fun K x qual st f fd)
    (h : ∀ (kV doc pm : Value) (an : Option Addr) (cdv ct : Value) (us : List Value), us.length = ps.length → bindArgs (PySem.W.fnOf x qual (defArgs st) (defBody st) (defScope st) .none kV doc pm an cdv ct) ⟨us, []⟩ = pure (ps.zip us)) : Binds K fd ps [] := by
  obtain ⟨oc, od, kV, doc, pm, an, cdv, ct, osl, rfl, lk, hcd⟩ := F.ex
  exact .all (h kV doc pm an cdv ct)
theorem fun_mk {x qual : Str} {st : Stmt} {f : Addr} {oc : Value} {od an : Option Addr} {osl : Array (Option Value)} {kV doc pm cdv ct : Value} (l : K.lookup f = some ⟨oc, od, .func (PySem.W.fnOf x qual (defArgs st) (defBody st) (defScope st) .none kV doc pm an cdv ct), osl⟩)
    (c : PySem.W.codeIn K cdv qual = true) (k : PySem.W.keepIn K (.ref f) = true) : Fun K x qual st f (PySem.W.fnOf x qual (defArgs st) (defBody st) (defScope st) .none kV doc pm an cdv ct) := ⟨⟨oc, od, kV, doc, pm, an, cdv, ct, osl, rfl, l, c⟩, k⟩
end
theorem hu_of {A : Around} {k : Nat} (hr : Room k A) : A.units + 1 < cLine := Nat.lt_of_le_of_lt (Nat.add_le_add_left (by decide : 1 ≤ 64) _) hr.units
section
variable {X : Cx}
end
theorem ite2 {c A B : Prop} [Decidable c] (h1 : c → A) (h2 : ¬ c → B) : if c then A else B := by
  by_cases h : c
  · rw [if_pos h]
    exact h1 h
  · rw [if_neg h]
    exact h2 h
def Same (H H' : Hp) : Prop := ∀ b o, H b = some o → H' b = some o
theorem Same.refl (H : Hp) : Same H H := fun _ _ h => h
theorem Same.trans {H H1 H2 : Hp} (a : Same H H1) (b : Same H1 H2) : Same H H2 := fun c o h => b c o (a c o h)
theorem Same.free {H H' : Hp} (e : Same H H') {l : Addr} (h : H' l = Option.none) : H l = Option.none := by
  cases q : H l with
  | none => rfl
  | some o =>
    rw [e l o q] at h
    cases h
end L2
set_option maxHeartbeats 8000000
namespace L2
open PySem PySem.Spec PyProof.Rows
section
variable {κ : Type} [DecidableEq κ]
def valV (kvs : List (κ × V)) (k : κ) : Option V := (kvs.find? fun kv => decide (kv.1 = k)).map (·.2)
def putK (kvs : List (κ × V)) (k : κ) (v : V) : List (κ × V) :=
  if (kvs.any fun kv => decide (kv.1 = k)) = true then kvs.map (fun kv => if kv.1 = k then (kv.1, v) else kv) else kvs ++ [(k, v)]
def dropK (kvs : List (κ × V)) (k : κ) : List (κ × V) := kvs.filter fun kv => decide (kv.1 ≠ k)
theorem valV_pos {p : κ × V} {r : List (κ × V)} {k : κ} (e : p.1 = k) : valV (p :: r) k = some p.2 := by simp [valV, List.find?_cons, e]
theorem valV_neg {p : κ × V} {r : List (κ × V)} {k : κ} (e : ¬ p.1 = k) : valV (p :: r) k = valV r k := by simp [valV, List.find?_cons, e]
theorem valV_any (k : κ) : ∀ kvs : List (κ × V), (kvs.any fun kv => decide (kv.1 = k)) = (valV kvs k).isSome
  | [] => rfl
  | p :: r => by
    rw [List.any_cons]
    by_cases e : p.1 = k
    · simp only [valV_pos e, decide_eq_true e, Bool.true_or, Option.isSome_some]
    · rw [valV_neg e, decide_eq_false e, Bool.false_or]; exact valV_any k r
theorem valV_map (k j : κ) (y : V) : ∀ kvs : List (κ × V), valV (kvs.map fun kv => if kv.1 = k then (kv.1, y) else kv) j = (valV kvs j).map fun x => if j = k then y else x
  | [] => rfl
  | p :: r => by
    have ih := valV_map k j y r
    rw [List.map_cons]
    by_cases h : p.1 = k
    · rw [if_pos h]
      by_cases e : p.1 = j
      · rw [valV_pos (p := (p.1, y)) e, valV_pos e, Option.map_some, if_pos (e.symm.trans h)]
      · rw [valV_neg (p := (p.1, y)) e, valV_neg e, ih]
    · rw [if_neg h]
      by_cases e : p.1 = j
      · rw [valV_pos (p := p) e, valV_pos e, Option.map_some, if_neg (fun z => h (e.trans z))]
      · rw [valV_neg (p := p) e, valV_neg e, ih]
theorem valV_snoc (k j : κ) (y : V) : ∀ kvs : List (κ × V), valV kvs k = none → valV (kvs ++ [(k, y)]) j = if j = k then some y else valV kvs j
  | [], _ => by
    by_cases e : k = j
    · rw [if_pos e.symm]; exact valV_pos (p := (k, y)) e
    · rw [if_neg (fun z => e z.symm)]; exact valV_neg (p := (k, y)) e
  | p :: r, hn => by
    rw [List.cons_append]
    have hk : ¬ p.1 = k := fun z => by rw [valV_pos z] at hn; cases hn
    rw [valV_neg hk] at hn
    have ih := valV_snoc k j y r hn
    by_cases e : p.1 = j
    · rw [valV_pos e, valV_pos e, if_neg (fun z => hk (e.trans z))]
    · rw [valV_neg e, valV_neg e, ih]
theorem valV_put (kvs : List (κ × V)) (k j : κ) (y : V) : valV (putK kvs k y) j = if j = k then some y else valV kvs j := by
  unfold putK
  by_cases a : (kvs.any fun kv => decide (kv.1 = k)) = true
  · rw [if_pos a, valV_map]
    rw [valV_any] at a
    by_cases e : j = k
    · obtain ⟨x, hx⟩ := Option.isSome_iff_exists.mp a
      rw [if_pos e, e, hx, Option.map_some, if_pos rfl]
    · rw [if_neg e]
      cases valV kvs j with
      | none => rfl
      | some x => rw [Option.map_some, if_neg e]
  · rw [if_neg a]
    refine valV_snoc k j y kvs ?_
    rw [valV_any] at a
    cases q : valV kvs k with
    | none => rfl
    | some x => rw [q] at a; exact (a rfl).elim
theorem length_putK (kvs : List (κ × V)) (k : κ) (v : V) : (putK kvs k v).length ≤ kvs.length + 1 := by
  unfold putK
  split
  · rw [List.length_map]; omega
  · rw [List.length_append, List.length_cons, List.length_nil]; omega
theorem putK_new {kvs : List (κ × V)} {k : κ} (v : V) (h : valV kvs k = none) : putK kvs k v = kvs ++ [(k, v)] := by
  unfold putK
  rw [valV_any, h]
  exact if_neg (by decide)
theorem RelO.isSome_eq {o : Option V} {u : Option Value} (r : RelO o u) : o.isSome = u.isSome := by
  cases o with
  | none => cases u with
    | none => rfl
    | some _ => exact (show False from r).elim
  | some _ => cases u with
    | none => exact (show False from r).elim
    | some _ => rfl
theorem RelO.getD {o : Option V} {u : Option Value} {d : V} {d' : Value} (r : RelO o u) (rd : RelV d d') : RelV (o.getD d) (u.getD d') := by
  cases o with
  | none => cases u with
    | none => exact rd
    | some _ => exact (show False from r).elim
  | some _ => cases u with
    | none => exact (show False from r).elim
    | some _ => exact r
theorem KV.val {kvs : List (κ × V)} {vs : List (κ × Value)} (r : KV kvs vs) (k : κ) : RelO (valV kvs k) (valueAt vs k) := by
  unfold KV at r
  induction r with
  | nil => exact True.intro
  | @cons p q ps qs h t ih =>
    obtain ⟨h1, h2⟩ := h
    by_cases e : p.1 = k
    · have e' : q.1 = k := h1.symm.trans e
      have b : valueAt (q :: qs) k = some q.2 := by simp [valueAt, List.find?_cons, e']
      rw [valV_pos e, b]; exact h2
    · have e' : ¬ q.1 = k := fun z => e (h1.trans z)
      have b : valueAt (q :: qs) k = valueAt qs k := by simp [valueAt, List.find?_cons, e']
      rw [valV_neg e, b]; exact ih
theorem KV.any {kvs : List (κ × V)} {vs : List (κ × Value)} (r : KV kvs vs) (k : κ) : (kvs.any fun kv => decide (kv.1 = k)) = vs.any fun kv => decide (kv.1 = k) := by
  unfold KV at r
  induction r with
  | nil => rfl
  | cons h t ih => rw [List.any_cons, List.any_cons, ih, h.1]
theorem KV.repl {kvs : List (κ × V)} {vs : List (κ × Value)} (r : KV kvs vs) (k : κ) {y : V} {u : Value} (ry : RelV y u) :
    KV (kvs.map fun kv => if kv.1 = k then (kv.1, y) else kv) (vs.map fun kv => if kv.1 = k then (kv.1, u) else kv) := by
  unfold KV at r ⊢
  induction r with
  | nil => exact .nil
  | @cons p q ps qs h t ih =>
    rw [List.map_cons, List.map_cons]
    refine .cons ?_ ih
    obtain ⟨h1, h2⟩ := h
    by_cases e : p.1 = k
    · rw [if_pos e, if_pos (h1.symm.trans e)]; exact ⟨h1, ry⟩
    · rw [if_neg e, if_neg (fun z => e (h1.trans z))]; exact ⟨h1, h2⟩
theorem KV.put {kvs : List (κ × V)} {vs : List (κ × Value)} (r : KV kvs vs) (k : κ) {y : V} {u : Value} (ry : RelV y u) : KV (putK kvs k y) (stored vs k u) := by
  unfold putK stored
  rw [r.any k]
  by_cases e : (vs.any fun kv => decide (kv.1 = k)) = true
  · rw [if_pos e, if_pos e]; exact r.repl k ry
  · rw [if_neg e, if_neg e]; exact Paired.snoc r ⟨rfl, ry⟩
theorem KV.drop {kvs : List (κ × V)} {vs : List (κ × Value)} (r : KV kvs vs) (k : κ) : KV (dropK kvs k) (without vs k) := by
  unfold KV at r ⊢
  unfold dropK without
  induction r with
  | nil => exact .nil
  | @cons p q ps qs h t ih =>
    obtain ⟨h1, h2⟩ := h
    rw [List.filter_cons, List.filter_cons]
    by_cases e : p.1 = k
    · have a : ¬ decide (p.1 ≠ k) = true := by simp [e]
      have b : ¬ decide (q.1 ≠ k) = true := by simp [h1.symm.trans e]
      rw [if_neg a, if_neg b]; exact ih
    · have e' : ¬ q.1 = k := fun z => e (h1.trans z)
      have a : decide (p.1 ≠ k) = true := by simp [e]
      have b : decide (q.1 ≠ k) = true := by simp [e']
      rw [if_pos a, if_pos b]; exact .cons ⟨h1, h2⟩ ih
theorem KV.keys {kvs : List (κ × V)} {vs : List (κ × Value)} (r : KV kvs vs) : kvs.map (·.1) = vs.map (·.1) := by
  unfold KV at r
  induction r with
  | nil => rfl
  | cons h t ih => rw [List.map_cons, List.map_cons, ih, h.1]
theorem KV.length {kvs : List (κ × V)} {vs : List (κ × Value)} (r : KV kvs vs) : kvs.length = vs.length := Paired.length r
end
theorem kV_is {P : Program} {w : World} {k : Key} {u : Value} (r : RelV (kV k) u) : (mixKind P w).is k u = true := by
  cases k with
  | inl i => obtain ⟨t, e⟩ := (show ∃ t, u = Value.int i t from r); subst e; exact mixKind_int P w i t
  | inr x => obtain ⟨t, e⟩ := (show ∃ t, u = Value.str x t from r); subst e; exact mixKind_str P w x t
theorem items_are {P : Program} {w : World} : ∀ {ks : List Key} {us : List Value}, Vals (ks.map kV) us → ItemsAre (mixKind P w) ks us
  | [], _, r => by rw [List.map_nil] at r; cases r; exact .nil
  | k :: ks, _, r => by
    rw [List.map_cons] at r
    cases r with
    | cons h t => exact .cons (kV_is h) (items_are t)
abbrev KT (H : Hp) : List (List Key × V) → List (List Key × Addr × Value) → Prop := Paired fun p q => p.1 = q.1 ∧ H q.2.1 = some (.tup (p.1.map kV)) ∧ RelV p.2 q.2.2
theorem KT.val {H : Hp} {kvs : List (List Key × V)} {xs : List (List Key × Addr × Value)} (r : KT H kvs xs) (k : List Key) : RelO (valV kvs k) ((atKey xs k).map (·.2)) := by
  induction r with
  | nil => exact True.intro
  | @cons p q ps qs h t ih =>
    obtain ⟨h1, _, h2⟩ := h
    by_cases e : p.1 = k
    · have e' : q.1 = k := h1.symm.trans e
      have b : atKey (q :: qs) k = some q.2 := by simp [atKey, List.find?_cons, e']
      rw [valV_pos e, b]; exact h2
    · have e' : ¬ q.1 = k := fun z => e (h1.trans z)
      have b : atKey (q :: qs) k = atKey qs k := by simp [atKey, List.find?_cons, e']
      rw [valV_neg e, b]; exact ih
theorem KT.repl {H : Hp} {kvs : List (List Key × V)} {xs : List (List Key × Addr × Value)} (r : KT H kvs xs) (k : List Key) {y : V} {u : Value} (ry : RelV y u) :
    KT H (kvs.map fun kv => if kv.1 = k then (kv.1, y) else kv) (xs.map (putAt k u)) := by
  induction r with
  | nil => exact .nil
  | @cons p q ps qs h t ih =>
    rw [List.map_cons, List.map_cons]
    refine .cons ?_ ih
    obtain ⟨h1, h2, h3⟩ := h
    unfold putAt
    by_cases e : p.1 = k
    · rw [if_pos e, if_pos (h1.symm.trans e)]; exact ⟨h1, h2, ry⟩
    · rw [if_neg e, if_neg (fun z => e (h1.trans z))]; exact ⟨h1, h2, h3⟩
theorem KT.put {H : Hp} {kvs : List (List Key × V)} {xs : List (List Key × Addr × Value)} (r : KT H kvs xs) (k : List Key) {b : Addr} {y : V} {u : Value} (hb : H b = some (.tup (k.map kV))) (ry : RelV y u) :
    KT H (putK kvs k y) (storedH xs k b u) := by
  have e : (kvs.any fun kv => decide (kv.1 = k)) = (atKey xs k).isSome := by
    rw [valV_any, (r.val k).isSome_eq, Option.isSome_map]
  unfold putK storedH
  rw [e]
  by_cases q : (atKey xs k).isSome = true
  · rw [if_pos q, if_pos q]; exact r.repl k ry
  · rw [if_neg q, if_neg q]; exact Paired.snoc r ⟨rfl, hb, ry⟩
theorem KT.keeps {H H' : Hp} {kvs : List (List Key × V)} {xs : List (List Key × Addr × Value)} (r : KT H kvs xs) (ht : ∀ b ys, H b = some (.tup ys) → H' b = some (.tup ys)) : KT H' kvs xs :=
  Paired.mapP r fun _ _ z => ⟨z.1, ht _ _ z.2.1, z.2.2⟩
section
variable {P : Program} {w : World} {H : Hp} {h : Heap} {a : Addr}
theorem rd_of {u : HO} (ok : HOk P w H h) (e : Rd H a u) : ObjOk P w H h a u := e.ok ok
theorem dk_rd {kvs : List (Key × V)} (ok : HOk P w H h) (e : Rd H a (.dK kvs)) : kvs.length ≤ sizeLine ∧ (a == sysModules) = false ∧ ∃ vs, KV kvs vs ∧ h.DictOf (mixKind P w) a vs :=
  show ObjOk P w H h a (.dK kvs) from rd_of ok e
theorem dk_of {kvs : List (Key × V)} (ok : HOk P w H h) (e : H a = some (.dK kvs)) : kvs.length ≤ sizeLine ∧ (a == sysModules) = false ∧ ∃ vs, KV kvs vs ∧ h.DictOf (mixKind P w) a vs := dk_rd ok (.inl e)
theorem key_of {ks : List Key} (ok : HOk P w H h) (e : H a = some (.tup (ks.map kV))) : (tupleKind (mixKind P w)).is h ks a := by
  obtain ⟨_, its, r, o, h1, h2, n, h3⟩ := (show ObjOk P w H h a (.tup (ks.map kV)) from ok a _ e)
  exact ⟨o, its.toArray, n, h1, h2, h3, by simpa using items_are r⟩
theorem dt_rd {kvs : List (List Key × V)} (ok : HOk P w H h) (e : Rd H a (.dT kvs)) : kvs.length ≤ sizeLine ∧ (a == sysModules) = false ∧
    ∃ xs, KT H kvs xs ∧ h.DictOfH (tupleKind (mixKind P w)) a xs := by
  obtain ⟨z, y, xs, r, o, es, ep, h1, h2, h3, h4, h5⟩ := (show ObjOk P w H h a (.dT kvs) from rd_of ok e)
  refine ⟨z, y, xs, r, o, es, ep, h1, h2, h3, h4, fun x hx => ?_, h5⟩
  have all : ∀ {l : List (List Key × V)} {m : List (List Key × Addr × Value)}, KT H l m → ∀ x ∈ m, (tupleKind (mixKind P w)).is h x.1 x.2.1 := by
    intro l m q
    induction q with
    | nil => intro x hx; exact nomatch hx
    | @cons p q ps qs hq t ih =>
      intro x hx
      rcases List.mem_cons.mp hx with e | hx
      · subst e
        exact key_of ok (by rw [← hq.1]; exact hq.2.1)
      · exact ih x hx
  exact all r x hx
theorem dt_of {kvs : List (List Key × V)} (ok : HOk P w H h) (e : H a = some (.dT kvs)) : kvs.length ≤ sizeLine ∧ (a == sysModules) = false ∧
    ∃ xs, KT H kvs xs ∧ h.DictOfH (tupleKind (mixKind P w)) a xs := dt_rd ok (.inl e)
end
def DGet (H : Hp) (a : Addr) (y : V) (r : Option V) : Prop :=
  (∃ kvs k, Rd H a (.dK kvs) ∧ y = kV k ∧ r = valV kvs k) ∨ ∃ kvs k b, Rd H a (.dT kvs) ∧ y = .ref b ∧ H b = some (.tup (k.map kV)) ∧ r = valV kvs k
def DPut (H : Hp) (a : Addr) (y v : V) (H' : Hp) : Prop :=
  (∃ kvs k, H a = some (.dK kvs) ∧ y = kV k ∧ kvs.length < sizeLine ∧ H' = upd H a (.dK (putK kvs k v))) ∨
  ∃ kvs k b, H a = some (.dT kvs) ∧ y = .ref b ∧ H b = some (.tup (k.map kV)) ∧ kvs.length < sizeLine ∧ H' = upd H a (.dT (putK kvs k v))
theorem DGet.k {H : Hp} {a : Addr} {kvs : List (Key × V)} {k : Key} (e : H a = some (.dK kvs)) : DGet H a (kV k) (valV kvs k) := .inl ⟨kvs, k, .inl e, rfl, rfl⟩
theorem DGet.t {H : Hp} {a b : Addr} {kvs : List (List Key × V)} {k : List Key} (e : H a = some (.dT kvs)) (eb : H b = some (.tup (k.map kV))) : DGet H a (.ref b) (valV kvs k) := .inr ⟨kvs, k, b, .inl e, rfl, eb, rfl⟩
theorem DPut.k {H : Hp} {a : Addr} {kvs : List (Key × V)} {k : Key} {v : V} (e : H a = some (.dK kvs)) (hl : kvs.length < sizeLine) : DPut H a (kV k) v (upd H a (.dK (putK kvs k v))) := .inl ⟨kvs, k, e, rfl, hl, rfl⟩
theorem DPut.t {H : Hp} {a b : Addr} {kvs : List (List Key × V)} {k : List Key} {v : V} (e : H a = some (.dT kvs)) (eb : H b = some (.tup (k.map kV))) (hl : kvs.length < sizeLine) :
    DPut H a (.ref b) v (upd H a (.dT (putK kvs k v))) := .inr ⟨kvs, k, b, e, rfl, eb, hl, rfl⟩
section
variable {X : Cx} {pins : List (Addr × Obj)} {σ : St} {H : Hp} {s : Shared} {a : Addr} {y v : V} {u r : Value} {o : Option V} {A : Around} {E : Value → Shared → Prop}
theorem Inv.big (I : Inv X pins σ H s) : sysModules < s.heap.objs.size := by
  have h : mainGlobals < s.heap.objs.size := (I.mod.glob.keeps I.bk).lt
  exact Nat.lt_trans (by decide) h
theorem d_getItem {Q : Value → Shared → Prop} (hu : A.units + 1 < cLine) (I : Inv X pins σ H s) (g : DGet H a y (some v)) (ry : RelV y u) (h : ∀ w' s', Inv X pins σ H s' → RelV v w' → Q w' s') :
    wpAny (model X.prog X.w) A (getItem (.ref a) u) Q E s := by
  rcases g with ⟨kvs, k, e, ey, l⟩ | ⟨kvs, k, b, e, ey, eb, l⟩
  · subst ey
    obtain ⟨z, hd, vs, rel, dd⟩ := dk_rd I.hok e
    obtain ⟨w', hw, rw'⟩ := RelO.some_of (v := v) (o := valueAt vs k) (by rw [l]; exact rel.val k)
    exact wpAny_getItem_of (kV_is ry) dd.mapOf hw (h w' _ (I.tok _) rw')
  · subst ey
    cases (show u = Value.ref b from ry)
    obtain ⟨z, hd, xs, rel, dd⟩ := dt_rd I.hok e
    obtain ⟨w', hw, rw'⟩ := RelO.some_of (v := v) (o := (atKey xs k).map (·.2)) (by rw [l]; exact rel.val k)
    obtain ⟨p, hp, hp2⟩ := Option.map_eq_some_iff.mp hw
    refine wpAny_getItem_heap (tupleKind_room_in1 hu) (key_of I.hok eb) dd hp ?_
    rw [hp2]
    exact h w' _ (I.tok _) rw'
theorem d_in {Q : Value → Shared → Prop} (hu : A.units + 1 < cLine) (I : Inv X pins σ H s) (g : DGet H a y o) (ry : RelV y u) (h : ∀ s', Inv X pins σ H s' → Q (.bool o.isSome) s') :
    wpAny (model X.prog X.w) A (compareOp .In u (.ref a)) Q E s := by
  rcases g with ⟨kvs, k, e, ey, l⟩ | ⟨kvs, k, b, e, ey, eb, l⟩
  · subst ey
    obtain ⟨z, hd, vs, rel, dd⟩ := dk_rd I.hok e
    refine wpAny_in_of (kV_is ry) hd dd.mapOf ?_
    rw [← (rel.val k).isSome_eq, ← l]
    exact h _ (I.tok _)
  · subst ey
    cases (show u = Value.ref b from ry)
    obtain ⟨z, hd, xs, rel, dd⟩ := dt_rd I.hok e
    refine wpAny_in_heap (tupleKind_room_in1 hu) (key_of I.hok eb) hd dd ?_
    have q := (rel.val k).isSome_eq
    rw [Option.isSome_map] at q
    rw [← q, ← l]
    exact h _ (I.tok _)
theorem d_write {h' : Heap} {t' : Nat} {ob : HO} (I : Inv X pins σ H s) (mu : Mut (H a)) (hs : Heap.SameBut a s.heap h') (he : ∃ q, h'.get? a = some q) (new : ObjOk X.prog X.w (upd H a ob) h' a ob) :
    Inv X pins σ (upd H a ob) { s with heap := h', toks := t' } :=
  I.write (x := a) (e := a) mu (.inl rfl) (fun b q hb z => (hs.2 b hb).trans z) he new
theorem dk_new {P : Program} {w : World} {H' : Hp} {h' : Heap} {kvs : List (Key × V)} {vs : List (Key × Value)} (z : kvs.length ≤ sizeLine) (hd : (a == sysModules) = false) (rel : KV kvs vs) (dd : h'.DictOf (mixKind P w) a vs) :
    ObjOk P w H' h' a (.dK kvs) := ⟨z, hd, vs, rel, dd⟩
theorem d_setItem {H' : Hp} {Q : Unit → Shared → Prop} (hu : A.units + 1 < cLine) (I : Inv X pins σ H s) (g : DPut H a y v H') (ry : RelV y u) (rv : RelV v r) (h : ∀ s', Inv X pins σ H' s' → Q () s') :
    wpAny (model X.prog X.w) A (setItem (.ref a) u r) Q E s := by
  rcases g with ⟨kvs, k, e, ey, l, eH⟩ | ⟨kvs, k, b, e, ey, eb, l, eH⟩
  · subst ey eH
    obtain ⟨z, hd, vs, rel, dd⟩ := dk_of I.hok e
    have hz : vs.length ≤ sizeLine := by rw [← rel.length]; exact z
    have hl : (putK kvs k v).length ≤ sizeLine := by have := length_putK kvs k v; omega
    refine wpAny_setItem_pairs (hsz := hz) (kV_is ry) dd fun h' dd' hs => h _ ?_
    have he : ∃ q, h'.get? a = some q := let ⟨q, _, _, hq, _⟩ := dd'; ⟨q, hq⟩
    exact d_write I (by rw [e]; exact True.intro) hs he (dk_new hl hd (rel.put k rv) dd')
  · subst ey eH
    cases (show u = Value.ref b from ry)
    obtain ⟨z, hd, xs, rel, dd⟩ := dt_of I.hok e
    have hz : xs.length ≤ sizeLine := by rw [← Paired.length rel]; exact z
    have hl : (putK kvs k v).length ≤ sizeLine := by have := length_putK kvs k v; omega
    refine wpAny_setItem_heap (hsz := hz) (tupleKind_room_in1 hu) (key_of I.hok eb) dd fun h' dd' hs => h _ ?_
    obtain ⟨q, es, ep, hq, h2, h3, h4, _, h5⟩ := dd'
    refine d_write I (by rw [e]; exact True.intro) hs ⟨q, hq⟩ ⟨hl, hd, _, (rel.put k eb rv).keeps fun c ys ec => ?_, q, es, ep, hq, h2, h3, h4, h5⟩
    rw [upd_ne (ne_of ec e (fun z => nomatch z))]
    exact ec
end
section
variable {X : Cx} {pins : List (Addr × Obj)} {σ : St} {H : Hp} {s : Shared} {a : Addr} {kvs : List (Key × V)} {k : Key} {u : Value} {A : Around} {E : Value → Shared → Prop}
end
def NoSl (i : Expr) : Prop := ∀ ov iv, subscripted i false ov iv = operate [ov, iv] (getItem ov iv)
theorem subD_of {prog : Program} {w : World} {A : Around} {E : Value → Shared → Prop} {s : Shared} {env : Env} {value slice : Expr} {pos : Pos} {T id : String} {Q : Value → Shared → Prop}
    (hl : typeLookup (.type T) "__getitem__" = pure (some (.builtin id))) (hs : NoSl slice)
    (h : wpAny (model prog w) A (eval value env) (fun o s₁ => wpAny (model prog w) A (eval slice env) (fun i s₂ => s₂.TypeIs o T ∧ wpAny (model prog w) A (getItem o i) Q E s₂) E s₁) E s) :
    wpAny (model prog w) A (eval (.Subscript value slice pos) env) Q E s := by
  refine Subscript_ (wpAny_mono h (fun o s₁ h₁ => wpAny_mono h₁ (fun i s₂ h₂ => ?_) fun _ _ x => x) fun _ _ x => x)
  obtain ⟨hT, h₂⟩ := h₂
  unfold subscriptTail
  refine wpAny_bind ?_
  rw [getitemInPython_of_ne hT.not_modules]
  refine wpAny_bind (wpAny_specialOf hT hl ?_)
  have fin : wpAny (model prog w) A (subscripted slice false o i) (fun r s₃ => wpAny (model prog w) A (letTemporaryGo value o r >>= fun _ => pure r) Q E s₃) E s₂ := by
    rw [hs o i]
    exact wpAny_operating (wpAny_mono h₂ (fun r s₃ h₃ => wpAny_bind (wpAny_letTemporaryGo (wpAny_pure h₃))) fun _ _ x => x)
  first
    | exact wpAny_pure (wpAny_bind fin)
    | exact wpAny_bind (wpAny_pure (wpAny_bind fin))
    | exact wpAny_bind fin
theorem dict_typeIs {X : Cx} {pins : List (Addr × Obj)} {σ : St} {H : Hp} {s : Shared} {a : Addr} {y : V} {o : Option V} (I : Inv X pins σ H s) (g : DGet H a y o) : s.TypeIs (.ref a) "dict" := by
  rcases g with ⟨kvs, k, e, _, _⟩ | ⟨kvs, k, b, e, _, _, _⟩
  · obtain ⟨_, _, vs, _, dd⟩ := dk_rd I.hok e
    exact dd.typeIs
  · obtain ⟨_, _, xs, _, dd⟩ := dt_rd I.hok e
    exact dd.typeIs
section
variable {X : Cx} {o i e value : Expr} {pos pos' tpos : Pos} {td ty tv : TE}
end
theorem dk_empty {P : Program} {w : World} {H : Hp} (h : Heap) (hb : sysModules < h.objs.size) : ObjOk P w H (h.push { cls := .type "dict", data := .dict #[] }) h.objs.size (.dK []) :=
  ⟨Nat.zero_le _, beq_eq_false_iff_ne.mpr (Ne.symm (Nat.ne_of_lt hb)), [], .nil, Heap.DictOf.new h⟩
def tDNewK : TE := fun _ H Q => ∀ p, H p = none → Q (.ref p) (upd H p (.dK []))
section
variable {X : Cx} {pos : Pos}
theorem pe_dnewK : PE X (.Dict [] [] pos) tDNewK := fun pins s σ H Q I h =>
  wpAny_Dict_empty ⟨.ref s.heap.objs.size, _, I.laid (a := s.heap.objs.size) (o := .dK []) (t' := s.toks) (fun _ _ q => Heap.get?_push_of_some _ q) (Nat.le_refl _) (dk_empty s.heap I.big), rfl, h _ (I.hok.fresh (Nat.le_refl _))⟩
end
structure M1 (X : Cx) (o : Expr) (m : Str) (apos : Pos) (e : Expr) (cpos : Pos) : Prop where
  base : attributeBase o m X.env (eval o X.env) = eval o X.env
  few : ((backTo cpos (starEach [e] X.env)).all (fun x => !x.1) && (backToKw cpos (keywordEach [] X.env)).all (fun x => x.1.isSome)
    && decide (([e] : List Expr).length + ([] : List Keyword).length + (if ([] : List Keyword).isEmpty then 0 else 1) < 30)) = true
  line : (apos.endLine == cpos.line) = true
  trees : backTo cpos (starEach [e] X.env) = [(false, eval e X.env)]
structure M2 (X : Cx) (o : Expr) (m : Str) (apos : Pos) (e f : Expr) (cpos : Pos) : Prop where
  base : attributeBase o m X.env (eval o X.env) = eval o X.env
  few : ((backTo cpos (starEach [e, f] X.env)).all (fun x => !x.1) && (backToKw cpos (keywordEach [] X.env)).all (fun x => x.1.isSome)
    && decide (([e, f] : List Expr).length + ([] : List Keyword).length + (if ([] : List Keyword).isEmpty then 0 else 1) < 30)) = true
  line : (apos.endLine == cpos.line) = true
  trees : backTo cpos (starEach [e, f] X.env) = [(false, eval e X.env), (false, eval f X.env)]
def IsD (H : Hp) (a : Addr) : Prop := (∃ kvs, Rd H a (.dK kvs)) ∨ ∃ kvs, Rd H a (.dT kvs)
theorem isD_at {X : Cx} {pins : List (Addr × Obj)} {σ : St} {H : Hp} {s : Shared} {a : Addr} (I : Inv X pins σ H s) (d : IsD H a) :
    s.TypeIs (.ref a) "dict" ∧ (∀ b, Value.ref a = .ref b → ∃ ob, s.heap.get? b = some ob ∧ ob.dict = none) ∧ (a == sysModules) = false := by
  rcases d with ⟨kvs, e⟩ | ⟨kvs, e⟩
  · obtain ⟨_, hd, vs, _, dd⟩ := dk_rd I.hok e
    refine ⟨dd.typeIs, fun b q => ?_, hd⟩
    cases q
    obtain ⟨ob, _, _, h1, h2, _⟩ := dd
    exact ⟨ob, h1, h2.2.1⟩
  · obtain ⟨_, hd, xs, _, dd⟩ := dt_rd I.hok e
    refine ⟨dd.typeIs, fun b q => ?_, hd⟩
    cases q
    obtain ⟨ob, _, _, h1, h2, _⟩ := dd
    exact ⟨ob, h1, h2.2.1⟩
section
variable {X : Cx} {pins : List (Addr × Obj)} {σ : St} {H : Hp} {s : Shared} {a : Addr} {y d : V} {u r : Value} {o : Option V} {A : Around} {E : Value → Shared → Prop}
theorem d_get2 {Q : Value → Shared → Prop} (hu : A.units + 1 < cLine) (I : Inv X pins σ H s) (g : DGet H a y o) (ry : RelV y u) (rd : RelV d r) (h : ∀ w' s', Inv X pins σ H s' → RelV (o.getD d) w' → Q w' s') :
    wpAny (model X.prog X.w) A (call (.builtin "dict.get") [.ref a, u, r]) Q E s := by
  rcases g with ⟨kvs, k, e, ey, l⟩ | ⟨kvs, k, b, e, ey, eb, l⟩
  · subst ey
    obtain ⟨z, hd, vs, rel, dd⟩ := dk_rd I.hok e
    refine call_meetsIn PySem.F.slot_dict_get dd.typeIs PySem.F.entry_dict_get (PySem.F.args_dict_get_3 _ _ _) (meets_dict_get_default (mixKind X.prog X.w) a (kV_is ry) hd r) ⟨_, dd.mapOf, h _ _ (I.tok _) ?_⟩
    rw [l]
    exact (rel.val k).getD rd
  · subst ey
    cases (show u = Value.ref b from ry)
    obtain ⟨z, hd, xs, rel, dd⟩ := dt_rd I.hok e
    refine call_meetsIn PySem.F.slot_dict_get dd.typeIs PySem.F.entry_dict_get (PySem.F.args_dict_get_3 _ _ _) (meetsH_dict_get_default (tupleKind (mixKind X.prog X.w)) a b hd r) ⟨tupleKind_room_in1 hu, k, xs, key_of I.hok eb, dd, h _ _ (I.tok _) ?_⟩
    rw [l]
    exact (rel.val k).getD rd
end
section
variable {X : Cx} {o e f : Expr} {apos cpos : Pos} {td ty tx : TE}
end
section
variable {X : Cx} {pins : List (Addr × Obj)} {σ : St} {H : Hp} {s : Shared} {a : Addr} {kvs : List (Key × V)} {A : Around} {E : Value → Shared → Prop}
end
section
variable {X : Cx} {pins : List (Addr × Obj)} {σ : St} {H : Hp} {s : Shared} {a : Addr} {y : V} {u : Value} {A : Around} {E : Value → Shared → Prop}
end
end L2
namespace L2
open PySem PySem.Spec PyProof.Rows
section
variable {κ : Type} [DecidableEq κ]
end
end L2
namespace L2
open PySem PySem.Spec PyProof.Rows
def closOf (env : Env) : List (Str × NameKind) → List (Str × Addr) → List (Str × Addr)
  | [], acc => acc
  | (n, k) :: r, acc => closOf env r (if k == .free then (n, (env.cells.lookup n).getD 0) :: acc else acc)
theorem closureFor_closOf {scope : Scope} {env : Env} (h : ∀ y ∈ scope.names, y.2 = .free → ∃ c, env.cells.lookup y.1 = some c) :
    closureFor scope env = pure (closOf env scope.names []) := by
  have key : ∀ (l : List (Str × NameKind)) (acc : List (Str × Addr)), (∀ y ∈ l, y.2 = .free → ∃ c, env.cells.lookup y.1 = some c) →
      (forIn l acc fun (x : Str × NameKind) (r : List (Str × Addr)) =>
        (if x.2 == NameKind.free then do
          let c ← cellOf env x.1
          pure (ForInStep.yield ((x.1, c) :: r))
        else pure (ForInStep.yield r) : Sem (ForInStep (List (Str × Addr))))) = pure (closOf env l acc) := by
    intro l
    induction l with
    | nil => intro acc _; rfl
    | cons y r ih =>
      intro acc hy
      obtain ⟨n, k⟩ := y
      rw [List.forIn_cons]
      by_cases hk : k = .free
      · subst hk
        obtain ⟨c, hc⟩ := hy (n, .free) List.mem_cons_self rfl
        have e1 : cellOf env n = pure c := by unfold cellOf; rw [hc]
        simp only [beq_self_eq_true, if_true]
        rw [e1]
        show (pure c >>= fun c => pure (ForInStep.yield ((n, c) :: acc))) >>= _ = _
        have e2 : closOf env ((n, NameKind.free) :: r) acc = closOf env r ((n, c) :: acc) := by
          have hc' : env.cells.lookup n = some c := hc
          show closOf env r (if (NameKind.free == NameKind.free) = true then (n, (env.cells.lookup n).getD 0) :: acc else acc) = _
          rw [hc']
          rfl
        rw [e2]
        exact ih _ fun z hz => hy z (List.mem_cons_of_mem _ hz)
      · have hb : (k == NameKind.free) = false := by simpa using hk
        simp only [hb, Bool.false_eq_true, if_false]
        have e2 : closOf env ((n, k) :: r) acc = closOf env r acc := by
          show closOf env r (if (k == NameKind.free) = true then _ else acc) = _
          rw [hb]; rfl
        rw [e2]
        exact ih _ fun z hz => hy z (List.mem_cons_of_mem _ hz)
  unfold closureFor
  have e := key scope.names [] h
  have e3 : ∀ (f : Str × NameKind → List (Str × Addr) → Sem (ForInStep (List (Str × Addr)))), (f = fun x r => (if x.2 == NameKind.free then do
          let c ← cellOf env x.1
          pure (ForInStep.yield ((x.1, c) :: r))
        else pure (ForInStep.yield r))) → (forIn scope.names [] f >>= fun r => pure r) = (pure (closOf env scope.names []) : Sem (List (Str × Addr))) := by
    intro f hf
    rw [hf, e]
    rfl
  exact e3 _ rfl
theorem closOf_lookup {env : Env} {x : Str} : ∀ (l : List (Str × NameKind)) (acc : List (Str × Addr)) (c : Addr), (closOf env l acc).lookup x = some c →
    ((∃ y ∈ l, y.1 = x ∧ y.2 = .free) ∧ (env.cells.lookup x).getD 0 = c) ∨ acc.lookup x = some c
  | [], acc, c, h => .inr h
  | (n, k) :: r, acc, c, h => by
    rcases closOf_lookup r _ c h with ⟨⟨y, hy, e⟩, q⟩ | q
    · exact .inl ⟨⟨y, List.mem_cons_of_mem _ hy, e⟩, q⟩
    · by_cases hk : k = .free
      · subst hk
        have q' : List.lookup x ((n, (env.cells.lookup n).getD 0) :: acc) = some c := q
        rw [List.lookup_cons] at q'
        cases hx : x == n with
        | true =>
          rw [hx] at q'
          have hx' : x = n := by simpa using hx
          subst hx'
          exact .inl ⟨⟨_, List.mem_cons_self, rfl, rfl⟩, Option.some.inj q'⟩
        | false => rw [hx] at q'; exact .inr q'
      · have hb : (k == NameKind.free) = false := by simpa using hk
        rw [hb] at q
        exact .inr q
theorem closOf_has {env : Env} {x : Str} : ∀ (l : List (Str × NameKind)) (acc : List (Str × Addr)), ((∃ y ∈ l, y.1 = x ∧ y.2 = .free) ∨ (acc.lookup x).isSome) → ((closOf env l acc).lookup x).isSome
  | [], acc, h => by
    rcases h with ⟨y, hy, _⟩ | h
    · cases hy
    · exact h
  | (n, k) :: r, acc, h => by
    show ((closOf env r (if (k == NameKind.free) = true then _ else acc)).lookup x).isSome
    refine closOf_has r _ ?_
    rcases h with ⟨y, hy, e1, e2⟩ | h
    · rcases List.mem_cons.mp hy with rfl | hy
      · have e2' : k = .free := e2
        have e1' : n = x := e1
        subst e2' e1'
        refine .inr ?_
        simp [List.lookup_cons]
      · exact .inl ⟨y, hy, e1, e2⟩
    · refine .inr ?_
      split
      · rw [List.lookup_cons]
        split
        · rfl
        · exact h
      · exact h
structure CpScope (X : Cx) (scope : Scope) (N : List Str) (src : List (Option Nat)) : Prop where
  kind : scope.kind = .function
  nocell : ∀ y ∈ scope.names, y.2 ≠ .cell
  locs : ∀ y ∈ scope.names, y.2 = .local → scope.names.lookup y.1 = some .local
  frees : ∀ y ∈ scope.names, y.2 = .free → scope.names.lookup y.1 = some .free ∧ X.env.scope.names.lookup y.1 = some .cell
  nd : N.Nodup
  len : src.length = N.length
  cap : ∀ (i j : Nat), src[i]? = some (some j) → X.N[j]? = N[i]? ∧ (N[i]?).elim False (fun x => scope.names.lookup x = some .free)
def cst (src : List (Option Nat)) (σ : St) : St := src.map fun o => o.bind fun j => (σ[j]?).join
theorem lookup_relabel_free {env : Env} (hk : env.scope.kind = .function) : ∀ {names : List (Str × NameKind)} {x : Str}, names.lookup x = some .free → env.kindOf x = some .cell →
    (names.map fun (n, k) => if (k == NameKind.free && env.scope.kind == .function && env.kindOf n == some .cell) then (n, NameKind.cell) else (n, k)).lookup x = some .cell
  | [], _, h, _ => by simp at h
  | (n, k) :: r, x, h, hc => by
    have ih := @lookup_relabel_free env hk r x
    show List.lookup x ((if (k == NameKind.free && env.scope.kind == .function && env.kindOf n == some .cell) = true then (n, NameKind.cell) else (n, k)) :: _) = _
    cases hx : x == n with
    | true =>
      simp only [List.lookup_cons, hx] at h
      cases h
      have hx' : x = n := by simpa using hx
      subst hx'
      rw [if_pos (by rw [hk, hc]; rfl)]
      simp [List.lookup_cons]
    | false =>
      simp only [List.lookup_cons, hx] at h
      by_cases hq : (k == NameKind.free && env.scope.kind == .function && env.kindOf n == some .cell) = true
      · rw [if_pos hq]; simp only [List.lookup_cons, hx]; exact ih h hc
      · rw [if_neg hq]; simp only [List.lookup_cons, hx]; exact ih h hc
theorem relabel_lookup_inv {env : Env} : ∀ {names : List (Str × NameKind)} {x : Str} {k' : NameKind},
    (names.map fun (n, k) => if (k == NameKind.free && env.scope.kind == .function && env.kindOf n == some .cell) then (n, NameKind.cell) else (n, k)).lookup x = some k' →
      names.lookup x = some k' ∨ (names.lookup x = some .free ∧ k' = .cell)
  | [], _, _, h => by simp at h
  | (n, k) :: r, x, k', h => by
    have ih := @relabel_lookup_inv env r x k'
    have h : List.lookup x ((if (k == NameKind.free && env.scope.kind == .function && env.kindOf n == some .cell) = true then (n, NameKind.cell) else (n, k)) :: _) = _ := h
    cases hx : x == n with
    | true =>
      by_cases hq : (k == NameKind.free && env.scope.kind == .function && env.kindOf n == some .cell) = true
      · rw [if_pos hq] at h
        have h1 := h
        simp only [List.lookup_cons, hx]
        have : k = .free := by
          have := (Bool.and_eq_true _ _ ▸ (Bool.and_eq_true _ _ ▸ hq).1).1
          simpa using this
        subst this
        refine .inr ⟨rfl, ?_⟩
        have h2 : List.lookup x ((n, NameKind.cell) :: (r.map fun (n, k) => if (k == NameKind.free && env.scope.kind == .function && env.kindOf n == some .cell) then (n, NameKind.cell) else (n, k))) = some k' := h1
        simp only [List.lookup_cons, hx] at h2
        exact (Option.some.inj h2).symm
      · rw [if_neg hq] at h
        simp only [List.lookup_cons, hx] at h ⊢
        exact .inl h
    | false =>
      have h' : List.lookup x (r.map fun (n, k) => if (k == NameKind.free && env.scope.kind == .function && env.kindOf n == some .cell) then (n, NameKind.cell) else (n, k)) = some k' := by
        by_cases hq : (k == NameKind.free && env.scope.kind == .function && env.kindOf n == some .cell) = true
        · rw [if_pos hq] at h
          simpa only [List.lookup_cons, hx] using h
        · rw [if_neg hq] at h
          simpa only [List.lookup_cons, hx] using h
      simp only [List.lookup_cons, hx]
      exact ih h'
def Cx.block (X : Cx) (scope : Scope) (N : List Str) (fp : List Addr) (s₀ : Shared) (H₀ : Hp) (C : Addr) : Cx where
  prog := X.prog
  w := X.w
  K := X.K
  mg := X.mg
  base := X.base
  A := X.A
  N := N
  s₀ := s₀
  H₀ := H₀
  env := compEnvC scope (closOf X.env scope.names []) C X.env
  outer := X.stack
  stack := X.stack
  ex := fp
  calm := X.calm
  fn := fun _ => false
  pn := []
  xe := fun _ _ => False
theorem join_some {o : Option (Option V)} {v : V} (h : o.join = some v) : o = some (some v) := by
  cases o with
  | none => cases h
  | some z => cases z with
    | none => cases h
    | some z => rw [show z = v from Option.some.inj h]
theorem Inv.enter {X : Cx} {scope : Scope} {N : List Str} {src : List (Option Nat)} {pins : List (Addr × Obj)} {σ : St} {H : Hp} {s s4 : Shared} {fp : List Addr} (S : CpScope X scope N src) (I : Inv X pins σ H s)
    (f2 : ∀ b ∈ fp, FpOk X pins H b) (lt : ∀ b ∈ fp, b < s.heap.objs.size) (hns : s4.heap.Ns s.heap.objs.size fun _ => none) (hk : ∀ b o, s.heap.get? b = some o → s4.heap.get? b = some o) (hos : s4.os = s.os) (hg : s4.gens = s.gens) :
    Inv (X.block scope N fp s H s.heap.objs.size) [] (cst src σ) H s4 := by
  have cells : ∀ x c, (closOf X.env scope.names []).lookup x = some c → X.env.cells.lookup x = some c := fun x c e => by
    rcases closOf_lookup _ _ _ e with ⟨⟨y, hy, e1, e2⟩, q⟩ | q
    · obtain ⟨c', hc'⟩ := I.ok.has y.1 (.inl (S.frees y hy e2).2)
      rw [e1] at hc'
      rw [hc'] at q ⊢
      exact congrArg some q
    · cases q
  refine ⟨⟨I.mod, S.kind, I.ok.glob, I.ok.blt, Nat.le_refl _, fun x y c h1 h2 => I.ok.inj x y c (cells x c h1) (cells y c h2), fun x hx => ?_, fun x c h => absurd (show false = true from h) Bool.false_ne_true, I.ok.hd, I.ok.frames, .inl rfl, fun b hb => ?_, I.bs,
      Nat.le_trans I.ok.bsz I.sz, fun b o e hb => ?_, fun b hb z => ?_, I.stack, I.stkFree⟩, hos, ?_, Un.kept hk, ⟨fun _ => none, hns, fun i x v h1 h2 h3 => ?_⟩, fun x c e => ?_, I.fresh, fun x c e => I.freeC x c (cells x c e), fun p hp => ?_, I.hok.kept hk, ?_⟩
  · have hx' : (scope.names.map fun (n, k) => if (k == NameKind.free && X.env.scope.kind == .function && X.env.kindOf n == some .cell) then (n, NameKind.cell) else (n, k)).lookup x = some .cell ∨ (scope.names.map fun (n, k) => if (k == NameKind.free && X.env.scope.kind == .function && X.env.kindOf n == some .cell) then (n, NameKind.cell) else (n, k)).lookup x = some .free := hx
    have hf : scope.names.lookup x = some .free := by
      rcases hx' with h | h
      · rcases relabel_lookup_inv h with h | h
        · exact absurd rfl (S.nocell _ (PySem.mem_of_lookup h))
        · exact h.1
      · rcases relabel_lookup_inv h with h | h
        · exact h
        · cases h.2
    have hsome := closOf_has (env := X.env) (x := x) scope.names [] (.inl ⟨_, PySem.mem_of_lookup hf, rfl, rfl⟩)
    exact Option.isSome_iff_exists.mp hsome
  · exact ⟨Nat.ne_of_lt (lt b hb), fun x c e => (f2 b hb).2.2.2.2.1 x c (cells x c e)⟩
  · have hb' : b ∈ fp := hb
    rcases (f2 b hb').2.2.2.1 with z | z
    · exact I.ok.noex b o e z
    · exact absurd (Nat.lt_of_lt_of_le (Heap.lt_size e) (Nat.le_trans I.ok.bsz z)) (Nat.lt_irrefl _)
  · have hb' : b ∈ fp := hb
    have z' : b ∈ frs X.stack := z
    rcases List.mem_cons.mp (I.stkSub b z') with e | e
    · exact (f2 b hb').2.1 e
    · exact (f2 b hb').2.2.1 e
  · rw [hg]; exact I.bare
  · have h2' : (src.map fun o => o.bind fun j => (σ[j]?).join)[i]? = some (some v) := h2
    rw [List.getElem?_map] at h2'
    cases e : src[i]? with
    | none => rw [e] at h2'; cases h2'
    | some o =>
      rw [e] at h2'
      cases o with
      | none => cases h2'
      | some j =>
        have h4 : (σ[j]?).join = some v := Option.some.inj h2'
        have h5 := join_some h4
        obtain ⟨c1, c2⟩ := S.cap i j e
        have h1' : N[i]? = some x := h1
        rw [h1'] at c1 c2
        have c2' : scope.names.lookup x = some .free := c2
        have c3 := (S.frees _ (PySem.mem_of_lookup c2') rfl).2
        obtain ⟨m, hn, hl⟩ := I.loc
        obtain ⟨u, r, l⟩ := hl j x v c1 h5 (.inr (.inl c3))
        refine ⟨u, r, ?_⟩
        have c3' : X.env.kindOf x = some .cell := c3
        rcases l with ⟨k, _⟩ | ⟨_, c, e1, z⟩
        · rw [c3'] at k; cases k
        · refine .inr ⟨.inl (lookup_relabel_free I.ok.kind c2' c3'), c, ?_, ?_⟩
          · have hs := closOf_has (env := X.env) (x := x) scope.names [] (.inl ⟨_, PySem.mem_of_lookup c2', rfl, rfl⟩)
            obtain ⟨c', hc'⟩ := Option.isSome_iff_exists.mp hs
            have := cells x c' hc'
            rw [e1] at this
            cases this
            exact hc'
          · obtain ⟨o, ho, hd⟩ := z
            exact ⟨o, hk c o ho, hd⟩
  · obtain ⟨v, o, ho, hd⟩ := I.cell x c (cells x c e)
    exact ⟨v, o, hk c o ho, hd⟩
  · exact absurd (show p ∈ ([] : List (Addr × Obj)) from hp) (by simp)
  · show (src.map _).length = N.length
    rw [List.length_map]
    exact S.len
def PIf (X : Cx) (ifs : List Expr) (t : TT) : Prop :=
  ∀ (pins : List (Addr × Obj)) (s : Shared) (σ : St) (H : Hp) (Q : Bool → Hp → Prop), Inv X pins σ H s → t σ H Q →
    wpAny (model X.prog X.w) X.A (forIn ifs true fun c r => if r = true then do let ok ← isTrue c X.env (eval c X.env); pure (ForInStep.yield ok) else pure (ForInStep.yield r)) (TP X pins σ Q) X.xe s
def tTrue : TT := fun _ H Q => Q true H
theorem pif_nil {X : Cx} : PIf X [] tTrue := fun pins s σ H Q I h => wpAny_tests_nil ⟨H, I, h⟩
theorem pif_one {X : Cx} {c : Expr} {t : TT} (h : PT X c t) : PIf X [c] t := fun pins s σ H Q I hq => wpAny_tests_one (h pins s σ H Q I hq)
def CWant (J : It) (src : List (Option Nat)) (g : TG) (tc : TT) (te : TE) (Q : VK) (σ : St) (H : Hp) (l : Addr) : Prop :=
  ∃ W : Nat → Nat → St → Hp → Prop, (∃ m, W 0 m (cst src σ) (upd H l (.lst []))) ∧ ∀ i m σ' H, W i m σ' H →
    (J.stop i H ∧ Q (.ref l) H) ∨ (J.go i H ∧ ∃ N : St → Hp → Prop, (∀ σ' H', N σ' H' → ∃ m', m' < m ∧ W (i + 1) m' σ' H') ∧ ∀ x H', J.yld i H x H' → g x σ' H' fun σ2 H2 => tc σ2 H2 fun b H3 =>
      if b = true then te σ2 H3 fun v H4 => ∃ xs, H4 l = some (.lst xs) ∧ xs.length < sizeLine ∧ N σ2 (upd H4 l (.lst (xs ++ [v]))) else N σ2 H3)
theorem comp_run {J : It} {src : List (Option Nat)} {g : TG} {tc : TT} {te : TE} {Q : VK} {σ : St} {H : Hp} {l : Addr} (n : Nat) (Iv : Nat → St → Hp → Prop) (h0 : Iv 0 (cst src σ) (upd H l (.lst [])))
    (hs : ∀ i σ' Hc, i < n → Iv i σ' Hc → J.go i Hc ∧ ∀ x H', J.yld i Hc x H' → g x σ' H' fun σ2 H2 => tc σ2 H2 fun b H3 =>
      if b = true then te σ2 H3 fun v H4 => ∃ xs, H4 l = some (.lst xs) ∧ xs.length < sizeLine ∧ Iv (i + 1) σ2 (upd H4 l (.lst (xs ++ [v]))) else Iv (i + 1) σ2 H3)
    (hd : ∀ σ' Hc, Iv n σ' Hc → J.stop n Hc ∧ Q (.ref l) Hc) : CWant J src g tc te Q σ H l := by
  refine ⟨fun i m σ' Hc => m = n - i ∧ i ≤ n ∧ Iv i σ' Hc, ⟨n, by simp, Nat.zero_le _, h0⟩, ?_⟩
  rintro i m σ' Hc ⟨rfl, hi, p⟩
  by_cases hlt : i < n
  · obtain ⟨go, step⟩ := hs i σ' Hc hlt p
    exact .inr ⟨go, Iv (i + 1), fun σ2 H2 p' => ⟨n - (i + 1), by omega, rfl, hlt, p'⟩, step⟩
  · have e : i = n := by omega
    subst e
    exact .inl (hd σ' Hc p)
theorem comp_core {X : Cx} {elt tg iter : Expr} {ifs : List Expr} {scope : Scope} {pos : Pos} {N : List Str} {src : List (Option Nat)} {g : TG} {tc : TT} {te : TE} {pins : List (Addr × Obj)} {σ : St} {H2 : Hp} {s2 : Shared}
    {fp : List Addr} {it : Addr} {tn : Nat → Heap → Prop} {J : It} {Q : VK} {E : Value → Shared → Prop} {RR : Value → Addr → Result → Shared → Prop} (S : CpScope X scope N src) (hc : X.calm = true)
    (hg : ∀ fp s₀ H₀ C, PG (X.block scope N fp s₀ H₀ C) tg g) (ht : ∀ fp s₀ H₀ C, PIf (X.block scope N fp s₀ H₀ C) ifs tc) (he : ∀ fp s₀ H₀ C, PE (X.block scope N fp s₀ H₀ C) elt te)
    (I2 : Inv X pins σ H2 s2) (T : Turn X.prog X.w X.K tg J fp it tn) (st2 : tn 0 s2.heap) (f2 : ∀ b ∈ fp, FpOk X pins H2 b) (hw : ∀ l, H2 l = none → CWant J src g tc te Q σ H2 l)
    (hRR : ∀ l C H' s', Inv X pins σ H' s' → (∃ m, s'.heap.Ns C m) → FpOk X pins H' C → Q (.ref l) H' → RR (.ref l) C (.ok .next) s') :
    wpAny (model X.prog X.w) X.A (newList []) (fun acc s₃ => wpAny (model X.prog X.w) X.A (newFunctionEnv scope X.env.globals (closOf X.env scope.names []) [] X.env.qual none .none (some X.env)) (fun cenv s₄ =>
      codeAny (model X.prog X.w) X.A (.compStart (.ListComp elt [⟨tg, iter, ifs, 0⟩] scope pos) 0 (.ref it) acc { cenv with scope := relabel scope X.env }) (RR acc cenv.locals) s₄) E s₃) E s2 := by
  have hl0 : H2 s2.heap.objs.size = none := I2.fresh
  have I3 : Inv X pins σ (upd H2 s2.heap.objs.size (.lst [])) { s2 with heap := s2.heap.push { cls := .type "list", data := .seq ([] : List Value).toArray } } := I2.lnew (ys := []) (its := []) (t' := s2.toks) .nil (Nat.zero_le _)
  have ltf : ∀ b ∈ fp, b < s2.heap.objs.size := fun b hb => by
    obtain ⟨o, e, _⟩ := T.obj _ _ st2 b hb
    exact Heap.lt_size e
  have f3 : ∀ b ∈ fp, FpOk X pins (upd H2 s2.heap.objs.size (.lst [])) b := fun b hb => ⟨by rw [upd_ne (Nat.ne_of_lt (ltf b hb))]; exact (f2 b hb).1, (f2 b hb).2⟩
  obtain ⟨W, ⟨m0, w0⟩, turn⟩ := hw _ hl0
  refine wpAny_newObj_type (wpAny_newFunctionEnv S.nocell (by intro y hy; simp at hy) (fun h₁ hns₁ hsb₁ => ?_) S.kind)
  dsimp only at hns₁ hsb₁ ⊢
  revert I3 f3
  intro I3 f3
  have st1 : tn 0 (s2.heap.push { cls := .type "list", data := .seq ([] : List Value).toArray }) := T.keep _ _ _ st2 fun b hb o e => Heap.get?_push_of_some _ e
  have lt3 : ∀ b ∈ fp, b < (s2.heap.push { cls := .type "list", data := .seq ([] : List Value).toArray }).objs.size := fun b hb => by rw [Heap.size_push]; exact Nat.lt_succ_of_lt (ltf b hb)
  generalize hH : s2.heap.push { cls := .type "list", data := .seq ([] : List Value).toArray } = h3 at I3 st1 lt3 hns₁ hsb₁ ⊢
  have hk : ∀ b o, h3.get? b = some o → h₁.get? b = some o := fun b o e => hsb₁.extBut b o (Nat.ne_of_lt (Heap.lt_size e)) (Heap.get?_push_of_some _ e)
  have Ib : Inv (X.block scope N fp { s2 with heap := h3 } (upd H2 s2.heap.objs.size (.lst [])) h3.objs.size) [] (cst src σ) (upd H2 s2.heap.objs.size (.lst [])) { s2 with heap := h₁, toks := s2.toks + ([] : List (Str × Value)).length } :=
    Inv.enter (s := { s2 with heap := h3 }) S I3 f3 lt3 hns₁ hk rfl rfl
  have fpB : ∀ {H' : Hp}, (∀ b ∈ fp, H' b = none) → ∀ b ∈ fp, FpOk (X.block scope N fp { s2 with heap := h3 } (upd H2 s2.heap.objs.size (.lst [])) h3.objs.size) [] H' b := fun hn b hb =>
    ⟨hn b hb, (Ib.ok.exf b hb).1, Ib.ok.exfs b hb, .inl hb, (Ib.ok.exf b hb).2, fun p hp => absurd (show p ∈ ([] : List (Addr × Obj)) from hp) (by simp)⟩
  have tn1 : tn 0 h₁ := T.keep _ _ _ st1 fun b _ o e => hk b o e
  have loop : ∀ s₃ : Shared, s₃ = { s2 with heap := h₁, toks := s2.toks + ([] : List (Str × Value)).length } →
      codeAny (model X.prog X.w) X.A (.compLoop (.ListComp elt [⟨tg, iter, ifs, 0⟩] scope pos) 0 (.ref it) (.ref s2.heap.objs.size) (compEnvC scope (closOf X.env scope.names []) h3.objs.size X.env))
        (RR (.ref s2.heap.objs.size) h3.objs.size) s₃ := by
    rintro s₃ rfl
    refine codeAny_loop rfl (fun n s' => ∃ i σ' H', Inv (X.block scope N fp { s2 with heap := h3 } (upd H2 s2.heap.objs.size (.lst [])) h3.objs.size) [] σ' H' s' ∧ tn i s'.heap ∧ (∀ b ∈ fp, H' b = none) ∧ W i n σ' H') ?_ m0
      ⟨0, _, _, Ib, tn1, fun b hb => (f3 b hb).1, w0⟩
    rintro n s5 ⟨i, σ5, H5, I5, st5, fr5, w5⟩
    show wpAny _ X.A ((compTurn (.ListComp elt [⟨tg, iter, ifs, 0⟩] scope pos) 0 (.ref it) (.ref s2.heap.objs.size) (compEnvC scope (closOf X.env scope.names []) h3.objs.size X.env)).onRaise (fun x => do noteFrame x (compEnvC scope (closOf X.env scope.names []) h3.objs.size X.env); theTreesLotGoes x)) _ _ s5
    refine wpAny_noted ?_
    rw [compTurn_list]
    refine wpAny_bind (wpAny_standAt (wpAny_bind ?_))
    rcases turn i n σ5 H5 w5 with ⟨stop, qn⟩ | ⟨go, N', hN', step⟩
    · refine thn (T.done (X.block scope N fp { s2 with heap := h3 } (upd H2 s2.heap.objs.size (.lst [])) h3.objs.size) rfl rfl rfl hc i [] s5 σ5 H5 _ I5 (fpB fr5) st5 stop) fun r s6 ⟨hr, I6⟩ => ?_
      subst hr
      refine wpAny_pure ?_
      have u6 : Un (frs X.stack) fp (upd H2 s2.heap.objs.size (.lst [])) H5 h3 s6.heap := I6.base
      have hf6 : H5 h3.objs.size = none := I6.free
      have I7 : Inv X pins σ H5 s6 := I3.call' (ch := fp) I6.os u6 I6.hok I6.bare fun b hb => ⟨(f3 b hb).2.2.2.1, (f3 b hb).2.1, (f3 b hb).2.2.2.2.1, (f3 b hb).2.2.2.2.2⟩
      obtain ⟨m, hm, _⟩ := I6.loc
      exact hRR _ _ H5 s6 I7 ⟨m, hm⟩ (I3.fpOk (Nat.le_refl _) hf6) qn
    · refine thn (T.item (X.block scope N fp { s2 with heap := h3 } (upd H2 s2.heap.objs.size (.lst [])) h3.objs.size) rfl rfl rfl hc i [] s5 σ5 H5 _ I5 (fpB fr5) st5 go) fun r s6 ⟨u, hr, h6⟩ => ?_
      subst hr
      refine wpAny_bind (thn h6 fun _ s7 ⟨x, H7, I7, r7, y7, st7, fr7⟩ => ?_)
      have I7' := I7.pinned (fpB fr7) (T.obj _ _ st7)
      have fin : ∀ {σ9 : St} {H9 : Hp} {s9 : Shared}, Inv (X.block scope N fp { s2 with heap := h3 } (upd H2 s2.heap.objs.size (.lst [])) h3.objs.size) ([] ++ pinsAt fp s7.heap) σ9 H9 s9 → N' σ9 H9 →
          ∃ m, m < n ∧ ∃ i σ' H', Inv (X.block scope N fp { s2 with heap := h3 } (upd H2 s2.heap.objs.size (.lst [])) h3.objs.size) [] σ' H' s9 ∧ tn i s9.heap ∧ (∀ b ∈ fp, H' b = none) ∧ W i m σ' H' := fun {σ9 H9 s9} I9 n9 => by
        obtain ⟨m', hm, w9⟩ := hN' σ9 H9 n9
        refine ⟨m', hm, i + 1, σ9, H9, I9.unpinned, T.keep _ _ _ st7 fun b hb o e => (I9.pin (b, o) (List.mem_append_right _ (List.mem_append_right _ (mem_pinsAt hb e)))).1, fun b hb => ?_, w9⟩
        obtain ⟨o, e, d⟩ := T.obj _ _ st7 b hb
        exact (I9.pin (b, o) (List.mem_append_right _ (List.mem_append_right _ (mem_pinsAt hb e)))).2.1
      refine wpAny_bind (wpAny_mono (hg fp _ _ _ _ s7 σ5 H7 x u _ I7' r7 (step x H7 y7)) (fun _ s8 ⟨σ8, H8, I8, q8⟩ => ?_) fun _ _ z => False.elim z)
      refine wpAny_bind (wpAny_mono (ht fp _ _ _ _ s8 σ8 H8 _ I8 q8) (fun ok s9 ⟨H9, I9, q9⟩ => ?_) fun _ _ z => False.elim z)
      cases ok with
      | false => exact wpAny_pure ⟨rfl, fin I9 q9⟩
      | true =>
        refine wpAny_bind (wpAny_bind (wpAny_mono (he fp _ _ _ _ s9 σ8 H9 _ I9 q9) (fun v s10 ⟨y, H10, I10, r10, xs, hx, hz, q10⟩ => ?_) fun _ _ z => False.elim z))
        refine wpAny_bind (wpAny_mono (mt_append (X := X.block scope N fp { s2 with heap := h3 } (upd H2 s2.heap.objs.size (.lst [])) h3.objs.size) _ s10 σ8 H10 (.ref s2.heap.objs.size) [y] _ [v] (fun _ H11 => N' σ8 H11) I10 rfl (.cons r10 .nil) ⟨_, xs, y, rfl, rfl, hx, hz, q10⟩)
          (fun _ s11 ⟨_, H11, I11, _, q11⟩ => wpAny_pure (wpAny_pure ⟨rfl, fin I11 q11⟩)) fun _ _ z => False.elim z)
  exact codeAny_compStart_list (loop _ rfl) (T.self _ 0 _ _ _ tn1 (loop _ rfl))
def tComp (src : List (Option Nat)) (wi : TI) (g : TG) (tc : TT) (te : TE) : TE := fun σ H Q => wi σ H fun J H1 => ∀ l, H1 l = none → CWant J src g tc te Q σ H1 l
theorem pe_comp {X : Cx} {elt tg iter : Expr} {ifs : List Expr} {scope : Scope} {pos : Pos} {N : List Str} {src : List (Option Nat)} {wi : TI} {g : TG} {tc : TT} {te : TE} (S : CpScope X scope N src) (hc : X.calm = true)
    (hi : PI X tg iter wi) (hg : ∀ fp s₀ H₀ C, PG (X.block scope N fp s₀ H₀ C) tg g) (ht : ∀ fp s₀ H₀ C, PIf (X.block scope N fp s₀ H₀ C) ifs tc) (he : ∀ fp s₀ H₀ C, PE (X.block scope N fp s₀ H₀ C) elt te)
    (hs : ∀ x, foldedSetIterable iter X.env x = pure x := by intro _; rfl) : PE X (.ListComp elt [⟨tg, iter, ifs, 0⟩] scope pos) (tComp src wi g tc te) := by
  intro pins s σ H Q I h
  rw [eval_ListComp]
  refine wpAny_comprehension_free (use := none) rfl hs (closureFor_closOf fun y hy e => I.ok.has y.1 (.inl (S.frees y hy e).2)) S.kind S.locs ?_
  refine thn (hi pins s σ H _ I h) fun v s1 h1 => thn h1 fun itv s2 h2 => ?_
  obtain ⟨it, fp, tn, J, H2, e, I2, T, st2, f2, hw⟩ := h2
  subst e
  refine comp_core (RR := fun acc C => compPost (model X.prog X.w) X.A X.xe none (EP X pins σ Q) acc C) S hc hg ht he I2 T st2 f2 hw ?_
  intro l C H' s' I' hm fC q
  obtain ⟨m, hm⟩ := hm
  refine ⟨m, hm, fun h' hs' => ?_⟩
  exact ⟨.ref l, H', I'.turned (t' := s'.toks) (fun b o hb e => hs'.extBut b o hb e) fC.1 fC.2.1 fC.2.2.2.1 fC.2.2.2.2.1 fC.2.2.2.2.2, rfl, q⟩
theorem ps_setc {X : Cx} {i : Nat} {x : Str} {pos' spos : Pos} {elt tg iter : Expr} {ifs : List Expr} {scope : Scope} {pos : Pos} {N : List Str} {src : List (Option Nat)} {wi : TI} {g : TG} {tc : TT} {te : TE} (hN : X.N.Nodup) (hix : X.N[i]? = some x) (hx : Loc X.env.scope x)
    (S : CpScope X scope N src) (hc : X.calm = true)
    (hi : PI X tg iter wi) (hg : ∀ fp s₀ H₀ C, PG (X.block scope N fp s₀ H₀ C) tg g) (ht : ∀ fp s₀ H₀ C, PIf (X.block scope N fp s₀ H₀ C) ifs tc) (he : ∀ fp s₀ H₀ C, PE (X.block scope N fp s₀ H₀ C) elt te)
    (hsw : swapsWith (.ListComp elt [⟨tg, iter, ifs, 0⟩] scope pos) (some (.Name x pos')) spos.line X.env = pure true := by rfl)
    (hs : ∀ x, foldedSetIterable iter X.env x = pure x := by intro _; rfl) (hf : X.fn x = true ∨ X.env.scope.names.lookup x = some .local := by first | exact .inl rfl | exact .inr rfl | assumption) :
    PS X (.Assign [.Name x pos'] (.ListComp elt [⟨tg, iter, ifs, 0⟩] scope pos) spos) (tAsg (tComp src wi g tc te) (gName i)) := by
  intro pins s σ H D I h
  rw [exec_Assign_Name_used _ _ _ _ hsw]
  refine wpAny_bind (wpAny_standAt (wpAny_bind ?_))
  show wpAny _ X.A (do let _ ← comprehension (.ListComp elt [⟨tg, iter, ifs, 0⟩] scope pos) scope X.env _ (newList []) false (eval iter X.env) (some (assign (.Name x pos') X.env))) _ _ s
  refine wpAny_bind (wpAny_mono (wpAny_comprehension_free (use := some (assign (.Name x pos') X.env)) (Q := fun _ s' => SP X pins D .next s') rfl hs (closureFor_closOf fun y hy e => I.ok.has y.1 (.inl (S.frees y hy e).2)) S.kind S.locs
    (thn (hi pins s σ H _ I h) fun v s1 h1 => thn h1 fun itv s2 h2 => ?_)) (fun _ s' hq => wpAny_pure (wpAny_pure hq)) fun _ _ e => e)
  obtain ⟨it, fp, tn, J, H2, e, I2, T, st2, f2, hw⟩ := h2
  subst e
  refine comp_core (Q := fun v H' => D.nx (σ.set i (some v)) H') (RR := fun acc C => compPost (model X.prog X.w) X.A X.xe (some (assign (.Name x pos') X.env)) (fun _ s' => SP X pins D .next s') acc C) S hc hg ht he I2 T st2 f2 hw ?_
  intro l C H' s' I' hm fC q
  obtain ⟨m, hm⟩ := hm
  show wpAny _ X.A (assign (.Name x pos') X.env (.ref l)) _ _ _
  refine wpAny_assign_Name (store_ok2 I' hN hix hx (v := .ref l) rfl (fun s'' I'' ⟨a, sb, ha⟩ => ?_) hf)
  have hCa : C ≠ a := by
    rcases ha with rfl | ha
    · exact fC.2.1
    · exact fun z => fC.2.2.2.2.1 x a ha z.symm
  refine ⟨m, hm.sameBut sb hCa, fun h' hs' => ?_⟩
  exact ⟨_, H', I''.turned (t' := s''.toks) (fun b o hb e => hs'.extBut b o hb e) fC.1 fC.2.1 fC.2.2.2.1 fC.2.2.2.2.1 fC.2.2.2.2.2, q⟩
end L2
namespace L2
open PySem PySem.Spec PyProof.Rows
theorem Inv.turnedNew {X : Cx} {pins : List (Addr × Obj)} {σ : St} {H : Hp} {s : Shared} {h' : Heap} {ch : List Addr} {t : Addr} {o : HO} {t' : Nat} (I : Inv X pins σ H s) (hsz : s.heap.objs.size ≤ t)
    (k : ∀ b ob, b ∉ ch → s.heap.get? b = some ob → h'.get? b = some ob) (hch : ∀ b ∈ ch, FpOk X pins H b) (new : ObjOk X.prog X.w (upd H t o) h' t o) :
    Inv X pins σ (upd H t o) { s with heap := h', toks := t' } := by
  have hn : H t = none := I.hok.fresh hsz
  have nt : ∀ {b ob}, s.heap.get? b = some ob → b ≠ t := fun q => Nat.ne_of_lt (Nat.lt_of_lt_of_le (Heap.lt_size q) hsz)
  have u : Un (frs X.stack) ch H (upd H t o) s.heap h' :=
    ⟨fun b ob q _ _ hx => k b ob hx q, fun b ob q _ _ hx => ⟨ob.slots, k b ob hx q⟩, fun b ob q n _ => by rw [upd_ne (nt q)]; exact n, fun b ob q hx => ⟨ob, k b ob hx q⟩,
      fun b xs q => by rw [upd_ne (ne_of_none q hn)]; exact q, fun b ob xs q => by rw [upd_ne (ne_of_none q hn)]; exact q, fun b ps q => ⟨#[], by rw [upd_ne (ne_of_none q hn), q]; simp⟩⟩
  refine I.call (g' := s.gens) (t' := t') (d' := s.drawn) u (fun b ob e => ?_) I.bare fun b hb => ⟨(hch b hb).2.2.2.1, (hch b hb).2.1, (hch b hb).2.2.2.2.1, (hch b hb).2.2.2.2.2⟩
  by_cases hb : b = t
  · subst hb; rw [upd_same] at e; cases e; exact new
  · rw [upd_ne hb] at e
    have ntr : ∀ {c u}, H c = some u → c ∉ ch := fun q z => by rw [(hch _ z).1] at q; cases q
    refine (I.hok b ob e).stay (fun c v hc q => k c v ?_ q) (fun c q => by rw [upd_ne (ne_of_none q hn)]; exact q) fun c xs q => by rw [upd_ne (ne_of_none q hn)]; exact q
    rcases hc with z | z
    · rw [z]; exact ntr e
    · exact ntr z
theorem Inv.turnedAll {X : Cx} {pins : List (Addr × Obj)} {σ : St} {H : Hp} {s : Shared} {h' : Heap} {ch : List Addr} {t' : Nat} (I : Inv X pins σ H s)
    (k : ∀ b ob, b ∉ ch → s.heap.get? b = some ob → h'.get? b = some ob) (hch : ∀ b ∈ ch, FpOk X pins H b) : Inv X pins σ H { s with heap := h', toks := t' } := by
  have u : Un (frs X.stack) ch H H s.heap h' :=
    ⟨fun b ob q _ _ hx => k b ob hx q, fun b ob q _ _ hx => ⟨ob.slots, k b ob hx q⟩, fun b ob q n _ => n, fun b ob q hx => ⟨ob, k b ob hx q⟩, fun b xs q => q, fun b ob xs q => q, fun b ps q => ⟨#[], by rw [q]; simp⟩⟩
  refine I.call (g' := s.gens) (t' := t') (d' := s.drawn) u (fun b ob e => ?_) I.bare fun b hb => ⟨(hch b hb).2.2.2.1, (hch b hb).2.1, (hch b hb).2.2.2.2.1, (hch b hb).2.2.2.2.2⟩
  have ntr : ∀ {c u}, H c = some u → c ∉ ch := fun q z => by rw [(hch _ z).1] at q; cases q
  refine (I.hok b ob e).stay (fun c v hc q => k c v ?_ q) (fun c q => q) fun c xs q => q
  rcases hc with z | z
  · rw [z]; exact ntr e
  · exact ntr z
def Ite (K : PySem.W.Frag) (a : Addr) : It :=
  ⟨fun i H => ∃ xs x, SqL K H a xs ∧ xs[i]? = some x, fun i H x H' => ∃ t y, H t = none ∧ x = .ref t ∧ H' = upd H t (.tup [.int i, y]) ∧ ∀ xs, SqL K H a xs → xs[i]? = some y, fun i H => ∃ xs, SqL K H a xs ∧ xs.length ≤ i⟩
theorem turn_enum {P : Program} {w : World} {K : PySem.W.Frag} {elts : List Expr} {x1 : Nat} {pos : Pos} (a e it : Addr) (hne : e ≠ it) :
    Turn P w K (.Tuple elts x1 pos) (Ite K a) [e, it] e (fun i h => (∃ old, IsEnum h e it i old) ∧ h.IsListIter it a i) where
  mem := by simp
  obj := fun i h st b hb => by
    obtain ⟨⟨old, he⟩, hit⟩ := st
    have q : b = e ∨ b = it := by simpa using hb
    rcases q with rfl | rfl
    · exact ⟨_, he, fun v z => by
        have z' : Data.fields _ = Data.cell v := z
        cases z'⟩
    · obtain ⟨o, e1, c, d⟩ := hit
      exact ⟨o, e1, fun v z => by rw [d] at z; cases z⟩
  keep := fun i h h' st k => by
    obtain ⟨⟨old, he⟩, hit⟩ := st
    exact ⟨⟨old, k e (by simp) _ he⟩, hit.at fun o z => k it (by simp) o z⟩
  item := by
    intro X hP hw hK hc i pins s σ H E I hf st hg
    subst hP hw hK
    obtain ⟨⟨old, he⟩, hit⟩ := st
    obtain ⟨xs, x, hq, hx⟩ := hg
    obtain ⟨its, rv, p, hz⟩ := I.list hq
    obtain ⟨u, hu, ru⟩ := rv.get hx
    have elt : e < s.heap.objs.size := Heap.lt_size he
    have ilt : it < s.heap.objs.size := by obtain ⟨_, z, _⟩ := hit; exact Heap.lt_size z
    refine wpAny_pyNext_enum_item he hit p.isList (x := u) (by simpa using hu) hne fun h1 ho hit1 hT hsz1 hk1 => ?_
    refine ⟨_, rfl, wpAny_letOwnedTupleGo_enum ho fun h2 he2 hs2 => ?_⟩
    replace hs2 : Heap.SameBut e h1 h2 := hs2
    have kk : ∀ b ob, b ∉ [e, it] → s.heap.get? b = some ob → h2.get? b = some ob := fun b ob hb q => by
      have hb' : b ≠ e ∧ b ≠ it := by simpa using hb
      exact hs2.extBut b ob hb'.1 (hk1 b ob hb'.1 hb'.2 q)
    have hT2 : h2.get? s.heap.objs.size = some { cls := .type "tuple", data := .seq #[.int i s.toks, u] } := (hs2.2 _ (Nat.ne_of_gt elt)).trans hT
    refine ⟨.ref s.heap.objs.size, upd H s.heap.objs.size (.tup [.int i, x]), I.turnedNew (ch := [e, it]) (Nat.le_refl _) kk hf ?_, rfl, ⟨_, x, I.fresh, rfl, rfl, fun ys hy => by rw [I.list_inj hy hq]; exact hx⟩, ⟨⟨u, by simpa using he2⟩, hit1.at fun o z => (hs2.2 it hne.symm).trans z⟩, fun b hb => ?_⟩
    · exact ⟨by show 2 ≤ sizeLine; decide, [.int i s.toks, u], .cons ⟨_, rfl⟩ (.cons ru .nil), ⟨_, hT2, rfl, _, rfl⟩⟩
    · have hb' : b = e ∨ b = it := by simpa using hb
      have : b ≠ s.heap.objs.size := by
        rcases hb' with rfl | rfl
        · exact Nat.ne_of_lt elt
        · exact Nat.ne_of_lt ilt
      rw [upd_ne this]
      exact (hf b hb).1
  done := by
    intro X hP hw hK hc i pins s σ H E I hf st hg
    subst hP hw hK
    obtain ⟨⟨old, he⟩, hit⟩ := st
    obtain ⟨xs, hq, hx⟩ := hg
    obtain ⟨its, rv, p, hz⟩ := I.list hq
    have hl := rv.length
    refine wpAny_pyNext_enum_end (I.ok.hd hc) he hit p.isList (by simp; omega) fun h' eb => ⟨rfl, I.turnedAll (ch := [e, it]) (t' := s.toks) (fun b o hb q => eb b o (fun z => hb (by simp [z])) q) hf⟩
  self := fun _ _ _ _ _ st h => by
    obtain ⟨⟨old, he⟩, _⟩ := st
    exact wpAny_pyIter_enum he h
def iEnum (K : PySem.W.Frag) (ta : TA) : TI := fun σ H R => ta σ H fun vs H1 => ∃ a, vs = [.ref a] ∧ (∃ xs, SqL K H1 a xs) ∧ R (Ite K a) H1
theorem pi_enum {X : Cx} {elts : List Expr} {x1 : Nat} {tpos : Pos} {a : Expr} {ta : TA} {p pos : Pos} (hg : Gl X "enumerate") (hm : X.mg "enumerate" = none) (ha : PA X [a] ta) (hs : starEach [a] X.env = [(false, eval a X.env)] := by rfl) :
    PI X (.Tuple elts x1 tpos) (.Call (.Name "enumerate" p) [a] [] pos) (iEnum X.K ta) := by
  intro pins s σ H R I h
  refine Call_ (ld_blt I hg hm boot_enumerate (PyProof.Rows.callWith_type1 (thn (ha pos pins s σ H _ I h) fun us s1 ⟨vs, H1, I1, r1, q1⟩ => ?_) hs rfl))
  obtain ⟨a, e, ⟨xs, hq⟩, q⟩ := q1
  subst e
  cases r1 with
  | cons r rr =>
    cases rr
    cases r
    obtain ⟨its, rv, pl, hz⟩ := I1.list hq
    refine call_enumerate_list pl.isList fun h' he hit hsz hk => ?_
    refine wpAny_pyIter_enum he ?_
    have I2 : Inv X pins σ H1 { s1 with heap := h' } := I1.kept (t' := s1.toks) fun b o q => hk b o q
    refine ⟨_, [s1.heap.objs.size + 1, s1.heap.objs.size], _, _, H1, rfl, I2, turn_enum a _ _ (Nat.succ_ne_self _), ⟨⟨_, he⟩, hit⟩, fun b hb => ?_, q⟩
    have hb' : b = s1.heap.objs.size + 1 ∨ b = s1.heap.objs.size := by simpa using hb
    rcases hb' with rfl | rfl
    · exact I1.fpOk (Nat.le_succ _) (I1.hok.fresh (Nat.le_succ _))
    · exact I1.fpOk (Nat.le_refl _) (I1.hok.fresh (Nat.le_refl _))
end L2
namespace L2
open PySem PySem.Spec PyProof.Rows
section
variable {prog : Program} {w : World} {A : Around} {E : Value → Shared → Prop} {s : Shared}
theorem nextOf_tup {j t : Addr} {k : Nat} {ar : Array Value} {x : Value} {Q : Value → Shared → Prop} (hj : s.heap.IsTupleIter j t k) (ht : s.heap.IsTuple t ar) (hx : ar[k]? = some x)
    (hQ : ∀ h', h'.IsTupleIter j t (k + 1) → Heap.SameBut j s.heap h' → Q x { s with heap := h' }) : wpAny (model prog w) A (Builtin.SmallTypes.nextOf (.ref j)) Q E s := by
  obtain ⟨ob, e0, hcl, hdt⟩ := id hj
  obtain ⟨ot, e1, _, nt, hdl⟩ := ht
  unfold Builtin.SmallTypes.nextOf
  refine wpAny_bind (wpAny_callSpecial?_slot (name := Str.ofString "__next__") hj.typeIs F.slot_tuple_iterator_next (wpAny_call_entry F.slot_tuple_iterator_next hj.typeIs F.entry_tuple_iterator_next ?_ (F.args_tuple_iterator_next_1 _)))
  show wpAny _ _ (field (.ref j) 0 >>= _) _ _ s
  refine wpAny_bind (wpAny_field e0 hdt (x := .ref t) rfl ?_)
  show wpAny _ _ (if (Value.ref t == Value.none) = true then _ else _) _ _ s
  rw [if_neg (show ¬ ((Value.ref t == Value.none) = true) from Bool.false_ne_true)]
  show wpAny _ _ (field (.ref j) 1 >>= _) _ _ s
  refine wpAny_bind (wpAny_field e0 hdt (x := .int k 0) rfl ?_)
  show wpAny _ _ (seqItems? (.ref t) >>= _) _ _ s
  refine wpAny_bind (wpAny_seqItems e1 hdl ?_)
  simp only [Int.toNat_natCast, hx]
  refine wpAny_bind (wpAny_setField e0 hdt (by simp) (wpAny_pure ⟨x, rfl, wpAny_pure (hQ _ ?_ (Heap.SameBut.update ..))⟩))
  exact ⟨_, Heap.get?_update_self _ e0 (Obj.isFreed_of_fields (Obj.data_mapFields hdt _)), (Obj.cls_mapFields ..).trans hcl, by rw [Obj.data_mapFields hdt]; simp [rawInt]⟩
theorem nextOf_tup_end {j t : Addr} {k : Nat} {ar : Array Value} {Q : Value → Shared → Prop} (hh : A.handled = none) (hj : s.heap.IsTupleIter j t k) (ht : s.heap.IsTuple t ar) (hx : ar[k]? = none)
    (hE : ∀ h' e, Heap.ExtBut j s.heap h' → (∃ o, h'.get? e = some o ∧ o.cls = .type "StopIteration") → E (.ref e) { s with heap := h' }) : wpAny (model prog w) A (Builtin.SmallTypes.nextOf (.ref j)) Q E s := by
  obtain ⟨ob, e0, hcl, hdt⟩ := id hj
  obtain ⟨ot, e1, _, nt, hdl⟩ := ht
  unfold Builtin.SmallTypes.nextOf
  refine wpAny_bind (wpAny_callSpecial?_slot (name := Str.ofString "__next__") hj.typeIs F.slot_tuple_iterator_next (wpAny_call_entry F.slot_tuple_iterator_next hj.typeIs F.entry_tuple_iterator_next ?_ (F.args_tuple_iterator_next_1 _)))
  show wpAny _ _ (field (.ref j) 0 >>= _) _ _ s
  refine wpAny_bind (wpAny_field e0 hdt (x := .ref t) rfl ?_)
  show wpAny _ _ (if (Value.ref t == Value.none) = true then _ else _) _ _ s
  rw [if_neg (show ¬ ((Value.ref t == Value.none) = true) from Bool.false_ne_true)]
  show wpAny _ _ (field (.ref j) 1 >>= _) _ _ s
  refine wpAny_bind (wpAny_field e0 hdt (x := .int k 0) rfl ?_)
  show wpAny _ _ (seqItems? (.ref t) >>= _) _ _ s
  refine wpAny_bind (wpAny_seqItems e1 hdl ?_)
  simp only [Int.toNat_natCast, hx]
  refine wpAny_bind (wpAny_rule (wpAny_bind (wpAny_setField e0 hdt (by simp) ?_)))
  show wpAny _ _ (newExc (.type "StopIteration") [] >>= _) _ _ _
  refine wpAny_bind ?_
  simp only [newExc, newTuple]
  refine wpAny_bind (wpAny_newObj_type ?_ (by size_fits))
  refine wpAny_bind (m := firstArgMember _ _) (wpAny_of_eq (a := Value.none) (by first | rfl | (simp only [firstArgMember]; rfl)) ?_)
  refine wpAny_newObj_type ?_ (by size_fits)
  simp only [raiseNew]
  refine wpAny_bind (wpAny_handled ?_)
  first | rw [show A.in1.handled = none from hh] | rw [hh]
  refine wpAny_bind (wpAny_pure (wpAny_throw ?_))
  exact hE _ _ (((Heap.SameBut.update ..).extBut.push _).push _) ⟨_, Heap.get?_push_size _ rfl, rfl⟩
def IsSq (b : Bool) (h : Heap) (l : Addr) (ar : Array Value) : Prop := if b = true then h.IsList l ar else h.IsTuple l ar
def IsSqIt (b : Bool) (h : Heap) (j l : Addr) (k : Nat) : Prop := if b = true then h.IsListIter j l k else h.IsTupleIter j l k
theorem IsSq.at' {b : Bool} {h h' : Heap} {l : Addr} {ar : Array Value} (x : IsSq b h l ar) (k : ∀ o, h.get? l = some o → h'.get? l = some o) : IsSq b h' l ar := by
  cases b with
  | true => obtain ⟨o, e, r⟩ := (show h.IsList l ar from x); exact (show h'.IsList l ar from ⟨o, k o e, r⟩)
  | false => obtain ⟨o, e, r⟩ := (show h.IsTuple l ar from x); exact (show h'.IsTuple l ar from ⟨o, k o e, r⟩)
theorem IsSqIt.at' {b : Bool} {h h' : Heap} {j l : Addr} {i : Nat} (x : IsSqIt b h j l i) (k : ∀ o, h.get? j = some o → h'.get? j = some o) : IsSqIt b h' j l i := by
  cases b with
  | true => obtain ⟨o, e, r⟩ := (show h.IsListIter j l i from x); exact (show h'.IsListIter j l i from ⟨o, k o e, r⟩)
  | false => obtain ⟨o, e, r⟩ := (show h.IsTupleIter j l i from x); exact (show h'.IsTupleIter j l i from ⟨o, k o e, r⟩)
theorem IsSqIt.obj {b : Bool} {h : Heap} {j l : Addr} {i : Nat} (x : IsSqIt b h j l i) : ∃ o, h.get? j = some o ∧ ∀ v, o.data ≠ .cell v := by
  cases b with
  | true => obtain ⟨o, e, _, d⟩ := (show h.IsListIter j l i from x); exact ⟨o, e, fun v z => by rw [d] at z; cases z⟩
  | false => obtain ⟨o, e, _, d⟩ := (show h.IsTupleIter j l i from x); exact ⟨o, e, fun v z => by rw [d] at z; cases z⟩
theorem nextOf_sq {b : Bool} {j l : Addr} {k : Nat} {ar : Array Value} {x : Value} {Q : Value → Shared → Prop} (hj : IsSqIt b s.heap j l k) (hl : IsSq b s.heap l ar) (hx : ar[k]? = some x)
    (hQ : ∀ h', IsSqIt b h' j l (k + 1) → Heap.SameBut j s.heap h' → Q x { s with heap := h' }) : wpAny (model prog w) A (Builtin.SmallTypes.nextOf (.ref j)) Q E s := by
  cases b with
  | true => exact wpAny_nextOf_list_item (show s.heap.IsListIter j l k from hj) (show s.heap.IsList l ar from hl) hx fun h' a b => hQ h' a b
  | false => exact nextOf_tup (show s.heap.IsTupleIter j l k from hj) (show s.heap.IsTuple l ar from hl) hx fun h' a b => hQ h' a b
theorem nextOf_sq_end {b : Bool} {j l : Addr} {k : Nat} {ar : Array Value} {Q : Value → Shared → Prop} (hh : A.handled = none) (hj : IsSqIt b s.heap j l k) (hl : IsSq b s.heap l ar) (hx : ar[k]? = none)
    (hE : ∀ h' e, Heap.ExtBut j s.heap h' → (∃ o, h'.get? e = some o ∧ o.cls = .type "StopIteration") → E (.ref e) { s with heap := h' }) : wpAny (model prog w) A (Builtin.SmallTypes.nextOf (.ref j)) Q E s := by
  cases b with
  | true => exact wpAny_nextOf_list_end hh (show s.heap.IsListIter j l k from hj) (show s.heap.IsList l ar from hl) hx hE
  | false => exact nextOf_tup_end hh (show s.heap.IsTupleIter j l k from hj) (show s.heap.IsTuple l ar from hl) hx hE
theorem zipNext_item {b : Bool} {z TI TO i1 i2 l1 l2 : Addr} {k1 k2 : Nat} {xs ys : Array Value} {x y v0 v1 : Value} {Q : Value → Shared → Prop} (D : ZipApart z TI TO i1 i2 l1 l2)
    (hz : IsZip s.heap z TI TO .none) (hTI : IsPair s.heap TI (.ref i1) (.ref i2)) (hTO : IsPair s.heap TO v0 v1)
    (h1 : IsSqIt b s.heap i1 l1 k1) (h2 : IsSqIt b s.heap i2 l2 k2) (hl1 : IsSq b s.heap l1 xs) (hl2 : IsSq b s.heap l2 ys) (hx : xs[k1]? = some x) (hy : ys[k2]? = some y)
    (hQ : ∀ h', IsZip h' z TI TO (rawInt s.heap.objs.size) → IsPair h' TO x y → IsSqIt b h' i1 l1 (k1 + 1) → IsSqIt b h' i2 l2 (k2 + 1) → IsPair h' s.heap.objs.size x y →
      (∀ c o, c ≠ z → c ≠ TO → c ≠ i1 → c ≠ i2 → s.heap.get? c = some o → h'.get? c = some o) → Q (.ref s.heap.objs.size) { s with heap := h' }) :
    wpAny (model prog w) A (Builtin.«zip.__next__» ⟨[.ref z], []⟩) (fun fin s' => ∃ v, fin = .done (.ret v) ∧ Q v s') E s := by
  show wpAny _ _ (field (.ref z) 2 >>= _) _ _ _
  refine wpAny_bind (wpAny_field hz rfl (x := .bool false) rfl ?_)
  show wpAny _ _ (field (.ref z) 3 >>= _) _ _ _
  refine wpAny_bind (wpAny_field hz rfl (x := .ref TI) rfl ?_)
  refine wpAny_bind (wpAny_seqItems hTI rfl ?_)
  show wpAny _ _ (Builtin.SmallTypes.ownedTupleIsFree (.ref z) >>= _) _ _ _
  refine wpAny_bind ?_
  unfold Builtin.SmallTypes.ownedTupleIsFree
  refine wpAny_bind (wpAny_field hz rfl (x := .none) rfl (wpAny_pure ?_))
  simp only [if_true]
  refine wpAny_bind (wpAny_rule ?_)
  refine wpAny_bind (wpAny_field hz rfl (x := .ref TO) rfl ?_)
  refine wpAny_bind (wpAny_setField_rec hz (by simp) fun g1 hzA sA => ?_)
  replace hzA : IsZip g1 z TI TO .ellipsis := hzA
  refine wpAny_bind ?_
  simp only [List.zipIdx_cons, List.zipIdx_nil, List.forIn_cons, List.forIn_nil]
  refine wpAny_bind (wpAny_bind (wpAny_onRaise ?_))
  show wpAny _ _ (Builtin.SmallTypes.nextOf (.ref i1) >>= _) _ _ _
  refine wpAny_bind (nextOf_sq (b := b) (h1.at' fun o e => sA.extBut _ o D.i1z e) (hl1.at' fun o e => sA.extBut _ o D.l1z e) hx fun g2 h1B sB => wpAny_pure ?_)
  have TOB : IsPair g2 TO v0 v1 := sB.extBut _ _ D.TOi1 (sA.extBut _ _ D.TOz hTO)
  refine wpAny_bind (wpAny_seqItems TOB rfl ?_)
  refine wpAny_bind (wpAny_updateSeq_pair TOB fun g3 TOC sC => ?_)
  replace TOC : IsPair g3 TO x v1 := TOC
  refine wpAny_bind (wpAny_letGo (wpAny_pure ?_))
  refine wpAny_bind (wpAny_bind (wpAny_onRaise ?_))
  show wpAny _ _ (Builtin.SmallTypes.nextOf (.ref i2) >>= _) _ _ _
  refine wpAny_bind (nextOf_sq (b := b) (h2.at' fun o e => sC.extBut _ o D.TOi2.symm (sB.extBut _ o D.i12.symm (sA.extBut _ o D.i2z e))) (hl2.at' fun o e => sC.extBut _ o D.l2TO (sB.extBut _ o D.l2i1 (sA.extBut _ o D.l2z e))) hy fun g4 h2D sD => wpAny_pure ?_)
  have TOD : IsPair g4 TO x v1 := sD.extBut _ _ D.TOi2 TOC
  refine wpAny_bind (wpAny_seqItems TOD rfl ?_)
  refine wpAny_bind (wpAny_updateSeq_pair TOD fun g5 TOE sE => ?_)
  replace TOE : IsPair g5 TO x y := TOE
  refine wpAny_bind (wpAny_letGo (wpAny_pure (wpAny_pure ?_)))
  refine wpAny_bind (wpAny_seqItems TOE rfl ?_)
  refine wpAny_bind (wpAny_newTuple ?_)
  have hsz : g5.objs.size = s.heap.objs.size := by rw [sE.1, sD.1, sC.1, sB.1, sA.1]
  have hzE : IsZip g5 z TI TO .ellipsis := sE.extBut _ _ D.TOz.symm (sD.extBut _ _ D.i2z.symm (sC.extBut _ _ D.TOz.symm (sB.extBut _ _ D.i1z.symm hzA)))
  have hkE : ∀ c o, c ≠ z → c ≠ TO → c ≠ i1 → c ≠ i2 → s.heap.get? c = some o → g5.get? c = some o := fun c o c1 c2 c3 c4 e => sE.extBut _ _ c2 (sD.extBut _ _ c4 (sC.extBut _ _ c2 (sB.extBut _ _ c3 (sA.extBut _ _ c1 e))))
  have h1E : IsSqIt b g5 i1 l1 (k1 + 1) := h1B.at' fun o e => sE.extBut _ o D.TOi1.symm (sD.extBut _ o D.i12 (sC.extBut _ o D.TOi1.symm e))
  have h2E : IsSqIt b g5 i2 l2 (k2 + 1) := h2D.at' fun o e => sE.extBut _ o D.TOi2.symm e
  have zlt : z < g5.objs.size := Heap.lt_size hzE
  show wpAny _ _ (Builtin.SmallTypes.ownedTupleHandOut (.ref z) (.ref g5.objs.size) >>= _) _ _ _
  refine wpAny_bind ?_
  unfold Builtin.SmallTypes.ownedTupleHandOut
  have hzF : IsZip (g5.push { cls := .type "tuple", data := .seq #[x, y] }) z TI TO .ellipsis := Heap.get?_push_of_some _ hzE
  refine wpAny_bind (wpAny_setField_rec hzF (by simp) fun g7 hzG sG => ?_)
  replace hzG : IsZip g7 z TI TO (rawInt g5.objs.size) := hzG
  refine wpAny_setField_rec hzG (by simp) fun g8 hzI sI => ?_
  replace hzI : IsZip g8 z TI TO (rawInt g5.objs.size) := hzI
  have up : ∀ c o, c ≠ z → g5.get? c = some o → g8.get? c = some o := fun c o c1 e => sI.extBut _ _ c1 (sG.extBut _ _ c1 (Heap.get?_push_of_some _ e))
  have hTI8 : IsPair g8 g5.objs.size x y := sI.extBut _ _ (Nat.ne_of_gt zlt) (sG.extBut _ _ (Nat.ne_of_gt zlt) (Heap.get?_push_size _ rfl))
  rw [hsz] at hzI hTI8
  refine wpAny_pure ⟨_, rfl, ?_⟩
  show Q (.ref g5.objs.size) _
  rw [hsz]
  exact hQ g8 hzI (up _ _ D.TOz TOE) (h1E.at' fun o e => up _ o D.i1z e) (h2E.at' fun o e => up _ o D.i2z e) hTI8 fun c o c1 c2 c3 c4 e => up c o c1 (hkE c o c1 c2 c3 c4 e)
theorem zipNext_end {b : Bool} {z TI TO i1 i2 l1 l2 : Addr} {k1 k2 : Nat} {xs ys : Array Value} {v0 v1 : Value} {Q : Fin → Shared → Prop} (hh : A.handled = none) (D : ZipApart z TI TO i1 i2 l1 l2)
    (hz : IsZip s.heap z TI TO .none) (hTI : IsPair s.heap TI (.ref i1) (.ref i2)) (hTO : IsPair s.heap TO v0 v1)
    (h1 : IsSqIt b s.heap i1 l1 k1) (h2 : IsSqIt b s.heap i2 l2 k2) (hl1 : IsSq b s.heap l1 xs) (hl2 : IsSq b s.heap l2 ys) (hend : xs[k1]? = none ∨ ys[k2]? = none)
    (hE : ∀ h' e, (∀ c o, c ≠ z → c ≠ TO → c ≠ i1 → c ≠ i2 → s.heap.get? c = some o → h'.get? c = some o) → (∃ o, h'.get? e = some o ∧ o.cls = .type "StopIteration") → E (.ref e) { s with heap := h' }) :
    wpAny (model prog w) A (Builtin.«zip.__next__» ⟨[.ref z], []⟩) Q E s := by
  show wpAny _ _ (field (.ref z) 2 >>= _) _ _ _
  refine wpAny_bind (wpAny_field hz rfl (x := .bool false) rfl ?_)
  show wpAny _ _ (field (.ref z) 3 >>= _) _ _ _
  refine wpAny_bind (wpAny_field hz rfl (x := .ref TI) rfl ?_)
  refine wpAny_bind (wpAny_seqItems hTI rfl ?_)
  show wpAny _ _ (Builtin.SmallTypes.ownedTupleIsFree (.ref z) >>= _) _ _ _
  refine wpAny_bind ?_
  unfold Builtin.SmallTypes.ownedTupleIsFree
  refine wpAny_bind (wpAny_field hz rfl (x := .none) rfl (wpAny_pure ?_))
  simp only [if_true]
  refine wpAny_bind (wpAny_rule ?_)
  refine wpAny_bind (wpAny_field hz rfl (x := .ref TO) rfl ?_)
  refine wpAny_bind (wpAny_setField_rec hz (by simp) fun g1 hzA sA => ?_)
  replace hzA : IsZip g1 z TI TO .ellipsis := hzA
  refine wpAny_bind ?_
  simp only [List.zipIdx_cons, List.zipIdx_nil, List.forIn_cons, List.forIn_nil]
  refine wpAny_bind (wpAny_bind (wpAny_onRaise ?_))
  show wpAny _ _ (Builtin.SmallTypes.nextOf (.ref i1) >>= _) _ _ _
  cases hx : xs[k1]? with
  | none =>
    refine wpAny_bind (nextOf_sq_end (b := b) hh (h1.at' fun o e => sA.extBut _ o D.i1z e) (hl1.at' fun o e => sA.extBut _ o D.l1z e) hx fun g2 ex sB he => ?_)
    obtain ⟨oe, hoe, hce⟩ := he
    have hzB : IsZip g2 z TI TO .ellipsis := sB _ _ D.i1z.symm hzA
    have hez : ex ≠ z := fun q => by subst q; rw [hzB] at hoe; cases hoe; simp at hce
    refine wpAny_setField_rec hzB (by simp) fun g3 _ sC => hE g3 ex (fun c o c1 _ c3 _ q => sC.extBut _ _ c1 (sB _ _ c3 (sA.extBut _ _ c1 q))) ⟨oe, sC.extBut _ _ hez hoe, hce⟩
  | some x =>
    have hy : ys[k2]? = none := by rcases hend with h | h; rw [hx] at h; cases h; exact h
    refine wpAny_bind (nextOf_sq (b := b) (h1.at' fun o e => sA.extBut _ o D.i1z e) (hl1.at' fun o e => sA.extBut _ o D.l1z e) hx fun g2 h1B sB => wpAny_pure ?_)
    have TOB : IsPair g2 TO v0 v1 := sB.extBut _ _ D.TOi1 (sA.extBut _ _ D.TOz hTO)
    refine wpAny_bind (wpAny_seqItems TOB rfl ?_)
    refine wpAny_bind (wpAny_updateSeq_pair TOB fun g3 TOC sC => ?_)
    refine wpAny_bind (wpAny_letGo (wpAny_pure ?_))
    refine wpAny_bind (wpAny_bind (wpAny_onRaise ?_))
    show wpAny _ _ (Builtin.SmallTypes.nextOf (.ref i2) >>= _) _ _ _
    refine wpAny_bind (nextOf_sq_end (b := b) hh (h2.at' fun o e => sC.extBut _ o D.TOi2.symm (sB.extBut _ o D.i12.symm (sA.extBut _ o D.i2z e))) (hl2.at' fun o e => sC.extBut _ o D.l2TO (sB.extBut _ o D.l2i1 (sA.extBut _ o D.l2z e))) hy fun g4 ex sD he => ?_)
    obtain ⟨oe, hoe, hce⟩ := he
    have hzD : IsZip g4 z TI TO .ellipsis := sD _ _ D.i2z.symm (sC.extBut _ _ D.TOz.symm (sB.extBut _ _ D.i1z.symm hzA))
    have hez : ex ≠ z := fun q => by subst q; rw [hzD] at hoe; cases hoe; simp at hce
    refine wpAny_setField_rec hzD (by simp) fun g5 _ sE => hE g5 ex (fun c o c1 c2 c3 c4 q => sE.extBut _ _ c1 (sD _ _ c4 (sC.extBut _ _ c2 (sB.extBut _ _ c3 (sA.extBut _ _ c1 q))))) ⟨oe, sE.extBut _ _ hez hoe, hce⟩
end
abbrev zpIt (b : Bool) (l : Addr) : Obj := { cls := .type (if b = true then "list_iterator" else "tuple_iterator"), data := .fields #[.ref l, .int 0 0] }
abbrev zp2 (b : Bool) (h : Heap) (l1 l2 : Addr) : Heap := (h.push (zpIt b l1)).push (zpIt b l2)
abbrev zp3 (b : Bool) (h : Heap) (l1 l2 : Addr) : Heap := (zp2 b h l1 l2).push { cls := .type "tuple", data := .seq #[.ref h.objs.size, .ref (h.push (zpIt b l1)).objs.size] }
abbrev zp4 (b : Bool) (h : Heap) (l1 l2 : Addr) : Heap := (zp3 b h l1 l2).push { cls := .type "tuple", data := .seq #[.none, .none] }
abbrev zp5 (b : Bool) (h : Heap) (l1 l2 : Addr) : Heap := (zp4 b h l1 l2).push { cls := .type "zip", data := .fields #[.none, .bool false, .bool false, .ref (zp2 b h l1 l2).objs.size, .ref (zp3 b h l1 l2).objs.size] }
theorem zipNew_tt (l1 l2 : Addr) (xs ys : Array Value) :
    Meets (Builtin.«zip.__new__» ⟨[.type "zip", .ref l1, .ref l2], []⟩) (fun _ R s => s.heap.IsTuple l1 xs ∧ s.heap.IsTuple l2 ys ∧ R (.ok (.ret (.ref (zp4 false s.heap l1 l2).objs.size))) { s with heap := zp5 false s.heap l1 l2 }) :=
  .of_wp fun prog w A R s h => by
    obtain ⟨hp, g, d, tk, os⟩ := s; obtain ⟨hl1, hl2, h⟩ := h
    have hsub := sub_zip
    have hL1 : Heap.IsTuple (Shared.heap ⟨hp, g, d, tk, os⟩) l1 xs := hl1
    have hL2 : Heap.IsTuple (Shared.heap ⟨hp.push { cls := .type "tuple_iterator", data := .fields #[.ref l1, .int 0 0] }, g, d, tk, os⟩) l2 ys := Heap.IsTuple.push hl2 _
    wp_walk using wpAny_pyIter_tuple hL1, wpAny_pyIter_tuple hL2
    exact ⟨_, rfl, h⟩
section
variable {prog : Program} {w : World} {A : Around} {E : Value → Shared → Prop} {s : Shared}
theorem callZip {b : Bool} {l1 l2 : Addr} {xs ys : Array Value} {Q : Value → Shared → Prop} (hl1 : IsSq b s.heap l1 xs) (hl2 : IsSq b s.heap l2 ys)
    (h : ∀ h', IsZip h' (s.heap.objs.size + 4) (s.heap.objs.size + 2) (s.heap.objs.size + 3) .none → IsPair h' (s.heap.objs.size + 2) (.ref s.heap.objs.size) (.ref (s.heap.objs.size + 1)) →
      IsPair h' (s.heap.objs.size + 3) .none .none → IsSqIt b h' s.heap.objs.size l1 0 → IsSqIt b h' (s.heap.objs.size + 1) l2 0 → (∀ c o, s.heap.get? c = some o → h'.get? c = some o) → Q (.ref (s.heap.objs.size + 4)) { s with heap := h' }) :
    wpAny (model prog w) A (call (.type "zip") [.ref l1, .ref l2]) Q E s := by
  cases b with
  | true => exact call_zip_2 (show s.heap.IsList l1 xs from hl1) (show s.heap.IsList l2 ys from hl2) fun h' a1 a2 a3 a4 a5 _ a7 => h h' a1 a2 a3 a4 a5 a7
  | false =>
    refine callType_new F.called_zip (by decide) (F.typeCall_zip_2 _ _) (F.newCall_zip_2 _ _) (fun obj => F.args_object_init_3 obj _ _) F.entry_zip_new (zipNew_tt l1 l2 xs ys) ⟨hl1, hl2, ?_⟩
    have q1 : (s.heap.push (zpIt false l1)).objs.size = s.heap.objs.size + 1 := Heap.size_push ..
    have q2 : (zp2 false s.heap l1 l2).objs.size = s.heap.objs.size + 2 := by rw [Heap.size_push, q1]
    have q3 : (zp3 false s.heap l1 l2).objs.size = s.heap.objs.size + 3 := by rw [Heap.size_push, q2]
    have q4 : (zp4 false s.heap l1 l2).objs.size = s.heap.objs.size + 4 := by rw [Heap.size_push, q3]
    have p5 : (zp5 false s.heap l1 l2).get? (zp4 false s.heap l1 l2).objs.size = some _ := Heap.get?_push_size _ rfl
    have p4 : (zp5 false s.heap l1 l2).get? (zp3 false s.heap l1 l2).objs.size = some _ := Heap.get?_push_of_some _ (Heap.get?_push_size _ rfl)
    have p3 : (zp5 false s.heap l1 l2).get? (zp2 false s.heap l1 l2).objs.size = some _ := Heap.get?_push_of_some _ (Heap.get?_push_of_some _ (Heap.get?_push_size _ rfl))
    have p2 : (zp5 false s.heap l1 l2).get? (s.heap.push (zpIt false l1)).objs.size = some _ := Heap.get?_push_of_some _ (Heap.get?_push_of_some _ (Heap.get?_push_of_some _ (Heap.get?_push_size _ rfl)))
    have p1 : (zp5 false s.heap l1 l2).get? s.heap.objs.size = some _ := Heap.get?_push_of_some _ (Heap.get?_push_of_some _ (Heap.get?_push_of_some _ (Heap.get?_push_of_some _ (Heap.get?_push_size _ rfl))))
    show _ ∧ _
    rw [q2, q3, q4] at p5
    rw [q1, q2] at p3
    rw [q3] at p4
    rw [q1] at p2
    rw [q4]
    exact ⟨⟨_, p5, rfl⟩, h _ p5 p3 p4 (show Heap.IsTupleIter _ _ _ _ from ⟨_, p1, rfl, rfl⟩) (show Heap.IsTupleIter _ _ _ _ from ⟨_, p2, rfl, rfl⟩) fun c o x =>
      Heap.get?_push_of_some _ (Heap.get?_push_of_some _ (Heap.get?_push_of_some _ (Heap.get?_push_of_some _ (Heap.get?_push_of_some _ x))))⟩
end
def SqB (b : Bool) (K : PySem.W.Frag) (H : Hp) (a : Addr) (xs : List V) : Prop := if b = true then SqL K H a xs else SqT K H a xs
theorem Inv.sqB {X : Cx} {pins : List (Addr × Obj)} {σ : St} {H : Hp} {s : Shared} {b : Bool} {a : Addr} {xs : List V} (I : Inv X pins σ H s) (h : SqB b X.K H a xs) : ∃ its : List Value, Vals xs its ∧ IsSq b s.heap a its.toArray ∧ xs.length ≤ sizeLine := by
  cases b with
  | true =>
    obtain ⟨its, r, p, z⟩ := I.list (show SqL X.K H a xs from h)
    exact ⟨its, r, p.isList, z⟩
  | false =>
    obtain ⟨its, r, p, z⟩ := I.tuple (show SqT X.K H a xs from h)
    exact ⟨its, r, (show s.heap.IsTuple a its.toArray from p), z⟩
theorem Inv.sqB_inj {X : Cx} {pins : List (Addr × Obj)} {σ : St} {H : Hp} {s : Shared} {b : Bool} {a : Addr} {xs ys : List V} (I : Inv X pins σ H s) (h : SqB b X.K H a xs) (h' : SqB b X.K H a ys) : xs = ys := by
  cases b with
  | true => exact I.list_inj (show SqL X.K H a xs from h) (show SqL X.K H a ys from h')
  | false => exact I.tuple_inj (show SqT X.K H a xs from h) (show SqT X.K H a ys from h')
def Itz (b : Bool) (K : PySem.W.Frag) (a c : Addr) : It :=
  ⟨fun i H => ∃ xs ys x y, SqB b K H a xs ∧ SqB b K H c ys ∧ xs[i]? = some x ∧ ys[i]? = some y,
   fun i H v H' => ∃ t x y, H t = none ∧ v = .ref t ∧ H' = upd H t (.tup [x, y]) ∧ (∀ xs, SqB b K H a xs → xs[i]? = some x) ∧ ∀ ys, SqB b K H c ys → ys[i]? = some y,
   fun i H => ∃ xs ys, SqB b K H a xs ∧ SqB b K H c ys ∧ (xs.length ≤ i ∨ ys.length ≤ i)⟩
theorem ap_sq {X : Cx} {pins : List (Addr × Obj)} {σ : St} {H : Hp} {s : Shared} {b : Bool} {a j : Addr} {xs : List V} (I : Inv X pins σ H s) (h : SqB b X.K H a xs) (f : FpOk X pins H j) : a ≠ j := by
  intro e
  subst e
  have key : ∀ {o}, X.K.lookup a = some o → False := fun {o} q => by
    have q1 := I.mod.kin a o q
    rcases f.2.2.2.1 with z | z
    · exact I.ok.noex a o q1 z
    · exact absurd (Nat.lt_of_lt_of_le (Heap.lt_size q1) (Nat.le_trans I.ok.bsz z)) (Nat.lt_irrefl _)
  cases b with
  | true =>
    rcases (show SqL X.K H a xs from h) with (h | ⟨o, h⟩) | ⟨o, its, n, hk, _⟩
    · rw [f.1] at h; cases h
    · rw [f.1] at h; cases h
    · exact key hk
  | false =>
    rcases (show SqT X.K H a xs from h) with (h | ⟨o, h⟩) | ⟨o, its, n, hk, _⟩
    · rw [f.1] at h; cases h
    · rw [f.1] at h; cases h
    · exact key hk
structure ZpA (z TI TO i1 i2 : Addr) : Prop where
  TIz : TI ≠ z
  TOz : TO ≠ z
  i1z : i1 ≠ z
  i2z : i2 ≠ z
  TITO : TI ≠ TO
  TIi1 : TI ≠ i1
  TIi2 : TI ≠ i2
  TOi1 : TO ≠ i1
  TOi2 : TO ≠ i2
  i12 : i1 ≠ i2
theorem turn_zip {P : Program} {w : World} {K : PySem.W.Frag} {elts : List Expr} {x1 : Nat} {pos : Pos} (b : Bool) (a c z TI TO i1 i2 : Addr) (D0 : ZpA z TI TO i1 i2) :
    Turn P w K (.Tuple elts x1 pos) (Itz b K a c) [z, TI, TO, i1, i2] z (fun i h => IsZip h z TI TO .none ∧ IsPair h TI (.ref i1) (.ref i2) ∧ (∃ u v, IsPair h TO u v) ∧ IsSqIt b h i1 a i ∧ IsSqIt b h i2 c i) where
  mem := by simp
  obj := fun i h st d hd => by
    obtain ⟨hz, hTI, ⟨u, v, hTO⟩, h1, h2⟩ := st
    have q : d = z ∨ d = TI ∨ d = TO ∨ d = i1 ∨ d = i2 := by simpa using hd
    rcases q with rfl | rfl | rfl | rfl | rfl
    · exact ⟨_, hz, fun v z => by
        have z' : Data.fields _ = Data.cell v := z
        cases z'⟩
    · exact ⟨_, hTI, fun v z => by
        have z' : Data.seq _ _ = Data.cell v := z
        cases z'⟩
    · exact ⟨_, hTO, fun v z => by
        have z' : Data.seq _ _ = Data.cell v := z
        cases z'⟩
    · exact h1.obj
    · exact h2.obj
  keep := fun i h h' st k => by
    obtain ⟨hz, hTI, ⟨u, v, hTO⟩, h1, h2⟩ := st
    exact ⟨k z (by simp) _ hz, k TI (by simp) _ hTI, ⟨u, v, k TO (by simp) _ hTO⟩, h1.at' fun o e => k i1 (by simp) o e, h2.at' fun o e => k i2 (by simp) o e⟩
  item := by
    intro X hP hw hK hc i pins s σ H E I hf st hg
    subst hP hw hK
    obtain ⟨hz, hTI, ⟨u0, v0, hTO⟩, h1, h2⟩ := st
    obtain ⟨xs, ys, x, y, hq1, hq2, hx, hy⟩ := hg
    obtain ⟨its1, rv1, p1, hz1⟩ := I.sqB hq1
    obtain ⟨its2, rv2, p2, hz2⟩ := I.sqB hq2
    obtain ⟨u1, hu1, ru1⟩ := rv1.get hx
    obtain ⟨u2, hu2, ru2⟩ := rv2.get hy
    have D : ZipApart z TI TO i1 i2 a c := ⟨D0.TIz, D0.TOz, D0.i1z, D0.i2z, D0.TITO, D0.TIi1, D0.TIi2, D0.TOi1, D0.TOi2, D0.i12,
      ap_sq I hq1 (hf z (by simp)), ap_sq I hq1 (hf TO (by simp)), ap_sq I hq1 (hf i1 (by simp)), ap_sq I hq1 (hf i2 (by simp)), ap_sq I hq2 (hf z (by simp)), ap_sq I hq2 (hf TO (by simp)), ap_sq I hq2 (hf i1 (by simp)), ap_sq I hq2 (hf i2 (by simp))⟩
    have zlt : z < s.heap.objs.size := Heap.lt_size hz
    have hT : s.TypeIs (.ref z) "zip" := ⟨_, hz, rfl⟩
    unfold pyNext
    refine wpAny_bind (wpAny_attempt (wpAny_callSpecial?_slot (name := Str.ofString "__next__") hT F.slot_zip_next (wpAny_call_entry F.slot_zip_next hT F.entry_zip_next
      (zipNext_item (b := b) D hz hTI hTO h1 h2 p1 p2 (x := u1) (y := u2) (by simpa using hu1) (by simpa using hu2) fun h' a1 a2 a3 a4 a5 a7 => wpAny_pure ?_) (F.args_zip_next_1 _))))
    refine ⟨_, rfl, wpAny_letOwnedTupleGo_zip a1 fun g hz' hs' => ?_⟩
    replace hs' : Heap.SameBut z h' g := hs'
    have kk : ∀ d ob, d ∉ [z, TI, TO, i1, i2] → s.heap.get? d = some ob → g.get? d = some ob := fun d ob hd q => by
      have hd' : d ≠ z ∧ d ≠ TI ∧ d ≠ TO ∧ d ≠ i1 ∧ d ≠ i2 := by simpa using hd
      exact hs'.extBut _ _ hd'.1 (a7 d ob hd'.1 hd'.2.2.1 hd'.2.2.2.1 hd'.2.2.2.2 q)
    have hT2 : g.get? s.heap.objs.size = some { cls := .type "tuple", data := .seq #[u1, u2] } := hs'.extBut _ _ (Nat.ne_of_gt zlt) a5
    refine ⟨.ref s.heap.objs.size, upd H s.heap.objs.size (.tup [x, y]), I.turnedNew (ch := [z, TI, TO, i1, i2]) (t' := s.toks) (Nat.le_refl _) kk hf ?_, rfl,
      ⟨_, x, y, I.fresh, rfl, rfl, fun zs hq => by rw [I.sqB_inj hq hq1]; exact hx, fun zs hq => by rw [I.sqB_inj hq hq2]; exact hy⟩,
      ⟨hz', hs'.extBut _ _ D.TIz (a7 _ _ D.TIz D.TITO D.TIi1 D.TIi2 hTI), ⟨_, _, hs'.extBut _ _ D.TOz a2⟩, a3.at' fun o e => hs'.extBut _ _ D.i1z e, a4.at' fun o e => hs'.extBut _ _ D.i2z e⟩, fun d hd => ?_⟩
    · exact ⟨by show 2 ≤ sizeLine; decide, [u1, u2], .cons ru1 (.cons ru2 .nil), ⟨_, hT2, rfl, _, rfl⟩⟩
    · have dlt : d < s.heap.objs.size := by
        have q : d = z ∨ d = TI ∨ d = TO ∨ d = i1 ∨ d = i2 := by simpa using hd
        rcases q with rfl | rfl | rfl | rfl | rfl
        · exact zlt
        · exact Heap.lt_size hTI
        · exact Heap.lt_size hTO
        · obtain ⟨o, e, _⟩ := h1.obj; exact Heap.lt_size e
        · obtain ⟨o, e, _⟩ := h2.obj; exact Heap.lt_size e
      rw [upd_ne (Nat.ne_of_lt dlt)]
      exact (hf d hd).1
  done := by
    intro X hP hw hK hc i pins s σ H E I hf st hg
    subst hP hw hK
    obtain ⟨hz, hTI, ⟨u0, v0, hTO⟩, h1, h2⟩ := st
    obtain ⟨xs, ys, hq1, hq2, hlen⟩ := hg
    obtain ⟨its1, rv1, p1, hz1⟩ := I.sqB hq1
    obtain ⟨its2, rv2, p2, hz2⟩ := I.sqB hq2
    have e1 := rv1.length
    have e2 := rv2.length
    have D : ZipApart z TI TO i1 i2 a c := ⟨D0.TIz, D0.TOz, D0.i1z, D0.i2z, D0.TITO, D0.TIi1, D0.TIi2, D0.TOi1, D0.TOi2, D0.i12,
      ap_sq I hq1 (hf z (by simp)), ap_sq I hq1 (hf TO (by simp)), ap_sq I hq1 (hf i1 (by simp)), ap_sq I hq1 (hf i2 (by simp)), ap_sq I hq2 (hf z (by simp)), ap_sq I hq2 (hf TO (by simp)), ap_sq I hq2 (hf i1 (by simp)), ap_sq I hq2 (hf i2 (by simp))⟩
    have hT : s.TypeIs (.ref z) "zip" := ⟨_, hz, rfl⟩
    unfold pyNext
    refine wpAny_bind (wpAny_attempt (wpAny_callSpecial?_slot (name := Str.ofString "__next__") hT F.slot_zip_next (wpAny_call_entry F.slot_zip_next hT F.entry_zip_next
      (zipNext_end (b := b) (I.ok.hd hc) D hz hTI hTO h1 h2 p1 p2 (by rcases hlen with h | h; exact .inl (by simp; omega); exact .inr (by simp; omega)) fun h' e hk he => ?_) (F.args_zip_next_1 _))))
    obtain ⟨o, ho, hcl⟩ := he
    refine wpAny_bind (wpAny_isInstance (T := "StopIteration") (b := true) ⟨o, ho, hcl⟩ isSubtype_stop ?_)
    exact wpAny_pure ⟨rfl, I.turnedAll (ch := [z, TI, TO, i1, i2]) (t' := s.toks) (fun d ob hd q => by
      have hd' : d ≠ z ∧ d ≠ TI ∧ d ≠ TO ∧ d ≠ i1 ∧ d ≠ i2 := by simpa using hd
      exact hk d ob hd'.1 hd'.2.2.1 hd'.2.2.2.1 hd'.2.2.2.2 q) hf⟩
  self := fun _ _ _ _ _ st h => wpAny_pyIter_zip st.1 h
theorem zip_started {X : Cx} {b : Bool} {elts : List Expr} {x1 : Nat} {tpos : Pos} {pins : List (Addr × Obj)} {σ : St} {H1 : Hp} {s1 : Shared} {R : It → Hp → Prop} {a c : Addr} {xs ys : List V} (I1 : Inv X pins σ H1 s1) (hq1 : SqB b X.K H1 a xs) (hq2 : SqB b X.K H1 c ys) (q : R (Itz b X.K a c) H1) :
    wpAny (model X.prog X.w) X.A (call (.type "zip") [.ref a, .ref c]) (fun v s2 => wpAny (model X.prog X.w) X.A (pyIter v) (PIE X pins σ (.Tuple elts x1 tpos) R) X.xe s2) X.xe s1 := by
  obtain ⟨its1, rv1, p1, hz1⟩ := I1.sqB hq1
  obtain ⟨its2, rv2, p2, hz2⟩ := I1.sqB hq2
  refine callZip p1 p2 fun h' a1 a2 a3 a4 a5 hk => ?_
  refine wpAny_pyIter_zip a1 ?_
  have I2 : Inv X pins σ H1 { s1 with heap := h' } := I1.kept (t' := s1.toks) fun b o q => hk b o q
  have ne : ∀ i j : Nat, i ≠ j → s1.heap.objs.size + i ≠ s1.heap.objs.size + j := fun i j h e => h (Nat.add_left_cancel e)
  refine ⟨_, [s1.heap.objs.size + 4, s1.heap.objs.size + 2, s1.heap.objs.size + 3, s1.heap.objs.size, s1.heap.objs.size + 1], _, _, H1, rfl, I2, turn_zip b a c _ _ _ _ _ ⟨ne 2 4 (by decide), ne 3 4 (by decide), ne 0 4 (by decide), ne 1 4 (by decide), ne 2 3 (by decide), ne 2 0 (by decide), ne 2 1 (by decide), ne 3 0 (by decide), ne 3 1 (by decide), ne 0 1 (by decide)⟩,
    ⟨a1, a2, ⟨_, _, a3⟩, a4, a5⟩, fun d hd => ?_, q⟩
  have hd' : d = s1.heap.objs.size + 4 ∨ d = s1.heap.objs.size + 2 ∨ d = s1.heap.objs.size + 3 ∨ d = s1.heap.objs.size ∨ d = s1.heap.objs.size + 1 := by simpa using hd
  have hle : s1.heap.objs.size ≤ d := by
    rcases hd' with e | e | e | e | e <;> rw [e]
    · exact Nat.le_add_right _ _
    · exact Nat.le_add_right _ _
    · exact Nat.le_add_right _ _
    · exact Nat.le_refl _
    · exact Nat.le_add_right _ _
  exact I1.fpOk hle (I1.hok.fresh hle)
def iZipE (K : PySem.W.Frag) (ta : TA) : TI := fun σ H R => ta σ H fun vs H1 => ∃ (b : Bool) (a c : Addr), vs = [.ref a, .ref c] ∧ (∃ xs, SqB b K H1 a xs) ∧ (∃ ys, SqB b K H1 c ys) ∧ R (Itz b K a c) H1
theorem pi_zipE {X : Cx} {elts : List Expr} {x1 : Nat} {tpos : Pos} {a c : Expr} {ta : TA} {p pos : Pos} (hg : Gl X "zip") (hm : X.mg "zip" = none) (ha : PA X [a, c] ta) (hs : starEach [a, c] X.env = [(false, eval a X.env), (false, eval c X.env)] := by rfl) (hs2 : starEach [c] X.env = [(false, eval c X.env)] := by rfl) :
    PI X (.Tuple elts x1 tpos) (.Call (.Name "zip" p) [a, c] [] pos) (iZipE X.K ta) := by
  intro pins s σ H R I h
  refine Call_ (ld_blt I hg hm boot_zip (PyProof.Rows.callWith_type1 (thn (ha pos pins s σ H _ I h) fun us s1 ⟨vs, H1, I1, r1, q1⟩ => ?_) (by rw [hs, hs2]) (by rw [hs2]; rfl)))
  obtain ⟨b, a, c, e, ⟨xs, hq1⟩, ⟨ys, hq2⟩, q⟩ := q1
  subst e
  cases r1 with
  | cons r rr =>
    cases rr with
    | cons r' rr =>
      cases rr
      cases r
      cases r'
      exact zip_started I1 hq1 hq2 q
end L2
namespace L2
open PySem PySem.Spec PyProof.Rows
theorem lk_list_keys : typeLookup (.type "list") "keys" = pure none := by rw [typeLookup_type, builtinLookup_eq_fast]; kernel_rfl
theorem lk_list_getattr : typeLookup (.type "list") "__getattr__" = pure none := by rw [typeLookup_type, builtinLookup_eq_fast]; kernel_rfl
theorem sub_attr : isSubtype (.type "AttributeError") (.type "AttributeError") = pure true := by rw [isSubtype_type]; kernel_rfl
section
variable {prog : Program} {w : World} {A : Around} {E : Value → Shared → Prop} {h : Heap} {g : Array GenState} {d : Drawn} {t : Nat} {os : OsState} {a : Addr} {o : Obj}
theorem raise_attr {α : Type} {Q : α → Shared → Prop} {u : Value} {x msg : Str} (hh : A.handled = none) (hm : msg.length ≤ sizeLine)
    (hE : ∀ h' e tk, (∀ b o, h.get? b = some o → h'.get? b = some o) → (∃ o, h'.get? e = some o ∧ o.cls = .type "AttributeError") → E (.ref e) ⟨h', g, d, tk, os⟩) :
    wpAny (model prog w) A (raiseAttrError u x msg : Sem α) Q E ⟨h, g, d, t, os⟩ := by
  unfold raiseAttrError
  refine wpAny_bind (wpAny_mkStr ?_ hm)
  simp only [newExc, newTuple]
  refine wpAny_bind (wpAny_bind (wpAny_newObj_type ?_ (by size_fits)))
  refine wpAny_bind (m := firstArgMember _ _) (wpAny_of_eq (a := Value.none) (by first | rfl | (simp only [firstArgMember]; rfl)) ?_)
  refine wpAny_newObj_type ?_ (by size_fits)
  refine wpAny_bind (wpAny_mkText ?_)
  dsimp only
  refine wpAny_bind ?_
  unfold noteAttr
  generalize hh1 : h.push { cls := .type "tuple", data := .seq #[.str msg t] } = h1
  have k1 : ∀ b o, h.get? b = some o → h1.get? b = some o := fun b o q => by rw [← hh1]; exact Heap.get?_push_of_some _ q
  have hg : (h1.push { cls := .type "AttributeError", data := .fields #[.ref h.objs.size, .none, .none, .none, .bool false, .none, unsetMember, unsetMember] }).get? h1.objs.size = some _ := Heap.get?_push_size _ rfl
  have k2 : ∀ b o, h.get? b = some o → (h1.push { cls := .type "AttributeError", data := .fields #[.ref h.objs.size, .none, .none, .none, .bool false, .none, unsetMember, unsetMember] }).get? b = some o := fun b o q => Heap.get?_push_of_some _ (k1 b o q)
  have nb : ∀ b o, h.get? b = some o → b ≠ h1.objs.size := fun b o q => Nat.ne_of_lt (Heap.lt_size (k1 b o q))
  show wpAny _ _ (lacksNameAndObj (.ref h1.objs.size) >>= _) _ _ ⟨h1.push { cls := .type "AttributeError", data := .fields #[.ref h.objs.size, .none, .none, .none, .bool false, .none, unsetMember, unsetMember] }, g, d, t + 1 + 1, os⟩
  generalize hh2 : h1.push { cls := .type "AttributeError", data := .fields #[.ref h.objs.size, .none, .none, .none, .bool false, .none, unsetMember, unsetMember] } = h2 at hg k2
  generalize h1.objs.size = e at hg nb
  clear hh2 k1 hh1
  have hT : (⟨h2, g, d, t + 1 + 1, os⟩ : Shared).TypeIs (.ref e) "AttributeError" := ⟨_, hg, rfl⟩
  refine wpAny_bind ?_
  unfold lacksNameAndObj
  refine wpAny_bind (wpAny_isInstance hT sub_attr ?_)
  simp only [Bool.not_true, Bool.false_eq_true, if_false]
  refine wpAny_bind (wpAny_load hg ?_)
  show wpAny _ _ (pure true) _ _ _
  refine wpAny_pure ?_
  simp only [if_true]
  refine wpAny_bind (wpAny_rule (wpAny_bind (wpAny_typeOf hT ?_)))
  show wpAny _ _ (layMembers e 6 #[_, u]) _ _ _
  unfold layMembers
  refine wpAny_bind (wpAny_load hg ?_)
  show wpAny _ _ (update e _) _ _ _
  refine wpAny_update hg ?_
  refine wpAny_raiseNew_none hh (hE _ _ _ (fun b o q => ?_) ⟨_, Heap.get?_update_self _ hg rfl, rfl⟩)
  exact (Heap.get?_update_other _ _ (nb b o q).symm).trans (k2 b o q)
theorem nokeys_entry {tk : Tok} {Q : PySem.Fin → Shared → Prop} {its : Array Value} {n : Nat} (hx : h.get? a = some { cls := .type "list", dict := none, data := .seq its n, slots := #[] }) (hh : A.handled = none)
    (hE : ∀ h' e tk, (∀ b o, h.get? b = some o → h'.get? b = some o) → (∃ o, h'.get? e = some o ∧ o.cls = .type "AttributeError") → E (.ref e) ⟨h', g, d, tk, os⟩) :
    wpAny (model prog w) A (Builtin.«object.__getattribute__» ⟨[.ref a, .str "keys" tk], []⟩) Q E ⟨h, g, d, t, os⟩ := by
  have hT : (⟨h, g, d, t, os⟩ : Shared).TypeIs (.ref a) "list" := ⟨_, hx, rfl⟩
  have f4 := lk_list_keys
  repeat (any_goals (first | assumption | wp_step))
  refine raise_attr hh (by decide +kernel) hE
theorem nokeys_by {tk : Tok} {Q : Value → Shared → Prop} {its : Array Value} {n : Nat} (hx : h.get? a = some { cls := .type "list", dict := none, data := .seq its n, slots := #[] }) (hh : A.handled = none)
    (hE : ∀ h' e tk, (∀ b o, h.get? b = some o → h'.get? b = some o) → (∃ o, h'.get? e = some o ∧ o.cls = .type "AttributeError") → E (.ref e) ⟨h', g, d, tk, os⟩) :
    wpAny (model prog w) A (getAttrBy (.ref a) (.str "keys" tk) false) Q E ⟨h, g, d, t, os⟩ := by
  have hT : (⟨h, g, d, t, os⟩ : Shared).TypeIs (.ref a) "list" := ⟨_, hx, rfl⟩
  have f2 := F.slot_list_getattribute.lookup
  have f3 := F.slot_list_getattribute.bind (.ref a)
  repeat (any_goals (first | assumption | wp_step))
  refine codeAny_call_builtin F.slot_list_getattribute.plain F.entry_list_ga (F.slot_list_getattribute.check _ _ _ _ _ _ _ _ (show (⟨h, g, d, t, os⟩ : Shared).TypeIs (.ref a) "list" from ⟨_, hx, rfl⟩) (F.args_list_getattribute_2 _ _) (nokeys_entry hx ?_ ?_))
  · exact hh
  · intro h' e tk k q
    obtain ⟨oe, he, hc⟩ := q
    have hT2 : (⟨h', g, d, tk, os⟩ : Shared).TypeIs (.ref e) "AttributeError" := ⟨_, he, hc⟩
    have f5 := sub_attr
    have f6 := lk_list_getattr
    show wpAny _ A (getattributeRaised (Value.ref a) _ (Value.type "list") (.ref e) none false false) _ _ _
    have done := hE h' e tk k ⟨oe, he, hc⟩
    unfold getattributeRaised
    repeat (any_goals (first | assumption | wp_step))
theorem nokeys {Q : Option Value → Shared → Prop} {its : Array Value} {n : Nat} (hx : h.get? a = some { cls := .type "list", dict := none, data := .seq its n, slots := #[] }) (hh : A.handled = none)
    (hq : ∀ h' tk, (∀ b o, h.get? b = some o → h'.get? b = some o) → Q none ⟨h', g, d, tk, os⟩) : wpAny (model prog w) A (getAttr? (.ref a) "keys") Q E ⟨h, g, d, t, os⟩ := by
  unfold getAttr? getAttrBy?
  refine wpAny_bind (wpAny_mkText (wpAny_bind (wpAny_attempt (nokeys_by hx hh fun h' e tk k q => ?_))))
  obtain ⟨oe, he, hc⟩ := q
  refine wpAny_bind (wpAny_isInstance (T := "AttributeError") (b := true) ⟨_, he, hc⟩ sub_attr ?_)
  exact wpAny_pure (hq h' tk k)
end
end L2
namespace L2
open PySem PySem.Spec PyProof.Rows
theorem entry_dict_update_loop : entryFor table "dict.update.loop" = some Builtin.«dict.update.loop» := entryFor_of_fast (by kernel_rfl)
theorem plain_dict_update_loop : plainId "dict.update.loop" = true := by decide +kernel
theorem stored_len {K : Type} [DecidableEq K] (kvs : List (K × Value)) (k : K) (v : Value) : (stored kvs k v).length ≤ kvs.length + 1 := by
  unfold stored
  split
  · rw [List.length_map]; omega
  · rw [List.length_append]; exact Nat.le_refl _
section
variable {prog : Program} {w : World} {A : Around} {E : Value → Shared → Prop} {K : Type} [DecidableEq K] {knd : KeyKind prog w K} {R : Result → Shared → Prop}
theorem dict_loop {d it l : Addr} {its : Array Value} {more : List (K × Value)} (hh : A.handled = none) (hlen : more.length = its.size) (hsz : its.size ≤ 1000) (hdl : l ≠ d) (hdi : it ≠ d) (hil : l ≠ it) :
    ∀ (k i : Nat) (tk0 : Tok) (s : Shared) (kvs : List (K × Value)), its.size - i = k → i ≤ its.size → kvs.length ≤ i → s.heap.IsListIter it l i → s.heap.IsList l its → s.heap.DictOf knd d kvs →
      (∀ (j : Nat) (q : K × Value), more[j]? = some q → ∃ t kv, its[j]? = some (.ref t) ∧ s.heap.IsTuple t #[kv, q.2] ∧ knd.is q.1 kv = true) →
      (∀ h' tk, h'.DictOf knd d (merged kvs (more.drop i)) → (∀ b o, b ≠ d → b ≠ it → s.heap.get? b = some o → h'.get? b = some o) → R (.ok (.ret .none)) { s with heap := h', toks := tk }) →
      codeAny (model prog w) A (.builtin "dict.update.loop" ⟨[.ref d, .ref it, .int i tk0, .none], []⟩) R s := by
  intro k
  induction k with
  | zero =>
    intro i tk0 s kvs hk hi hkl hit hl hd hp hR
    have e : i = its.size := by omega
    subst e
    refine codeAny_builtin entry_dict_update_loop ?_
    rw [Around.under_plainId plain_dict_update_loop _]
    show wpAny _ A.in1 (pyNext (.ref it) >>= _) _ _ s
    refine wpAny_bind (wpAny_pyNext_list_end hh hit hl (by simp) fun h' eb => ?_)
    show wpAny _ A.in1 (Builtin.Dict.addKeywords d [] >>= _) _ _ _
    refine wpAny_bind (wpAny_pure (wpAny_pure ?_))
    refine hR h' s.toks ?_ fun b o _ hb q => eb b o hb q
    rw [List.drop_eq_nil_of_le (by omega)]
    exact hd.extBut eb hdi.symm
  | succ k ih =>
    intro i tk0 s kvs hk hi hkl hit hl hd hp hR
    have hlt : i < its.size := by omega
    have hlm : i < more.length := by omega
    obtain ⟨t, kv, hu, ht, hkey⟩ := hp i more[i] (by simp [hlm])
    refine codeAny_builtin entry_dict_update_loop ?_
    rw [Around.under_plainId plain_dict_update_loop _]
    show wpAny _ A.in1 (pyNext (.ref it) >>= _) _ _ s
    refine wpAny_bind (wpAny_pyNext_list_item hit hl hu fun h1 hit1 sb1 => ?_)
    have nti : t ≠ it := fun z => by
      subst z
      obtain ⟨o, e1, c1, _⟩ := ht
      obtain ⟨o', e2, c2, _⟩ := hit
      rw [e1] at e2; cases e2; rw [c1] at c2; exact absurd c2 (by decide)
    have ntd : t ≠ d := fun z => by
      subst z
      obtain ⟨o, e1, c1, _⟩ := ht
      obtain ⟨o', _, _, e2, c2, _⟩ := hd
      rw [e1] at e2; cases e2; rw [c2.1] at c1; exact absurd c1 (by decide)
    have ht1 : h1.IsTuple t #[kv, more[i].2] := ht.extBut sb1.extBut nti
    have hd1 : h1.DictOf knd d kvs := hd.extBut sb1.extBut hdi.symm
    show wpAny _ A.in1 (holding [.ref t] _ >>= _) _ _ _
    refine wpAny_bind (wpAny_holding ?_)
    refine wpAny_bind (m := (Builtin.Dict.pairItems (.ref t)).tryCatch _) ?_
    refine wpAny_tryCatch ?_
    unfold Builtin.Dict.pairItems
    refine wpAny_bind (wpAny_typeOf ht1.typeIs ?_)
    obtain ⟨ot, e1, c1, n1, d1⟩ := id ht1
    rw [if_pos (by decide)]
    refine wpAny_bind (wpAny_seqItems e1 d1 ?_)
    refine wpAny_pure ?_
    show wpAny _ A.in1 (holding [kv, more[i].2] (dictSet d kv more[i].2)) _ _ _
    refine wpAny_holding (wpAny_dictSet_pairs hkey hd1 (fun h2 hd2 sb2 => ?_) (by have := (by decide : 1000 ≤ sizeLine); omega))
    replace sb2 : Heap.SameBut d h1 h2 := sb2
    have kk : ∀ b o, b ≠ d → b ≠ it → s.heap.get? b = some o → h2.get? b = some o := fun b o b1 b2 q => sb2.extBut b o b1 (sb1.extBut b o b2 q)
    refine wpAny_pure ⟨plainId_quiet plain_dict_update_loop _, ?_⟩
    have hik : ((i : Int) + 1) = ((i + 1 : Nat) : Int) := by omega
    show codeAny _ _ (.builtin "dict.update.loop" ⟨[.ref d, .ref it, rawInt ((i : Int) + 1), .none], []⟩) _ _
    rw [hik]
    refine ih (i + 1) 0 _ (stored kvs more[i].1 more[i].2) (by omega) (by omega) ?_ (hit1.extBut sb2.extBut hdi) ((hl.extBut sb1.extBut hil).extBut sb2.extBut hdl) hd2 ?_ ?_
    · have := stored_len kvs more[i].1 more[i].2
      omega
    · intro j q hq
      obtain ⟨t', kv', a1, a2, a3⟩ := hp j q hq
      have n1 : t' ≠ it := fun z => by
        subst z
        obtain ⟨o, e1, c1, _⟩ := a2
        obtain ⟨o', e2, c2, _⟩ := hit
        rw [e1] at e2; cases e2; rw [c1] at c2; exact absurd c2 (by decide)
      have n2 : t' ≠ d := fun z => by
        subst z
        obtain ⟨o, e1, c1, _⟩ := a2
        obtain ⟨o', _, _, e2, c2, _⟩ := hd
        rw [e1] at e2; cases e2; rw [c2.1] at c1; exact absurd c1 (by decide)
      exact ⟨t', kv', a1, (a2.extBut sb1.extBut n1).extBut sb2.extBut n2, a3⟩
    · intro h' tk hd' k'
      refine hR h' tk ?_ fun b o b1 b2 q => k' b o b1 b2 (kk b o b1 b2 q)
      rw [List.drop_eq_getElem_cons hlm]
      exact hd'
theorem call_dict_list {l : Addr} {its : Array Value} {c : Nat} {more : List (K × Value)} {s : Shared} {Q : Value → Shared → Prop} (hh : A.handled = none) (hl : s.heap.get? l = some { cls := .type "list", dict := none, data := .seq its c, slots := #[] }) (hlen : more.length = its.size) (hsz : its.size ≤ 1000)
    (hp : ∀ (j : Nat) (q : K × Value), more[j]? = some q → ∃ t kv, its[j]? = some (.ref t) ∧ s.heap.IsTuple t #[kv, q.2] ∧ knd.is q.1 kv = true)
    (h : ∀ h' tk, h'.DictOf knd s.heap.objs.size (merged [] more) → (∀ b o, s.heap.get? b = some o → h'.get? b = some o) → Q (.ref s.heap.objs.size) { s with heap := h', toks := tk }) :
    wpAny (model prog w) A (call (.type "dict") [.ref l]) Q E s := by
  refine callType_codes (Q₁ := fun obj s₁ => obj = .ref s.heap.objs.size ∧ s₁ = { s with heap := s.heap.push { cls := .type "dict", data := .dict #[] } }) F.kt_called_dict (F.kt_typeCall_dict_1 _) F.entry_dict_init (kt_code_dict_new _ ⟨rfl, rfl⟩) ?_
  rintro obj s₁ ⟨rfl, rfl⟩
  have hnew : (s.heap.push { cls := .type "dict", data := .dict #[] }).DictOf knd s.heap.objs.size [] := Heap.DictOf.new s.heap
  have hl1 : (s.heap.push { cls := .type "dict", data := .dict #[] }).get? l = some { cls := .type "list", dict := none, data := .seq its c, slots := #[] } := Heap.get?_push_of_some _ hl
  have k1 : ∀ b o, s.heap.get? b = some o → (s.heap.push { cls := .type "dict", data := .dict #[] }).get? b = some o := fun b o q => Heap.get?_push_of_some _ q
  have llt : l < s.heap.objs.size := Heap.lt_size hl
  generalize s.heap.push { cls := .type "dict", data := .dict #[] } = h1 at hnew hl1 k1
  refine ⟨hnew.typeIs, F.args_dict_init_2 _ _, ?_⟩
  unfold Builtin.«dict.__init__»
  refine wpAny_bind ?_
  unfold Builtin.Dict.selfAndRest
  refine wpAny_bind (wpAny_notOrdered_dict hnew.typeIs ?_)
  show wpAny _ _ (pure (s.heap.objs.size, [Value.ref l])) _ _ _
  refine wpAny_pure ?_
  show wpAny _ _ (Builtin.Dict.updateFrom "dict.__init__" s.heap.objs.size (.ref l) [] .none) _ _ _
  unfold Builtin.Dict.updateFrom
  refine wpAny_bind (wpAny_typeOf (T := "list") ⟨_, hl1, rfl⟩ ?_)
  rw [if_pos (by decide)]
  refine wpAny_bind (nokeys hl1 hh fun h2 tk2 k2 => ?_)
  have hl2 := k2 _ _ hl1
  have hd2 : h2.DictOf knd s.heap.objs.size [] := let ⟨o, es, ep, ho, r⟩ := hnew; ⟨o, es, ep, k2 _ _ ho, r⟩
  have dlt : s.heap.objs.size < h2.objs.size := by obtain ⟨_, _, _, ho, _⟩ := hd2; exact Heap.lt_size ho
  simp only [Option.isNone_none, if_true]
  refine wpAny_bind (wpAny_rule ?_)
  have hL : Heap.IsList h2 l its := ⟨_, hl2, rfl, _, rfl⟩
  refine wpAny_bind (wpAny_pyIter_list (s := { s with heap := h2, toks := tk2 }) hL ?_)
  refine wpAny_pure ⟨plainId_quiet plain_dict_update_loop _, ?_⟩
  have hit : (h2.push { cls := .type "list_iterator", data := .fields #[.ref l, .int 0 0] }).IsListIter h2.objs.size l 0 := ⟨_, Heap.get?_push_size _ rfl, rfl, rfl⟩
  refine dict_loop (A := A.in1) (knd := knd) (more := more) hh hlen hsz (Nat.ne_of_lt llt) (Nat.ne_of_gt dlt) (Nat.ne_of_lt (Nat.lt_trans llt dlt)) its.size 0 0 { s with heap := h2.push { cls := .type "list_iterator", data := .fields #[.ref l, .int 0 0] }, toks := tk2 } [] rfl (Nat.zero_le _) (Nat.le_refl _) hit (hL.push _) (hd2.push _) ?_ ?_
  · intro j q hq
    obtain ⟨t, kv, a1, a2, a3⟩ := hp j q hq
    obtain ⟨o, e, r⟩ := a2
    exact ⟨t, kv, a1, ⟨o, Heap.get?_push_of_some _ (k2 _ _ (k1 _ _ e)), r⟩, a3⟩
  · intro h' tk hd' k'
    rw [List.drop_zero] at hd'
    refine ⟨rfl, h h' tk hd' fun b o q => k' b o (Nat.ne_of_lt (Heap.lt_size q)) (Nat.ne_of_lt (Heap.lt_size (k2 _ _ (k1 _ _ q)))) (Heap.get?_push_of_some _ (k2 _ _ (k1 _ _ q)))⟩
end
def PairAt (H : Hp) (v : V) (p : Key × V) : Prop := ∃ t, v = .ref t ∧ H t = some (.tup [kV p.1, p.2])
def rDictL (K : PySem.W.Frag) : List V → Hp → VK → Prop := fun vs H Q => ∃ l xs kvs, vs = [.ref l] ∧ H l = some (.lst xs) ∧ Paired (PairAt H) xs kvs ∧ xs.length ≤ 1000 ∧ (kvs.map (·.1)).Nodup ∧ ∀ d, H d = none → Q (.ref d) (upd H d (.dK kvs))
theorem pairs_vals {X : Cx} {pins : List (Addr × Obj)} {σ : St} {H : Hp} {s : Shared} (I : Inv X pins σ H s) : ∀ {xs : List V} {kvs : List (Key × V)} {its : List Value}, Paired (PairAt H) xs kvs → Vals xs its →
    ∃ more : List (Key × Value), KV kvs more ∧ ∀ (j : Nat) (q : Key × Value), more[j]? = some q → ∃ t kv, its[j]? = some (.ref t) ∧ s.heap.IsTuple t #[kv, q.2] ∧ (mixKind X.prog X.w).is q.1 kv = true
  | _, _, _, .nil, .nil => ⟨[], .nil, fun j q h => by simp at h⟩
  | _, _, _, .cons hp tp, .cons rv tr => by
    obtain ⟨more, hk, hm⟩ := pairs_vals I tp tr
    obtain ⟨t, rfl, ht⟩ := hp
    cases rv
    obtain ⟨_, its', rt, hi⟩ := I.hok t _ ht
    obtain ⟨u1, u2, rfl, r1, r2⟩ := rt.two
    refine ⟨(_, u2) :: more, .cons ⟨rfl, r2⟩ hk, fun j q h => ?_⟩
    cases j with
    | zero =>
      simp at h
      subst h
      exact ⟨t, u1, rfl, hi, kV_is r1⟩
    | succ j =>
      obtain ⟨t', kv, a1, a2, a3⟩ := hm j q (by simpa using h)
      exact ⟨t', kv, by simpa using a1, a2, a3⟩
theorem call_dictL {X : Cx} (hc : X.calm = true) : CallR X (.type "dict") (rDictL X.K) := by
  intro pins s σ H vs us Q I rv h
  obtain ⟨l, xs, kvs, rfl, hl, hp, hz, hn, q⟩ := h
  obtain ⟨u, rfl, ru⟩ := rv.one
  cases ru
  obtain ⟨z, its, n, r, hlen, e⟩ := I.lstM hl
  obtain ⟨more, hkv, hm⟩ := pairs_vals I hp r
  have hlm : kvs.length = more.length := Paired.length hkv
  have hlx : xs.length = kvs.length := Paired.length hp
  refine call_dict_list (knd := mixKind X.prog X.w) (more := more) (I.ok.hd hc) e (by rw [List.size_toArray]; omega) (by rw [List.size_toArray]; omega) (fun j q hj => ?_) fun h' tk dd k => ?_
  · obtain ⟨t, kv, a1, a2, a3⟩ := hm j q hj
    exact ⟨t, kv, by simpa using a1, a2, a3⟩
  · refine ⟨.ref s.heap.objs.size, upd H s.heap.objs.size (.dK kvs), I.laid k (Nat.le_refl _) ?_, rfl, q _ I.fresh⟩
    rw [merged_nil_of_nodup more (by rw [← hkv.keys]; exact hn)] at dd
    exact dk_new (by have := (by decide : 1000 ≤ sizeLine); omega) (by have := I.big; exact beq_false_of_ne (Nat.ne_of_gt this)) hkv dd
end L2
namespace L2
open PySem PySem.Spec PyProof.Rows
def rBools (f : List Bool → Bool) : List V → Hp → VK → Prop := fun vs H Q => ∃ l bs, vs = [.ref l] ∧ H l = some (.lst (bs.map V.bl)) ∧ Q (.bl (f bs)) H
theorem all_range {bs : List Bool} {tr : Nat → Bool} (h : ∀ i b, bs[i]? = some b → tr i = b) : (List.range bs.length).all tr = bs.all id := by
  rw [Bool.eq_iff_iff, List.all_eq_true, List.all_eq_true]
  constructor
  · intro q b hb
    obtain ⟨i, hi, e⟩ := List.mem_iff_getElem.mp hb
    have := q i (List.mem_range.mpr hi)
    rw [h i b (by rw [List.getElem?_eq_getElem hi, e])] at this
    exact this
  · intro q i hi
    have hi' := List.mem_range.mp hi
    rw [h i bs[i] (List.getElem?_eq_getElem hi')]
    exact q _ (List.getElem_mem hi')
theorem any_range {bs : List Bool} {tr : Nat → Bool} (h : ∀ i b, bs[i]? = some b → tr i = b) : (List.range bs.length).any tr = bs.any id := by
  rw [Bool.eq_iff_iff, List.any_eq_true, List.any_eq_true]
  constructor
  · rintro ⟨i, hi, q⟩
    have hi' := List.mem_range.mp hi
    rw [h i bs[i] (List.getElem?_eq_getElem hi')] at q
    exact ⟨_, List.getElem_mem hi', q⟩
  · rintro ⟨b, hb, q⟩
    obtain ⟨i, hi, e⟩ := List.mem_iff_getElem.mp hb
    exact ⟨i, List.mem_range.mpr hi, by rw [h i b (by rw [List.getElem?_eq_getElem hi, e])]; exact q⟩
theorem vals_bl : ∀ {bs : List Bool} {us : List Value}, Vals (bs.map V.bl) us → us = bs.map Value.bool
  | [], _, .nil => rfl
  | b :: r, _, .cons q t => by
    cases (show _ = Value.bool b from q)
    rw [vals_bl t]
    rfl
theorem call_all {X : Cx} (hc : X.calm = true) : CallR X (.builtin "all") (rBools fun bs => bs.all id) := by
  intro pins s σ H vs us Q I rv h
  obtain ⟨l, bs, rfl, hl, q⟩ := h
  obtain ⟨u, rfl, ru⟩ := rv.one
  cases ru
  obtain ⟨z, its, n, r, hlen, e⟩ := I.lstM hl
  have e2 := vals_bl r
  subst e2
  have llt : l < s.heap.objs.size := Heap.lt_size e
  have hL : s.heap.IsList l (bs.map Value.bool).toArray := ⟨_, e, rfl, _, rfl⟩
  refine call_all_walk (wpAny_pyIter_list hL ⟨s.heap.objs.size, [s.heap.objs.size, l], [s.heap.objs.size], _, _, _, fun i => bs[i]?.getD true, rfl, Walks.list (A := X.A.in1) (show X.A.in1.handled = none from I.ok.hd hc) s.heap.objs.size l (Nat.ne_of_lt llt) (bs.map Value.bool).toArray,
    (show Heap.IsListIter _ _ _ _ ∧ Heap.IsList _ _ _ from ⟨⟨_, Heap.get?_push_size _ rfl, rfl, rfl⟩, hL.push _⟩), fun i v s' Q' E' hv hq => ?_, fun h' tk k => ?_⟩)
  · have hv' : (bs.map Value.bool)[i]? = some v := by simpa using hv
    rw [List.getElem?_map] at hv'
    cases eb : bs[i]? with
    | none => rw [eb] at hv'; cases hv'
    | some b =>
      rw [eb] at hv'
      cases hv'
      have hq' : Q' b s' := by dsimp only at hq; rw [eb] at hq; exact hq
      exact wpAny_pure hq'
  · have ez : ((bs.map Value.bool).toArray).size = bs.length := by simp
    rw [ez, all_range (bs := bs) (tr := fun i => bs[i]?.getD true) (fun i b hb => by rw [hb]; rfl)]
    refine ⟨.bl _, H, I.kept fun b o qq => k b o ?_ (Heap.get?_push_of_some _ qq), rfl, q⟩
    intro hb
    have : b = s.heap.objs.size := by simpa using hb
    subst this
    exact absurd (Heap.lt_size qq) (Nat.lt_irrefl _)
theorem call_any {X : Cx} (hc : X.calm = true) : CallR X (.builtin "any") (rBools fun bs => bs.any id) := by
  intro pins s σ H vs us Q I rv h
  obtain ⟨l, bs, rfl, hl, q⟩ := h
  obtain ⟨u, rfl, ru⟩ := rv.one
  cases ru
  obtain ⟨z, its, n, r, hlen, e⟩ := I.lstM hl
  have e2 := vals_bl r
  subst e2
  have llt : l < s.heap.objs.size := Heap.lt_size e
  have hL : s.heap.IsList l (bs.map Value.bool).toArray := ⟨_, e, rfl, _, rfl⟩
  refine call_any_walk (wpAny_pyIter_list hL ⟨s.heap.objs.size, [s.heap.objs.size, l], [s.heap.objs.size], _, _, _, fun i => bs[i]?.getD true, rfl, Walks.list (A := X.A.in1) (show X.A.in1.handled = none from I.ok.hd hc) s.heap.objs.size l (Nat.ne_of_lt llt) (bs.map Value.bool).toArray,
    (show Heap.IsListIter _ _ _ _ ∧ Heap.IsList _ _ _ from ⟨⟨_, Heap.get?_push_size _ rfl, rfl, rfl⟩, hL.push _⟩), fun i v s' Q' E' hv hq => ?_, fun h' tk k => ?_⟩)
  · have hv' : (bs.map Value.bool)[i]? = some v := by simpa using hv
    rw [List.getElem?_map] at hv'
    cases eb : bs[i]? with
    | none => rw [eb] at hv'; cases hv'
    | some b =>
      rw [eb] at hv'
      cases hv'
      have hq' : Q' b s' := by dsimp only at hq; rw [eb] at hq; exact hq
      exact wpAny_pure hq'
  · have ez : ((bs.map Value.bool).toArray).size = bs.length := by simp
    rw [ez, any_range (bs := bs) (tr := fun i => bs[i]?.getD true) (fun i b hb => by rw [hb]; rfl)]
    refine ⟨.bl _, H, I.kept fun b o qq => k b o ?_ (Heap.get?_push_of_some _ qq), rfl, q⟩
    intro hb
    have : b = s.heap.objs.size := by simpa using hb
    subst this
    exact absurd (Heap.lt_size qq) (Nat.lt_irrefl _)
inductive Knd (H : Hp) : V → String → Prop where
  | non : Knd H .non "NoneType"
  | bl {x : Bool} : Knd H (.bl x) "bool"
  | int {i : Int} : Knd H (.int i) "int"
  | str {x : Str} : Knd H (.str x) "str"
  | lst {a : Addr} {xs : List V} (e : H a = some (.lst xs)) : Knd H (.ref a) "list"
  | tup {a : Addr} {xs : List V} (e : H a = some (.tup xs)) : Knd H (.ref a) "tuple"
  | dK {a : Addr} {kvs : List (Key × V)} (e : H a = some (.dK kvs)) : Knd H (.ref a) "dict"
theorem Knd.ty {K : PySem.W.Frag} {H : Hp} {v : V} {n : String} (h : Knd H v n) : TyOf K H v (.type n) := by
  cases h with
  | non => exact .non
  | bl => exact .bl _
  | int => exact .int _
  | str => exact .str _
  | lst e => exact .lst e
  | tup e => exact .tup e
  | dK e => exact .dK e
def isiK (a b : String) : Bool := a == b || (a == "bool" && b == "int")
def kinds : List String := ["NoneType", "bool", "int", "str", "list", "tuple", "dict"]
theorem kit_all {K : PySem.W.Frag} : ∀ a ∈ kinds, ∀ b ∈ kinds, PySem.W.kitOne K (.type a) (.type b) = some (isiK a b) := by
  intro a ha b hb
  have ha' : a = "NoneType" ∨ a = "bool" ∨ a = "int" ∨ a = "str" ∨ a = "list" ∨ a = "tuple" ∨ a = "dict" := by simpa [kinds] using ha
  have hb' : b = "NoneType" ∨ b = "bool" ∨ b = "int" ∨ b = "str" ∨ b = "list" ∨ b = "tuple" ∨ b = "dict" := by simpa [kinds] using hb
  rcases ha' with rfl | rfl | rfl | rfl | rfl | rfl | rfl <;> rcases hb' with rfl | rfl | rfl | rfl | rfl | rfl | rfl <;> rfl
def rIsi : List V → Hp → VK → Prop := fun vs H Q => ∃ x n T, vs = [x, .ty T] ∧ Knd H x n ∧ T ∈ kinds ∧ Q (.bl (isiK n T)) H
theorem Knd.mem {H : Hp} {v : V} {n : String} (h : Knd H v n) : n ∈ kinds := by cases h <;> simp [kinds]
theorem call_isi {X : Cx} : CallR X (.builtin "isinstance") rIsi := by
  intro pins s σ H vs us Q I rv h
  obtain ⟨x, n, T, rfl, hk, hT, q⟩ := h
  obtain ⟨u1, u2, rfl, r1, r2⟩ := rv.two
  cases (show u2 = Value.type T from r2)
  exact isinst_ok I r1 hk.ty (kit_all n hk.mem T hT) fun tk => ⟨.bl _, H, I.tok tk, rfl, q⟩
end L2
namespace L2
open PySem PySem.Spec PyProof.Rows
section
variable {X : Cx} {e a b c o i : Expr} {es : List Expr} {t t' ta tb tc td te : TE} {pos p p2 : Pos}
theorem PE.imp (h : PE X e t) (hi : ∀ σ H Q, t' σ H Q → t σ H Q) : PE X e t' := fun pins s σ H Q I q => h pins s σ H Q I (hi σ H Q q)
theorem PG.imp {t t' : TG} (h : PG X e t) (hi : ∀ v σ H Q, t' v σ H Q → t v σ H Q) : PG X e t' := fun pins s σ H v u Q I r q => h pins s σ H v u Q I r (hi v σ H Q q)
theorem PGs.imp {t t' : TGs} (h : PGs X es t) (hi : ∀ v σ H Q, t' v σ H Q → t v σ H Q) : PGs X es t' := fun pins s σ H v u Q I r q => h pins s σ H v u Q I r (hi v σ H Q q)
theorem OpR.imp {f : Value → Value → Sem Value} {r r' : R2} (h : OpR X f r) (hi : ∀ x y H Q, r' x y H Q → r x y H Q) : OpR X f r' := fun pins s σ H x y v u Q I rx ry q => h pins s σ H x y v u Q I rx ry (hi x y H Q q)
theorem CallR.imp {f : Value} {r r' : List V → Hp → VK → Prop} (h : CallR X f r) (hi : ∀ vs H Q, r' vs H Q → r vs H Q) : CallR X f r' := fun pins s σ H xs us Q I rv q => h pins s σ H xs us Q I rv (hi xs H Q q)
theorem IxR.imp {r r' : R2} (h : IxR X r) (hi : ∀ x y H Q, r' x y H Q → r x y H Q) : IxR X r' := fun value slice pins s σ H x y v u Q I rx ry q hs => h value slice pins s σ H x y v u Q I rx ry (hi x y H Q q) hs
theorem MtR.imp {id : String} {r r' : V → List V → Hp → VK → Prop} (h : MtR X id r) (hi : ∀ x vs H Q, r' x vs H Q → r x vs H Q) : MtR X id r' := fun pins s σ H x xs v us Q I rx rv q => h pins s σ H x xs v us Q I rx rv (hi x xs H Q q)
theorem PSet.imp {t t' : TSet} (h : PSet X t) (hi : ∀ o i v H Q, t' o i v H Q → t o i v H Q) : PSet X t' := fun pins s σ H o i v ov iv u Q I r1 r2 r3 q => h pins s σ H o i v ov iv u Q I r1 r2 r3 (hi o i v H Q q)
theorem SlR.imp {r r' : V → Option Int → Option Int → Hp → VK → Prop} (h : SlR X r) (hi : ∀ x l u H Q, r' x l u H Q → r x l u H Q) : SlR X r' := fun pins s σ H x v vl vu lo hi' sl Q I rx hs pl pu q => h pins s σ H x v vl vu lo hi' sl Q I rx hs pl pu (hi x lo hi' H Q q)
def fVar (i : Nat) : TE := fun σ H Q => match σ[i]? with
  | some (some v) => Q v H
  | _ => False
theorem qv (i : Nat) {x : Str} {pos : Pos} (hN : X.N[i]? = some x := by rfl) (hv : Vis X.env.scope x := by first | exact Or.inl rfl | exact Or.inr (Or.inl rfl) | exact Or.inr (Or.inr rfl)) (hd : (x == ("__debug__" : Str)) = false := by decide)
    (hcd : (x == ("__classdict__" : Str)) = false := by decide) : PE X (.Name x pos) (fVar i) := (pe_var hN hv hd hcd).imp fun σ H Q q => by
  unfold fVar at q
  split at q
  · rename_i v e; exact ⟨v, e, q⟩
  · exact q.elim
def fI (g : Int → Int → V) : R2 := fun x y H Q => match x, y with
  | .int i, .int j => Q (g i j) H
  | _, _ => False
def fIC (C : Int → Int → Prop) (g : Int → Int → V) : R2 := fun x y H Q => match x, y with
  | .int i, .int j => C i j ∧ Q (g i j) H
  | _, _ => False
theorem fI.r {g : Int → Int → V} {x y : V} {H : Hp} {Q : VK} (h : fI g x y H Q) : rI0 g x y H Q := by
  unfold fI at h
  split at h
  · exact ⟨_, _, rfl, rfl, h⟩
  · exact h.elim
theorem fIC.r {C : Int → Int → Prop} {g : Int → Int → V} {x y : V} {H : Hp} {Q : VK} (h : fIC C g x y H Q) : rI C g x y H Q := by
  unfold fIC at h
  split at h
  · exact ⟨_, _, rfl, rfl, h.1, h.2⟩
  · exact h.elim
theorem q_add : OpR X (binaryOp .Add) (fI fun i j => .int (i + j)) := op_add.imp fun _ _ _ _ => fI.r
theorem q_sub : OpR X (binaryOp .Sub) (fI fun i j => .int (i - j)) := op_sub.imp fun _ _ _ _ => fI.r
theorem q_mul : OpR X (binaryOp .Mult) (fIC CMul fun i j => .int (i * j)) := op_mul.imp fun _ _ _ _ => fIC.r
theorem q_mod : OpR X (binaryOp .Mod) (fIC (fun _ j => 0 < j) fun i j => .int (i % j)) := op_mod.imp fun _ _ _ _ => fIC.r
theorem q_fdiv : OpR X (binaryOp .FloorDiv) (fIC CDiv fun i j => .int (i / j)) := op_fdiv.imp fun _ _ _ _ => fIC.r
theorem q_pow : OpR X (binaryOp .Pow) (fIC CPow fun i j => .int (i ^ j.toNat)) := op_pow.imp fun _ _ _ _ => fIC.r
theorem q_lt : OpR X (compareOp .Lt) (fI fun i j => .bl (decide (i < j))) := op_lt.imp fun _ _ _ _ => fI.r
theorem q_le : OpR X (compareOp .LtE) (fI fun i j => .bl (decide (i ≤ j))) := op_le.imp fun _ _ _ _ => fI.r
theorem q_gt : OpR X (compareOp .Gt) (fI fun i j => .bl (decide (i > j))) := op_gt.imp fun _ _ _ _ => fI.r
theorem q_ge : OpR X (compareOp .GtE) (fI fun i j => .bl (decide (i ≥ j))) := op_ge.imp fun _ _ _ _ => fI.r
theorem q_iadd : PIp X .Add (fI fun i j => .int (i + j)) := fun pins s σ H x y v u Q I rx ry q => iop_add pins s σ H x y v u Q I rx ry q.r
def fNeg : V → Hp → VK → Prop := fun x H Q => match x with
  | .int i => Q (.int (-i)) H
  | _ => False
theorem q_neg : UnR X (unaryOp .USub) fNeg := fun pins s σ H x v Q I rx q => by
  cases x <;> first
    | exact False.elim q
    | exact un_neg pins s σ H _ v Q I rx ⟨_, rfl, q⟩
def fEq : R2 := fun x y H Q => match x, y with
  | .int i, .int j => Q (.bl (decide (i = j))) H
  | .bl i, .bl j => Q (.bl (decide (i = j))) H
  | .str i, .str j => Q (.bl (decide (i = j))) H
  | _, _ => False
def fNe : R2 := fun x y H Q => match x, y with
  | .int i, .int j => Q (.bl (!decide (i = j))) H
  | .bl i, .bl j => Q (.bl (!decide (i = j))) H
  | .str i, .str j => Q (.bl (!decide (i = j))) H
  | _, _ => False
theorem dI (i j : Int) : decide (V.int i = V.int j) = decide (i = j) := by simp
theorem dB (i j : Bool) : decide (V.bl i = V.bl j) = decide (i = j) := by simp
theorem dS (i j : Str) : decide (V.str i = V.str j) = decide (i = j) := by simp
theorem q_eq : OpR X (compareOp .Eq) fEq := op_eq.imp fun x y H Q h => by
  unfold fEq at h
  split at h
  · exact ⟨rfl, by rw [dI]; exact h⟩
  · exact ⟨rfl, by rw [dB]; exact h⟩
  · exact ⟨rfl, by rw [dS]; exact h⟩
  · exact h.elim
theorem q_ne : OpR X (compareOp .NotEq) fNe := op_ne.imp fun x y H Q h => by
  unfold fNe at h
  split at h
  · exact ⟨rfl, by rw [dI]; exact h⟩
  · exact ⟨rfl, by rw [dB]; exact h⟩
  · exact ⟨rfl, by rw [dS]; exact h⟩
  · exact h.elim
def isNon : V → Bool
  | .non => true
  | _ => false
def fIsN (f : Bool → Bool) : R2 := fun x y H Q => match y with
  | .non => Q (.bl (f (isNon x))) H
  | _ => False
theorem dN (x : V) : decide (x = V.non) = isNon x := by cases x <;> simp [isNon]
theorem q_isN : OpR X (compareOp .Is) (fIsN id) := op_isN.imp fun x y H Q h => by
  unfold fIsN at h
  split at h
  · exact ⟨rfl, by rw [dN]; exact h⟩
  · exact h.elim
theorem q_notN : OpR X (compareOp .IsNot) (fIsN not) := op_notN.imp fun x y H Q h => by
  unfold fIsN at h
  split at h
  · exact ⟨rfl, by rw [dN]; exact h⟩
  · exact h.elim
def fAnd (ta tb : TE) : TE := fun σ H Q => ta σ H fun x H1 => match x with
  | .bl c => if c = true then tb σ H1 Q else Q (.bl false) H1
  | _ => False
def fOr (ta tb : TE) : TE := fun σ H Q => ta σ H fun x H1 => match x with
  | .bl c => if c = true then Q (.bl true) H1 else tb σ H1 Q
  | _ => False
def fNot (ta : TE) : TE := fun σ H Q => ta σ H fun x H1 => match x with
  | .bl c => Q (.bl (!c)) H1
  | _ => False
def fB (t : TE) : TT := fun σ H Q => t σ H fun x H1 => match x with
  | .bl c => Q c H1
  | _ => False
variable {rest : List Expr}
theorem q_and (ha : PE X a ta) (hb : PE X (.BoolOp .And (b :: rest) pos) tb) : PE X (.BoolOp .And (a :: b :: rest) pos) (fAnd ta tb) := by
  intro pins s σ H Q I h
  refine BoolOp_and (thn (ha pins s σ H _ I h) fun v s1 ⟨x, H1, I1, r1, q1⟩ => ?_)
  cases x <;> first
    | exact False.elim q1
    | (rename_i c
       cases r1
       refine wpAny_truthy_bool ?_
       cases c with
       | true => exact hb pins s1 σ H1 Q I1 q1
       | false => exact ⟨.bl false, H1, I1, rfl, q1⟩)
theorem q_not (ha : PE X a ta) : PE X (.UnaryOp .Not a pos) (fNot ta) := by
  intro pins s σ H Q I h
  refine UnaryOp_ (thn (ha pins s σ H _ I h) fun v s1 ⟨x, H1, I1, r1, q1⟩ => ?_)
  cases x <;> first
    | exact False.elim q1
    | (rename_i c
       cases r1
       exact not_of (wpAny_truthy_bool ⟨.bl (!c), H1, I1, rfl, q1⟩))
theorem qt_val {t : TE} (h : PE X e t) (he : ∀ whole, isTrue e X.env whole = (do let v ← whole; standAt e.pos; holding [v] (truthy v)) := by intro _; rfl) : PT X e (fB t) := by
  intro pins s σ H Q I hw
  refine isTrue_plain (thn (h pins s σ H _ I hw) fun v s1 ⟨x, H1, I1, r1, q1⟩ => ?_) (he _)
  cases x <;> first
    | exact False.elim q1
    | (cases r1
       exact wpAny_truthy_bool ⟨H1, I1, q1⟩)
theorem qt_cmp {op : CmpOp} {r : R2} (ho : OpR X (compareOp op) r) (ha : PE X a ta) (hb : PE X b tb) (hm : behindInMarks op b = false) : PT X (.Compare a [op] [b] pos) (fB (tOp r ta tb)) := by
  intro pins s σ H Q I h
  refine wpAny_isTrue_Compare1 (thn (ha pins s σ H _ I h) fun v s1 ⟨x, H1, I1, r1, q1⟩ => thn (hb pins s1 σ H1 _ I1 q1) fun u s2 ⟨y, H2, I2, r2, q2⟩ =>
    thn (ho pins s2 σ H2 x y v u _ I2 r1 r2 q2) fun c s3 ⟨z, H3, I3, r3, q3⟩ => ?_) hm
  cases z <;> first
    | exact False.elim q3
    | (cases r3
       exact wpAny_truthy_bool ⟨H3, I3, q3⟩)
def fChain (r r' : R2) (ta tb tc : TE) : TE := fun σ H Q => ta σ H fun x H1 => tb σ H1 fun y H2 => r x y H2 fun z H3 => match z with
  | .bl k => (if k = true then tc σ H3 fun w' H4 => r' y w' H4 Q else Q (.bl false) H3)
  | _ => False
theorem q_chain {op op' : CmpOp} {g : Int → Int → Bool} {r' : R2} (ho : OpR X (compareOp op) (fI fun i j => .bl (g i j))) (ho' : OpR X (compareOp op') r') (ha : PE X a ta) (hb : PE X b tb) (hc : PE X c tc)
    (hm : lastMarks [op, op'] [b, c] = false := by with_unfolding_all rfl) : PE X (.Compare a [op, op'] [b, c] pos) (fChain (fI fun i j => .bl (g i j)) r' ta tb tc) := by
  intro pins s σ H Q I h
  refine Compare_chain (thn (ha pins s σ H _ I h) fun v s1 ⟨x, H1, I1, r1, q1⟩ => chain_link (thn (hb pins s1 σ H1 _ I1 q1) fun u s2 ⟨y, H2, I2, r2, q2⟩ =>
    thn (ho pins s2 σ H2 x y v u (fun z H3 => ∃ k, z = .bl k ∧ (if k = true then tc σ H3 fun w' H4 => r' y w' H4 Q else Q (.bl false) H3)) I2 r1 r2 ?_) fun d s3 ⟨z, H3, I3, r3, k, e, q3⟩ => ?_)) hm
  · dsimp only at q2
    unfold fI at q2 ⊢
    cases x <;> cases y <;> first
      | exact q2.elim
      | exact ⟨_, rfl, q2⟩
  · subst e
    cases r3
    refine wpAny_truthy_bool ?_
    cases k with
    | false => exact ite_ff ⟨.bl false, H3, I3, rfl, q3⟩
    | true => exact ite_tt (chain_last (thn (hc pins s3 σ H3 _ I3 q3) fun w' s4 ⟨z', H4, I4, r4, q4⟩ => ho' pins s4 σ H4 y z' u w' Q I4 r2 r4 q4))
def seqOf (H : Hp) (p : Addr) : Option (List V) := match H p with
  | some (.lst xs) => some xs
  | some (.tup xs) => some xs
  | some (.frz _ (.lst xs)) => some xs
  | _ => none
theorem seqOf_or {K : PySem.W.Frag} {H : Hp} {p : Addr} {xs : List V} (h : seqOf H p = some xs) : SqL K H p xs ∨ SqT K H p xs := by
  unfold seqOf at h
  split at h
  · rename_i ys e; cases h; exact .inl (.inl (.inl e))
  · rename_i ys e; cases h; exact .inr (SqT.of e)
  · rename_i o ys e; cases h; exact .inl (.inl (.inr ⟨_, e⟩))
  · cases h
def fIx : R2 := fun x y H Q => match x, y with
  | .ref p, .int i => match seqOf H p with
    | some xs => match atI xs i with
      | some v => Q v H
      | none => False
    | none => False
  | _, _ => False
theorem q_ix : IxR X fIx := (ix_list.or ix_tup).imp fun x y H Q h => by
  unfold fIx at h
  split at h
  · split at h
    · rename_i xs e
      split at h
      · rename_i v ev
        rcases seqOf_or (K := X.K) e with z | z
        · exact .inl ⟨_, _, _, _, rfl, rfl, z, ev, h⟩
        · exact .inr ⟨_, _, _, _, rfl, rfl, z, ev, h⟩
      · exact h.elim
    · exact h.elim
  · exact h.elim
def fLen : List V → Hp → VK → Prop := fun vs H Q => match vs with
  | [.ref p] => match seqOf H p with
    | some xs => Q (.int xs.length) H
    | none => False
  | _ => False
theorem q_len : CallR X (.builtin "len") fLen := call_len_seq.imp fun vs H Q h => by
  unfold fLen at h
  split at h
  · split at h
    · rename_i xs e; exact ⟨_, xs, rfl, seqOf_or e, h⟩
    · exact h.elim
  · exact h.elim
def fListOf : List V → Hp → VK → Prop := fun vs H Q => match vs with
  | [.ref p] => match seqOf H p with
    | some xs => ∀ l, H l = none → Q (.ref l) (upd H l (.lst xs))
    | none => False
  | _ => False
def fMin : List V → Hp → VK → Prop := fun vs H Q => match vs with
  | [.int i, .int j] => Q (.int (if j < i then j else i)) H
  | _ => False
theorem q_min (hc : X.calm = true) : CallR X (.builtin "min") fMin := (call_min2 hc).imp fun vs H Q h => by
  unfold fMin at h
  split at h
  · exact ⟨_, _, rfl, h⟩
  · exact h.elim
def fSlL : V → Option Int → Option Int → Hp → VK → Prop := fun x lo hi H Q => match x with
  | .ref a => match H a with
    | some (.lst xs) => ∀ p, H p = none → Q (.ref p) (upd H p (.lst (cutV xs lo hi)))
    | _ => False
  | _ => False
theorem q_slL : SlR X fSlL := sl_list.imp fun x l u H Q h => by
  unfold fSlL at h
  split at h
  · split at h
    · rename_i xs e; exact ⟨_, xs, rfl, SqL.of e, h⟩
    · exact h.elim
  · exact h.elim
def fAppend : V → List V → Hp → VK → Prop := fun x vs H Q => match x, vs with
  | .ref l, [y] => match H l with
    | some (.lst xs) => xs.length < sizeLine ∧ Q .non (upd H l (.lst (xs ++ [y])))
    | _ => False
  | _, _ => False
theorem q_append : MtR X "list.append" fAppend := MtR.imp (r := rAppend) (fun pins s σ H x xs v us Q I rx rv q => mt_append pins s σ H x xs v us Q I rx rv q) fun x vs H Q h => by
  unfold fAppend at h
  split at h
  · split at h
    · rename_i xs e; exact ⟨_, xs, _, rfl, rfl, e, h.1, h.2⟩
    · exact h.elim
  · exact h.elim
def fBM (r : V → List V → Hp → VK → Prop) (to : TE) (t : TA) : TE := fun σ H Q => to σ H fun x H1 => (∃ a xs, x = .ref a ∧ H1 a = some (.lst xs)) ∧ t σ H1 fun xs H2 => r x xs H2 Q
def fSetL : TSet := fun o i v H Q => match o, i with
  | .ref p, .int k => match H p with
    | some (.lst xs) => match ixN xs.length k with
      | some j => Q (upd H p (.lst (xs.set j v)))
      | none => False
    | _ => False
  | _, _ => False
theorem q_setL : PSet X fSetL := set_list.imp fun o i v H Q h => by
  unfold fSetL at h
  split at h
  · split at h
    · rename_i xs e
      split at h
      · rename_i j ej; exact ⟨_, xs, _, j, rfl, rfl, e, ej, h⟩
      · exact h.elim
    · exact h.elim
  · exact h.elim
def fGNil : TGs := fun vs σ H Q => match vs with
  | [] => Q σ H
  | _ => False
def fGCons (t : TG) (u : TGs) : TGs := fun vs σ H Q => match vs with
  | v :: r => t v σ H fun σ' H' => u r σ' H' Q
  | [] => False
theorem qgs_nil : PGs X [] fGNil := pgs_nil.imp fun v σ H Q h => by
  unfold fGNil at h
  split at h
  · exact ⟨rfl, h⟩
  · exact h.elim
theorem qgs_cons {t : TG} {u : TGs} (h1 : PG X e t) (h2 : PGs X es u) (hs : (assignEach (e :: es) X.env).map (·.2) = assign e X.env :: (assignEach es X.env).map (·.2) := by rfl) : PGs X (e :: es) (fGCons t u) := (pgs_cons h1 h2 hs).imp fun v σ H Q h => by
  unfold fGCons at h
  split at h
  · exact ⟨_, _, rfl, h⟩
  · exact h.elim
def fGTup (n : Nat) (t : TGs) : TG := fun v σ H Q => match v with
  | .ref a => match H a with
    | some (.tup xs) => xs.length = n ∧ t xs σ H Q
    | _ => False
  | _ => False
theorem qg_tup {k : Nat} {t : TGs} {n : Nat} (hc : X.calm = true) (h : PGs X es t) (hn : (assignEach es X.env).length = n := by rfl) (hst : (assignEach es X.env).findIdx? (·.1) = none := by rfl) : PG X (.Tuple es k pos) (fGTup n t) :=
  (pg_tup hc h hn hst).imp fun v σ H Q q => by
    unfold fGTup at q
    split at q
    · split at q
      · rename_i xs e; exact ⟨_, xs, rfl, SqT.of e, q.1, q.2⟩
      · exact q.elim
    · exact q.elim
def fDIn (f : Bool → Bool) (ty td : TE) : TE := fun σ H Q => ty σ H fun y H1 => td σ H1 fun x H2 => match y, x with
  | .int n, .ref a => match H2 a with
    | some (.dK kvs) => Q (.bl (f (valV kvs (Sum.inl n : Key)).isSome)) H2
    | _ => False
  | _, _ => False
def fDGet (td ty : TE) : TE := fun σ H Q => td σ H fun x H1 => ty σ H1 fun y H2 => match x, y with
  | .ref a, .int n => match H2 a with
    | some (.dK kvs) => match valV kvs (Sum.inl n : Key) with
      | some v => Q v H2
      | none => False
    | _ => False
  | _, _ => False
end
section
variable {X : Cx} {o i : Expr} {td ty : TE} {pos : Pos}
theorem fDIn_r {f : Bool → Bool} {H2 : Hp} {Q : VK} {y x : V} (h : (match y, x with
  | .int n, .ref a => match H2 a with
    | some (.dK kvs) => Q (.bl (f (valV kvs (Sum.inl n : Key)).isSome)) H2
    | _ => False
  | _, _ => False)) : ∃ a ov, x = .ref a ∧ DGet H2 a y ov ∧ Q (.bl (f ov.isSome)) H2 := by
  cases y <;> cases x <;> first
    | exact h.elim
    | (rename_i n a
       dsimp only at h
       split at h
       · rename_i kvs e; exact ⟨a, _, rfl, DGet.k (k := Sum.inl n) e, h⟩
       · exact h.elim)
theorem q_din (hu : X.A.units + 1 < cLine) (hi : PE X i ty) (ho : PE X o td) : PC X .In i o (fDIn id ty td) := by
  intro pins s σ H Q I h
  refine thn (hi pins s σ H _ I h) fun iv s1 ⟨y, H1, I1, ry, q1⟩ => thn (ho pins s1 σ H1 _ I1 q1) fun u s2 ⟨x, H2, I2, rx, q2⟩ => ?_
  obtain ⟨a, ov, ex, g, q3⟩ := fDIn_r q2
  subst ex
  obtain rfl : u = Value.ref a := rx
  exact d_in hu I2 g ry fun s' I3 => ⟨.bl ov.isSome, H2, I3, rfl, q3⟩
theorem q_dget (hu : X.A.units + 1 < cLine) (ho : PE X o td) (hi : PE X i ty) (hs : NoSl i) : PE X (.Subscript o i pos) (fDGet td ty) := by
  intro pins s σ H Q I h
  refine subD_of PySem.F.slot_dict_getitem.lookup hs (thn (ho pins s σ H _ I h) fun u s1 ⟨x, H1, I1, rx, q1⟩ => thn (hi pins s1 σ H1 _ I1 q1) fun iv s2 ⟨y, H2, I2, ry, q2⟩ => ?_)
  cases x <;> cases y <;> first
    | exact False.elim q2
    | (dsimp only at q2
       split at q2
       · rename_i kvs e
         split at q2
         · rename_i v ev
           cases rx
           have g : ∀ {a : Addr} {n : Int}, H2 a = some (.dK kvs) → valV kvs (Sum.inl n : Key) = some v → DGet H2 a (.int n) (some v) := fun e1 e2 => e2 ▸ DGet.k (k := Sum.inl _) e1
           have g := g e ev
           exact ⟨dict_typeIs I2 g, d_getItem hu I2 g ry fun w' s3 I3 rw' => ⟨v, H2, I3, rw', q2⟩⟩
         · exact q2.elim
       · exact q2.elim)
theorem q_bm {e : Expr} {es : List Expr} {to : TE} {t : TA} {name : Str} {apos cpos : Pos} {id : String} {r : V → List V → Hp → VK → Prop} (pa : PlainAttrs "list") (slot : Slot "list" name id) (hty : typeOf (.builtin id) = pure (.type "method_descriptor")) (hm : MtR X id r) (ho : PE X o to) (ha : PA X (e :: es) t)
    (hbase : attributeBase o name X.env (eval o X.env) = eval o X.env := by rfl)
    (hfew : ((backTo cpos (starEach (e :: es) X.env)).all (fun x => !x.1) && (backToKw cpos (keywordEach [] X.env)).all (fun x => x.1.isSome)
      && decide ((e :: es).length + ([] : List Keyword).length + (if ([] : List Keyword).isEmpty then 0 else 1) < 30)) = true := by rfl)
    (hline : (apos.endLine == cpos.line) = true := by rfl) (hs : starEach (e :: es) X.env = (false, eval e X.env) :: starEach es X.env := by rfl) (hplain : (backTo cpos (starEach es X.env)).any (·.1) = false := by rfl) :
    PE X (.Call (.Attribute o name apos) (e :: es) [] cpos) (fBM r to t) := by
  intro pins s σ H Q I h
  refine wpAny_Call_method_late hbase hfew hline rfl (thn (ho pins s σ H _ I h) fun v s1 ⟨x, H1, I1, r1, ⟨a, xs, ex, ea⟩, q1⟩ => ?_)
  subst ex
  obtain ⟨h1, h2⟩ := tyV_is (T := "list") I1 r1 (.inl ⟨rfl, _, SqL.of ea⟩)
  refine ⟨"list", id, pa, slot, hty, h1, h2, ?_⟩
  have hA := ha cpos pins s1 σ H1 _ I1 q1
  rw [hs] at hA ⊢
  refine Calls.callWith_builtin (by show (false || (backTo cpos (starEach es X.env)).any (·.1)) = false; rw [hplain] <;> rfl) (Calls.evalArgs_plain ?_)
  exact thn hA fun us s2 ⟨vs, H2, I2, r2, q2⟩ => hm pins s2 σ H2 _ vs v us Q I2 r1 r2 q2
end
inductive Kd where
  | non | bl | int | str | lst | tup | dct
  deriving DecidableEq
def Kd.nm : Kd → String
  | .non => "NoneType"
  | .bl => "bool"
  | .int => "int"
  | .str => "str"
  | .lst => "list"
  | .tup => "tuple"
  | .dct => "dict"
def kd (H : Hp) (v : V) : Option Kd := match v with
  | .non => some .non
  | .bl _ => some .bl
  | .int _ => some .int
  | .str _ => some .str
  | .ref a => match H a with
    | some (.lst _) => some .lst
    | some (.tup _) => some .tup
    | some (.dK _) => some .dct
    | _ => none
  | _ => none
def isi (a b : Kd) : Bool := match a, b with
  | .bl, .int => true
  | .non, .non => true
  | .bl, .bl => true
  | .int, .int => true
  | .str, .str => true
  | .lst, .lst => true
  | .tup, .tup => true
  | .dct, .dct => true
  | _, _ => false
theorem kd_knd {H : Hp} {v : V} {k : Kd} (h : kd H v = some k) : Knd H v k.nm := by
  unfold kd at h
  split at h
  · cases h; exact .non
  · cases h; exact .bl
  · cases h; exact .int
  · cases h; exact .str
  · split at h
    · rename_i e; cases h; exact .lst e
    · rename_i e; cases h; exact .tup e
    · rename_i e; cases h; exact .dK e
    · cases h
  · cases h
theorem isi_K (a b : Kd) : isiK a.nm b.nm = isi a b := by cases a <;> cases b <;> rfl
theorem Kd.mem (b : Kd) : b.nm ∈ kinds := by cases b <;> simp [kinds, Kd.nm]
def fIsi (T : Kd) : List V → Hp → VK → Prop := fun vs H Q => match vs with
  | [x, y] => y = .ty T.nm ∧ match kd H x with
    | some k => Q (.bl (isi k T)) H
    | none => False
  | _ => False
theorem q_isi {X : Cx} (T : Kd) : CallR X (.builtin "isinstance") (fIsi T) := call_isi.imp fun vs H Q h => by
  unfold fIsi at h
  split at h
  · obtain ⟨rfl, h⟩ := h
    split at h
    · rename_i k e
      exact ⟨_, _, _, rfl, kd_knd e, Kd.mem T, by rw [isi_K]; exact h⟩
    · exact h.elim
  · exact h.elim
def fAug (i : Nat) (te : TE) (ti : TIp) : TS := fun D σ H => match σ[i]? with
  | some (some x) => te σ H fun y H1 => ti x y H1 fun z H2 => D.nx (σ.set i (some z)) H2
  | _ => False
theorem qs_aug {X : Cx} {pos : Pos} {i : Nat} {x : Str} {e : Expr} {te : TE} {op : Operator} {ti : TIp} {pos' : Pos} (hN : X.N.Nodup) (hi : X.N[i]? = some x) (hx : Loc X.env.scope x) (he : PE X e te) (ho : PIp X op ti) (hf : X.fn x = true ∨ X.env.scope.names.lookup x = some .local := by first | exact .inl rfl | exact .inr rfl | assumption) :
    PS X (.AugAssign (.Name x pos') op e pos) (fAug i te ti) := fun pins s σ H D I h => ps_aug hN hi hx he ho hf pins s σ H D I (by
  unfold fAug at h
  split at h
  · rename_i x e; exact ⟨x, e, h⟩
  · exact h.elim)
def fPart (t : TE) : TO := fun σ H Q => t σ H fun x H1 => match x with
  | .int i => Q (some i) H1
  | _ => False
theorem qo_some {X : Cx} {e : Expr} {te : TE} (h : PE X e te) : PO X (some e) (fPart te) := by
  intro pins s σ H Q I hw
  rw [evalPart_some]
  refine thn (h pins s σ H _ I hw) fun u s1 ⟨x, H1, I1, r1, q1⟩ => ?_
  cases x <;> first
    | exact False.elim q1
    | (obtain ⟨t, rfl⟩ := r1
       exact ⟨some _, H1, I1, .int _ t, q1⟩)
def fBools (f : List Bool → Bool) : List V → Hp → VK → Prop := fun vs H Q => match vs with
  | [.ref l] => match H l with
    | some (.lst xs) => ∃ bs : List Bool, xs = bs.map V.bl ∧ Q (.bl (f bs)) H
    | _ => False
  | _ => False
theorem fBools_r {f : List Bool → Bool} {vs : List V} {H : Hp} {Q : VK} (h : fBools f vs H Q) : rBools f vs H Q := by
  unfold fBools at h
  split at h
  · split at h
    · rename_i xs e
      obtain ⟨bs, rfl, h⟩ := h
      exact ⟨_, bs, rfl, e, h⟩
    · exact h.elim
  · exact h.elim
theorem q_all {X : Cx} (hc : X.calm = true) : CallR X (.builtin "all") (fBools fun bs => bs.all id) := (call_all hc).imp fun _ _ _ => fBools_r
theorem q_any {X : Cx} (hc : X.calm = true) : CallR X (.builtin "any") (fBools fun bs => bs.any id) := (call_any hc).imp fun _ _ _ => fBools_r
def fDictL : List V → Hp → VK → Prop := fun vs H Q => match vs with
  | [.ref l] => match H l with
    | some (.lst xs) => ∃ kvs : List (Key × V), Paired (PairAt H) xs kvs ∧ xs.length ≤ 1000 ∧ (kvs.map (·.1)).Nodup ∧ ∀ d, H d = none → Q (.ref d) (upd H d (.dK kvs))
    | _ => False
  | _ => False
theorem q_dictL {X : Cx} (hc : X.calm = true) : CallR X (.type "dict") fDictL := (call_dictL hc).imp fun vs H Q h => by
  unfold fDictL at h
  split at h
  · split at h
    · rename_i xs e
      obtain ⟨kvs, h1, h2, h3, h4⟩ := h
      exact ⟨_, xs, kvs, rfl, e, h1, h2, h3, h4⟩
    · exact h.elim
  · exact h.elim
def fLtT : R2 := fun x y H Q => match x, y with
  | .ref a, .ref b => match H a, H b with
    | some (.tup [.int i, .int j]), some (.tup [.int k, .int l]) => Q (.bl (HT.lexLt [i, j] [k, l])) H
    | _, _ => False
  | _, _ => False
theorem q_ltT {X : Cx} (hu : X.A.units < cLine) : OpR X (compareOp .Lt) fLtT := (op_ltT hu).imp fun x y H Q h => by
  unfold fLtT at h
  split at h
  · split at h
    · rename_i a b _ _ i j k l e1 e2
      exact ⟨a, b, [i, j], [k, l], rfl, rfl, SqT.of e1, SqT.of e2, h⟩
    · exact h.elim
  · exact h.elim
def capB (XN : List Str) (names : List (Str × NameKind)) : List Str → List (Option Nat) → Bool
  | [], [] => true
  | x :: N, none :: r => capB XN names N r
  | x :: N, some j :: r => (XN[j]? == some x) && (names.lookup x == some .free) && capB XN names N r
  | _, _ => false
theorem capB_ok {XN : List Str} {names : List (Str × NameKind)} : ∀ {N : List Str} {src : List (Option Nat)}, capB XN names N src = true → src.length = N.length ∧ ∀ (i j : Nat), src[i]? = some (some j) → XN[j]? = N[i]? ∧ (N[i]?).elim False (fun x => names.lookup x = some .free)
  | [], [], _ => ⟨rfl, fun i j e => by simp at e⟩
  | x :: N, none :: r, h => by
    obtain ⟨h1, h2⟩ := capB_ok (N := N) (src := r) h
    refine ⟨by simp [h1], fun i j e => ?_⟩
    cases i with
    | zero => simp at e
    | succ i => exact h2 i j (by simpa using e)
  | x :: N, some k :: r, h => by
    have h' : ((XN[k]? == some x) && (names.lookup x == some .free) && capB XN names N r) = true := h
    rw [Bool.and_eq_true, Bool.and_eq_true] at h'
    obtain ⟨h1, h2⟩ := capB_ok (N := N) (src := r) h'.2
    refine ⟨by simp [h1], fun i j e => ?_⟩
    cases i with
    | zero =>
      have e' : k = j := by simpa using e
      subst e'
      exact ⟨by simpa using h'.1.1, by simpa using h'.1.2⟩
    | succ i => exact h2 i j (by simpa using e)
def nodupB : List Str → Bool
  | [] => true
  | x :: r => !(r.contains x) && nodupB r
theorem nodupB_ok : ∀ {l : List Str}, nodupB l = true → l.Nodup
  | [], _ => List.nodup_nil
  | x :: r, h => by
    have h' : (!(r.contains x) && nodupB r) = true := h
    rw [Bool.and_eq_true] at h'
    exact List.nodup_cons.mpr ⟨by simpa using h'.1, nodupB_ok h'.2⟩
def cpB (XN : List Str) (outer : List (Str × NameKind)) (scope : Scope) (N : List Str) (src : List (Option Nat)) : Bool :=
  (scope.kind == .function) && scope.names.all (fun y => y.2 != .cell) && scope.names.all (fun y => y.2 != .local || scope.names.lookup y.1 == some .local) &&
    scope.names.all (fun y => y.2 != .free || (scope.names.lookup y.1 == some .free && outer.lookup y.1 == some .cell)) && nodupB N && capB XN scope.names N src
theorem CpScope.of {X : Cx} {scope : Scope} {N : List Str} {src : List (Option Nat)} (h : cpB X.N X.env.scope.names scope N src = true) : CpScope X scope N src := by
  unfold cpB at h
  simp only [Bool.and_eq_true] at h
  obtain ⟨⟨⟨⟨⟨h1, h2⟩, h3⟩, h4⟩, h5⟩, h6⟩ := h
  rw [List.all_eq_true] at h2 h3 h4
  obtain ⟨l, c⟩ := capB_ok h6
  refine ⟨by simpa using h1, fun y hy => by simpa using h2 y hy, fun y hy e => ?_, fun y hy e => ?_, nodupB_ok h5, l, c⟩
  · have := h3 y hy
    rw [e] at this
    simpa using this
  · have := h4 y hy
    rw [e] at this
    simpa using this
end L2
namespace L2
open PySem PySem.Spec PyProof.Rows
theorem for_enum {K : PySem.W.Frag} {a : Addr} {xs : List V} {g : TG} {tb : TS} {D : Ends} {σ : St} {H : Hp} (Pv : Nat → St → Hp → Prop) (h0 : Pv 0 σ H) (hl : ∀ i σ H, i ≤ xs.length → Pv i σ H → SqL K H a xs)
    (hs : ∀ i x σ H t, xs[i]? = some x → Pv i σ H → H t = none → g (.ref t) σ (upd H t (.tup [.int i, x])) fun σ2 H2 => tb { D with nx := Pv (i + 1), ct := Pv (i + 1), bk := D.nx } σ2 H2) (hd : ∀ σ H, Pv xs.length σ H → D.nx σ H) :
    ∃ W : Nat → Nat → St → Hp → Prop, (∃ m, W 0 m σ H) ∧ ∀ i m σ H, W i m σ H →
      ((Ite K a).stop i H ∧ D.nx σ H) ∨ ((Ite K a).go i H ∧ ∃ N : St → Hp → Prop, (∀ σ' H', N σ' H' → ∃ m', m' < m ∧ W (i + 1) m' σ' H') ∧ ∀ x H', (Ite K a).yld i H x H' → g x σ H' fun σ2 H2 => tb { D with nx := N, ct := N, bk := D.nx } σ2 H2) := by
  refine ⟨fun i m σ H => m = xs.length - i ∧ i ≤ xs.length ∧ Pv i σ H, ⟨xs.length, by simp, Nat.zero_le _, h0⟩, ?_⟩
  rintro i m σ H ⟨rfl, hi, p⟩
  have q := hl i σ H hi p
  by_cases hlt : i < xs.length
  · refine .inr ⟨⟨xs, xs[i], q, by simp [hlt]⟩, Pv (i + 1), fun σ' H' p' => ⟨xs.length - (i + 1), by omega, rfl, hlt, p'⟩, fun x H' y => ?_⟩
    obtain ⟨t, z, ht, e1, e2, y⟩ := y
    subst e1 e2
    exact hs i z σ _ t (y xs q) p ht
  · have e : i = xs.length := by omega
    subst e
    exact .inl ⟨⟨xs, q, Nat.le_refl _⟩, hd σ H p⟩
theorem tFor_hide {wi : TI} {g : TG} {tb : TS} {D : Ends} {σ : St} {H : Hp} (J : It) (H1 : Hp) (h1 : ∀ R : It → Hp → Prop, R J H1 → wi σ H R)
    (h2 : ∃ W : Nat → Nat → St → Hp → Prop, (∃ m, W 0 m σ H1) ∧ ∀ i m σ H, W i m σ H → (J.stop i H ∧ D.nx σ H) ∨ (J.go i H ∧ ∃ N : St → Hp → Prop, (∀ σ' H', N σ' H' → ∃ m', m' < m ∧ W (i + 1) m' σ' H') ∧ ∀ x H', J.yld i H x H' → g x σ H' fun σ2 H2 => tb { D with nx := N, ct := N, bk := D.nx } σ2 H2)) :
    tFor wi g tb D σ H := h1 _ h2
theorem tComp_hide {src : List (Option Nat)} {wi : TI} {g : TG} {tc : TT} {te : TE} {Q : VK} {σ : St} {H : Hp} (J : It) (H1 : Hp) (h1 : ∀ R : It → Hp → Prop, R J H1 → wi σ H R) (h2 : ∀ l, H1 l = none → CWant J src g tc te Q σ H1 l) : tComp src wi g tc te σ H Q := h1 _ h2
theorem same_new {H : Hp} {p : Addr} (h : H p = none) (o : HO) : Same H (upd H p o) := fun b u q => by rw [upd_ne (ne_of_none q h)]; exact q
theorem same_upd {H H' : Hp} {p : Addr} {o : HO} (s : Same H H') (h : H p = none) : Same H (upd H' p o) := fun b u q => by rw [upd_ne (ne_of_none q h)]; exact s b u q
def Pr (H : Hp) (v : V) (p : Int × Int) : Prop := ∃ t, v = .ref t ∧ H t = some (.tup [.int p.1, .int p.2])
theorem Pr.same {H H' : Hp} {v : V} {p : Int × Int} (h : Pr H v p) (s : Same H H') : Pr H' v p := let ⟨t, e, q⟩ := h; ⟨t, e, s _ _ q⟩
def isImm : HO → Bool
  | .tup _ => true
  | .frz _ _ => true
  | _ => false
def TupS (H H' : Hp) : Prop := ∀ b o, isImm o = true → H b = some o → H' b = some o
theorem Same.tups {H H' : Hp} (s : Same H H') : TupS H H' := fun b o _ q => s b _ q
theorem TupS.trans {H H1 H2 : Hp} (a : TupS H H1) (b : TupS H1 H2) : TupS H H2 := fun c o i q => b c o i (a c o i q)
theorem tups_lst {H : Hp} {l : Addr} {xs ys : List V} (h : H l = some (.lst xs)) : TupS H (upd H l (.lst ys)) := fun b o i q => by
  have : b ≠ l := fun z => by rw [z, h] at q; cases q; cases i
  rw [upd_ne this]
  exact q
theorem tups_new {H : Hp} {l : Addr} {o : HO} (h : H l = none) : TupS H (upd H l o) := (same_new h o).tups
theorem Pr.tups {H H' : Hp} {v : V} {p : Int × Int} (h : Pr H v p) (s : TupS H H') : Pr H' v p := let ⟨t, e, q⟩ := h; ⟨t, e, s _ _ rfl q⟩
def Scr (K : PySem.W.Frag) (H : Hp) (a : Addr) (ns : List Int) : Prop :=
  (∃ o, H a = some (.frz o (.lst (ns.map V.int)))) ∨ ∃ (o : Obj) (its : Array Value) (n : Nat), K.lookup a = some o ∧ o.cls = .type "list" ∧ o.dict = none ∧ o.data = .seq its n ∧ its.size ≤ sizeLine ∧ Vals (ns.map V.int) its.toList
theorem Scr.sq {K : PySem.W.Frag} {H : Hp} {a : Addr} {ns : List Int} (h : Scr K H a ns) : SqL K H a (ns.map V.int) := h.elim (fun ⟨o, q⟩ => .inl (.inr ⟨o, q⟩)) .inr
theorem Scr.of {K : PySem.W.Frag} {H : Hp} {a : Addr} {ns : List Int} (h : SqL K H a (ns.map V.int)) (o : Only H) : Scr K H a ns := by
  rcases h with (h | ⟨ob, h⟩) | h
  · rcases o a with z | ⟨ob, xs, z⟩
    · rw [h] at z; cases z
    · rw [h] at z; cases z
  · exact .inl ⟨ob, h⟩
  · exact .inr h
theorem Scr.tups {K : PySem.W.Frag} {H H' : Hp} {a : Addr} {ns : List Int} (h : Scr K H a ns) (s : TupS H H') : Scr K H' a ns := h.elim (fun ⟨o, q⟩ => .inl ⟨o, s _ _ rfl q⟩) .inr
abbrev Prs (H : Hp) : List V → List (Int × Int) → Prop := Paired (Pr H)
theorem Prs.tups {H H' : Hp} (s : TupS H H') {xs : List V} {ps : List (Int × Int)} (h : Prs H xs ps) : Prs H' xs ps := Paired.mapP h fun _ _ q => q.tups s
theorem Prs.same {H H' : Hp} (s : Same H H') {xs : List V} {ps : List (Int × Int)} (h : Prs H xs ps) : Prs H' xs ps := Prs.tups s.tups h
theorem paired_left {α β : Type} {F : α → β → Prop} : ∀ {xs : List α} {ys : List β} {i : Nat} {x : α}, Paired F xs ys → xs[i]? = some x → ∃ y, ys[i]? = some y ∧ F x y
  | _, _, _, _, .nil, e => by simp at e
  | _, _, 0, _, .cons r _, e => by simp at e; subst e; exact ⟨_, rfl, r⟩
  | _, _, i + 1, y, .cons _ t, e => by
    obtain ⟨u, h1, h2⟩ := paired_left (i := i) t (by simpa using e)
    exact ⟨u, by simpa using h1, h2⟩
theorem paired_right {α β : Type} {F : α → β → Prop} : ∀ {xs : List α} {ys : List β} {i : Nat} {y : β}, Paired F xs ys → ys[i]? = some y → ∃ x, xs[i]? = some x ∧ F x y
  | _, _, _, _, .nil, e => by simp at e
  | _, _, 0, _, .cons r _, e => by simp at e; subst e; exact ⟨_, rfl, r⟩
  | _, _, i + 1, y, .cons _ t, e => by
    obtain ⟨u, h1, h2⟩ := paired_right (i := i) t (by simpa using e)
    exact ⟨u, by simpa using h1, h2⟩
theorem paired_snoc {α β : Type} {F : α → β → Prop} {a : α} {b : β} {l₁ : List α} {l₂ : List β} (h : Paired F l₁ l₂) (r : F a b) : Paired F (l₁ ++ [a]) (l₂ ++ [b]) := Paired.snoc h r
theorem drop_get {α : Type} {l : List α} {i : Nat} {x : α} (h : l[i]? = some x) : l.drop i = x :: l.drop (i + 1) := by
  obtain ⟨h1, h2⟩ := List.getElem?_eq_some_iff.mp h
  rw [List.drop_eq_getElem_cons h1, h2]
theorem take_get {α : Type} {l : List α} {i : Nat} {x : α} (h : l[i]? = some x) : l.take (i + 1) = l.take i ++ [x] := by
  obtain ⟨h1, h2⟩ := List.getElem?_eq_some_iff.mp h
  rw [List.take_succ, h]
  rfl
inductive Dt where
  | non
  | bl (b : Bool)
  | int (i : Int)
  | str (x : Str)
  | tup (ds : List Dt)
  | lst (ds : List Dt)
mutual
def Rep (H : Hp) : Dt → V → Prop
  | .non, v => v = .non
  | .bl b, v => v = .bl b
  | .int i, v => v = .int i
  | .str x, v => v = .str x
  | .tup ds, v => ∃ a vs, v = .ref a ∧ H a = some (.tup vs) ∧ Reps H ds vs
  | .lst ds, v => ∃ a vs, v = .ref a ∧ H a = some (.lst vs) ∧ Reps H ds vs
def Reps (H : Hp) : List Dt → List V → Prop
  | [], vs => vs = []
  | d :: ds, vs => ∃ v r, vs = v :: r ∧ Rep H d v ∧ Reps H ds r
end
mutual
theorem Rep.same {H H' : Hp} (s : Same H H') : ∀ (d : Dt) {v : V}, Rep H d v → Rep H' d v
  | .non, _, h => by rw [Rep] at *; exact h
  | .bl _, _, h => by rw [Rep] at *; exact h
  | .int _, _, h => by rw [Rep] at *; exact h
  | .str _, _, h => by rw [Rep] at *; exact h
  | .tup ds, _, h => by
    rw [Rep] at *
    obtain ⟨a, vs, e, q, r⟩ := h
    exact ⟨a, vs, e, s _ _ q, Reps.same s ds r⟩
  | .lst ds, _, h => by
    rw [Rep] at *
    obtain ⟨a, vs, e, q, r⟩ := h
    exact ⟨a, vs, e, s _ _ q, Reps.same s ds r⟩
theorem Reps.same {H H' : Hp} (s : Same H H') : ∀ (ds : List Dt) {vs : List V}, Reps H ds vs → Reps H' ds vs
  | [], _, h => by rw [Reps] at *; exact h
  | d :: ds, _, h => by
    rw [Reps] at *
    obtain ⟨v, r, e, h1, h2⟩ := h
    exact ⟨v, r, e, Rep.same s d h1, Reps.same s ds h2⟩
end
theorem Reps.len {H : Hp} : ∀ {ds : List Dt} {vs : List V}, Reps H ds vs → vs.length = ds.length
  | [], _, h => by rw [Reps] at h; subst h; rfl
  | d :: ds, _, h => by
    rw [Reps] at h
    obtain ⟨v, r, e, h1, h2⟩ := h
    rw [e, List.length_cons, List.length_cons, Reps.len h2]
theorem Reps.at {H : Hp} : ∀ {ds : List Dt} {vs : List V} {i : Nat} {v : V}, Reps H ds vs → vs[i]? = some v → ∃ d, ds[i]? = some d ∧ Rep H d v
  | [], _, i, v, h, e => by rw [Reps] at h; rw [h] at e; simp at e
  | d :: ds, _, i, v, h, e => by
    rw [Reps] at h
    obtain ⟨w, r, e1, h1, h2⟩ := h
    subst e1
    cases i with
    | zero => simp at e; subst e; exact ⟨d, rfl, h1⟩
    | succ i =>
      obtain ⟨d', q1, q2⟩ := Reps.at h2 (i := i) (by simpa using e)
      exact ⟨d', by simpa using q1, q2⟩
def pairD (p : Int × Int) : Dt := .tup [.int p.1, .int p.2]
theorem Pr.rep {H : Hp} {v : V} {p : Int × Int} (h : Pr H v p) : Rep H (pairD p) v := by
  obtain ⟨t, e, q⟩ := h
  rw [pairD, Rep]
  refine ⟨t, _, e, q, ?_⟩
  rw [Reps]
  refine ⟨_, _, rfl, (by rw [Rep]), ?_⟩
  rw [Reps]
  exact ⟨_, _, rfl, (by rw [Rep]), (by rw [Reps])⟩
theorem Prs.reps {H : Hp} : ∀ {xs : List V} {ps : List (Int × Int)}, Prs H xs ps → Reps H (ps.map pairD) xs
  | _, _, .nil => by rw [List.map_nil, Reps]
  | _, _, .cons r t => by rw [List.map_cons, Reps]; exact ⟨_, _, rfl, r.rep, Prs.reps t⟩
end L2
namespace L2
open PySem PySem.Spec PyProof.Rows
def fMax : List V → Hp → VK → Prop := fun vs H Q => match vs with
  | [.int i, .int j] => Q (.int (if i < j then j else i)) H
  | _ => False
theorem q_max {X : Cx} (hc : X.calm = true) : CallR X (.builtin "max") fMax := (call_max2 hc).imp fun vs H Q h => by
  unfold fMax at h
  split at h
  · refine ⟨_, _, rfl, ?_⟩
    first | exact h | (rename_i i j; by_cases c : i < j <;> simp_all)
  · exact h.elim
def fInL (neg : Bool) : R2 := fun x y H Q => match y with
  | .ref p => match seqOf H p with
    | some xs => flatV x = true ∧ xs.all flatV = true ∧ Q (.bl (if neg = true then !inV x xs else inV x xs)) H
    | none => False
  | _ => False
theorem fInL_r {K : PySem.W.Frag} {neg : Bool} {x y : V} {H : Hp} {Q : VK} (h : fInL neg x y H Q) : rIn K neg x y H Q := by
  unfold fInL at h
  split at h
  · split at h
    · rename_i xs e
      obtain ⟨h1, h2, h3⟩ := h
      exact ⟨_, xs, rfl, seqOf_or e, h1, h2, h3⟩
    · exact h.elim
  · exact h.elim
theorem q_inL {X : Cx} : OpR X (compareOp .In) (fInL false) := op_in_seq.imp fun _ _ _ _ => fInL_r
theorem q_notinL {X : Cx} : OpR X (compareOp .NotIn) (fInL true) := op_notIn_seq.imp fun _ _ _ _ => fInL_r
theorem flat_ints (ns : List Int) : (ns.map V.int).all flatV = true := by
  rw [List.all_eq_true]
  intro v hv
  obtain ⟨n, _, e⟩ := List.mem_map.mp hv
  rw [← e]
  rfl
theorem inV_ints (n : Int) (ns : List Int) : inV (.int n) (ns.map V.int) = decide (n ∈ ns) := by
  rw [Bool.eq_iff_iff, inV, List.any_eq_true, decide_eq_true_iff]
  constructor
  · rintro ⟨v, hv, e⟩
    obtain ⟨m, hm, e2⟩ := List.mem_map.mp hv
    subst e2
    have : m = n := by simpa [eqV] using e
    rw [← this]
    exact hm
  · intro h
    exact ⟨.int n, List.mem_map_of_mem h, by simp [eqV]⟩
end L2
namespace L2
open PySem PySem.Spec PyProof.Rows
def rSortL : List V → Hp → VK → Prop := fun vs H Q => ∃ (p : Addr) (ns : List Int), vs = [.ref p] ∧ H p = some (.lst (ns.map V.int)) ∧ ns.length < 64 ∧
  ∀ (l : Addr) (ms : List Int), H l = none → ms.Perm ns → ms.Pairwise (· ≤ ·) → Q (.ref l) (upd H l (.lst (ms.map V.int)))
theorem call_sortL {X : Cx} : CallR X (.builtin "sorted") rSortL := by
  intro pins s σ H xs us Q I r h
  obtain ⟨p, ns, rfl, e, h64, q⟩ := h
  obtain ⟨u, rfl, rx⟩ := vals1 r
  cases rx
  obtain ⟨its, r', pl, hz⟩ := I.list (SqL.of e)
  have hI := intsAre_of r'
  have hlen := r'.length
  rw [List.length_map] at hlen
  refine sorted_ints pl.isList hI (by omega) fun out ms a1 a2 a3 => ?_
  obtain ⟨c, hc⟩ := sortedAll_at s.heap its out
  have hml := a2.length_eq
  have hz2 := line63
  refine ⟨.ref (s.heap.objs.size + 1), _, I.laid (t' := s.toks) (fun _ _ => sortedAll_old) (Nat.le_succ _) (show ObjOk X.prog X.w _ _ _ (.lst (ms.map V.int)) from ⟨?_, out.toList, c, vals_ints a1, ?_⟩), rfl, q _ ms (I.hok.fresh (Nat.le_succ _)) a2 a3⟩
  · rw [List.length_map, hml]; exact Nat.le_trans (Nat.le_of_lt h64) (by decide)
  · rw [hc]
end L2
namespace L2
open PySem PySem.Spec PyProof.Rows
mutual
def eqP : Dt → Dt → Bool
  | .non, .non => true
  | .bl a, .bl b => a == b
  | .bl a, .int b => (if a then 1 else 0) == b
  | .int a, .bl b => a == (if b then 1 else 0)
  | .int a, .int b => a == b
  | .str a, .str b => a == b
  | .tup a, .tup b => eqPs a b
  | .lst a, .lst b => eqPs a b
  | _, _ => false
def eqPs : List Dt → List Dt → Bool
  | [], [] => true
  | a :: r, b :: t => eqP a b && eqPs r t
  | _, _ => false
end
mutual
def depP : Dt → Nat
  | .tup a => depPs a + 1
  | .lst a => depPs a + 1
  | _ => 0
def depPs : List Dt → Nat
  | [] => 0
  | a :: r => max (depP a) (depPs r)
end
def eqAtN (a b : List Dt) (j : Nat) : Bool := match a[j]?, b[j]? with
  | some x, some y => eqP x y
  | _, _ => false
theorem eqPs_len : ∀ {a b : List Dt}, a.length ≠ b.length → eqPs a b = false
  | [], [], h => absurd rfl h
  | [], _ :: _, _ => by simp [eqPs]
  | _ :: _, [], _ => by simp [eqPs]
  | x :: a, y :: b, h => by
    rw [eqPs, eqPs_len (by simpa using h), Bool.and_false]
theorem range_all : ∀ (n : Nat) (f : Nat → Bool), (List.range (n + 1)).all f = (f 0 && (List.range n).all fun j => f (j + 1)) := fun n f => by
  rw [List.range_succ_eq_map, List.all_cons, List.all_map]
  rfl
theorem eqPs_range : ∀ {a b : List Dt}, a.length = b.length → eqPs a b = (List.range a.length).all (eqAtN a b)
  | [], [], _ => by rw [eqPs]; rfl
  | [], _ :: _, h => by simp at h
  | _ :: _, [], h => by simp at h
  | x :: a, y :: b, h => by
    rw [eqPs, eqPs_range (a := a) (b := b) (by simpa using h), List.length_cons, range_all]
    rfl
theorem depPs_at : ∀ {a : List Dt} {j : Nat} {d : Dt}, a[j]? = some d → depP d ≤ depPs a
  | [], _, _, h => by simp at h
  | x :: a, 0, d, h => by
    simp at h; subst h
    rw [depPs]; omega
  | x :: a, j + 1, d, h => by
    have := depPs_at (a := a) (j := j) (by simpa using h)
    rw [depPs]; omega
def flatD : Dt → Option V
  | .non => some .non
  | .bl b => some (.bl b)
  | .int i => some (.int i)
  | .str x => some (.str x)
  | _ => none
theorem eqP_flat {d e : Dt} {x y : V} (hd : flatD d = some x) (he : flatD e = some y) : eqP d e = eqV x y := by
  cases d <;> cases e <;> simp only [flatD, Option.some.injEq, reduceCtorEq] at hd he <;> subst hd <;> subst he <;> simp [eqP, eqV]
theorem rep_flat {H : Hp} {d : Dt} {x v : V} (hd : flatD d = some x) (h : Rep H d v) : v = x ∧ flatV x = true := by
  cases d <;> simp only [flatD, Option.some.injEq, reduceCtorEq] at hd <;> subst hd <;> rw [Rep] at h <;> exact ⟨h, rfl⟩
section
variable {X : Cx} {pins : List (Addr × Obj)} {σ : St} {H : Hp} {s : Shared}
theorem Inv.tupE (I : Inv X pins σ H s) {a : Addr} {vs : List V} (e : H a = some (.tup vs)) : ∃ its : List Value, Vals vs its ∧ s.heap.IsTuple a its.toArray := by
  obtain ⟨its, r, p, _⟩ := I.tuple (SqT.of e)
  exact ⟨its, r, p⟩
theorem Inv.lstE (I : Inv X pins σ H s) {a : Addr} {vs : List V} (e : H a = some (.lst vs)) : ∃ its : List Value, Vals vs its ∧ s.heap.IsList a its.toArray := by
  obtain ⟨its, r, p, _⟩ := I.list (SqL.of e)
  exact ⟨its, r, p.isList⟩
mutual
theorem eqP_refl : ∀ d : Dt, eqP d d = true
  | .non => by simp [eqP]
  | .bl _ => by simp [eqP]
  | .int _ => by simp [eqP]
  | .str _ => by simp [eqP]
  | .tup a => by rw [eqP]; exact eqPs_refl a
  | .lst a => by rw [eqP]; exact eqPs_refl a
theorem eqPs_refl : ∀ a : List Dt, eqPs a a = true
  | [] => by rw [eqPs]
  | d :: r => by rw [eqPs, eqP_refl d, eqPs_refl r]; rfl
end
mutual
theorem Rep.inj {H : Hp} : ∀ {d e : Dt} {v : V}, Rep H d v → Rep H e v → d = e
  | .non, e, v, h1, h2 => by rw [Rep] at h1; subst h1; cases e <;> simp [Rep] at h2 ⊢
  | .bl _, e, v, h1, h2 => by rw [Rep] at h1; subst h1; cases e <;> simp [Rep] at h2 ⊢; exact h2
  | .int _, e, v, h1, h2 => by rw [Rep] at h1; subst h1; cases e <;> simp [Rep] at h2 ⊢; exact h2
  | .str _, e, v, h1, h2 => by rw [Rep] at h1; subst h1; cases e <;> simp [Rep] at h2 ⊢; exact h2
  | .tup ds, e, v, h1, h2 => by
    rw [Rep] at h1
    obtain ⟨a, vs, rfl, q, r⟩ := h1
    cases e with
    | tup es =>
      rw [Rep] at h2
      obtain ⟨a', vs', e', q', r'⟩ := h2
      cases e'
      rw [q] at q'; cases q'
      rw [Reps.inj r r']
    | lst es =>
      rw [Rep] at h2
      obtain ⟨a', vs', e', q', r'⟩ := h2
      cases e'
      rw [q] at q'; cases q'
    | non => rw [Rep] at h2; cases h2
    | bl _ => rw [Rep] at h2; cases h2
    | int _ => rw [Rep] at h2; cases h2
    | str _ => rw [Rep] at h2; cases h2
  | .lst ds, e, v, h1, h2 => by
    rw [Rep] at h1
    obtain ⟨a, vs, rfl, q, r⟩ := h1
    cases e with
    | lst es =>
      rw [Rep] at h2
      obtain ⟨a', vs', e', q', r'⟩ := h2
      cases e'
      rw [q] at q'; cases q'
      rw [Reps.inj r r']
    | tup es =>
      rw [Rep] at h2
      obtain ⟨a', vs', e', q', r'⟩ := h2
      cases e'
      rw [q] at q'; cases q'
    | non => rw [Rep] at h2; cases h2
    | bl _ => rw [Rep] at h2; cases h2
    | int _ => rw [Rep] at h2; cases h2
    | str _ => rw [Rep] at h2; cases h2
theorem Reps.inj {H : Hp} : ∀ {ds es : List Dt} {vs : List V}, Reps H ds vs → Reps H es vs → ds = es
  | [], es, vs, h1, h2 => by
    rw [Reps] at h1; subst h1
    cases es with
    | nil => rfl
    | cons e es => rw [Reps] at h2; obtain ⟨_, _, z, _⟩ := h2; cases z
  | d :: ds, es, vs, h1, h2 => by
    rw [Reps] at h1
    obtain ⟨v, r, rfl, q1, q2⟩ := h1
    cases es with
    | nil => rw [Reps] at h2; cases h2
    | cons e es =>
      rw [Reps] at h2
      obtain ⟨v', r', z, p1, p2⟩ := h2
      cases z
      rw [Rep.inj q1 p1, Reps.inj q2 p2]
end
theorem eqP_ref_flat {d e : Dt} (hd : flatD d = none) {y : V} (he : flatD e = some y) : eqP d e = false ∧ eqP e d = false := by
  cases d <;> cases e <;> simp only [flatD, Option.some.injEq, reduceCtorEq] at hd he <;> simp [eqP]
theorem eqAt_D : ∀ (n : Nat) {A : Around} (I : Inv X pins σ H s) {d e : Dt} {x y : V} {u v : Value}, depP d ≤ n → A.units + n < cLine → Rep H d x → Rep H e y → RelV x u → RelV y v → SeqAt.EqAt A s u v (eqP d e) := by
  intro n
  induction n with
  | zero =>
    intro A I d e x y u v hn hu rd re rx ry
    have hf : ∃ z, flatD d = some z := by
      cases d <;> simp only [depP, flatD] at hn ⊢ <;> first | exact ⟨_, rfl⟩ | omega
    obtain ⟨z, hz⟩ := hf
    obtain ⟨rfl, fz⟩ := rep_flat hz rd
    cases he : flatD e with
    | some y' =>
      obtain ⟨rfl, fy⟩ := rep_flat he re
      rw [eqP_flat hz he]
      exact eqAt_V rx ry fz fy
    | none =>
      rw [(eqP_ref_flat he hz).2]
      have hu0 : A.units < cLine := by omega
      cases e <;> simp only [flatD, reduceCtorEq] at he
      · rw [Rep] at re
        obtain ⟨a, vs, rfl, q, _⟩ := re
        cases ry
        obtain ⟨its, _, p⟩ := I.tupE q
        cases d <;> simp only [flatD, Option.some.injEq, reduceCtorEq] at hz <;> subst hz
        · cases rx; exact SeqAt.EqAt.none_tuple p hu0
        · cases rx; exact SeqAt.EqAt.bool_tuple _ p hu0
        · obtain ⟨t, rfl⟩ := rx; exact SeqAt.EqAt.int_tuple _ _ p hu0
        · obtain ⟨t, rfl⟩ := rx; exact SeqAt.EqAt.str_tuple _ _ p hu0
      · rw [Rep] at re
        obtain ⟨a, vs, rfl, q, _⟩ := re
        cases ry
        obtain ⟨its, _, p⟩ := I.lstE q
        cases d <;> simp only [flatD, Option.some.injEq, reduceCtorEq] at hz <;> subst hz
        · cases rx; exact SeqAt.EqAt.none_list p hu0
        · cases rx; exact SeqAt.EqAt.bool_list _ p hu0
        · obtain ⟨t, rfl⟩ := rx; exact SeqAt.EqAt.int_list _ _ p hu0
        · obtain ⟨t, rfl⟩ := rx; exact SeqAt.EqAt.str_list _ _ p hu0
  | succ n ih =>
    intro A I d e x y u v hn hu rd re rx ry
    have hu0 : A.units < cLine := by omega
    have items : ∀ {ds es : List Dt} {vs ws : List V} {its its2 : List Value}, depPs ds ≤ n → Reps H ds vs → Reps H es ws → Vals vs its → Vals ws its2 →
        ∀ j (h1 : j < its.toArray.size) (h2 : j < its2.toArray.size), SeqAt.EqAt A.in1 s its.toArray[j] its2.toArray[j] (eqAtN ds es j) := by
      intro ds es vs ws its its2 hdp r1 r2 w1 w2 j h1 h2
      rw [List.size_toArray] at h1 h2
      have l1 := w1.length
      have l2 := w2.length
      obtain ⟨u', e1, q1⟩ := w1.get (i := j) (x := vs[j]'(by omega)) (List.getElem?_eq_getElem _)
      obtain ⟨v', e2, q2⟩ := w2.get (i := j) (x := ws[j]'(by omega)) (List.getElem?_eq_getElem _)
      obtain ⟨d', f1, g1⟩ := r1.at (i := j) (List.getElem?_eq_getElem (by omega))
      obtain ⟨e', f2, g2⟩ := r2.at (i := j) (List.getElem?_eq_getElem (by omega))
      rw [List.getElem?_eq_getElem h1] at e1
      rw [List.getElem?_eq_getElem h2] at e2
      cases e1; cases e2
      have hj : eqAtN ds es j = eqP d' e' := by unfold eqAtN; rw [f1, f2]
      rw [hj]
      have := depPs_at f1
      exact ih (A := A.in1) I (by omega) (by show A.units + 1 + n < cLine; omega) g1 g2 q1 q2
    cases hf : flatD d with
    | some z =>
      refine ih I ?_ (by omega) rd re rx ry
      cases d <;> simp only [flatD, reduceCtorEq] at hf <;> simp [depP]
    | none =>
      cases he : flatD e with
      | some y' =>
        rw [(eqP_ref_flat hf he).1]
        obtain ⟨rfl, fy⟩ := rep_flat he re
        cases d <;> simp only [flatD, reduceCtorEq] at hf
        · rw [Rep] at rd
          obtain ⟨a, vs, rfl, q, _⟩ := rd
          cases rx
          obtain ⟨its, _, p⟩ := I.tupE q
          cases e <;> simp only [flatD, Option.some.injEq, reduceCtorEq] at he <;> subst he
          · cases ry; exact SeqAt.EqAt.tuple_none p hu0
          · cases ry; exact SeqAt.EqAt.tuple_bool _ p hu0
          · obtain ⟨t, rfl⟩ := ry; exact SeqAt.EqAt.tuple_int _ _ p hu0
          · obtain ⟨t, rfl⟩ := ry; exact SeqAt.EqAt.tuple_str _ _ p hu0
        · rw [Rep] at rd
          obtain ⟨a, vs, rfl, q, _⟩ := rd
          cases rx
          obtain ⟨its, _, p⟩ := I.lstE q
          cases e <;> simp only [flatD, Option.some.injEq, reduceCtorEq] at he <;> subst he
          · cases ry; exact SeqAt.EqAt.list_none p hu0
          · cases ry; exact SeqAt.EqAt.list_bool _ p hu0
          · obtain ⟨t, rfl⟩ := ry; exact SeqAt.EqAt.list_int _ _ p hu0
          · obtain ⟨t, rfl⟩ := ry; exact SeqAt.EqAt.list_str _ _ p hu0
      | none =>
        cases d <;> simp only [flatD, reduceCtorEq] at hf <;> cases e <;> simp only [flatD, reduceCtorEq] at he
        · rename_i ds es
          have hn' : depPs ds ≤ n := by rw [depP] at hn; omega
          have rd0 := rd
          have re0 := re
          rw [Rep] at rd
          rw [Rep] at re
          obtain ⟨a, vs, rfl, q, r1⟩ := rd
          obtain ⟨b, ws, rfl, q2, r2⟩ := re
          cases rx; cases ry
          by_cases hab : a = b
          · subst hab
            rw [Rep.inj rd0 re0, eqP_refl]
            exact SeqAt.EqAt.same _
          · obtain ⟨its, w1, p1⟩ := I.tupE q
            obtain ⟨its2, w2, p2⟩ := I.tupE q2
            have k := SeqAt.RcAt.tuples p1 p2 hu0 (items hn' r1 r2 w1 w2)
            have e0 : ((List.range (min its.toArray.size its2.toArray.size)).all (eqAtN ds es) && its.toArray.size == its2.toArray.size) = eqP (.tup ds) (.tup es) := by
              have l1 := w1.length
              have l2 := w2.length
              have l3 := r1.len
              have l4 := r2.len
              rw [eqP, List.size_toArray, List.size_toArray]
              by_cases hl : ds.length = es.length
              · rw [eqPs_range hl, ← l1, ← l2, l3, l4, hl, Nat.min_self]
                simp
              · rw [eqPs_len hl]
                have : (its.length == its2.length) = false := by
                  rw [beq_eq_false_iff_ne]; omega
                rw [this, Bool.and_false]
            rw [e0] at k
            exact .of_refs hab k
        · rename_i ds es
          rw [Rep] at rd
          rw [Rep] at re
          obtain ⟨a, vs, rfl, q, r1⟩ := rd
          obtain ⟨b, ws, rfl, q2, r2⟩ := re
          cases rx; cases ry
          obtain ⟨its, w1, p1⟩ := I.tupE q
          obtain ⟨its2, w2, p2⟩ := I.lstE q2
          have : eqP (.tup ds) (.lst es) = false := by simp [eqP]
          rw [this]
          exact SeqAt.EqAt.tuple_list p1 p2 hu0
        · rename_i ds es
          rw [Rep] at rd
          rw [Rep] at re
          obtain ⟨a, vs, rfl, q, r1⟩ := rd
          obtain ⟨b, ws, rfl, q2, r2⟩ := re
          cases rx; cases ry
          obtain ⟨its, w1, p1⟩ := I.lstE q
          obtain ⟨its2, w2, p2⟩ := I.tupE q2
          have : eqP (.lst ds) (.tup es) = false := by simp [eqP]
          rw [this]
          exact SeqAt.EqAt.list_tuple p1 p2 hu0
        · rename_i ds es
          have hn' : depPs ds ≤ n := by rw [depP] at hn; omega
          have rd0 := rd
          have re0 := re
          rw [Rep] at rd
          rw [Rep] at re
          obtain ⟨a, vs, rfl, q, r1⟩ := rd
          obtain ⟨b, ws, rfl, q2, r2⟩ := re
          cases rx; cases ry
          by_cases hab : a = b
          · subst hab
            rw [Rep.inj rd0 re0, eqP_refl]
            exact SeqAt.EqAt.same _
          · obtain ⟨its, w1, p1⟩ := I.lstE q
            obtain ⟨its2, w2, p2⟩ := I.lstE q2
            have l1 := w1.length
            have l2 := w2.length
            have l3 := r1.len
            have l4 := r2.len
            refine .of_refs hab ?_
            rw [eqP]
            by_cases hl : ds.length = es.length
            · rw [eqPs_range hl]
              have k := SeqAt.RcAt.lists p1 p2 (by rw [List.size_toArray, List.size_toArray]; omega) hu0 (items hn' r1 r2 w1 w2)
              rw [List.size_toArray, ← l1, l3] at k
              exact k
            · rw [eqPs_len hl]
              exact SeqAt.RcAt.lists_lengths p1 p2 (by rw [List.size_toArray, List.size_toArray]; simp; omega) hu0
end
end L2
namespace L2
open PySem PySem.Spec PyProof.Rows
section
variable {prog : Program} {w : World} {A : Around} {R : Result → Shared → Prop} {I : Addr} {fp wr : List Addr} {n : Nat} {P : Nat → Value → Prop} {St : Nat → Heap → Prop}
def Best (val : Nat → Int) (n : Nat) (m : Int) : Prop := (∃ i, i < n ∧ m = val i) ∧ ∀ i, i < n → val i ≤ m
theorem Best.keep {val : Nat → Int} {j : Nat} {m : Int} (h : Best val j m) (hb : ¬ val j > m) : Best val (j + 1) m :=
  ⟨let ⟨i, hi, e⟩ := h.1; ⟨i, Nat.lt_succ_of_lt hi, e⟩, fun i hi => by
    rcases Nat.lt_succ_iff_lt_or_eq.mp hi with z | z
    · exact h.2 i z
    · rw [z]; omega⟩
end
section
variable {X : Cx}
def tCBK (r : List V → List V → Hp → VK → Prop) (t tk : TA) : TE := fun σ H Q => t σ H fun vs H1 => tk σ H1 fun zs H2 => r vs zs H2 Q
theorem pe_callBK {x k : Str} {p kp pos : Pos} {e g : Expr} {t tk : TA} {id : String} {r : List V → List V → Hp → VK → Prop}
    (hcall : ∀ (pins : List (Addr × Obj)) (s : Shared) (σ : St) (H : Hp) (xs zs : List V) (us ws : List Value) (Q : VK), Inv X pins σ H s → Vals xs us → Vals zs ws → r xs zs H Q →
      wpAny (model X.prog X.w) X.A (call (.builtin id) us ([k].zip ws)) (EP X pins σ Q) X.xe s)
    (hg : Gl X x) (hm : X.mg x = none) (hv : bootBuiltins x = some (.builtin id)) (ha : PA X [e] t) (hk : PK X [⟨some k, g, kp⟩] tk) (hn : x ≠ "__name__" := by decide) (hdb : (x == ("__debug__" : Str)) = false := by decide)
    (he : backTo pos (starEach [e] X.env) = (false, eval e X.env) :: backTo pos (starEach [] X.env) := by rfl) (hpl : (backTo pos (starEach [e] X.env)).any (·.1) = false := by rfl) : PE X (.Call (.Name x p) [e] [⟨some k, g, kp⟩] pos) (tCBK r t tk) := by
  intro pins s σ H Q I h
  refine wpAny_Call_Name_kw (ld_blt I hg hm hv ?_ hn hdb)
  refine callWith_kw (thn (ha pos pins s σ H _ I h) fun us s1 ⟨vs, H1, I1, r1, q1⟩ => thn (hk pos pins s1 σ H1 _ I1 q1) fun ws s2 ⟨zs, H2, I2, r2, q2⟩ => ?_) he hpl
  exact hcall pins s2 σ H2 vs zs us ws Q I2 r1 r2 q2
end
end L2
namespace L2
open PySem PySem.Spec PyProof.Rows
section
variable {X : Cx} {pins : List (Addr × Obj)} {σ : St} {H : Hp} {s : Shared}
theorem items_D (n : Nat) {A : Around} (I : Inv X pins σ H s) {ds es : List Dt} {vs ws : List V} {its its2 : List Value} (hdp : depPs ds ≤ n) (hu : A.units + n < cLine) (r1 : Reps H ds vs) (r2 : Reps H es ws) (w1 : Vals vs its) (w2 : Vals ws its2) :
    ∀ j (h1 : j < its.toArray.size) (h2 : j < its2.toArray.size), SeqAt.EqAt A s its.toArray[j] its2.toArray[j] (eqAtN ds es j) := by
  intro j h1 h2
  rw [List.size_toArray] at h1 h2
  have l1 := w1.length
  have l2 := w2.length
  obtain ⟨u', e1, q1⟩ := w1.get (i := j) (x := vs[j]'(by omega)) (List.getElem?_eq_getElem _)
  obtain ⟨v', e2, q2⟩ := w2.get (i := j) (x := ws[j]'(by omega)) (List.getElem?_eq_getElem _)
  obtain ⟨d', f1, g1⟩ := r1.at (i := j) (List.getElem?_eq_getElem (by omega))
  obtain ⟨e', f2, g2⟩ := r2.at (i := j) (List.getElem?_eq_getElem (by omega))
  rw [List.getElem?_eq_getElem h1] at e1
  rw [List.getElem?_eq_getElem h2] at e2
  cases e1; cases e2
  have hj : eqAtN ds es j = eqP d' e' := by unfold eqAtN; rw [f1, f2]
  rw [hj]
  have := depPs_at f1
  exact eqAt_D n I (by omega) hu g1 g2 q1 q2
theorem tup_answer {ds es : List Dt} {vs ws : List V} {its its2 : List Value} (r1 : Reps H ds vs) (r2 : Reps H es ws) (w1 : Vals vs its) (w2 : Vals ws its2) :
    ((List.range (min its.toArray.size its2.toArray.size)).all (eqAtN ds es) && its.toArray.size == its2.toArray.size) = eqPs ds es := by
  have l1 := w1.length
  have l2 := w2.length
  have l3 := r1.len
  have l4 := r2.len
  rw [List.size_toArray, List.size_toArray]
  by_cases hl : ds.length = es.length
  · rw [eqPs_range hl, ← l1, ← l2, l3, l4, hl, Nat.min_self]
    simp
  · rw [eqPs_len hl]
    have : (its.length == its2.length) = false := by
      rw [beq_eq_false_iff_ne]; omega
    rw [this, Bool.and_false]
def rEqD (neg : Bool) : R2 := fun x y H Q => ∃ d e, Rep H d x ∧ Rep H e y ∧ depP d ≤ 20 ∧ ((∃ ds es, d = .lst ds ∧ e = .lst es) ∨ ∃ ds es, d = .tup ds ∧ e = .tup es) ∧ Q (.bl (if neg = true then !eqP d e else eqP d e)) H
theorem op_eqD (hu : X.A.units + 64 < cLine) : OpR X (compareOp .Eq) (rEqD false) := by
  intro pins s σ H x y v u Q I rx ry h
  obtain ⟨d, e, rd, re, hd, hk, q⟩ := h
  have hu0 : X.A.units < cLine := by omega
  rcases hk with ⟨ds, es, rfl, rfl⟩ | ⟨ds, es, rfl, rfl⟩
  · have hn' : depPs ds ≤ 20 := by rw [depP] at hd; omega
    rw [Rep] at rd re
    obtain ⟨a, vs, rfl, q1, r1⟩ := rd
    obtain ⟨b, ws, rfl, q2, r2⟩ := re
    cases rx; cases ry
    obtain ⟨its, w1, p1⟩ := I.lstE q1
    obtain ⟨its2, w2, p2⟩ := I.lstE q2
    have l1 := w1.length
    have l2 := w2.length
    have l3 := r1.len
    have l4 := r2.len
    by_cases hl : ds.length = es.length
    · refine SeqAt.RcAt.lists (e := eqAtN ds es) p1 p2 (by rw [List.size_toArray, List.size_toArray]; omega) hu0 (items_D 20 I hn' (by show X.A.units + 1 + 20 < cLine; omega) r1 r2 w1 w2) _ _ _ _ ⟨.bl _, H, I, rfl, ?_⟩
      rw [List.size_toArray, ← l1, l3, ← eqPs_range hl]
      rw [eqP] at q
      exact q
    · refine SeqAt.RcAt.lists_lengths p1 p2 (by rw [List.size_toArray, List.size_toArray]; simp; omega) hu0 _ _ _ _ ⟨.bl _, H, I, rfl, ?_⟩
      rw [eqP, eqPs_len hl] at q
      exact q
  · have hn' : depPs ds ≤ 20 := by rw [depP] at hd; omega
    rw [Rep] at rd re
    obtain ⟨a, vs, rfl, q1, r1⟩ := rd
    obtain ⟨b, ws, rfl, q2, r2⟩ := re
    cases rx; cases ry
    obtain ⟨its, w1, p1⟩ := I.tupE q1
    obtain ⟨its2, w2, p2⟩ := I.tupE q2
    refine SeqAt.RcAt.tuples (e := eqAtN ds es) p1 p2 hu0 (items_D 20 I hn' (by show X.A.units + 1 + 20 < cLine; omega) r1 r2 w1 w2) _ _ _ _ ⟨.bl _, H, I, rfl, ?_⟩
    rw [tup_answer r1 r2 w1 w2]
    rw [eqP] at q
    exact q
theorem op_neD (hu : X.A.units + 64 < cLine) : OpR X (compareOp .NotEq) (rEqD true) := by
  intro pins s σ H x y v u Q I rx ry h
  obtain ⟨d, e, rd, re, hd, hk, q⟩ := h
  have hu0 : X.A.units < cLine := by omega
  rcases hk with ⟨ds, es, rfl, rfl⟩ | ⟨ds, es, rfl, rfl⟩
  · have hn' : depPs ds ≤ 20 := by rw [depP] at hd; omega
    rw [Rep] at rd re
    obtain ⟨a, vs, rfl, q1, r1⟩ := rd
    obtain ⟨b, ws, rfl, q2, r2⟩ := re
    cases rx; cases ry
    obtain ⟨its, w1, p1⟩ := I.lstE q1
    obtain ⟨its2, w2, p2⟩ := I.lstE q2
    have l1 := w1.length
    have l2 := w2.length
    have l3 := r1.len
    have l4 := r2.len
    by_cases hl : ds.length = es.length
    · refine SeqAt.RcNeAt.lists (e := eqAtN ds es) p1 p2 (by rw [List.size_toArray, List.size_toArray]; omega) hu0 (items_D 20 I hn' (by show X.A.units + 1 + 20 < cLine; omega) r1 r2 w1 w2) _ _ _ _ ⟨.bl _, H, I, rfl, ?_⟩
      rw [List.size_toArray, ← l1, l3, ← eqPs_range hl]
      rw [eqP] at q
      exact q
    · refine SeqAt.RcNeAt.lists_lengths p1 p2 (by rw [List.size_toArray, List.size_toArray]; simp; omega) hu0 _ _ _ _ ⟨.bl _, H, I, rfl, ?_⟩
      rw [eqP, eqPs_len hl] at q
      exact q
  · have hn' : depPs ds ≤ 20 := by rw [depP] at hd; omega
    rw [Rep] at rd re
    obtain ⟨a, vs, rfl, q1, r1⟩ := rd
    obtain ⟨b, ws, rfl, q2, r2⟩ := re
    cases rx; cases ry
    obtain ⟨its, w1, p1⟩ := I.tupE q1
    obtain ⟨its2, w2, p2⟩ := I.tupE q2
    refine SeqAt.RcNeAt.tuples (e := eqAtN ds es) p1 p2 hu0 (items_D 20 I hn' (by show X.A.units + 1 + 20 < cLine; omega) r1 r2 w1 w2) _ _ _ _ ⟨.bl _, H, I, rfl, ?_⟩
    rw [tup_answer r1 r2 w1 w2]
    rw [eqP] at q
    exact q
end
end L2
namespace L2
open PySem PySem.Spec PyProof.Rows
section
variable {X : Cx} {o i e f value : Expr} {td ty tv tx : TE} {pos pos' apos cpos : Pos}
def sDPutF (td ty tv : TE) : TS := fun D σ H => tv σ H fun v H1 => td σ H1 fun x H2 => ty σ H2 fun y H3 => match x, y with
  | .ref a, .int n => match H3 a with
    | some (.dK kvs) => kvs.length < sizeLine ∧ D.nx σ (upd H3 a (.dK (putK kvs (Sum.inl n : Key) v)))
    | _ => False
  | _, _ => False
theorem dput_r {x y : V} {H3 : Hp} {R : List (Key × V) → Addr → Int → Prop} (h : match x, y with
  | .ref a, .int n => match H3 a with
    | some (.dK kvs) => R kvs a n
    | _ => False
  | _, _ => False) : ∃ a n kvs, x = .ref a ∧ y = .int n ∧ H3 a = some (.dK kvs) ∧ R kvs a n := by
  split at h
  · split at h
    · rename_i e; exact ⟨_, _, _, rfl, rfl, e, h⟩
    · exact h.elim
  · exact h.elim
theorem dget2_r {y : V} {a : Addr} {H3 : Hp} {R : List (Key × V) → Int → Prop} (h : match y with
  | .int n => match H3 a with
    | some (.dK kvs) => R kvs n
    | _ => False
  | _ => False) : ∃ n kvs, y = .int n ∧ H3 a = some (.dK kvs) ∧ R kvs n := by
  split at h
  · split at h
    · rename_i e; exact ⟨_, _, rfl, e, h⟩
    · exact h.elim
  · exact h.elim
theorem q_dput (hu : X.A.units + 1 < cLine) (ho : PE X o td) (hi : PE X i ty) (hv : PE X value tv) (hs : swapsWith value (some (.Subscript o i pos')) pos.line X.env = pure false := by rfl) :
    PS X (.Assign [.Subscript o i pos'] value pos) (sDPutF td ty tv) := by
  intro pins s σ H D I h
  refine wpAny_Assign_Subscript (thn (hv pins s σ H _ I h) fun r s1 ⟨v, H1, I1, rv, q1⟩ => thn (ho pins s1 σ H1 _ I1 q1) fun u s2 ⟨x, H2, I2, rx, q2⟩ => thn (hi pins s2 σ H2 _ I2 q2) fun iv s3 ⟨y, H3, I3, ry, q3⟩ => ?_) hs
  obtain ⟨a, n, kvs, rfl, rfl, ea, q4, q5⟩ := dput_r (R := fun kvs a n => kvs.length < sizeLine ∧ D.nx σ (upd H3 a (.dK (putK kvs (Sum.inl n : Key) v)))) q3
  obtain rfl : u = Value.ref a := rx
  exact d_setItem hu I3 (DPut.k (k := Sum.inl n) ea q4) ry rv fun s4 I4 => ⟨σ, _, I4, q5⟩
def fDGet2 (td ty tx : TE) : TE := fun σ H Q => td σ H fun x H1 => match x with
  | .ref a => (∃ kvs, H1 a = some (.dK kvs)) ∧ ty σ H1 fun y H2 => tx σ H2 fun z H3 => match y with
    | .int n => match H3 a with
      | some (.dK kvs) => Q ((valV kvs (Sum.inl n : Key)).getD z) H3
      | _ => False
    | _ => False
  | _ => False
theorem q_dget2 (hu : X.A.units + 1 < cLine) (ho : PE X o td) (he : PE X e ty) (hf : PE X f tx) (m : M2 X o "get" apos e f cpos := by exact ⟨rfl, rfl, rfl, rfl⟩) : PE X (.Call (.Attribute o "get" apos) [e, f] [] cpos) (fDGet2 td ty tx) := by
  intro pins s σ H Q I h
  refine wpAny_Call_method m.base m.few m.line PySem.F.plainAttrs_dict PySem.F.slot_dict_get PySem.F.type_dict_get (thn (ho pins s σ H _ I h) fun u s1 ⟨x, H1, I1, rx, q1⟩ => ?_)
  cases x <;> first
    | exact False.elim q1
    | (rename_i a
       dsimp only at q1
       obtain ⟨⟨kvs0, e0⟩, q1⟩ := q1
       obtain rfl : u = Value.ref a := rx
       obtain ⟨t1, t2, _⟩ := isD_at I1 (.inl ⟨kvs0, .inl e0⟩)
       refine ⟨t1, t2, ?_⟩
       rw [m.trees]
       refine Calls.callWith_builtin rfl (Calls.evalArgs_plain (Calls.spliced_cons (thn (he pins s1 σ H1 _ I1 q1) fun iv s2 ⟨y, H2, I2, ry, q2⟩ =>
         Calls.spliced_cons (thn (hf pins s2 σ H2 _ I2 q2) fun fv s3 ⟨z, H3, I3, rz, q3⟩ => Calls.spliced_nil ?_))))
       obtain ⟨n, kvs, rfl, ea, q4⟩ := dget2_r (R := fun kvs n => Q ((valV kvs (Sum.inl n : Key)).getD z) H3) q3
       exact d_get2 hu I3 (DGet.k (k := Sum.inl n) ea) ry rz fun w' s4 I4 rw' => ⟨_, H3, I4, rw', q4⟩)
def fCat : R2 := fun x y H Q => match x, y with
  | .ref l, .ref b => match H l, H b with
    | some (.lst xs), some (.lst zs) => xs.length + zs.length ≤ sizeLine ∧ ∀ p, H p = none → Q (.ref p) (upd H p (.lst (xs ++ zs)))
    | _, _ => False
  | _, _ => False
theorem q_cat : OpR X (binaryOp .Add) fCat := op_cat.imp fun x y H Q h => by
  unfold fCat at h
  split at h
  · split at h
    · rename_i e1 e2; exact ⟨_, _, _, _, rfl, rfl, e1, e2, h.1, h.2⟩
    · exact h.elim
  · exact h.elim
def fClear : V → List V → Hp → VK → Prop := fun x vs H Q => match x, vs with
  | .ref l, [] => match H l with
    | some (.lst _) => Q .non (upd H l (.lst []))
    | _ => False
  | _, _ => False
def fBM0 (r : V → List V → Hp → VK → Prop) (to : TE) : TE := fun σ H Q => to σ H fun x H1 => (∃ a xs, x = .ref a ∧ H1 a = some (.lst xs)) ∧ r x [] H1 Q
def fSlT : V → Option Int → Option Int → Hp → VK → Prop := fun x lo hi H Q => match x with
  | .ref a => match H a with
    | some (.tup xs) => ¬ (HT.sIx xs.length 0 lo = 0 ∧ HT.sIx xs.length xs.length hi = xs.length) ∧ ∀ p, H p = none → Q (.ref p) (upd H p (.tup (cutV xs lo hi)))
    | _ => False
  | _ => False
def fInt1 : List V → Hp → VK → Prop := fun vs H Q => match vs with
  | [.bl k] => Q (.int (if k = true then 1 else 0)) H
  | [.int i] => Q (.int i) H
  | _ => False
theorem q_int1 : CallR X (.type "int") fInt1 := call_int1.imp fun vs H Q h => by
  unfold fInt1 at h
  split at h
  · exact .inr ⟨_, rfl, h⟩
  · exact .inl ⟨_, rfl, h⟩
  · exact h.elim
end
end L2
namespace L2
open PySem PySem.Spec PyProof.Rows
section
variable {prog : Program} {w : World} {A : Around} {E : Value → Shared → Prop}
end
section
variable {X : Cx} {es : List Expr} {pos : Pos}
def fGLst (n : Nat) (t : TGs) : TG := fun v σ H Q => match v with
  | .ref a => match H a with
    | some (.lst xs) => xs.length = n ∧ t xs σ H Q
    | _ => False
  | _ => False
end
end L2
namespace L2
open PySem PySem.Spec PyProof.Rows
def TrD (h B : Heap) (x : Addr) (cl : Value) (dd : Option Addr) (fl : Value) : Prop :=
  ∃ ox ws T oT ts, h.get? x = some ox ∧ ox.cls = cl ∧ ox.dict = dd ∧ ox.data = .fields ws ∧ ws[1]? = some (.ref T) ∧ B.get? T = none ∧ T ≠ x ∧ h.get? T = some oT ∧ oT.data = .fields ts ∧ ts[3]? = some fl ∧ (dd ≠ none → ws[2]? = some .none)
structure FlyD (B : Heap) (l : List Env) (x : Addr) (cl : Value) (dd : Option Addr) (fl : Value) (h : Heap) : Prop where
  stays : B.StaysIn h
  new : B.get? x = none
  funs : h.FunFrames B l
  tr : TrD h B x cl dd fl
theorem FlyD.tail {B : Heap} {env : Env} {l : List Env} {x : Addr} {cl : Value} {dd : Option Addr} {fl : Value} {h : Heap} (f : FlyD B (env :: l) x cl dd fl h) : FlyD B l x cl dd fl h := ⟨f.stays, f.new, f.funs.2.2, f.tr⟩
theorem FlyD.there {B : Heap} {l : List Env} {x : Addr} {cl : Value} {dd : Option Addr} {fl : Value} {h : Heap} (f : FlyD B l x cl dd fl h) : ∃ ox ws, h.get? x = some ox ∧ ox.cls = cl ∧ ox.dict = dd ∧ ox.data = .fields ws := by
  obtain ⟨ox, ws, _, _, _, h1, h2, h3, h4, _⟩ := f.tr
  exact ⟨ox, ws, h1, h2, h3, h4⟩
section
variable {M : Model} {A : Around} {E : Value → Shared → Prop} {s : Shared} {B : Heap} {env : Env} {l : List Env} {L x : Addr} {cl : Value} {dd : Option Addr} {Q : Unit → Shared → Prop}
theorem entryD {head : Value} {had : Bool} {ox : Obj} {ws : Array Value} (fr : A.frames = some (env :: l)) (fu : s.heap.FunFrames B (env :: l)) (ef : env.frame = some L) (gx : s.heap.get? x = some ox) (st : B.StaysIn s.heap) (nx : B.get? x = none)
    (dx : ox.data = .fields ws) (sz : 1 < ws.size) (w2 : ox.dict ≠ none → ws[2]? = some .none) (k : ∀ h', FlyD B (env :: l) x ox.cls ox.dict (rawInt L) h' → s.heap.UpToSlots h' → Q () { s with heap := h' }) :
    wpAny M A (do let a ← frameOf env; let pl ← entryPlaceOf L had; let b ← EntryCells.newEntry head a .none (rawInt L) .none pl; setField (.ref x) 1 b) Q E s := by
  have xf : x ∉ (env :: l).filterMap (·.frame) := fun z => by
    obtain ⟨_, o, go, no⟩ := fu.mem z
    rw [gx] at go
    cases go
    exact no ws dx
  refine wpAny_bind (wpAny_frameOf_fun fr fu ef fun h1 z1 => wpAny_bind (wpAny_entryPlaceOf fun pl hp => ?_))
  unfold EntryCells.newEntry newFields
  refine wpAny_bind (wpAny_newObj_type ?_ (hp.sizeOk5 _ _ _ _ _))
  have g1 : h1.get? x = some ox := (z1.2.1 x xf).trans gx
  have s1 : B.StaysIn h1 := fun b o q => (z1.2.1 b fun z => by rw [(fu.mem z).1] at q; cases q).trans (st b o q)
  generalize hN : ({ cls := .type "traceback", dict := none, data := .fields ([head, .ref L, .none, rawInt L, .none] ++ (if pl.isEmpty then List.replicate 6 Value.none else pl)).toArray } : Obj) = oN
  have g2 := Heap.get?_push_of_some (h := h1) oN g1
  refine wpAny_setField g2 dx sz (k _ ?_ ?_)
  all_goals
    have ne : h1.objs.size ≠ x := Nat.ne_of_gt (Heap.lt_size g1)
    have kp : ∀ b o, b ≠ x → h1.get? b = some o → ((h1.push oN).update x (Obj.mapFields (·.setIfInBounds 1 (Value.ref h1.objs.size)))).get? b = some o := fun b o n q => by
      rw [Heap.get?_update_other _ _ (Ne.symm n)]; exact Heap.get?_push_of_some _ q
    have nr : ∀ b o, s.heap.get? b = some o → (∀ vs, o.data ≠ .fields vs) → b ≠ x := fun b o q n z => by
      rw [z, gx] at q; cases q; exact n ws dx
  · refine ⟨fun b o q => kp b o (fun z => by rw [z, nx] at q; cases q) (s1 b o q), nx, fu.of_keeps fun b o q n => ?_, ?_⟩
    · obtain ⟨sl, e⟩ := z1.2.2 b o q
      exact ⟨_, kp b _ (nr b o q n) e, rfl⟩
    · have d3 := Obj.data_mapFields dx (·.setIfInBounds 1 (Value.ref h1.objs.size))
      have g3 := Heap.get?_update_self (Obj.mapFields (·.setIfInBounds 1 (Value.ref h1.objs.size))) g2 (Obj.isFreed_of_fields d3)
      have gT := (Heap.get?_update_other (h1.push oN) (Obj.mapFields (·.setIfInBounds 1 (Value.ref h1.objs.size))) (Ne.symm ne)).trans (Heap.get?_push_size h1 (by rw [← hN]; rfl))
      refine ⟨_, _, h1.objs.size, _, _, g3, Obj.cls_mapFields _ _, ?_, d3, by simp [sz], s1.fresh, ne, gT, by rw [← hN], ?_, fun z => ?_⟩
      · obtain ⟨c, d, dt, sl⟩ := ox
        dsimp only at dx
        subst dx
        rfl
      · first | (simp; done) | (rcases hp with rfl | ⟨_, _, _, _, _, _, _, rfl⟩ <;> simp)
      · rw [Array.getElem?_setIfInBounds_ne (by decide)]; exact w2 z
  · intro b o q n
    obtain ⟨sl, e⟩ := z1.2.2 b o q
    exact ⟨sl, kp b _ (nr b o q n) e⟩
theorem noteD0 {ox : Obj} {ws : Array Value} (fr : A.frames = some (env :: l)) (fu : s.heap.FunFrames B (env :: l)) (ef : env.frame = some L) (gx : s.heap.get? x = some ox) (st : B.StaysIn s.heap) (nx : B.get? x = none)
    (dx : ox.data = .fields ws) (h1 : ws[1]? = some .none) (w2 : ox.dict ≠ none → ws[2]? = some .none) (k : ∀ h', FlyD B (env :: l) x ox.cls ox.dict (rawInt L) h' → s.heap.UpToSlots h' → Q () { s with heap := h' }) : wpAny M A (noteFrame (.ref x) env) Q E s := by
  unfold noteFrame
  simp only [ef]
  refine wpAny_bind (wpAny_field gx dx h1 ?_)
  rw [if_neg (by decide)]
  exact entryD fr fu ef gx st nx dx (Array.getElem?_eq_some_iff.mp h1).1 w2 k
theorem noteD (fr : A.frames = some (env :: l)) (ef : env.frame = some L) (f : FlyD B (env :: l) x cl dd .none s.heap) (k : ∀ h', FlyD B (env :: l) x cl dd (rawInt L) h' → s.heap.UpToSlots h' → Q () { s with heap := h' }) :
    wpAny M A (noteFrame (.ref x) env) Q E s := by
  obtain ⟨st, nx, fu, ox, ws, T, oT, ts, gx, rfl, rfl, dx, w1, nT, ne, gT, dT, t3, w2⟩ := f
  unfold noteFrame
  simp only [ef]
  refine wpAny_bind (wpAny_field gx dx w1 ?_)
  rw [if_pos (show (Value.ref T != Value.none) = true by simp)]
  refine wpAny_bind (wpAny_field gT dT t3 ?_)
  rw [if_neg (show ¬ ((Value.none == rawInt L) = true) by simp [rawInt])]
  refine wpAny_bind (wpAny_setField gT dT (Array.getElem?_eq_some_iff.mp t3).1 ?_)
  have oth : ∀ b, b ≠ T → (s.heap.update T (Obj.mapFields (·.setIfInBounds 3 Value.none))).get? b = s.heap.get? b := fun b n => Heap.get?_update_other _ _ (Ne.symm n)
  have nr : ∀ b o, s.heap.get? b = some o → (∀ vs, o.data ≠ .fields vs) → b ≠ T := fun b o q n z => by
    rw [z, gT] at q; cases q; exact n ts dT
  exact entryD fr (fu.of_keeps fun b o q n => ⟨o, (oth b (nr b o q n)).trans q, rfl⟩) ef ((oth x (Ne.symm ne)).trans gx) (fun b o q => (oth b fun z => by rw [z, nT] at q; cases q).trans (st b o q)) nx dx (Array.getElem?_eq_some_iff.mp w1).1 w2
    fun h' f' u => k h' f' fun b o q n => u b o ((oth b (nr b o q n)).trans q) n
theorem noteAgain (ef : env.frame = some L) (f : FlyD B l x cl dd (rawInt L) s.heap) (k : Q () s) : wpAny M A (noteFrame (.ref x) env) Q E s := by
  obtain ⟨st, nx, fu, ox, ws, T, oT, ts, gx, _, _, dx, w1, nT, ne, gT, dT, t3, w2⟩ := f
  unfold noteFrame
  simp only [ef]
  refine wpAny_bind (wpAny_field gx dx w1 ?_)
  rw [if_pos (show (Value.ref T != Value.none) = true by simp)]
  refine wpAny_bind (wpAny_field gT dT t3 ?_)
  rw [if_pos (show (rawInt L == rawInt L) = true by simp)]
  exact wpAny_pure k
theorem flightD {fl : Value} (of : Option Addr) (f : FlyD B l x cl dd fl s.heap) (k : ∀ h', FlyD B l x cl dd (of.elim Value.none fun a => rawInt a) h' → s.heap.UpToSlots h' → Q () { s with heap := h' }) : wpAny M A (setFlight (.ref x) of) Q E s := by
  obtain ⟨st, nx, fu, ox, ws, T, oT, ts, gx, c1, c2, dx, w1, nT, ne, gT, dT, t3, w2⟩ := f
  have sz : 3 < ts.size := (Array.getElem?_eq_some_iff.mp t3).1
  have oth : ∀ b, b ≠ T → (s.heap.update T (Obj.mapFields (·.setIfInBounds 3 (of.elim Value.none fun f => rawInt f)))).get? b = s.heap.get? b := fun b n => Heap.get?_update_other _ _ (Ne.symm n)
  have nr : ∀ b o, s.heap.get? b = some o → (∀ vs, o.data ≠ .fields vs) → b ≠ T := fun b o q n z => by
    rw [z, gT] at q; cases q; exact n ts dT
  unfold setFlight
  refine wpAny_bind (wpAny_field gx dx w1 ?_)
  rw [if_pos (show (Value.ref T != Value.none) = true by simp)]
  refine wpAny_setField gT dT sz (k _ ⟨fun b o q => (oth b fun z => by rw [z, nT] at q; cases q).trans (st b o q), nx, fu.of_keeps fun b o q n => ⟨o, (oth b (nr b o q n)).trans q, rfl⟩, ?_⟩ fun b o q n => ⟨o.slots, (oth b (nr b o q n)).trans q⟩)
  exact ⟨ox, ws, T, _, _, (oth x (Ne.symm ne)).trans gx, c1, c2, dx, w1, nT, ne, Heap.get?_update_self _ gT (Obj.isFreed_of_fields (Obj.data_mapFields dT _)), Obj.data_mapFields dT _, by simp [sz], w2⟩
theorem leaveD0 {ox : Obj} {ws : Array Value} (fr : A.frames = some (env :: l)) (fu : s.heap.FunFrames B (env :: l)) (ef : env.frame = some L) (gx : s.heap.get? x = some ox) (st : B.StaysIn s.heap) (nx : B.get? x = none)
    (dx : ox.data = .fields ws) (h1 : ws[1]? = some .none) (w2 : ox.dict ≠ none → ws[2]? = some .none) (k : ∀ h', FlyD B l x ox.cls ox.dict .none h' → s.heap.UpToSlots h' → Q () { s with heap := h' }) : wpAny M A (leaving env (.ref x)) Q E s := by
  unfold leaving
  exact wpAny_bind (noteD0 fr fu ef gx st nx dx h1 w2 fun h1 f1 u1 => flightD none f1 fun h2 f2 u2 => k h2 f2.tail (u1.trans u2))
theorem leaveD (fr : A.frames = some (env :: l)) (ef : env.frame = some L) (f : FlyD B (env :: l) x cl dd .none s.heap) (k : ∀ h', FlyD B l x cl dd .none h' → s.heap.UpToSlots h' → Q () { s with heap := h' }) :
    wpAny M A (leaving env (.ref x)) Q E s := by
  unfold leaving
  exact wpAny_bind (noteD fr ef f fun h1 f1 u1 => flightD none f1 fun h2 f2 u2 => k h2 f2.tail (u1.trans u2))
theorem leaveDh (ef : env.frame = some L) (f : FlyD B (env :: l) x cl dd (rawInt L) s.heap) (k : ∀ h', FlyD B l x cl dd .none h' → s.heap.UpToSlots h' → Q () { s with heap := h' }) :
    wpAny M A (leaving env (.ref x)) Q E s := by
  unfold leaving
  exact wpAny_bind (noteAgain ef f (flightD none f fun h2 f2 u2 => k h2 f2.tail u2))
end
end L2
namespace L2
open PySem PySem.Spec PyProof.Rows
structure Df (X : Cx) : Prop where
  stk : X.stack = X.env :: X.outer
  fr : X.env.frame = some X.env.locals
  ex : X.ex = []
  fn : ∀ x, X.fn x = true
structure Cov (X : Cx) (B : Heap) (H : Hp) (h : Heap) : Prop where
  tr : ∀ b o, H b = some o → ∃ q, h.get? b = some q ∧ B.get? b = some q
  old : ∀ b o, X.s₀.heap.get? b = some o → b ∉ frs X.stack → ∃ q, h.get? b = some q ∧ B.get? b = some q
  pin : ∀ p ∈ X.pn, B.get? p.1 = some p.2
  cel : ∀ x c, X.env.cells.lookup x = some c → ∃ q, h.get? c = some q ∧ B.get? c = some q
theorem objOk_get {P : Program} {w : World} {H : Hp} {h : Heap} {a : Addr} {o : HO} (x : ObjOk P w H h a o) : ∃ q, h.get? a = some q := by
  cases o with
  | lst xs => obtain ⟨_, _, _, _, e⟩ := x; exact ⟨_, e⟩
  | tup xs => obtain ⟨_, _, _, q, e, _⟩ := x; exact ⟨_, e⟩
  | dK kvs => obtain ⟨_, _, _, _, o, _, _, e, _⟩ := x; exact ⟨_, e⟩
  | dT kvs => obtain ⟨_, _, _, _, o, _, _, e, _⟩ := x; exact ⟨_, e⟩
  | set S n => obtain ⟨o, _, _, _, e, _⟩ := x; exact ⟨_, e⟩
  | ins C dx fs => obtain ⟨_, _, _, e, _⟩ := x; exact ⟨_, e⟩
  | own y => exact x
  | xd fs => obtain ⟨_, ⟨_, _, _, e, _⟩, _⟩ := x; exact ⟨_, e⟩
  | rng lo hi => obtain ⟨_, _, _, e⟩ := x; exact ⟨_, e⟩
  | frz ob u => obtain ⟨e, _⟩ := x; exact ⟨_, e⟩
  | tbl ps => exact ⟨_, (show h.get? a = some _ from x)⟩
  | met f y => exact ⟨_, (show h.get? a = some _ from x)⟩
  | ext φ => exact x.2.1
theorem HOk.via {P : Program} {w : World} {H : Hp} {h B h' : Heap} (x : HOk P w H h) (c : ∀ b o, H b = some o → ∃ q, h.get? b = some q ∧ B.get? b = some q) (st : B.StaysIn h') : HOk P w H h' := fun a o e =>
  (x a o e).stay (fun b u hb q => by
    have hb' : ∃ o', H b = some o' := hb.elim (fun z => ⟨o, by rw [z]; exact e⟩) fun z => ⟨_, z⟩
    obtain ⟨o', e'⟩ := hb'
    obtain ⟨r, r1, r2⟩ := c b o' e'
    rw [q] at r1; cases r1
    exact st _ _ r2) (fun _ q => q) fun _ _ q => q
section
variable {X : Cx} {σ : St} {H : Hp} {s : Shared} {B h' : Heap}
theorem frs_stack (d : Df X) : frs X.stack = X.env.locals :: X.fs := by
  rw [d.stk]
  show List.filterMap _ _ = _
  rw [List.filterMap_cons, d.fr]
  rfl
theorem Inv.viaB (I : Inv X [] σ H s) (d : Df X) (c : Cov X B H s.heap) (st : B.StaysIn h') (u : s.heap.UpToSlots h') : Inv X [] σ H { s with heap := h' } := by
  have ex : ∀ b, b ∉ X.ex := fun b => by rw [d.ex]; exact List.not_mem_nil
  refine ⟨I.ok, I.os, I.bare, ⟨fun b o e n nb _ => ?_, fun b o e n hb _ => ?_, fun b o e n _ => I.base.free b o e n (ex b), fun b o e _ => ?_, I.base.tups, I.base.frzs, I.base.tbls⟩, ?_, fun x cc e => ?_, I.free, I.freeC, fun p hp => ?_, I.hok.via c.tr st, I.len⟩
  · have nl : b ≠ X.env.locals := Nat.ne_of_lt (Nat.lt_of_lt_of_le (Heap.lt_size e) I.ok.above)
    obtain ⟨q, q1, q2⟩ := c.old b o e (by rw [frs_stack d]; exact fun z => (List.mem_cons.mp z).elim nl nb)
    rw [I.base.keep b o e n nb (ex b)] at q1; cases q1
    exact st _ _ q2
  · obtain ⟨sl, e1⟩ := I.base.slot b o e n hb (ex b)
    obtain ⟨_, o1, g1, nf⟩ := I.funs.mem hb
    rw [e1] at g1; cases g1
    obtain ⟨sl2, e2⟩ := u b _ e1 nf
    exact ⟨sl2, e2⟩
  · by_cases hb : b ∈ frs X.stack
    · obtain ⟨_, o1, g1, nf⟩ := I.stack.mem hb
      obtain ⟨sl2, e2⟩ := u b _ g1 nf
      exact ⟨_, e2⟩
    · obtain ⟨q, _, q2⟩ := c.old b o e hb
      exact ⟨q, st _ _ q2⟩
  · obtain ⟨m, hn, hl⟩ := I.loc
    refine ⟨m, u.ns hn, fun i y v h1 h2 h3 => ?_⟩
    obtain ⟨w', r, lk⟩ := hl i y v h1 h2 h3
    refine ⟨w', r, lk.imp id fun ⟨k, cc, e1, o, ho, hd⟩ => ⟨k, cc, e1, ?_⟩⟩
    obtain ⟨q, q1, q2⟩ := c.cel y cc e1
    rw [ho] at q1; cases q1
    exact ⟨o, st _ _ q2, hd⟩
  · obtain ⟨v, o, ho, hd⟩ := I.cell x cc e
    obtain ⟨q, q1, q2⟩ := c.cel x cc e
    rw [ho] at q1; cases q1
    exact ⟨v, o, st _ _ q2, hd⟩
  · have hp' : p ∈ X.pn := by simpa using hp
    obtain ⟨_, p2⟩ := I.pin p hp
    exact ⟨st _ _ (c.pin p hp'), p2⟩
theorem Cov.next (c : Cov X B H s.heap) (st : B.StaysIn h') : Cov X B H h' := ⟨fun b o e => let ⟨q, _, q2⟩ := c.tr b o e; ⟨q, st _ _ q2, q2⟩, fun b o e n => let ⟨q, _, q2⟩ := c.old b o e n; ⟨q, st _ _ q2, q2⟩, c.pin, fun x cc e => let ⟨q, _, q2⟩ := c.cel x cc e; ⟨q, st _ _ q2, q2⟩⟩
theorem Inv.notfr (I : Inv X [] σ H s) (d : Df X) {y : Str} {c : Addr} (e : X.env.cells.lookup y = some c) : c ∉ frs X.stack := by
  rw [frs_stack d]
  intro z
  rcases List.mem_cons.mp z with z | z
  · exact I.cne y c e z
  · have := I.ok.cab y c (d.fn y) e
    obtain ⟨_, o, ho, _⟩ := I.ok.funs.mem z
    exact absurd (Nat.lt_of_lt_of_le (Heap.lt_size ho) this) (Nat.lt_irrefl _)
theorem cov_hide (I : Inv X [] σ H s) (d : Df X) {x : Addr} (hx : H x = none) (nx : X.s₀.heap.objs.size ≤ x) (px : ∀ p ∈ X.pn, p.1 ≠ x) (cx : ∀ y c, X.env.cells.lookup y = some c → c ≠ x) :
    Cov X (PySem.W.hideAll s.heap (x :: frs X.stack)) H s.heap ∧ (PySem.W.hideAll s.heap (x :: frs X.stack)).StaysIn s.heap ∧ (PySem.W.hideAll s.heap (x :: frs X.stack)).get? x = none ∧ s.heap.FunFrames (PySem.W.hideAll s.heap (x :: frs X.stack)) X.stack := by
  have hid : ∀ {b o}, s.heap.get? b = some o → b ≠ x → b ∉ frs X.stack → (PySem.W.hideAll s.heap (x :: frs X.stack)).get? b = some o := fun e n1 n2 => PySem.W.hideAll_get _ e fun z => (List.mem_cons.mp z).elim n1 n2
  refine ⟨⟨fun b o e => ?_, fun b o e nb => ?_, fun p hp => ?_, fun y c e => ?_⟩, fun b o e => PySem.W.of_hideAll _ e, PySem.W.hideAll_none _ (List.mem_cons_self ..), ?_⟩
  · obtain ⟨q, g⟩ : ∃ q, s.heap.get? b = some q := by
      have lt := I.hok.lt e
      have ok := I.hok b o e
      cases g : s.heap.get? b with
      | some q => exact ⟨q, rfl⟩
      | none => exact absurd g (by
          intro g
          exact (objOk_get ok).elim fun q z => by rw [g] at z; cases z)
    exact ⟨q, g, hid g (fun z => by rw [z, hx] at e; cases e) (fun z => by rw [I.stkFree b z] at e; cases e)⟩
  · obtain ⟨q, g⟩ := I.base.there b o e (by rw [d.ex]; exact List.not_mem_nil)
    exact ⟨q, g, hid g (Nat.ne_of_lt (Nat.lt_of_lt_of_le (Heap.lt_size e) nx)) nb⟩
  · obtain ⟨g, _, nl, nf, _⟩ := I.pin p (by simpa using hp)
    exact hid g (px p hp) (by rw [frs_stack d]; exact fun z => (List.mem_cons.mp z).elim nl nf)
  · obtain ⟨v, o, ho, _⟩ := I.cell y c e
    exact ⟨o, ho, hid ho (cx y c e) (I.notfr d e)⟩
  · have fu := I.stack
    have gen : ∀ l : List Env, (∀ b ∈ frs l, b ∈ frs X.stack) → s.heap.FunFrames X.base l → s.heap.FunFrames (PySem.W.hideAll s.heap (x :: frs X.stack)) l := by
      intro l
      induction l with
      | nil => intro _ _; trivial
      | cons env r ih =>
        intro sub f
        obtain ⟨k, ⟨L, o, ef, _, go, no⟩, fr⟩ := f
        have hm : L ∈ frs (env :: r) := by
          show L ∈ List.filterMap _ _
          rw [List.filterMap_cons, ef]
          exact List.mem_cons_self ..
        refine ⟨k, ⟨L, o, ef, PySem.W.hideAll_none _ (List.mem_cons_of_mem _ (sub L hm)), go, no⟩, ih (fun b hb => sub b ?_) fr⟩
        show b ∈ List.filterMap _ _
        rw [List.filterMap_cons]
        split
        · exact hb
        · exact List.mem_cons_of_mem _ hb
    exact gen X.stack (fun b hb => hb) fu
end
inductive Md (B : Heap) (l : List Env) (L x : Addr) (cl : Value) (dd : Option Addr) (h : Heap) : Prop where
  | new {ox : Obj} {ws : Array Value} : h.get? x = some ox → ox.cls = cl → ox.dict = dd → ox.data = .fields ws → ws[1]? = some .none → (dd ≠ none → ws[2]? = some .none) → B.StaysIn h → B.get? x = none → h.FunFrames B l → Md B l L x cl dd h
  | fly : FlyD B l x cl dd .none h → Md B l L x cl dd h
  | held : FlyD B l x cl dd (rawInt L) h → Md B l L x cl dd h
def XT (X : Cx) (EX : St → XK) : Value → Shared → Prop := fun e s' => ∃ (x : Addr) (cl : Value) (dd : Option Addr) (σ : St) (H : Hp) (B : Heap), e = .ref x ∧ Inv X [] σ H s' ∧ H x = none ∧ X.s₀.heap.objs.size ≤ x ∧ Cov X B H s'.heap ∧ EX σ cl dd H ∧ Md B X.stack X.env.locals x cl dd s'.heap
def CXE (P : Program) (w : World) : CXT := fun outer H s E e s' => ∃ (x : Addr) (cl : Value) (dd : Option Addr) (H' : Hp) (B : Heap), e = .ref x ∧ s'.os = s.os ∧ AllBare s'.gens ∧ Un (frs outer) [] H H' s.heap s'.heap ∧ HOk P w H' s'.heap ∧
  FlyD B outer x cl dd .none s'.heap ∧ H' x = none ∧ s.heap.objs.size ≤ x ∧ (∀ b o, H' b = some o → ∃ q, s'.heap.get? b = some q ∧ B.get? b = some q) ∧ (∀ b o, s.heap.get? b = some o → b ∉ frs outer → ∃ q, s'.heap.get? b = some q ∧ B.get? b = some q) ∧ E cl dd H'
def Cx.tr (X : Cx) (pins : List (Addr × Obj)) (EX : St → XK) : Cx := { X with pn := X.pn ++ pins, xe := XT { X with pn := X.pn ++ pins } EX }
theorem Cx.Ok.pn {X : Cx} (ok : X.Ok) (pn : List (Addr × Obj)) (E : Value → Shared → Prop) : ({ X with pn := pn, xe := E } : Cx).Ok :=
  ⟨ok.mod, ok.kind, ok.glob, ok.blt, ok.above, ok.inj, ok.has, ok.cab, ok.hd, ok.frames, ok.stk, ok.exf, ok.bs, ok.bsz, ok.noex, ok.exfs, ok.funs, ok.frf⟩
theorem Inv.tr {X : Cx} {pins : List (Addr × Obj)} {σ : St} {H : Hp} {s : Shared} (I : Inv X pins σ H s) (EX : St → XK) : Inv (X.tr pins EX) [] σ H s :=
  ⟨I.ok.pn _ _, I.os, I.bare, I.base, I.loc, I.cell, I.free, I.freeC, fun p hp => I.pin p (by
    have : p ∈ (X.pn ++ pins) ++ [] := hp
    simpa using this), I.hok, I.len⟩
theorem Inv.untr {X : Cx} {pins : List (Addr × Obj)} {σ : St} {H : Hp} {s : Shared} {EX : St → XK} (I : Inv (X.tr pins EX) [] σ H s) (ok : X.Ok) : Inv X pins σ H s :=
  ⟨ok, I.os, I.bare, I.base, I.loc, I.cell, I.free, I.freeC, fun p hp => I.pin p (by
    show p ∈ (X.pn ++ pins) ++ []
    simpa using hp), I.hok, I.len⟩
theorem Inv.nopins {X : Cx} {pins : List (Addr × Obj)} {σ : St} {H : Hp} {s : Shared} (I : Inv X pins σ H s) : Inv X [] σ H s :=
  ⟨I.ok, I.os, I.bare, I.base, I.loc, I.cell, I.free, I.freeC, fun p hp => I.pin p (by
    have : p ∈ X.pn := by simpa using hp
    exact List.mem_append_left _ this), I.hok, I.len⟩
theorem Inv.xe' {X : Cx} {pins : List (Addr × Obj)} {σ : St} {H : Hp} {s : Shared} {E : Value → Shared → Prop} (I : Inv X pins σ H s) : Inv { X with xe := E } pins σ H s := ⟨I.ok.wish E, I.os, I.bare, I.base, I.loc, I.cell, I.free, I.freeC, I.pin, I.hok, I.len⟩
theorem Df.tr {X : Cx} (d : Df X) (pins : List (Addr × Obj)) (EX : St → XK) : Df (X.tr pins EX) := ⟨d.stk, d.fr, d.ex, d.fn⟩
def PassesX (CX : CXT) (X : Cx) (EX : St → XK) : Prop := ∀ (pins : List (Addr × Obj)) (σ : St) (H : Hp) (s : Shared) (e : Value) (s' : Shared), Inv X pins σ H s → CX X.stack H s (EX σ) e s' → X.xe e s'
theorem passT {X : Cx} (d : Df X) {pins0 : List (Addr × Obj)} {EX : St → XK} : PassesX (CXE X.prog X.w) (X.tr pins0 EX) EX := by
  intro pins σ H s e s' I h
  obtain ⟨x, cl, dd, H', B, rfl, os, bare, un, hok, fl, hx, nx, c1, c2, q⟩ := h
  obtain ⟨hh, g, dr, t, os'⟩ := s'
  obtain rfl : os' = s.os := os
  have I0 := I.nopins
  have I2 : Inv (X.tr pins0 EX) [] σ H' ⟨hh, g, dr, t, s.os⟩ := I0.call (h' := hh) (g' := g) (d' := dr) (t' := t) (ch := []) un hok bare (fun b z => absurd z (by simp))
  have d' : Df (X.tr pins0 EX) := d.tr _ _
  refine ⟨x, cl, dd, σ, H', B, rfl, I2.xe', hx, Nat.le_trans I0.sz nx, ⟨c1, fun b o e nb => ?_, fun p hp => ?_, fun y c e => ?_⟩, q, .fly fl⟩
  · obtain ⟨o1, e1⟩ := I0.base.there b o e (by rw [d'.ex]; exact List.not_mem_nil)
    exact c2 b o1 e1 nb
  · obtain ⟨g1, _, nl, nf, _⟩ := I0.pin p (List.mem_append_left _ hp)
    obtain ⟨r, r1, r2⟩ := c2 p.1 p.2 g1 (by rw [frs_stack d']; exact fun z => (List.mem_cons.mp z).elim nl nf)
    obtain ⟨g2, _⟩ := I2.pin p (List.mem_append_left _ hp)
    rw [show hh.get? p.1 = some p.2 from g2] at r1; cases r1
    exact r2
  · obtain ⟨v, o, ho, _⟩ := I0.cell y c e
    exact c2 c o ho (I0.notfr d' e)
theorem ownT {X : Cx} (d : Df X) (fr : X.A.frames = some X.stack) {pins0 : List (Addr × Obj)} {EX : St → XK} : PassesOwn (model X.prog X.w) X.A X.env (X.tr pins0 EX).xe := by
  intro e s' h
  obtain ⟨x, cl, dd, σ, H, B, rfl, I, hx, nx, c, q, m⟩ := h
  have d' : Df ({ X with pn := X.pn ++ pins0 } : Cx) := ⟨d.stk, d.fr, d.ex, d.fn⟩
  have fr' : X.A.frames = some (X.env :: X.outer) := by rw [← d.stk]; exact fr
  have back : ∀ h1, FlyD B X.stack x cl dd (rawInt X.env.locals) h1 → s'.heap.UpToSlots h1 → cameBackBy (model X.prog X.w) X.A X.env (X.tr pins0 EX).xe (.ref x) { s' with heap := h1 } := by
    intro h1 f1 u1
    obtain ⟨ox, ws, T, oT, ts, gx, _, _, dx, w1, _⟩ := f1.tr
    show wpAny _ _ (field (.ref x) 1 >>= _) _ _ _
    refine wpAny_bind (wpAny_field gx dx w1 ?_)
    rw [if_neg (by simp)]
    refine flightD (s := { s' with heap := h1 }) X.env.frame f1 fun h2 f2 u2 => ?_
    rw [d.fr] at f2
    have u := u1.trans u2
    exact ⟨x, cl, dd, σ, H, B, rfl, I.viaB d' c f2.stays u, hx, nx, c.next f2.stays, q, .held f2⟩
  show wpAny _ _ (noteFrame (.ref x) X.env) _ _ _
  have eqs : ∀ l, l = X.stack → l = X.env :: X.outer := fun l z => z.trans d.stk
  cases m with
  | new gx c1 c2 dx w1 w2 st nb fu =>
    rw [show ({ X with pn := X.pn ++ pins0 } : Cx).stack = X.env :: X.outer from d.stk] at fu
    subst c1; subst c2
    refine noteD0 fr' fu d.fr gx st nb dx w1 w2 fun h1 f1 u1 => back h1 (by rw [d.stk]; exact f1) u1
  | fly f =>
    rw [show ({ X with pn := X.pn ++ pins0 } : Cx).stack = X.env :: X.outer from d.stk] at f
    exact noteD fr' d.fr f fun h1 f1 u1 => back h1 (by rw [d.stk]; exact f1) u1
  | held f => exact noteAgain d.fr f (back s'.heap f (Heap.UpToSlots.refl _))
theorem leaveT {X : Cx} (d : Df X) (fr : X.A.frames = some X.stack) {EX : St → XK} {E : XK} (hE : ∀ σ cl dd H, EX σ cl dd H → E cl dd H) {e : Value} {s' : Shared} {E' : Value → Shared → Prop} (h : XT X EX e s') :
    wpAny (model X.prog X.w) X.A (leaving X.env e) (fun _ s'' => CXE X.prog X.w X.outer X.H₀ X.s₀ E e s'') E' s' := by
  obtain ⟨x, cl, dd, σ, H, B, rfl, I, hx, nx, c, q, m⟩ := h
  have fr' : X.A.frames = some (X.env :: X.outer) := by rw [← d.stk]; exact fr
  have fin : ∀ h1, FlyD B X.outer x cl dd .none h1 → s'.heap.UpToSlots h1 → CXE X.prog X.w X.outer X.H₀ X.s₀ E (.ref x) { s' with heap := h1 } := by
    intro h1 f1 u1
    have J := I.viaB d c f1.stays u1
    have c' := c.next f1.stays
    have un := J.base
    rw [d.ex] at un
    refine ⟨x, cl, dd, H, B, rfl, J.os, J.bare, un, J.hok, f1, hx, nx, c'.tr, fun b o e nb => c'.old b o e ?_, hE _ _ _ _ q⟩
    rw [frs_stack d]
    exact fun z => (List.mem_cons.mp z).elim (Nat.ne_of_lt (Nat.lt_of_lt_of_le (Heap.lt_size e) J.ok.above)) nb
  cases m with
  | new gx c1 c2 dx w1 w2 st nb fu =>
    rw [d.stk] at fu
    subst c1; subst c2
    exact leaveD0 fr' fu d.fr gx st nb dx w1 w2 fun h1 f1 u1 => fin h1 f1 u1
  | fly f =>
    rw [d.stk] at f
    exact leaveD fr' d.fr f fun h1 f1 u1 => fin h1 f1 u1
  | held f =>
    rw [d.stk] at f
    exact leaveDh d.fr f fun h1 f1 u1 => fin h1 f1 u1
end L2
namespace L2
open PySem PySem.Spec PyProof.Rows
section
variable {X : Cx} {CX : CXT} {k : Nat} {f : Addr} {fd : FuncData} {ps : List Str} {sp : Sp} {EX : St → XK} {x : Str} {p pos : Pos} {e : Expr} {es : List Expr} {t : TA} {ds : List Value} {dvs : List V}
def tCallX (sp : Sp) (dvs : List V) (EX : St → XK) (t : TA) : TE := fun σ H Q => t σ H fun vs H1 => sp (vs ++ dvs) H1 Q (EX σ)
theorem pe_callX (F : FnOk X.prog X.w X.K X.mg X.base CX k f fd ps sp) (hr : Room k X.A) (hg : Gl X x) (hm : X.mg x = some (.ref f)) (hk : PySem.W.keepIn X.K (.ref f) = true) (hb : Binds X.K fd ps ds) (hd : Vals dvs ds) (hx : PassesX CX X EX)
    (ha : PA X (e :: es) t) (hdb : (x == ("__debug__" : Str)) = false := by decide) (he : starEach (e :: es) X.env = (false, eval e X.env) :: starEach es X.env := by rfl) (hpl : (backTo pos (starEach es X.env)).any (·.1) = false := by rfl) :
    PE X (.Call (.Name x p) (e :: es) [] pos) (tCallX sp dvs EX t) := by
  intro pins s σ H Q I h
  refine wpAny_Call_Name_kw (ld_glob I hg hm ?_ hdb)
  refine PySem.W.callWith_K (h₀ := X.base) I.ok.mod.kin hk (thn (ha pos pins s σ H _ I h) fun us s1 ⟨vs, H1, I1, r, q⟩ => ⟨I1.kIn, ?_⟩) he hpl
  have r2 : Vals (vs ++ dvs) (us ++ ds) := r.append hd
  have hl : (us ++ ds).length = ps.length := by rw [← r2.length]; exact F.len _ _ _ _ q
  refine wpAny_call (codeAny_mono (F.run X.A X.stack s1 H1 ⟨us, []⟩ (us ++ ds) (vs ++ dvs) Q (EX σ) hr I1.env0 (hb s1 us I1.kIn hl) r2 q) fun rr s' hq => ?_)
  cases rr with
  | error e => exact hx pins σ H1 s1 e s' I1 hq
  | ok fl =>
    cases fl with
    | ret u => exact I1.after hq
    | next => exact False.elim hq
    | brk => exact False.elim hq
    | cont => exact False.elim hq
end
theorem Inv.tr0 {X : Cx} {pins : List (Addr × Obj)} {σ : St} {H : Hp} {s : Shared} (I : Inv X pins σ H s) (EX : St → XK) : Inv (X.tr [] EX) pins σ H s :=
  ⟨I.ok.pn _ _, I.os, I.bare, I.base, I.loc, I.cell, I.free, I.freeC, fun p hp => I.pin p (by
    have : p ∈ (X.pn ++ []) ++ pins := hp
    simpa using this), I.hok, I.len⟩
theorem Inv.untr0 {X : Cx} {pins : List (Addr × Obj)} {σ : St} {H : Hp} {s : Shared} {EX : St → XK} (I : Inv (X.tr [] EX) pins σ H s) (ok : X.Ok) : Inv X pins σ H s :=
  ⟨ok, I.os, I.bare, I.base, I.loc, I.cell, I.free, I.freeC, fun p hp => I.pin p (by
    show p ∈ (X.pn ++ []) ++ pins
    simpa using hp), I.hok, I.len⟩
theorem SP.untr0 {X : Cx} {pins : List (Addr × Obj)} {EX : St → XK} {D : Ends} {fl : Flow} {s' : Shared} (ok : X.Ok) (h : SP (X.tr [] EX) pins D fl s') : SP X pins D fl s' := by
  cases fl with
  | ret u => obtain ⟨v, σ', H', J, r, q⟩ := h; exact ⟨v, σ', H', J.untr0 ok, r, q⟩
  | next => obtain ⟨σ', H', J, q⟩ := h; exact ⟨σ', H', J.untr0 ok, q⟩
  | brk => obtain ⟨σ', H', J, q⟩ := h; exact ⟨σ', H', J.untr0 ok, q⟩
  | cont => obtain ⟨σ', H', J, q⟩ := h; exact ⟨σ', H', J.untr0 ok, q⟩
section
variable {P : Program} {w : World} {K : PySem.W.Frag} {mg : Str → Option Value} {base : Heap}
theorem df_of (CX : CXT) (N : List Str) (qual : Str) (sc : Scope) (f : Addr) (cd : Value) (A : Around) (outer : List Env) (s : Shared) (H : Hp) (E : XK) : Df (cxOf CX P w K mg base N qual sc f cd A outer s H E) := ⟨rfl, rfl, rfl, fun _ => rfl⟩
theorem Fun.okX {x qual : Str} {st : Stmt} {f : Addr} {fd : FuncData} {N ps : List Str} {k : Nat} {sp : Sp} (F : Fun K x qual st f fd) (S : FnScope N ps (defScope st)) (len : ∀ vs H Q E, sp vs H Q E → vs.length = ps.length)
    (hbody : ∀ (cdv : Value) (A : Around) (outer : List Env) (s : Shared) (H : Hp) (vs : List V) (Q : VK) (E : XK), Room k (A.deeper (envOfC qual (defScope st) s.heap.objs.size f cdv)) → sp vs H Q E →
      ∃ t, PSs ((cxOf (CXE P w) P w K mg base N qual (defScope st) f cdv A outer s H E).tr [] fun _ => E) (defBody st) t ∧ t { nx := fun _ H' => Q .non H', rt := Q } (start N vs) H) : FnOk P w K mg base (CXE P w) (k + 1) f fd ps sp := by
  obtain ⟨oc, od, kV, doc, pm, an, cdv, ct, osl, rfl, lk, hcd⟩ := F.ex
  refine fn_of lk hcd S len fun A outer s H vs Q E hr hsp => ?_
  obtain ⟨t, h, q⟩ := hbody cdv A outer s H vs Q E hr hsp
  refine ⟨t, fun pins s1 σ H1 D I hw => ?_, q⟩
  refine wpAny_mono (h pins s1 σ H1 D (I.tr0 _) hw) (fun fl s2 z => z.untr0 I.ok) fun e s2 z => ?_
  have d := df_of (P := P) (w := w) (K := K) (mg := mg) (base := base) (CXE P w) N qual (defScope st) f cdv A outer s H E
  have z' : XT (cxOf (CXE P w) P w K mg base N qual (defScope st) f cdv A outer s H E) (fun _ => E) e s2 := z
  exact leaveT (EX := fun _ => E) (E := E) d I.ok.frames (fun _ _ _ _ q => q) z'
end
theorem nsSome_of {K : PySem.W.Frag} {h : Heap} {N : Addr} {mN : Str → Option Value} {n : Str} {v : Value} (X : K.In h) (G : h.Ns N mN) (e : PySem.W.nsIn K N n = some (some v)) : mN n = some v := by
  obtain ⟨o, es, ep, ho, hd, _, hf⟩ := G
  unfold PySem.W.nsIn at e
  split at e
  · rename_i c d es' n' sl q
    have z := X _ _ q
    rw [ho] at z
    cases z
    cases hd
    split at e
    · rename_i en he
      cases e
      rw [← hf]
      unfold nsFind findBy
      rw [← Array.find?_toList, he]
      rfl
    · split at e <;> cases e
  · cases e
def xinIn (K : PySem.W.Frag) (C : Addr) (bmB : List Value) (newId : String) (fI : Addr) : Bool := match K.lookup C with
  | some ⟨.type "type", _, .cls cd, sl⟩ => (match cd.mro, sl.toList with
    | .ref C' :: bm, [_, _, _, _, some (.builtin n), _] => C' == C && n == newId && !cd.hasDel && cd.hasDict && PySem.W.tailIn K bmB bm && PySem.W.nsOkIn K cd.ns && PySem.W.nsIn K cd.ns "__init__" == some (some (.ref fI))
    | _, _ => false)
  | _ => false
structure XC (C : Addr) (bmB : List Value) (newId : String) (fI : Addr) (h : Heap) : Prop where
  ex : ∃ (bm : List Value) (N : Addr) (nm q : Str) (bs : List Value) (sn : List Str) (sub : List Value) (ab : Bool) (col : Option Bool) (dd : Option Addr) (k0 k1 k2 k3 k5 : Option Value) (mN : Str → Option Value),
    h.get? C = some (excClassObj nm q C N bs bm true sn sub ab col dd k0 k1 k2 k3 k5 newId) ∧ h.Ns N mN ∧ mN "__init__" = some (.ref fI) ∧ OwnTail h bmB bm
theorem xc_of {K : PySem.W.Frag} {h : Heap} {C fI : Addr} {bmB : List Value} {newId : String} (X : K.In h) (q : xinIn K C bmB newId fI = true) : XC C bmB newId fI h := by
  unfold xinIn at q
  split at q
  · rename_i dd cd sl ho
    split at q
    · rename_i C' bm k0 k1 k2 k3 n k5 hm hs
      simp only [Bool.and_eq_true, beq_iff_eq, Bool.not_eq_true'] at q
      obtain ⟨⟨⟨⟨⟨⟨rfl, rfl⟩, hdel⟩, hdi⟩, ht⟩, hok⟩, hni⟩ := q
      obtain ⟨nm, bs, mro, ns, qn, hd, sn, sub, ab, col, del⟩ := cd
      dsimp only at hm hdel hok hni hdi
      subst hm hdel hdi
      have hsl : sl = #[k0, k1, k2, k3, some (.builtin n), k5] := by
        obtain ⟨l⟩ := sl
        simp only at hs
        rw [hs]
      subst hsl
      have G : h.Ns ns (h.nsMap ns) := .of_isNs (PySem.W.isNs_of_in X hok)
      exact ⟨bm, ns, nm, qn, bs, sn, sub, ab, col, dd, k0, k1, k2, k3, k5, _, X _ _ ho, G, nsSome_of X G hni, PySem.W.tail_of_in X ht⟩
    · cases q
  · cases q
section
variable {prog : Program} {w : World} {A : Around} {E : Value → Shared → Prop} {h : Heap} {g : Array GenState} {d : Drawn} {t : Nat} {os : OsState}
variable {nm q : Str} {C N : Addr} {bs bm bmB : List Value} {hdct : Bool} {sn : List Str} {sub : List Value} {ab : Bool} {col : Option Bool} {dd : Option Addr} {k0 k1 k2 k3 k5 : Option Value} {B newId initId : String}
theorem xmake0 (F : ExcBaseFacts B newId initId bmB) (T : OwnTail h bmB bm) {mN : Str → Option Value} {us : List Value} {fI : Addr} {oI : Obj} {Q : Fin → Shared → Prop}
    (hC : h.get? C = some (excClassObj nm q C N bs bm hdct sn sub ab col dd k0 k1 k2 k3 k5 newId)) (hn : h.Ns N mN) (hi : mN "__init__" = some (.ref fI)) (hf : h.get? fI = some oI) (hc : oI.cls = .type "function") (hl : us.length ≤ sizeLine)
    (k : wpAny (model prog w) A (call (.ref fI) (.ref (h.objs.size + 1) :: us)) (fun r s' => r = .none ∧ Q (.done (.ret (.ref (h.objs.size + 1)))) s') E
      ⟨(h.push { cls := .type "tuple", data := .seq us.toArray }).push { cls := .ref C, data := .fields #[.ref h.objs.size, .none, .none, .none, .bool false, .none] }, g, d, t, os⟩) :
    wpAny (model prog w) A (Builtin.«type.__call__» ⟨.ref C :: us, []⟩) Q E ⟨h, g, d, t, os⟩ := by
  repeat (first | with_reducible refine wpAny_loadPart_at hC ?_ | with_reducible refine wpAny_madeBy_exc hC ?_ | wp_step)
  refine codeAny_call_builtin_code (Code.quiet_builtin _ F.quiet) (wpAny_check_new_subT F T hC ?_)
  refine codeAny_exc_new_subT F T hC ?_ hl
  show wpAny _ _ _ _ _ _
  generalize hT : ({ cls := .type "tuple", data := .seq us.toArray } : Obj) = oT at k ⊢
  generalize hX : ({ cls := .ref C, data := .fields #[.ref h.objs.size, .none, .none, .none, .bool false, .none] } : Obj) = oX at k ⊢
  have up : ∀ b o, h.get? b = some o → ((h.push oT).push oX).get? b = some o := fun b o e => Heap.get?_push_of_some _ (Heap.get?_push_of_some _ e)
  have gX : ((h.push oT).push oX).get? (h.objs.size + 1) = some oX := Heap.get?_push_at (by rw [Heap.size_push]) (by rw [← hX]; rfl)
  have cX : oX.cls = .ref C := by rw [← hX]
  have T2 := T.keeps up
  have hC2 := up _ _ hC
  have hn2 := hn.keeps up
  generalize (h.push oT).push oX = h2 at k gX T2 hC2 hn2 up ⊢
  have hcC : (Value.ref C :: bm).contains (.ref C) = true := by simp
  unfold isInstance
  repeat (first | (with_reducible refine wpAny_loadPart_at gX ?_; rw [cX]) | (with_reducible refine wpAny_isSubtype_exc hC2 ?_; rw [hcC]) | wp_step)
  show wpAny _ _ (typeLookup (.ref C) _) _ _ _
  refine wpAny_typeLookup_tail hC2 hn2 T2 F.mroIs F.init.lookup ?_
  rw [hi]
  refine wpAny_holding (wpAny_bind ?_)
  unfold bindSpecial
  refine wpAny_bind (wpAny_typeOf (T := "function") ⟨_, up _ _ hf, hc⟩ ?_)
  rw [if_pos (by decide)]
  refine wpAny_pure (wpAny_bind (wpAny_mono k (fun r s' hr => ?_) fun _ _ z => z))
  obtain ⟨rfl, hQ⟩ := hr
  wp_walk
  exact hQ
theorem xmake (F : ExcBaseFacts B newId initId bmB) {us : List Value} {fI : Addr} {oI : Obj} {Q : Value → Shared → Prop} (c : XC C bmB newId fI h) (hf : h.get? fI = some oI) (hc : oI.cls = .type "function") (hl : us.length ≤ sizeLine)
    (k : wpAny (model prog w) (A.under (.builtin "type.__call__" ⟨.ref C :: us, []⟩)) (call (.ref fI) (.ref (h.objs.size + 1) :: us)) (fun r s' => r = .none ∧ Q (.ref (h.objs.size + 1)) s') E
      ⟨(h.push { cls := .type "tuple", data := .seq us.toArray }).push { cls := .ref C, data := .fields #[.ref h.objs.size, .none, .none, .none, .bool false, .none] }, g, d, t, os⟩) :
    wpAny (model prog w) A (call (.ref C) us) Q E ⟨h, g, d, t, os⟩ := by
  obtain ⟨bm, N, nm, q, bs, sn, sub, ab, col, dd, k0, k1, k2, k3, k5, mN, hC, hn, hi, T⟩ := c.ex
  have a1 := tc_lookup
  have a2 := tc_bind (.ref C)
  have ty : (⟨h, g, d, t, os⟩ : Shared).TypeIs (.ref C) "type" := ⟨_, hC, rfl⟩
  refine wpAny_call (codeAny_of_tree ?_)
  show wpAny _ _ (callAny (.ref C) _) _ _ _
  repeat (any_goals (first | assumption | with_reducible refine wpAny_loadPart_at hC ?_ | wp_step))
  refine ⟨rfl, ?_⟩
  exact codeAny_call_builtin_at (Code.quiet_builtin _ (by decide +kernel)) entry_typeCall (wpAny_check_type_call_sub hC (xmake0 F T hC hn hi hf hc hl k))
theorem xraise {M : Model} {s : Shared} {y : Sem Value} {env : Env} {fI : Addr} {Q : Flow → Shared → Prop} (hbase : bmB.contains (.type "BaseException") = true) (hh : A.handled = none)
    (k : wpAny M A y (fun v s1 => ∃ e dz a0, v = .ref e ∧ XC C bmB newId fI s1.heap ∧ s1.heap.get? e = some { cls := .ref C, dict := dz, data := .fields #[a0, .none, .none, .none, .bool false, .none] } ∧ E (.ref e) s1) E s) : wpAny M A (raiseStmt env (some y) none) Q E s := by
  unfold raiseStmt
  refine wpAny_bind (wpAny_mono k (fun v s1 h1 => ?_) fun _ _ z => z)
  obtain ⟨e, dz, a0, rfl, c, he, hE⟩ := h1
  obtain ⟨bm, N, nm, q, bs, sn, sub, ab, col, dd, k0, k1, k2, k3, k5, mN, hC, hn, hi, T⟩ := c.ex
  have hcB : (Value.ref C :: bm).contains (.type "BaseException") = true := by rw [List.contains_cons, T.hasType hbase, Bool.or_true]
  obtain ⟨hp, g, d, tk, os⟩ := s1
  repeat (first | with_reducible refine wpAny_loadPart_at he ?_ | with_reducible refine wpAny_loadPart_at hC ?_ | (with_reducible refine wpAny_isSubtype_exc hC ?_; rw [hcB]) | wp_step)
  exact wpAny_raiseNew_none hh hE
end
end L2
namespace L2
open PySem PySem.Spec PyProof.Rows Builtin Builtin.ObjectAttr
section
variable {prog : Program} {w : World} {A : Around} {E : Value → Shared → Prop} {h : Heap} {g : Array GenState} {d : Drawn} {t : Nat} {os : OsState} {C : Addr} {bmB : List Value} {B newId initId : String}
theorem xinit (F : ExcBaseFacts B newId initId bmB) {x fI : Addr} {dz : Option Addr} {t0 : Addr} {us : List Value} {Q : Value → Shared → Prop} (c : XC C bmB newId fI h)
    (he : h.get? x = some { cls := .ref C, dict := dz, data := .fields #[.ref t0, .none, .none, .none, .bool false, .none] }) (hl : us.length ≤ sizeLine)
    (k : ∀ h' (t1 : Addr), h'.get? x = some { cls := .ref C, dict := dz, data := .fields #[.ref t1, .none, .none, .none, .bool false, .none] } → (∀ b o, b ≠ x → h.get? b = some o → h'.get? b = some o) → h.objs.size ≤ h'.objs.size → Q .none ⟨h', g, d, t, os⟩) :
    wpAny (model prog w) A (call (.builtin initId) (.ref x :: us)) Q E ⟨h, g, d, t, os⟩ := by
  obtain ⟨bm, N, nm, q, bs, sn, sub, ab, col, dd, k0, k1, k2, k3, k5, mN, hC, hn, hi, T⟩ := c.ex
  refine wpAny_call (codeAny_call_builtin F.init.plain F.initEntry (wpAny_check_init_subT F T hC he rfl ?_))
  wp_walk
  refine k _ h.objs.size ?_ (fun b o n e => ?_) ?_
  · rw [Heap.get?_update_self _ (Heap.get?_push_of_some _ he) rfl]
    rfl
  · rw [Heap.get?_update_other _ _ (Ne.symm n)]
    exact Heap.get?_push_of_some _ e
  · first
      | (rw [Heap.size_update, Heap.size_push]; omega)
      | (simp only [Heap.size_push, Heap.size_update]; omega)
end
def isRefV : Value → Bool
  | .ref _ => true
  | _ => false
theorem isRefV.ex {v : Value} (h : isRefV v = true) : ∃ a, v = .ref a := by
  cases v <;> first | exact ⟨_, rfl⟩ | cases h
def refsThen (bm : List Value) : List Value → Bool
  | [] => false
  | v :: r => if isRefV v then refsThen bm r else v :: r == bm
abbrev bmV : List Value := [.type "ValueError", .type "Exception", .type "BaseException", .type "object"]
theorem refuse_refs (self : Value) : ∀ {l : List Value}, refsThen bmV l = true → refuseLoop self "__setattr__" l = pure ()
  | [], e => by cases e
  | v :: r, e => by
    unfold refsThen at e
    split at e
    · rename_i hv
      obtain ⟨c, rfl⟩ := isRefV.ex hv
      rw [refuseLoop_ref]
      exact refuse_refs self e
    · rw [beq_iff_eq.mp e]
      exact PySem.F.store_ValueError.passes self
theorem refs_has : ∀ {l : List Value}, refsThen bmV l = true → l.contains (.type "object") = true
  | [], e => by cases e
  | v :: r, e => by
    unfold refsThen at e
    split at e
    · rw [List.contains_cons, refs_has e, Bool.or_true]
    · rw [beq_iff_eq.mp e]; rfl
structure XA (K : PySem.W.Frag) (C : Addr) : Prop where
  cd : ∃ cd, PySem.W.clsIn K C = some cd ∧ refsThen bmV cd.mro = true ∧ cd.hasDict = true ∧ cd.mro.isEmpty = false
  sa : PySem.W.findIn K (.ref C) "__setattr__" = some (some (.builtin "object.__setattr__"))
abbrev xrec (C t0 : Addr) (dz : Option Addr) : Obj := { cls := .ref C, dict := dz, data := .fields #[.ref t0, .none, .none, .none, .bool false, .none] }
section
variable {prog : Program} {w : World} {A : Around} {E : Value → Shared → Prop} {s : Shared} {K : PySem.W.Frag} {x C t0 : Addr} {dz : Option Addr} {name : Str} {v : Value} {Q : Unit → Shared → Prop}
theorem xset_open (X : K.In s.heap) (c : XA K C) {ox : Obj} {od : Option Obj} (I : PySem.W.InstAt s.heap x ox C od) (hf : PySem.W.findIn K (.ref C) name = some none)
    (k : ∀ b tk, wpAny (model prog w) A.in1 (storeInOwnDict (.ref x) (.ref C) (.str name tk) name v b) (fun fin s' => match fin with | .done (.ret _) => Q () s' | _ => False) E { s with toks := s.toks + 1 }) :
    wpAny (model prog w) A (setAttr (.ref x) name v) Q E s := by
  obtain ⟨cd, hc, ho, hdi, ne⟩ := c.cd
  have SF := PySem.F.store_object
  refine PySem.W.set_plain X I c.sa ?_
  have sub : PySem.W.Looks (model prog w) s.heap (isInstance (.ref x) (.type "object")) true := I.type.andThen (PySem.W.looks_mroIn X (by unfold PySem.W.mroIn; rw [hc, Option.bind_some, if_neg (by rw [ne]; decide), refs_has ho]))
  refine codeAny_call_builtin SF.slot.plain SF.entry (@PySem.W.check_slot (model prog w) _ _ { s with toks := s.toks + 1 } "object.__setattr__" "object" "__setattr__" (.ref x) [.str name s.toks, v] [] _ SF.kind SF.split sub (SF.args (.ref x) (.str name s.toks) v) ?_)
  have hm : PySem.W.Looks (model prog w) s.heap (mroOf (.ref C)) cd.mro := (PySem.W.looks_clsIn X hc).andThen .now
  rw [PySem.W.osa_eq, refuse_eq]
  refine wpAny_bind (wpAny_bind (PySem.W.Looks.here (s := { s with toks := s.toks + 1 }) I.type (wpAny_bind (PySem.W.Looks.here (s := { s with toks := s.toks + 1 }) hm ?_))))
  rw [refuse_refs _ ho]
  refine wpAny_pure (wpAny_bind (PySem.W.Looks.here (s := { s with toks := s.toks + 1 }) I.type (wpAny_bind (PySem.W.Looks.here (s := { s with toks := s.toks + 1 }) (PySem.W.looks_findIn X hf) (wpAny_bind (wpAny_pure ?_))))))
  refine wpAny_mono (k _ _) (fun fin s' z => ?_) fun _ _ z => z
  rcases fin with (_ | _ | _ | _) | _ <;> first | exact z | exact z.elim
theorem xstore {h : Heap} {g : Array GenState} {d : Drawn} {t : Nat} {os : OsState} {dx : Addr} {tk : Tok} {A : Around} {mA : Str → Option Value} {ns : List Str} {Q : Fin → Shared → Prop} (hn : h.Ns1 dx mA) (hw : Within mA ns) (hz : ns.length ≤ 900)
    (k : ∀ h' tk', h'.Ns1 dx (fun y => if y = name then some v else mA y) → (∀ b, b ≠ dx → h'.get? b = h.get? b) → h.objs.size ≤ h'.objs.size → Q (.done (.ret .none)) ⟨h', g, d, tk', os⟩) :
    wpAny (model prog w) A (storeInDict dx (.str name tk) name v) Q E ⟨h, g, d, t, os⟩ := by
  unfold storeInDict newKeyGuard
  refine wpAny_bind (wpAny_pure (wpAny_bind (wpAny_nsSet1 hn fun h' hn' hs => ?_)))
  obtain ⟨oD, esD, epD, hoD, hdD, hcD⟩ := hn'.count (Within.cons name v hw)
  refine wpAny_bind (wpAny_lookBehind hoD (by rw [hdD]; exact pastItsLine_dict (Nat.le_trans hcD (by rw [List.length_cons, sizeLine_eq]; omega))) ?_)
  wp_walk
  exact k h' _ hn' (fun b n => hs.2 b n) (by first | exact hs.1 | exact Nat.le_of_eq hs.1.symm | exact Nat.le_of_eq hs.1)
theorem xset0 (X : K.In s.heap) (c : XA K C) (he : s.heap.get? x = some (xrec C t0 none)) (hf : PySem.W.findIn K (.ref C) name = some none)
    (k : ∀ h' tk, h'.get? x = some (xrec C t0 (some s.heap.objs.size)) → h'.Ns1 s.heap.objs.size (fun y => if y = name then some v else none) → (∀ b o, b ≠ x → s.heap.get? b = some o → h'.get? b = some o) → s.heap.objs.size ≤ h'.objs.size → Q () { s with heap := h', toks := tk }) :
    wpAny (model prog w) A (setAttr (.ref x) name v) Q E s := by
  refine xset_open X c (ox := xrec C t0 none) (od := none) ⟨he, rfl, rfl, trivial⟩ hf fun b tk => ?_
  obtain ⟨cd, hc, ho, hdi, ne⟩ := c.cd
  obtain ⟨h, g, d, t, os⟩ := s
  dsimp only at X he k ⊢
  have Lc : PySem.W.Looks (model prog w) h (classData C) cd := PySem.W.looks_clsIn X hc
  have hxs : x ≠ h.objs.size := Nat.ne_of_lt (Heap.lt_size he)
  unfold storeInOwnDict ownStreamTells
  refine wpAny_bind (wpAny_pure ?_)
  rw [if_neg (show ¬ (Value.ref C == Value.type "module") = true from fun z => by cases beq_iff_eq.mp z)]
  refine wpAny_bind ?_
  unfold ownDictForStores instanceDict
  refine wpAny_bind (wpAny_loadPart_at he ?_)
  dsimp only [xrec]
  refine wpAny_bind (PySem.W.Looks.here (s := ⟨h, g, d, t + 1, os⟩) Lc ?_)
  rw [hdi]
  rw [if_neg (by decide), if_neg (by simp [typeHasDict])]
  refine wpAny_bind (wpAny_alloc' ?_)
  refine wpAny_bind (wpAny_update' (Heap.get?_push_of_some _ he) ?_)
  refine wpAny_pure ?_
  have gd : ((h.push { cls := .type "dict", data := .dict #[] }).update x fun o => { cls := o.cls, dict := some h.objs.size, data := o.data, slots := o.slots }).get? h.objs.size = some { cls := .type "dict", data := .dict #[] } :=
    (Heap.get?_update_ne _ _ _ _ hxs.symm).trans (Heap.get?_push_at rfl rfl)
  have gx : ((h.push { cls := .type "dict", data := .dict #[] }).update x fun o => { cls := o.cls, dict := some h.objs.size, data := o.data, slots := o.slots }).get? x = some (xrec C t0 (some h.objs.size)) := by
    rw [Heap.get?_update_self _ (Heap.get?_push_of_some _ he) rfl]
  have ot : ∀ b o, b ≠ x → h.get? b = some o → ((h.push { cls := .type "dict", data := .dict #[] }).update x fun o => { cls := o.cls, dict := some h.objs.size, data := o.data, slots := o.slots }).get? b = some o := fun b o n e =>
    (Heap.get?_update_ne _ _ _ _ n).trans (Heap.get?_push_of_some _ e)
  have sz : h.objs.size ≤ ((h.push { cls := .type "dict", data := .dict #[] }).update x fun o => { cls := o.cls, dict := some h.objs.size, data := o.data, slots := o.slots }).objs.size := by
    first | (rw [Heap.size_update, Heap.size_push]; omega) | (simp only [Heap.size_push, Heap.size_update]; omega)
  generalize ((h.push { cls := .type "dict", data := .dict #[] }).update x fun o => { cls := o.cls, dict := some h.objs.size, data := o.data, slots := o.slots }) = h2 at gd gx ot sz ⊢
  have nd : h2.Ns h.objs.size (fun _ => none) := ⟨_, #[], _, gd, rfl, fun e he => absurd he (by simp), fun _ => rfl⟩
  refine xstore (Heap.Ns1.of_empty nd) Within.nil (by decide) fun h' tk' n' keep z => ?_
  exact k h' tk' ((keep x hxs).trans gx) n' (fun b o n e => (keep b (Nat.ne_of_lt (Heap.lt_size e))).trans (ot b o n e)) (Nat.le_trans sz z)
theorem xset1 {dx : Addr} {mA : Str → Option Value} {ns : List Str} (X : K.In s.heap) (c : XA K C) (he : s.heap.get? x = some (xrec C t0 (some dx))) (hn : s.heap.Ns1 dx mA) (hw : Within mA ns) (hz : ns.length ≤ 900) (hne : dx ≠ x) (hf : PySem.W.findIn K (.ref C) name = some none)
    (k : ∀ h' tk, h'.Ns1 dx (fun y => if y = name then some v else mA y) → (∀ b, b ≠ dx → h'.get? b = s.heap.get? b) → s.heap.objs.size ≤ h'.objs.size → Q () { s with heap := h', toks := tk }) :
    wpAny (model prog w) A (setAttr (.ref x) name v) Q E s := by
  obtain ⟨od, es, ep, hod, hdd⟩ := hn
  refine xset_open X c (ox := xrec C t0 (some dx)) (od := some od) ⟨he, rfl, rfl, hod⟩ hf fun b tk => ?_
  obtain ⟨cd, hc, ho, hdi, ne⟩ := c.cd
  obtain ⟨h, g, d, t, os⟩ := s
  dsimp only at X he k hod ⊢
  have Lc : PySem.W.Looks (model prog w) h (classData C) cd := PySem.W.looks_clsIn X hc
  unfold storeInOwnDict ownStreamTells
  refine wpAny_bind (wpAny_pure ?_)
  rw [if_neg (show ¬ (Value.ref C == Value.type "module") = true from fun z => by cases beq_iff_eq.mp z)]
  refine wpAny_bind ?_
  unfold ownDictForStores instanceDict
  refine wpAny_bind (wpAny_loadPart_at he ?_)
  dsimp only [xrec]
  refine wpAny_bind (PySem.W.Looks.here (s := ⟨h, g, d, t + 1, os⟩) Lc ?_)
  rw [hdi]
  rw [if_neg (by decide)]
  refine wpAny_pure ?_
  exact xstore (mA := mA) ⟨od, es, ep, hod, hdd⟩ hw hz fun h' tk' n' keep z => k h' tk' n' keep z
end
end L2
namespace L2
open PySem PySem.Spec PyProof.Rows
def exO (a C : Addr) (dd : Option Addr) : HO := .ext fun h => ∃ t0, h.get? a = some (xrec C t0 dd)
def xdO (a : Addr) (fs : List (Str × V)) : HO := .ext fun h => ∃ mA, h.Ns1 a mA ∧ (∀ f, RelO (fs.lookup f) (mA f)) ∧ Within mA (fs.map (·.1))
section
variable {P : Program} {w : World} {H : Hp} {h : Heap} {a C : Addr} {dd : Option Addr} {fs : List (Str × V)}
theorem exO_ok {t0 : Addr} (e : h.get? a = some (xrec C t0 dd)) : ObjOk P w H h a (exO a C dd) := ⟨⟨t0, e⟩, ⟨_, e⟩, fun _ _ ⟨t, q⟩ k => ⟨t, k _ q⟩⟩
theorem exO_get (e : ObjOk P w H h a (exO a C dd)) : ∃ t0, h.get? a = some (xrec C t0 dd) := e.1
theorem xdO_ok {mA : Str → Option Value} (n : h.Ns1 a mA) (r : ∀ f, RelO (fs.lookup f) (mA f)) (wi : Within mA (fs.map (·.1))) : ObjOk P w H h a (xdO a fs) := by
  obtain ⟨o, es, ep, e, q⟩ := id n
  exact ⟨⟨mA, n, r, wi⟩, ⟨o, e⟩, fun _ _ ⟨m, n1, r1, w1⟩ k => ⟨m, n1.at k, r1, w1⟩⟩
theorem xdO_get (e : ObjOk P w H h a (xdO a fs)) : ∃ mA, h.Ns1 a mA ∧ (∀ f, RelO (fs.lookup f) (mA f)) ∧ Within mA (fs.map (·.1)) := e.1
end
section
variable {X : Cx} {pins : List (Addr × Obj)} {σ : St} {H : Hp} {s : Shared} {h' : Heap} {x dx : Addr} {φ : Heap → Prop} {o1 o2 : HO} {t' : Nat}
theorem Inv.lay2 (I : Inv X pins σ H s) (hx : H x = some (.ext φ)) (hd : s.heap.objs.size ≤ dx) (k : ∀ b u, b ≠ x → s.heap.get? b = some u → h'.get? b = some u) (n1 : ObjOk X.prog X.w (upd (upd H dx o2) x o1) h' x o1) (n2 : ObjOk X.prog X.w (upd (upd H dx o2) x o1) h' dx o2)
    (e1 : ∃ u, h'.get? x = some u) : Inv X pins σ (upd (upd H dx o2) x o1) { s with heap := h', toks := t' } := by
  have fd : H dx = none := I.hok.fresh hd
  have nx : ∀ b, (∀ ψ, H b ≠ some (.ext ψ)) → b ≠ x := fun b n z => n φ (by rw [z]; exact hx)
  have nd : ∀ b u, s.heap.get? b = some u → b ≠ dx := fun b u e => Nat.ne_of_lt (Nat.lt_of_lt_of_le (Heap.lt_size e) hd)
  have ndH : ∀ b u, H b = some u → b ≠ dx := fun b u e z => by rw [z, fd] at e; cases e
  have keepH : ∀ b u, H b = some u → (∀ ψ, u ≠ .ext ψ) → upd (upd H dx o2) x o1 b = some u := fun b u e n => by
    rw [upd_ne (nx b fun ψ z => by rw [e] at z; exact n ψ (Option.some.inj z)), upd_ne (ndH b u e)]; exact e
  refine I.un ⟨fun b o e n _ _ => k b o (nx b (fun ψ z => by rw [n] at z; cases z)) e, fun b o e n _ _ => ⟨o.slots, k b o (nx b (fun ψ z => by rw [n] at z; cases z)) e⟩, fun b o e n _ => ?_, fun b o e _ => ?_, fun b xs e => keepH b _ e (fun ψ z => by cases z), fun b o u e => keepH b _ e (fun ψ z => by cases z),
    fun b ps e => ⟨#[], by rw [keepH b _ e (fun ψ z => by cases z)]; simp⟩⟩ fun b u e => ?_
  · rw [upd_ne (nx b (fun ψ z => by rw [n] at z; cases z)), upd_ne (nd b o e)]; exact n
  · by_cases q : b = x
    · rw [q]; exact e1
    · exact ⟨o, k b o q e⟩
  · by_cases q : b = x
    · subst q; rw [upd_same] at e; cases e; exact n1
    · rw [upd_ne q] at e
      by_cases q2 : b = dx
      · subst q2; rw [upd_same] at e; cases e; exact n2
      · rw [upd_ne q2] at e
        refine (I.hok b u e).stay (fun c v hc z => k c v ?_ z) (fun c z => keepH c _ z (fun ψ y => by cases y)) fun c xs z => keepH c _ z (fun ψ y => by cases y)
        rcases hc with z | z
        · rw [z]; exact q
        · exact nx c fun ψ y => by rw [z] at y; cases y
end
section
variable {X : Cx} {o value e : Expr} {es : List Expr} {f x : Str} {p pos pos' apos : Pos} {ta tv : TE} {t : TA} {C T : Addr} {bmB : List Value} {B newId initId : String} {fI : Addr}
def sXF (K : PySem.W.Frag) (C : Addr) (ta tv : TE) (f : Str) : TS := fun D σ H => tv σ H fun y H1 => ta σ H1 fun u H2 => ∃ a, u = .ref a ∧
  ((H2 a = some (exO a C none) ∧ ∀ dx, H2 dx = none → dx ≠ a → D.nx σ (upd (upd H2 dx (xdO dx [(f, y)])) a (exO a C (some dx)))) ∨
    ∃ dx fs, H2 a = some (exO a C (some dx)) ∧ H2 dx = some (xdO dx fs) ∧ dx ≠ a ∧ fs.length < 900 ∧ D.nx σ (upd H2 dx (xdO dx (putF f y fs))))
theorem ps_xfld (c : XA X.K C) (hf : PySem.W.findIn X.K (.ref C) f = some none) (ha : PE X o ta) (hv : PE X value tv) (hs : swapsWith value (some (.Attribute o f pos')) pos.line X.env = pure false) :
    PS X (.Assign [.Attribute o f pos'] value pos) (sXF X.K C ta tv f) := by
  intro pins s σ H D I h
  refine plainObj_wpAny_Assign_Attribute (thn (hv pins s σ H _ I h) fun u s1 ⟨y, H1, I1, ry, q⟩ => thn (ha pins s1 σ H1 _ I1 q) fun ov s2 ⟨xv, H2, I2, rx, a, ex, q2⟩ => ?_) hs
  subst ex
  obtain rfl : ov = Value.ref a := rx
  rcases q2 with ⟨ea, q2⟩ | ⟨dx, fs, ea, ed, ne, hl, q2⟩
  · obtain ⟨t0, ga⟩ := exO_get (I2.hok a _ ea)
    refine xset0 I2.kIn c ga hf fun h' tk gx nn kp sz => ?_
    have nd : s2.heap.objs.size ≠ a := Ne.symm (Nat.ne_of_lt (Heap.lt_size ga))
    refine ⟨σ, _, I2.lay2 (x := a) (dx := s2.heap.objs.size) (o1 := exO a C (some s2.heap.objs.size)) (o2 := xdO s2.heap.objs.size [(f, y)]) (t' := tk) ea (Nat.le_refl _) kp (exO_ok gx) (xdO_ok nn (fun g => ?_) fun g hg => ?_) ⟨_, gx⟩, q2 _ I2.fresh nd⟩
    · by_cases e : g = f
      · subst e; simp only [List.lookup, beq_self_eq_true, if_true]; exact ry
      · have : (g == f) = false := by rw [beq_eq_false_iff_ne]; exact e
        simp only [List.lookup, this, if_neg e]
        exact True.intro
    · by_cases e : g = f
      · rw [e]; exact List.mem_cons_self ..
      · exact absurd (if_neg e) hg
  · obtain ⟨t0, ga⟩ := exO_get (I2.hok a _ ea)
    obtain ⟨mA, n0, r0, w0⟩ := xdO_get (I2.hok dx _ ed)
    refine xset1 I2.kIn c ga n0 w0 (by rw [List.length_map]; omega) ne hf fun h' tk nn kp sz => ?_
    have gd : ∃ u, h'.get? dx = some u := let ⟨o, _, _, e', _⟩ := nn; ⟨o, e'⟩
    refine ⟨σ, _, I2.write (x := dx) (e := dx) (t' := tk) (o := xdO dx (putF f y fs)) (by rw [ed]; exact True.intro) (.inl rfl) (fun b q hb z => (kp b hb).trans z) gd (xdO_ok nn (fun g => ?_) fun g hg => ?_), q2⟩
    · rw [lookup_putF]
      by_cases e : g = f
      · rw [if_pos e, if_pos e]; exact ry
      · rw [if_neg e, if_neg e]; exact r0 g
    · by_cases e : g = f
      · rw [e]; exact (keys_putF f y fs).1
      · refine (keys_putF f y fs).2 g (w0 g fun z => hg ?_)
        rw [if_neg e]; exact z
def tXI (C : Addr) (t : TA) : TE := fun σ H Q => t σ H fun vs H1 => ∃ a rest dd, vs = .ref a :: rest ∧ H1 a = some (exO a C dd) ∧ rest.length ≤ sizeLine ∧ Q .non H1
structure XI (K : PySem.W.Frag) (T : Addr) (initId : String) : Prop where
  rd : PySem.W.readsIn K T (.type "type") = true
  sp : PySem.W.specialIn K (.ref T) "__getattribute__" = some (some (.builtin "type.__getattribute__"))
  at_ : PySem.W.findCls K (.ref T) (.type "type") "__init__" = some (.val (.builtin initId))
  hd : PySem.W.handedIn (.builtin initId) = true
theorem pe_xinit {pl : Sem Bool} (F : ExcBaseFacts B newId initId bmB) (c : XI X.K T initId) (hC : xinIn X.K C bmB newId fI = true) (hg : Gl X x) (hm : X.mg x = some (.ref T)) (ha : PA X (e :: es) t) (hdb : (x == ("__debug__" : Str)) = false := by decide)
    (hst : starEach (e :: es) X.env = (false, eval e X.env) :: starEach es X.env := by rfl) (hpl : (backTo pos (starEach es X.env)).any (·.1) = false := by rfl)
    (ht : eval (.Call (.Attribute (.Name x p) "__init__" apos) (e :: es) [] pos) X.env = (do
      let ov ← eval (.Name x p) X.env
      standAt apos.atName
      let (f, first) ← holding [ov] (getMethod ov "__init__" pl)
      callWith pos f first (backTo pos (starEach (e :: es) X.env)) (backToKw pos (keywordEach [] X.env))) := by rfl) :
    PE X (.Call (.Attribute (.Name x p) "__init__" apos) (e :: es) [] pos) (tXI C t) := by
  intro pins s σ H Q I h
  refine PySem.W.methodCall_KW (pl := pl) (ld_glob I hg hm ?_ hdb) ht
  refine PySem.W.method_cls I.kIn c.sp (PySem.W.cls_value I.kIn c.rd c.at_ c.hd ?_)
  have I0 := I.tok (s.toks + 1)
  refine PyProof.Rows.callWith_builtin1 (thn (ha pos pins _ σ H _ I0 h) fun us s2 ⟨vs, H2, I2, r, a, rest, dd, ev, ea, hl, q⟩ => ?_) hst hpl
  subst ev
  match us, r with
  | u1 :: us, .cons r1 r2 =>
    obtain rfl : u1 = Value.ref a := r1
    obtain ⟨t0, ga⟩ := exO_get (I2.hok a _ ea)
    obtain ⟨hh, g, d, tk, os⟩ := s2
    have hl2 : us.length ≤ sizeLine := by rw [← r2.length]; exact hl
    refine xinit F (xc_of I2.kIn hC) ga hl2 fun h' t1 gx kp sz => ?_
    have I3 := I2.write (h' := h') (x := a) (e := a) (t' := tk) (o := exO a C dd) (by rw [ea]; exact True.intro) (.inl rfl) (fun b u n z => kp b u n z) ⟨_, gx⟩ (exO_ok gx)
    have e : upd H2 a (exO a C dd) = H2 := by
      funext b
      by_cases z : b = a
      · subst z; rw [upd_same]; exact ea.symm
      · rw [upd_ne z]
    rw [e] at I3
    exact ⟨.non, H2, I3, rfl, q⟩
end
end L2
namespace L2
open PySem PySem.Spec PyProof.Rows
def del (H : Hp) (x : Addr) : Hp := fun b => if b = x then none else H b
theorem del_same {H : Hp} {x : Addr} : del H x x = none := if_pos rfl
theorem del_ne {H : Hp} {x b : Addr} (n : b ≠ x) : del H x b = H b := if_neg n
theorem del_none {H : Hp} {x b : Addr} (h : H b = none) : del H x b = none := by
  unfold del
  split
  · rfl
  · exact h
theorem Inv.drop {X : Cx} {pins : List (Addr × Obj)} {σ : St} {H : Hp} {s : Shared} {x : Addr} {φ : Heap → Prop} (I : Inv X pins σ H s) (hx : H x = some (.ext φ)) : Inv X pins σ (del H x) s := by
  have kp : ∀ b u, H b = some u → (∀ ψ, u ≠ .ext ψ) → del H x b = some u := fun b u e n => by
    rw [del_ne fun z => by rw [z, hx] at e; exact n φ (Option.some.inj e).symm]; exact e
  refine ⟨I.ok, I.os, I.bare, ⟨I.base.keep, I.base.slot, fun b o e n hb => del_none (I.base.free b o e n hb), I.base.there, fun b xs e => kp b _ (I.base.tups b xs e) (fun ψ z => by cases z), fun b o u e => kp b _ (I.base.frzs b o u e) (fun ψ z => by cases z), fun b ps e => ?_⟩, I.loc, I.cell, del_none I.free, fun y c e => del_none (I.freeC y c e),
    fun p hp => let ⟨a, b, c⟩ := I.pin p hp; ⟨a, del_none b, c⟩, fun b u e => ?_, I.len⟩
  · obtain ⟨m, e'⟩ := I.base.tbls b ps e
    exact ⟨m, kp b _ e' (fun ψ z => by cases z)⟩
  · have nb : b ≠ x := fun z => by rw [z, del_same] at e; cases e
    rw [del_ne nb] at e
    exact (I.hok b u e).stay (fun _ _ _ q => q) (fun c z => kp c _ z (fun ψ y => by cases y)) fun c xs z => kp c _ z (fun ψ y => by cases y)
def XO (X : Cx) (EX : St → XK) : Prop := ∀ e s', XT X EX e s' → X.xe e s'
theorem xo_tr {Y : Cx} {pins : List (Addr × Obj)} {EX : St → XK} : XO (Y.tr pins EX) EX := fun e s' ⟨x, cl, dd, σ, H, B, e1, I, hx, nx, c, q, m⟩ => ⟨x, cl, dd, σ, H, B, e1, I.xe', hx, nx, ⟨c.tr, c.old, c.pin, c.cel⟩, q, m⟩
section
variable {X : Cx} {EX : St → XK} {k : Nat} {fI C : Addr} {fd : FuncData} {ps : List Str} {sp : Sp} {x : Str} {p cpos pos : Pos} {e : Expr} {es : List Expr} {t : TA} {bmB : List Value} {B newId initId : String}
def sRaise (C : Addr) (sp : Sp) (EX : St → XK) (t : TA) : TS := fun _ σ H => t σ H fun vs H1 => vs.length ≤ sizeLine ∧ ∀ a, H1 a = none →
  sp (.ref a :: vs) (upd H1 a (exO a C none)) (fun v H2 => v = .non ∧ ∃ dd, H2 a = some (exO a C dd) ∧ EX σ (.ref C) dd (del H2 a)) E0
theorem ps_raise (F : ExcBaseFacts B newId initId bmB) (hC : xinIn X.K C bmB newId fI = true) (hfn : PySem.W.typeIn X.K (.ref fI) = some (.type "function")) (G : FnOk X.prog X.w X.K X.mg X.base CX0 k fI fd ps sp) (hb : Binds X.K fd ps []) (hr : Room (k + 1) X.A) (hg : Gl X x)
    (hm : X.mg x = some (.ref C)) (hk : PySem.W.keepIn X.K (.ref C) = true) (d : Df X) (xo : XO X EX) (ha : PA X (e :: es) t) (hdb : (x == ("__debug__" : Str)) = false := by decide)
    (he : starEach (e :: es) X.env = (false, eval e X.env) :: starEach es X.env := by rfl) (hpl : (backTo cpos (starEach es X.env)).any (·.1) = false := by rfl) :
    PS X (.Raise (some (.Call (.Name x p) (e :: es) [] cpos)) none pos) (sRaise C sp EX t) := by
  intro pins s σ H D I h
  rw [arm_exec_Raise]
  refine wpAny_bind (wpAny_standAt ?_)
  refine xraise (C := C) (bmB := bmB) (newId := newId) (fI := fI) F.hasBase hr.hd (wpAny_bind (wpAny_mono (wpAny_Call_Name_kw (ld_glob I hg hm ?_ hdb)) (fun v s3 h3 => wpAny_bind (wpAny_standAt (wpAny_pure h3))) fun _ _ z => z))
  refine PySem.W.callWith_K (h₀ := X.base) I.ok.mod.kin hk (thn (ha cpos pins s σ H _ I h) fun us s1 ⟨vs, H1, I1, r, hl, q⟩ => ⟨I1.kIn, ?_⟩) he hpl
  obtain ⟨h, g, dr, tk, os⟩ := s1
  obtain ⟨oI, gI, cI⟩ : ∃ oI, h.get? fI = some oI ∧ oI.cls = .type "function" := by
    obtain ⟨o, ho, hc⟩ := Option.map_eq_some_iff.mp (show (X.K.lookup fI).map (·.cls) = some (.type "function") from hfn)
    exact ⟨o, I1.kIn _ _ ho, hc⟩
  have hl2 : us.length ≤ sizeLine := by rw [← r.length]; exact hl
  refine xmake F (xc_of I1.kIn hC) gI cI hl2 ?_
  have hq := q (h.objs.size + 1) (I1.hok.fresh (Nat.le_succ _))
  have Ia := I1.kept (h' := h.push { cls := .type "tuple", data := .seq us.toArray }) (t' := tk) (fun b u z => Heap.get?_push_of_some _ z)
  have gx : ((h.push { cls := .type "tuple", data := .seq us.toArray }).push (xrec C h.objs.size none)).get? (h.objs.size + 1) = some (xrec C h.objs.size none) := Heap.get?_push_at (by rw [Heap.size_push]) rfl
  have Ib := Ia.laid (a := h.objs.size + 1) (o := exO (h.objs.size + 1) C none) (h' := (h.push { cls := .type "tuple", data := .seq us.toArray }).push (xrec C h.objs.size none)) (t' := tk) (fun b u z => Heap.get?_push_of_some _ z) (Nat.le_of_eq (Heap.size_push _ _)) (exO_ok gx)
  have r2 : Vals (V.ref (h.objs.size + 1) :: vs) (Value.ref (h.objs.size + 1) :: us) := .cons rfl r
  have hlen : (Value.ref (h.objs.size + 1) :: us).length = ps.length := by rw [← r2.length]; exact G.len _ _ _ _ hq
  have bd := hb _ (Value.ref (h.objs.size + 1) :: us) Ib.kIn (by rw [List.append_nil]; exact hlen)
  rw [List.append_nil] at bd
  refine wpAny_call (codeAny_mono (G.run _ X.stack _ _ ⟨Value.ref (h.objs.size + 1) :: us, []⟩ (Value.ref (h.objs.size + 1) :: us) _ _ E0 (hr.make C us []) (Ib.env0.make C us []) bd r2 hq) fun rr s' hq' => ?_)
  cases rr with
  | error e => exact pass0 pins σ _ _ e s' Ib hq'
  | ok fl =>
    cases fl with
    | next => exact False.elim hq'
    | brk => exact False.elim hq'
    | cont => exact False.elim hq'
    | ret u =>
      obtain ⟨v, H2, I3, rv, ev, dd, ea, q3⟩ := Ib.after hq'
      subst ev
      obtain ⟨t0, ga⟩ := exO_get (I3.hok _ _ ea)
      have I4 := (I3.drop ea).nopins
      have px : ∀ p ∈ X.pn, p.1 ≠ h.objs.size + 1 := fun p hp => Nat.ne_of_lt (Nat.lt_succ_of_lt (Heap.lt_size (I1.pin p (List.mem_append_left _ hp)).1))
      have cx : ∀ y c, X.env.cells.lookup y = some c → c ≠ h.objs.size + 1 := fun y c e => by
        obtain ⟨v, o, ho, _⟩ := I1.cell y c e
        exact Nat.ne_of_lt (Nat.lt_succ_of_lt (Heap.lt_size ho))
      have nx : X.s₀.heap.objs.size ≤ h.objs.size + 1 := Nat.le_succ_of_le I1.sz
      obtain ⟨cv, st, nb, fu⟩ := cov_hide I4 d del_same nx px cx
      refine ⟨rv, h.objs.size + 1, dd, .ref t0, rfl, xc_of I3.kIn hC, ga, xo _ _ ⟨h.objs.size + 1, .ref C, dd, σ, _, _, rfl, I4, del_same, nx, cv, q3, .new ga rfl rfl rfl rfl (fun _ => rfl) st nb fu⟩⟩
end
end L2
namespace L2
open PySem PySem.Spec PyProof.Rows
def caO (a : Addr) (cl : Value) (dd : Option Addr) : HO := .ext fun h => ∃ o ws, h.get? a = some o ∧ o.cls = cl ∧ o.dict = dd ∧ o.data = .fields ws
theorem caO_ok {P : Program} {w : World} {H : Hp} {h : Heap} {a : Addr} {cl : Value} {dd : Option Addr} {o : Obj} {ws : Array Value} (e : h.get? a = some o) (h1 : o.cls = cl) (h2 : o.dict = dd) (h3 : o.data = .fields ws) : ObjOk P w H h a (caO a cl dd) :=
  ⟨⟨o, ws, e, h1, h2, h3⟩, ⟨o, e⟩, fun _ _ ⟨o, ws, e, q⟩ k => ⟨o, ws, k _ e, q⟩⟩
section
variable {X : Cx} {pins : List (Addr × Obj)} {σ : St} {H : Hp} {s : Shared} {x : Addr} {o : HO}
theorem Inv.adopt (I : Inv X pins σ H s) (hx : H x = none) (nx : X.s₀.heap.objs.size ≤ x) (nl : X.env.locals ≠ x) (nc : ∀ y c, X.env.cells.lookup y = some c → c ≠ x) (np : ∀ p ∈ X.pn ++ pins, p.1 ≠ x) (new : ObjOk X.prog X.w (upd H x o) s.heap x o) :
    Inv X pins σ (upd H x o) s := by
  have kp : ∀ b u, H b = some u → upd H x o b = some u := fun b u e => by rw [upd_ne fun z => by rw [z, hx] at e; cases e]; exact e
  refine ⟨I.ok, I.os, I.bare, ⟨I.base.keep, I.base.slot, fun b o e n hb => ?_, I.base.there, fun b xs e => kp b _ (I.base.tups b xs e), fun b o u e => kp b _ (I.base.frzs b o u e), fun b ps e => ?_⟩, I.loc, I.cell, (by rw [upd_ne nl]; exact I.free), fun y c e => by rw [upd_ne (nc y c e)]; exact I.freeC y c e,
    fun p hp => let ⟨a, b, c⟩ := I.pin p hp; ⟨a, by rw [upd_ne (np p hp)]; exact b, c⟩, fun b u e => ?_, I.len⟩
  · rw [upd_ne (Nat.ne_of_lt (Nat.lt_of_lt_of_le (Heap.lt_size e) nx))]; exact I.base.free b _ e n hb
  · obtain ⟨m, e'⟩ := I.base.tbls b ps e
    exact ⟨m, kp b _ e'⟩
  · by_cases q : b = x
    · subst q; rw [upd_same] at e; cases e; exact new
    · rw [upd_ne q] at e
      exact (I.hok b u e).stay (fun _ _ _ q => q) (fun c z => kp c _ z) fun c xs z => kp c _ z
end
def Cx.hnd (X : Cx) (x : Addr) : Cx := { X with A := X.A.mark (some (.ref x)), calm := false, xe := fun _ _ => False }
theorem Cx.Ok.hnd {X : Cx} (ok : X.Ok) (x : Addr) : (X.hnd x).Ok := ⟨ok.mod, ok.kind, ok.glob, ok.blt, ok.above, ok.inj, ok.has, ok.cab, (fun z => by cases z), ok.frames, ok.stk, ok.exf, ok.bs, ok.bsz, ok.noex, ok.exfs, ok.funs, ok.frf⟩
theorem Inv.toHnd {X : Cx} {pins : List (Addr × Obj)} {σ : St} {H : Hp} {s : Shared} (I : Inv X pins σ H s) (x : Addr) : Inv (X.hnd x) pins σ H s := ⟨I.ok.hnd x, I.os, I.bare, I.base, I.loc, I.cell, I.free, I.freeC, I.pin, I.hok, I.len⟩
theorem Inv.unHnd {X : Cx} {pins : List (Addr × Obj)} {σ : St} {H : Hp} {s : Shared} {x : Addr} (I : Inv (X.hnd x) pins σ H s) (ok : X.Ok) : Inv X pins σ H s := ⟨ok, I.os, I.bare, I.base, I.loc, I.cell, I.free, I.freeC, I.pin, I.hok, I.len⟩
theorem Inv.pn2 {X : Cx} {pins : List (Addr × Obj)} {σ : St} {H : Hp} {s : Shared} (I : Inv ({ X with pn := X.pn ++ pins } : Cx) [] σ H s) (ok : X.Ok) : Inv X pins σ H s :=
  ⟨ok, I.os, I.bare, I.base, I.loc, I.cell, I.free, I.freeC, fun p hp => I.pin p (by
    show p ∈ (X.pn ++ pins) ++ []
    simpa using hp), I.hok, I.len⟩
section
variable {X : Cx} {x n : Str} {np hpos pos : Pos} {body suite : List Stmt} {b0 : Stmt} {C : Addr} {mt : Value → Prop} {i : Nat} {tb : (St → XK) → TS} {th : TS}
end
end L2
namespace L2
open PySem PySem.Spec PyProof.Rows
theorem pe_gref {X : Cx} {x : Str} {p : Pos} {a : Addr} (hg : Gl X x) (hm : X.mg x = some (.ref a)) (hdb : (x == ("__debug__" : Str)) = false := by decide) : PE X (.Name x p) (tC (.ref a)) := by
  intro pins s σ H Q I h
  exact ld_glob I hg hm ⟨.ref a, H, I, rfl, h⟩ hdb
section
variable {X : Cx} {C dx a : Addr} {fs : List (Str × V)} {H : Hp} {s : Shared}
end
end L2
namespace L2
open PySem PySem.Spec PyProof.Rows Builtin Builtin.ObjectAttr
structure XG (K : PySem.W.Frag) (C : Addr) : Prop where
  ga : PySem.W.findIn K (.ref C) "__getattribute__" = some (some (.builtin "BaseException.__getattribute__"))
  gt : PySem.W.findIn K (.ref C) "__getattr__" = some none
  sub : PySem.W.mroIn K C (.type "BaseException") = some true
section
variable {prog : Program} {w : World} {A : Around} {E : Value → Shared → Prop} {s : Shared} {K : PySem.W.Frag} {x C : Addr} {ox : Obj} {od : Option Obj} {name : Str} {v : Value}
end
structure XY (K : PySem.W.Frag) (C : Addr) : Prop where
  g : XG K C
  hd : PySem.W.hasDictIn K C = true
  ha : PySem.W.findIn K (.ref C) "__class__" = some (some (.builtin "object.__class__"))
  hn : PySem.W.specialIn K (.builtin "object.__class__") "__get__" = some (some (.builtin "getset_descriptor.__get__"))
  ht : PySem.W.takesIn K (.builtin "object.__class__") = some true
  hm : PySem.W.mroIn K C (.type "object") = some true
section
variable {X : Cx} {C dx a : Addr} {fs : List (Str × V)} {H : Hp} {s : Shared}
end
end L2
namespace L2
open PySem PySem.Spec PyProof.Rows
section
variable {X : Cx}
def fInsert : V → List V → Hp → VK → Prop := fun x vs H Q => match x, vs with
  | .ref l, [.int k, y] => match H l with
    | some (.lst xs) => (0 ≤ k ∧ k ≤ xs.length ∧ xs.length < 1000) ∧ Q .non (upd H l (.lst (xs.take k.toNat ++ y :: xs.drop k.toNat)))
    | _ => False
  | _, _ => False
theorem ps_fr {st : Stmt} {t : TS} (h : X.A.frames = some X.stack → PS X st t) : PS X st t := fun pins s σ H D I hw => h I.ok.frames pins s σ H D I hw
end
theorem ps_forT {Y : Cx} {pins : List (Addr × Obj)} {EX : St → XK} {tg iter : Expr} {body : List Stmt} {wi : TI} {g : TG} {tb : TS} {pos : Pos} (d : Df Y) (hc : (Y.tr pins EX).calm = true) (hi : PI (Y.tr pins EX) tg iter wi) (hg : PG (Y.tr pins EX) tg g) (hb : PSs (Y.tr pins EX) body tb)
    (hs : ∀ x, foldedSetIterable iter (Y.tr pins EX).env x = pure x := by intro _; rfl) : PS (Y.tr pins EX) (.For tg iter body [] pos) (tFor wi g tb) := ps_fr fun fr => ps_for (ownT (X := Y) d fr) hc hi hg hb hs
structure ClsX (K : PySem.W.Frag) (mg : Str → Option Value) (x : Str) (C fI : Addr) : Prop where
  m : mg x = some (.ref C)
  kp : PySem.W.keepIn K (.ref C) = true
  xin : xinIn K C bmV "ValueError.__new__" fI = true
  fn : PySem.W.typeIn K (.ref fI) = some (.type "function")
  a : XA K C
  y : XY K C
structure InitAt (K : PySem.W.Frag) (qual : Str) (st : Stmt) (ps : List Str) (f : Addr) (fd : FuncData) : Prop where
  F : Fun K "__init__" qual st f fd
  b : Binds K fd ps []
def spInit1 (C : Addr) (f : Str) : Sp := fun vs H Q _ => ∃ a y, vs = [.ref a, y] ∧ H a = some (exO a C none) ∧ ∀ dx, H dx = none → dx ≠ a → Q .non (upd (upd H dx (xdO dx [(f, y)])) a (exO a C (some dx)))
def spInit2 (C : Addr) (f g : Str) : Sp := fun vs H Q _ => ∃ a y z, vs = [.ref a, y, z] ∧ H a = some (exO a C none) ∧ ∀ dx, H dx = none → dx ≠ a → Q .non (upd (upd (upd H dx (xdO dx [(f, y)])) a (exO a C (some dx))) dx (xdO dx (putF g z [(f, y)])))
theorem raise1 {C a : Addr} {f : Str} {y : V} {H : Hp} {E : XK} (ha : H a = none) (h : ∀ dx H', H dx = none → Same H H' → H' dx = some (xdO dx [(f, y)]) → E (.ref C) (some dx) H') :
    spInit1 C f [.ref a, y] (upd H a (exO a C none)) (fun v H2 => v = .non ∧ ∃ dd, H2 a = some (exO a C dd) ∧ E (.ref C) dd (del H2 a)) E0 := by
  refine ⟨a, y, rfl, upd_same, fun dx hd ne => ⟨rfl, some dx, upd_same, ?_⟩⟩
  have hd0 : H dx = none := by rw [upd_ne ne] at hd; exact hd
  refine h dx _ hd0 (fun b o e => ?_) ?_
  · have na : b ≠ a := fun z => by rw [z, ha] at e; cases e
    have nd : b ≠ dx := fun z => by rw [z, hd0] at e; cases e
    rw [del_ne na, upd_ne na, upd_ne nd, upd_ne na]
    exact e
  · rw [del_ne ne, upd_ne ne, upd_same]
end L2
namespace L2
open PySem PySem.Spec PyProof.Rows
structure RoomH (k : Nat) (A : Around) : Prop where
  dp : A.depth + 3 * k + 5 < recursionLimit
  un : A.units + 16 * k + 200 < cLine
theorem Room.h {j k : Nat} {A : Around} (r : Room k A) (h : j ≤ k) : RoomH j A := ⟨(r.mono h).dp, (r.mono h).un⟩
theorem RoomH.mono {j k : Nat} {A : Around} (r : RoomH k A) (h : j ≤ k) : RoomH j A := ⟨by have := r.dp; omega, by have := r.un; omega⟩
section
variable {P : Program} {w : World} {K : PySem.W.Frag} {mg : Str → Option Value} {base : Heap}
end
section
variable {X : Cx} {k : Nat} {f : Addr} {fd : FuncData} {ps : List Str} {sp : Sp} {x : Str} {p pos : Pos} {e : Expr} {es : List Expr} {t : TA}
end
section
variable {X : Cx} {C : Addr}
end
end L2
namespace L2
open PySem PySem.Spec PyProof.Rows
def tTry0 (mt : Value → Prop) (tb : (St → XK) → TS) (th : TS) : TS := fun D σ H => tb (fun σ' cl dd H' => mt cl ∧ ∀ x, H' x = none → th D σ' (upd H' x (caO x cl dd))) D σ H
section
variable {X : Cx} {x n : Str} {np hpos pos : Pos} {body suite : List Stmt} {b0 : Stmt} {C : Addr} {mt : Value → Prop} {tb : (St → XK) → TS} {th : TS}
end
theorem raise2 {C a : Addr} {f g : Str} {y z : V} {H : Hp} {E : XK} (ha : H a = none) (h : ∀ dx H', H dx = none → Same H H' → H' dx = some (xdO dx (putF g z [(f, y)])) → E (.ref C) (some dx) H') :
    spInit2 C f g [.ref a, y, z] (upd H a (exO a C none)) (fun v H2 => v = .non ∧ ∃ dd, H2 a = some (exO a C dd) ∧ E (.ref C) dd (del H2 a)) E0 := by
  refine ⟨a, y, z, rfl, upd_same, fun dx hd ne => ⟨rfl, some dx, by rw [upd_ne (Ne.symm ne), upd_same], ?_⟩⟩
  have hd0 : H dx = none := by rw [upd_ne ne] at hd; exact hd
  refine h dx _ hd0 (fun b o e => ?_) ?_
  · have na : b ≠ a := fun z => by rw [z, ha] at e; cases e
    have nd : b ≠ dx := fun z => by rw [z, hd0] at e; cases e
    rw [del_ne na, upd_ne nd, upd_ne na, upd_ne nd, upd_ne na]
    exact e
  · rw [del_ne ne, upd_same]
end L2
namespace L2
open PySem PySem.Spec PyProof.Rows
section
variable {prog : Program} {w : World} {A : Around} {E : Value → Shared → Prop} {s : Shared} {C a : Addr} {bmB : List Value} {newId : String}
end
section
variable {prog : Program} {w : World} {A : Around} {E : Value → Shared → Prop} {h : Heap} {g : Array GenState} {d : Drawn} {t : Nat} {os : OsState}
variable {C : Addr} {bmB : List Value} {B newId initId : String}
end
section
variable {X : Cx} {x y : Str} {np hpos pos p cpos rpos cp : Pos} {kk : Nat} {body : List Stmt} {C D' : Addr} {mt : Value → Prop} {tb : (St → XK) → TS} {EX : St → XK} {e : Expr} {es : List Expr} {t : TA} {bmB : List Value} {B newId initId : String}
end
end L2
namespace L2
open PySem PySem.Spec PyProof.Rows
open PySem.Builtin.ObjectAttr
section
variable {X : Cx} {C a : Addr} {H : Hp} {s : Shared}
end
end L2
namespace L2
open PySem PySem.Spec PyProof.Rows
def CDivB (i j : Int) : Prop := 0 < j ∧ j < 1000000000000000000
section
variable {X : Cx}
theorem q_fdivB : OpR X (binaryOp .FloorDiv) (fIC CDivB fun i j => .int (i / j)) := by
  intro pins s σ H x y v u Q I rx ry h
  unfold fIC at h
  split at h
  · rename_i i j
    obtain ⟨⟨h1, h2⟩, q⟩ := h
    obtain ⟨t, rfl⟩ := rx
    obtain ⟨t', rfl⟩ := ry
    refine floordiv_int (by omega) ?_ (.inl (PyProof.noPylong_of_log2 ?_))
    · rw [Int.fdiv_eq_ediv_of_nonneg i (by omega)]
      exact ⟨.int (i / j), H, I.tok _, ⟨_, rfl⟩, q⟩
    · by_cases h0 : j.natAbs = 0
      · rw [h0]; decide
      · exact Nat.lt_of_lt_of_le ((Nat.log2_lt h0).mpr (show j.natAbs < 2 ^ 60 by omega)) (by decide)
  · exact h.elim
def dedN (ns : List Int) : Nat := (firstMet (fun i => ns.getD i 0) ns.length).length
def fSetOf : List V → Hp → VK → Prop := fun vs H Q => ∃ l ns, vs = [.ref l] ∧ H l = some (.lst (ns.map V.int)) ∧ ns.length ≤ 1000 ∧ ∀ p, H p = none → Q (.ref p) (upd H p (.set (fun k => (firstMet (fun i => ns.getD i 0) ns.length).any (· == k)) (dedN ns)))
theorem vals_intsAre : ∀ {ns : List Int} {us : List Value}, Vals (ns.map V.int) us → IntsAre us ns
  | [], _, .nil => .nil
  | n :: ns, _, .cons r t => by
    obtain ⟨k, rfl⟩ := r
    exact .cons n k (vals_intsAre t)
theorem q_setOf (hh : X.A.handled = none) : CallR X (.type "set") fSetOf := by
  intro pins s σ H vs us Q I r h
  obtain ⟨l, ns, rfl, el, hn, q⟩ := h
  obtain ⟨u, rfl, rx⟩ := vals1 r
  cases rx
  obtain ⟨z, its, n, r', hlen, e⟩ := I.lstM el
  have hl : its.length = ns.length := by rw [← hlen, List.length_map]
  have hL : s.heap.IsList l its.toArray := ⟨_, e, rfl, _, rfl⟩
  refine call_set_list (ns := ns) hh hL (by simpa using vals_intsAre r') (by rw [List.size_toArray, hl]; exact Nat.lt_of_le_of_lt (Nat.succ_le_succ hn) (by decide)) fun h' tk hS kp => ?_
  have e2 : its.toArray.size = ns.length := by rw [List.size_toArray, hl]
  rw [e2] at hS
  refine ⟨.ref s.heap.objs.size, _, I.laid (t' := tk) (o := .set _ (dedN ns)) (fun b o g => kp b o (Heap.lt_size g) g) (Nat.le_refl _) hS, rfl, q _ (I.hok.fresh (Nat.le_refl _))⟩
def fLenSet : List V → Hp → VK → Prop := fun vs H Q => match vs with
  | [.ref p] => match H p with
    | some (.set S n) => Q (.int n) H
    | _ => False
  | _ => False
theorem q_lenSet : CallR X (.builtin "len") fLenSet := by
  intro pins s σ H vs us Q I r h
  unfold fLenSet at h
  split at h
  · rename_i p
    split at h
    · rename_i S n eS
      obtain ⟨u, rfl, rx⟩ := vals1 r
      cases rx
      have hS : s.heap.SetOf (intKind X.prog X.w) p S n := I.hok p _ eS
      obtain ⟨o, es, ep, t, ho, hex, hd, _, _, hsz, hf, rfl⟩ := hS
      exact call_len_set ho hex hd hf (Int.ofNat_lt.mpr (Nat.lt_of_lt_of_le hsz (show scanBound ≤ 2 ^ 63 by decide))) ⟨.int es.size, H, I.tok _, ⟨_, rfl⟩, h⟩
    · exact h.elim
  · exact h.elim
end
theorem ded_fold : ∀ (ns acc : List Int), acc.Nodup → (ns.foldl step_dedup acc).length ≤ acc.length + ns.length ∧ ((ns.foldl step_dedup acc).length = acc.length + ns.length ↔ (acc ++ ns).Nodup)
  | [], acc, h => by simp [h]
  | n :: ns, acc, h => by
    rw [List.foldl_cons]
    by_cases c : acc.any (· == n) = true
    · have e : step_dedup acc n = acc := if_pos c
      rw [e]
      have ih := ded_fold ns acc h
      have hm : n ∈ acc := by
        obtain ⟨m, hm, e2⟩ := List.any_eq_true.mp c
        rw [beq_iff_eq] at e2
        exact e2 ▸ hm
      rw [List.length_cons]
      refine ⟨by omega, ⟨fun z => by omega, fun z => ?_⟩⟩
      rw [List.nodup_append] at z
      exact absurd rfl (z.2.2 n hm n (.head _))
    · have e : step_dedup acc n = acc ++ [n] := if_neg c
      have hm : n ∉ acc := fun hm => c (List.any_eq_true.mpr ⟨n, hm, by simp⟩)
      have h2 : (acc ++ [n]).Nodup := by
        rw [List.nodup_append]
        exact ⟨h, by simp, fun a ha b hb => by rw [List.mem_singleton] at hb; rw [hb]; exact fun z => hm (z ▸ ha)⟩
      rw [e]
      have ih := ded_fold ns (acc ++ [n]) h2
      rw [List.length_append, List.length_singleton] at ih
      rw [List.length_cons]
      refine ⟨by omega, ?_⟩
      rw [show acc.length + (ns.length + 1) = acc.length + 1 + ns.length by omega, ih.2, List.append_assoc]
      rfl
theorem ded_eq (ns : List Int) : dedN ns = (ns.foldl step_dedup []).length := by
  unfold dedN firstMet
  congr 2
  apply List.ext_getElem?
  intro i
  rw [List.getElem?_map]
  by_cases h : i < ns.length
  · rw [List.getElem?_range h, List.getElem?_eq_getElem h]
    show some (ns.getD i 0) = _
    rw [List.getD_eq_getElem?_getD, List.getElem?_eq_getElem h]
    rfl
  · rw [List.getElem?_eq_none (by simp; omega), List.getElem?_eq_none (by omega)]
    rfl
theorem ded_iff (ns : List Int) : dedN ns = ns.length ↔ ns.Nodup := by
  have := (ded_fold ns [] List.nodup_nil).2
  rw [ded_eq]
  simpa using this
end L2
namespace L2
open PySem PySem.Spec PyProof.Rows
theorem seq_hide {a b : TS} {D : Ends} {σ : St} {H : Hp} (h : ∀ R, R = b → tSeq a R D σ H) : tSeq a b D σ H := h b rfl
theorem tFor_hideI {ι : Type} {wi : TI} {g : TG} {tb : TS} {D : Ends} {σ : St} {H : Hp} (J : ι → It) (H1 : ι → Hp) (ok : ι → Prop) (h1 : ∀ R : It → Hp → Prop, (∀ i, ok i → R (J i) (H1 i)) → wi σ H R)
    (h2 : ∀ i0, ok i0 → ∃ W : Nat → Nat → St → Hp → Prop, (∃ m, W 0 m σ (H1 i0)) ∧ ∀ i m σ H, W i m σ H → ((J i0).stop i H ∧ D.nx σ H) ∨ ((J i0).go i H ∧ ∃ N : St → Hp → Prop, (∀ σ' H', N σ' H' → ∃ m', m' < m ∧ W (i + 1) m' σ' H') ∧ ∀ x H', (J i0).yld i H x H' → g x σ H' fun σ2 H2 => tb { D with nx := N, ct := N, bk := D.nx } σ2 H2)) :
    tFor wi g tb D σ H := h1 _ h2
section
variable {X : Cx}
def tCallE (fs : List (Addr × Sp)) (te : TE) (t : TA) : TE := fun σ H Q => te σ H fun x H1 => ∃ f sp, (f, sp) ∈ fs ∧ x = .ref f ∧ t σ H1 fun vs H2 => sp vs H2 Q (fun _ _ _ => False)
theorem pe_callE {fs : List (Addr × Sp)} {k : Nat} {e a : Expr} {as : List Expr} {te : TE} {t : TA} {pos : Pos} (he : PE X e te) (hF : ∀ f sp, (f, sp) ∈ fs → ∃ fd ps, FnOk X.prog X.w X.K X.mg X.base CX0 k f fd ps sp ∧ PySem.W.keepIn X.K (.ref f) = true ∧ Binds X.K fd ps []) (hr : Room k X.A) (ha : PA X (a :: as) t)
    (ht : eval (.Call e (a :: as) [] pos) X.env = (do let f ← eval e X.env; callWith pos f [] (backTo pos (starEach (a :: as) X.env)) (backToKw pos (keywordEach [] X.env))) := by rfl)
    (hst : starEach (a :: as) X.env = (false, eval a X.env) :: starEach as X.env := by rfl) (hpl : (backTo pos (starEach as X.env)).any (·.1) = false := by rfl) :
    PE X (.Call e (a :: as) [] pos) (tCallE fs te t) := by
  intro pins s σ H Q I h
  rw [ht]
  refine wpAny_bind (thn (he pins s σ H _ I h) fun u s1 ⟨x, H1, I1, rx, f, sp, hm, ex, q⟩ => ?_)
  subst ex
  obtain rfl : u = Value.ref f := rx
  obtain ⟨fd, ps, F, hk, hb⟩ := hF f sp hm
  refine PySem.W.callWith_K (h₀ := X.base) I.ok.mod.kin hk (thn (ha pos pins s1 σ H1 _ I1 q) fun us s2 ⟨vs, H2, I2, r, q2⟩ => ⟨I2.kIn, ?_⟩) hst hpl
  exact run_fn (ds := []) (dvs := []) F hr hb .nil pass0 I2 r (by simpa using q2)
end
end L2
namespace So
open PySem PyProof.Rows
def kv (R : Keyed → Int) (xs : Array Keyed) (i : Nat) : Int := (xs[i]?.map R).getD 0
theorem kv_at {R : Keyed → Int} {xs : Array Keyed} {i : Nat} {x : Keyed} (h : xs[i]? = some x) : kv R xs i = R x := by unfold kv; rw [h]; rfl
def Up (R : Keyed → Int) (xs : Array Keyed) (a b : Nat) : Prop := ∀ i j, a ≤ i → i ≤ j → j < b → kv R xs i ≤ kv R xs j
theorem Up.one {R : Keyed → Int} {xs : Array Keyed} {a b : Nat} (h : b ≤ a + 1) : Up R xs a b := fun i j h1 h2 h3 => by
  have e : i = j := by omega
  rw [e]; exact Int.le_refl _
structure Bs (κ : SortKind) (a₀ : Array Keyed) (pd : Array (Nat × Nat × Nat)) (st : SortSt) : Prop where
  perm : (arrOf st).Perm a₀
  kind : kindOf st = κ
  ok : failedOf st = none
  pend : pendingOf st = pd
section
variable {prog : Program} {w : World} {A : Around} {E : Value → Shared → Prop} {s : Shared} {R : Keyed → Int} {κ : SortKind} {a₀ : Array Keyed} {pd : Array (Nat × Nat × Nat)}
theorem Bs.size {st : SortSt} (b : Bs κ a₀ pd st) : (arrOf st).size = a₀.size := b.perm.size_eq
end
end So
namespace So
open PySem PyProof.Rows
section
variable {prog : Program} {w : World} {A : Around} {E : Value → Shared → Prop} {s : Shared} {R : Keyed → Int} {κ : SortKind} {a₀ : Array Keyed} {pd : Array (Nat × Nat × Nat)}
end
end So
namespace So
open PySem PyProof.Rows
def Le (R : Keyed → Int) : Keyed → Keyed → Prop := fun x y => R x ≤ R y
def MS (R : Keyed → Int) (o la lb tot : List Keyed) : Prop := (o ++ la).Pairwise (Le R) ∧ (o ++ lb).Pairwise (Le R) ∧ (o ++ (la ++ lb)).Perm tot
def Fi (R : Keyed → Int) (l tot : List Keyed) : Prop := l.Pairwise (Le R) ∧ l.Perm tot
section
variable {R : Keyed → Int} {o la lb tot xs : List Keyed}
theorem MS.a (h : MS R o (xs ++ la) lb tot) (hx : ∀ x ∈ xs, ∀ y ∈ lb, R x ≤ R y) : MS R (o ++ xs) la lb tot := by
  obtain ⟨h1, h2, h3⟩ := h
  refine ⟨by rw [List.append_assoc]; exact h1, ?_, by rw [List.append_assoc, ← List.append_assoc xs]; exact h3⟩
  rw [List.append_assoc, List.pairwise_append]
  rw [List.pairwise_append] at h1 h2
  obtain ⟨o1, o2, o3⟩ := h1
  obtain ⟨p1, p2, p3⟩ := h2
  rw [List.pairwise_append] at o2
  refine ⟨o1, List.pairwise_append.mpr ⟨o2.1, p2, hx⟩, fun x m y n => ?_⟩
  rcases List.mem_append.mp n with n | n
  · exact o3 x m y (List.mem_append_left _ n)
  · exact p3 x m y n
theorem MS.b (h : MS R o la (xs ++ lb) tot) (hx : ∀ x ∈ xs, ∀ y ∈ la, R x ≤ R y) : MS R (o ++ xs) la lb tot := by
  have z : MS R o (xs ++ lb) la tot := ⟨h.2.1, h.1, (List.Perm.append_left _ List.perm_append_comm).trans h.2.2⟩
  have q := z.a hx
  exact ⟨q.2.1, q.1, (List.Perm.append_left _ List.perm_append_comm).trans q.2.2⟩
end
section
variable {a : Array Keyed} {R : Keyed → Int} {i k : Nat}
theorem Up.le (u : Up R a 0 a.size) {j : Nat} {x y : Keyed} (hx : a[i]? = some x) (hy : a[j]? = some y) (h : i ≤ j) : R x ≤ R y := by
  have z := u i j (Nat.zero_le _) h (Array.getElem?_eq_some_iff.mp hy).1
  rwa [kv_at hx, kv_at hy] at z
end
section
variable {M : Model} {A : Around} {E : Value → Shared → Prop} {s : Shared} {σ α : Type}
end
section
variable {R : Keyed → Int} {a b out : Array Keyed} {ia ib k : Nat} {tot : List Keyed}
end
section
variable {prog : Program} {w : World} {A : Around} {E : Value → Shared → Prop} {s : Shared} {R : Keyed → Int} {κ : SortKind} {a₀ : Array Keyed} {pd : Array (Nat × Nat × Nat)}
end
end So
namespace So
open PySem PyProof.Rows
def MH (R : Keyed → Int) (la lb o tot : List Keyed) : Prop := (la ++ o).Pairwise (Le R) ∧ (lb ++ o).Pairwise (Le R) ∧ (la ++ (lb ++ o)).Perm tot
section
variable {R : Keyed → Int} {o la lb tot xs : List Keyed}
theorem MH.a (h : MH R (la ++ xs) lb o tot) (hx : ∀ x ∈ xs, ∀ y ∈ lb, R y ≤ R x) : MH R la lb (xs ++ o) tot := by
  obtain ⟨h1, h2, h3⟩ := h
  refine ⟨by rw [← List.append_assoc]; exact h1, ?_, ?_⟩
  · rw [List.append_assoc, List.pairwise_append] at h1
    rw [List.pairwise_append] at h2 ⊢
    refine ⟨h2.1, h1.2.1, fun y hy x hx2 => ?_⟩
    rcases List.mem_append.mp hx2 with n | n
    · exact hx x n y hy
    · exact h2.2.2 y hy x n
  · refine List.Perm.trans ?_ h3
    rw [List.append_assoc]
    refine List.Perm.append_left _ ?_
    rw [← List.append_assoc, ← List.append_assoc]
    exact List.Perm.append_right _ List.perm_append_comm
theorem MH.swap (h : MH R la lb o tot) : MH R lb la o tot := by
  refine ⟨h.2.1, h.1, List.Perm.trans ?_ h.2.2⟩
  rw [← List.append_assoc, ← List.append_assoc]
  exact List.Perm.append_right _ List.perm_append_comm
theorem MH.b (h : MH R la (lb ++ xs) o tot) (hx : ∀ x ∈ xs, ∀ y ∈ la, R y ≤ R x) : MH R la lb (xs ++ o) tot := (h.swap.a hx).swap
theorem MH.first (h : MH R la lb o tot) (hx : ∀ y ∈ lb, ∀ x ∈ la, R y ≤ R x) : Fi R (lb ++ la ++ o) tot := by
  obtain ⟨h1, h2, h3⟩ := h.swap
  refine ⟨?_, by rw [List.append_assoc]; exact h3⟩
  rw [List.append_assoc]
  rw [List.pairwise_append] at h1 h2 ⊢
  refine ⟨h1.1, List.pairwise_append.mpr h2, fun y hy x hx2 => ?_⟩
  rcases List.mem_append.mp hx2 with n | n
  · exact hx y hy x n
  · exact h1.2.2 y hy x n
end
section
variable {a : Array Keyed} {R : Keyed → Int} {i k n : Nat}
end
section
variable {R : Keyed → Int} {a b out : Array Keyed} {na nb k : Nat} {tot : List Keyed}
end
section
variable {prog : Program} {w : World} {A : Around} {E : Value → Shared → Prop} {s : Shared} {R : Keyed → Int} {κ : SortKind} {a₀ : Array Keyed} {pd : Array (Nat × Nat × Nat)}
end
end So
namespace So
open PySem PyProof.Rows
section
variable {prog : Program} {w : World} {A : Around} {E : Value → Shared → Prop} {s : Shared} {R : Keyed → Int} {κ : SortKind} {a₀ : Array Keyed} {pd : Array (Nat × Nat × Nat)}
end
end So
namespace So
open PySem PyProof.Rows
def two (pd : Array (Nat × Nat × Nat)) : List (Nat × Nat) := pd.toList.map fun t => (t.1, t.2.1)
def Ch (R : Keyed → Int) (xs : Array Keyed) : Nat → List (Nat × Nat) → Nat → Prop
  | p, [], q => p = q
  | p, (s, n) :: r, q => s = p ∧ 1 ≤ n ∧ Up R xs s (s + n) ∧ Ch R xs (s + n) r q
section
variable {R : Keyed → Int} {xs ys : Array Keyed}
theorem Ch.le : ∀ {l : List (Nat × Nat)} {p q : Nat}, Ch R xs p l q → p + l.length ≤ q
  | [], p, q, h => by rw [show p = q from h]; exact Nat.le_refl _
  | (s, n) :: l, p, q, ⟨a, b, c, d⟩ => by
    have z := Ch.le d
    rw [List.length_cons]; omega
end
section
variable {prog : Program} {w : World} {A : Around} {E : Value → Shared → Prop} {s : Shared} {R : Keyed → Int} {κ : SortKind} {a₀ : Array Keyed} {pd : Array (Nat × Nat × Nat)}
end
end So
namespace So
open PySem PyProof.Rows
section
variable {prog : Program} {w : World} {A : Around} {E : Value → Shared → Prop} {s : Shared}
theorem Up.all {R : Keyed → Int} {xs : Array Keyed} (u : Up R xs 0 xs.size) : xs.toList.Pairwise (Le R) := by
  rw [List.pairwise_iff_getElem]
  intro i j hi hj hij
  rw [Array.length_toList] at hi hj
  exact u.le (getElem?_pos xs i hi) (getElem?_pos xs j hj) (Nat.le_of_lt hij)
def PairAt (h : Heap) (v : Value) (x y : Int) : Prop := ∃ a o t u n, v = .ref a ∧ h.get? a = some o ∧ o.cls = .type "tuple" ∧ o.data = .seq #[.int x t, .int y u] n
end
end So
namespace L2
open PySem PySem.Spec PyProof.Rows
end L2
namespace L2
open PySem PySem.Spec PyProof.Rows
def rSum : List V → Hp → VK → Prop := fun vs H Q => ∃ (p : Addr) (ns : List Int), vs = [.ref p] ∧ H p = some (.lst (ns.map V.int)) ∧ Q (.int ns.sum) H
theorem q_sum {X : Cx} (hc : X.calm = true) : CallR X (.builtin "sum") rSum := by
  intro pins s σ H xs us Q I r h
  obtain ⟨p, ns, rfl, e, q⟩ := h
  obtain ⟨u, rfl, rx⟩ := vals1 r
  cases rx
  obtain ⟨its, r', pl, _⟩ := I.list (SqL.of e)
  have hI := intsAre_of r'
  obtain ⟨zs, hz⟩ := hI.allInts.items
  have hn := hI.numsOf
  have hl := pl.isList
  rw [hz] at hl
  refine sum_intListG (I.ok.hd hc) hl fun h' tk t' hk => ?_
  have e2 : preSum (numAt zs) zs.size = ns.sum := by
    rw [preSum_eq, List.take_of_length_le (by simp), ← hn, ← nums_intItems, ← hz]
  rw [e2]
  exact ⟨.int ns.sum, H, I.kept hk, ⟨t', rfl⟩, q⟩
def fIsB (f : Bool → Bool) : R2 := fun x y H Q => match x, y with
  | .bl a, .bl b => Q (.bl (f (a == b))) H
  | _, _ => False
end L2
namespace L2
open PySem PySem.Spec PyProof.Rows
def leL : List Int → List Int → Bool
  | [], _ => true
  | _ :: _, [] => false
  | x :: xs, y :: ys => if x = y then leL xs ys else decide (x ≤ y)
section
open PySem.SeqAt
open PySem.AutoSeq1 (wpAny_loadPart')
open PySem.MeetsSeq PySem.MeetsSeq2 PySem.MeetsSeq3
end
section
variable {X : Cx} {a b c : Expr} {ta tb tc : TE} {pos : Pos}
end
def fLeT : R2 := fun x y H Q => match x, y with
  | .ref a, .ref b => match H a, H b with
    | some (.tup [.int i, .int j]), some (.tup [.int k, .int l]) => Q (.bl (leL [i, j] [k, l])) H
    | _, _ => False
  | _, _ => False
end L2
namespace My
open PySem L2
theorem sl0 : (0 ≤ sizeLine) = True := eq_true (by decide)
theorem sl1 : (1 ≤ sizeLine) = True := eq_true (by decide)
theorem sl2 : (2 ≤ sizeLine) = True := eq_true (by decide)
theorem sl3 : (3 ≤ sizeLine) = True := eq_true (by decide)
theorem sl4 : (4 ≤ sizeLine) = True := eq_true (by decide)
end My
local macro_rules | `(tactic| walk_at "RD") => `(tactic| try simp only [L2.tCallX, L2.fInsert, L2.fLeT, L2.fIsB, L2.tSeq, L2.tNext, L2.tDrop, L2.tRet, L2.tRetN, L2.tIfS, L2.tAsg, L2.gName, L2.fAug, L2.tOp, L2.tUn, L2.tC, L2.fVar, L2.fI, L2.fIC, L2.fNeg, L2.fEq, L2.fNe, L2.fIsN, L2.isNon, L2.fAnd, L2.fOr, L2.fNot, L2.fB, L2.tNot, L2.tAnd, L2.tOr, L2.fChain, L2.fIx, L2.fLen, L2.fListOf, L2.fMin, L2.fMax, L2.fInL, L2.fSlL, L2.tSl, L2.fPart, L2.tNoPart, L2.fAppend, L2.fBM, L2.fSetL, L2.gSub, L2.fGNil, L2.fGCons, L2.fGTup, L2.fGLst, L2.fDGet2, L2.sDPutF, L2.tDNewK, L2.fCat, L2.fClear, L2.fBM0, L2.fSlT, L2.fInt1, L2.tCBK, L2.fDIn, L2.fDGet, L2.fIsi, L2.fBools, L2.fDictL, L2.fLtT, L2.tCall, L2.tCB, L2.tCons, L2.tNil, L2.tTup, L2.tLst, L2.tIf, L2.tTrue, L2.Kd.nm, L2.start, List.map_cons, List.map_nil, List.length_cons, List.length_nil, Nat.reduceAdd, Nat.reduceSub, List.replicate_succ, List.replicate_zero, List.getElem?_cons_zero, List.getElem?_cons_succ, List.set_cons_zero, List.set_cons_succ, List.append_nil, List.nil_append, List.cons_append, eq_self, true_and, and_true, if_true, Bool.false_eq_true, if_false, Bool.not_true, Bool.not_false, id_eq, My.sl0, My.sl1, My.sl2, My.sl3, My.sl4])
local macro_rules | `(tactic| simp_arith [$args,*]) => `(tactic| try simp only [L2.tCallX, L2.fInsert, L2.fLeT, L2.fIsB, L2.tSeq, L2.tNext, L2.tDrop, L2.tRet, L2.tRetN, L2.tIfS, L2.tAsg, L2.gName, L2.fAug, L2.tOp, L2.tUn, L2.tC, L2.fVar, L2.fI, L2.fIC, L2.fNeg, L2.fEq, L2.fNe, L2.fIsN, L2.isNon, L2.fAnd, L2.fOr, L2.fNot, L2.fB, L2.tNot, L2.tAnd, L2.tOr, L2.fChain, L2.fIx, L2.fLen, L2.fListOf, L2.fMin, L2.fMax, L2.fInL, L2.fSlL, L2.tSl, L2.fPart, L2.tNoPart, L2.fAppend, L2.fBM, L2.fSetL, L2.gSub, L2.fGNil, L2.fGCons, L2.fGTup, L2.fGLst, L2.fDGet2, L2.sDPutF, L2.tDNewK, L2.fCat, L2.fClear, L2.fBM0, L2.fSlT, L2.fInt1, L2.tCBK, L2.fDIn, L2.fDGet, L2.fIsi, L2.fBools, L2.fDictL, L2.fLtT, L2.tCall, L2.tCB, L2.tCons, L2.tNil, L2.tTup, L2.tLst, L2.tIf, L2.tTrue, L2.Kd.nm, L2.start, List.map_cons, List.map_nil, List.length_cons, List.length_nil, Nat.reduceAdd, Nat.reduceSub, List.replicate_succ, List.replicate_zero, List.getElem?_cons_zero, List.getElem?_cons_succ, List.set_cons_zero, List.set_cons_succ, List.append_nil, List.nil_append, List.cons_append, eq_self, true_and, and_true, if_true, Bool.false_eq_true, if_false, Bool.not_true, Bool.not_false, id_eq, My.sl0, My.sl1, My.sl2, My.sl3, My.sl4, $args,*])
namespace My
open PySem L2
theorem szl {n : Nat} (h : n ≤ 1000) : n ≤ sizeLine := Nat.le_trans h (by decide)
theorem szl' {n : Nat} (h : n ≤ 1000) : n < sizeLine := Nat.lt_of_le_of_lt h (by decide)
def top (i : Nat) : Stmt := PySem.Challenge.pw_touchall_k19_whole_none_costs_less.main.body.getD i (.Pass ⟨0, 0, 0, 0⟩)
structure DefAt (K : PySem.W.Frag) (mg : Str → Option Value) (x : Str) (st : Stmt) (ps : List Str) (f : Addr) (fd : FuncData) : Prop where
  F : Fun K x x st f fd
  b : Binds K fd ps []
  m : mg x = some (.ref f)
structure Blt (mg : Str → Option Value) : Prop where
  len : mg "len" = none
  isinstance : mg "isinstance" = none
  all : mg "all" = none
  min : mg "min" = none
  list : mg "list" = none
  dict : mg "dict" = none
  int : mg "int" = none
  bool : mg "bool" = none
  str : mg "str" = none
  tuple : mg "tuple" = none
  range : mg "range" = none
  enumerate : mg "enumerate" = none
  zip : mg "zip" = none
  max : mg "max" = none
  any : mg "any" = none
  sum : mg "sum" = none
  sorted : mg "sorted" = none
  set : mg "set" = none
structure Cst (mg : Str → Option Value) (t1 t2 t3 t4 : Tok) : Prop where
  MOST_PLACES : mg "MOST_PLACES" = some (.int 40 t1)
  MOST_TIES : mg "MOST_TIES" = some (.int 120 t2)
  LAST_PLACE : mg "LAST_PLACE" = some (.int 999 t3)
  MOST_PRICE : mg "MOST_PRICE" = some (.int 1000000000000 t4)
section
variable {P : Program} {w : World} {K : PySem.W.Frag} {mg : Str → Option Value} {base : Heap} {c1 c2 c3 c4 : Tok}
theorem at0 {α : Type} {x : α} {r : List α} : atI (x :: r) 0 = some x := by
  have e : atI (x :: r) ((0 : Nat) : Int) = some x := atI_nat rfl
  exact e
theorem at1 {α : Type} {x y : α} {r : List α} : atI (x :: y :: r) 1 = some y := by
  have e : atI (x :: y :: r) ((1 : Nat) : Int) = some y := atI_nat rfl
  exact e
theorem at2 {α : Type} {x y z : α} {r : List α} : atI (x :: y :: z :: r) 2 = some z := by
  have e : atI (x :: y :: z :: r) ((2 : Nat) : Int) = some z := atI_nat rfl
  exact e
def wholeK : Kd → Bool
  | .int => true
  | _ => false
def clsBody : Stmt → List Stmt
  | .ClassDef _ _ _ b _ _ _ _ _ _ _ => b
  | _ => []
def meth (i j : Nat) : Stmt := (clsBody (top i)).getD j (.Pass ⟨0, 0, 0, 0⟩)
def prO : Dt → Option (Int × Int)
  | .tup [.int x, .int y] => some (x, y)
  | _ => none
def OPr (H : Hp) (x : V) (o : Option (Int × Int)) : Prop := ∃ d, Rep H d x ∧ prO d = o
theorem OPr.same {H H' : Hp} {x : V} {o : Option (Int × Int)} (h : OPr H x o) (s : Same H H') : OPr H' x o := let ⟨d, r, e⟩ := h; ⟨d, Rep.same s d r, e⟩
theorem prO_some {d : Dt} {p : Int × Int} (h : prO d = some p) : d = pairD p := by
  unfold prO at h
  split at h
  · cases h; rfl
  · cases h
theorem pairD_pr {H : Hp} {x : V} {p : Int × Int} (h : Rep H (pairD p) x) : Pr H x p := by
  rw [pairD, Rep] at h
  obtain ⟨a, vs, rfl, ea, r⟩ := h
  rw [Reps] at r
  obtain ⟨v, r1, rfl, e1, r⟩ := r
  rw [Reps] at r
  obtain ⟨v2, r2, rfl, e2, r⟩ := r
  rw [Reps] at r
  subst r
  rw [Rep] at e1 e2
  subst e1 e2
  exact ⟨a, rfl, ea⟩
theorem OPr.pr {H : Hp} {x : V} {p : Int × Int} (h : OPr H x (some p)) : Pr H x p := by
  obtain ⟨d, r, e⟩ := h
  rw [prO_some e] at r
  exact pairD_pr r
theorem Pr.o {H : Hp} {x : V} {p : Int × Int} (h : Pr H x p) : OPr H x (some p) := ⟨pairD p, h.rep, rfl⟩
def kdD : Dt → Kd
  | .non => .non
  | .bl _ => .bl
  | .int _ => .int
  | .str _ => .str
  | .tup _ => .tup
  | .lst _ => .lst
theorem rep_kd {H : Hp} {d : Dt} {x : V} (h : Rep H d x) : L2.kd H x = some (kdD d) := by
  cases d with
  | non => rw [Rep] at h; subst h; rfl
  | bl b => rw [Rep] at h; subst h; rfl
  | int b => rw [Rep] at h; subst h; rfl
  | str b => rw [Rep] at h; subst h; rfl
  | tup ds => rw [Rep] at h; obtain ⟨a, vs, rfl, e, _⟩ := h; unfold L2.kd; dsimp only; rw [e]; rfl
  | lst ds => rw [Rep] at h; obtain ⟨a, vs, rfl, e, _⟩ := h; unfold L2.kd; dsimp only; rw [e]; rfl
def tupB (m : Int) : Dt → Bool
  | .tup ds => decide ((ds.length : Int) = m)
  | _ => false
def lstB (m : Int) : Dt → Bool
  | .lst ds => decide ((ds.length : Int) ≤ m)
  | _ => false
def plS (l s : Int) : Option (Int × Int) → Bool
  | none => false
  | some p => decide (l < p.1 ∧ p.1 ≤ 999 ∧ 1 ≤ p.2 ∧ p.2 ≤ 1000000000000 - s)
def hasK (kvs : List (Key × V)) (n : Int) : Bool := (valV kvs (Sum.inl n : Key)).isSome
def tiS (kvs : List (Key × V)) (q : Int × Int) : Option (Int × Int) → Bool
  | none => false
  | some p => HT.lexLt [q.1, q.2] [p.1, p.2] && (decide (p.1 < p.2) && (hasK kvs p.1 && hasK kvs p.2))
def spWhole : Sp := fun vs H Q _ => ∃ x k, vs = [x] ∧ kd H x = some k ∧ Q (.bl (wholeK k)) H
def spTupleOf : Sp := fun vs H Q _ => ∃ x d m, vs = [x, .int m] ∧ Rep H d x ∧ Q (.bl (tupB m d)) H
def spListUpTo : Sp := fun vs H Q _ => ∃ x d m, vs = [x, .int m] ∧ Rep H d x ∧ Q (.bl (lstB m d)) H
def spPairO : Sp := fun vs H Q _ => ∃ x o, vs = [x] ∧ OPr H x o ∧ Q (.bl o.isSome) H
def spPlaceO : Sp := fun vs H Q _ => ∃ x o l s, vs = [x, .int l, .int s] ∧ OPr H x o ∧ Q (.bl (plS l s o)) H
def spTieO : Sp := fun vs H Q _ => ∃ x o y q d kvs, vs = [x, y, .ref d] ∧ OPr H x o ∧ Pr H y q ∧ H d = some (.dK kvs) ∧ Q (.bl (tiS kvs q o)) H
theorem ok_is_whole {f : Addr} {fd : FuncData}  (B : Blt mg) (D : DefAt K mg "is_whole" (top 7) ["thing"] f fd) : FnOk P w K mg base CX0 1 f fd ["thing"] spWhole := by
  have sc : FnScope ["thing"] ["thing"] (defScope (top 7)) := ⟨rfl, rfl, rfl, by decide +kernel, rfl, by decide +kernel, by decide +kernel⟩
  refine D.F.ok sc (fun vs H Q E h => ?_) (fun cdv A outer s H vs Q E hr h => ?_)
  · obtain ⟨x, k, rfl, _⟩ := h
    rfl
  obtain ⟨x, k, rfl, ek, h⟩ := h
  have hu := hu_of hr
  have hu0 : _ < PySem.cLine := Nat.lt_of_succ_lt hu
  refine ⟨_, (pss_one (ps_ret (q_and (pe_callB (q_isi .int) rfl B.isinstance PyProof.Rows.boot_isinstance (pa_cons (qv 0) (pa_cons (pe_bltn (v := .ty "int") rfl B.int PyProof.Rows.boot_int rfl) pa_nil))) (pe_one (q_not (pe_callB (q_isi .bl) rfl B.isinstance PyProof.Rows.boot_isinstance (pa_cons (qv 0) (pa_cons (pe_bltn (v := .ty "bool") rfl B.bool PyProof.Rows.boot_bool rfl) pa_nil)))))))), ?_⟩
  simp_arith [ek]
  cases k <;> simpa only [isi, wholeK, if_true, if_false, Bool.false_eq_true, Bool.not_true, Bool.not_false] using h
theorem ok_is_tuple_of {f : Addr} {fd : FuncData}  (B : Blt mg) (D : DefAt K mg "is_tuple_of" (top 8) ["thing", "many"] f fd) : FnOk P w K mg base CX0 1 f fd ["thing", "many"] spTupleOf := by
  have sc : FnScope ["thing", "many"] ["thing", "many"] (defScope (top 8)) := ⟨rfl, rfl, rfl, by decide +kernel, rfl, by decide +kernel, by decide +kernel⟩
  refine D.F.ok sc (fun vs H Q E h => ?_) (fun cdv A outer s H vs Q E hr h => ?_)
  · obtain ⟨x, d, m, rfl, _⟩ := h
    rfl
  obtain ⟨x, d, m, rfl, hd, h⟩ := h
  have hk := rep_kd hd
  have hu := hu_of hr
  have hu0 : _ < PySem.cLine := Nat.lt_of_succ_lt hu
  refine ⟨_, (pss_one (ps_ret (q_and (pe_callB (q_isi .tup) rfl B.isinstance PyProof.Rows.boot_isinstance (pa_cons (qv 0) (pa_cons (pe_bltn (v := .ty "tuple") rfl B.tuple PyProof.Rows.boot_tuple rfl) pa_nil))) (pe_one (pe_cmpR q_eq (pe_callB q_len rfl B.len PySem.boot_len (pa_cons (qv 0) pa_nil)) (qv 1) (nomark _)))))), ?_⟩
  cases d with
  | tup ds =>
    rw [Rep] at hd
    obtain ⟨a, vs, rfl, ea, r⟩ := hd
    simp_arith [kd, ea, seqOf, isi]
    rw [r.len]
    exact h
  | non => simp_arith [hk, isi, kdD]; exact h
  | bl b => simp_arith [hk, isi, kdD]; exact h
  | int b => simp_arith [hk, isi, kdD]; exact h
  | str b => simp_arith [hk, isi, kdD]; exact h
  | lst b => simp_arith [hk, isi, kdD]; exact h
theorem ok_is_list_up_to {f : Addr} {fd : FuncData}  (B : Blt mg) (D : DefAt K mg "is_list_up_to" (top 10) ["thing", "most"] f fd) : FnOk P w K mg base CX0 1 f fd ["thing", "most"] spListUpTo := by
  have sc : FnScope ["thing", "most"] ["thing", "most"] (defScope (top 10)) := ⟨rfl, rfl, rfl, by decide +kernel, rfl, by decide +kernel, by decide +kernel⟩
  refine D.F.ok sc (fun vs H Q E h => ?_) (fun cdv A outer s H vs Q E hr h => ?_)
  · obtain ⟨x, d, m, rfl, _⟩ := h
    rfl
  obtain ⟨x, d, m, rfl, hd, h⟩ := h
  have hk := rep_kd hd
  have hu := hu_of hr
  have hu0 : _ < PySem.cLine := Nat.lt_of_succ_lt hu
  refine ⟨_, (pss_one (ps_ret (q_and (pe_callB (q_isi .lst) rfl B.isinstance PyProof.Rows.boot_isinstance (pa_cons (qv 0) (pa_cons (pe_bltn (v := .ty "list") rfl B.list PyProof.Rows.boot_list rfl) pa_nil))) (pe_one (pe_cmpR q_le (pe_callB q_len rfl B.len PySem.boot_len (pa_cons (qv 0) pa_nil)) (qv 1) (nomark _)))))), ?_⟩
  cases d with
  | lst ds =>
    rw [Rep] at hd
    obtain ⟨a, vs, rfl, ea, r⟩ := hd
    simp_arith [kd, ea, seqOf, isi]
    rw [r.len]
    exact h
  | non => simp_arith [hk, isi, kdD]; exact h
  | bl b => simp_arith [hk, isi, kdD]; exact h
  | int b => simp_arith [hk, isi, kdD]; exact h
  | str b => simp_arith [hk, isi, kdD]; exact h
  | tup b => simp_arith [hk, isi, kdD]; exact h
theorem ok_is_pair_of_wholes {f : Addr} {fd : FuncData} {f_is_tuple_of : Addr} {d_is_tuple_of : FuncData} {f_is_whole : Addr} {d_is_whole : FuncData} (B : Blt mg) (D : DefAt K mg "is_pair_of_wholes" (top 9) ["thing"] f fd) (D_is_tuple_of : DefAt K mg "is_tuple_of" (top 8) ["thing", "many"] f_is_tuple_of d_is_tuple_of) (G_is_tuple_of : FnOk P w K mg base CX0 1 f_is_tuple_of d_is_tuple_of ["thing", "many"] spTupleOf) (D_is_whole : DefAt K mg "is_whole" (top 7) ["thing"] f_is_whole d_is_whole) (G_is_whole : FnOk P w K mg base CX0 1 f_is_whole d_is_whole ["thing"] spWhole) : FnOk P w K mg base CX0 2 f fd ["thing"] spPairO := by
  have sc : FnScope ["thing"] ["thing"] (defScope (top 9)) := ⟨rfl, rfl, rfl, by decide +kernel, rfl, by decide +kernel, by decide +kernel⟩
  refine D.F.ok sc (fun vs H Q E h => ?_) (fun cdv A outer s H vs Q E hr h => ?_)
  · obtain ⟨x, o, rfl, _⟩ := h
    rfl
  obtain ⟨x, o, rfl, ho, h⟩ := h
  obtain ⟨d, hd, rfl⟩ := ho
  have hu := hu_of hr
  have hu0 : _ < PySem.cLine := Nat.lt_of_succ_lt hu
  refine ⟨_, (pss_one (ps_ret (q_and (pe_call G_is_tuple_of (hr.mono (by decide)) rfl D_is_tuple_of.m D_is_tuple_of.F.kp D_is_tuple_of.b .nil pass0 (pa_cons (qv 0) (pa_cons pe_int pa_nil))) (q_and (pe_call G_is_whole (hr.mono (by decide)) rfl D_is_whole.m D_is_whole.F.kp D_is_whole.b .nil pass0 (pa_cons (pe_ix q_ix (qv 0) pe_int (fun _ _ => rfl)) pa_nil)) (pe_one (pe_call G_is_whole (hr.mono (by decide)) rfl D_is_whole.m D_is_whole.F.kp D_is_whole.b .nil pass0 (pa_cons (pe_ix q_ix (qv 0) pe_int (fun _ _ => rfl)) pa_nil))))))), ?_⟩
  walk_at "RD"
  refine ⟨_, d, 2, rfl, hd, ?_⟩
  cases d with
  | tup ds =>
    rw [Rep] at hd
    obtain ⟨a, vs, rfl, ea, r⟩ := hd
    match ds, r, h with
    | [], r, h =>
      rw [show tupB 2 (.tup []) = false from rfl]
      walk_at "RD"
      exact h
    | [d1], r, h =>
      have e2 : prO (.tup [d1]) = none := by cases d1 <;> rfl
      rw [e2] at h
      rw [show tupB 2 (.tup [d1]) = false from rfl]
      walk_at "RD"
      exact h
    | d1 :: d2 :: d3 :: ds, r, h =>
      have e : tupB 2 (.tup (d1 :: d2 :: d3 :: ds)) = false := by
        unfold tupB
        refine decide_eq_false ?_
        rw [List.length_cons, List.length_cons, List.length_cons]
        omega
      have e2 : prO (.tup (d1 :: d2 :: d3 :: ds)) = none := by cases d1 <;> cases d2 <;> rfl
      rw [e2] at h
      rw [e]
      walk_at "RD"
      exact h
    | [d1, d2], r, h =>
      rw [Reps] at r
      obtain ⟨v1, r1, rfl, e1, r⟩ := r
      rw [Reps] at r
      obtain ⟨v2, r2, rfl, e2, r⟩ := r
      rw [Reps] at r
      subst r
      rw [show tupB 2 (.tup [d1, d2]) = true from rfl]
      simp_arith [seqOf, ea, at0, at1]
      refine ⟨_, kdD d1, rfl, rep_kd e1, ?_⟩
      cases d1 with
      | int i =>
        simp_arith [kdD, wholeK, seqOf, ea, at0, at1]
        refine ⟨_, kdD d2, rfl, rep_kd e2, ?_⟩
        cases d2 <;> exact h
      | _ => simp_arith [kdD, wholeK]; exact h
  | _ => simp_arith [tupB]; exact h
theorem ok_place_stands {f : Addr} {fd : FuncData} {f_is_pair_of_wholes : Addr} {d_is_pair_of_wholes : FuncData} (B : Blt mg) (C : Cst mg c1 c2 c3 c4) (D : DefAt K mg "place_stands" (top 16) ["thing", "last", "spent"] f fd) (D_is_pair_of_wholes : DefAt K mg "is_pair_of_wholes" (top 9) ["thing"] f_is_pair_of_wholes d_is_pair_of_wholes) (G_is_pair_of_wholes : FnOk P w K mg base CX0 2 f_is_pair_of_wholes d_is_pair_of_wholes ["thing"] spPairO) : FnOk P w K mg base CX0 3 f fd ["thing", "last", "spent"] spPlaceO := by
  have sc : FnScope ["thing", "last", "spent"] ["thing", "last", "spent"] (defScope (top 16)) := ⟨rfl, rfl, rfl, by decide +kernel, rfl, by decide +kernel, by decide +kernel⟩
  refine D.F.ok sc (fun vs H Q E h => ?_) (fun cdv A outer s H vs Q E hr h => ?_)
  · obtain ⟨x, o, l, s, rfl, _⟩ := h
    rfl
  obtain ⟨x, o, l, sp, rfl, ho, h⟩ := h
  have hu := hu_of hr
  have hu0 : _ < PySem.cLine := Nat.lt_of_succ_lt hu
  refine ⟨_, (pss_cons (ps_if (pt_not (qt_val (pe_call G_is_pair_of_wholes (hr.mono (by decide)) rfl D_is_pair_of_wholes.m D_is_pair_of_wholes.F.kp D_is_pair_of_wholes.b .nil pass0 (pa_cons (qv 0) pa_nil)))) (pss_one (ps_ret pe_bl)) pss_nil) (pss_one (ps_ret (q_and (q_chain q_lt q_le (qv 1) (pe_ix q_ix (qv 0) pe_int (fun _ _ => rfl)) (pe_glob (v := .int 999) rfl C.LAST_PLACE ⟨_, rfl⟩)) (pe_one (q_chain q_le q_le pe_int (pe_ix q_ix (qv 0) pe_int (fun _ _ => rfl)) (pe_op q_sub (pe_glob (v := .int 1000000000000) rfl C.MOST_PRICE ⟨_, rfl⟩) (qv 2)))))))), ?_⟩
  walk_at "RD"
  refine ⟨_, o, rfl, ho, ?_⟩
  cases o with
  | none =>
    simp_arith [Option.isSome_none]
    exact h
  | some p =>
    obtain ⟨a, rfl, ea⟩ := OPr.pr ho
    simp_arith [Option.isSome_some, seqOf, ea, at0, at1]
    unfold plS at h
    by_cases b1 : l < p.1 <;> by_cases b2 : p.1 ≤ 999 <;> by_cases b3 : 1 ≤ p.2 <;> by_cases b4 : p.2 ≤ 1000000000000 - sp <;> simp [b1, b2, b3, b4] at h ⊢ <;> exact h
theorem ok_tie_stands {f : Addr} {fd : FuncData} {f_is_pair_of_wholes : Addr} {d_is_pair_of_wholes : FuncData} (B : Blt mg) (D : DefAt K mg "tie_stands" (top 17) ["thing", "last", "prices"] f fd) (D_is_pair_of_wholes : DefAt K mg "is_pair_of_wholes" (top 9) ["thing"] f_is_pair_of_wholes d_is_pair_of_wholes) (G_is_pair_of_wholes : FnOk P w K mg base CX0 2 f_is_pair_of_wholes d_is_pair_of_wholes ["thing"] spPairO) : FnOk P w K mg base CX0 3 f fd ["thing", "last", "prices"] spTieO := by
  have sc : FnScope ["thing", "last", "prices"] ["thing", "last", "prices"] (defScope (top 17)) := ⟨rfl, rfl, rfl, by decide +kernel, rfl, by decide +kernel, by decide +kernel⟩
  refine D.F.ok sc (fun vs H Q E h => ?_) (fun cdv A outer s H vs Q E hr h => ?_)
  · obtain ⟨x, o, y, q, d, kvs, rfl, _⟩ := h
    rfl
  obtain ⟨x, o, y, q, d, kvs, rfl, ho, hq, hd, h⟩ := h
  obtain ⟨b, rfl, eb⟩ := id hq
  have hu := hu_of hr
  have hu0 : _ < PySem.cLine := Nat.lt_of_succ_lt hu
  refine ⟨_, (pss_cons (ps_if (pt_not (qt_val (pe_call G_is_pair_of_wholes (hr.mono (by decide)) rfl D_is_pair_of_wholes.m D_is_pair_of_wholes.F.kp D_is_pair_of_wholes.b .nil pass0 (pa_cons (qv 0) pa_nil)))) (pss_one (ps_ret pe_bl)) pss_nil) (pss_one (ps_ret (q_and (pe_cmpR (q_ltT hu0) (qv 1) (qv 0) (nomark _)) (q_and (pe_cmpR q_lt (pe_ix q_ix (qv 0) pe_int (fun _ _ => rfl)) (pe_ix q_ix (qv 0) pe_int (fun _ _ => rfl)) (nomark _)) (q_and (pe_cmp (q_din hu (pe_ix q_ix (qv 0) pe_int (fun _ _ => rfl)) (qv 2))) (pe_one (pe_cmp (q_din hu (pe_ix q_ix (qv 0) pe_int (fun _ _ => rfl)) (qv 2)))))))))), ?_⟩
  walk_at "RD"
  refine ⟨_, o, rfl, ho, ?_⟩
  cases o with
  | none =>
    simp_arith [Option.isSome_none]
    exact h
  | some p =>
    obtain ⟨a, rfl, ea⟩ := OPr.pr ho
    simp_arith [Option.isSome_some, seqOf, ea, eb, hd, at0, at1]
    unfold tiS hasK at h
    dsimp only at h
    cases b1 : HT.lexLt [q.1, q.2] [p.1, p.2] <;> by_cases b2 : p.1 < p.2 <;> cases b3 : (valV kvs (Sum.inl p.1 : Key)).isSome <;> cases b4 : (valV kvs (Sum.inl p.2 : Key)).isSome <;> simp [b1, b2, b3, b4] at h ⊢ <;> exact h
end
end My
namespace My
open PySem L2
section
variable {P : Program} {w : World} {K : PySem.W.Frag} {mg : Str → Option Value} {base : Heap} {c1 c2 c3 c4 : Tok} {C_NoWeb f_NoWeb : Addr} {dI : FuncData}
def PlOk : Int → Int → List (Int × Int) → Prop
  | _, _, [] => True
  | l, s, p :: r => (l < p.1 ∧ p.1 ≤ 999 ∧ 1 ≤ p.2 ∧ p.2 ≤ 1000000000000 - s) ∧ PlOk p.1 (s + p.2) r
def kvsOf (ps : List (Int × Int)) : List (Key × V) := ps.map fun p => (Sum.inl p.1, V.int p.2)
def TiOk (kvs : List (Key × V)) : Int × Int → List (Int × Int) → Prop
  | _, [] => True
  | q, p :: r => (HT.lexLt [q.1, q.2] [p.1, p.2] = true ∧ p.1 < p.2 ∧ hasK kvs p.1 = true ∧ hasK kvs p.2 = true) ∧ TiOk kvs p r
structure WebOk (ps ts : List (Int × Int)) : Prop where
  pl : ps.length ≤ 40
  p : PlOk (-1) 0 ps
  tl : ts.length ≤ 120
  t : TiOk (kvsOf ps) (-1, -1) ts
def WebAt (H : Hp) (v : V) (ps ts : List (Int × Int)) : Prop :=
  ∃ u pa ta xs ys, v = .ref u ∧ H u = some (.tup [.ref pa, .ref ta]) ∧ H pa = some (.lst xs) ∧ H ta = some (.lst ys) ∧ Prs H xs ps ∧ Prs H ys ts
theorem WebAt.same {H H' : Hp} {v : V} {ps ts : List (Int × Int)} (h : WebAt H v ps ts) (s : Same H H') : WebAt H' v ps ts := by
  obtain ⟨u, pa, ta, xs, ys, e, h1, h2, h3, h4, h5⟩ := h
  exact ⟨u, pa, ta, xs, ys, e, s _ _ h1, s _ _ h2, s _ _ h3, Prs.same s h4, Prs.same s h5⟩
theorem PlOk.gt : ∀ {ps : List (Int × Int)} {l s : Int}, PlOk l s ps → ∀ p ∈ ps, l < p.1
  | [], _, _, _, _, h => by cases h
  | q :: r, l, s, h, p, hp => by
    rcases List.mem_cons.mp hp with e | hp
    · rw [e]; exact h.1.1
    · have := PlOk.gt h.2 p hp
      have := h.1.1
      omega
theorem PlOk.nodup : ∀ {ps : List (Int × Int)} {l s : Int}, PlOk l s ps → (ps.map (·.1)).Nodup
  | [], _, _, _ => List.nodup_nil
  | q :: r, l, s, h => by
    rw [List.map_cons]
    refine List.nodup_cons.mpr ⟨fun hm => ?_, PlOk.nodup h.2⟩
    obtain ⟨p, hp, e⟩ := List.mem_map.mp hm
    have := PlOk.gt h.2 p hp
    omega
theorem keys_nodup {ps : List (Int × Int)} (h : (ps.map (·.1)).Nodup) : ((kvsOf ps).map (·.1)).Nodup := by
  unfold kvsOf
  rw [List.map_map]
  have e : ((fun (x : Key × V) => x.1) ∘ fun (p : Int × Int) => ((Sum.inl p.1 : Key), V.int p.2)) = (fun (n : Int) => (Sum.inl n : Key)) ∘ fun (p : Int × Int) => p.1 := rfl
  rw [e, ← List.map_map]
  unfold List.Nodup at h ⊢
  rw [List.pairwise_map]
  exact h.imp fun q z => q (Sum.inl.inj z)
theorem pairs_at {H : Hp} : ∀ {xs : List V} {ps : List (Int × Int)}, Prs H xs ps → Paired (PairAt H) xs (kvsOf ps)
  | _, _, .nil => .nil
  | _, _, .cons r t => by
    obtain ⟨a, e, q⟩ := r
    exact .cons ⟨a, e, q⟩ (pairs_at t)
theorem valV_of : ∀ {ps : List (Int × Int)} {p : Int × Int}, (ps.map (·.1)).Nodup → p ∈ ps → valV (kvsOf ps) (Sum.inl p.1 : Key) = some (.int p.2)
  | [], _, _, h => by cases h
  | q :: r, p, hn, h => by
    rw [List.map_cons] at hn
    unfold kvsOf valV
    rw [List.map_cons, List.find?_cons]
    rcases List.mem_cons.mp h with e | h
    · rw [e]
      simp
    · have hne : q.1 ≠ p.1 := fun z => (List.nodup_cons.mp hn).1 (by rw [z]; exact List.mem_map_of_mem h)
      have hd : decide ((Sum.inl q.1 : Key) = Sum.inl p.1) = false := decide_eq_false fun z => hne (Sum.inl.inj z)
      dsimp only
      rw [hd]
      exact valV_of (List.nodup_cons.mp hn).2 h
theorem hasK_of {ps : List (Int × Int)} {p : Int × Int} (hn : (ps.map (·.1)).Nodup) (h : p ∈ ps) : hasK (kvsOf ps) p.1 = true := by
  unfold hasK
  rw [valV_of hn h]
  rfl
def plBad : Int → Int → Nat → List (Option (Int × Int)) → Option Nat
  | _, _, _, [] => none
  | _, _, k, none :: _ => some k
  | l, s, k, some p :: r => if plS l s (some p) = true then plBad p.1 (s + p.2) (k + 1) r else some k
def tiBad (kvs : List (Key × V)) : Int × Int → Nat → List (Option (Int × Int)) → Option Nat
  | _, _, [] => none
  | _, k, none :: _ => some k
  | q, k, some p :: r => if tiS kvs q (some p) = true then tiBad kvs p (k + 1) r else some k
def noPl (os : List (Option (Int × Int))) : Option (Option Nat) := if os.length ≤ 40 then (plBad (-1) 0 0 os).map some else some none
def noTi (kvs : List (Key × V)) (os : List (Option (Int × Int))) : Option (Option Nat) := if os.length ≤ 120 then (tiBad kvs (-1, -1) 0 os).map some else some none
theorem plBad_none : ∀ {os : List (Option (Int × Int))} {l s : Int} {k : Nat}, plBad l s k os = none → ∃ ps, os = ps.map some ∧ PlOk l s ps
  | [], _, _, _, _ => ⟨[], rfl, trivial⟩
  | none :: r, _, _, _, h => by cases h
  | some p :: r, l, s, k, h => by
    rw [plBad] at h
    by_cases c : plS l s (some p) = true
    · rw [if_pos c] at h
      obtain ⟨ps, e, q⟩ := plBad_none h
      exact ⟨p :: ps, by rw [e]; rfl, of_decide_eq_true c, q⟩
    · rw [if_neg c] at h; cases h
theorem tiBad_none {kvs : List (Key × V)} : ∀ {os : List (Option (Int × Int))} {q : Int × Int} {k : Nat}, tiBad kvs q k os = none → ∃ ts, os = ts.map some ∧ TiOk kvs q ts
  | [], _, _, _ => ⟨[], rfl, trivial⟩
  | none :: r, _, _, h => by cases h
  | some p :: r, q, k, h => by
    rw [tiBad] at h
    by_cases c : tiS kvs q (some p) = true
    · rw [if_pos c] at h
      obtain ⟨ts, e, z⟩ := tiBad_none h
      refine ⟨p :: ts, by rw [e]; rfl, ?_, z⟩
      unfold tiS at c
      simp only [Bool.and_eq_true, decide_eq_true_eq] at c
      exact ⟨c.1, c.2.1, c.2.2.1, c.2.2.2⟩
    · rw [if_neg c] at h; cases h
def nV : Option Nat → V
  | none => .non
  | some k => .int k
def webX (w : Str) (n : Option Nat) (dx : Addr) : HO := xdO dx (putF "number" (nV n) [("part", .str w)])
def Ref (C : Addr) (H : Hp) (E : XK) (w : Str) (n : Option Nat) : Prop := ∀ dx H', H dx = none → Same H H' → H' dx = some (webX w n dx) → E (.ref C) (some dx) H'
theorem Ref.back {C : Addr} {H H1 : Hp} {E : XK} {w : Str} {n : Option Nat} (h : Ref C H E w n) (s : Same H H1) : Ref C H1 E w n := fun dx H' hd s' e => h dx H' (s.free hd) (s.trans s') e
theorem reps_o {H : Hp} : ∀ {ds : List Dt} {xs : List V}, Reps H ds xs → Paired (OPr H) xs (ds.map prO)
  | [], _, h => by rw [Reps] at h; subst h; exact .nil
  | d :: ds, _, h => by
    rw [Reps] at h
    obtain ⟨v, r, rfl, h1, h2⟩ := h
    exact .cons ⟨d, h1, rfl⟩ (reps_o h2)
def noPlD : Dt → Option (Option Nat)
  | .lst ds => noPl (ds.map prO)
  | _ => some none
def noTiD (kvs : List (Key × V)) : Dt → Option (Option Nat)
  | .lst ds => noTi kvs (ds.map prO)
  | _ => some none
def spLP (C : Addr) : Sp := fun vs H Q E => ∃ v d, vs = [v] ∧ Rep H d v ∧ (noPlD d = none → ∀ H', Same H H' → Q .non H') ∧ ∀ n, noPlD d = some n → Ref C H E "places" n
def spLT (C : Addr) : Sp := fun vs H Q E => ∃ v d a kvs, vs = [v, .ref a] ∧ Rep H d v ∧ H a = some (.dK kvs) ∧ (noTiD kvs d = none → ∀ H', Same H H' → Q .non H') ∧ ∀ n, noTiD kvs d = some n → Ref C H E "ties" n
theorem ok_init_NoWeb {f : Addr} {fd : FuncData} {C_TouchError : Addr} (DI : InitAt K "NoWeb.__init__" (meth 2 0) ["self", "part", "number"] f fd) (X_NoWeb : ClsX K mg "NoWeb" C_NoWeb f_NoWeb) (m_TouchError : mg "TouchError" = some (.ref C_TouchError)) (xi : XI K C_TouchError "ValueError.__init__")
    (hf : PySem.W.findIn K (.ref C_NoWeb) "part" = some none) (hg : PySem.W.findIn K (.ref C_NoWeb) "number" = some none) : FnOk P w K mg base CX0 1 f fd ["self", "part", "number"] (spInit2 C_NoWeb "part" "number") := by
  have sc : FnScope ["self", "part", "number"] ["self", "part", "number"] (defScope (meth 2 0)) := ⟨rfl, rfl, rfl, by decide +kernel, rfl, by decide +kernel, by decide +kernel⟩
  refine DI.F.ok sc (fun vs H Q E h => ?_) (fun cdv A outer s H vs Q E hr h => ?_)
  · obtain ⟨a, y, z, rfl, _⟩ := h
    rfl
  obtain ⟨a, y, z, rfl, ea, h⟩ := h
  refine ⟨_, (pss_cons (ps_expr (pe_xinit PySem.F.excBase_ValueError xi X_NoWeb.xin rfl m_TouchError (pa_cons (qv 0) (pa_cons (qv 1) (pa_cons (qv 2) pa_nil))))) (pss_cons (ps_xfld X_NoWeb.a hf (qv 0) (qv 1) rfl) (pss_one (ps_xfld X_NoWeb.a hg (qv 0) (qv 2) rfl)))), ?_⟩
  simp only [tCallX, fInsert, fLeT, fIsB, tSeq, tNext, tDrop, tRet, tRetN, tIfS, tAsg, gName, fAug, tOp, tUn, tC, fVar, fI, fIC, fNeg, fEq, fNe, fIsN, isNon, fAnd, fOr, fNot, fB, tNot, tAnd, tOr, fChain, fIx, fLen, fListOf, fMin, fMax, fInL, fSlL, tSl, fPart, tNoPart, fAppend, fBM, fSetL, gSub, fGNil, fGCons, fGTup, fGLst, fDGet2, sDPutF, tDNewK, fCat, fClear, fBM0, fSlT, fInt1, tCBK, fDIn, fDGet, fIsi, fBools, fDictL, fLtT, tCall, tCB, tCons, tNil, tTup, tLst, tIf, tTrue, Kd.nm, L2.start, List.map_cons, List.map_nil, List.length_cons, List.length_nil, Nat.reduceAdd, Nat.reduceSub, List.replicate_succ, List.replicate_zero, List.getElem?_cons_zero, List.getElem?_cons_succ, List.set_cons_zero, List.set_cons_succ, List.append_nil, List.nil_append, List.cons_append, eq_self, true_and, and_true, if_true, Bool.false_eq_true, if_false, Bool.not_true, Bool.not_false, id_eq, sl0, sl1, sl2, sl3, sl4, tXI, sXF]
  refine ⟨a, [y, z], none, rfl, ea, (by show 2 ≤ sizeLine; decide), ?_⟩
  refine ⟨a, rfl, .inl ⟨ea, fun dx hd ne => ?_⟩⟩
  refine ⟨a, rfl, .inr ⟨dx, [("part", y)], upd_same, ?_, ne, (by show 1 < 900; decide), h dx hd ne⟩⟩
  rw [upd_ne ne, upd_same]
theorem ok_look_at_places {f : Addr} {fd : FuncData} {f_is_list_up_to : Addr} {d_is_list_up_to : FuncData} {f_place_stands : Addr} {d_place_stands : FuncData} (B : Blt mg) (C : Cst mg c1 c2 c3 c4) (D : DefAt K mg "look_at_places" (top 18) ["places"] f fd) (D_is_list_up_to : DefAt K mg "is_list_up_to" (top 10) ["thing", "most"] f_is_list_up_to d_is_list_up_to) (G_is_list_up_to : FnOk P w K mg base CX0 1 f_is_list_up_to d_is_list_up_to ["thing", "most"] spListUpTo) (D_place_stands : DefAt K mg "place_stands" (top 16) ["thing", "last", "spent"] f_place_stands d_place_stands) (G_place_stands : FnOk P w K mg base CX0 3 f_place_stands d_place_stands ["thing", "last", "spent"] spPlaceO) (X_NoWeb : ClsX K mg "NoWeb" C_NoWeb f_NoWeb) (DI_NoWeb : InitAt K "NoWeb.__init__" (meth 2 0) ["self", "part", "number"] f_NoWeb dI) (GI_NoWeb : FnOk P w K mg base CX0 1 f_NoWeb dI ["self", "part", "number"] (spInit2 C_NoWeb "part" "number")) : FnOk P w K mg base (CXE P w) 4 f fd ["places"] (spLP C_NoWeb) := by
  have sc : FnScope ["places", "last", "spent", "number", "thing"] ["places"] (defScope (top 18)) := ⟨rfl, rfl, rfl, by decide +kernel, rfl, by decide +kernel, by decide +kernel⟩
  refine D.F.okX sc (fun vs H Q E h => ?_) (fun cdv A outer s H vs Q E hr h => ?_)
  · obtain ⟨v, d, rfl, _⟩ := h
    rfl
  obtain ⟨v, d, rfl, hd, h1, h2⟩ := h
  have hu := hu_of hr
  have hu0 : _ < PySem.cLine := Nat.lt_of_succ_lt hu
  refine ⟨_, (pss_cons (ps_if (pt_not (qt_val (pe_call G_is_list_up_to (hr.mono (by decide)) rfl D_is_list_up_to.m D_is_list_up_to.F.kp D_is_list_up_to.b .nil pass0 (pa_cons (qv 0) (pa_cons (pe_glob (v := .int 40) rfl C.MOST_PLACES ⟨_, rfl⟩) pa_nil))))) (pss_one (ps_raise PySem.F.excBase_ValueError X_NoWeb.xin X_NoWeb.fn GI_NoWeb DI_NoWeb.b (hr.mono (by decide)) rfl X_NoWeb.m X_NoWeb.kp ⟨rfl, rfl, rfl, fun _ => rfl⟩ xo_tr (pa_cons pe_str (pa_cons pe_non pa_nil)))) pss_nil) (pss_cons (ps_set (i := 1) sc.nd rfl (Or.inl rfl) (pe_un q_neg pe_int)) (pss_cons (ps_set (i := 2) sc.nd rfl (Or.inl rfl) pe_int) (pss_one (ps_forT ⟨rfl, rfl, rfl, fun _ => rfl⟩ rfl (pi_enum rfl B.enumerate (pa_cons (qv 0) pa_nil)) (qg_tup (n := 2) rfl (qgs_cons (pg_name (i := 3) sc.nd rfl (Or.inl rfl)) (qgs_cons (pg_name (i := 4) sc.nd rfl (Or.inl rfl)) qgs_nil))) (pss_cons (ps_if (pt_not (qt_val (pe_call G_place_stands (hr.mono (by decide)) rfl D_place_stands.m D_place_stands.F.kp D_place_stands.b .nil pass0 (pa_cons (qv 4) (pa_cons (qv 1) (pa_cons (qv 2) pa_nil)))))) (pss_one (ps_raise PySem.F.excBase_ValueError X_NoWeb.xin X_NoWeb.fn GI_NoWeb DI_NoWeb.b (hr.mono (by decide)) rfl X_NoWeb.m X_NoWeb.kp ⟨rfl, rfl, rfl, fun _ => rfl⟩ xo_tr (pa_cons pe_str (pa_cons (qv 3) pa_nil)))) pss_nil) (pss_cons (ps_set (i := 1) sc.nd rfl (Or.inl rfl) (pe_ix q_ix (qv 4) pe_int (fun _ _ => rfl))) (pss_one (qs_aug (i := 2) sc.nd rfl (Or.inl rfl) (pe_ix q_ix (qv 4) pe_int (fun _ _ => rfl)) q_iadd))))))))), ?_⟩
  walk_at "RD"
  refine ⟨_, d, 40, rfl, hd, ?_⟩
  cases d with
  | lst ds =>
    rw [Rep] at hd
    obtain ⟨a, xs, rfl, ea, hreps⟩ := hd
    have hp := reps_o hreps
    have hlx0 : xs.length = ds.length := hreps.len
    unfold lstB
    dsimp only
    unfold noPlD at h1 h2
    dsimp only at h1 h2
    have hlx : xs.length = (ds.map prO).length := Paired.length hp
    rw [← hlx0]
    generalize ds.map prO = os at hp hlx h1 h2
    by_cases hl : os.length ≤ 40
    · rw [decide_eq_true (show (xs.length : Int) ≤ 40 by omega)]
      have en : noPl os = (plBad (-1) 0 0 os).map some := by unfold noPl; rw [if_pos hl]
      walk_at "RD"
      refine ⟨a, rfl, ⟨xs, SqL.of ea⟩, for_enum (K := K) (a := a) (xs := xs) (fun i σ H1 => ∃ l sp nb th, σ = [some (.ref a), some (.int l), some (.int sp), nb, th] ∧ Same H H1 ∧ plBad (-1) 0 0 os = plBad l sp i (os.drop i)) ⟨-1, 0, none, none, rfl, Same.refl _, rfl⟩ (fun i σ H1 _ ⟨_, _, _, _, _, s1, _⟩ => SqL.of (s1 _ _ ea)) ?_ ?_⟩
      · rintro i x σ H1 t hi ⟨l, sp, nb, th, rfl, s1, ok1⟩ ht
        obtain ⟨o, hoi, ox⟩ := paired_left hp hi
        rw [drop_get hoi] at ok1
        have s2 : Same H (upd H1 t (.tup [.int i, x])) := s1.trans (same_new ht _)
        have ox2 := ox.same s2
        simp_arith [upd_same]
        refine ⟨_, o, l, sp, rfl, ox2, ?_⟩
        cases c : plS l sp o with
        | true =>
          cases o with
          | none => cases c
          | some p =>
            obtain ⟨u, rfl, eu⟩ := OPr.pr ox2
            simp_arith [seqOf, eu, at0, at1]
            exact ⟨_, _, _, _, rfl, s2, by rw [ok1, plBad, if_pos c]⟩
        | false =>
          have e : plBad (-1) 0 0 os = some i := by
            rw [ok1]
            cases o with
            | none => rfl
            | some p => rw [plBad, if_neg (by rw [c]; decide)]
          have hr2 := (h2 (some i) (by rw [en, e]; rfl)).back s2
          simp_arith [sRaise]
          exact fun y hy => raise2 hy hr2
      · rintro σ H1 ⟨l, sp, nb, th, rfl, s1, ok1⟩
        rw [hlx, List.drop_length] at ok1
        exact h1 (by rw [en, ok1]; rfl) H1 s1
    · rw [decide_eq_false (show ¬ (xs.length : Int) ≤ 40 by omega)]
      have hr2 := h2 none (by unfold noPl; rw [if_neg hl])
      simp_arith [sRaise]
      exact fun y hy => raise2 hy hr2
  | _ =>
    unfold lstB
    dsimp only
    have hr2 := h2 none rfl
    simp_arith [sRaise]
    exact fun y hy => raise2 hy hr2
theorem ok_look_at_ties {f : Addr} {fd : FuncData} {f_is_list_up_to : Addr} {d_is_list_up_to : FuncData} {f_tie_stands : Addr} {d_tie_stands : FuncData} (B : Blt mg) (C : Cst mg c1 c2 c3 c4) (D : DefAt K mg "look_at_ties" (top 19) ["ties", "prices"] f fd) (D_is_list_up_to : DefAt K mg "is_list_up_to" (top 10) ["thing", "most"] f_is_list_up_to d_is_list_up_to) (G_is_list_up_to : FnOk P w K mg base CX0 1 f_is_list_up_to d_is_list_up_to ["thing", "most"] spListUpTo) (D_tie_stands : DefAt K mg "tie_stands" (top 17) ["thing", "last", "prices"] f_tie_stands d_tie_stands) (G_tie_stands : FnOk P w K mg base CX0 3 f_tie_stands d_tie_stands ["thing", "last", "prices"] spTieO) (X_NoWeb : ClsX K mg "NoWeb" C_NoWeb f_NoWeb) (DI_NoWeb : InitAt K "NoWeb.__init__" (meth 2 0) ["self", "part", "number"] f_NoWeb dI) (GI_NoWeb : FnOk P w K mg base CX0 1 f_NoWeb dI ["self", "part", "number"] (spInit2 C_NoWeb "part" "number")) : FnOk P w K mg base (CXE P w) 4 f fd ["ties", "prices"] (spLT C_NoWeb) := by
  have sc : FnScope ["ties", "prices", "last", "number", "thing"] ["ties", "prices"] (defScope (top 19)) := ⟨rfl, rfl, rfl, by decide +kernel, rfl, by decide +kernel, by decide +kernel⟩
  refine D.F.okX sc (fun vs H Q E h => ?_) (fun cdv A outer s H vs Q E hr h => ?_)
  · obtain ⟨v, dt, d, kvs, rfl, _⟩ := h
    rfl
  obtain ⟨v, dt, d, kvs, rfl, hd, ed, h1, h2⟩ := h
  have hu := hu_of hr
  have hu0 : _ < PySem.cLine := Nat.lt_of_succ_lt hu
  refine ⟨_, (pss_cons (ps_if (pt_not (qt_val (pe_call G_is_list_up_to (hr.mono (by decide)) rfl D_is_list_up_to.m D_is_list_up_to.F.kp D_is_list_up_to.b .nil pass0 (pa_cons (qv 0) (pa_cons (pe_glob (v := .int 120) rfl C.MOST_TIES ⟨_, rfl⟩) pa_nil))))) (pss_one (ps_raise PySem.F.excBase_ValueError X_NoWeb.xin X_NoWeb.fn GI_NoWeb DI_NoWeb.b (hr.mono (by decide)) rfl X_NoWeb.m X_NoWeb.kp ⟨rfl, rfl, rfl, fun _ => rfl⟩ xo_tr (pa_cons pe_str (pa_cons pe_non pa_nil)))) pss_nil) (pss_cons (ps_set (i := 2) sc.nd rfl (Or.inl rfl) (pe_tup (pa_cons (pe_un q_neg pe_int) (pa_cons (pe_un q_neg pe_int) pa_nil)))) (pss_one (ps_forT ⟨rfl, rfl, rfl, fun _ => rfl⟩ rfl (pi_enum rfl B.enumerate (pa_cons (qv 0) pa_nil)) (qg_tup (n := 2) rfl (qgs_cons (pg_name (i := 3) sc.nd rfl (Or.inl rfl)) (qgs_cons (pg_name (i := 4) sc.nd rfl (Or.inl rfl)) qgs_nil))) (pss_cons (ps_if (pt_not (qt_val (pe_call G_tie_stands (hr.mono (by decide)) rfl D_tie_stands.m D_tie_stands.F.kp D_tie_stands.b .nil pass0 (pa_cons (qv 4) (pa_cons (qv 2) (pa_cons (qv 1) pa_nil)))))) (pss_one (ps_raise PySem.F.excBase_ValueError X_NoWeb.xin X_NoWeb.fn GI_NoWeb DI_NoWeb.b (hr.mono (by decide)) rfl X_NoWeb.m X_NoWeb.kp ⟨rfl, rfl, rfl, fun _ => rfl⟩ xo_tr (pa_cons pe_str (pa_cons (qv 3) pa_nil)))) pss_nil) (pss_one (ps_set (i := 2) sc.nd rfl (Or.inl rfl) (qv 4)))))))), ?_⟩
  walk_at "RD"
  refine ⟨_, dt, 120, rfl, hd, ?_⟩
  cases dt with
  | lst ds =>
    rw [Rep] at hd
    obtain ⟨a, xs, rfl, ea, hreps⟩ := hd
    have hp := reps_o hreps
    have hlx0 : xs.length = ds.length := hreps.len
    unfold lstB
    dsimp only
    unfold noTiD at h1 h2
    dsimp only at h1 h2
    have hlx : xs.length = (ds.map prO).length := Paired.length hp
    rw [← hlx0]
    generalize ds.map prO = os at hp hlx h1 h2
    by_cases hl : os.length ≤ 120
    · rw [decide_eq_true (show (xs.length : Int) ≤ 120 by omega)]
      have en : noTi kvs os = (tiBad kvs (-1, -1) 0 os).map some := by unfold noTi; rw [if_pos hl]
      walk_at "RD"
      intro t0 ht0
      refine ⟨a, rfl, ⟨xs, SqL.of (same_new ht0 _ _ _ ea)⟩, for_enum (K := K) (a := a) (xs := xs) (fun i σ H1 => ∃ lv q nb th, σ = [some (.ref a), some (.ref d), some lv, nb, th] ∧ Same H H1 ∧ Pr H1 lv q ∧ tiBad kvs (-1, -1) 0 os = tiBad kvs q i (os.drop i)) ⟨_, (-1, -1), none, none, rfl, same_new ht0 _, ⟨t0, rfl, upd_same⟩, rfl⟩ (fun i σ H1 _ ⟨_, _, _, _, _, s1, _⟩ => SqL.of (s1 _ _ ea)) ?_ ?_⟩
      · rintro i x σ H1 t hi ⟨lv, q, nb, th, rfl, s1, pq, ok1⟩ ht
        obtain ⟨o, hoi, ox⟩ := paired_left hp hi
        rw [drop_get hoi] at ok1
        have s2 : Same H (upd H1 t (.tup [.int i, x])) := s1.trans (same_new ht _)
        have ox2 := ox.same s2
        simp_arith [upd_same]
        refine ⟨_, o, _, q, d, kvs, rfl, ox2, pq.same (same_new ht _), s2 _ _ ed, ?_⟩
        cases c : tiS kvs q o with
        | true =>
          cases o with
          | none => cases c
          | some p =>
            walk_at "RD"
            exact ⟨_, _, _, _, rfl, s2, OPr.pr ox2, by rw [ok1, tiBad, if_pos c]⟩
        | false =>
          have e : tiBad kvs (-1, -1) 0 os = some i := by
            rw [ok1]
            cases o with
            | none => rfl
            | some p => rw [tiBad, if_neg (by rw [c]; decide)]
          have hr2 := (h2 (some i) (by rw [en, e]; rfl)).back s2
          simp_arith [sRaise]
          exact fun y hy => raise2 hy hr2
      · rintro σ H1 ⟨lv, q, nb, th, rfl, s1, _, ok1⟩
        rw [hlx, List.drop_length] at ok1
        exact h1 (by rw [en, ok1]; rfl) H1 s1
    · rw [decide_eq_false (show ¬ (xs.length : Int) ≤ 120 by omega)]
      have hr2 := h2 none (by unfold noTi; rw [if_neg hl])
      simp_arith [sRaise]
      exact fun y hy => raise2 hy hr2
  | _ =>
    unfold lstB
    dsimp only
    have hr2 := h2 none rfl
    simp_arith [sRaise]
    exact fun y hy => raise2 hy hr2
def psOf (os : List (Option (Int × Int))) : List (Int × Int) := os.filterMap id
theorem psOf_some (ps : List (Int × Int)) : psOf (ps.map some) = ps := by
  unfold psOf
  rw [List.filterMap_map]
  exact List.filterMap_some
def psD : Dt → List (Int × Int)
  | .lst ds => psOf (ds.map prO)
  | _ => []
def noWebD : Dt → Option (Str × Option Nat)
  | .tup [a, b] => match noPlD a with
    | some n => some ("places", n)
    | none => match noTiD (kvsOf (psD a)) b with
      | some n => some ("ties", n)
      | none => none
  | _ => some ("web", none)
theorem noPl_none {os : List (Option (Int × Int))} (h : noPl os = none) : os.length ≤ 40 ∧ ∃ ps, os = ps.map some ∧ PlOk (-1) 0 ps := by
  unfold noPl at h
  by_cases c : os.length ≤ 40
  · rw [if_pos c] at h
    exact ⟨c, plBad_none (Option.map_eq_none_iff.mp h)⟩
  · rw [if_neg c] at h; cases h
theorem noTi_none {kvs : List (Key × V)} {os : List (Option (Int × Int))} (h : noTi kvs os = none) : os.length ≤ 120 ∧ ∃ ts, os = ts.map some ∧ TiOk kvs (-1, -1) ts := by
  unfold noTi at h
  by_cases c : os.length ≤ 120
  · rw [if_pos c] at h
    exact ⟨c, tiBad_none (Option.map_eq_none_iff.mp h)⟩
  · rw [if_neg c] at h; cases h
theorem map_prO : ∀ {ds : List Dt} {ps : List (Int × Int)}, ds.map prO = ps.map some → ds = ps.map pairD
  | [], [], _ => rfl
  | [], _ :: _, h => by cases h
  | _ :: _, [], h => by cases h
  | d :: ds, p :: ps, h => by
    rw [List.map_cons, List.map_cons] at h
    injection h with h1 h2
    rw [List.map_cons, prO_some h1, map_prO h2]
theorem prO_map : ∀ (ps : List (Int × Int)), (ps.map pairD).map prO = ps.map some
  | [] => rfl
  | p :: ps => by rw [List.map_cons, List.map_cons, prO_map ps]; rfl
def prsD (ts : List (Int × Int)) : Dt := .lst (ts.map pairD)
def webD (ps ts : List (Int × Int)) : Dt := .tup [prsD ps, prsD ts]
theorem noPlD_none {d : Dt} (h : noPlD d = none) : ∃ ps, d = prsD ps ∧ ps.length ≤ 40 ∧ PlOk (-1) 0 ps := by
  cases d with
  | lst ds =>
    obtain ⟨l, ps, e, ok⟩ := noPl_none h
    refine ⟨ps, by rw [map_prO e]; rfl, ?_, ok⟩
    rw [e, List.length_map] at l
    exact l
  | _ => cases h
theorem noTiD_none {kvs : List (Key × V)} {d : Dt} (h : noTiD kvs d = none) : ∃ ts, d = prsD ts ∧ ts.length ≤ 120 ∧ TiOk kvs (-1, -1) ts := by
  cases d with
  | lst ds =>
    obtain ⟨l, ps, e, ok⟩ := noTi_none h
    refine ⟨ps, by rw [map_prO e]; rfl, ?_, ok⟩
    rw [e, List.length_map] at l
    exact l
  | _ => cases h
theorem psD_prs (ps : List (Int × Int)) : psD (prsD ps) = ps := by
  unfold psD prsD
  dsimp only
  rw [prO_map, psOf_some]
theorem noWebD_none {d : Dt} (h : noWebD d = none) : ∃ ps ts, d = webD ps ts ∧ WebOk ps ts := by
  unfold noWebD at h
  split at h
  · rename_i a b
    cases e : noPlD a with
    | some n => rw [e] at h; cases h
    | none =>
      rw [e] at h
      dsimp only at h
      obtain ⟨ps, rfl, l1, ok1⟩ := noPlD_none e
      rw [psD_prs] at h
      cases e2 : noTiD (kvsOf ps) b with
      | some n => rw [e2] at h; cases h
      | none =>
        obtain ⟨ts, rfl, l2, ok2⟩ := noTiD_none e2
        exact ⟨ps, ts, rfl, l1, ok1, l2, ok2⟩
  · cases h
theorem reps_prs {H : Hp} : ∀ {ps : List (Int × Int)} {xs : List V}, Reps H (ps.map pairD) xs → Prs H xs ps
  | [], _, h => by rw [List.map_nil, Reps] at h; subst h; exact .nil
  | p :: ps, _, h => by
    rw [List.map_cons, Reps] at h
    obtain ⟨v, r, rfl, h1, h2⟩ := h
    exact .cons (pairD_pr h1) (reps_prs h2)
theorem prsD_at {H : Hp} {ps : List (Int × Int)} {v : V} (h : Rep H (prsD ps) v) : ∃ a xs, v = .ref a ∧ H a = some (.lst xs) ∧ Prs H xs ps := by
  rw [prsD, Rep] at h
  obtain ⟨a, xs, rfl, ea, r⟩ := h
  exact ⟨a, xs, rfl, ea, reps_prs r⟩
theorem rep_two {H : Hp} {a b : Dt} {v : V} (h : Rep H (.tup [a, b]) v) : ∃ u x y, v = .ref u ∧ H u = some (.tup [x, y]) ∧ Rep H a x ∧ Rep H b y := by
  rw [Rep] at h
  obtain ⟨u, vs, rfl, eu, r⟩ := h
  rw [Reps] at r
  obtain ⟨v1, r1, rfl, e1, r⟩ := r
  rw [Reps] at r
  obtain ⟨v2, r2, rfl, e2, r⟩ := r
  rw [Reps] at r
  subst r
  exact ⟨u, v1, v2, rfl, eu, e1, e2⟩
theorem webD_at {H : Hp} {ps ts : List (Int × Int)} {v : V} (h : Rep H (webD ps ts) v) : WebAt H v ps ts := by
  obtain ⟨u, x, y, rfl, eu, h1, h2⟩ := rep_two h
  obtain ⟨pa, xs, rfl, e1, p1⟩ := prsD_at h1
  obtain ⟨ta, ys, rfl, e2, p2⟩ := prsD_at h2
  exact ⟨u, pa, ta, xs, ys, rfl, eu, e1, e2, p1, p2⟩
def spLW (C : Addr) : Sp := fun vs H Q E => ∃ v d, vs = [v] ∧ Rep H d v ∧ (noWebD d = none → ∀ H', Same H H' → Q .non H') ∧ ∀ w n, noWebD d = some (w, n) → Ref C H E w n
theorem ok_look_at_web {f : Addr} {fd : FuncData} {f_is_tuple_of : Addr} {d_is_tuple_of : FuncData} {f_look_at_places : Addr} {d_look_at_places : FuncData} {f_look_at_ties : Addr} {d_look_at_ties : FuncData} (B : Blt mg) (D : DefAt K mg "look_at_web" (top 20) ["thing"] f fd) (D_is_tuple_of : DefAt K mg "is_tuple_of" (top 8) ["thing", "many"] f_is_tuple_of d_is_tuple_of) (G_is_tuple_of : FnOk P w K mg base CX0 1 f_is_tuple_of d_is_tuple_of ["thing", "many"] spTupleOf) (D_look_at_places : DefAt K mg "look_at_places" (top 18) ["places"] f_look_at_places d_look_at_places) (G_look_at_places : FnOk P w K mg base (CXE P w) 4 f_look_at_places d_look_at_places ["places"] (spLP C_NoWeb)) (D_look_at_ties : DefAt K mg "look_at_ties" (top 19) ["ties", "prices"] f_look_at_ties d_look_at_ties) (G_look_at_ties : FnOk P w K mg base (CXE P w) 4 f_look_at_ties d_look_at_ties ["ties", "prices"] (spLT C_NoWeb)) (X_NoWeb : ClsX K mg "NoWeb" C_NoWeb f_NoWeb) (DI_NoWeb : InitAt K "NoWeb.__init__" (meth 2 0) ["self", "part", "number"] f_NoWeb dI) (GI_NoWeb : FnOk P w K mg base CX0 1 f_NoWeb dI ["self", "part", "number"] (spInit2 C_NoWeb "part" "number")) : FnOk P w K mg base (CXE P w) 5 f fd ["thing"] (spLW C_NoWeb) := by
  have sc : FnScope ["thing"] ["thing"] (defScope (top 20)) := ⟨rfl, rfl, rfl, by decide +kernel, rfl, by decide +kernel, by decide +kernel⟩
  refine D.F.okX sc (fun vs H Q E h => ?_) (fun cdv A outer s H vs Q E hr h => ?_)
  · obtain ⟨v, d, rfl, _⟩ := h
    rfl
  obtain ⟨v, d, rfl, hd, h1, h2⟩ := h
  have hu := hu_of hr
  have hu0 : _ < PySem.cLine := Nat.lt_of_succ_lt hu
  refine ⟨_, (pss_cons (ps_if (pt_not (qt_val (pe_call G_is_tuple_of (hr.mono (by decide)) rfl D_is_tuple_of.m D_is_tuple_of.F.kp D_is_tuple_of.b .nil pass0 (pa_cons (qv 0) (pa_cons pe_int pa_nil))))) (pss_one (ps_raise PySem.F.excBase_ValueError X_NoWeb.xin X_NoWeb.fn GI_NoWeb DI_NoWeb.b (hr.mono (by decide)) rfl X_NoWeb.m X_NoWeb.kp ⟨rfl, rfl, rfl, fun _ => rfl⟩ xo_tr (pa_cons pe_str (pa_cons pe_non pa_nil)))) pss_nil) (pss_cons (ps_expr (pe_callX G_look_at_places (hr.mono (by decide)) rfl D_look_at_places.m D_look_at_places.F.kp D_look_at_places.b .nil (passT ⟨rfl, rfl, rfl, fun _ => rfl⟩) (pa_cons (pe_ix q_ix (qv 0) pe_int (fun _ _ => rfl)) pa_nil))) (pss_one (ps_expr (pe_callX G_look_at_ties (hr.mono (by decide)) rfl D_look_at_ties.m D_look_at_ties.F.kp D_look_at_ties.b .nil (passT ⟨rfl, rfl, rfl, fun _ => rfl⟩) (pa_cons (pe_ix q_ix (qv 0) pe_int (fun _ _ => rfl)) (pa_cons (pe_callTy (q_dictL rfl) rfl B.dict PyProof.Rows.boot_dict (pa_cons (pe_ix q_ix (qv 0) pe_int (fun _ _ => rfl)) pa_nil)) pa_nil))))))), ?_⟩
  walk_at "RD"
  refine ⟨_, d, 2, rfl, hd, ?_⟩
  by_cases c : ∃ a b, d = .tup [a, b]
  · obtain ⟨a, b, rfl⟩ := c
    obtain ⟨u, x, y, rfl, eu, ra, rb⟩ := rep_two hd
    rw [show tupB 2 (.tup [a, b]) = true from rfl]
    simp_arith [seqOf, eu, at0, at1]
    refine ⟨x, a, rfl, ra, fun e1 H1 s1 => ?_, fun n e1 => h2 "places" n (by unfold noWebD; dsimp only; rw [e1])⟩
    obtain ⟨ps, rfl, k1, ok1⟩ := noPlD_none e1
    obtain ⟨pa, xs, rfl, ep, pp⟩ := prsD_at ra
    have hlx : xs.length = ps.length := Paired.length pp
    simp_arith [seqOf, s1 _ _ eu, s1 _ _ ep, at0, at1]
    refine ⟨kvsOf ps, pairs_at (Prs.same s1 pp), by omega, keys_nodup ok1.nodup, fun d hd => ?_⟩
    have s2 : Same H (upd H1 d (.dK (kvsOf ps))) := s1.trans (same_new hd _)
    refine ⟨y, b, d, _, rfl, Rep.same s2 _ rb, upd_same, fun e2 H3 s3 => h1 ?_ H3 (s2.trans s3), fun n e2 => (h2 "ties" n ?_).back s2⟩
    · unfold noWebD
      dsimp only
      rw [e1, psD_prs]
      dsimp only
      rw [e2]
    · unfold noWebD
      dsimp only
      rw [e1, psD_prs]
      dsimp only
      rw [e2]
  · have e : tupB 2 d = false := by
      cases d with
      | tup ds =>
        match ds, c with
        | [], _ => rfl
        | [_], _ => rfl
        | [a, b], c => exact absurd ⟨a, b, rfl⟩ c
        | _ :: _ :: _ :: _, _ =>
          unfold tupB
          refine decide_eq_false ?_
          rw [List.length_cons, List.length_cons, List.length_cons]
          omega
      | _ => rfl
    have e2 : noWebD d = some (("web" : Str), none) := by
      unfold noWebD
      split
      · exact absurd ⟨_, _, rfl⟩ c
      · rfl
    have hr2 := h2 "web" none e2
    rw [e]
    simp_arith [sRaise]
    exact fun y hy => raise2 hy hr2
end
end My
namespace My
open PySem L2
section
variable {P : Program} {w : World} {K : PySem.W.Frag} {mg : Str → Option Value} {base : Heap} {c1 c2 c3 c4 : Tok}
theorem ix30 : ixN 3 0 = some 0 := rfl
theorem ix31 : ixN 3 1 = some 1 := rfl
theorem ix32 : ixN 3 2 = some 2 := rfl
def StO (o : HO) : Prop := ∃ c st fl, o = .lst [.int c, .int st, .bl fl] ∧ 0 ≤ st ∧ st < 4294967296
theorem StO.imm {o : HO} (h : StO o) : isImm o = false := by obtain ⟨_, _, _, rfl, _⟩ := h; rfl
def spBegun (K : PySem.W.Frag) : Sp := fun vs H Q _ => ∃ a k ns, vs = [.ref a, .int k] ∧ Scr K H a ns ∧ 0 ≤ k ∧ k ≤ 1000 ∧ ∀ s o, H s = none → StO o → Q (.ref s) (upd H s o)
def spTake : Sp := fun vs H Q _ => ∃ s o m, vs = [.ref s, .int m] ∧ H s = some o ∧ StO o ∧ 1 ≤ m ∧ m < 1000000000000000000 ∧ ∀ d o, 0 ≤ d → d < m → StO o → Q (.int d) (upd H s o)
theorem cmR {i j : Int} (h1 : -(2 ^ 64) < j) (h2 : j < 2 ^ 64) : CMul i j := .inr ⟨h1, h2⟩
theorem cmL {i j : Int} (h1 : -(2 ^ 64) < i) (h2 : i < 2 ^ 64) : CMul i j := .inl ⟨h1, h2⟩
def Dr : Int → List (Int × Int) → Prop
  | _, [] => True
  | l, p :: r => (l < p.1 ∧ p.1 ≤ l + 23 ∧ 1 ≤ p.2 ∧ p.2 ≤ 1000000000) ∧ Dr p.1 r
def lastP (l : Int) : List (Int × Int) → Int
  | [] => l
  | p :: r => lastP p.1 r
theorem Dr.snoc : ∀ {ps : List (Int × Int)} {l : Int} {p : Int × Int}, Dr l ps → (lastP l ps < p.1 ∧ p.1 ≤ lastP l ps + 23 ∧ 1 ≤ p.2 ∧ p.2 ≤ 1000000000) → Dr l (ps ++ [p])
  | [], _, _, _, h => ⟨h, trivial⟩
  | q :: r, _, _, h, h2 => ⟨h.1, Dr.snoc h.2 h2⟩
theorem lastP_snoc : ∀ {ps : List (Int × Int)} {l : Int} {p : Int × Int}, lastP l (ps ++ [p]) = p.1
  | [], _, _ => rfl
  | q :: r, _, _ => lastP_snoc (ps := r)
def But (s : Addr) (H H' : Hp) : Prop := ∀ b o, b ≠ s → H b = some o → H' b = some o
theorem But.trans {s : Addr} {H H1 H2 : Hp} (a : But s H H1) (b : But s H1 H2) : But s H H2 := fun c o n q => b c o n (a c o n q)
theorem But.at (s : Addr) (H : Hp) (o : HO) : But s H (upd H s o) := fun b u n q => by rw [upd_ne n]; exact q
theorem But.new {s t : Addr} {H : Hp} {o : HO} (h : H t = none) : But s H (upd H t o) := fun b u n q => by rw [upd_ne (ne_of_none q h)]; exact q
theorem But.tups {s : Addr} {H H' : Hp} (h : But s H H') {o : HO} (e : H s = some o) (i : isImm o = false) : TupS H H' := fun b u z q => h b u (fun x => by rw [x, e] at q; cases q; rw [i] at z; cases z) q
theorem at3 {α : Type} {x y z u : α} {r : List α} : atI (x :: y :: z :: u :: r) 3 = some u := by
  have e : atI (x :: y :: z :: u :: r) ((3 : Nat) : Int) = some u := atI_nat rfl
  exact e
theorem menu4 {a b c e d : Int} (h0 : 0 ≤ d) (h1 : d < 4) : ∃ v, atI [V.int a, .int b, .int c, .int e] d = some (.int v) ∧ (v = a ∨ v = b ∨ v = c ∨ v = e) := by
  have hd : d = 0 ∨ d = 1 ∨ d = 2 ∨ d = 3 := by omega
  rcases hd with rfl | rfl | rfl | rfl
  · exact ⟨a, at0, .inl rfl⟩
  · exact ⟨b, at1, .inr (.inl rfl)⟩
  · exact ⟨c, at2, .inr (.inr (.inl rfl))⟩
  · exact ⟨e, at3, .inr (.inr (.inr rfl))⟩
theorem p9 : (10 : Int) ^ Int.toNat 9 = 1000000000 := by decide
def spPlaces : Sp := fun vs H Q _ => ∃ s o n, vs = [.ref s, .int n] ∧ H s = some o ∧ StO o ∧ 0 ≤ n ∧ n ≤ 100 ∧
  ∀ r H' o' xs ps, H r = none → But s H H' → H' s = some o' → StO o' → H' r = some (.lst xs) → Prs H' xs ps → (ps.length : Int) = n → Dr (-1) ps → Q (.ref r) H'
theorem ok_law_take {f : Addr} {fd : FuncData}  (B : Blt mg) (D : DefAt K mg "_law_take" (top 44) ["_law_state", "_law_many"] f fd) : FnOk P w K mg base CX0 1 f fd ["_law_state", "_law_many"] spTake := by
  have sc : FnScope ["_law_state", "_law_many", "_law_digit", "_law_number"] ["_law_state", "_law_many"] (defScope (top 44)) := ⟨rfl, rfl, rfl, by decide +kernel, rfl, by decide +kernel, by decide +kernel⟩
  refine D.F.ok sc (fun vs H Q E h => ?_) (fun cdv A outer s H vs Q E hr h => ?_)
  · obtain ⟨s, o, m, rfl, _⟩ := h
    rfl
  obtain ⟨st, o, m, rfl, es, ⟨c, x, fl, rfl, x0, x1⟩, m0, m1, h⟩ := h
  have hu := hu_of hr
  have hu0 : _ < PySem.cLine := Nat.lt_of_succ_lt hu
  refine ⟨_, (pss_cons (ps_if (qt_val (pe_ix q_ix (qv 0) pe_int (fun _ _ => rfl))) (pss_cons (ps_set (i := 2) sc.nd rfl (Or.inl rfl) (pe_op q_mod (pe_ix q_ix (qv 0) pe_int (fun _ _ => rfl)) (qv 1))) (pss_cons (ps_asg (pe_op q_fdivB (pe_ix q_ix (qv 0) pe_int (fun _ _ => rfl)) (qv 1)) (pg_sub (qv 0) pe_int q_setL)) (pss_cons (ps_asg (pe_cmpR q_gt (pe_ix q_ix (qv 0) pe_int (fun _ _ => rfl)) pe_int (nomark _)) (pg_sub (qv 0) pe_int q_setL)) (pss_one (ps_ret (qv 2)))))) pss_nil) (pss_cons (ps_asg (pe_op q_mod (pe_op q_add (pe_op q_mul (pe_ix q_ix (qv 0) pe_int (fun _ _ => rfl)) pe_int) pe_int) pe_int) (pg_sub (qv 0) pe_int q_setL)) (pss_cons (ps_set (i := 3) sc.nd rfl (Or.inl rfl) (pe_op q_fdiv (pe_op q_mod (pe_op q_mul (pe_ix q_ix (qv 0) pe_int (fun _ _ => rfl)) (pe_ix q_ix (qv 0) pe_int (fun _ _ => rfl))) pe_int) pe_int)) (pss_cons (ps_if (qt_cmp q_gt (qv 1) (pe_op q_pow pe_int pe_int) (nomark _)) (pss_cons (ps_asg (pe_op q_mod (pe_op q_add (pe_op q_mul (pe_ix q_ix (qv 0) pe_int (fun _ _ => rfl)) pe_int) pe_int) pe_int) (pg_sub (qv 0) pe_int q_setL)) (pss_one (ps_set (i := 3) sc.nd rfl (Or.inl rfl) (pe_op q_add (pe_op q_mul (qv 3) pe_int) (pe_ix q_ix (qv 0) pe_int (fun _ _ => rfl)))))) pss_nil) (pss_one (ps_ret (pe_op q_mod (qv 3) (qv 1)))))))), ?_⟩
  simp_arith [seqOf, es, at0, at1, at2, ix30, ix31, ix32, upd_same, upd_upd]
  have lo : ∀ n : Int, 0 ≤ n % m := fun n => Int.emod_nonneg _ (by omega)
  have hi : ∀ n : Int, n % m < m := fun n => Int.emod_lt_of_pos _ (by omega)
  have y0 : 0 ≤ (x * 48271 + 39373) % 2147483647 := Int.emod_nonneg _ (by decide)
  have y1 : (x * 48271 + 39373) % 2147483647 < 2147483647 := Int.emod_lt_of_pos _ (by decide)
  generalize (x * 48271 + 39373) % 2147483647 = y at y0 y1
  have z0 : 0 ≤ (y * 48271 + 39373) % 2147483647 := Int.emod_nonneg _ (by decide)
  have z1 : (y * 48271 + 39373) % 2147483647 < 2147483647 := Int.emod_lt_of_pos _ (by decide)
  generalize (y * 48271 + 39373) % 2147483647 = z at z0 z1
  have cd : CDivB c m := ⟨by omega, by omega⟩
  have cd2 : ∀ n : Int, CDiv n 16 := fun n => ⟨by decide, by decide⟩
  have cp : CPow 10 6 := ⟨by decide, by decide, by decide⟩
  refine ite2 (fun _ => ⟨by omega, cd, h _ _ (lo _) (hi _) ⟨_, _, _, rfl, x0, x1⟩⟩) (fun _ => ⟨cmR (by decide) (by decide), by decide, cmL (by omega) (by omega), by decide, cd2 _, cp, ?_⟩)
  refine ite2 (fun _ => ⟨cmR (by decide) (by decide), by decide, cmR (by decide) (by decide), by omega, h _ _ (lo _) (hi _) ⟨_, _, _, rfl, z0, by omega⟩⟩) (fun _ => ⟨by omega, h _ _ (lo _) (hi _) ⟨_, _, _, rfl, y0, by omega⟩⟩)
theorem ok_law_begun {f : Addr} {fd : FuncData}  (B : Blt mg) (D : DefAt K mg "_law_begun" (top 43) ["_law_script", "_law_k"] f fd) : FnOk P w K mg base CX0 1 f fd ["_law_script", "_law_k"] (spBegun K) := by
  have sc : FnScope ["_law_script", "_law_k", "_law_cell", "_law_seed"] ["_law_script", "_law_k"] (defScope (top 43)) := ⟨rfl, rfl, rfl, by decide +kernel, rfl, by decide +kernel, by decide +kernel⟩
  refine D.F.ok sc (fun vs H Q E h => ?_) (fun cdv A outer s H vs Q E hr h => ?_)
  · obtain ⟨a, k, ns, rfl, _⟩ := h
    rfl
  obtain ⟨a, k, ns, rfl, hs, k0, k1, h⟩ := h
  have hu := hu_of hr
  have hu0 : _ < PySem.cLine := Nat.lt_of_succ_lt hu
  refine ⟨_, (pss_cons (ps_set (i := 2) sc.nd rfl (Or.inl rfl) pe_int) (pss_cons (ps_if (qt_cmp q_lt (qv 1) (pe_callB call_len_seq rfl B.len PySem.boot_len (pa_cons (qv 0) pa_nil)) (nomark _)) (pss_one (ps_set (i := 2) sc.nd rfl (Or.inl rfl) (pe_ix ix_list (qv 0) (qv 1) (fun _ _ => rfl)))) pss_nil) (pss_cons (ps_set (i := 3) sc.nd rfl (Or.inl rfl) (pe_op q_add (pe_op q_add (pe_op q_mod (qv 2) pe_int) (pe_op q_mul pe_int (qv 1))) (pe_op q_mul pe_int (pe_op q_fdiv (qv 1) pe_int)))) (pss_one (ps_ret (pe_lst (pa_cons (qv 2) (pa_cons (pe_op q_mod (qv 3) pe_int) (pa_cons (pe_cmpR q_ge (qv 2) (pe_op q_pow pe_int pe_int) (nomark _)) pa_nil))))))))), ?_⟩
  walk_at "RD"
  refine ⟨a, _, rfl, .inl hs.sq, ?_⟩
  simp_arith [List.length_map, rIxL]
  have q0 : ∀ n : Int, 0 ≤ n % 2147483629 := fun n => Int.emod_nonneg _ (by decide)
  have q1 : ∀ n : Int, n % 2147483629 < 2147483629 := fun n => Int.emod_lt_of_pos _ (by decide)
  have cp : CPow 10 18 := ⟨by decide, by decide, by decide⟩
  have cd : CDiv k 7 := ⟨by decide, by decide⟩
  refine ite2 (fun c => ?_) (fun c => ?_)
  · have c' : k < (ns.length : Int) := of_decide_eq_true c
    have hk : k.toNat < ns.length := by omega
    have e1 : atI (ns.map V.int) ((k.toNat : Nat) : Int) = some (.int ns[k.toNat]) := atI_nat (by rw [List.getElem?_map, List.getElem?_eq_getElem hk]; rfl)
    rw [show ((k.toNat : Nat) : Int) = k by omega] at e1
    refine ⟨a, _, k, _, rfl, rfl, hs.sq, e1, ?_⟩
    walk_at "RD"
    exact ⟨by decide, cmL (by decide) (by decide), cd, cmL (by decide) (by decide), by decide, cp, fun p hp => h p _ hp ⟨_, _, _, rfl, q0 _, by have := q1 (ns[k.toNat] % 2147483629 + 104729 * k + 7919 * (k / 7)); omega⟩⟩
  · exact ⟨by decide, cmL (by decide) (by decide), cd, cmL (by decide) (by decide), by decide, cp, fun p hp => h p _ hp ⟨_, _, _, rfl, q0 _, by have := q1 (0 % 2147483629 + 104729 * k + 7919 * (k / 7)); omega⟩⟩
theorem ok_law_places {f : Addr} {fd : FuncData} {f_law_take : Addr} {d_law_take : FuncData} (B : Blt mg) (D : DefAt K mg "_law_places" (top 45) ["_law_state", "_law_count"] f fd) (D_law_take : DefAt K mg "_law_take" (top 44) ["_law_state", "_law_many"] f_law_take d_law_take) (G_law_take : FnOk P w K mg base CX0 1 f_law_take d_law_take ["_law_state", "_law_many"] spTake) : FnOk P w K mg base CX0 2 f fd ["_law_state", "_law_count"] spPlaces := by
  have sc : FnScope ["_law_state", "_law_count", "_law_kind", "_law_places_here", "_law_number", "_law_k"] ["_law_state", "_law_count"] (defScope (top 45)) := ⟨rfl, rfl, rfl, by decide +kernel, rfl, by decide +kernel, by decide +kernel⟩
  refine D.F.ok sc (fun vs H Q E h => ?_) (fun cdv A outer s H vs Q E hr h => ?_)
  · obtain ⟨s, o, n, rfl, _⟩ := h
    rfl
  obtain ⟨st, o, n, rfl, es, so, n0, n1, h⟩ := h
  have hu := hu_of hr
  have hu0 : _ < PySem.cLine := Nat.lt_of_succ_lt hu
  refine ⟨_, (pss_cons (ps_set (i := 2) sc.nd rfl (Or.inl rfl) (pe_call G_law_take (hr.mono (by decide)) rfl D_law_take.m D_law_take.F.kp D_law_take.b .nil pass0 (pa_cons (qv 0) (pa_cons pe_int pa_nil)))) (pss_cons (ps_set (i := 3) sc.nd rfl (Or.inl rfl) (pe_lst pa_nil)) (pss_cons (ps_set (i := 4) sc.nd rfl (Or.inl rfl) (pe_un q_neg pe_int)) (pss_cons (ps_for PassesOwn.never rfl (pi_range1 rfl B.range (pa_cons (qv 1) pa_nil)) (pg_name (i := 5) sc.nd rfl (Or.inl rfl)) (pss_cons (ps_set (i := 4) sc.nd rfl (Or.inl rfl) (pe_op q_add (pe_op q_add (qv 4) pe_int) (pe_call G_law_take (hr.mono (by decide)) rfl D_law_take.m D_law_take.F.kp D_law_take.b .nil pass0 (pa_cons (qv 0) (pa_cons (pe_ix q_ix (pe_lst (pa_cons pe_int (pa_cons pe_int (pa_cons pe_int (pa_cons pe_int pa_nil))))) (pe_call G_law_take (hr.mono (by decide)) rfl D_law_take.m D_law_take.F.kp D_law_take.b .nil pass0 (pa_cons (qv 0) (pa_cons pe_int pa_nil))) (fun _ _ => rfl)) pa_nil))))) (pss_one (ps_expr (q_bm PySem.F.plainAttrs_list PySem.F.slot_list_append PySem.F.type_list_append q_append (qv 3) (pa_cons (pe_tup (pa_cons (qv 4) (pa_cons (pe_op q_add pe_int (pe_call G_law_take (hr.mono (by decide)) rfl D_law_take.m D_law_take.F.kp D_law_take.b .nil pass0 (pa_cons (qv 0) (pa_cons (pe_ix q_ix (pe_lst (pa_cons pe_int (pa_cons pe_int (pa_cons pe_int (pa_cons (pe_op q_pow pe_int pe_int) pa_nil))))) (qv 2) (fun _ _ => rfl)) pa_nil)))) pa_nil))) pa_nil)))))) (pss_one (ps_ret (qv 3))))))), ?_⟩
  walk_at "RD"
  refine ⟨st, o, 4, rfl, es, so, by decide, by decide, fun kind o1 k0 k1 so1 => ?_⟩
  walk_at "RD"
  intro r hr1
  have nr : r ≠ st := fun z => by rw [z, upd_same] at hr1; cases hr1
  have hr0 : H r = none := by rw [← hr1, upd_ne nr]
  refine ⟨n, rfl, by omega, by omega, for_range (n := n.toNat) (fun i σ H1 => ∃ l kk ps xs o', σ = [some (.ref st), some (.int n), some (.int kind), some (.ref r), some (.int l), kk] ∧ But st H H1 ∧ H1 st = some o' ∧ StO o' ∧ H1 r = some (.lst xs) ∧ Prs H1 xs ps ∧ ps.length = i ∧ Dr (-1) ps ∧ l = lastP (-1) ps) ?_ ?_ ?_⟩
  · refine ⟨-1, none, [], [], o1, rfl, fun b u nb q => ?_, by rw [upd_ne nr.symm, upd_same], so1, upd_same, .nil, rfl, trivial, rfl⟩
    rw [upd_ne (ne_of_none q hr0), upd_ne nb]
    exact q
  · rintro i σ H1 hi ⟨l, kk, ps, xs, o', rfl, b1, e1, so', er, pp, hlen, dr, el⟩
    have hlx : xs.length = ps.length := Paired.length pp
    walk_at "RD"
    intro p1 hp1
    have np : p1 ≠ st := (ne_of_none e1 hp1).symm
    have nr1 : r ≠ p1 := ne_of_none er hp1
    refine ⟨st, o', 4, rfl, (by rw [upd_ne np.symm]; exact e1), so', by decide, by decide, fun d1 o2 d10 d11 so2 => ?_⟩
    obtain ⟨v, ev, v0, v1⟩ : ∃ v, atI [V.int 1, .int 2, .int 6, .int 23] d1 = some (.int v) ∧ 1 ≤ v ∧ v ≤ 23 := by
      obtain ⟨v, ev, hv⟩ := menu4 (a := 1) (b := 2) (c := 6) (e := 23) d10 d11
      exact ⟨v, ev, by omega, by omega⟩
    simp_arith [seqOf, upd_ne np, upd_same, ev]
    refine ⟨st, o2, v, rfl, upd_same, so2, by omega, by omega, fun d2 o3 d20 d21 so3 => ?_⟩
    simp_arith [upd_upd]
    have b3 : But st H1 (upd (upd H1 p1 (.lst [.int 1, .int 2, .int 6, .int 23])) st o3) := (But.new hp1).trans (But.at _ _ _)
    have e3 : (upd (upd H1 p1 (.lst [.int 1, .int 2, .int 6, .int 23])) st o3) st = some o3 := upd_same
    generalize upd (upd H1 p1 (.lst [.int 1, .int 2, .int 6, .int 23])) st o3 = H3 at b3 e3
    have t3 : TupS H1 H3 := b3.tups e1 so'.imm
    have er3 := b3 _ _ nr er
    refine ⟨⟨r, xs, rfl, er3⟩, ⟨by decide, by decide, by decide⟩, ?_⟩
    intro p2 hp2
    have np2 : p2 ≠ st := (ne_of_none e3 hp2).symm
    have nr2 : r ≠ p2 := ne_of_none er3 hp2
    obtain ⟨v2, ev2, v20, v21⟩ : ∃ v, atI [V.int 1, .int 3, .int 9, .int (10 ^ Int.toNat 9)] kind = some (.int v) ∧ 1 ≤ v ∧ v ≤ 1000000000 := by
      obtain ⟨v, ev, hv⟩ := menu4 (a := 1) (b := 3) (c := 9) (e := 10 ^ Int.toNat 9) k0 k1
      rw [p9] at hv
      exact ⟨v, ev, by omega, by omega⟩
    simp_arith [seqOf, upd_same, ev2]
    refine ⟨st, o3, v2, rfl, (by rw [upd_ne np2.symm]; exact e3), so3, by omega, by omega, fun d3 o4 d30 d31 so4 => ?_⟩
    walk_at "RD"
    have b4 : But st H3 (upd (upd H3 p2 (.lst [.int 1, .int 3, .int 9, .int (10 ^ Int.toNat 9)])) st o4) := (But.new hp2).trans (But.at _ _ _)
    have e4 : (upd (upd H3 p2 (.lst [.int 1, .int 3, .int 9, .int (10 ^ Int.toNat 9)])) st o4) st = some o4 := upd_same
    generalize upd (upd H3 p2 (.lst [.int 1, .int 3, .int 9, .int (10 ^ Int.toNat 9)])) st o4 = H4 at b4 e4
    have t4 : TupS H3 H4 := b4.tups e3 so3.imm
    have er4 := b4 _ _ nr er3
    intro t ht
    have nt : t ≠ st := (ne_of_none e4 ht).symm
    have er5 : upd H4 t (.tup [.int (l + 1 + d2), .int (1 + d3)]) r = some (.lst xs) := by rw [upd_ne (ne_of_none er4 ht)]; exact er4
    simp_arith [er5]
    have t5 : TupS H4 (upd H4 t (.tup [.int (l + 1 + d2), .int (1 + d3)])) := tups_new ht
    have t6 := tups_lst (ys := xs ++ [.ref t]) er5
    refine ⟨szl' (by omega), l + 1 + d2, _, ps ++ [(l + 1 + d2, 1 + d3)], _, o4, rfl, fun b u nb q => ?_, ?_, so4, (by first | rfl | exact upd_same), ?_, ?_, ?_, ?_⟩
    · have q1 := b4 _ _ nb (b3 _ _ nb (b1 _ _ nb q))
      rw [upd_ne (ne_of_none q hr0), upd_ne (ne_of_none q1 ht)]
      exact q1
    · rw [upd_ne nr.symm, upd_ne nt.symm]
      exact e4
    · exact paired_snoc (Prs.tups (((t3.trans t4).trans t5).trans t6) pp) (Pr.tups ⟨t, rfl, upd_same⟩ t6)
    · rw [List.length_append, hlen]
      rfl
    · exact dr.snoc ⟨by show _ < l + 1 + d2; omega, by show l + 1 + d2 ≤ _; omega, by show 1 ≤ 1 + d3; omega, by show 1 + d3 ≤ _; omega⟩
    · rw [lastP_snoc]
  · rintro σ H1 ⟨l, kk, ps, xs, o', rfl, b1, e1, so', er, pp, hlen, dr, el⟩
    walk_at "RD"
    exact h r H1 o' xs ps hr0 b1 e1 so' er pp (by omega) dr
end
end My
namespace My
open PySem L2
section
variable {P : Program} {w : World} {K : PySem.W.Frag} {mg : Str → Option Value} {base : Heap} {c1 c2 c3 c4 : Tok}
theorem Dr.pl : ∀ {ps : List (Int × Int)} {l s : Int}, Dr l ps → l + 23 * ps.length ≤ 999 → s + 1000000000 * ps.length ≤ 1000000000000 → PlOk l s ps
  | [], _, _, _, _, _ => trivial
  | p :: r, l, s, h, h1, h2 => by
    have e : ((p :: r).length : Int) = r.length + 1 := by simp
    rw [e] at h1 h2
    obtain ⟨⟨a1, a2, a3, a4⟩, h3⟩ := h
    exact ⟨⟨a1, by omega, a3, by omega⟩, Dr.pl h3 (by omega) (by omega)⟩
theorem Dr.gt : ∀ {ps : List (Int × Int)} {l : Int}, Dr l ps → ∀ p ∈ ps, l < p.1
  | [], _, _, _, h => by cases h
  | q :: r, l, h, p, hp => by
    rcases List.mem_cons.mp hp with e | hp
    · rw [e]; exact h.1.1
    · have := Dr.gt h.2 p hp
      have := h.1.1
      omega
theorem Dr.rise : ∀ {ps : List (Int × Int)} {l : Int}, Dr l ps → ∀ (i j : Nat) (p q : Int × Int), i < j → ps[i]? = some p → ps[j]? = some q → p.1 < q.1
  | [], _, _, i, j, p, q, _, h, _ => by simp at h
  | r :: rs, l, h, i, j, p, q, hij, hi, hj => by
    cases j with
    | zero => omega
    | succ j =>
      have hj' : rs[j]? = some q := by simpa using hj
      cases i with
      | zero =>
        have e : r = p := by simpa using hi
        subst e
        exact Dr.gt h.2 q (List.mem_of_getElem? hj')
      | succ i => exact Dr.rise h.2 i j p q (by omega) (by simpa using hi) hj'
theorem lex_lt {a b c d : Int} (h : a < c) : HT.lexLt [a, b] [c, d] = true := by
  rw [HT.lexLt_cons, if_neg (by omega)]
  exact decide_eq_true h
theorem lex_eq {a b d : Int} (h : b < d) : HT.lexLt [a, b] [a, d] = true := by
  rw [HT.lexLt_cons, if_pos rfl, HT.lexLt_cons, if_neg (by omega)]
  exact decide_eq_true h
def lastT (q : Int × Int) : List (Int × Int) → Int × Int
  | [] => q
  | p :: r => lastT p r
theorem lastT_snoc : ∀ {ts : List (Int × Int)} {q p : Int × Int}, lastT q (ts ++ [p]) = p
  | [], _, _ => rfl
  | t :: r, _, _ => lastT_snoc (ts := r)
theorem TiOk.snoc {kvs : List (Key × V)} : ∀ {ts : List (Int × Int)} {q p : Int × Int}, TiOk kvs q ts → (HT.lexLt [(lastT q ts).1, (lastT q ts).2] [p.1, p.2] = true ∧ p.1 < p.2 ∧ hasK kvs p.1 = true ∧ hasK kvs p.2 = true) → TiOk kvs q (ts ++ [p])
  | [], _, _, _, h => ⟨h, trivial⟩
  | t :: r, _, _, h, h2 => ⟨h.1, TiOk.snoc h.2 h2⟩
theorem ne_st {H : Hp} {a st : Addr} {xs : List V} {ps : List (Int × Int)} {o : HO} (ha : H a = some (.lst xs)) (pp : Prs H xs ps) (hs : H st = some o) (so : StO o) : a ≠ st := by
  intro z
  obtain ⟨c, s, f, e, _⟩ := so
  rw [z, hs, e] at ha
  cases ha
  cases pp with
  | cons r _ => obtain ⟨t, e, _⟩ := r; cases e
theorem WebAt.but {H H' : Hp} {st : Addr} {o : HO} {v : V} {ps ts : List (Int × Int)} (h : WebAt H v ps ts) (hs : H st = some o) (so : StO o) (b : But st H H') : WebAt H' v ps ts := by
  obtain ⟨u, pa, ta, xs, ys, e, h1, h2, h3, h4, h5⟩ := h
  have t := b.tups hs so.imm
  exact ⟨u, pa, ta, xs, ys, e, t _ _ rfl h1, b _ _ (ne_st h2 h4 hs so) h2, b _ _ (ne_st h3 h5 hs so) h3, Prs.tups t h4, Prs.tups t h5⟩
def spWebD : Sp := fun vs H Q _ => ∃ s o m, vs = [.ref s, .int m] ∧ H s = some o ∧ StO o ∧ 0 ≤ m ∧ m ≤ 12 ∧
  ∀ v H' o' ps ts, But s H H' → H' s = some o' → StO o' → WebAt H' v ps ts → WebOk ps ts → Dr (-1) ps → ps.length ≤ 12 → Q v H'
theorem has_at {ps : List (Int × Int)} (hn : (ps.map (·.1)).Nodup) {i : Nat} {p : Int × Int} (h : ps[i]? = some p) : hasK (kvsOf ps) p.1 = true := hasK_of hn (List.mem_of_getElem? h)
theorem ok_law_web {f : Addr} {fd : FuncData} {f_law_take : Addr} {d_law_take : FuncData} {f_law_places : Addr} {d_law_places : FuncData} (B : Blt mg) (D : DefAt K mg "_law_web" (top 46) ["_law_state", "_law_most"] f fd) (D_law_take : DefAt K mg "_law_take" (top 44) ["_law_state", "_law_many"] f_law_take d_law_take) (G_law_take : FnOk P w K mg base CX0 1 f_law_take d_law_take ["_law_state", "_law_many"] spTake) (D_law_places : DefAt K mg "_law_places" (top 45) ["_law_state", "_law_count"] f_law_places d_law_places) (G_law_places : FnOk P w K mg base CX0 2 f_law_places d_law_places ["_law_state", "_law_count"] spPlaces) : FnOk P w K mg base CX0 3 f fd ["_law_state", "_law_most"] spWebD := by
  have sc : FnScope ["_law_state", "_law_most", "_law_count", "_law_places_here", "_law_dense", "_law_ties", "_law_k", "_law_j"] ["_law_state", "_law_most"] (defScope (top 46)) := ⟨rfl, rfl, rfl, by decide +kernel, rfl, by decide +kernel, by decide +kernel⟩
  refine D.F.ok sc (fun vs H Q E h => ?_) (fun cdv A outer s H vs Q E hr h => ?_)
  · obtain ⟨s, o, m, rfl, _⟩ := h
    rfl
  obtain ⟨st, o, m, rfl, es, so, m0, m1, h⟩ := h
  have hu := hu_of hr
  have hu0 : _ < PySem.cLine := Nat.lt_of_succ_lt hu
  refine ⟨_, (pss_cons (ps_set (i := 2) sc.nd rfl (Or.inl rfl) (pe_call G_law_take (hr.mono (by decide)) rfl D_law_take.m D_law_take.F.kp D_law_take.b .nil pass0 (pa_cons (qv 0) (pa_cons (pe_op q_add (qv 1) pe_int) pa_nil)))) (pss_cons (ps_set (i := 3) sc.nd rfl (Or.inl rfl) (pe_call G_law_places (hr.mono (by decide)) rfl D_law_places.m D_law_places.F.kp D_law_places.b .nil pass0 (pa_cons (qv 0) (pa_cons (qv 2) pa_nil)))) (pss_cons (ps_set (i := 4) sc.nd rfl (Or.inl rfl) (pe_op q_add pe_int (pe_call G_law_take (hr.mono (by decide)) rfl D_law_take.m D_law_take.F.kp D_law_take.b .nil pass0 (pa_cons (qv 0) (pa_cons pe_int pa_nil))))) (pss_cons (ps_set (i := 5) sc.nd rfl (Or.inl rfl) (pe_lst pa_nil)) (pss_cons (ps_for PassesOwn.never rfl (pi_range1 rfl B.range (pa_cons (qv 2) pa_nil)) (pg_name (i := 6) sc.nd rfl (Or.inl rfl)) (pss_one (ps_for PassesOwn.never rfl (pi_range2 rfl B.range (pa_cons (pe_op q_add (qv 6) pe_int) (pa_cons (qv 2) pa_nil))) (pg_name (i := 7) sc.nd rfl (Or.inl rfl)) (pss_one (ps_if (qt_cmp q_lt (pe_call G_law_take (hr.mono (by decide)) rfl D_law_take.m D_law_take.F.kp D_law_take.b .nil pass0 (pa_cons (qv 0) (pa_cons pe_int pa_nil))) (qv 4) (nomark _)) (pss_one (ps_expr (q_bm PySem.F.plainAttrs_list PySem.F.slot_list_append PySem.F.type_list_append q_append (qv 5) (pa_cons (pe_tup (pa_cons (pe_ix q_ix (pe_ix q_ix (qv 3) (qv 6) (fun _ _ => rfl)) pe_int (fun _ _ => rfl)) (pa_cons (pe_ix q_ix (pe_ix q_ix (qv 3) (qv 7) (fun _ _ => rfl)) pe_int (fun _ _ => rfl)) pa_nil))) pa_nil)))) pss_nil))))) (pss_one (ps_ret (pe_tup (pa_cons (qv 3) (pa_cons (qv 5) pa_nil)))))))))), ?_⟩
  walk_at "RD"
  refine ⟨st, o, m + 1, rfl, es, so, by omega, by omega, fun n o1 n0 n1 so1 => ?_⟩
  walk_at "RD"
  refine ⟨st, o1, n, rfl, upd_same, so1, n0, by omega, fun r HA oA xs ps hr0 bA eA soA er pp hlen dr => ?_⟩
  walk_at "RD"
  refine ⟨st, oA, 4, rfl, eA, soA, by decide, by decide, fun dn oB d0 d1 soB => ?_⟩
  have nr : r ≠ st := fun z => by rw [z, upd_same] at hr0; cases hr0
  have hr1 : H r = none := by rw [← hr0, upd_ne nr]
  have bB : But st H (upd HA st oB) := ((But.at st H o1).trans bA).trans (But.at st HA oB)
  have tB : TupS HA (upd HA st oB) := (But.at st HA oB).tups eA soA.imm
  have erB : upd HA st oB r = some (.lst xs) := by rw [upd_ne nr]; exact er
  have eB : upd HA st oB st = some oB := upd_same
  have pB : Prs (upd HA st oB) xs ps := Prs.tups tB pp
  generalize upd HA st oB = HB at bB erB eB pB
  clear tB pp er eA bA soA
  have hpl : ps.length ≤ 12 := by omega
  have plok := dr.pl (s := 0) (by omega) (by omega)
  have hnd := plok.nodup
  have hlx : xs.length = ps.length := Paired.length pB
  have rise := dr.rise
  walk_at "RD"
  intro tl htl
  have ntl : tl ≠ st := (ne_of_none eB htl).symm
  have nrt : r ≠ tl := ne_of_none erB htl
  have htl0 : H tl = none := by
    cases q : H tl with
    | none => rfl
    | some u => rw [bB _ _ ntl q] at htl; cases htl
  refine tFor_hide (Itr 0 ps.length) (upd HB tl (.lst [])) (fun R hR => ?_) (for_range (n := ps.length) (fun k σ H1 => ∃ kk jj zs ts o', σ = [some (.ref st), some (.int m), some (.int n), some (.ref r), some (.int (1 + dn)), some (.ref tl), kk, jj] ∧ But st H H1 ∧ H1 st = some o' ∧ StO o' ∧ H1 r = some (.lst xs) ∧ Prs H1 xs ps ∧ H1 tl = some (.lst zs) ∧ Prs H1 zs ts ∧ TiOk (kvsOf ps) (-1, -1) ts ∧ (∀ (j : Nat) (p : Int × Int), k ≤ j → ps[j]? = some p → (lastT (-1, -1) ts).1 < p.1) ∧ (ts.length ≤ 11 * k ∧ ts.length ≤ 111)) ?_ ?_ ?_)
  · unfold iRng1
    walk_at "RD"
    exact ⟨n, rfl, by omega, by omega, by rw [← hlen]; exact hR⟩
  · refine ⟨none, none, [], [], oB, rfl, bB.trans (But.new htl), by rw [upd_ne ntl.symm]; exact eB, soB, by rw [upd_ne nrt]; exact erB, Prs.tups (tups_new htl) pB, upd_same, .nil, trivial, fun j p _ hp => ?_, by simp⟩
    have := dr.gt p (List.mem_of_getElem? hp)
    exact this
  · rintro k σ H1 hk ⟨kk, jj, zs, ts, o', rfl, b1, e1, so', er1, pp1, etl, pz, tok, hlast, htn⟩
    obtain ⟨lt0, hlt0⟩ : ∃ n : Nat, n = ts.length := ⟨_, rfl⟩
    have xk : ps[k]? = some ps[k] := List.getElem?_eq_getElem hk
    generalize ps[k] = pk at xk
    walk_at "RD"
    refine tFor_hide (Itr (0 + (k : Int) + 1) (ps.length - (k + 1))) H1 (fun R hR => ?_) (for_range (n := ps.length - (k + 1)) (fun i σ H2 => ∃ jj zs ts o', σ = [some (.ref st), some (.int m), some (.int n), some (.ref r), some (.int (1 + dn)), some (.ref tl), some (.int (0 + (k : Int))), jj] ∧ But st H H2 ∧ H2 st = some o' ∧ StO o' ∧ H2 r = some (.lst xs) ∧ Prs H2 xs ps ∧ H2 tl = some (.lst zs) ∧ Prs H2 zs ts ∧ TiOk (kvsOf ps) (-1, -1) ts ∧ ((lastT (-1, -1) ts).1 < pk.1 ∨ ((lastT (-1, -1) ts).1 = pk.1 ∧ ∀ (j : Nat) (p : Int × Int), k + 1 + i ≤ j → ps[j]? = some p → (lastT (-1, -1) ts).2 < p.1)) ∧ ts.length ≤ lt0 + i) ?_ ?_ ?_)
    · unfold iRng2
      walk_at "RD"
      refine ⟨_, _, rfl, ⟨by omega, by omega, by omega, by omega⟩, ?_⟩
      have e : (n - (0 + (k : Int) + 1)).toNat = ps.length - (k + 1) := by omega
      rw [e]
      exact hR
    · exact ⟨jj, zs, ts, o', rfl, b1, e1, so', er1, pp1, etl, pz, tok, .inl (hlast k pk (Nat.le_refl _) xk), by omega⟩
    · rintro i σ H2 hi ⟨jj2, zs2, ts2, o2, rfl, b2, e2, so2, er2, pp2, etl2, pz2, tok2, hl2, htn2⟩
      have hj : k + 1 + i < ps.length := by omega
      have xj : ps[k + 1 + i]? = some ps[k + 1 + i] := List.getElem?_eq_getElem hj
      generalize ps[k + 1 + i] = pj at xj
      have hkj := rise k (k + 1 + i) pk pj (by omega) xk xj
      walk_at "RD"
      refine ⟨st, o2, 5, rfl, e2, so2, by decide, by decide, fun d3 o3 d30 d31 so3 => ?_⟩
      have b3 : But st H2 (upd H2 st o3) := But.at _ _ _
      have t3 : TupS H2 (upd H2 st o3) := b3.tups e2 so2.imm
      have er3 := b3 _ _ nr er2
      have etl3 := b3 _ _ ntl etl2
      have e3 : upd H2 st o3 st = some o3 := upd_same
      generalize upd H2 st o3 = H3 at b3 t3 er3 etl3 e3
      walk_at "RD"
      refine ite2 (fun c => ?_) (fun c => ?_)
      · obtain ⟨uk, gk, hgk⟩ := paired_right pp2 xk
        obtain ⟨uj, gj, hgj⟩ := paired_right pp2 xj
        obtain ⟨tk, ek, hk3⟩ := hgk.tups t3
        obtain ⟨tj, ej, hj3⟩ := hgj.tups t3
        have ak : atI xs (0 + (k : Int)) = some (.ref tk) := by rw [Int.zero_add, ← ek]; exact atI_nat gk
        have aj : atI xs (0 + (k : Int) + 1 + (i : Int)) = some (.ref tj) := by
          rw [show 0 + (k : Int) + 1 + (i : Int) = ((k + 1 + i : Nat) : Int) by omega, ← ej]
          exact atI_nat gj
        refine ⟨⟨tl, _, rfl, etl3⟩, ?_⟩
        simp_arith [seqOf, er3, ak, aj, hk3, hj3, at0]
        intro t ht
        have etl4 := same_new ht (.tup [.int pk.1, .int pj.1]) _ _ etl3
        simp_arith [etl4]
        have t6 := tups_lst (ys := zs2 ++ [.ref t]) etl4
        have nst : st ≠ tl := ntl.symm
        have hz2 : zs2.length = ts2.length := Paired.length pz2
        refine ⟨szl' (by omega), _, zs2 ++ [.ref t], ts2 ++ [(pk.1, pj.1)], o3, rfl, fun b u nb q => ?_, ?_, so3, ?_, Prs.tups ((t3.trans (tups_new ht)).trans t6) pp2, (by first | rfl | exact upd_same), paired_snoc (Prs.tups ((t3.trans (tups_new ht)).trans t6) pz2) (Pr.tups ⟨t, rfl, upd_same⟩ t6), ?_, ?_, ?_⟩
        · have q3 := b3 _ _ nb (b2 _ _ nb q)
          rw [upd_ne (ne_of_none q htl0), upd_ne (ne_of_none q3 ht)]
          exact q3
        · rw [upd_ne nst, upd_ne (ne_of_none e3 ht)]
          exact e3
        · rw [upd_ne nrt, upd_ne (ne_of_none er3 ht)]
          exact er3
        · refine tok2.snoc ⟨?_, hkj, (show hasK _ pk.1 = true from has_at hnd xk), (show hasK _ pj.1 = true from has_at hnd xj)⟩
          rcases hl2 with q | ⟨q1, q2⟩
          · exact lex_lt q
          · rw [q1]
            exact lex_eq (q2 _ pj (Nat.le_refl _) xj)
        · rw [lastT_snoc]
          exact .inr ⟨rfl, fun j p hj2 hp => rise _ _ pj p (by omega) xj hp⟩
        · rw [List.length_append]
          show _ + 1 ≤ _
          omega
      · refine ⟨_, zs2, ts2, o3, rfl, b2.trans b3, e3, so3, er3, Prs.tups t3 pp2, etl3, Prs.tups t3 pz2, tok2, ?_, by omega⟩
        rcases hl2 with q | ⟨q1, q2⟩
        · exact .inl q
        · exact .inr ⟨q1, fun j p hj2 hp => q2 j p (by omega) hp⟩
    · rintro σ H2 ⟨jj2, zs2, ts2, o2, rfl, b2, e2, so2, er2, pp2, etl2, pz2, tok2, hl2, htn2⟩
      refine ⟨_, jj2, zs2, ts2, o2, rfl, b2, e2, so2, er2, pp2, etl2, pz2, tok2, fun j p hj hp => ?_, by omega⟩
      have := rise k j pk p (by omega) xk hp
      rcases hl2 with q | ⟨q1, _⟩
      · omega
      · omega
  · rintro σ H1 ⟨kk, jj, zs, ts, o', rfl, b1, e1, so', er1, pp1, etl, pz, tok, hlast, htn⟩
    walk_at "RD"
    intro wv hwv
    have s1 := same_new hwv (.tup [.ref r, .ref tl])
    exact h _ _ o' ps ts (b1.trans (But.new hwv)) (s1 _ _ e1) so' ⟨wv, r, tl, xs, zs, rfl, upd_same, s1 _ _ er1, s1 _ _ etl, Prs.same s1 pp1, Prs.same s1 pz⟩ ⟨by omega, plok, by omega, tok⟩ dr hpl
end
end My
namespace My
open PySem L2
section
variable {P : Program} {w : World} {K : PySem.W.Frag} {mg : Str → Option Value} {base : Heap} {c1 c2 c3 c4 : Tok} {C_NoWeb f_NoWeb : Addr} {dI : FuncData}
def nr (n : Int) (t : Int × Int) : List Int := if t.1 = n then [t.2] else if t.2 = n then [t.1] else []
def nearL (ts : List (Int × Int)) (n : Int) : List Int := ts.flatMap (nr n)
theorem nearL_take {ts : List (Int × Int)} {j : Nat} {t : Int × Int} (h : ts[j]? = some t) (n : Int) : nearL (ts.take (j + 1)) n = nearL (ts.take j) n ++ nr n t := by
  unfold nearL
  rw [take_get h, List.flatMap_append]
  simp
theorem nearL_len : ∀ (ts : List (Int × Int)) (n : Int), (nearL ts n).length ≤ ts.length
  | [], n => by simp [nearL]
  | t :: r, n => by
    have ih := nearL_len r n
    have e : nearL (t :: r) n = nr n t ++ nearL r n := by simp [nearL]
    have e2 : (nr n t).length ≤ 1 := by
      unfold nr
      split
      · simp
      · split <;> simp
    rw [e, List.length_append, List.length_cons]
    omega
def kz : List (Int × Int) → List Addr → List (Key × V)
  | p :: r, a :: s => (Sum.inl p.1, V.ref a) :: kz r s
  | _, _ => []
theorem kz_snoc : ∀ {ps : List (Int × Int)} {as : List Addr} {p : Int × Int} {a : Addr}, ps.length = as.length → kz (ps ++ [p]) (as ++ [a]) = kz ps as ++ [(Sum.inl p.1, V.ref a)]
  | [], [], _, _, _ => rfl
  | [], _ :: _, _, _, h => by simp at h
  | _ :: _, [], _, _, h => by simp at h
  | q :: r, b :: s, p, a, h => by
    have ih := kz_snoc (ps := r) (as := s) (p := p) (a := a) (by simpa using h)
    show (Sum.inl q.1, V.ref b) :: kz (r ++ [p]) (s ++ [a]) = _
    rw [ih]
    rfl
theorem kz_keys : ∀ {ps : List (Int × Int)} {as : List Addr}, ps.length = as.length → (kz ps as).map (·.1) = ps.map fun p => (Sum.inl p.1 : Key)
  | [], [], _ => rfl
  | [], _ :: _, h => by simp at h
  | _ :: _, [], h => by simp at h
  | q :: r, b :: s, h => by
    show (Sum.inl q.1 : Key) :: (kz r s).map (·.1) = _
    rw [kz_keys (by simpa using h)]
    rfl
theorem kz_val : ∀ {ps : List (Int × Int)} {as : List Addr} {i : Nat} {p : Int × Int} {a : Addr}, (ps.map (·.1)).Nodup → ps[i]? = some p → as[i]? = some a → valV (kz ps as) (Sum.inl p.1 : Key) = some (.ref a)
  | [], _, i, _, _, _, h, _ => by simp at h
  | _ :: _, [], i, _, _, _, _, h => by simp at h
  | q :: r, b :: s, i, p, a, hn, h1, h2 => by
    rw [List.map_cons] at hn
    unfold valV
    show Option.map _ (List.find? _ ((Sum.inl q.1, V.ref b) :: kz r s)) = _
    rw [List.find?_cons]
    cases i with
    | zero =>
      simp at h1 h2
      subst h1 h2
      simp
    | succ i =>
      have hp : p ∈ r := List.mem_of_getElem? (by simpa using h1)
      have hne : q.1 ≠ p.1 := fun z => (List.nodup_cons.mp hn).1 (by rw [z]; exact List.mem_map_of_mem hp)
      have hd : decide ((Sum.inl q.1 : Key) = Sum.inl p.1) = false := decide_eq_false fun z => hne (Sum.inl.inj z)
      dsimp only
      rw [hd]
      exact kz_val (List.nodup_cons.mp hn).2 (i := i) (by simpa using h1) (by simpa using h2)
theorem hasK_inv {ps : List (Int × Int)} {n : Int} (h : hasK (kvsOf ps) n = true) : ∃ (i : Nat) (p : Int × Int), ps[i]? = some p ∧ p.1 = n := by
  unfold hasK valV kvsOf at h
  rw [Option.isSome_map, List.find?_isSome] at h
  obtain ⟨kv, hm, he⟩ := h
  obtain ⟨p, hp, e⟩ := List.mem_map.mp hm
  subst e
  obtain ⟨i, hi, e2⟩ := List.mem_iff_getElem.mp hp
  refine ⟨i, p, by rw [List.getElem?_eq_getElem hi, e2], ?_⟩
  exact Sum.inl.inj (of_decide_eq_true he)
theorem TiOk.ats {kvs : List (Key × V)} : ∀ {ts : List (Int × Int)} {q : Int × Int}, TiOk kvs q ts → ∀ t ∈ ts, t.1 < t.2 ∧ hasK kvs t.1 = true ∧ hasK kvs t.2 = true
  | [], _, _, _, h => by cases h
  | p :: r, q, h, t, ht => by
    rcases List.mem_cons.mp ht with e | ht
    · rw [e]; exact ⟨h.1.2.1, h.1.2.2.1, h.1.2.2.2⟩
    · exact TiOk.ats h.2 t ht
def Nears (H : Hp) (ps ts : List (Int × Int)) (as : List Addr) : Prop := ∀ (i : Nat) (p : Int × Int) (a : Addr), ps[i]? = some p → as[i]? = some a → H a = some (.lst ((nearL ts p.1).map V.int))
def spNearsIn : Sp := fun vs H Q _ => ∃ v ps ts, vs = [v] ∧ WebAt H v ps ts ∧ WebOk ps ts ∧ ∀ d as H', H d = none → Same H H' → H' d = some (.dK (kz ps as)) → as.length = ps.length → Nears H' ps ts as → Q (.ref d) H'
theorem nodup_at {α : Type} {l : List α} (h : l.Nodup) {i j : Nat} {a b : α} (h1 : l[i]? = some a) (h2 : l[j]? = some b) (hij : i ≠ j) : a ≠ b := by
  intro e
  subst e
  obtain ⟨p1, q1⟩ := List.getElem?_eq_some_iff.mp h1
  obtain ⟨p2, q2⟩ := List.getElem?_eq_some_iff.mp h2
  exact hij ((List.getElem_inj h).mp (q1.trans q2.symm))
theorem get_snoc {α : Type} {l : List α} {x y : α} {i : Nat} (h : (l ++ [x])[i]? = some y) : l[i]? = some y ∨ (i = l.length ∧ y = x) := by
  by_cases hi : i < l.length
  · left
    rw [List.getElem?_append_left hi] at h
    exact h
  · right
    rw [List.getElem?_append_right (by omega)] at h
    by_cases h0 : i - l.length = 0
    · rw [h0] at h
      simp at h
      exact ⟨by omega, h.symm⟩
    · have : i - l.length = (i - l.length - 1) + 1 := by omega
      rw [this] at h
      simp at h
theorem ok_nears_in {f : Addr} {fd : FuncData}  (B : Blt mg) (D : DefAt K mg "nears_in" (top 23) ["web"] f fd) : FnOk P w K mg base CX0 1 f fd ["web"] spNearsIn := by
  have sc : FnScope ["web", "nears", "one", "other"] ["web"] (defScope (top 23)) := ⟨rfl, rfl, rfl, by decide +kernel, rfl, by decide +kernel, by decide +kernel⟩
  refine D.F.ok sc (fun vs H Q E h => ?_) (fun cdv A outer s H vs Q E hr h => ?_)
  · obtain ⟨v, ps, ts, rfl, _⟩ := h
    rfl
  obtain ⟨v, ps, ts, rfl, hw, wok, h⟩ := h
  obtain ⟨x, pa, ta, xs, ys, rfl, ex, ep, et, pp, pt⟩ := id hw
  have hlx : xs.length = ps.length := Paired.length pp
  have hly : ys.length = ts.length := Paired.length pt
  have okl := wok.pl
  have okt := wok.tl
  have hnd := wok.p.nodup
  have hu := hu_of hr
  have hu0 : _ < PySem.cLine := Nat.lt_of_succ_lt hu
  refine ⟨_, (pss_cons (ps_set (i := 1) sc.nd rfl (Or.inl rfl) (pe_callTy (q_dictL rfl) rfl B.dict PyProof.Rows.boot_dict (pa_cons (pe_comp (CpScope.of (N := ["place", "price"]) (src := [none, none]) (by rfl)) rfl (pi_list (pe_ix q_ix (qv 0) pe_int (fun _ _ => rfl))) (fun _ _ _ _ => (qg_tup (n := 2) rfl (qgs_cons (pg_name (i := 0) (nodupB_ok (l := ["place", "price"]) (by rfl)) rfl (Or.inl rfl)) (qgs_cons (pg_name (i := 1) (nodupB_ok (l := ["place", "price"]) (by rfl)) rfl (Or.inl rfl)) qgs_nil)))) (fun _ _ _ _ => pif_nil) (fun _ _ _ _ => (pe_tup (pa_cons (qv 0) (pa_cons (pe_lst pa_nil) pa_nil))))) pa_nil))) (pss_cons (ps_for PassesOwn.never rfl (pi_list (pe_ix q_ix (qv 0) pe_int (fun _ _ => rfl))) (qg_tup (n := 2) rfl (qgs_cons (pg_name (i := 2) sc.nd rfl (Or.inl rfl)) (qgs_cons (pg_name (i := 3) sc.nd rfl (Or.inl rfl)) qgs_nil))) (pss_cons (ps_expr (q_bm PySem.F.plainAttrs_list PySem.F.slot_list_append PySem.F.type_list_append q_append (q_dget hu (qv 1) (qv 2) (fun _ _ => rfl)) (pa_cons (qv 3) pa_nil))) (pss_one (ps_expr (q_bm PySem.F.plainAttrs_list PySem.F.slot_list_append PySem.F.type_list_append q_append (q_dget hu (qv 1) (qv 3) (fun _ _ => rfl)) (pa_cons (qv 2) pa_nil)))))) (pss_one (ps_ret (qv 1))))), ?_⟩
  walk_at "RD"
  refine tComp_hide (Itl K pa) H (fun R hR => ?_) (fun l hl0 => comp_run ps.length (fun i σ' Hc => ∃ w1 w2 zs as, σ' = [w1, w2] ∧ Same H Hc ∧ Hc l = some (.lst zs) ∧ as.length = i ∧ as.Nodup ∧ (∀ a ∈ as, H a = none ∧ a ≠ l ∧ Hc a = some (.lst [])) ∧ Paired (PairAt Hc) zs (kz (ps.take i) as)) ⟨none, none, [], [], rfl, same_new hl0 _, upd_same, rfl, List.nodup_nil, (fun _ h => by cases h), .nil⟩ ?_ ?_)
  · unfold iList
    simp_arith [seqOf, ex, at0]
    exact ⟨pa, rfl, ⟨_, SqL.of ep⟩, hR⟩
  · rintro i σ' Hc hi ⟨w1, w2, zs, as, rfl, s2, ez, hla, nda, ha, pz⟩
    have x1 : xs[i]? = some (xs[i]'(by omega)) := List.getElem?_eq_getElem _
    have z1 : SqL K Hc pa xs := SqL.of (s2 _ _ ep)
    have hlt : (ps.take i).length = as.length := by rw [List.length_take]; omega
    have hlz : zs.length = (kz (ps.take i) as).length := Paired.length pz
    have hlz2 : zs.length ≤ i := by
      have e := congrArg List.length (kz_keys hlt)
      rw [List.length_map, List.length_map] at e
      omega
    refine ⟨⟨_, _, z1, x1⟩, ?_⟩
    rintro y H' ⟨rfl, hy⟩
    obtain ⟨q, hq, pq⟩ := paired_left pp (hy _ z1)
    obtain ⟨t, rfl, ht⟩ := pq.same s2
    simp_arith [ht]
    intro a1 ha1 t2 ht2
    have na1 : a1 ≠ l := fun z => by rw [z, ez] at ha1; cases ha1
    have nt2 : t2 ≠ a1 := fun z => by rw [z, upd_same] at ht2; cases ht2
    have s3 := same_new ha1 (.lst [])
    have s4 := same_new ht2 (.tup [.int q.1, .ref a1])
    have ez2 := s4 _ _ (s3 _ _ ez)
    have t6 := tups_lst (ys := zs ++ [.ref t2]) ez2
    refine ⟨zs, ez2, szl' (by omega), _, _, zs ++ [.ref t2], as ++ [a1], rfl, same_upd (s2.trans (s3.trans s4)) hl0, (by first | rfl | exact upd_same), (by rw [List.length_append, hla]; rfl), ?_, ?_, ?_⟩
    · rw [List.nodup_append]
      refine ⟨nda, (by simp), fun a hm b hb => ?_⟩
      have hb' : b = a1 := by simpa using hb
      intro z
      rw [hb'] at z
      have := (ha a hm).2.2
      rw [z, ha1] at this
      cases this
    · intro a hm
      rcases List.mem_append.mp hm with hm | hm
      · obtain ⟨q1, q2, q3⟩ := ha a hm
        refine ⟨q1, q2, ?_⟩
        rw [upd_ne q2]
        exact s4 _ _ (s3 _ _ q3)
      · have e : a = a1 := by simpa using hm
        subst e
        refine ⟨s2.free ha1, na1, ?_⟩
        rw [upd_ne na1]
        exact s4 _ _ upd_same
    · rw [take_get hq, kz_snoc hlt]
      refine paired_snoc (Paired.mapP pz fun v p q => ?_) ⟨t2, rfl, t6 _ _ rfl upd_same⟩
      obtain ⟨b, e, q⟩ := q
      exact ⟨b, e, t6 _ _ rfl (s4 _ _ (s3 _ _ q))⟩
  rintro σ' Hc ⟨w1, w2, zs, as, rfl, s2, ez, hla, nda, ha, pz⟩
  refine ⟨⟨_, SqL.of (s2 _ _ ep), by omega⟩, ?_⟩
  rw [List.take_length] at pz
  have hlz : zs.length = (kz ps as).length := Paired.length pz
  have hkk := kz_keys (ps := ps) (as := as) hla.symm
  have hlz2 : zs.length = ps.length := by
    have e := congrArg List.length hkk
    rw [List.length_map, List.length_map] at e
    omega
  simp_arith [ez]
  refine ⟨kz ps as, pz, by omega, ?_, fun d hd => ?_⟩
  · rw [hkk]
    have hnd2 := hnd
    unfold List.Nodup at hnd2 ⊢
    rw [List.pairwise_map] at hnd2 ⊢
    exact hnd2.imp fun q z => q (Sum.inl.inj z)
  have s3 := same_new hd (.dK (kz ps as))
  have ed : upd Hc d (.dK (kz ps as)) d = some (.dK (kz ps as)) := upd_same
  have hd0 := s2.free hd
  have ha3 : ∀ a ∈ as, H a = none ∧ a ≠ d ∧ upd Hc d (.dK (kz ps as)) a = some (.lst []) := fun a hm => by
    obtain ⟨q1, q2, q3⟩ := ha a hm
    exact ⟨q1, ne_of_none q3 hd, s3 _ _ q3⟩
  have s23 := s2.trans s3
  generalize upd Hc d (.dK (kz ps as)) = H2 at s23 ed ha3
  clear s3 s2 ez pz ha hlz hd
  refine tFor_hide (Itl K ta) H2 (fun R hR => ?_) (for_list (K := K) (a := ta) (xs := ys) (fun j σ H3 => ∃ v1 v2, σ = [some (.ref x), some (.ref d), v1, v2] ∧ Same H H3 ∧ H3 d = some (.dK (kz ps as)) ∧ Nears H3 ps (ts.take j) as) ⟨none, none, rfl, s23, ed, fun i p a _ h2 => (ha3 a (List.mem_of_getElem? h2)).2.2⟩ (fun i σ H3 _ ⟨_, _, _, s3, _⟩ => SqL.of (s3 _ _ et)) ?_ ?_)
  · unfold iList
    simp_arith [seqOf, s23 _ _ ex, at1]
    exact ⟨ta, rfl, ⟨_, SqL.of (s23 _ _ et)⟩, hR⟩
  · rintro j y σ H3 hj ⟨v1, v2, rfl, s3, ed3, hN⟩
    obtain ⟨q, hq, pq⟩ := paired_left pt hj
    obtain ⟨t, rfl, ht⟩ := pq.same s3
    obtain ⟨b1, b2, b3⟩ := wok.t.ats q (List.mem_of_getElem? hq)
    obtain ⟨i1, p1, g1, e1⟩ := hasK_inv b2
    obtain ⟨i2, p2, g2, e2⟩ := hasK_inv b3
    have hi1 : i1 < as.length := by have := (List.getElem?_eq_some_iff.mp g1).1; omega
    have hi2 : i2 < as.length := by have := (List.getElem?_eq_some_iff.mp g2).1; omega
    have A1 : as[i1]? = some as[i1] := List.getElem?_eq_getElem hi1
    have A2 : as[i2]? = some as[i2] := List.getElem?_eq_getElem hi2
    generalize as[i1] = a1 at A1
    generalize as[i2] = a2 at A2
    have V1 := kz_val hnd g1 A1
    have V2 := kz_val hnd g2 A2
    have n12 : i1 ≠ i2 := fun z => by rw [z, g2] at g1; cases g1; omega
    have na : a1 ≠ a2 := nodup_at nda A1 A2 n12
    rw [e1] at V1
    rw [e2] at V2
    have M1 := hN i1 p1 a1 g1 A1
    have M2 := hN i2 p2 a2 g2 A2
    have hlj : ∀ n, (nearL (ts.take j) n).length ≤ 120 := fun n => Nat.le_trans (nearL_len _ _) (by rw [List.length_take]; omega)
    have nd1 : d ≠ a1 := ((ha3 a1 (List.mem_of_getElem? A1)).2.1).symm
    have nd2 : d ≠ a2 := ((ha3 a2 (List.mem_of_getElem? A2)).2.1).symm
    simp_arith [ht, ed3, V1]
    refine ⟨⟨a1, _, rfl, M1⟩, ?_⟩
    simp_arith [M1]
    refine ⟨szl' (by rw [List.length_map]; have := hlj p1.1; omega), ?_⟩
    simp_arith [upd_ne nd1, ed3, V2]
    refine ⟨⟨a2, _, rfl, (by rw [upd_ne na.symm]; exact M2)⟩, ?_⟩
    simp_arith [upd_ne na.symm, M2]
    refine ⟨szl' (by rw [List.length_map]; have := hlj p2.1; omega), _, _, rfl, ?_, ?_, ?_⟩
    · intro b o hb
      rw [upd_ne (ne_of_none hb (ha3 a2 (List.mem_of_getElem? A2)).1), upd_ne (ne_of_none hb (ha3 a1 (List.mem_of_getElem? A1)).1)]
      exact s3 b o hb
    · rw [upd_ne nd2, upd_ne nd1]
      exact ed3
    · intro i p a hp ha'
      rw [nearL_take hq, List.map_append]
      have hpe : ∀ {k : Nat} {r : Int × Int}, ps[k]? = some r → r.1 = p.1 → k = i := fun {k r} hr he => by
        have h1 : (ps.map (·.1))[k]? = some r.1 := by rw [List.getElem?_map, hr]; rfl
        have h2 : (ps.map (·.1))[i]? = some p.1 := by rw [List.getElem?_map, hp]; rfl
        by_cases z : k = i
        · exact z
        · exact absurd he (nodup_at hnd h1 h2 z)
      by_cases c2 : i = i2
      · subst c2
        rw [g2] at hp
        cases hp
        rw [A2] at ha'
        cases ha'
        have e3 : nr p2.1 q = [q.1] := by
          unfold nr
          rw [if_neg (by omega), if_pos e2.symm]
        rw [upd_same, e3]
        rfl
      by_cases c1 : i = i1
      · subst c1
        rw [g1] at hp
        cases hp
        rw [A1] at ha'
        cases ha'
        have e3 : nr p1.1 q = [q.2] := by
          unfold nr
          rw [if_pos e1.symm]
        rw [upd_ne na, upd_same, e3]
        rfl
      have n1 : a ≠ a1 := nodup_at nda ha' A1 c1
      have n2 : a ≠ a2 := nodup_at nda ha' A2 c2
      have e3 : nr p.1 q = [] := by
        unfold nr
        rw [if_neg (fun z => c1 (hpe g1 (e1.trans z)).symm), if_neg (fun z => c2 (hpe g2 (e2.trans z)).symm)]
      rw [upd_ne n2, upd_ne n1, e3, List.map_nil, List.append_nil]
      exact hN i p a hp ha'
  · rintro σ H3 ⟨v1, v2, rfl, s3, ed3, hN⟩
    rw [hly, List.take_length] at hN
    walk_at "RD"
    exact h d as H3 hd0 s3 ed3 hla hN
end
end My
namespace My
open PySem L2
section
variable {P : Program} {w : World} {K : PySem.W.Frag} {mg : Str → Option Value} {base : Heap} {c1 c2 c3 c4 : Tok} {C_NoWeb f_NoWeb : Addr} {dI : FuncData}
def isPl (kvs : List (Key × V)) : Dt → Bool
  | .int n => hasK kvs n
  | _ => false
def spIsPl : Sp := fun vs H Q _ => ∃ d kvs x dt, vs = [.ref d, x] ∧ H d = some (.dK kvs) ∧ Rep H dt x ∧ Q (.bl (isPl kvs dt)) H
def spAreP : Sp := fun vs H Q _ => ∃ d kvs l ds xs, vs = [.ref d, .ref l] ∧ H d = some (.dK kvs) ∧ H l = some (.lst xs) ∧ Reps H ds xs ∧ ds.length ≤ 900 ∧ ∀ H', Same H H' → Q (.bl (ds.all (isPl kvs))) H'
def NrAt (H : Hp) (d : Addr) (ps ts : List (Int × Int)) : Prop := ∃ as, H d = some (.dK (kz ps as)) ∧ as.length = ps.length ∧ Nears H ps ts as
theorem NrAt.same {H H' : Hp} {d : Addr} {ps ts : List (Int × Int)} (h : NrAt H d ps ts) (s : Same H H') : NrAt H' d ps ts := by
  obtain ⟨as, e, l, n⟩ := h
  exact ⟨as, s _ _ e, l, fun i p a h1 h2 => s _ _ (n i p a h1 h2)⟩
theorem kz_has {ps : List (Int × Int)} {as : List Addr} (hl : as.length = ps.length) {n : Int} : hasK (kz ps as) n = decide (n ∈ ps.map (·.1)) := by
  have hk := kz_keys (ps := ps) (as := as) hl.symm
  unfold hasK valV
  rw [Option.isSome_map, Bool.eq_iff_iff, List.find?_isSome, decide_eq_true_eq]
  constructor
  · rintro ⟨kv, hm, he⟩
    have h1 : kv.1 ∈ (kz ps as).map (·.1) := List.mem_map_of_mem hm
    rw [hk] at h1
    obtain ⟨p, hp, e⟩ := List.mem_map.mp h1
    have e2 : kv.1 = Sum.inl n := of_decide_eq_true he
    rw [e2] at e
    exact List.mem_map.mpr ⟨p, hp, Sum.inl.inj e⟩
  · intro h
    obtain ⟨p, hp, e⟩ := List.mem_map.mp h
    have h1 : (Sum.inl n : Key) ∈ (kz ps as).map (·.1) := by rw [hk]; exact List.mem_map.mpr ⟨p, hp, by rw [e]⟩
    obtain ⟨kv, hm, he⟩ := List.mem_map.mp h1
    exact ⟨kv, hm, by rw [he]; simp⟩
theorem NrAt.get {H : Hp} {d : Addr} {ps ts : List (Int × Int)} (h : NrAt H d ps ts) (hn : (ps.map (·.1)).Nodup) {n : Int} (m : n ∈ ps.map (·.1)) : ∃ as a, H d = some (.dK (kz ps as)) ∧ valV (kz ps as) (Sum.inl n : Key) = some (.ref a) ∧ H a = some (.lst ((nearL ts n).map V.int)) := by
  obtain ⟨as, e, l, nr⟩ := h
  obtain ⟨p, hp, rfl⟩ := List.mem_map.mp m
  obtain ⟨i, hi, e2⟩ := List.mem_iff_getElem.mp hp
  have h1 : ps[i]? = some p := by rw [List.getElem?_eq_getElem hi, e2]
  have h2 : as[i]? = some (as[i]'(by omega)) := List.getElem?_eq_getElem _
  exact ⟨as, _, e, kz_val hn h1 h2, nr i p _ h1 h2⟩
theorem ok_is_place {f : Addr} {fd : FuncData} {f_is_whole : Addr} {d_is_whole : FuncData} (B : Blt mg) (D : DefAt K mg "is_place" (top 21) ["prices", "thing"] f fd) (D_is_whole : DefAt K mg "is_whole" (top 7) ["thing"] f_is_whole d_is_whole) (G_is_whole : FnOk P w K mg base CX0 1 f_is_whole d_is_whole ["thing"] spWhole) : FnOk P w K mg base CX0 2 f fd ["prices", "thing"] spIsPl := by
  have sc : FnScope ["prices", "thing"] ["prices", "thing"] (defScope (top 21)) := ⟨rfl, rfl, rfl, by decide +kernel, rfl, by decide +kernel, by decide +kernel⟩
  refine D.F.ok sc (fun vs H Q E h => ?_) (fun cdv A outer s H vs Q E hr h => ?_)
  · obtain ⟨d, kvs, x, dt, rfl, _⟩ := h
    rfl
  obtain ⟨d, kvs, x, dt, rfl, ed, hd, h⟩ := h
  have hk := rep_kd hd
  have hu := hu_of hr
  have hu0 : _ < PySem.cLine := Nat.lt_of_succ_lt hu
  refine ⟨_, (pss_one (ps_ret (q_and (pe_call G_is_whole (hr.mono (by decide)) rfl D_is_whole.m D_is_whole.F.kp D_is_whole.b .nil pass0 (pa_cons (qv 1) pa_nil)) (pe_one (pe_cmp (q_din hu (qv 1) (qv 0))))))), ?_⟩
  cases dt with
  | int n =>
    rw [Rep] at hd
    subst hd
    walk_at "RD"
    refine ⟨_, .int, rfl, rfl, ?_⟩
    simp_arith [wholeK, ed]
    exact h
  | non => walk_at "RD"; exact ⟨_, _, rfl, hk, by simp_arith [wholeK, kdD]; exact h⟩
  | bl b => walk_at "RD"; exact ⟨_, _, rfl, hk, by simp_arith [wholeK, kdD]; exact h⟩
  | str b => walk_at "RD"; exact ⟨_, _, rfl, hk, by simp_arith [wholeK, kdD]; exact h⟩
  | tup b => walk_at "RD"; exact ⟨_, _, rfl, hk, by simp_arith [wholeK, kdD]; exact h⟩
  | lst b => walk_at "RD"; exact ⟨_, _, rfl, hk, by simp_arith [wholeK, kdD]; exact h⟩
theorem ok_are_places {f : Addr} {fd : FuncData} {f_is_place : Addr} {d_is_place : FuncData} (B : Blt mg) (D : DefAt K mg "are_places" (top 22) ["prices", "things"] f fd) (D_is_place : DefAt K mg "is_place" (top 21) ["prices", "thing"] f_is_place d_is_place) (G_is_place : FnOk P w K mg base CX0 2 f_is_place d_is_place ["prices", "thing"] spIsPl) : FnOk P w K mg base CX0 3 f fd ["prices", "things"] spAreP := by
  have sc : FnScope ["prices", "things"] ["prices", "things"] (defScope (top 22)) := ⟨rfl, rfl, rfl, by decide +kernel, rfl, by decide +kernel, by decide +kernel⟩
  refine D.F.ok sc (fun vs H Q E h => ?_) (fun cdv A outer s H vs Q E hr h => ?_)
  · obtain ⟨d, kvs, l, ds, xs, rfl, _⟩ := h
    rfl
  obtain ⟨d, kvs, l, ds, xs, rfl, ed, el, hr2, hl9, h⟩ := h
  have hlx := hr2.len
  have hu := hu_of hr
  have hu0 : _ < PySem.cLine := Nat.lt_of_succ_lt hu
  refine ⟨_, (pss_one (ps_ret (pe_callB (q_all rfl) rfl B.all PyProof.Rows.boot_all (pa_cons (pe_comp (CpScope.of (N := ["thing", "prices"]) (src := [none, some 0]) (by rfl)) rfl (pi_list (qv 1)) (fun _ _ _ _ => (pg_name (i := 0) (nodupB_ok (l := ["thing", "prices"]) (by rfl)) rfl (Or.inl rfl))) (fun _ _ _ _ => pif_nil) (fun _ _ _ _ => (pe_call G_is_place (hr.mono (by decide)) rfl D_is_place.m D_is_place.F.kp D_is_place.b .nil pass0 (pa_cons (qv 1) (pa_cons (qv 0) pa_nil))))) pa_nil)))), ?_⟩
  walk_at "RD"
  refine tComp_hide (Itl K l) H (fun R hR => ?_) (fun z hz0 => comp_run ds.length (fun i σ' Hc => ∃ w1, σ' = [w1, some (.ref d)] ∧ Same H Hc ∧ Hc z = some (.lst (((ds.take i).map (isPl kvs)).map V.bl))) ⟨none, rfl, same_new hz0 _, upd_same⟩ ?_ ?_)
  · unfold iList
    walk_at "RD"
    exact ⟨l, rfl, ⟨_, SqL.of el⟩, hR⟩
  · rintro i σ' Hc hi ⟨w1, rfl, s2, ez⟩
    have x1 : xs[i]? = some (xs[i]'(by omega)) := List.getElem?_eq_getElem _
    refine ⟨⟨_, _, SqL.of (s2 _ _ el), x1⟩, ?_⟩
    rintro y H' ⟨rfl, hy⟩
    have E1 := Option.some.inj (x1.symm.trans (hy _ (SqL.of (s2 _ _ el))))
    subst E1
    obtain ⟨dt, hdt, rdt⟩ := hr2.at x1
    walk_at "RD"
    refine ⟨d, kvs, _, dt, rfl, s2 _ _ ed, Rep.same s2 _ rdt, ?_⟩
    refine ⟨_, ez, ?_, _, rfl, same_upd s2 hz0, ?_⟩
    · rw [List.length_map, List.length_map, List.length_take]
      exact szl' (by omega)
    · rw [take_get hdt, List.map_append, List.map_append]
      first | rfl | exact upd_same
  · rintro σ' Hc ⟨w1, rfl, s2, ez⟩
    refine ⟨⟨_, SqL.of (s2 _ _ el), by omega⟩, ?_⟩
    rw [List.take_length] at ez
    simp_arith [ez]
    refine ⟨_, rfl, ?_⟩
    have e : (ds.map (isPl kvs)).all id = ds.all (isPl kvs) := by
      rw [List.all_map]
      rfl
    rw [e]
    exact h Hc s2
end
end My
namespace My
open PySem L2
section
variable {P : Program} {w : World} {K : PySem.W.Frag} {mg : Str → Option Value} {base : Heap} {c1 c2 c3 c4 : Tok} {C_NoWeb f_NoWeb : Addr} {dI : FuncData}
theorem flat_ints : ∀ (gs : List Int), (gs.map V.int).all flatV = true
  | [] => rfl
  | _ :: r => flat_ints r
def pwB (ts : List (Int × Int)) : List Int → Bool
  | [] => true
  | n :: r => (r.all fun m => decide (n < m) && decide (m ∈ nearL ts n)) && pwB ts r
def allB (ts : List (Int × Int)) (ns : List Int) : Bool := pwB ts ns && decide (2 ≤ ns.length)
def ringB (ts : List (Int × Int)) (ns : List Int) : Bool := (decide (3 ≤ ns.length) && decide (ns.length % 2 = 1) && decide ns.Nodup) && ((ns.zip (ns.drop 1 ++ ns.take 1)).all fun p => decide (p.2 ∈ nearL ts p.1))
def spIsAll : Sp := fun vs H Q _ => ∃ d l ps ts ns, vs = [.ref d, .ref l] ∧ NrAt H d ps ts ∧ (ps.map (·.1)).Nodup ∧ H l = some (.lst (ns.map V.int)) ∧ (∀ n ∈ ns, n ∈ ps.map (·.1)) ∧ ns.length ≤ 900 ∧ ∀ H', Same H H' → Q (.bl (allB ts ns)) H'
def spIsRing : Sp := fun vs H Q _ => ∃ d l ps ts ns, vs = [.ref d, .ref l] ∧ NrAt H d ps ts ∧ (ps.map (·.1)).Nodup ∧ H l = some (.lst (ns.map V.int)) ∧ (∀ n ∈ ns, n ∈ ps.map (·.1)) ∧ ns.length ≤ 900 ∧ ∀ H', Same H H' → Q (.bl (ringB ts ns)) H'
theorem pwB_drop {ts : List (Int × Int)} {ns : List Int} {i : Nat} {n : Int} (h : ns[i]? = some n) : pwB ts (ns.drop i) = (((ns.drop (i + 1)).all fun m => decide (n < m) && decide (m ∈ nearL ts n)) && pwB ts (ns.drop (i + 1))) := by
  obtain ⟨hi, e⟩ := List.getElem?_eq_some_iff.mp h
  rw [List.drop_eq_getElem_cons hi, e]
  rfl
theorem cut_fromI {ns : List Int} {k : Nat} (h : k ≤ ns.length) : cutV (ns.map V.int) (some ((k : Nat) : Int)) none = (ns.drop k).map V.int := by
  unfold cutV HT.sIx
  dsimp only
  have e : (if ((k : Nat) : Int) < 0 then (((k : Nat) : Int) + ((ns.map V.int).length : Int)).toNat else min ((k : Nat) : Int).toNat (ns.map V.int).length) = k := by
    rw [List.length_map]
    split <;> omega
  rw [e, List.take_of_length_le (by rw [List.length_drop]; omega), List.map_drop]
theorem cut_toI {ns : List Int} {k : Nat} (h : k ≤ ns.length) : cutV (ns.map V.int) none (some ((k : Nat) : Int)) = (ns.take k).map V.int := by
  unfold cutV HT.sIx
  dsimp only
  have e : (if ((k : Nat) : Int) < 0 then (((k : Nat) : Int) + ((ns.map V.int).length : Int)).toNat else min ((k : Nat) : Int).toNat (ns.map V.int).length) = k := by
    rw [List.length_map]
    split <;> omega
  rw [List.drop_zero, e, Nat.sub_zero, List.map_take]
theorem ok_is_all {f : Addr} {fd : FuncData}  (B : Blt mg) (D : DefAt K mg "is_all" (top 26) ["nears", "places"] f fd) : FnOk P w K mg base CX0 1 f fd ["nears", "places"] spIsAll := by
  have sc : FnScope ["nears", "places", "at", "one", "other"] ["nears", "places"] (defScope (top 26)) := ⟨rfl, rfl, rfl, by decide +kernel, rfl, by decide +kernel, by decide +kernel⟩
  refine D.F.ok sc (fun vs H Q E h => ?_) (fun cdv A outer s H vs Q E hr h => ?_)
  · obtain ⟨d, l, ps, ts, ns, rfl, _⟩ := h
    rfl
  obtain ⟨d, l, ps, ts, ns, rfl, nr, hnd, el, hin, hl9, h⟩ := h
  have hu := hu_of hr
  have hu0 : _ < PySem.cLine := Nat.lt_of_succ_lt hu
  refine ⟨_, (pss_cons (ps_for PassesOwn.never rfl (pi_enum rfl B.enumerate (pa_cons (qv 1) pa_nil)) (qg_tup (n := 2) rfl (qgs_cons (pg_name (i := 2) sc.nd rfl (Or.inl rfl)) (qgs_cons (pg_name (i := 3) sc.nd rfl (Or.inl rfl)) qgs_nil))) (pss_one (ps_for PassesOwn.never rfl (pi_list (pe_slice q_slL (qv 1) (qo_some (pe_op q_add (qv 2) pe_int)) po_none)) (pg_name (i := 4) sc.nd rfl (Or.inl rfl)) (pss_one (ps_if (PW.pt (pw_or (qt_cmp q_le (qv 4) (qv 3) (nomark _)) (pw_or1 (qt_cmp q_notinL (qv 4) (q_dget hu (qv 0) (qv 3) (fun _ _ => rfl)) (by with_unfolding_all rfl))))) (pss_one (ps_ret pe_bl)) pss_nil))))) (pss_one (ps_ret (pe_cmpR q_ge (pe_callB q_len rfl B.len PySem.boot_len (pa_cons (qv 1) pa_nil)) pe_int (nomark _))))), ?_⟩
  refine seq_hide fun R hR => ?_
  walk_at "RD"
  refine ⟨l, rfl, ⟨_, SqL.of el⟩, for_enum (K := K) (a := l) (xs := ns.map V.int) (fun i σ H1 => ∃ v1 v2 v3, σ = [some (.ref d), some (.ref l), v1, v2, v3] ∧ Same H H1 ∧ pwB ts ns = pwB ts (ns.drop i)) ⟨none, none, none, rfl, Same.refl _, rfl⟩ (fun i σ H1 _ ⟨_, _, _, _, s1, _⟩ => SqL.of (s1 _ _ el)) ?_ ?_⟩
  · rintro i x σ H1 t hi ⟨v1, v2, v3, rfl, s1, hpw⟩ ht
    obtain ⟨n, hn, rfl⟩ : ∃ n, ns[i]? = some n ∧ x = .int n := by
      rw [List.getElem?_map] at hi
      cases c : ns[i]? with
      | none => rw [c] at hi; cases hi
      | some n => rw [c] at hi; cases hi; exact ⟨n, rfl, rfl⟩
    have hil : i < ns.length := (List.getElem?_eq_some_iff.mp hn).1
    have s2 : Same H (upd H1 t (.tup [.int i, .int n])) := s1.trans (same_new ht _)
    rw [pwB_drop hn] at hpw
    simp_arith [upd_same]
    generalize upd H1 t (.tup [.int i, .int n]) = H2 at s2
    have nm : n ∈ ps.map (·.1) := hin n (List.mem_of_getElem? hn)
    refine tFor_hideI (ι := Addr × Hp) (fun i0 => Itl K i0.1) (fun i0 => i0.2) (fun i0 => Same H i0.2 ∧ i0.2 i0.1 = some (.lst ((ns.drop (i + 1)).map V.int))) (fun R' hR' => ?_) (fun i0 ok0 => ?_)
    · unfold iList
      simp_arith [s2 _ _ el]
      intro p hp
      rw [show ((i : Int) + 1) = ((i + 1 : Nat) : Int) by omega, cut_fromI (by omega)]
      exact ⟨p, rfl, ⟨_, SqL.of upd_same⟩, hR' (p, _) ⟨s2.trans (same_new hp _), upd_same⟩⟩
    obtain ⟨lp, H3⟩ := i0
    obtain ⟨s3, ep⟩ := ok0
    dsimp only at s3 ep
    generalize hrs : ns.drop (i + 1) = rs at ep hpw
    refine for_list (K := K) (a := lp) (xs := rs.map V.int) (fun j σ H4 => ∃ v3, σ = [some (.ref d), some (.ref l), some (.int i), some (.int n), v3] ∧ Same H3 H4 ∧ (rs.take j).all (fun m => decide (n < m) && decide (m ∈ nearL ts n)) = true) ⟨_, rfl, Same.refl _, rfl⟩ (fun j σ H4 _ ⟨_, _, s4, _⟩ => SqL.of (s4 _ _ ep)) ?_ ?_
    · rintro j x σ H4 hj ⟨v3', rfl, s4, hall⟩
      obtain ⟨m, hm, rfl⟩ : ∃ m, rs[j]? = some m ∧ x = .int m := by
        rw [List.getElem?_map] at hj
        cases c : rs[j]? with
        | none => rw [c] at hj; cases hj
        | some n => rw [c] at hj; cases hj; exact ⟨n, rfl, rfl⟩
      have mm : m ∈ rs := List.mem_of_getElem? hm
      have s34 := s3.trans s4
      obtain ⟨as, a, e1, e2, e3⟩ := (nr.same s34).get hnd nm
      have ok : pwB ts ns = true → (decide (n < m) && decide (m ∈ nearL ts n)) = true := fun z => by
        rw [hpw, Bool.and_eq_true, List.all_eq_true] at z
        exact z.1 m mm
      simp_arith [e1, e2, e3, seqOf, inV_ints, flat_ints, flatV]
      have bad : (decide (n < m) && decide (m ∈ nearL ts n)) = false → allB ts ns = false := fun z => by
        unfold allB
        rw [Bool.and_eq_false_iff]
        refine .inl (Bool.eq_false_iff.mpr fun q => ?_)
        rw [ok q] at z
        cases z
      by_cases c1 : m ≤ n
      · rw [decide_eq_true c1]
        walk_at "RD"
        have := bad (by rw [decide_eq_false (by omega), Bool.false_and])
        rw [this] at h
        exact h _ s34
      · rw [decide_eq_false c1]
        walk_at "RD"
        by_cases c2 : m ∈ nearL ts n
        · rw [decide_eq_true c2]
          walk_at "RD"
          refine ⟨_, rfl, s4, ?_⟩
          rw [take_get hm, List.all_append, hall]
          simp only [List.all_cons, List.all_nil, Bool.and_true, Bool.true_and]
          rw [decide_eq_true (show n < m by omega), decide_eq_true c2]
          rfl
        · rw [decide_eq_false c2]
          walk_at "RD"
          have := bad (by rw [decide_eq_false c2, Bool.and_false])
          rw [this] at h
          exact h _ s34
    · rintro σ H4 ⟨v3', rfl, s4, hall⟩
      rw [List.length_map, List.take_length] at hall
      refine ⟨_, _, _, rfl, s3.trans s4, ?_⟩
      rw [hpw, hall, Bool.true_and]
  · rintro σ H1 ⟨v1, v2, v3, rfl, s1, hpw⟩
    rw [List.length_map, List.drop_length] at hpw
    try subst hR
    simp_arith [seqOf, s1 _ _ el, List.length_map]
    have e : allB ts ns = decide ((2 : Int) ≤ (ns.length : Int)) := by
      unfold allB
      rw [hpw, show pwB ts [] = true from rfl, Bool.true_and]
      by_cases c : 2 ≤ ns.length
      · rw [decide_eq_true c, decide_eq_true (by omega)]
      · rw [decide_eq_false c, decide_eq_false (by omega)]
    rw [e] at h
    exact h _ s1
theorem ok_is_ring {f : Addr} {fd : FuncData}  (B : Blt mg) (D : DefAt K mg "is_ring" (top 27) ["nears", "places"] f fd) : FnOk P w K mg base CX0 1 f fd ["nears", "places"] spIsRing := by
  have sc : FnScope ["nears", "places", "behind"] ["nears", "places"] (defScope (top 27)) := ⟨rfl, rfl, rfl, by decide +kernel, rfl, by decide +kernel, by decide +kernel⟩
  refine D.F.ok sc (fun vs H Q E h => ?_) (fun cdv A outer s H vs Q E hr h => ?_)
  · obtain ⟨d, l, ps, ts, ns, rfl, _⟩ := h
    rfl
  obtain ⟨d, l, ps, ts, ns, rfl, nr, hnd, el, hin, hl9, h⟩ := h
  have hu := hu_of hr
  have hu0 : _ < PySem.cLine := Nat.lt_of_succ_lt hu
  refine ⟨_, (pss_cons (ps_if (PW.pt (pw_or (qt_cmp q_lt (pe_callB q_len rfl B.len PySem.boot_len (pa_cons (qv 1) pa_nil)) pe_int (nomark _)) (pw_or (qt_cmp q_eq (pe_op q_mod (pe_callB q_len rfl B.len PySem.boot_len (pa_cons (qv 1) pa_nil)) pe_int) pe_int (nomark _)) (pw_or1 (qt_cmp q_ne (pe_callB q_lenSet rfl B.len PySem.boot_len (pa_cons (pe_callTy (q_setOf hr.hd) rfl B.set PyProof.Rows.boot_set (pa_cons (qv 1) pa_nil)) pa_nil)) (pe_callB q_len rfl B.len PySem.boot_len (pa_cons (qv 1) pa_nil)) (nomark _)))))) (pss_one (ps_ret pe_bl)) pss_nil) (pss_cons (ps_set (i := 2) sc.nd rfl (Or.inl rfl) (pe_op q_cat (pe_slice q_slL (qv 1) (qo_some pe_int) po_none) (pe_slice q_slL (qv 1) po_none (qo_some pe_int)))) (pss_one (ps_ret (pe_callB (q_all rfl) rfl B.all PyProof.Rows.boot_all (pa_cons (pe_comp (CpScope.of (N := ["one", "other", "nears"]) (src := [none, none, some 0]) (by rfl)) rfl (pi_zipE rfl B.zip (pa_cons (qv 1) (pa_cons (qv 2) pa_nil))) (fun _ _ _ _ => (qg_tup (n := 2) rfl (qgs_cons (pg_name (i := 0) (nodupB_ok (l := ["one", "other", "nears"]) (by rfl)) rfl (Or.inl rfl)) (qgs_cons (pg_name (i := 1) (nodupB_ok (l := ["one", "other", "nears"]) (by rfl)) rfl (Or.inl rfl)) qgs_nil)))) (fun _ _ _ _ => pif_nil) (fun _ _ _ _ => (pe_cmpR q_inL (qv 1) (q_dget hu (qv 2) (qv 0) (fun _ _ => rfl)) (by with_unfolding_all rfl)))) pa_nil)))))), ?_⟩
  refine seq_hide fun R hR => ?_
  have hodd : ((ns.length : Int) % 2 = 0) ↔ ¬ (ns.length % 2 = 1) := by omega
  have out : (decide (3 ≤ ns.length) && decide (ns.length % 2 = 1) && decide ns.Nodup) = false → ringB ts ns = false := fun z => by unfold ringB; rw [z, Bool.false_and]
  simp_arith [seqOf, el, List.length_map]
  by_cases c1 : ns.length < 3
  · rw [decide_eq_true (show (ns.length : Int) < 3 by omega)]
    walk_at "RD"
    rw [out (by rw [decide_eq_false (by omega), Bool.false_and, Bool.false_and])] at h
    exact h H (Same.refl _)
  rw [decide_eq_false (show ¬ (ns.length : Int) < 3 by omega)]
  walk_at "RD"
  refine ⟨by decide, ?_⟩
  rcases (Classical.em (ns.length % 2 = 1)).symm with c2 | c2
  · rw [decide_eq_true (hodd.mpr c2)]
    walk_at "RD"
    rw [out (by rw [decide_eq_false c2, Bool.and_false, Bool.false_and])] at h
    exact h H (Same.refl _)
  rw [decide_eq_false (fun z => hodd.mp z c2)]
  walk_at "RD"
  refine ⟨l, ns, rfl, el, by omega, fun p hp => ?_⟩
  have s1 := same_new hp (.set (fun k => (PyProof.Rows.firstMet (fun i => ns.getD i 0) ns.length).any (· == k)) (dedN ns))
  have es : upd H p (.set (fun k => (PyProof.Rows.firstMet (fun i => ns.getD i 0) ns.length).any (· == k)) (dedN ns)) p = some (.set (fun k => (PyProof.Rows.firstMet (fun i => ns.getD i 0) ns.length).any (· == k)) (dedN ns)) := upd_same
  generalize upd H p (.set (fun k => (PyProof.Rows.firstMet (fun i => ns.getD i 0) ns.length).any (· == k)) (dedN ns)) = H1 at s1 es
  simp_arith [fLenSet, es, seqOf, s1 _ _ el, List.length_map]
  rcases (Classical.em ns.Nodup).symm with c3 | c3
  · have hne : ¬ (dedN ns = ns.length) := fun z => c3 ((ded_iff ns).mp z)
    rw [decide_eq_false (show ¬ ((dedN ns : Int) = (ns.length : Int)) by omega)]
    walk_at "RD"
    rw [out (by rw [decide_eq_false c3, Bool.and_false])] at h
    exact h H1 s1
  rw [decide_eq_true (show ((dedN ns : Int) = (ns.length : Int)) by rw [(ded_iff ns).mpr c3])]
  walk_at "RD"
  subst hR
  refine seq_hide fun R hR => ?_
  simp_arith [s1 _ _ el]
  intro p2 hp2
  rw [show (1 : Int) = ((1 : Nat) : Int) from rfl, cut_fromI (by omega)]
  have s2 := s1.trans (same_new hp2 (.lst ((ns.drop 1).map V.int)))
  have e2 : upd H1 p2 (.lst ((ns.drop 1).map V.int)) p2 = some (.lst ((ns.drop 1).map V.int)) := upd_same
  generalize upd H1 p2 (.lst ((ns.drop 1).map V.int)) = H2 at s2 e2
  simp_arith [s2 _ _ el]
  intro p3 hp3
  rw [cut_toI (by omega)]
  have s3 := s2.trans (same_new hp3 (.lst ((ns.take 1).map V.int)))
  have e3 : upd H2 p3 (.lst ((ns.take 1).map V.int)) p3 = some (.lst ((ns.take 1).map V.int)) := upd_same
  have e2' := same_new hp3 (.lst ((ns.take 1).map V.int)) _ _ e2
  generalize upd H2 p3 (.lst ((ns.take 1).map V.int)) = H3 at s3 e3 e2'
  simp_arith [e2', e3]
  refine ⟨by rw [List.length_map, List.length_map, List.length_take, List.length_drop]; exact szl (by omega), fun p4 hp4 => ?_⟩
  rw [← List.map_append]
  generalize hbs : ns.drop 1 ++ ns.take 1 = bs
  have hbl : bs.length = ns.length := by rw [← hbs, List.length_append, List.length_take, List.length_drop]; omega
  have s4 := s3.trans (same_new hp4 (.lst (bs.map V.int)))
  have e4 : upd H3 p4 (.lst (bs.map V.int)) p4 = some (.lst (bs.map V.int)) := upd_same
  generalize upd H3 p4 (.lst (bs.map V.int)) = H4 at s4 e4
  walk_at "RD"
  subst hR
  walk_at "RD"
  refine tComp_hide (Itz true K l p4) H4 (fun R hR => ?_) (fun z hz0 => comp_run ns.length (fun i σ' Hc => ∃ w1 w2, σ' = [w1, w2, some (.ref d)] ∧ Same H4 Hc ∧ Hc z = some (.lst ((((ns.zip bs).take i).map fun p => decide (p.2 ∈ nearL ts p.1)).map V.bl))) ⟨none, none, rfl, same_new hz0 _, upd_same⟩ ?_ ?_)
  · unfold iZipE
    walk_at "RD"
    exact ⟨true, l, p4, rfl, ⟨_, SqL.of (s4 _ _ el)⟩, ⟨_, SqL.of e4⟩, hR⟩
  · rintro i σ' Hc hi ⟨w1, w2, rfl, s5, ez⟩
    have x1 : (ns.map V.int)[i]? = some (.int ns[i]) := by rw [List.getElem?_map, List.getElem?_eq_getElem hi]; rfl
    have x2 : (bs.map V.int)[i]? = some (.int (bs[i]'(by omega))) := by rw [List.getElem?_map, List.getElem?_eq_getElem (by omega)]; rfl
    have hz : (ns.zip bs)[i]? = some (ns[i], bs[i]'(by omega)) := by
      rw [List.getElem?_zip_eq_some]
      exact ⟨List.getElem?_eq_getElem hi, List.getElem?_eq_getElem (by omega)⟩
    have nm : ns[i] ∈ ps.map (·.1) := hin _ (List.getElem_mem hi)
    generalize ns[i] = n1 at x1 hz nm
    generalize bs[i]'(by omega) = n2 at x2 hz
    have z1 : SqB true K Hc l (ns.map V.int) := SqL.of (s5 _ _ (s4 _ _ el))
    have z2 : SqB true K Hc p4 (bs.map V.int) := SqL.of (s5 _ _ e4)
    refine ⟨⟨_, _, _, _, z1, z2, x1, x2⟩, ?_⟩
    rintro x H' ⟨t, y1, y2, ht, rfl, rfl, g1, g2⟩
    have E1 : V.int n1 = y1 := Option.some.inj (x1.symm.trans (g1 _ z1))
    have E2 : V.int n2 = y2 := Option.some.inj (x2.symm.trans (g2 _ z2))
    subst E1 E2
    have s6 := s5.trans (same_new ht (.tup [.int n1, .int n2]))
    have e6 : upd Hc t (.tup [.int n1, .int n2]) t = some (.tup [.int n1, .int n2]) := upd_same
    have ez6 := same_new ht (.tup [.int n1, .int n2]) _ _ ez
    generalize upd Hc t (.tup [.int n1, .int n2]) = H6 at s6 e6 ez6
    obtain ⟨as, a, q1, q2, q3⟩ := (nr.same (s4.trans s6)).get hnd nm
    simp_arith [e6, q1, q2, q3, seqOf, inV_ints, flat_ints, flatV]
    refine ⟨_, ez6, ?_, _, _, rfl, same_upd s6 hz0, ?_⟩
    · rw [List.length_map, List.length_map, List.length_take]
      exact szl' (by omega)
    · rw [take_get hz, List.map_append, List.map_append]
      first | rfl | exact upd_same
  · rintro σ' Hc ⟨w1, w2, rfl, s5, ez⟩
    refine ⟨⟨_, _, SqL.of (s5 _ _ (s4 _ _ el)), SqL.of (s5 _ _ e4), .inl (by rw [List.length_map]; exact Nat.le_refl _)⟩, ?_⟩
    rw [List.take_of_length_le (by rw [List.length_zip]; omega)] at ez
    simp_arith [ez]
    refine ⟨_, rfl, ?_⟩
    have e : (((ns.zip bs).map fun p => decide (p.2 ∈ nearL ts p.1)).all id) = ringB ts ns := by
      unfold ringB
      rw [decide_eq_true (show 3 ≤ ns.length by omega), decide_eq_true c2, decide_eq_true c3, hbs, List.all_map]
      rfl
    rw [e]
    exact h _ (s4.trans s5)
end
end My
namespace My
open PySem L2
section
variable {P : Program} {w : World} {K : PySem.W.Frag} {mg : Str → Option Value} {base : Heap} {c1 c2 c3 c4 : Tok} {C_NoWeb f_NoWeb : Addr} {dI : FuncData}
def intsD : List Dt → List Int
  | .int n :: r => n :: intsD r
  | _ :: r => intsD r
  | [] => []
theorem intsD_map : ∀ (ns : List Int), intsD (ns.map Dt.int) = ns
  | [] => rfl
  | n :: r => by rw [List.map_cons, intsD, intsD_map r]
def isPlP (ps : List (Int × Int)) : Dt → Bool
  | .int n => decide (n ∈ ps.map (·.1))
  | _ => false
theorem isPl_kz {ps : List (Int × Int)} {as : List Addr} (hl : as.length = ps.length) : isPl (kz ps as) = isPlP ps := by
  funext d
  cases d with
  | int n => exact kz_has hl
  | _ => rfl
def rowT (ps ts : List (Int × Int)) : Dt → Dt → Dt → Bool
  | .str w, .lst ds, .int a => decide (1 ≤ a) && (ds.all (isPlP ps) && (if w = (("all" : String) : Str) then allB ts (intsD ds) else decide (w = (("ring" : String) : Str)) && ringB ts (intsD ds)))
  | _, _, _ => false
def rowB (ps ts : List (Int × Int)) : Dt → Bool
  | .tup [a, b, c] => rowT ps ts a b c
  | _ => false
theorem all_ints {ps : List (Int × Int)} : ∀ {ds : List Dt}, ds.all (isPlP ps) = true → ∃ ns : List Int, ds = ns.map Dt.int ∧ ∀ n ∈ ns, n ∈ ps.map (·.1)
  | [], _ => ⟨[], rfl, fun _ h => by cases h⟩
  | d :: ds, h => by
    rw [List.all_cons, Bool.and_eq_true] at h
    obtain ⟨ns, rfl, q⟩ := all_ints h.2
    cases d with
    | int n => exact ⟨n :: ns, rfl, fun m hm => by
        rcases List.mem_cons.mp hm with rfl | hm
        · exact of_decide_eq_true h.1
        · exact q m hm⟩
    | _ => cases h.1
theorem reps_ints {H : Hp} : ∀ {ns : List Int} {xs : List V}, Reps H (ns.map Dt.int) xs → xs = ns.map V.int
  | [], _, h => by rw [List.map_nil, Reps] at h; subst h; rfl
  | n :: ns, _, h => by
    rw [List.map_cons, Reps] at h
    obtain ⟨v, r, rfl, h1, h2⟩ := h
    rw [Rep] at h1
    subst h1
    rw [reps_ints h2]
    rfl
theorem rowB_len {ps ts : List (Int × Int)} {ds : List Dt} (h : ds.length ≠ 3) : rowB ps ts (.tup ds) = false := by
  match ds, h with
  | [], _ => rfl
  | [_], _ => rfl
  | [_, _], _ => rfl
  | [_, _, _], h => exact absurd rfl h
  | _ :: _ :: _ :: _ :: _, _ => rfl
def spIsRow : Sp := fun vs H Q _ => ∃ nd ps ts x d, vs = [.ref nd, x] ∧ NrAt H nd ps ts ∧ (ps.map (·.1)).Nodup ∧ Rep H d x ∧ (∀ a b c, d = .tup [a, .lst b, c] → b.length ≤ 900) ∧ ∀ H', Same H H' → Q (.bl (rowB ps ts d)) H'
theorem ok_is_row {f : Addr} {fd : FuncData} {f_is_tuple_of : Addr} {d_is_tuple_of : FuncData} {f_is_whole : Addr} {d_is_whole : FuncData} {f_are_places : Addr} {d_are_places : FuncData} {f_is_all : Addr} {d_is_all : FuncData} {f_is_ring : Addr} {d_is_ring : FuncData} (B : Blt mg) (D : DefAt K mg "is_row" (top 28) ["nears", "thing"] f fd) (D_is_tuple_of : DefAt K mg "is_tuple_of" (top 8) ["thing", "many"] f_is_tuple_of d_is_tuple_of) (G_is_tuple_of : FnOk P w K mg base CX0 1 f_is_tuple_of d_is_tuple_of ["thing", "many"] spTupleOf) (D_is_whole : DefAt K mg "is_whole" (top 7) ["thing"] f_is_whole d_is_whole) (G_is_whole : FnOk P w K mg base CX0 1 f_is_whole d_is_whole ["thing"] spWhole) (D_are_places : DefAt K mg "are_places" (top 22) ["prices", "things"] f_are_places d_are_places) (G_are_places : FnOk P w K mg base CX0 3 f_are_places d_are_places ["prices", "things"] spAreP) (D_is_all : DefAt K mg "is_all" (top 26) ["nears", "places"] f_is_all d_is_all) (G_is_all : FnOk P w K mg base CX0 1 f_is_all d_is_all ["nears", "places"] spIsAll) (D_is_ring : DefAt K mg "is_ring" (top 27) ["nears", "places"] f_is_ring d_is_ring) (G_is_ring : FnOk P w K mg base CX0 1 f_is_ring d_is_ring ["nears", "places"] spIsRing) : FnOk P w K mg base CX0 4 f fd ["nears", "thing"] spIsRow := by
  have sc : FnScope ["nears", "thing"] ["nears", "thing"] (defScope (top 28)) := ⟨rfl, rfl, rfl, by decide +kernel, rfl, by decide +kernel, by decide +kernel⟩
  refine D.F.ok sc (fun vs H Q E h => ?_) (fun cdv A outer s H vs Q E hr h => ?_)
  · obtain ⟨nd, ps, ts, x, d, rfl, _⟩ := h
    rfl
  obtain ⟨nd, ps, ts, x, d, rfl, nr, hnd, hd, h9, h⟩ := h
  have hu := hu_of hr
  have hu0 : _ < PySem.cLine := Nat.lt_of_succ_lt hu
  refine ⟨_, (pss_cons (ps_if (PW.pt (pw_or (pt_not (qt_val (pe_call G_is_tuple_of (hr.mono (by decide)) rfl D_is_tuple_of.m D_is_tuple_of.F.kp D_is_tuple_of.b .nil pass0 (pa_cons (qv 1) (pa_cons pe_int pa_nil))))) (pw_or (pt_not (qt_val (pe_callB (q_isi .str) rfl B.isinstance PyProof.Rows.boot_isinstance (pa_cons (pe_ix q_ix (qv 1) pe_int (fun _ _ => rfl)) (pa_cons (pe_bltn (v := .ty "str") rfl B.str PyProof.Rows.boot_str rfl) pa_nil))))) (pw_or1 (pt_not (qt_val (pe_callB (q_isi .lst) rfl B.isinstance PyProof.Rows.boot_isinstance (pa_cons (pe_ix q_ix (qv 1) pe_int (fun _ _ => rfl)) (pa_cons (pe_bltn (v := .ty "list") rfl B.list PyProof.Rows.boot_list rfl) pa_nil))))))))) (pss_one (ps_ret pe_bl)) pss_nil) (pss_cons (ps_if (PW.pt (pw_or (pt_not (qt_val (pe_call G_is_whole (hr.mono (by decide)) rfl D_is_whole.m D_is_whole.F.kp D_is_whole.b .nil pass0 (pa_cons (pe_ix q_ix (qv 1) pe_int (fun _ _ => rfl)) pa_nil)))) (pw_or1 (qt_cmp q_lt (pe_ix q_ix (qv 1) pe_int (fun _ _ => rfl)) pe_int (nomark _))))) (pss_one (ps_ret pe_bl)) pss_nil) (pss_cons (ps_if (pt_not (qt_val (pe_call G_are_places (hr.mono (by decide)) rfl D_are_places.m D_are_places.F.kp D_are_places.b .nil pass0 (pa_cons (qv 0) (pa_cons (pe_ix q_ix (qv 1) pe_int (fun _ _ => rfl)) pa_nil))))) (pss_one (ps_ret pe_bl)) pss_nil) (pss_cons (ps_if (qt_cmp q_eq (pe_ix q_ix (qv 1) pe_int (fun _ _ => rfl)) pe_str (nomark _)) (pss_one (ps_ret (pe_call G_is_all (hr.mono (by decide)) rfl D_is_all.m D_is_all.F.kp D_is_all.b .nil pass0 (pa_cons (qv 0) (pa_cons (pe_ix q_ix (qv 1) pe_int (fun _ _ => rfl)) pa_nil))))) pss_nil) (pss_one (ps_ret (q_and (pe_cmpR q_eq (pe_ix q_ix (qv 1) pe_int (fun _ _ => rfl)) pe_str (nomark _)) (pe_one (pe_call G_is_ring (hr.mono (by decide)) rfl D_is_ring.m D_is_ring.F.kp D_is_ring.b .nil pass0 (pa_cons (qv 0) (pa_cons (pe_ix q_ix (qv 1) pe_int (fun _ _ => rfl)) pa_nil))))))))))), ?_⟩
  refine seq_hide fun R hR => ?_
  walk_at "RD"
  refine ⟨x, d, 3, rfl, hd, ?_⟩
  have no : tupB 3 d = false → rowB ps ts d = false := fun z => by
    cases d with
    | tup ds =>
      refine rowB_len fun e => ?_
      have : decide ((ds.length : Int) = 3) = true := decide_eq_true (by omega)
      rw [show tupB 3 (.tup ds) = decide ((ds.length : Int) = 3) from rfl, this] at z
      cases z
    | _ => rfl
  cases htb : tupB 3 d with
  | false =>
    walk_at "RD"
    rw [no htb] at h
    exact h H (Same.refl _)
  | true =>
  clear no
  obtain ⟨d0, d1, d2, rfl⟩ : ∃ d0 d1 d2, d = .tup [d0, d1, d2] := by
    cases d with
    | tup ds =>
      have e : (ds.length : Int) = 3 := of_decide_eq_true htb
      match ds, e with
      | [a, b, c], _ => exact ⟨a, b, c, rfl⟩
      | [], e => simp at e
      | [_], e => simp at e
      | [_, _], e => simp at e
      | _ :: _ :: _ :: _ :: _, e => simp at e; omega
    | _ => cases htb
  rw [Rep] at hd
  obtain ⟨a, vs, rfl, ea, rs⟩ := hd
  rw [Reps] at rs
  obtain ⟨v0, r0, rfl, h0, rs⟩ := rs
  rw [Reps] at rs
  obtain ⟨v1, r1, rfl, h1, rs⟩ := rs
  rw [Reps] at rs
  obtain ⟨v2, r2, rfl, h2, rs⟩ := rs
  rw [Reps] at rs
  subst rs
  have k0 := rep_kd h0
  have k1 := rep_kd h1
  have k2 := rep_kd h2
  have fin : rowB ps ts (.tup [d0, d1, d2]) = false → Q (.bl false) H := fun z => by
    have := h H (Same.refl _)
    rw [z] at this
    exact this
  have at2 : ∀ x y z : V, atI [x, y, z] 2 = some z := fun x y z => rfl
  have at30 : ∀ x y z : V, atI [x, y, z] 0 = some x := fun x y z => rfl
  have at31 : ∀ x y z : V, atI [x, y, z] 1 = some y := fun x y z => rfl
  simp_arith [seqOf, ea, at30, k0]
  cases d0 with
  | str w =>
    simp_arith [kdD, isi, seqOf, ea, at31, k1]
    cases d1 with
    | lst ds =>
      simp_arith [kdD, isi]
      subst hR
      refine seq_hide fun R hR => ?_
      simp_arith [seqOf, ea, at2]
      refine ⟨_, _, rfl, k2, ?_⟩
      cases d2 with
      | int n =>
        have h0' : v0 = .str w := by simpa [Rep] using h0
        have h2' : v2 = .int n := by simpa [Rep] using h2
        subst h0' h2'
        rw [Rep] at h1
        obtain ⟨l, xs, rfl, el, rx⟩ := h1
        simp_arith [wholeK, kdD, seqOf, ea, at2]
        by_cases c : n < 1
        · rw [decide_eq_true c]
          walk_at "RD"
          refine fin ?_
          unfold rowB rowT
          dsimp only
          rw [decide_eq_false (by omega), Bool.false_and]
        · rw [decide_eq_false c]
          walk_at "RD"
          subst hR
          refine seq_hide fun R hR => ?_
          simp_arith [seqOf, ea, at31]
          obtain ⟨as, e1, hla, nrs⟩ := id nr
          refine ⟨nd, kz ps as, l, ds, xs, rfl, e1, el, rx, h9 _ _ _ rfl, fun H1 s1 => ?_⟩
          rw [isPl_kz hla]
          have hrow : rowB ps ts (.tup [.str w, .lst ds, .int n]) = (ds.all (isPlP ps) && (if w = (("all" : String) : Str) then allB ts (intsD ds) else decide (w = (("ring" : String) : Str)) && ringB ts (intsD ds))) := by
            unfold rowB rowT
            dsimp only
            rw [decide_eq_true (show (1 : Int) ≤ n by omega), Bool.true_and]
          cases ca : ds.all (isPlP ps) with
          | false =>
            walk_at "RD"
            have := h H1 s1
            rw [hrow, ca, Bool.false_and] at this
            exact this
          | true =>
            rw [ca, Bool.true_and] at hrow
            obtain ⟨ns, rfl, hin⟩ := all_ints ca
            have exs := reps_ints rx
            subst exs
            rw [intsD_map] at hrow
            rw [hrow] at h
            have hl9 : ns.length ≤ 900 := by simpa using h9 _ _ _ rfl
            walk_at "RD"
            subst hR
            refine seq_hide fun R hR => ?_
            simp_arith [seqOf, s1 _ _ ea, at30, at31]
            by_cases cw : w = (("all" : String) : Str)
            · rw [decide_eq_true cw]
              rw [if_pos cw] at h
              walk_at "RD"
              exact ⟨nd, l, ps, ts, ns, rfl, nr.same s1, hnd, s1 _ _ el, hin, hl9, fun H2 s2 => h H2 (s1.trans s2)⟩
            · rw [decide_eq_false cw]
              rw [if_neg cw] at h
              walk_at "RD"
              subst hR
              simp_arith [seqOf, s1 _ _ ea, at30, at31]
              by_cases cr : w = (("ring" : String) : Str)
              · rw [decide_eq_true cr] at h ⊢
                rw [Bool.true_and] at h
                walk_at "RD"
                exact ⟨nd, l, ps, ts, ns, rfl, nr.same s1, hnd, s1 _ _ el, hin, hl9, fun H2 s2 => h H2 (s1.trans s2)⟩
              · rw [decide_eq_false cr] at h ⊢
                rw [Bool.false_and] at h
                walk_at "RD"
                exact h H1 s1
      | _ =>
        simp_arith [wholeK, kdD]
        exact fin rfl
    | _ =>
      simp_arith [kdD, isi]
      exact fin rfl
  | _ =>
    simp_arith [kdD, isi]
    exact fin rfl
end
end My
namespace My
open PySem L2
section
variable {P : Program} {w : World} {K : PySem.W.Frag} {mg : Str → Option Value} {base : Heap} {c1 c2 c3 c4 : Tok} {C_NoWeb f_NoWeb : Addr} {dI : FuncData}
theorem szg {n : Nat} (h : n ≤ 1000000) : n < sizeLine := Nat.lt_of_le_of_lt h (by decide)
theorem drop_get' {α : Type} {l : List α} {i : Nat} {x : α} (h : l[i]? = some x) : l.drop i = x :: l.drop (i + 1) := by
  obtain ⟨hi, e⟩ := List.getElem?_eq_some_iff.mp h
  rw [List.drop_eq_getElem_cons hi, e]
abbrev Row := Str × List Int × Int
def rowD (r : Row) : Dt := .tup [.str r.1, .lst (r.2.1.map Dt.int), .int r.2.2]
def paidL (rows : List Row) (n : Int) : Int := (rows.map fun r => r.2.2 * (r.2.1.count n : Int)).sum
theorem paidL_take {rows : List Row} {i : Nat} {r : Row} (h : rows[i]? = some r) (n : Int) : paidL (rows.take (i + 1)) n = paidL (rows.take i) n + r.2.2 * (r.2.1.count n : Int) := by
  unfold paidL
  rw [List.take_succ, h, List.map_append, List.sum_append]
  simp
def spPaidBy : Sp := fun vs H Q _ => ∃ l xs rows, vs = [.ref l] ∧ H l = some (.lst xs) ∧ Reps H (rows.map rowD) xs ∧ rows.length ≤ 900 ∧ (∀ r ∈ rows, r.2.1.length ≤ 900) ∧ ∀ d kvs H', H d = none → Same H H' → H' d = some (.dK kvs) → (∀ n, (valV kvs (Sum.inl n : Key)).getD (.int 0) = .int (paidL rows n)) → Q (.ref d) H'
def rowOf : Dt → Option Row
  | .tup [.str w, .lst ds, .int a] => some (w, intsD ds, a)
  | _ => none
def rowBad (ps ts : List (Int × Int)) : Nat → List Dt → Option Nat
  | _, [] => none
  | k, d :: r => if rowB ps ts d = true then rowBad ps ts (k + 1) r else some k
def noRows (ps ts : List (Int × Int)) : Dt → Option (Option Nat)
  | .lst ds => if ds.length ≤ 200 then (rowBad ps ts 0 ds).map some else some none
  | _ => some none
def rowsD : Dt → List Row
  | .lst ds => ds.filterMap rowOf
  | _ => []
def overP (ps : List (Int × Int)) (rows : List Row) : Option Int := (ps.find? fun p => decide (2 * p.2 < paidL rows p.1)).map (·.1)
def RowsFit (d : Dt) : Prop := ∀ ds, d = .lst ds → ∀ r ∈ ds, ∀ a b c, r = .tup [a, .lst b, c] → b.length ≤ 900
theorem rowB_row {ps ts : List (Int × Int)} {d : Dt} (h : rowB ps ts d = true) : ∃ r : Row, d = rowD r ∧ rowOf d = some r ∧ 1 ≤ r.2.2 ∧ (∀ n ∈ r.2.1, n ∈ ps.map (·.1)) := by
  unfold rowB at h
  split at h
  · rename_i a b c
    unfold rowT at h
    split at h
    · rename_i w ds n
      simp only [Bool.and_eq_true, decide_eq_true_eq] at h
      obtain ⟨h1, h2, _⟩ := h
      obtain ⟨ns, rfl, hin⟩ := all_ints h2
      refine ⟨(w, ns, n), rfl, ?_, h1, hin⟩
      show some (w, intsD (ns.map Dt.int), n) = _
      rw [intsD_map]
    · cases h
  · cases h
theorem rowBad_none {ps ts : List (Int × Int)} : ∀ {ds : List Dt} {k : Nat}, rowBad ps ts k ds = none → ds = (ds.filterMap rowOf).map rowD ∧ ∀ r ∈ ds.filterMap rowOf, 1 ≤ r.2.2 ∧ ∀ n ∈ r.2.1, n ∈ ps.map (·.1)
  | [], _, _ => ⟨rfl, fun _ h => by cases h⟩
  | d :: ds, k, h => by
    rw [rowBad] at h
    by_cases c : rowB ps ts d = true
    · rw [if_pos c] at h
      obtain ⟨e, q⟩ := rowBad_none h
      obtain ⟨r, e1, e2, e3, e4⟩ := rowB_row c
      rw [List.filterMap_cons, e2]
      dsimp only
      rw [List.map_cons, ← e, ← e1]
      refine ⟨rfl, fun r' hr => ?_⟩
      rcases List.mem_cons.mp hr with rfl | hr
      · exact ⟨e3, e4⟩
      · exact q r' hr
    · rw [if_neg c] at h
      cases h
def RefW (C : Addr) (H : Hp) (E : XK) (d : Dt) : Prop := ∀ w n, noWebD d = some (w, n) → Ref C H E w n
def Ref1 (C : Addr) (H : Hp) (E : XK) (f : Str) (y : V) : Prop := ∀ dx H', H dx = none → Same H H' → H' dx = some (xdO dx [(f, y)]) → E (.ref C) (some dx) H'
theorem Ref1.back {C : Addr} {H H1 : Hp} {E : XK} {f : Str} {y : V} (h : Ref1 C H E f y) (s : Same H H1) : Ref1 C H1 E f y := fun dx H' hd s' e => h dx H' (s.free hd) (s.trans s') e
def spLookRows (CW CR CO : Addr) : Sp := fun vs H Q E => ∃ v dw u, vs = [v, u] ∧ Rep H dw v ∧ RefW CW H E dw ∧ ∀ ps ts, dw = webD ps ts → WebOk ps ts → ∃ d, Rep H d u ∧ RowsFit d ∧
  (∀ n, noRows ps ts d = some n → Ref1 CR H E "number" (nV n)) ∧ (noRows ps ts d = none → (∀ p, overP ps (rowsD d) = some p → Ref1 CO H E "place" (.int p)) ∧ (overP ps (rowsD d) = none → ∀ H', Same H H' → Q .non H'))
theorem ok_init_NoRows {f : Addr} {fd : FuncData} {C_NoRows f_NoRows C_TouchError : Addr} (DI : InitAt K "NoRows.__init__" (meth 3 0) ["self", "number"] f fd) (X_NoRows : ClsX K mg "NoRows" C_NoRows f_NoRows) (m_TouchError : mg "TouchError" = some (.ref C_TouchError)) (xi : XI K C_TouchError "ValueError.__init__")
    (hf : PySem.W.findIn K (.ref C_NoRows) "number" = some none) : FnOk P w K mg base CX0 1 f fd ["self", "number"] (spInit1 C_NoRows "number") := by
  have sc : FnScope ["self", "number"] ["self", "number"] (defScope (meth 3 0)) := ⟨rfl, rfl, rfl, by decide +kernel, rfl, by decide +kernel, by decide +kernel⟩
  refine DI.F.ok sc (fun vs H Q E h => ?_) (fun cdv A outer s H vs Q E hr h => ?_)
  · obtain ⟨a, y, rfl, _⟩ := h
    rfl
  obtain ⟨a, y, rfl, ea, h⟩ := h
  refine ⟨_, (pss_cons (ps_expr (pe_xinit PySem.F.excBase_ValueError xi X_NoRows.xin rfl m_TouchError (pa_cons (qv 0) (pa_cons (qv 1) pa_nil)))) (pss_one (ps_xfld X_NoRows.a hf (qv 0) (qv 1) rfl))), ?_⟩
  simp only [tCallX, fInsert, fLeT, fIsB, tSeq, tNext, tDrop, tRet, tRetN, tIfS, tAsg, gName, fAug, tOp, tUn, tC, fVar, fI, fIC, fNeg, fEq, fNe, fIsN, isNon, fAnd, fOr, fNot, fB, tNot, tAnd, tOr, fChain, fIx, fLen, fListOf, fMin, fMax, fInL, fSlL, tSl, fPart, tNoPart, fAppend, fBM, fSetL, gSub, fGNil, fGCons, fGTup, fGLst, fDGet2, sDPutF, tDNewK, fCat, fClear, fBM0, fSlT, fInt1, tCBK, fDIn, fDGet, fIsi, fBools, fDictL, fLtT, tCall, tCB, tCons, tNil, tTup, tLst, tIf, tTrue, Kd.nm, L2.start, List.map_cons, List.map_nil, List.length_cons, List.length_nil, Nat.reduceAdd, Nat.reduceSub, List.replicate_succ, List.replicate_zero, List.getElem?_cons_zero, List.getElem?_cons_succ, List.set_cons_zero, List.set_cons_succ, List.append_nil, List.nil_append, List.cons_append, eq_self, true_and, and_true, if_true, Bool.false_eq_true, if_false, Bool.not_true, Bool.not_false, id_eq, sl0, sl1, sl2, sl3, sl4, tXI, sXF]
  refine ⟨a, [y], none, rfl, ea, (by show 1 ≤ sizeLine; decide), ?_⟩
  exact ⟨a, rfl, .inl ⟨ea, fun dx hd ne => h dx hd ne⟩⟩
theorem ok_init_Overpaid {f : Addr} {fd : FuncData} {C_Overpaid f_Overpaid C_TouchError : Addr} (DI : InitAt K "Overpaid.__init__" (meth 4 0) ["self", "place"] f fd) (X_Overpaid : ClsX K mg "Overpaid" C_Overpaid f_Overpaid) (m_TouchError : mg "TouchError" = some (.ref C_TouchError)) (xi : XI K C_TouchError "ValueError.__init__")
    (hf : PySem.W.findIn K (.ref C_Overpaid) "place" = some none) : FnOk P w K mg base CX0 1 f fd ["self", "place"] (spInit1 C_Overpaid "place") := by
  have sc : FnScope ["self", "place"] ["self", "place"] (defScope (meth 4 0)) := ⟨rfl, rfl, rfl, by decide +kernel, rfl, by decide +kernel, by decide +kernel⟩
  refine DI.F.ok sc (fun vs H Q E h => ?_) (fun cdv A outer s H vs Q E hr h => ?_)
  · obtain ⟨a, y, rfl, _⟩ := h
    rfl
  obtain ⟨a, y, rfl, ea, h⟩ := h
  refine ⟨_, (pss_cons (ps_expr (pe_xinit PySem.F.excBase_ValueError xi X_Overpaid.xin rfl m_TouchError (pa_cons (qv 0) (pa_cons (qv 1) pa_nil)))) (pss_one (ps_xfld X_Overpaid.a hf (qv 0) (qv 1) rfl))), ?_⟩
  simp only [tCallX, fInsert, fLeT, fIsB, tSeq, tNext, tDrop, tRet, tRetN, tIfS, tAsg, gName, fAug, tOp, tUn, tC, fVar, fI, fIC, fNeg, fEq, fNe, fIsN, isNon, fAnd, fOr, fNot, fB, tNot, tAnd, tOr, fChain, fIx, fLen, fListOf, fMin, fMax, fInL, fSlL, tSl, fPart, tNoPart, fAppend, fBM, fSetL, gSub, fGNil, fGCons, fGTup, fGLst, fDGet2, sDPutF, tDNewK, fCat, fClear, fBM0, fSlT, fInt1, tCBK, fDIn, fDGet, fIsi, fBools, fDictL, fLtT, tCall, tCB, tCons, tNil, tTup, tLst, tIf, tTrue, Kd.nm, L2.start, List.map_cons, List.map_nil, List.length_cons, List.length_nil, Nat.reduceAdd, Nat.reduceSub, List.replicate_succ, List.replicate_zero, List.getElem?_cons_zero, List.getElem?_cons_succ, List.set_cons_zero, List.set_cons_succ, List.append_nil, List.nil_append, List.cons_append, eq_self, true_and, and_true, if_true, Bool.false_eq_true, if_false, Bool.not_true, Bool.not_false, id_eq, sl0, sl1, sl2, sl3, sl4, tXI, sXF]
  refine ⟨a, [y], none, rfl, ea, (by show 1 ≤ sizeLine; decide), ?_⟩
  exact ⟨a, rfl, .inl ⟨ea, fun dx hd ne => h dx hd ne⟩⟩
theorem ok_paid_by {f : Addr} {fd : FuncData}  (B : Blt mg) (D : DefAt K mg "paid_by" (top 29) ["rows"] f fd) : FnOk P w K mg base CX0 1 f fd ["rows"] spPaidBy := by
  have sc : FnScope ["rows", "paid", "word", "places", "amount", "place"] ["rows"] (defScope (top 29)) := ⟨rfl, rfl, rfl, by decide +kernel, rfl, by decide +kernel, by decide +kernel⟩
  refine D.F.ok sc (fun vs H Q E h => ?_) (fun cdv A outer s H vs Q E hr h => ?_)
  · obtain ⟨l, xs, rows, rfl, _⟩ := h
    rfl
  obtain ⟨l, xs, rows, rfl, el, rx, hl2, hw9, h⟩ := h
  have hlx : xs.length = rows.length := by rw [rx.len, List.length_map]
  have hu := hu_of hr
  have hu0 : _ < PySem.cLine := Nat.lt_of_succ_lt hu
  refine ⟨_, (pss_cons (ps_set (i := 1) sc.nd rfl (Or.inl rfl) pe_dnewK) (pss_cons (ps_for PassesOwn.never rfl (pi_list (qv 0)) (qg_tup (n := 3) rfl (qgs_cons (pg_name (i := 2) sc.nd rfl (Or.inl rfl)) (qgs_cons (pg_name (i := 3) sc.nd rfl (Or.inl rfl)) (qgs_cons (pg_name (i := 4) sc.nd rfl (Or.inl rfl)) qgs_nil)))) (pss_one (ps_for PassesOwn.never rfl (pi_list (qv 3)) (pg_name (i := 5) sc.nd rfl (Or.inl rfl)) (pss_one (q_dput hu (qv 1) (qv 5) (pe_op q_add (q_dget2 hu (qv 1) (qv 5) pe_int) (qv 4))))))) (pss_one (ps_ret (qv 1))))), ?_⟩
  walk_at "RD"
  intro d hd
  have s0 := same_new hd (.dK [])
  have ed : upd H d (.dK []) d = some (.dK []) := upd_same
  generalize upd H d (.dK []) = H0 at s0 ed
  refine tFor_hide (Itl K l) H0 (fun R hR => ?_) (for_list (K := K) (a := l) (xs := xs) (fun i σ H1 => ∃ v1 v2 v3 v4 kvs, σ = [some (.ref l), some (.ref d), v1, v2, v3, v4] ∧ Same H H1 ∧ H1 d = some (.dK kvs) ∧ kvs.length ≤ 900 * i ∧ ∀ n, (valV kvs (Sum.inl n : Key)).getD (.int 0) = .int (paidL (rows.take i) n)) ⟨none, none, none, none, [], rfl, s0, ed, by simp, fun n => rfl⟩ (fun i σ H1 _ ⟨_, _, _, _, _, _, s1, _⟩ => SqL.of (s1 _ _ el)) ?_ ?_)
  · unfold iList
    walk_at "RD"
    exact ⟨l, rfl, ⟨_, SqL.of (s0 _ _ el)⟩, hR⟩
  · rintro i x σ H1 hx ⟨v1, v2, v3, v4, kvs, rfl, s1, ed1, hk1, hv1⟩
    obtain ⟨dt, hdt, rdt⟩ := rx.at hx
    obtain ⟨r, hr1, rfl⟩ : ∃ r, rows[i]? = some r ∧ dt = rowD r := by
      rw [List.getElem?_map] at hdt
      cases c : rows[i]? with
      | none => rw [c] at hdt; cases hdt
      | some r => rw [c] at hdt; cases hdt; exact ⟨r, rfl, rfl⟩
    have h9 := hw9 r (List.mem_of_getElem? hr1)
    have hil : i < rows.length := (List.getElem?_eq_some_iff.mp hr1).1
    have rdt1 := Rep.same s1 _ rdt
    unfold rowD at rdt1
    rw [Rep] at rdt1
    obtain ⟨t, vs, rfl, et, rs⟩ := rdt1
    rw [Reps] at rs
    obtain ⟨w0, r0, rfl, q0, rs⟩ := rs
    rw [Reps] at rs
    obtain ⟨w1, r1, rfl, q1, rs⟩ := rs
    rw [Reps] at rs
    obtain ⟨w2, r2, rfl, q2, rs⟩ := rs
    rw [Reps] at rs
    subst rs
    rw [Rep] at q0
    rw [Rep] at q1
    rw [Rep] at q2
    subst q0 q2
    obtain ⟨la, ys, rfl, ela, ry⟩ := q1
    have exs := reps_ints ry
    subst exs
    obtain ⟨w, ns, am⟩ := r
    dsimp only at h9 ela et ⊢
    simp_arith [et]
    refine tFor_hide (Itl K la) H1 (fun R hR => ?_) (for_list (K := K) (a := la) (xs := ns.map V.int) (fun j σ H2 => ∃ v4 kv2, σ = [some (.ref l), some (.ref d), some (.str w), some (.ref la), some (.int am), v4] ∧ Same H H2 ∧ H2 d = some (.dK kv2) ∧ kv2.length ≤ 900 * i + j ∧ H2 la = some (.lst (ns.map V.int)) ∧ ∀ n, (valV kv2 (Sum.inl n : Key)).getD (.int 0) = .int (paidL (rows.take i) n + am * ((ns.take j).count n : Int))) ⟨_, kvs, rfl, s1, ed1, by omega, ela, fun n => by rw [hv1]; simp⟩ (fun j σ H2 _ ⟨_, _, _, _, _, _, e2, _⟩ => SqL.of e2) ?_ ?_)
    · unfold iList
      walk_at "RD"
      exact ⟨la, rfl, ⟨_, SqL.of ela⟩, hR⟩
    · rintro j y σ H2 hj ⟨v4', kv2, rfl, s2, ed2, hk2, ela2, hv2⟩
      obtain ⟨n, hn, rfl⟩ : ∃ n, ns[j]? = some n ∧ y = .int n := by
        rw [List.getElem?_map] at hj
        cases c : ns[j]? with
        | none => rw [c] at hj; cases hj
        | some n => rw [c] at hj; cases hj; exact ⟨n, rfl, rfl⟩
      have hjl : j < ns.length := (List.getElem?_eq_some_iff.mp hn).1
      simp_arith [ed2, hv2]
      refine ⟨⟨kv2, rfl⟩, ?_⟩
      simp_arith [ed2, hv2]
      refine ⟨szg (by omega), _, _, rfl, same_upd s2 hd, upd_same, ?_, ?_, fun m => ?_⟩
      · have := length_putK kv2 (Sum.inl n : Key) (V.int (paidL (rows.take i) n + am * ((ns.take j).count n : Int) + am))
        omega
      · rw [upd_ne (fun z => by rw [z, ed2] at ela2; cases ela2)]
        exact ela2
      · rw [valV_put, take_get hn, List.count_append]
        by_cases c : m = n
        · subst c
          rw [if_pos rfl]
          simp [Int.mul_add]
          omega
        · rw [if_neg (fun z => c (Sum.inl.inj z)), hv2 m]
          simp [List.count_cons, Ne.symm c]
    · rintro σ H2 ⟨v4', kv2, rfl, s2, ed2, hk2, ela2, hv2⟩
      rw [List.length_map] at hk2 hv2
      rw [List.take_length] at hv2
      refine ⟨_, _, _, _, kv2, rfl, s2, ed2, by omega, fun n => ?_⟩
      rw [hv2, paidL_take hr1]
  · rintro σ H1 ⟨v1, v2, v3, v4, kvs, rfl, s1, ed1, hk1, hv1⟩
    rw [hlx, List.take_length] at hv1
    walk_at "RD"
    exact h d kvs H1 hd s1 ed1 hv1
end
end My
namespace My
open PySem L2
section
variable {P : Program} {w : World} {K : PySem.W.Frag} {mg : Str → Option Value} {base : Heap} {c1 c2 c3 c4 : Tok} {C_NoWeb f_NoWeb : Addr} {dI : FuncData}
theorem find_drop {α : Type} {f : α → Bool} {l : List α} {i : Nat} {x : α} (h : l[i]? = some x) : (l.drop i).find? f = if f x = true then some x else (l.drop (i + 1)).find? f := by
  rw [drop_get' h, List.find?_cons]
  cases f x <;> rfl
theorem ok_look_at_rows {f : Addr} {fd : FuncData} {f_look_at_web : Addr} {d_look_at_web : FuncData} {f_is_list_up_to : Addr} {d_is_list_up_to : FuncData} {f_nears_in : Addr} {d_nears_in : FuncData} {f_is_row : Addr} {d_is_row : FuncData} {f_paid_by : Addr} {d_paid_by : FuncData} (B : Blt mg) (D : DefAt K mg "look_at_rows" (top 30) ["web", "thing"] f fd) (D_look_at_web : DefAt K mg "look_at_web" (top 20) ["thing"] f_look_at_web d_look_at_web) (G_look_at_web : FnOk P w K mg base (CXE P w) 5 f_look_at_web d_look_at_web ["thing"] (spLW C_NoWeb)) (D_is_list_up_to : DefAt K mg "is_list_up_to" (top 10) ["thing", "most"] f_is_list_up_to d_is_list_up_to) (G_is_list_up_to : FnOk P w K mg base CX0 1 f_is_list_up_to d_is_list_up_to ["thing", "most"] spListUpTo) (D_nears_in : DefAt K mg "nears_in" (top 23) ["web"] f_nears_in d_nears_in) (G_nears_in : FnOk P w K mg base CX0 1 f_nears_in d_nears_in ["web"] spNearsIn) (D_is_row : DefAt K mg "is_row" (top 28) ["nears", "thing"] f_is_row d_is_row) (G_is_row : FnOk P w K mg base CX0 4 f_is_row d_is_row ["nears", "thing"] spIsRow) (D_paid_by : DefAt K mg "paid_by" (top 29) ["rows"] f_paid_by d_paid_by) (G_paid_by : FnOk P w K mg base CX0 1 f_paid_by d_paid_by ["rows"] spPaidBy) {C_NoRows f_NoRows C_Overpaid f_Overpaid : Addr} {dN dO : FuncData} {c5 : Tok} (hMR : mg "MOST_ROWS" = some (.int 200 c5)) (X_NoRows : ClsX K mg "NoRows" C_NoRows f_NoRows) (DI_NoRows : InitAt K "NoRows.__init__" (meth 3 0) ["self", "number"] f_NoRows dN) (GI_NoRows : FnOk P w K mg base CX0 1 f_NoRows dN ["self", "number"] (spInit1 C_NoRows "number")) (X_Overpaid : ClsX K mg "Overpaid" C_Overpaid f_Overpaid) (DI_Overpaid : InitAt K "Overpaid.__init__" (meth 4 0) ["self", "place"] f_Overpaid dO) (GI_Overpaid : FnOk P w K mg base CX0 1 f_Overpaid dO ["self", "place"] (spInit1 C_Overpaid "place")) : FnOk P w K mg base (CXE P w) 6 f fd ["web", "thing"] (spLookRows C_NoWeb C_NoRows C_Overpaid) := by
  have sc : FnScope ["web", "thing", "nears", "number", "row", "paid", "place", "price"] ["web", "thing"] (defScope (top 30)) := ⟨rfl, rfl, rfl, by decide +kernel, rfl, by decide +kernel, by decide +kernel⟩
  refine D.F.okX sc (fun vs H Q E h => ?_) (fun cdv A outer s H vs Q E hr h => ?_)
  · obtain ⟨v, dw, u, rfl, _⟩ := h
    rfl
  obtain ⟨v, dw, u, rfl, hdw, hrw, h⟩ := h
  have hu := hu_of hr
  have hu0 : _ < PySem.cLine := Nat.lt_of_succ_lt hu
  refine ⟨_, (pss_cons (ps_expr (pe_callX G_look_at_web (hr.mono (by decide)) rfl D_look_at_web.m D_look_at_web.F.kp D_look_at_web.b .nil (passT ⟨rfl, rfl, rfl, fun _ => rfl⟩) (pa_cons (qv 0) pa_nil))) (pss_cons (ps_if (pt_not (qt_val (pe_call G_is_list_up_to (hr.mono (by decide)) rfl D_is_list_up_to.m D_is_list_up_to.F.kp D_is_list_up_to.b .nil pass0 (pa_cons (qv 1) (pa_cons (pe_glob (v := .int 200) rfl hMR ⟨_, rfl⟩) pa_nil))))) (pss_one (ps_raise PySem.F.excBase_ValueError X_NoRows.xin X_NoRows.fn GI_NoRows DI_NoRows.b (hr.mono (by decide)) rfl X_NoRows.m X_NoRows.kp ⟨rfl, rfl, rfl, fun _ => rfl⟩ xo_tr (pa_cons pe_non pa_nil))) pss_nil) (pss_cons (ps_set (i := 2) sc.nd rfl (Or.inl rfl) (pe_call G_nears_in (hr.mono (by decide)) rfl D_nears_in.m D_nears_in.F.kp D_nears_in.b .nil pass0 (pa_cons (qv 0) pa_nil))) (pss_cons (ps_forT ⟨rfl, rfl, rfl, fun _ => rfl⟩ rfl (pi_enum rfl B.enumerate (pa_cons (qv 1) pa_nil)) (qg_tup (n := 2) rfl (qgs_cons (pg_name (i := 3) sc.nd rfl (Or.inl rfl)) (qgs_cons (pg_name (i := 4) sc.nd rfl (Or.inl rfl)) qgs_nil))) (pss_one (ps_if (pt_not (qt_val (pe_call G_is_row (hr.mono (by decide)) rfl D_is_row.m D_is_row.F.kp D_is_row.b .nil pass0 (pa_cons (qv 2) (pa_cons (qv 4) pa_nil))))) (pss_one (ps_raise PySem.F.excBase_ValueError X_NoRows.xin X_NoRows.fn GI_NoRows DI_NoRows.b (hr.mono (by decide)) rfl X_NoRows.m X_NoRows.kp ⟨rfl, rfl, rfl, fun _ => rfl⟩ xo_tr (pa_cons (qv 3) pa_nil))) pss_nil))) (pss_cons (ps_set (i := 5) sc.nd rfl (Or.inl rfl) (pe_call G_paid_by (hr.mono (by decide)) rfl D_paid_by.m D_paid_by.F.kp D_paid_by.b .nil pass0 (pa_cons (qv 1) pa_nil))) (pss_one (ps_forT ⟨rfl, rfl, rfl, fun _ => rfl⟩ rfl (pi_list (pe_ix q_ix (qv 0) pe_int (fun _ _ => rfl))) (qg_tup (n := 2) rfl (qgs_cons (pg_name (i := 6) sc.nd rfl (Or.inl rfl)) (qgs_cons (pg_name (i := 7) sc.nd rfl (Or.inl rfl)) qgs_nil))) (pss_one (ps_if (qt_cmp q_gt (q_dget2 hu (qv 5) (qv 6) pe_int) (pe_op q_mul pe_int (qv 7)) (nomark _)) (pss_one (ps_raise PySem.F.excBase_ValueError X_Overpaid.xin X_Overpaid.fn GI_Overpaid DI_Overpaid.b (hr.mono (by decide)) rfl X_Overpaid.m X_Overpaid.kp ⟨rfl, rfl, rfl, fun _ => rfl⟩ xo_tr (pa_cons (qv 6) pa_nil))) pss_nil))))))))), ?_⟩
  refine seq_hide fun R hR => ?_
  walk_at "RD"
  refine ⟨v, dw, rfl, hdw, fun e H1 s1 => ?_, hrw⟩
  obtain ⟨ps, ts, rfl, wok⟩ := noWebD_none e
  obtain ⟨d, hd, fit, hN, hO⟩ := h ps ts rfl wok
  have hw := webD_at hdw
  have hnd := wok.p.nodup
  obtain ⟨xv, pa, ta, xs, ys, rfl, ex, ep, et, pp, pt⟩ := id hw
  have hlx : xs.length = ps.length := Paired.length pp
  subst hR
  refine seq_hide fun R hR => ?_
  walk_at "RD"
  refine ⟨u, d, 200, rfl, Rep.same s1 _ hd, ?_⟩
  have hnl : lstB 200 d = false → noRows ps ts d = some none := fun z => by
    cases d with
    | lst ds =>
      unfold noRows
      dsimp only
      rw [if_neg fun hl => ?_]
      rw [show lstB 200 (.lst ds) = decide ((ds.length : Int) ≤ 200) from rfl, decide_eq_true (by omega)] at z
      cases z
    | _ => rfl
  cases hb : lstB 200 d with
  | false =>
    have hr2 := (hN none (hnl hb)).back s1
    simp_arith [sRaise]
    exact fun y hy => raise1 hy hr2
  | true =>
  clear hnl
  obtain ⟨ds, rfl⟩ : ∃ ds, d = .lst ds := by
    cases d with
    | lst ds => exact ⟨ds, rfl⟩
    | _ => cases hb
  have h200 : ds.length ≤ 200 := by
    have : (ds.length : Int) ≤ 200 := of_decide_eq_true hb
    omega
  rw [Rep] at hd
  obtain ⟨l, zs, rfl, el, rz⟩ := hd
  have hlz : zs.length = ds.length := rz.len
  have en : noRows ps ts (.lst ds) = (rowBad ps ts 0 ds).map some := by
    unfold noRows
    dsimp only
    rw [if_pos h200]
  walk_at "RD"
  subst hR
  refine seq_hide fun R hR => ?_
  walk_at "RD"
  refine ⟨_, ps, ts, rfl, hw.same s1, wok, fun nd as H2 hnd0 s2 end2 hla hnr => ?_⟩
  have s12 := s1.trans s2
  have nr2 : NrAt H2 nd ps ts := ⟨as, end2, hla, hnr⟩
  clear end2 hla hnr
  walk_at "RD"
  subst hR
  refine seq_hide fun R hR => ?_
  walk_at "RD"
  refine ⟨l, rfl, ⟨_, SqL.of (s12 _ _ el)⟩, for_enum (K := K) (a := l) (xs := zs) (fun i σ H3 => ∃ v1 v2, σ = [some (.ref xv), some (.ref l), some (.ref nd), v1, v2, none, none, none] ∧ Same H2 H3 ∧ rowBad ps ts 0 ds = rowBad ps ts i (ds.drop i)) ⟨none, none, rfl, Same.refl _, rfl⟩ (fun i σ H3 _ ⟨_, _, _, s3, _⟩ => SqL.of (s3 _ _ (s12 _ _ el))) ?_ ?_⟩
  · rintro i x σ H3 t hi ⟨v1, v2, rfl, s3, hrb⟩ ht
    obtain ⟨dt, hdt, rdt⟩ := rz.at hi
    have s34 := s3.trans (same_new ht (.tup [.int i, x]))
    have s14 := s12.trans s34
    simp_arith [upd_same]
    generalize upd H3 t (.tup [.int i, x]) = H4 at s34 s14
    refine ⟨nd, ps, ts, x, dt, rfl, nr2.same s34, hnd, Rep.same s14 _ rdt, fun a b c ez => fit ds rfl dt (List.mem_of_getElem? hdt) a b c ez, fun H5 s5 => ?_⟩
    rw [drop_get' hdt, rowBad] at hrb
    cases hc : rowB ps ts dt with
    | true =>
      rw [if_pos hc] at hrb
      walk_at "RD"
      exact ⟨_, _, rfl, s34.trans s5, hrb⟩
    | false =>
      rw [if_neg (by rw [hc]; decide)] at hrb
      have hr2 := (hN (some i) (by rw [en, hrb]; rfl)).back (s14.trans s5)
      simp_arith [sRaise]
      exact fun y hy => raise1 hy hr2
  rintro σ H3 ⟨v1, v2, rfl, s3, hrb⟩
  rw [hlz, List.drop_length] at hrb
  have hrb0 : rowBad ps ts 0 ds = none := hrb
  obtain ⟨eds, hrows⟩ := rowBad_none hrb0
  obtain ⟨hO1, hO2⟩ := hO (by rw [en, hrb0]; rfl)
  have s13 := s12.trans s3
  generalize hrs : ds.filterMap rowOf = rows at eds hrows
  have hrd : rowsD (.lst ds) = rows := hrs
  rw [hrd] at hO1 hO2
  walk_at "RD"
  subst hR
  refine seq_hide fun R hR => ?_
  walk_at "RD"
  refine ⟨l, zs, rows, rfl, s13 _ _ el, by rw [← eds]; exact Reps.same s13 _ rz, ?_, fun r hr => ?_, fun pd kvs H4 hpd s4 epd hpv => ?_⟩
  · rw [← hrs]
    exact Nat.le_trans (List.length_filterMap_le _ _) (by omega)
  · have hm : rowD r ∈ ds := by rw [eds]; exact List.mem_map_of_mem hr
    have := fit ds rfl (rowD r) hm _ _ _ rfl
    simpa using this
  have s14 := s13.trans s4
  walk_at "RD"
  subst hR
  refine tFor_hide (Itl K pa) H4 (fun R hR => ?_) (for_list (K := K) (a := pa) (xs := xs) (fun i σ H5 => ∃ v3 v4, σ = [some (.ref xv), some (.ref l), some (.ref nd), v1, v2, some (.ref pd), v3, v4] ∧ Same H4 H5 ∧ overP ps rows = (((ps.drop i).find? fun p => decide (2 * p.2 < paidL rows p.1)).map (·.1))) ⟨none, none, rfl, Same.refl _, rfl⟩ (fun i σ H5 _ ⟨_, _, _, s5, _⟩ => SqL.of (s5 _ _ (s14 _ _ ep))) ?_ ?_)
  · unfold iList
    simp_arith [seqOf, s14 _ _ ex, at0]
    exact ⟨pa, rfl, ⟨_, SqL.of (s14 _ _ ep)⟩, hR⟩
  · rintro i x σ H5 hx ⟨v3, v4, rfl, s5, hov⟩
    obtain ⟨p, hpi, px⟩ := paired_left pp hx
    have s15 := s14.trans s5
    obtain ⟨t, rfl, ht⟩ := px.same s15
    have epd5 := s5 _ _ epd
    rw [find_drop hpi] at hov
    simp_arith [ht, epd5, hpv]
    refine ⟨⟨kvs, rfl⟩, ?_⟩
    simp_arith [epd5, hpv]
    refine ⟨.inl ⟨by decide, by decide⟩, ?_⟩
    by_cases c : 2 * p.2 < paidL rows p.1
    · rw [decide_eq_true (show paidL rows p.1 > 2 * p.2 from c)]
      rw [if_pos (decide_eq_true c)] at hov
      have hr2 := (hO1 p.1 hov).back s15
      simp_arith [sRaise]
      exact fun y hy => raise1 hy hr2
    · rw [decide_eq_false (show ¬ paidL rows p.1 > 2 * p.2 from c)]
      rw [if_neg (by rw [decide_eq_false c]; decide)] at hov
      walk_at "RD"
      exact ⟨_, _, rfl, s5, hov⟩
  · rintro σ H5 ⟨v3, v4, rfl, s5, hov⟩
    rw [hlx, List.drop_length] at hov
    exact hO2 hov _ (s14.trans s5)
end
end My
namespace My
open PySem L2
section
variable {P : Program} {w : World} {K : PySem.W.Frag} {mg : Str → Option Value} {base : Heap} {c1 c2 c3 c4 : Tok} {C_NoWeb f_NoWeb : Addr} {dI : FuncData}
theorem putK_new {κ : Type} [DecidableEq κ] : ∀ {kvs : List (κ × V)} {k : κ} {v : V}, k ∉ kvs.map (·.1) → putK kvs k v = kvs ++ [(k, v)]
  | [], k, v, _ => by simp [putK]
  | (a, b) :: r, k, v, h => by
    have h1 : k ≠ a := fun z => h (by rw [z]; exact .head _)
    have h2 : k ∉ r.map (·.1) := fun z => h (.tail _ z)
    have ih := putK_new (v := v) h2
    unfold putK at ih ⊢
    simp only [List.any_cons, List.map_cons, List.cons_append]
    first
      | (split at ih <;> split <;> simp_all)
      | simp_all
theorem ok_law_near {f : Addr} {fd : FuncData}  (B : Blt mg) (D : DefAt K mg "_law_near" (top 47) ["_law_web_here"] f fd) : FnOk P w K mg base CX0 1 f fd ["_law_web_here"] spNearsIn := by
  have sc : FnScope ["_law_web_here", "_law_book", "_law_place", "_law_price", "_law_one", "_law_other"] ["_law_web_here"] (defScope (top 47)) := ⟨rfl, rfl, rfl, by decide +kernel, rfl, by decide +kernel, by decide +kernel⟩
  refine D.F.ok sc (fun vs H Q E h => ?_) (fun cdv A outer s H vs Q E hr h => ?_)
  · obtain ⟨v, ps, ts, rfl, _⟩ := h
    rfl
  obtain ⟨v, ps, ts, rfl, hw, wok, h⟩ := h
  obtain ⟨x, pa, ta, xs, ys, rfl, ex, ep, et, pp, pt⟩ := id hw
  have hlx : xs.length = ps.length := Paired.length pp
  have hly : ys.length = ts.length := Paired.length pt
  have okl := wok.pl
  have okt := wok.tl
  have hnd := wok.p.nodup
  have hu := hu_of hr
  have hu0 : _ < PySem.cLine := Nat.lt_of_succ_lt hu
  refine ⟨_, (pss_cons (ps_set (i := 1) sc.nd rfl (Or.inl rfl) pe_dnewK) (pss_cons (ps_for PassesOwn.never rfl (pi_list (pe_ix q_ix (qv 0) pe_int (fun _ _ => rfl))) (qg_tup (n := 2) rfl (qgs_cons (pg_name (i := 2) sc.nd rfl (Or.inl rfl)) (qgs_cons (pg_name (i := 3) sc.nd rfl (Or.inl rfl)) qgs_nil))) (pss_one (q_dput hu (qv 1) (qv 2) (pe_lst pa_nil)))) (pss_cons (ps_for PassesOwn.never rfl (pi_list (pe_ix q_ix (qv 0) pe_int (fun _ _ => rfl))) (qg_tup (n := 2) rfl (qgs_cons (pg_name (i := 4) sc.nd rfl (Or.inl rfl)) (qgs_cons (pg_name (i := 5) sc.nd rfl (Or.inl rfl)) qgs_nil))) (pss_cons (ps_expr (q_bm PySem.F.plainAttrs_list PySem.F.slot_list_append PySem.F.type_list_append q_append (q_dget hu (qv 1) (qv 4) (fun _ _ => rfl)) (pa_cons (qv 5) pa_nil))) (pss_one (ps_expr (q_bm PySem.F.plainAttrs_list PySem.F.slot_list_append PySem.F.type_list_append q_append (q_dget hu (qv 1) (qv 5) (fun _ _ => rfl)) (pa_cons (qv 4) pa_nil)))))) (pss_one (ps_ret (qv 1)))))), ?_⟩
  refine seq_hide fun R hR => ?_
  walk_at "RD"
  intro d hd0
  have s0 := same_new hd0 (.dK [])
  have ed0 : upd H d (.dK []) d = some (.dK []) := upd_same
  generalize upd H d (.dK []) = H0 at s0 ed0
  try subst hR
  refine seq_hide fun R hR => ?_
  refine tFor_hide (Itl K pa) H0 (fun R' hR' => ?_) (for_list (K := K) (a := pa) (xs := xs) (fun i σ H1 => ∃ v1 v2 as, σ = [some (.ref x), some (.ref d), v1, v2, none, none] ∧ Same H H1 ∧ H1 d = some (.dK (kz (ps.take i) as)) ∧ as.length = i ∧ as.Nodup ∧ ∀ a ∈ as, H a = none ∧ a ≠ d ∧ H1 a = some (.lst [])) ⟨none, none, [], rfl, s0, ed0, rfl, List.nodup_nil, fun _ h => by cases h⟩ (fun i σ H1 _ ⟨_, _, _, _, s1, _⟩ => SqL.of (s1 _ _ ep)) ?_ ?_)
  · unfold iList
    simp_arith [seqOf, s0 _ _ ex, at0]
    exact ⟨pa, rfl, ⟨_, SqL.of (s0 _ _ ep)⟩, hR'⟩
  · rintro i y σ H1 hi ⟨v1, v2, as, rfl, s1, ed1, hla, nda, ha⟩
    obtain ⟨q, hq, pq⟩ := paired_left pp hi
    obtain ⟨t, rfl, ht⟩ := pq.same s1
    have hil : i < ps.length := (List.getElem?_eq_some_iff.mp hq).1
    have hlt : (ps.take i).length = as.length := by rw [List.length_take]; omega
    simp_arith [ht]
    intro a1 ha1
    have nd1 : d ≠ a1 := ne_of_none ed1 ha1
    simp_arith [upd_ne nd1, ed1]
    have hkl : (kz (ps.take i) as).length = i := by
      have e := congrArg List.length (kz_keys hlt)
      rw [List.length_map, List.length_map, List.length_take] at e
      omega
    have hnk : (Sum.inl q.1 : Key) ∉ (kz (ps.take i) as).map (·.1) := by
      rw [kz_keys hlt]
      intro z
      obtain ⟨p, hp, e⟩ := List.mem_map.mp z
      have e' : p.1 = q.1 := Sum.inl.inj e
      obtain ⟨k, hk, e2⟩ := List.mem_iff_getElem.mp hp
      have hk2 : k < i := by rw [List.length_take] at hk; omega
      have g1 : ps[k]? = some p := by
        rw [List.getElem_take] at e2
        rw [List.getElem?_eq_getElem (by omega), e2]
      have h1 : (ps.map (·.1))[k]? = some p.1 := by rw [List.getElem?_map, g1]; rfl
      have h2 : (ps.map (·.1))[i]? = some q.1 := by rw [List.getElem?_map, hq]; rfl
      exact nodup_at hnd h1 h2 (by omega) e'
    refine ⟨szl' (by omega), _, _, as ++ [a1], rfl, same_upd (s1.trans (same_new ha1 _)) hd0, ?_, by rw [List.length_append, hla]; rfl, ?_, fun a hm => ?_⟩
    · rw [upd_same, putK_new hnk, take_get hq, kz_snoc hlt]
    · rw [List.nodup_append]
      refine ⟨nda, (by simp), fun a hm b hb => ?_⟩
      have hb' : b = a1 := by simpa using hb
      intro z
      rw [hb'] at z
      have := (ha a hm).2.2
      rw [z, ha1] at this
      cases this
    · rcases List.mem_append.mp hm with hm | hm
      · obtain ⟨q1, q2, q3⟩ := ha a hm
        refine ⟨q1, q2, ?_⟩
        rw [upd_ne q2]
        exact same_new ha1 _ _ _ q3
      · have e : a = a1 := by simpa using hm
        subst e
        refine ⟨s1.free ha1, nd1.symm, ?_⟩
        rw [upd_ne nd1.symm, upd_same]
  rintro σ H2 ⟨w3, w4, as, rfl, s23, ed, hla, nda, ha3⟩
  rw [hlx, List.take_length] at ed
  rw [hlx] at hla
  walk_at "RD"
  subst hR
  refine seq_hide fun R hR => ?_
  refine tFor_hide (Itl K ta) H2 (fun R hR => ?_) (for_list (K := K) (a := ta) (xs := ys) (fun j σ H3 => ∃ v1 v2, σ = [some (.ref x), some (.ref d), w3, w4, v1, v2] ∧ Same H H3 ∧ H3 d = some (.dK (kz ps as)) ∧ Nears H3 ps (ts.take j) as) ⟨none, none, rfl, s23, ed, fun i p a _ h2 => (ha3 a (List.mem_of_getElem? h2)).2.2⟩ (fun i σ H3 _ ⟨_, _, _, s3, _⟩ => SqL.of (s3 _ _ et)) ?_ ?_)
  · unfold iList
    simp_arith [seqOf, s23 _ _ ex, at1]
    exact ⟨ta, rfl, ⟨_, SqL.of (s23 _ _ et)⟩, hR⟩
  · rintro j y σ H3 hj ⟨v1, v2, rfl, s3, ed3, hN⟩
    obtain ⟨q, hq, pq⟩ := paired_left pt hj
    obtain ⟨t, rfl, ht⟩ := pq.same s3
    obtain ⟨b1, b2, b3⟩ := wok.t.ats q (List.mem_of_getElem? hq)
    obtain ⟨i1, p1, g1, e1⟩ := hasK_inv b2
    obtain ⟨i2, p2, g2, e2⟩ := hasK_inv b3
    have hi1 : i1 < as.length := by have := (List.getElem?_eq_some_iff.mp g1).1; omega
    have hi2 : i2 < as.length := by have := (List.getElem?_eq_some_iff.mp g2).1; omega
    have A1 : as[i1]? = some as[i1] := List.getElem?_eq_getElem hi1
    have A2 : as[i2]? = some as[i2] := List.getElem?_eq_getElem hi2
    generalize as[i1] = a1 at A1
    generalize as[i2] = a2 at A2
    have V1 := kz_val hnd g1 A1
    have V2 := kz_val hnd g2 A2
    have n12 : i1 ≠ i2 := fun z => by rw [z, g2] at g1; cases g1; omega
    have na : a1 ≠ a2 := nodup_at nda A1 A2 n12
    rw [e1] at V1
    rw [e2] at V2
    have M1 := hN i1 p1 a1 g1 A1
    have M2 := hN i2 p2 a2 g2 A2
    have hlj : ∀ n, (nearL (ts.take j) n).length ≤ 120 := fun n => Nat.le_trans (nearL_len _ _) (by rw [List.length_take]; omega)
    have nd1 : d ≠ a1 := ((ha3 a1 (List.mem_of_getElem? A1)).2.1).symm
    have nd2 : d ≠ a2 := ((ha3 a2 (List.mem_of_getElem? A2)).2.1).symm
    simp_arith [ht, ed3, V1]
    refine ⟨⟨a1, _, rfl, M1⟩, ?_⟩
    simp_arith [M1]
    refine ⟨szl' (by rw [List.length_map]; have := hlj p1.1; omega), ?_⟩
    simp_arith [upd_ne nd1, ed3, V2]
    refine ⟨⟨a2, _, rfl, (by rw [upd_ne na.symm]; exact M2)⟩, ?_⟩
    simp_arith [upd_ne na.symm, M2]
    refine ⟨szl' (by rw [List.length_map]; have := hlj p2.1; omega), _, _, rfl, ?_, ?_, ?_⟩
    · intro b o hb
      rw [upd_ne (ne_of_none hb (ha3 a2 (List.mem_of_getElem? A2)).1), upd_ne (ne_of_none hb (ha3 a1 (List.mem_of_getElem? A1)).1)]
      exact s3 b o hb
    · rw [upd_ne nd2, upd_ne nd1]
      exact ed3
    · intro i p a hp ha'
      rw [nearL_take hq, List.map_append]
      have hpe : ∀ {k : Nat} {r : Int × Int}, ps[k]? = some r → r.1 = p.1 → k = i := fun {k r} hr he => by
        have h1 : (ps.map (·.1))[k]? = some r.1 := by rw [List.getElem?_map, hr]; rfl
        have h2 : (ps.map (·.1))[i]? = some p.1 := by rw [List.getElem?_map, hp]; rfl
        by_cases z : k = i
        · exact z
        · exact absurd he (nodup_at hnd h1 h2 z)
      by_cases c2 : i = i2
      · subst c2
        rw [g2] at hp
        cases hp
        rw [A2] at ha'
        cases ha'
        have e3 : nr p2.1 q = [q.1] := by
          unfold nr
          rw [if_neg (by omega), if_pos e2.symm]
        rw [upd_same, e3]
        rfl
      by_cases c1 : i = i1
      · subst c1
        rw [g1] at hp
        cases hp
        rw [A1] at ha'
        cases ha'
        have e3 : nr p1.1 q = [q.2] := by
          unfold nr
          rw [if_pos e1.symm]
        rw [upd_ne na, upd_same, e3]
        rfl
      have n1 : a ≠ a1 := nodup_at nda ha' A1 c1
      have n2 : a ≠ a2 := nodup_at nda ha' A2 c2
      have e3 : nr p.1 q = [] := by
        unfold nr
        rw [if_neg (fun z => c1 (hpe g1 (e1.trans z)).symm), if_neg (fun z => c2 (hpe g2 (e2.trans z)).symm)]
      rw [upd_ne n2, upd_ne n1, e3, List.map_nil, List.append_nil]
      exact hN i p a hp ha'
  · rintro σ H3 ⟨v1, v2, rfl, s3, ed3, hN⟩
    rw [hly, List.take_length] at hN
    walk_at "RD"
    try subst hR
    walk_at "RD"
    exact h d as H3 hd0 s3 ed3 hla hN
end
end My
namespace L2
open PySem PySem.Spec PyProof.Rows
section
variable {prog : Program} {w : World} {A : Around} {R : Result → Shared → Prop} {I : Addr} {fp wr : List Addr} {n : Nat} {P : Nat → Value → Prop} {St : Nat → Heap → Prop}
def BestN (val : Nat → Int) (n : Nat) (m : Int) : Prop := (∃ i, i < n ∧ m = val i) ∧ ∀ i, i < n → m ≤ val i
theorem BestN.up {val : Nat → Int} {j : Nat} {m : Int} (h : BestN val j m) (hb : val j < m) : BestN val (j + 1) (val j) :=
  ⟨⟨j, Nat.lt_succ_self _, rfl⟩, fun i hi => by
    rcases Nat.lt_succ_iff_lt_or_eq.mp hi with z | z
    · have := h.2 i z; omega
    · rw [z]; exact Int.le_refl _⟩
theorem BestN.keep {val : Nat → Int} {j : Nat} {m : Int} (h : BestN val j m) (hb : ¬ val j < m) : BestN val (j + 1) m :=
  ⟨let ⟨i, hi, e⟩ := h.1; ⟨i, Nat.lt_succ_of_lt hi, e⟩, fun i hi => by
    rcases Nat.lt_succ_iff_lt_or_eq.mp hi with z | z
    · exact h.2 i z
    · rw [z]; omega⟩
theorem min_name : (toString "min" ++ toString ".loop" : String) = "min.loop" := by decide
theorem min_loop_kw (W : Walks prog w A.in1 I fp wr n P St) (val : Nat → Int) (hval : ∀ i v, P i v → ∃ t : Tok, v = Value.int (val i) t) (kw : List (Str × Value)) (S : Addr) (hSf : S ∉ fp) :
    ∀ (k j : Nat) (s : Shared) (m : Int) (t : Tok) (c : Nat), n - j = k → j ≤ n → St j s.heap → BestN val j m →
    s.heap.get? S = some { cls := .type "list", dict := none, data := .seq #[.int m t, .int m t] c, slots := #[] } →
    (∀ m' t' h' tk, BestN val n m' → (∀ b o, b ∉ wr → b ≠ S → s.heap.get? b = some o → h'.get? b = some o) → R (.ok (.ret (.int m' t'))) { s with heap := h', toks := tk }) →
    codeAny (model prog w) A (.builtin "min.loop" ⟨[.ref I, .none, .ref S], kw⟩) R s := by
  have hSw : S ∉ wr := fun z => hSf (W.sub _ z)
  intro k
  induction k with
  | zero =>
    intro j s m t c hk hj hst hb hS hR
    have hin : j = n := by omega
    subst hin
    refine codeAny_builtin PySem.F.entry_min_loop ?_
    rw [Around.under_plainId PySem.F.plain_min_loop _]
    show wpAny _ A.in1 (seqItems? (.ref S) >>= _) _ _ s
    refine wpAny_bind (wpAny_seqItems hS rfl ?_)
    show wpAny _ A.in1 (tryCatch (pyNext (.ref I)) _ >>= _) _ _ s
    refine wpAny_bind (wpAny_tryCatch (W.done s _ _ hst fun h' tk kp => ?_))
    have hS' := kp S _ hSw hS
    show wpAny _ A.in1 (updateSeq S (fun _ => #[]) >>= _) _ _ _
    refine wpAny_bind ?_
    refine wpAny_updateSeq hS' rfl (wpAny_bind (wpAny_letGo (wpAny_pure ?_)))
    exact hR m t _ tk hb fun b o hbw hbS e => (Heap.get?_update_other _ _ (Ne.symm hbS)).trans (kp b o hbw e)
  | succ k ih =>
    intro j s m t c hk hj hst hb hS hR
    have hlt : j < n := by omega
    refine codeAny_builtin PySem.F.entry_min_loop ?_
    rw [Around.under_plainId PySem.F.plain_min_loop _]
    show wpAny _ A.in1 (seqItems? (.ref S) >>= _) _ _ s
    refine wpAny_bind (wpAny_seqItems hS rfl ?_)
    show wpAny _ A.in1 (tryCatch (pyNext (.ref I)) _ >>= _) _ _ s
    refine wpAny_bind (wpAny_tryCatch (W.item j s _ _ hlt hst fun v h' tk hP hst' kp => ?_))
    obtain ⟨t', rfl⟩ := hval j v hP
    have hS' := kp S _ hSw hS
    show wpAny _ A.in1 (tryCatch (holding [.int (val j) t', .int (val j) t'] (richCompare .Lt (.int (val j) t') (.int m t) >>= _)) _ >>= _) _ _ _
    refine wpAny_bind (wpAny_tryCatch (wpAny_holding (wpAny_bind (lt_int ?_))))
    refine wpAny_bind (wpAny_holding (wpAny_truthy_bool ?_))
    refine wpAny_bind (wpAny_letGo (wpAny_pure ?_))
    by_cases hc : val j < m
    · rw [decide_eq_true (show val j < m from hc)]
      simp only [if_true]
      refine wpAny_bind ?_
      refine wpAny_updateSeq hS' rfl (wpAny_bind (wpAny_letGo ?_))
      rw [min_name]
      refine wpAny_pure ⟨plainId_quiet PySem.F.plain_min_loop _, ih (j + 1) _ (val j) t' _ (by omega) hlt (W.frame _ _ _ hst' fun b hbf o e => ?_) (hb.up hc) (Heap.get?_update_self _ hS' rfl) fun m' u h'' tk'' hB k'' => ?_⟩
      · exact (Heap.get?_update_other _ _ (fun z : S = b => hSf (by rw [z]; exact hbf))).trans e
      · exact hR m' u h'' tk'' hB fun b o hbw hbS e => k'' b o hbw hbS ((Heap.get?_update_other _ _ (Ne.symm hbS)).trans (kp b o hbw e))
    · rw [decide_eq_false (show ¬ val j < m from hc)]
      simp only [Bool.false_eq_true, if_false]
      refine wpAny_bind (wpAny_letGo ?_)
      rw [min_name]
      refine wpAny_pure ⟨plainId_quiet PySem.F.plain_min_loop _, ih (j + 1) _ m t c (by omega) hlt hst' (hb.keep hc) hS' fun m' u h'' tk'' hB k'' => ?_⟩
      exact hR m' u h'' tk'' hB fun b o hbw hbS e => k'' b o hbw hbS (kp b o hbw e)
end
section
variable {X : Cx}
theorem args_min_default (a d : Value) : argsOk "min" ⟨[a], [(Str.ofString "default", d)]⟩ := by unfold argsOk; kernel_rfl
def rMinD : List V → List V → Hp → VK → Prop := fun vs zs H Q => ∃ (p : Addr) (ns : List Int) (d : Int), vs = [.ref p] ∧ zs = [.int d] ∧ H p = some (.lst (ns.map V.int)) ∧
  ∀ m, (ns = [] → m = d) → (ns ≠ [] → m ∈ ns) → (∀ x ∈ ns, m ≤ x) → Q (.int m) H
theorem call_minD (hc : X.calm = true) : ∀ (pins : List (Addr × Obj)) (s : Shared) (σ : St) (H : Hp) (xs zs : List V) (us ws : List Value) (Q : VK), Inv X pins σ H s → Vals xs us → Vals zs ws → rMinD xs zs H Q →
    wpAny (model X.prog X.w) X.A (call (.builtin "min") us ([Str.ofString "default"].zip ws)) (EP X pins σ Q) X.xe s := by
  intro pins s σ H xs zs us ws Q I r rz h
  obtain ⟨p, ns, d, rfl, rfl, e, q⟩ := h
  obtain ⟨u, rfl, rx⟩ := vals1 r
  cases rx
  obtain ⟨dv, rfl, td, rfl⟩ := vals1 rz
  obtain ⟨z, its, c, r', hlen, e'⟩ := I.lstM e
  have hI := intsAre_of r'
  have plt : p < s.heap.objs.size := Heap.lt_size e'
  have hL : s.heap.IsList p its.toArray := ⟨_, e', rfl, _, rfl⟩
  refine kmk_tree PySem.F.kind_min PySem.F.plain_min PySem.F.entry_min (args_min_default _ _) ?_
  show wpAny _ X.A.in1 (Builtin.Builtins.bindParams "min" ["key", "default"] 0 ⟨[], [(Str.ofString "default", .int d td)]⟩ >>= _) _ _ s
  refine wpAny_bind (wpAny_of_eq (show Builtin.Builtins.bindParams "min" ["key", "default"] 0 ⟨[], [(Str.ofString "default", .int d td)]⟩ = pure [none, some (.int d td)] from rfl) ?_)
  refine wpAny_bind (wpAny_pure ?_)
  refine wpAny_bind (wpAny_pyIter_list hL ?_)
  refine wpAny_bind (wpAny_newList ?_ (Nat.zero_le _))
  rw [min_name]
  have hS : (s.heap.push { cls := .type "list_iterator", data := .fields #[.ref p, .int 0 0] }).objs.size = s.heap.objs.size + 1 := size_push' ..
  have W := Walks.list (prog := X.prog) (w := X.w) (A := X.A.in1) (show X.A.in1.handled = none from I.ok.hd hc) s.heap.objs.size p (Nat.ne_of_lt plt) its.toArray
  have hsz : its.toArray.size = ns.length := by rw [List.size_toArray, ← hlen, List.length_map]
  have hval : ∀ (i : Nat) (v : Value), its.toArray[i]? = some v → ∃ t : Tok, v = Value.int (ns[i]?.getD 0) t := fun i v hv => by
    have hv' : its[i]? = some v := by simpa using hv
    have hi : i < ns.length := by
      have := (List.getElem?_eq_some_iff.mp hv').1
      rw [List.length_map] at hlen
      omega
    obtain ⟨u, e1, t, e2⟩ := r'.get (i := i) (x := .int ns[i]) (by rw [List.getElem?_map, List.getElem?_eq_getElem hi]; rfl)
    rw [hv'] at e1
    cases e1
    exact ⟨t, by rw [e2, List.getElem?_eq_getElem hi]; rfl⟩
  have kp0 : ∀ (h' : Heap) (tk : Nat), (∀ b o, b ∉ [s.heap.objs.size] → b ≠ (s.heap.push { cls := .type "list_iterator", data := .fields #[.ref p, .int 0 0] }).objs.size → ((s.heap.push { cls := .type "list_iterator", data := .fields #[.ref p, .int 0 0] }).push { cls := .type "list", data := .seq #[] }).get? b = some o → h'.get? b = some o) →
      Inv X pins σ H { s with heap := h', toks := tk } := fun h' tk k => I.kept fun b o qq => k b o (by
        intro z
        have : b = s.heap.objs.size := by simpa using z
        exact absurd (Heap.lt_size qq) (by rw [this]; exact Nat.lt_irrefl _)) (by rw [hS]; exact Nat.ne_of_lt (Nat.lt_succ_of_lt (Heap.lt_size qq))) (Heap.get?_push_of_some _ (Heap.get?_push_of_some _ qq))
  have hst0 : (fun i (h : Heap) => h.IsListIter s.heap.objs.size p i ∧ h.IsList p its.toArray) 0 ((s.heap.push { cls := .type "list_iterator", data := .fields #[.ref p, .int 0 0] }).push { cls := .type "list", data := .seq #[] }) :=
    ⟨⟨_, Heap.get?_push_of_some _ (Heap.get?_push_size _ rfl), rfl, rfl⟩, (hL.push _).push _⟩
  have hSg : ((s.heap.push { cls := .type "list_iterator", data := .fields #[.ref p, .int 0 0] }).push { cls := .type "list", data := .seq #[] }).get? (s.heap.push { cls := .type "list_iterator", data := .fields #[.ref p, .int 0 0] }).objs.size = some { cls := .type "list", dict := none, data := .seq #[] 0, slots := #[] } := Heap.get?_push_size _ rfl
  have hSf : (s.heap.push { cls := .type "list_iterator", data := .fields #[.ref p, .int 0 0] }).objs.size ∉ [s.heap.objs.size, p] := by
    rw [hS]
    intro z
    rcases List.mem_cons.mp z with z | z
    · exact absurd z (Nat.succ_ne_self _)
    · have z := List.mem_singleton.mp z
      rw [← z] at plt
      exact Nat.lt_irrefl _ (Nat.lt_of_succ_lt plt)
  refine wpAny_pure ⟨plainId_quiet PySem.F.plain_min_loop _, ?_⟩
  refine codeAny_builtin PySem.F.entry_min_loop ?_
  rw [Around.under_plainId PySem.F.plain_min_loop _]
  show wpAny _ X.A.in1 (seqItems? (.ref _) >>= _) _ _ _
  refine wpAny_bind (wpAny_seqItems hSg rfl ?_)
  show wpAny _ X.A.in1 (tryCatch (pyNext (.ref s.heap.objs.size)) _ >>= _) _ _ _
  cases hn : ns with
  | nil =>
    have h0 : its.toArray.size = 0 := by rw [hsz, hn]; rfl
    refine wpAny_bind (wpAny_tryCatch (W.done _ _ _ (by rw [h0]; exact hst0) fun h' tk kp => ?_))
    refine wpAny_bind (wpAny_rule (wpAny_pure ?_))
    exact ⟨.int d, H, kp0 h' tk fun b o h1 _ h3 => kp b o h1 h3, ⟨td, rfl⟩, q d (fun _ => rfl) (fun z => absurd hn z) (by rw [hn]; intro x hx; cases hx)⟩
  | cons n0 rest =>
    have hpos : 0 < its.toArray.size := by rw [hsz, hn]; simp
    refine wpAny_bind (wpAny_tryCatch (W.item 0 _ _ _ hpos hst0 fun v h' tk hP hst' kp => ?_))
    obtain ⟨t', rfl⟩ := hval 0 v hP
    have hS' := kp _ _ (fun z => hSf (List.mem_cons.mpr (.inl (List.mem_singleton.mp z)))) hSg
    show wpAny _ X.A.in1 (updateSeq _ (fun _ => #[_, _]) >>= _) _ _ _
    refine wpAny_bind ?_
    refine wpAny_updateSeq hS' rfl ?_
    rw [min_name]
    refine wpAny_pure ⟨plainId_quiet PySem.F.plain_min_loop _, min_loop_kw W (fun i => ns[i]?.getD 0) hval _ _ hSf _ 1 _ _ t' _ rfl hpos (W.frame _ _ _ hst' fun b hbf o e => ?_) ⟨⟨0, Nat.one_pos, rfl⟩, fun i hi => by
      have : i = 0 := by omega
      subst this; exact Int.le_refl _⟩ (Heap.get?_update_self _ hS' rfl) fun m u h'' tk'' hB k'' => ?_⟩
    · exact (Heap.get?_update_other _ _ (fun z => hSf (by rw [z]; exact hbf))).trans e
    · refine ⟨.int m, H, kp0 h'' tk'' fun b o h1 h2 h3 => k'' b o h1 h2 ((Heap.get?_update_other _ _ (Ne.symm h2)).trans (kp b o h1 h3)), ⟨u, rfl⟩, q m (fun z => by rw [hn] at z; cases z) (fun _ => ?_) fun x hx => ?_⟩
      · obtain ⟨i, hi, e1⟩ := hB.1
        rw [hsz] at hi
        rw [e1]
        show ns[i]?.getD 0 ∈ ns
        rw [List.getElem?_eq_getElem hi]
        exact List.getElem_mem hi
      · obtain ⟨i, hi, e1⟩ := List.mem_iff_getElem.mp hx
        have : m ≤ ns[i]?.getD 0 := hB.2 i (by rw [hsz]; exact hi)
        rw [List.getElem?_eq_getElem hi] at this
        rw [← e1]
        exact this
end
section
variable {X : Cx}
end
end L2
namespace My
open PySem L2
section
variable {P : Program} {w : World} {K : PySem.W.Frag} {mg : Str → Option Value} {base : Heap} {c1 c2 c3 c4 : Tok} {C_NoWeb f_NoWeb : Addr} {dI : FuncData}
theorem near_iff {ts : List (Int × Int)} (h : ∀ t ∈ ts, t.1 < t.2) {n m : Int} : m ∈ nearL ts n ↔ (n, m) ∈ ts ∨ (m, n) ∈ ts := by
  unfold nearL
  rw [List.mem_flatMap]
  constructor
  · rintro ⟨t, ht, hm⟩
    unfold nr at hm
    split at hm
    · rename_i e
      rw [List.mem_singleton] at hm
      refine .inl ?_
      rw [← e, hm]
      exact ht
    · split at hm
      · rename_i e
        rw [List.mem_singleton] at hm
        refine .inr ?_
        rw [← e, hm]
        exact ht
      · cases hm
  · rintro (ht | ht)
    · exact ⟨_, ht, by unfold nr; rw [if_pos rfl]; exact .head _⟩
    · have := h _ ht
      exact ⟨_, ht, by unfold nr; rw [if_neg (by show ¬ m = n; intro z; subst z; exact absurd this (Int.lt_irrefl _)), if_pos rfl]; exact .head _⟩
theorem near_symm {ts : List (Int × Int)} (h : ∀ t ∈ ts, t.1 < t.2) {n m : Int} (q : m ∈ nearL ts n) : n ∈ nearL ts m := (near_iff h).mpr ((near_iff h).mp q).symm
theorem near_irr {ts : List (Int × Int)} (h : ∀ t ∈ ts, t.1 < t.2) {n : Int} : n ∉ nearL ts n := fun q => by
  rcases (near_iff h).mp q with z | z <;> exact absurd (h _ z) (Int.lt_irrefl _)
theorem filter_take {α : Type} {f : α → Bool} {l : List α} {i : Nat} {x : α} (h : l[i]? = some x) : (l.take (i + 1)).filter f = (l.take i).filter f ++ (if f x = true then [x] else []) := by
  rw [List.take_succ, h, List.filter_append]
  show _ ++ List.filter f [x] = _
  rw [List.filter_cons]
  rfl
structure Clq (ts : List (Int × Int)) (fs : List Int) : Prop where
  nd : fs.Nodup
  all : ∀ a ∈ fs, ∀ b ∈ fs, a ≠ b → b ∈ nearL ts a
theorem Clq.one {ts : List (Int × Int)} (n : Int) : Clq ts [n] := ⟨by simp, fun a ha b hb ne => by rw [List.mem_singleton] at ha hb; exact absurd (ha.trans hb.symm) ne⟩
theorem Clq.snoc {ts : List (Int × Int)} {fs : List Int} {n : Int} (ht : ∀ t ∈ ts, t.1 < t.2) (h : Clq ts fs) (q : ∀ m ∈ fs, m ∈ nearL ts n) : Clq ts (fs ++ [n]) := by
  have hn : n ∉ fs := fun z => near_irr ht (q n z)
  refine ⟨?_, fun a ha b hb ne => ?_⟩
  · rw [List.nodup_append]
    exact ⟨h.nd, by simp, fun a ha b hb => by rw [List.mem_singleton] at hb; rw [hb]; exact fun z => hn (z ▸ ha)⟩
  · rcases List.mem_append.mp ha with ha1 | ha1 <;> rcases List.mem_append.mp hb with hb1 | hb1
    · exact h.all a ha1 b hb1 ne
    · rw [List.mem_singleton] at hb1
      subst hb1
      exact near_symm ht (q a ha1)
    · rw [List.mem_singleton] at ha1
      subst ha1
      exact q b hb1
    · rw [List.mem_singleton] at ha1 hb1
      exact absurd (ha1.trans hb1.symm) ne
theorem Clq.perm {ts : List (Int × Int)} {fs gs : List Int} (h : Clq ts fs) (p : gs.Perm fs) : Clq ts gs := ⟨p.nodup_iff.mpr h.nd, fun a ha b hb ne => h.all a (p.mem_iff.mp ha) b (p.mem_iff.mp hb) ne⟩
theorem Clq.pw {ts : List (Int × Int)} : ∀ {fs : List Int}, Clq ts fs → fs.Pairwise (· ≤ ·) → pwB ts fs = true
  | [], _, _ => rfl
  | n :: r, h, p => by
    rw [List.pairwise_cons] at p
    have hn := List.nodup_cons.mp h.nd
    rw [pwB, Bool.and_eq_true, List.all_eq_true]
    refine ⟨fun m hm => ?_, Clq.pw ⟨hn.2, fun a ha b hb ne => h.all a (.tail _ ha) b (.tail _ hb) ne⟩ p.2⟩
    have ne : n ≠ m := fun z => hn.1 (z ▸ hm)
    have := p.1 m hm
    rw [Bool.and_eq_true, decide_eq_true_eq, decide_eq_true_eq]
    exact ⟨by omega, h.all n (.head _) m (.tail _ hm) ne⟩
theorem ne_stI {H : Hp} {a st : Addr} {ns : List Int} {o : HO} (ha : H a = some (.lst (ns.map V.int))) (hs : H st = some o) (so : StO o) : a ≠ st := fun z => by
  obtain ⟨c, s, f, rfl, _⟩ := so
  rw [z, hs] at ha
  injection ha with ha
  injection ha with ha
  match ns, ha with
  | [_, _, _], ha => simp at ha
theorem NrAt.but {H H' : Hp} {d st : Addr} {o : HO} {ps ts : List (Int × Int)} (h : NrAt H d ps ts) (hs : H st = some o) (so : StO o) (b : But st H H') : NrAt H' d ps ts := by
  obtain ⟨as, e, l, n⟩ := h
  refine ⟨as, b _ _ (fun z => ?_) e, l, fun i p a h1 h2 => b _ _ (ne_stI (n i p a h1 h2) hs so) (n i p a h1 h2)⟩
  obtain ⟨_, _, _, rfl, _⟩ := so
  rw [z, hs] at e
  cases e
theorem eq_nil_D {ns : List Int} : eqP (.lst (ns.map Dt.int)) (.lst []) = decide (ns = []) := by
  cases ns with
  | nil => rfl
  | cons a r => rw [eqP]; rfl
theorem dep_intsD : ∀ (ns : List Int), depP (.lst (ns.map Dt.int)) ≤ 20 := fun ns => by
  have : ∀ ns : List Int, depPs (ns.map Dt.int) = 0 := fun ns => by
    induction ns with
    | nil => rfl
    | cons a r ih => rw [List.map_cons, depPs, ih]; rfl
  rw [depP, this]
  omega
theorem repInts {H : Hp} : ∀ (ns : List Int), Reps H (ns.map Dt.int) (ns.map V.int)
  | [] => by rw [List.map_nil, Reps]; rfl
  | n :: r => by
    rw [List.map_cons, List.map_cons, Reps]
    exact ⟨_, _, rfl, by rw [Rep], repInts r⟩
theorem rep_lstI {H : Hp} {a : Addr} {ns : List Int} (e : H a = some (.lst (ns.map V.int))) : Rep H (.lst (ns.map Dt.int)) (.ref a) := by
  rw [Rep]
  exact ⟨a, _, rfl, e, repInts ns⟩
theorem atI_mem {ns : List Int} {k : Int} (h0 : 0 ≤ k) (h1 : k < ns.length) : ∃ n, atI (ns.map V.int) k = some (.int n) ∧ n ∈ ns := by
  obtain ⟨i, rfl⟩ : ∃ i : Nat, k = (i : Int) := ⟨k.toNat, by omega⟩
  have hi : i < ns.length := by omega
  refine ⟨ns[i], atI_nat ?_, List.getElem_mem hi⟩
  rw [List.getElem?_map, List.getElem?_eq_getElem hi]
  rfl
def spLAll : Sp := fun vs H Q _ => ∃ st o nd lp ps ts, vs = [.ref st, .ref nd, .ref lp] ∧ H st = some o ∧ StO o ∧ NrAt H nd ps ts ∧ WebOk ps ts ∧ H lp = some (.lst ((ps.map (·.1)).map V.int)) ∧ ps ≠ [] ∧
  ∀ l ns H' o', But st H H' → H' st = some o' → StO o' → H l = none → l ≠ st → H' l = some (.lst (ns.map V.int)) → (∀ n ∈ ns, n ∈ ps.map (·.1)) → pwB ts ns = true → ns.Nodup → ns.length ≤ 20 → Q (.ref l) H'
theorem ok_law_all {f : Addr} {fd : FuncData} {f_law_take : Addr} {d_law_take : FuncData} (B : Blt mg) (D : DefAt K mg "_law_all" (top 48) ["_law_state", "_law_book", "_law_places_here"] f fd) (D_law_take : DefAt K mg "_law_take" (top 44) ["_law_state", "_law_many"] f_law_take d_law_take) (G_law_take : FnOk P w K mg base CX0 1 f_law_take d_law_take ["_law_state", "_law_many"] spTake) : FnOk P w K mg base CX0 2 f fd ["_law_state", "_law_book", "_law_places_here"] spLAll := by
  have sc : FnScope ["_law_state", "_law_book", "_law_places_here", "_law_found", "_law_turn", "_law_some", "_law_place"] ["_law_state", "_law_book", "_law_places_here"] (defScope (top 48)) := ⟨rfl, rfl, rfl, by decide +kernel, rfl, by decide +kernel, by decide +kernel⟩
  refine D.F.ok sc (fun vs H Q E h => ?_) (fun cdv A outer s H vs Q E hr h => ?_)
  · obtain ⟨st, o, nd, lp, ps, ts, rfl, _⟩ := h
    rfl
  obtain ⟨st, o, nd, lp, ps, ts, rfl, es, so, nr, wok, elp, hne, h⟩ := h
  have hnd := wok.p.nodup
  have hpl := wok.pl
  have htt : ∀ t ∈ ts, t.1 < t.2 := fun t ht => (wok.t.ats t ht).1
  generalize hqs : ps.map (·.1) = qs at *
  have hql : qs.length = ps.length := by rw [← hqs, List.length_map]
  have hq1 : 1 ≤ qs.length := by
    rw [hql]
    cases ps with
    | nil => exact absurd rfl hne
    | cons _ _ => simp
  have nlp := ne_stI elp es so
  have NR : ∀ {H2 : Hp}, But st H H2 → NrAt H2 nd ps ts := fun b => nr.but es so b
  have LP : ∀ {H2 : Hp}, But st H H2 → H2 lp = some (.lst (qs.map V.int)) := fun b => b _ _ nlp elp
  have hu := hu_of hr
  have hu0 : _ < PySem.cLine := Nat.lt_of_succ_lt hu
  refine ⟨_, (pss_cons (ps_set (i := 3) sc.nd rfl (Or.inl rfl) (pe_lst (pa_cons (pe_ix q_ix (qv 2) (pe_call G_law_take (hr.mono (by decide)) rfl D_law_take.m D_law_take.F.kp D_law_take.b .nil pass0 (pa_cons (qv 0) (pa_cons (pe_callB q_len rfl B.len PySem.boot_len (pa_cons (qv 2) pa_nil)) pa_nil))) (fun _ _ => rfl)) pa_nil))) (pss_cons (ps_for PassesOwn.never rfl (pi_range1 rfl B.range (pa_cons (pe_op q_add pe_int (pe_call G_law_take (hr.mono (by decide)) rfl D_law_take.m D_law_take.F.kp D_law_take.b .nil pass0 (pa_cons (qv 0) (pa_cons pe_int pa_nil)))) pa_nil)) (pg_name (i := 4) sc.nd rfl (Or.inl rfl)) (pss_cons (ps_set (i := 5) sc.nd rfl (Or.inl rfl) (pe_lst pa_nil)) (pss_cons (ps_for PassesOwn.never rfl (pi_list (qv 2)) (pg_name (i := 6) sc.nd rfl (Or.inr rfl)) (pss_one (ps_if (qt_cmp (op_eqD hr.units) (pe_comp (CpScope.of (N := ["_law_other", "_law_book", "_law_place"]) (src := [none, some 1, some 6]) (by rfl)) rfl (pi_list (qv 3)) (fun _ _ _ _ => (pg_name (i := 0) (nodupB_ok (l := ["_law_other", "_law_book", "_law_place"]) (by rfl)) rfl (Or.inl rfl))) (fun _ _ _ _ => (pif_one (qt_cmp q_notinL (qv 0) (q_dget hu (qv 1) (qv 2) (fun _ _ => rfl)) (by with_unfolding_all rfl)))) (fun _ _ _ _ => (qv 0))) (pe_lst pa_nil) (nomark _)) (pss_one (ps_expr (q_bm PySem.F.plainAttrs_list PySem.F.slot_list_append PySem.F.type_list_append q_append (qv 5) (pa_cons (qv 6) pa_nil)))) pss_nil))) (pss_one (ps_if (qt_cmp (op_neD hr.units) (qv 5) (pe_lst pa_nil) (nomark _)) (pss_one (ps_expr (q_bm PySem.F.plainAttrs_list PySem.F.slot_list_append PySem.F.type_list_append q_append (qv 3) (pa_cons (pe_ix q_ix (qv 5) (pe_call G_law_take (hr.mono (by decide)) rfl D_law_take.m D_law_take.F.kp D_law_take.b .nil pass0 (pa_cons (qv 0) (pa_cons (pe_callB q_len rfl B.len PySem.boot_len (pa_cons (qv 5) pa_nil)) pa_nil))) (fun _ _ => rfl)) pa_nil)))) pss_nil))))) (pss_one (ps_ret (pe_callB call_sortL rfl B.sorted PyProof.Rows.boot_sorted (pa_cons (qv 3) pa_nil)))))), ?_⟩
  refine seq_hide fun R hR => ?_
  simp_arith [seqOf, elp, List.length_map]
  refine ⟨st, o, _, rfl, es, so, by omega, by omega, fun k0 o1 k00 k01 so1 => ?_⟩
  have b1 : But st H (upd H st o1) := But.at st H o1
  have e1 : upd H st o1 st = some o1 := upd_same
  generalize upd H st o1 = H1 at b1 e1
  obtain ⟨n0, a0, hn0⟩ := atI_mem (ns := qs) k00 (by omega)
  simp_arith [seqOf, LP b1, a0]
  intro fl hfl
  have nfl : fl ≠ st := (ne_of_none e1 hfl).symm
  have hfl0 : H fl = none := by
    cases q : H fl with
    | none => rfl
    | some u => rw [b1 _ _ nfl q] at hfl; cases hfl
  have s2 := same_new hfl (.lst [.int n0])
  have ef2 : upd H1 fl (.lst [.int n0]) fl = some (.lst ([n0].map V.int)) := upd_same
  have e2 := s2 _ _ e1
  have b2 : But st H (upd H1 fl (.lst [.int n0])) := fun b u nb q => s2 _ _ (b1 _ _ nb q)
  generalize upd H1 fl (.lst [.int n0]) = H2 at ef2 e2 b2
  try subst hR
  refine seq_hide fun R hR => ?_
  refine tFor_hideI (ι := Int × HO) (fun i0 => Itr 0 (1 + i0.1).toNat) (fun i0 => upd H2 st i0.2) (fun i0 => 0 ≤ i0.1 ∧ i0.1 < 4 ∧ StO i0.2) (fun R' hR' => ?_) (fun i0 ok0 => ?_)
  · unfold iRng1
    walk_at "RD"
    exact ⟨st, o1, 4, rfl, e2, so1, by decide, by decide, fun k1 o2 k10 k11 so2 => ⟨_, rfl, by omega, by omega, hR' (k1, o2) ⟨k10, k11, so2⟩⟩⟩
  obtain ⟨k1, o2⟩ := i0
  obtain ⟨k10, k11, so2⟩ := ok0
  dsimp only at k10 k11 so2
  have b3 : But st H (upd H2 st o2) := b2.trans (But.at st H2 o2)
  have e3 : upd H2 st o2 st = some o2 := upd_same
  have ef3 := But.at st H2 o2 _ _ nfl ef2
  refine for_range (n := (1 + k1).toNat) (fun i σ H3 => ∃ v1 v2 v3 fs o3, σ = [some (.ref st), some (.ref nd), some (.ref lp), some (.ref fl), v1, v2, v3] ∧ But st H H3 ∧ H3 st = some o3 ∧ StO o3 ∧ H3 fl = some (.lst (fs.map V.int)) ∧ (∀ n ∈ fs, n ∈ qs) ∧ Clq ts fs ∧ fs.length ≤ 1 + i) ⟨none, none, none, [n0], o2, rfl, b3, e3, so2, ef3, fun n hn => by rw [List.mem_singleton.mp hn]; exact hn0, Clq.one n0, by simp⟩ ?_ ?_
  · rintro i σ H3 hi ⟨v1, v2, v3, fs, o3, rfl, b3, e3, so3, ef3, hfs, clq, hfl3⟩
    have hi5 : i < 5 := by omega
    refine seq_hide fun R2 hR2 => ?_
    walk_at "RD"
    intro sl hsl
    have nsl : sl ≠ st := (ne_of_none e3 hsl).symm
    have nfs : fl ≠ sl := ne_of_none ef3 hsl
    have hsl0 : H sl = none := by
      cases q : H sl with
      | none => rfl
      | some u => rw [b3 _ _ nsl q] at hsl; cases hsl
    have s4 := same_new hsl (.lst [])
    have es4 : upd H3 sl (.lst []) sl = some (.lst (([] : List Int).map V.int)) := upd_same
    have e4 := s4 _ _ e3
    have ef4 := s4 _ _ ef3
    have b4 : But st H (upd H3 sl (.lst [])) := fun b u nb q => s4 _ _ (b3 _ _ nb q)
    generalize upd H3 sl (.lst []) = H4 at es4 e4 ef4 b4
    try subst hR2
    refine seq_hide fun R2 hR2 => ?_
    refine tFor_hide (Itl K lp) H4 (fun R' hR' => ?_) (for_list (K := K) (a := lp) (xs := qs.map V.int) (fun j σ H5 => ∃ v3 ms, σ = [some (.ref st), some (.ref nd), some (.ref lp), some (.ref fl), some (.int (0 + (i : Int))), some (.ref sl), v3] ∧ But st H H5 ∧ H5 st = some o3 ∧ H5 fl = some (.lst (fs.map V.int)) ∧ H5 sl = some (.lst (ms.map V.int)) ∧ ms.length ≤ j ∧ ∀ m ∈ ms, m ∈ qs ∧ ∀ n ∈ fs, n ∈ nearL ts m) ⟨_, [], rfl, b4, e4, ef4, es4, by simp, fun _ h => by cases h⟩ (fun j σ H5 _ ⟨_, _, _, b5, _⟩ => SqL.of (LP b5)) ?_ ?_)
    · unfold iList
      walk_at "RD"
      exact ⟨lp, rfl, ⟨_, SqL.of (LP b4)⟩, hR'⟩
    · rintro j x σ H5 hj ⟨v3', ms, rfl, b5, e5, ef5, esl5, hml, hms⟩
      obtain ⟨n, hn, rfl⟩ : ∃ n, qs[j]? = some n ∧ x = .int n := by
        rw [List.getElem?_map] at hj
        cases c : qs[j]? with
        | none => rw [c] at hj; cases hj
        | some n => rw [c] at hj; cases hj; exact ⟨n, rfl, rfl⟩
      have hnq : n ∈ qs := List.mem_of_getElem? hn
      have hjl : j < qs.length := (List.getElem?_eq_some_iff.mp hn).1
      walk_at "RD"
      refine tComp_hide (Itl K fl) H5 (fun R' hR' => ?_) (fun z hz0 => comp_run fs.length (fun t σ' Hc => ∃ w1, σ' = [w1, some (.ref nd), some (.int n)] ∧ Same H5 Hc ∧ Hc z = some (.lst (((fs.take t).filter fun m => !decide (m ∈ nearL ts n)).map V.int))) ⟨none, rfl, same_new hz0 _, upd_same⟩ ?_ ?_)
      · unfold iList
        walk_at "RD"
        exact ⟨fl, rfl, ⟨_, SqL.of ef5⟩, hR'⟩
      · rintro t σ' Hc ht ⟨w1, rfl, s6, ez⟩
        have x1 : (fs.map V.int)[t]? = some (.int fs[t]) := by rw [List.getElem?_map, List.getElem?_eq_getElem ht]; rfl
        have x2 : fs[t]? = some fs[t] := List.getElem?_eq_getElem ht
        generalize fs[t] = m at x1 x2
        have z1 : SqL K Hc fl (fs.map V.int) := SqL.of (s6 _ _ ef5)
        refine ⟨⟨_, _, z1, x1⟩, ?_⟩
        rintro y H' ⟨rfl, hy⟩
        have E1 : V.int m = y := Option.some.inj (x1.symm.trans (hy _ z1))
        subst E1
        obtain ⟨as, a, g1, g2, g3⟩ := ((NR b5).same s6).get (by rw [hqs]; exact hnd) (by rw [hqs]; exact hnq)
        have ft := filter_take (f := fun m => !decide (m ∈ nearL ts n)) x2
        simp_arith [seqOf, g1, g2, g3, inV_ints, flat_ints, flatV]
        rw [ft]
        by_cases c : m ∈ nearL ts n
        · simp only [c, decide_true, Bool.not_true, Bool.false_eq_true, if_false, if_true, List.append_nil]
          exact ⟨_, rfl, s6, ez⟩
        · simp only [c, decide_false, Bool.not_false, if_true]
          refine ⟨_, ez, ?_, _, rfl, same_upd s6 hz0, ?_⟩
          · rw [List.length_map]
            exact szl' (Nat.le_trans (List.length_filter_le _ _) (by rw [List.length_take]; omega))
          · rw [upd_same, List.map_append]
            rfl
      · rintro σ' Hc ⟨w1, rfl, s6, ez⟩
        refine ⟨⟨_, SqL.of (s6 _ _ ef5), by rw [List.length_map]; exact Nat.le_refl _⟩, ?_⟩
        rw [List.take_length] at ez
        intro p hp
        have s7 := s6.trans (same_new hp (.lst []))
        have ez7 := same_new hp (.lst []) _ _ ez
        have ep7 : upd Hc p (.lst []) p = some (.lst (([] : List Int).map V.int)) := upd_same
        generalize upd Hc p (.lst []) = H7 at s7 ez7 ep7
        generalize hfl2 : fs.filter (fun m => !decide (m ∈ nearL ts n)) = bs at ez7
        refine ⟨.lst (bs.map Dt.int), .lst [], rep_lstI ez7, rep_lstI (ns := []) ep7, dep_intsD bs, .inl ⟨_, _, rfl, rfl⟩, ?_⟩
        rw [eq_nil_D]
        have b7 : But st H H7 := fun b u nb q => s7 _ _ (b5 _ _ nb q)
        walk_at "RD"
        refine ite2 (fun c => ?_) (fun c => ?_)
        · have c' : bs = [] := of_decide_eq_true c
          have hall : ∀ m ∈ fs, m ∈ nearL ts n := fun m hm => by
            rw [← hfl2, List.filter_eq_nil_iff] at c'
            have := c' m hm
            simpa using this
          refine ⟨⟨sl, _, rfl, s7 _ _ esl5⟩, ?_⟩
          simp_arith [s7 _ _ esl5]
          refine ⟨szl' (by rw [List.length_map]; omega), _, ms ++ [n], rfl, fun b u nb q => ?_, ?_, ?_, ?_, ?_, fun m hm => ?_⟩
          · rw [upd_ne (ne_of_none q hsl0)]
            exact b7 b u nb q
          · rw [upd_ne nsl.symm]
            exact s7 _ _ e5
          · rw [upd_ne nfs]
            exact s7 _ _ ef5
          · rw [upd_same, List.map_append]
            rfl
          · rw [List.length_append]
            show _ + 1 ≤ _
            omega
          · rcases List.mem_append.mp hm with hm | hm
            · exact hms m hm
            · rw [List.mem_singleton.mp hm]
              exact ⟨hnq, hall⟩
        · exact ⟨_, ms, rfl, b7, s7 _ _ e5, s7 _ _ ef5, s7 _ _ esl5, by omega, hms⟩
    · rintro σ H5 ⟨v3', ms, rfl, b5, e5, ef5, esl5, hml, hms⟩
      rw [List.length_map] at hml
      walk_at "RD"
      try subst hR2
      walk_at "RD"
      intro p hp
      have s7 := same_new hp (.lst [])
      have ep7 : upd H5 p (.lst []) p = some (.lst (([] : List Int).map V.int)) := upd_same
      have e7 := s7 _ _ e5
      have ef7 := s7 _ _ ef5
      have esl7 := s7 _ _ esl5
      have b7 : But st H (upd H5 p (.lst [])) := fun b u nb q => s7 _ _ (b5 _ _ nb q)
      generalize upd H5 p (.lst []) = H7 at ep7 e7 ef7 esl7 b7
      refine ⟨.lst (ms.map Dt.int), .lst [], rep_lstI esl7, rep_lstI (ns := []) ep7, dep_intsD ms, .inl ⟨_, _, rfl, rfl⟩, ?_⟩
      rw [eq_nil_D]
      walk_at "RD"
      by_cases c : ms = []
      · rw [decide_eq_true c]
        walk_at "RD"
        exact ⟨_, _, _, fs, o3, rfl, b7, e7, so3, ef7, hfs, clq, by omega⟩
      · rw [decide_eq_false c]
        simp_arith [seqOf, esl7, List.length_map]
        refine ⟨⟨fl, _, rfl, ef7⟩, ?_⟩
        have hm1 : 1 ≤ ms.length := by
          cases ms with
          | nil => exact absurd rfl c
          | cons _ _ => simp
        refine ⟨st, o3, _, rfl, e7, so3, by omega, by omega, fun kk o4 kk0 kk1 so4 => ?_⟩
        have b8 := b7.trans (But.at st H7 o4)
        have e8 : upd H7 st o4 st = some o4 := upd_same
        have ef8 := But.at st H7 o4 _ _ nfl ef7
        have esl8 := But.at st H7 o4 _ _ nsl esl7
        generalize upd H7 st o4 = H8 at b8 e8 ef8 esl8
        obtain ⟨n1, a1, hn1⟩ := atI_mem (ns := ms) kk0 (by omega)
        simp_arith [seqOf, esl8, a1, ef8]
        obtain ⟨q1, q2⟩ := hms n1 hn1
        refine ⟨szl' (by rw [List.length_map]; omega), _, _, _, fs ++ [n1], o4, rfl, fun b u nb q => ?_, ?_, so4, ?_, fun m hm => ?_, clq.snoc htt q2, ?_⟩
        · rw [upd_ne (ne_of_none q hfl0)]
          exact b8 b u nb q
        · rw [upd_ne nfl.symm]
          exact e8
        · rw [upd_same, List.map_append]
          rfl
        · rcases List.mem_append.mp hm with hm | hm
          · exact hfs m hm
          · rw [List.mem_singleton.mp hm]
            exact q1
        · rw [List.length_append]
          show _ + 1 ≤ _
          omega
  · rintro σ H3 ⟨v1, v2, v3, fs, o3, rfl, b3, e3, so3, ef3, hfs, clq, hfl3⟩
    have hf6 : fs.length ≤ 6 := by omega
    walk_at "RD"
    try subst hR
    walk_at "RD"
    refine ⟨fl, fs, rfl, ef3, by omega, fun l ms hl pm pw => ?_⟩
    have nl : l ≠ st := (ne_of_none e3 hl).symm
    have s9 := same_new hl (.lst (ms.map V.int))
    refine h l ms _ o3 (fun b u nb q => s9 _ _ (b3 _ _ nb q)) (s9 _ _ e3) so3 ?_ nl upd_same (fun n hn => hfs n (pm.mem_iff.mp hn)) ((clq.perm pm).pw pw) (clq.perm pm).nd (by rw [pm.length_eq]; omega)
    cases q : H l with
    | none => rfl
    | some u => rw [b3 _ _ nl q] at hl; cases hl
end
end My
namespace My
open PySem L2
section
variable {P : Program} {w : World} {K : PySem.W.Frag} {mg : Str → Option Value} {base : Heap} {c1 c2 c3 c4 : Tok} {C_NoWeb f_NoWeb : Addr} {dI : FuncData}
structure Chn (ts : List (Int × Int)) (fs : List Int) : Prop where
  nd : fs.Nodup
  nx : ∀ (i : Nat) (a b : Int), fs[i]? = some a → fs[i + 1]? = some b → b ∈ nearL ts a
theorem Chn.one {ts : List (Int × Int)} (n : Int) : Chn ts [n] := ⟨by simp, fun i a b h1 h2 => by simp at h2⟩
theorem Chn.snoc {ts : List (Int × Int)} {fs : List Int} {l n : Int} (h : Chn ts fs) (hl : fs.getLast? = some l) (hn : n ∉ fs) (q : n ∈ nearL ts l) : Chn ts (fs ++ [n]) := by
  refine ⟨?_, fun i a b h1 h2 => ?_⟩
  · rw [List.nodup_append]
    exact ⟨h.nd, by simp, fun a ha b hb => by rw [List.mem_singleton] at hb; rw [hb]; exact fun z => hn (z ▸ ha)⟩
  · rcases get_snoc h2 with g2 | ⟨e2, eb⟩
    · have := (List.getElem?_eq_some_iff.mp g2).1
      rcases get_snoc h1 with g1 | ⟨e1, _⟩
      · exact h.nx i a b g1 g2
      · omega
    · rcases get_snoc h1 with g1 | ⟨e1, _⟩
      · rw [List.getLast?_eq_getElem?, ← e2, Nat.add_sub_cancel, g1] at hl
        cases hl
        rw [eb]
        exact q
      · omega
theorem Chn.ring {ts : List (Int × Int)} {fs : List Int} {f l : Int} (h : Chn ts fs) (h3 : 3 ≤ fs.length) (ho : fs.length % 2 = 1) (hf : fs.head? = some f) (hl : fs.getLast? = some l) (q : f ∈ nearL ts l) : ringB ts fs = true := by
  unfold ringB
  rw [decide_eq_true h3, decide_eq_true ho, decide_eq_true h.nd]
  simp only [Bool.and_self, Bool.true_and]
  rw [List.all_eq_true]
  rintro ⟨a, b⟩ hm
  obtain ⟨i, hi, e⟩ := List.mem_iff_getElem.mp hm
  have hz : (fs.zip (fs.drop 1 ++ fs.take 1))[i]? = some (a, b) := by rw [List.getElem?_eq_getElem hi, e]
  rw [List.getElem?_zip_eq_some] at hz
  obtain ⟨g1, g2⟩ := hz
  have hil : i < fs.length := (List.getElem?_eq_some_iff.mp g1).1
  rw [decide_eq_true_eq]
  by_cases c : i + 1 < fs.length
  · rw [List.getElem?_append_left (by rw [List.length_drop]; omega), List.getElem?_drop, Nat.add_comm] at g2
    exact h.nx i a b g1 g2
  · have e2 : i = fs.length - 1 := by omega
    rw [List.getElem?_append_right (by rw [List.length_drop]; omega), List.length_drop, show i - (fs.length - 1) = 0 by omega] at g2
    rw [List.getElem?_take_of_lt (by decide)] at g2
    rw [List.head?_eq_getElem?, g2] at hf
    cases hf
    rw [List.getLast?_eq_getElem?, ← e2, g1] at hl
    cases hl
    exact q
theorem near_in {ps ts : List (Int × Int)} (wok : WebOk ps ts) {n m : Int} (h : m ∈ nearL ts n) : m ∈ ps.map (·.1) := by
  have htt : ∀ t ∈ ts, t.1 < t.2 := fun t ht => (wok.t.ats t ht).1
  have has : ∀ x : Int, hasK (kvsOf ps) x = true → x ∈ ps.map (·.1) := fun x hx => by
    obtain ⟨i, p, h1, rfl⟩ := hasK_inv hx
    exact List.mem_map_of_mem (List.mem_of_getElem? h1)
  rcases (near_iff htt).mp h with z | z
  · exact has _ (wok.t.ats _ z).2.2
  · exact has _ (wok.t.ats _ z).2.1
theorem atI_last {ns : List Int} {l : Int} (h : ns.getLast? = some l) : atI (ns.map V.int) (-1) = some (.int l) := by
  have hn : ns ≠ [] := fun z => by rw [z] at h; cases h
  have hl : 1 ≤ ns.length := by cases ns with | nil => exact absurd rfl hn | cons _ _ => simp
  unfold atI ixN
  rw [if_neg (by decide), List.length_map, if_pos (by omega)]
  rw [List.getLast?_eq_getElem?] at h
  show (ns.map V.int)[(-1 + (ns.length : Int)).toNat]? = _
  rw [show (-1 + (ns.length : Int)).toNat = ns.length - 1 by omega, List.getElem?_map, h]
  rfl
theorem atI_first {ns : List Int} {f : Int} (h : ns.head? = some f) : atI (ns.map V.int) 0 = some (.int f) := by
  rw [List.head?_eq_getElem?] at h
  exact atI_nat (xs := ns.map V.int) (j := 0) (by rw [List.getElem?_map, h]; rfl)
theorem last_snoc (fs : List Int) (n : Int) : (fs ++ [n]).getLast? = some n := by simp
def spLRing : Sp := fun vs H Q _ => ∃ st o nd lp ps ts, vs = [.ref st, .ref nd, .ref lp] ∧ H st = some o ∧ StO o ∧ NrAt H nd ps ts ∧ WebOk ps ts ∧ H lp = some (.lst ((ps.map (·.1)).map V.int)) ∧ ps ≠ [] ∧
  ∀ l ns H' o', But st H H' → H' st = some o' → StO o' → H l = none → l ≠ st → H' l = some (.lst (ns.map V.int)) → (∀ n ∈ ns, n ∈ ps.map (·.1)) → (ns = [] ∨ ringB ts ns = true) → ns.Nodup → ns.length ≤ 20 → Q (.ref l) H'
theorem ok_law_ring {f : Addr} {fd : FuncData} {f_law_take : Addr} {d_law_take : FuncData} (B : Blt mg) (D : DefAt K mg "_law_ring" (top 49) ["_law_state", "_law_book", "_law_places_here"] f fd) (D_law_take : DefAt K mg "_law_take" (top 44) ["_law_state", "_law_many"] f_law_take d_law_take) (G_law_take : FnOk P w K mg base CX0 1 f_law_take d_law_take ["_law_state", "_law_many"] spTake) : FnOk P w K mg base CX0 2 f fd ["_law_state", "_law_book", "_law_places_here"] spLRing := by
  have sc : FnScope ["_law_state", "_law_book", "_law_places_here", "_law_found", "_law_turn", "_law_some"] ["_law_state", "_law_book", "_law_places_here"] (defScope (top 49)) := ⟨rfl, rfl, rfl, by decide +kernel, rfl, by decide +kernel, by decide +kernel⟩
  refine D.F.ok sc (fun vs H Q E h => ?_) (fun cdv A outer s H vs Q E hr h => ?_)
  · obtain ⟨st, o, nd, lp, ps, ts, rfl, _⟩ := h
    rfl
  obtain ⟨st, o, nd, lp, ps, ts, rfl, es, so, nr, wok, elp, hne, h⟩ := h
  have hnd := wok.p.nodup
  have hpl := wok.pl
  have htt : ∀ t ∈ ts, t.1 < t.2 := fun t ht => (wok.t.ats t ht).1
  generalize hqs : ps.map (·.1) = qs at *
  have hql : qs.length = ps.length := by rw [← hqs, List.length_map]
  have hq1 : 1 ≤ qs.length := by
    rw [hql]
    cases ps with
    | nil => exact absurd rfl hne
    | cons _ _ => simp
  have nlp := ne_stI elp es so
  have NR : ∀ {H2 : Hp}, But st H H2 → NrAt H2 nd ps ts := fun b => nr.but es so b
  have LP : ∀ {H2 : Hp}, But st H H2 → H2 lp = some (.lst (qs.map V.int)) := fun b => b _ _ nlp elp
  have hu := hu_of hr
  have hu0 : _ < PySem.cLine := Nat.lt_of_succ_lt hu
  refine ⟨_, (pss_cons (ps_set (i := 3) sc.nd rfl (Or.inr rfl) (pe_lst (pa_cons (pe_ix q_ix (qv 2) (pe_call G_law_take (hr.mono (by decide)) rfl D_law_take.m D_law_take.F.kp D_law_take.b .nil pass0 (pa_cons (qv 0) (pa_cons (pe_callB q_len rfl B.len PySem.boot_len (pa_cons (qv 2) pa_nil)) pa_nil))) (fun _ _ => rfl)) pa_nil))) (pss_cons (ps_for PassesOwn.never rfl (pi_range1 rfl B.range (pa_cons pe_int pa_nil)) (pg_name (i := 4) sc.nd rfl (Or.inl rfl)) (pss_cons (ps_setc (i := 5) sc.nd rfl (Or.inl rfl) (CpScope.of (N := ["_law_place", "_law_found"]) (src := [none, some 3]) (by rfl)) rfl (pi_list (q_dget hu (qv 1) (pe_ix q_ix (qv 3) (pe_un q_neg pe_int) (fun _ _ => rfl)) (fun _ _ => rfl))) (fun _ _ _ _ => (pg_name (i := 0) (nodupB_ok (l := ["_law_place", "_law_found"]) (by rfl)) rfl (Or.inl rfl))) (fun _ _ _ _ => (pif_one (qt_cmp q_notinL (qv 0) (qv 1) (by with_unfolding_all rfl)))) (fun _ _ _ _ => (qv 0))) (pss_cons (ps_if (qt_cmp (op_eqD hr.units) (qv 5) (pe_lst pa_nil) (nomark _)) (pss_one (ps_ret (pe_lst pa_nil))) pss_nil) (pss_cons (ps_expr (q_bm PySem.F.plainAttrs_list PySem.F.slot_list_append PySem.F.type_list_append q_append (qv 3) (pa_cons (pe_ix q_ix (qv 5) (pe_call G_law_take (hr.mono (by decide)) rfl D_law_take.m D_law_take.F.kp D_law_take.b .nil pass0 (pa_cons (qv 0) (pa_cons (pe_callB q_len rfl B.len PySem.boot_len (pa_cons (qv 5) pa_nil)) pa_nil))) (fun _ _ => rfl)) pa_nil))) (pss_one (ps_if (PW.pt (pw_and (qt_cmp q_eq (pe_op q_mod (pe_callB q_len rfl B.len PySem.boot_len (pa_cons (qv 3) pa_nil)) pe_int) pe_int (nomark _)) (pw_and (qt_cmp q_inL (pe_ix q_ix (qv 3) pe_int (fun _ _ => rfl)) (q_dget hu (qv 1) (pe_ix q_ix (qv 3) (pe_un q_neg pe_int) (fun _ _ => rfl)) (fun _ _ => rfl)) (by with_unfolding_all rfl)) (pw_and1 (qt_cmp q_gt (pe_call G_law_take (hr.mono (by decide)) rfl D_law_take.m D_law_take.F.kp D_law_take.b .nil pass0 (pa_cons (qv 0) (pa_cons pe_int pa_nil))) pe_int (nomark _)))))) (pss_one (ps_ret (qv 3))) pss_nil)))))) (pss_one (ps_ret (pe_lst pa_nil))))), ?_⟩
  refine seq_hide fun R hR => ?_
  simp_arith [seqOf, elp, List.length_map]
  refine ⟨st, o, _, rfl, es, so, by omega, by omega, fun k0 o1 k00 k01 so1 => ?_⟩
  have b1 : But st H (upd H st o1) := But.at st H o1
  have e1 : upd H st o1 st = some o1 := upd_same
  generalize upd H st o1 = H1 at b1 e1
  obtain ⟨n0, a0, hn0⟩ := atI_mem (ns := qs) k00 (by omega)
  simp_arith [seqOf, LP b1, a0]
  intro fl hfl
  have nfl : fl ≠ st := (ne_of_none e1 hfl).symm
  have hfl0 : H fl = none := by
    cases q : H fl with
    | none => rfl
    | some u => rw [b1 _ _ nfl q] at hfl; cases hfl
  have s2 := same_new hfl (.lst [.int n0])
  have ef2 : upd H1 fl (.lst [.int n0]) fl = some (.lst ([n0].map V.int)) := upd_same
  have e2 := s2 _ _ e1
  have b2 : But st H (upd H1 fl (.lst [.int n0])) := fun b u nb q => s2 _ _ (b1 _ _ nb q)
  generalize upd H1 fl (.lst [.int n0]) = H2 at ef2 e2 b2
  try subst hR
  refine seq_hide fun R hR => ?_
  refine tFor_hide (Itr 0 8) H2 (fun R' hR' => ?_) (for_range (n := 8) (fun i σ H3 => ∃ v1 v2 fs o3 lst, σ = [some (.ref st), some (.ref nd), some (.ref lp), some (.ref fl), v1, v2] ∧ But st H H3 ∧ H3 st = some o3 ∧ StO o3 ∧ H3 fl = some (.lst (fs.map V.int)) ∧ (∀ n ∈ fs, n ∈ qs) ∧ Chn ts fs ∧ fs.length = 1 + i ∧ fs.head? = some n0 ∧ fs.getLast? = some lst) ⟨none, none, [n0], o1, n0, rfl, b2, e2, so1, ef2, fun n hn => by rw [List.mem_singleton.mp hn]; exact hn0, Chn.one n0, by simp, rfl, rfl⟩ ?_ ?_)
  · unfold iRng1
    walk_at "RD"
    exact ⟨8, rfl, by decide, by decide, hR'⟩
  · rintro i σ H3 hi ⟨v1, v2, fs, o3, lst, rfl, b3, e3, so3, ef3, hfs, chn, hfl3, hhd, hlt⟩
    have hlq : lst ∈ qs := hfs _ (List.mem_of_getLast? hlt)
    have hla := atI_last hlt
    obtain ⟨as, a, g1, g2, g3⟩ := (NR b3).get (by rw [hqs]; exact hnd) (by rw [hqs]; exact hlq)
    have hnl : (nearL ts lst).length ≤ 120 := Nat.le_trans (nearL_len _ _) wok.tl
    generalize hNL : nearL ts lst = nls at g3 hnl
    refine seq_hide fun R2 hR2 => ?_
    walk_at "RD"
    refine tComp_hide (Itl K a) H3 (fun R' hR' => ?_) (fun z hz0 => comp_run nls.length (fun t σ' Hc => ∃ w1, σ' = [w1, some (.ref fl)] ∧ Same H3 Hc ∧ Hc z = some (.lst (((nls.take t).filter fun m => !decide (m ∈ fs)).map V.int))) ⟨none, rfl, same_new hz0 _, upd_same⟩ ?_ ?_)
    · unfold iList
      simp_arith [seqOf, ef3, hla, g1, g2]
      exact ⟨a, rfl, ⟨_, SqL.of g3⟩, hR'⟩
    · rintro t σ' Hc ht ⟨w1, rfl, s6, ez⟩
      have x1 : (nls.map V.int)[t]? = some (.int nls[t]) := by rw [List.getElem?_map, List.getElem?_eq_getElem ht]; rfl
      have x2 : nls[t]? = some nls[t] := List.getElem?_eq_getElem ht
      generalize nls[t] = m at x1 x2
      have z1 : SqL K Hc a (nls.map V.int) := SqL.of (s6 _ _ g3)
      refine ⟨⟨_, _, z1, x1⟩, ?_⟩
      rintro y H' ⟨rfl, hy⟩
      have E1 : V.int m = y := Option.some.inj (x1.symm.trans (hy _ z1))
      subst E1
      have ft := filter_take (f := fun m => !decide (m ∈ fs)) x2
      simp_arith [seqOf, s6 _ _ ef3, inV_ints, flat_ints, flatV]
      rw [ft]
      by_cases c : m ∈ fs
      · simp only [c, decide_true, Bool.not_true, Bool.false_eq_true, if_false, if_true, List.append_nil]
        exact ⟨_, rfl, s6, ez⟩
      · simp only [c, decide_false, Bool.not_false, if_true]
        refine ⟨_, ez, ?_, _, rfl, same_upd s6 hz0, ?_⟩
        · rw [List.length_map]
          exact szl' (Nat.le_trans (List.length_filter_le _ _) (by rw [List.length_take]; omega))
        · rw [upd_same, List.map_append]
          rfl
    rintro σ' Hc ⟨w1, rfl, s6, ez⟩
    refine ⟨⟨_, SqL.of (s6 _ _ g3), by rw [List.length_map]; exact Nat.le_refl _⟩, ?_⟩
    rw [List.take_length] at ez
    have e6 := s6 _ _ e3
    have ef6 := s6 _ _ ef3
    have b6 : But st H Hc := fun b u nb q => s6 _ _ (b3 _ _ nb q)
    have nzs : z ≠ st := (ne_of_none e3 hz0).symm
    generalize hms : nls.filter (fun m => !decide (m ∈ fs)) = ms at ez
    have hml : ms.length ≤ 120 := by rw [← hms]; exact Nat.le_trans (List.length_filter_le _ _) hnl
    have hmm : ∀ m ∈ ms, m ∈ nearL ts lst ∧ m ∉ fs := fun m hm => by
      rw [← hms, List.mem_filter] at hm
      rw [hNL]
      exact ⟨hm.1, by simpa using hm.2⟩
    walk_at "RD"
    try subst hR2
    refine seq_hide fun R2 hR2 => ?_
    walk_at "RD"
    intro p hp
    have s7 := same_new hp (.lst [])
    have ep7 : upd Hc p (.lst []) p = some (.lst (([] : List Int).map V.int)) := upd_same
    have e7 := s7 _ _ e6
    have ef7 := s7 _ _ ef6
    have ez7 := s7 _ _ ez
    have b7 : But st H (upd Hc p (.lst [])) := fun b u nb q => s7 _ _ (b6 _ _ nb q)
    generalize upd Hc p (.lst []) = H7 at ep7 e7 ef7 ez7 b7
    refine ⟨.lst (ms.map Dt.int), .lst [], rep_lstI ez7, rep_lstI (ns := []) ep7, dep_intsD ms, .inl ⟨_, _, rfl, rfl⟩, ?_⟩
    rw [eq_nil_D]
    walk_at "RD"
    by_cases c : ms = []
    · rw [decide_eq_true c]
      walk_at "RD"
      intro l hl
      have nl : l ≠ st := (ne_of_none e7 hl).symm
      have s9 := same_new hl (.lst [])
      refine h l [] _ o3 (fun b u nb q => s9 _ _ (b7 _ _ nb q)) (s9 _ _ e7) so3 ?_ nl upd_same (fun n hn => by cases hn) (.inl rfl) List.nodup_nil (by simp)
      cases q : H l with
      | none => rfl
      | some u => rw [b7 _ _ nl q] at hl; cases hl
    rw [decide_eq_false c]
    walk_at "RD"
    try subst hR2
    refine seq_hide fun R2 hR2 => ?_
    have hm1 : 1 ≤ ms.length := by
      cases ms with
      | nil => exact absurd rfl c
      | cons _ _ => simp
    simp_arith [seqOf, ez7, List.length_map]
    refine ⟨⟨fl, _, rfl, ef7⟩, ?_⟩
    refine ⟨st, o3, _, rfl, e7, so3, by omega, by omega, fun kk o4 kk0 kk1 so4 => ?_⟩
    have b8 := b7.trans (But.at st H7 o4)
    have e8 : upd H7 st o4 st = some o4 := upd_same
    have ef8 := But.at st H7 o4 _ _ nfl ef7
    have ez8 := But.at st H7 o4 _ _ nzs ez7
    generalize upd H7 st o4 = H8 at b8 e8 ef8 ez8
    obtain ⟨n1, a1, hn1⟩ := atI_mem (ns := ms) kk0 (by omega)
    simp_arith [seqOf, ez8, a1, ef8]
    obtain ⟨q1, q2⟩ := hmm n1 hn1
    have hn1q : n1 ∈ qs := by rw [← hqs]; exact near_in wok q1
    have chn9 := chn.snoc hlt q2 q1
    have hl9 : (fs ++ [n1]).length = 2 + i := by rw [List.length_append, hfl3]; show 1 + i + 1 = _; omega
    have hd9 : (fs ++ [n1]).head? = some n0 := by
      cases fs with
      | nil => cases hhd
      | cons x y => exact hhd
    have lt9 := last_snoc fs n1
    have hq9 : ∀ n ∈ fs ++ [n1], n ∈ qs := fun m hm => by
      rcases List.mem_append.mp hm with hm | hm
      · exact hfs m hm
      · rw [List.mem_singleton.mp hm]
        exact hn1q
    have b9 : But st H (upd H8 fl (.lst (fs.map V.int ++ [.int n1]))) := fun b u nb q => by
      rw [upd_ne (ne_of_none q hfl0)]
      exact b8 b u nb q
    have e9 : upd H8 fl (.lst (fs.map V.int ++ [.int n1])) st = some o4 := by rw [upd_ne nfl.symm]; exact e8
    have ef9 : upd H8 fl (.lst (fs.map V.int ++ [.int n1])) fl = some (.lst ((fs ++ [n1]).map V.int)) := by rw [upd_same, List.map_append]; rfl
    refine ⟨szl' (by rw [List.length_map]; omega), ?_⟩
    generalize upd H8 fl (.lst (fs.map V.int ++ [.int n1])) = H9 at b9 e9 ef9
    generalize hgs : fs ++ [n1] = gs at *
    try subst hR2
    simp_arith [seqOf, ef9, List.length_map]
    refine ⟨by decide, ?_⟩
    have again : ∀ (H' : Hp) (o' : HO), But st H H' → H' st = some o' → StO o' → H' fl = some (.lst (gs.map V.int)) → ∃ v1 v2 fs o3 lst, ([some (.ref st), some (.ref nd), some (.ref lp), some (.ref fl), some (.int (0 + (i : Int))), some (.ref z)] : St) = [some (.ref st), some (.ref nd), some (.ref lp), some (.ref fl), v1, v2] ∧ But st H H' ∧ H' st = some o3 ∧ StO o3 ∧ H' fl = some (.lst (fs.map V.int)) ∧ (∀ n ∈ fs, n ∈ qs) ∧ Chn ts fs ∧ fs.length = 1 + (i + 1) ∧ fs.head? = some n0 ∧ fs.getLast? = some lst :=
      fun H' o' a1 a2 a3 a4 => ⟨_, _, gs, o', n1, rfl, a1, a2, a3, a4, hq9, chn9, by omega, hd9, lt9⟩
    by_cases c2 : (gs.length : Int) % 2 = 1
    · rw [decide_eq_true c2]
      simp_arith [atI_first hd9, atI_last lt9]
      obtain ⟨as9, a9, k1, k2, k3⟩ := (NR b9).get (by rw [hqs]; exact hnd) (by rw [hqs]; exact hn1q)
      simp_arith [seqOf, ef9, atI_first hd9, atI_last lt9, k1, k2, k3, inV_ints, flat_ints, flatV]
      by_cases c3 : n0 ∈ nearL ts n1
      · rw [decide_eq_true c3]
        walk_at "RD"
        refine ⟨st, o4, 3, rfl, e9, so4, by decide, by decide, fun kz o5 kz0 kz1 so5 => ?_⟩
        have b10 := b9.trans (But.at st H9 o5)
        have e10 : upd H9 st o5 st = some o5 := upd_same
        have ef10 := But.at st H9 o5 _ _ nfl ef9
        generalize upd H9 st o5 = H10 at b10 e10 ef10
        walk_at "RD"
        refine ite2 (fun c4 => ?_) (fun c4 => ?_)
        · exact h fl gs _ o5 b10 e10 so5 hfl0 nfl ef10 hq9 (.inr (chn9.ring (by omega) (by omega) hd9 lt9 c3)) chn9.nd (by omega)
        · exact again H10 o5 b10 e10 so5 ef10
      · rw [decide_eq_false c3]
        walk_at "RD"
        have q := again H9 o4 b9 e9 so4 ef9
        simp only [ef9] at q
        exact q
    · rw [decide_eq_false c2]
      walk_at "RD"
      have q := again H9 o4 b9 e9 so4 ef9
      simp only [ef9] at q
      exact q
  · rintro σ H3 ⟨v1, v2, fs, o3, lst, rfl, b3, e3, so3, ef3, hfs, chn, hfl3, hhd, hlt⟩
    walk_at "RD"
    try subst hR
    walk_at "RD"
    intro l hl
    have nl : l ≠ st := (ne_of_none e3 hl).symm
    have s9 := same_new hl (.lst [])
    refine h l [] _ o3 (fun b u nb q => s9 _ _ (b3 _ _ nb q)) (s9 _ _ e3) so3 ?_ nl upd_same (fun n hn => by cases hn) (.inl rfl) List.nodup_nil (by simp)
    cases q : H l with
    | none => rfl
    | some u => rw [b3 _ _ nl q] at hl; cases hl
end
end My
namespace My
open PySem L2
section
variable {P : Program} {w : World} {K : PySem.W.Frag} {mg : Str → Option Value} {base : Heap} {c1 c2 c3 c4 : Tok} {C_NoWeb f_NoWeb : Addr} {dI : FuncData}
def B2 (s d : Addr) (H H' : Hp) : Prop := ∀ b o, b ≠ s → b ≠ d → H b = some o → H' b = some o
theorem B2.trans {s d : Addr} {H H1 H2 : Hp} (a : B2 s d H H1) (b : B2 s d H1 H2) : B2 s d H H2 := fun c o n1 n2 q => b c o n1 n2 (a c o n1 n2 q)
theorem But.b2 {s d : Addr} {H H1 : Hp} (b : But s H H1) : B2 s d H H1 := fun c o n1 _ q => b c o n1 q
theorem same_b2 {s d : Addr} {H H1 : Hp} (b : Same H H1) : B2 s d H H1 := fun c o _ _ q => b c o q
theorem B2.at2 {s d : Addr} {H : Hp} {o : HO} : B2 s d H (upd H d o) := fun c u _ n2 q => by rw [upd_ne n2]; exact q
theorem B2.lst {s d a : Addr} {H H1 : Hp} {xs : List V} {kvs : List (Key × V)} (b : B2 s d H H1) (hd : H d = some (.dK kvs)) (hs : a ≠ s) (ha : H a = some (.lst xs)) : H1 a = some (.lst xs) := b _ _ hs (fun z => by rw [z, hd] at ha; cases ha) ha
theorem B2.tup {s d a : Addr} {H H1 : Hp} {xs : List V} {o : HO} {kvs : List (Key × V)} (b : B2 s d H H1) (hd : H d = some (.dK kvs)) (hs : H s = some o) (so : StO o) (ha : H a = some (.tup xs)) : H1 a = some (.tup xs) := b _ _ (fun z => by
  obtain ⟨_, _, _, rfl, _⟩ := so
  rw [z, hs] at ha; cases ha) (fun z => by rw [z, hd] at ha; cases ha) ha
theorem B2.prs {s d : Addr} {H H1 : Hp} {o : HO} {kvs : List (Key × V)} {xs : List V} {ps : List (Int × Int)} (b : B2 s d H H1) (hd : H d = some (.dK kvs)) (hs : H s = some o) (so : StO o) (h : Prs H xs ps) : Prs H1 xs ps := Paired.mapP h fun x p ⟨t, e, q⟩ => ⟨t, e, b.tup hd hs so q⟩
theorem WebAt.b2 {s d : Addr} {H H1 : Hp} {o : HO} {kvs : List (Key × V)} {v : V} {ps ts : List (Int × Int)} (h : WebAt H v ps ts) (hd : H d = some (.dK kvs)) (hs : H s = some o) (so : StO o) (b : B2 s d H H1) : WebAt H1 v ps ts := by
  obtain ⟨u, pa, ta, xs, ys, e, h1, h2, h3, h4, h5⟩ := h
  exact ⟨u, pa, ta, xs, ys, e, b.tup hd hs so h1, b.lst hd (ne_st h2 h4 hs so) h2, b.lst hd (ne_st h3 h5 hs so) h3, b.prs hd hs so h4, b.prs hd hs so h5⟩
theorem NrAt.b2 {s d n : Addr} {H H1 : Hp} {o : HO} {kvs : List (Key × V)} {ps ts : List (Int × Int)} (h : NrAt H n ps ts) (hd : H d = some (.dK kvs)) (hs : H s = some o) (so : StO o) (ne : n ≠ d) (b : B2 s d H H1) : NrAt H1 n ps ts := by
  obtain ⟨as, e, l, nn⟩ := h
  refine ⟨as, b _ _ (fun z => ?_) ne e, l, fun i p a h1 h2 => b.lst hd (ne_stI (nn i p a h1 h2) hs so) (nn i p a h1 h2)⟩
  obtain ⟨_, _, _, rfl, _⟩ := so
  rw [z, hs] at e
  cases e
theorem B2.free {s d a : Addr} {H H1 : Hp} (b : B2 s d H H1) (n1 : a ≠ s) (n2 : a ≠ d) (h : H1 a = none) : H a = none := by
  cases q : H a with
  | none => rfl
  | some u => rw [b _ _ n1 n2 q] at h; cases h
def PdAt (H : Hp) (d : Addr) (pl : Int → Int) (m : Nat) : Prop := ∃ kvs, H d = some (.dK kvs) ∧ kvs.length ≤ m ∧ ∀ n, (valV kvs (Sum.inl n : Key)).getD (.int 0) = .int (pl n)
def roomsL (ps : List (Int × Int)) (ns : List Int) (pl : Int → Int) : List Int := (ps.filter fun p => decide (p.1 ∈ ns)).map fun p => 2 * p.2 - pl p.1
structure FitR (ps ts : List (Int × Int)) (pl : Int → Int) (r : Row) : Prop where
  ok : rowB ps ts (rowD r) = true
  nd : r.2.1.Nodup
  len : r.2.1.length ≤ 20
  room : ∀ p ∈ ps, p.1 ∈ r.2.1 → pl p.1 + r.2.2 ≤ 2 * p.2
def spRow16 : Sp := fun vs H Q _ => ∃ st o v nd pd ps ts pl m, vs = [.ref st, v, .ref nd, .ref pd] ∧ H st = some o ∧ StO o ∧ WebAt H v ps ts ∧ WebOk ps ts ∧ NrAt H nd ps ts ∧ nd ≠ pd ∧ st ≠ pd ∧ ps ≠ [] ∧ PdAt H pd pl m ∧ m ≤ 100000 ∧ (∀ n, 0 ≤ pl n) ∧
  (∀ H' o', B2 st pd H H' → H' st = some o' → StO o' → PdAt H' pd pl m → Q .non H') ∧
  ∀ u l r H' o', B2 st pd H H' → H' st = some o' → StO o' → H u = none → H l = none → l ≠ st → l ≠ pd → u ≠ st → u ≠ pd → H' u = some (.tup [.str r.1, .ref l, .int r.2.2]) → H' l = some (.lst (r.2.1.map V.int)) → FitR ps ts pl r → PdAt H' pd (fun n => pl n + r.2.2 * (r.2.1.count n : Int)) (m + 20) → Q (.ref u) H'
theorem PlOk.nbp : ∀ {ps : List (Int × Int)} {l s : Int}, PlOk l s ps → 0 ≤ s → ∀ p ∈ ps, 1 ≤ p.2 ∧ p.2 ≤ 1000000000000
  | [], _, _, _, _, _, h => by cases h
  | q :: r, l, s, h, hs, p, hp => by
    rcases List.mem_cons.mp hp with e | hp
    · rw [e]; have := h.1; omega
    · exact PlOk.nbp h.2 (by have := h.1; omega) p hp
theorem row_all {ps ts : List (Int × Int)} {ns : List Int} {am : Int} (h1 : ∀ n ∈ ns, n ∈ ps.map (·.1)) (h2 : pwB ts ns = true) (h3 : 2 ≤ ns.length) (h4 : 1 ≤ am) : rowB ps ts (rowD ((("all" : String) : Str), ns, am)) = true := by
  have hp : (ns.map Dt.int).all (isPlP ps) = true := by
    rw [List.all_map, List.all_eq_true]
    intro n hn
    exact decide_eq_true (h1 n hn)
  unfold rowD rowB rowT
  dsimp only
  rw [decide_eq_true h4, hp, intsD_map, if_pos rfl]
  unfold allB
  rw [h2, decide_eq_true h3]
  rfl
theorem ring_all : ¬ ((("ring" : String) : Str) = (("all" : String) : Str)) := by decide +kernel
theorem row_ring {ps ts : List (Int × Int)} {ns : List Int} {am : Int} (h1 : ∀ n ∈ ns, n ∈ ps.map (·.1)) (h2 : ringB ts ns = true) (h4 : 1 ≤ am) : rowB ps ts (rowD ((("ring" : String) : Str), ns, am)) = true := by
  have hp : (ns.map Dt.int).all (isPlP ps) = true := by
    rw [List.all_map, List.all_eq_true]
    intro n hn
    exact decide_eq_true (h1 n hn)
  unfold rowD rowB rowT
  dsimp only
  rw [decide_eq_true h4, hp, intsD_map, if_neg ring_all, h2, decide_eq_true rfl]
  rfl
theorem ok_law_row {f : Addr} {fd : FuncData} {f_law_take : Addr} {d_law_take : FuncData} {f_law_all : Addr} {d_law_all : FuncData} {f_law_ring : Addr} {d_law_ring : FuncData} (B : Blt mg) (D : DefAt K mg "_law_row" (top 50) ["_law_state", "_law_web_here", "_law_book", "_law_paid"] f fd) (D_law_take : DefAt K mg "_law_take" (top 44) ["_law_state", "_law_many"] f_law_take d_law_take) (G_law_take : FnOk P w K mg base CX0 1 f_law_take d_law_take ["_law_state", "_law_many"] spTake) (D_law_all : DefAt K mg "_law_all" (top 48) ["_law_state", "_law_book", "_law_places_here"] f_law_all d_law_all) (G_law_all : FnOk P w K mg base CX0 2 f_law_all d_law_all ["_law_state", "_law_book", "_law_places_here"] spLAll) (D_law_ring : DefAt K mg "_law_ring" (top 49) ["_law_state", "_law_book", "_law_places_here"] f_law_ring d_law_ring) (G_law_ring : FnOk P w K mg base CX0 2 f_law_ring d_law_ring ["_law_state", "_law_book", "_law_places_here"] spLRing) : FnOk P w K mg base CX0 3 f fd ["_law_state", "_law_web_here", "_law_book", "_law_paid"] spRow16 := by
  have sc : FnScope ["_law_state", "_law_web_here", "_law_book", "_law_paid", "_law_places_here", "_law_word", "_law_some", "_law_rooms", "_law_place", "_law_price", "_law_room", "_law_amount"] ["_law_state", "_law_web_here", "_law_book", "_law_paid"] (defScope (top 50)) := ⟨rfl, rfl, rfl, by decide +kernel, rfl, by decide +kernel, by decide +kernel⟩
  refine D.F.ok sc (fun vs H Q E h => ?_) (fun cdv A outer s H vs Q E hr h => ?_)
  · obtain ⟨st, o, v, nd, pd, ps, ts, pl, m, rfl, _⟩ := h
    rfl
  obtain ⟨st, o, v, nd, pd, ps, ts, pl, m, rfl, es, so, hw, wok, nr, nnp, nsp, hne, hpd, hm9, hpl0, hN, hY⟩ := h
  obtain ⟨kvs, epd, hkl, hpv⟩ := id hpd
  obtain ⟨xv, pa, ta, xs, ys, rfl, ex, ep, et, pp, pt⟩ := id hw
  have hlx : xs.length = ps.length := Paired.length pp
  have hpl := wok.pl
  have hnd := wok.p.nodup
  have WB : ∀ {H2 : Hp}, B2 st pd H H2 → WebAt H2 (.ref xv) ps ts := fun b => hw.b2 epd es so b
  have NB : ∀ {H2 : Hp}, B2 st pd H H2 → NrAt H2 nd ps ts := fun b => nr.b2 epd es so nnp b
  have EX : ∀ {H2 : Hp}, B2 st pd H H2 → H2 xv = some (.tup [.ref pa, .ref ta]) := fun b => b.tup epd es so ex
  have EP : ∀ {H2 : Hp}, B2 st pd H H2 → H2 pa = some (.lst xs) := fun b => b.lst epd (ne_st ep pp es so) ep
  have PP : ∀ {H2 : Hp}, B2 st pd H H2 → Prs H2 xs ps := fun b => b.prs epd es so pp
  have hFE : ∀ (f : Addr) (sp : Sp), (f, sp) ∈ [(f_law_all, spLAll), (f_law_ring, spLRing)] → ∃ fd ps, FnOk P w K mg base CX0 2 f fd ps sp ∧ PySem.W.keepIn K (.ref f) = true ∧ Binds K fd ps [] := fun f sp hm => by
    rcases List.mem_cons.mp hm with e | hm
    · cases e
      exact ⟨_, _, G_law_all, D_law_all.F.kp, D_law_all.b⟩
    · rcases List.mem_cons.mp hm with e | hm
      · cases e
        exact ⟨_, _, G_law_ring, D_law_ring.F.kp, D_law_ring.b⟩
      · cases hm
  have hu := hu_of hr
  have hu0 : _ < PySem.cLine := Nat.lt_of_succ_lt hu
  refine ⟨_, (pss_cons (ps_setc (i := 4) sc.nd rfl (Or.inl rfl) (CpScope.of (N := ["_law_place", "_law_price"]) (src := [none, none]) (by rfl)) rfl (pi_list (pe_ix q_ix (qv 1) pe_int (fun _ _ => rfl))) (fun _ _ _ _ => (qg_tup (n := 2) rfl (qgs_cons (pg_name (i := 0) (nodupB_ok (l := ["_law_place", "_law_price"]) (by rfl)) rfl (Or.inl rfl)) (qgs_cons (pg_name (i := 1) (nodupB_ok (l := ["_law_place", "_law_price"]) (by rfl)) rfl (Or.inl rfl)) qgs_nil)))) (fun _ _ _ _ => pif_nil) (fun _ _ _ _ => (qv 0))) (pss_cons (ps_set (i := 5) sc.nd rfl (Or.inl rfl) (pe_ix q_ix (pe_lst (pa_cons pe_str (pa_cons pe_str pa_nil))) (pe_call G_law_take (hr.mono (by decide)) rfl D_law_take.m D_law_take.F.kp D_law_take.b .nil pass0 (pa_cons (qv 0) (pa_cons pe_int pa_nil))) (fun _ _ => rfl))) (pss_cons (ps_set (i := 6) sc.nd rfl (Or.inl rfl) (pe_callE (fs := [(f_law_all, spLAll), (f_law_ring, spLRing)]) (pe_ix q_ix (pe_lst (pa_cons (pe_gref rfl D_law_all.m) (pa_cons (pe_gref rfl D_law_ring.m) pa_nil))) (pe_callTy q_int1 rfl B.int PyProof.Rows.boot_int (pa_cons (pe_cmpR q_eq (qv 5) pe_str (nomark _)) pa_nil)) (fun _ _ => rfl)) hFE (hr.mono (by decide)) (pa_cons (qv 0) (pa_cons (qv 2) (pa_cons (qv 4) pa_nil))))) (pss_cons (ps_set (i := 7) sc.nd rfl (Or.inl rfl) (pe_lst pa_nil)) (pss_cons (ps_for PassesOwn.never rfl (pi_list (pe_ix q_ix (qv 1) pe_int (fun _ _ => rfl))) (qg_tup (n := 2) rfl (qgs_cons (pg_name (i := 8) sc.nd rfl (Or.inl rfl)) (qgs_cons (pg_name (i := 9) sc.nd rfl (Or.inl rfl)) qgs_nil))) (pss_one (ps_if (qt_cmp q_inL (qv 8) (qv 6) (by with_unfolding_all rfl)) (pss_one (ps_expr (q_bm PySem.F.plainAttrs_list PySem.F.slot_list_append PySem.F.type_list_append q_append (qv 7) (pa_cons (pe_op q_sub (pe_op q_mul pe_int (qv 9)) (q_dget2 hu (qv 3) (qv 8) pe_int)) pa_nil)))) pss_nil))) (pss_cons (ps_set (i := 10) sc.nd rfl (Or.inl rfl) (pe_callBK (call_minD rfl) rfl B.min PyProof.Rows.boot_min (pa_cons (qv 7) pa_nil) (pk_cons pe_int pk_nil))) (pss_cons (ps_if (PW.pt (pw_or (qt_cmp q_lt (pe_callB q_len rfl B.len PySem.boot_len (pa_cons (qv 6) pa_nil)) pe_int (nomark _)) (pw_or1 (qt_cmp q_lt (qv 10) pe_int (nomark _))))) (pss_one (ps_ret pe_non)) pss_nil) (pss_cons (ps_set (i := 11) sc.nd rfl (Or.inl rfl) (pe_ix q_ix (pe_lst (pa_cons pe_int (pa_cons (qv 10) (pa_cons (pe_op q_add pe_int (pe_call G_law_take (hr.mono (by decide)) rfl D_law_take.m D_law_take.F.kp D_law_take.b .nil pass0 (pa_cons (qv 0) (pa_cons (qv 10) pa_nil)))) pa_nil)))) (pe_call G_law_take (hr.mono (by decide)) rfl D_law_take.m D_law_take.F.kp D_law_take.b .nil pass0 (pa_cons (qv 0) (pa_cons pe_int pa_nil))) (fun _ _ => rfl))) (pss_cons (ps_for PassesOwn.never rfl (pi_list (qv 6)) (pg_name (i := 8) sc.nd rfl (Or.inl rfl)) (pss_one (q_dput hu (qv 3) (qv 8) (pe_op q_add (q_dget2 hu (qv 3) (qv 8) pe_int) (qv 11))))) (pss_one (ps_ret (pe_tup (pa_cons (qv 5) (pa_cons (qv 6) (pa_cons (qv 11) pa_nil))))))))))))))), ?_⟩
  refine seq_hide fun R hR => ?_
  walk_at "RD"
  refine tComp_hide (Itl K pa) H (fun R' hR' => ?_) (fun lp hlp => comp_run ps.length (fun i σ' Hc => ∃ w1 w2, σ' = [w1, w2] ∧ Same H Hc ∧ Hc lp = some (.lst (((ps.take i).map (·.1)).map V.int))) ⟨none, none, rfl, same_new hlp _, upd_same⟩ ?_ ?_)
  · unfold iList
    simp_arith [seqOf, ex, at0]
    exact ⟨pa, rfl, ⟨_, SqL.of ep⟩, hR'⟩
  · rintro i σ' Hc hi ⟨w1, w2, rfl, s4, ez⟩
    have x1 : xs[i]? = some (xs[i]'(by omega)) := List.getElem?_eq_getElem _
    have z1 : SqL K Hc pa xs := SqL.of (s4 _ _ ep)
    refine ⟨⟨_, _, z1, x1⟩, ?_⟩
    rintro y H' ⟨rfl, hy⟩
    obtain ⟨q, hq, pq⟩ := paired_left pp (hy _ z1)
    obtain ⟨t, rfl, ht⟩ := pq.same s4
    simp_arith [ht]
    refine ⟨_, ez, ?_, _, _, rfl, same_upd s4 hlp, ?_⟩
    · rw [List.length_map, List.length_map, List.length_take]
      exact szl' (by omega)
    · rw [upd_same, take_get hq, List.map_append, List.map_append]
      rfl
  rintro σ' H1 ⟨w1, w2, rfl, s1, elp⟩
  refine ⟨⟨_, SqL.of (s1 _ _ ep), by omega⟩, ?_⟩
  rw [List.take_length] at elp
  have nlps : lp ≠ st := (ne_of_none es hlp).symm
  have nlpp : lp ≠ pd := (ne_of_none epd hlp).symm
  have e1 := s1 _ _ es
  have d1 := s1 _ _ epd
  have b1 : B2 st pd H H1 := same_b2 s1
  walk_at "RD"
  try subst hR
  refine seq_hide fun R hR => ?_
  walk_at "RD"
  intro q1 hq1
  have s2 := same_new hq1 (.lst [.str "all", .str "ring"])
  have eq2 : upd H1 q1 (.lst [.str "all", .str "ring"]) q1 = some (.lst [.str "all", .str "ring"]) := upd_same
  have b2 : B2 st pd H (upd H1 q1 (.lst [.str "all", .str "ring"])) := b1.trans (same_b2 s2)
  have e2 := s2 _ _ e1
  have d2 := s2 _ _ d1
  have elp2 := s2 _ _ elp
  generalize upd H1 q1 (.lst [.str "all", .str "ring"]) = H2 at eq2 b2 e2 d2 elp2
  have nq1 : q1 ≠ st := (ne_of_none e1 hq1).symm
  refine ⟨st, o, 2, rfl, e2, so, by decide, by decide, fun kw o3 kw0 kw1 so3 => ?_⟩
  have b3 : B2 st pd H (upd H2 st o3) := b2.trans (But.b2 (But.at st H2 o3))
  have e3 : upd H2 st o3 st = some o3 := upd_same
  have d3 := But.at st H2 o3 _ _ nsp.symm d2
  have elp3 := But.at st H2 o3 _ _ nlps elp2
  have eq3 := But.at st H2 o3 _ _ nq1 eq2
  generalize upd H2 st o3 = H3 at b3 e3 d3 elp3 eq3
  obtain ⟨w, aw, hw01⟩ : ∃ w : Str, atI [V.str "all", .str "ring"] kw = some (.str w) ∧ (w = (("all" : String) : Str) ∨ w = (("ring" : String) : Str)) := by
    have : kw = 0 ∨ kw = 1 := by omega
    rcases this with rfl | rfl
    · exact ⟨_, rfl, .inl rfl⟩
    · exact ⟨_, rfl, .inr rfl⟩
  simp_arith [seqOf, eq3, aw]
  try subst hR
  refine seq_hide fun R hR => ?_
  simp_arith [tCallE]
  intro q4 hq4
  have s4 := same_new hq4 (.lst [.ref f_law_all, .ref f_law_ring])
  have eq4 : upd H3 q4 (.lst [.ref f_law_all, .ref f_law_ring]) q4 = some (.lst [.ref f_law_all, .ref f_law_ring]) := upd_same
  have b4 : B2 st pd H (upd H3 q4 (.lst [.ref f_law_all, .ref f_law_ring])) := b3.trans (same_b2 s4)
  have e4 := s4 _ _ e3
  have d4 := s4 _ _ d3
  have elp4 := s4 _ _ elp3
  generalize upd H3 q4 (.lst [.ref f_law_all, .ref f_law_ring]) = H4 at eq4 b4 e4 d4 elp4
  -- what both tell
  have go : ∀ (l : Addr) (ns : List Int) (H5 : Hp) (o5 : HO), But st H4 H5 → H5 st = some o5 → StO o5 → H4 l = none → l ≠ st → H5 l = some (.lst (ns.map V.int)) → (∀ n ∈ ns, n ∈ ps.map (·.1)) → (2 ≤ ns.length → ∀ am : Int, 1 ≤ am → rowB ps ts (rowD (w, ns, am)) = true) → ns.Nodup → ns.length ≤ 20 →
      R { nx := fun _ H' => Q .non H', rt := Q } [some (.ref st), some (.ref xv), some (.ref nd), some (.ref pd), some (.ref lp), some (.str w), some (.ref l), none, none, none, none, none] H5 := by
    intro l ns H5 o5 b5 e5 so5 hl4 nls el hin hrow hnn hn20
    have b05 : B2 st pd H H5 := b4.trans (But.b2 b5)
    have d5 : H5 pd = some (.dK kvs) := b5 _ _ nsp.symm d4
    have nlp5 : l ≠ pd := (ne_of_none d4 hl4).symm
    have hl0 : H l = none := b4.free nls nlp5 hl4
    subst hR
    refine seq_hide fun R hR => ?_
    walk_at "RD"
    intro rl hrl
    have s6 := same_new hrl (.lst [])
    have erl6 : upd H5 rl (.lst []) rl = some (.lst (([] : List Int).map V.int)) := upd_same
    have b06 : B2 st pd H (upd H5 rl (.lst [])) := b05.trans (same_b2 s6)
    have e6 := s6 _ _ e5
    have d6 := s6 _ _ d5
    have el6 := s6 _ _ el
    have nrs : rl ≠ st := (ne_of_none e5 hrl).symm
    have nrp : rl ≠ pd := (ne_of_none d5 hrl).symm
    have nrl : l ≠ rl := ne_of_none el hrl
    have hrl0 : H rl = none := b05.free nrs nrp hrl
    generalize upd H5 rl (.lst []) = H6 at erl6 b06 e6 d6 el6
    try subst hR
    refine seq_hide fun R hR => ?_
    refine tFor_hide (Itl K pa) H6 (fun R' hR' => ?_) (for_list (K := K) (a := pa) (xs := xs) (fun i σ H7 => ∃ v1 v2, σ = [some (.ref st), some (.ref xv), some (.ref nd), some (.ref pd), some (.ref lp), some (.str w), some (.ref l), some (.ref rl), v1, v2, none, none] ∧ B2 st pd H H7 ∧ H7 st = some o5 ∧ H7 pd = some (.dK kvs) ∧ H7 l = some (.lst (ns.map V.int)) ∧ H7 rl = some (.lst ((roomsL (ps.take i) ns pl).map V.int))) ⟨none, none, rfl, b06, e6, d6, el6, erl6⟩ (fun i σ H7 _ ⟨_, _, _, b7, _⟩ => SqL.of (EP b7)) ?_ ?_)
    · unfold iList
      simp_arith [seqOf, EX b06, at0]
      exact ⟨pa, rfl, ⟨_, SqL.of (EP b06)⟩, hR'⟩
    · rintro i x σ H7 hx ⟨v1, v2, rfl, b7, e7, d7, el7, erl7⟩
      obtain ⟨p, hpi, px⟩ := paired_left (PP b7) hx
      obtain ⟨t, rfl, ht⟩ := px
      have hil : i < ps.length := (List.getElem?_eq_some_iff.mp hpi).1
      have ft : roomsL (ps.take (i + 1)) ns pl = roomsL (ps.take i) ns pl ++ (if decide (p.1 ∈ ns) = true then [2 * p.2 - pl p.1] else []) := by
        unfold roomsL
        rw [filter_take hpi, List.map_append]
        split <;> rfl
      have hrlen : (roomsL (ps.take i) ns pl).length ≤ i := by
        unfold roomsL
        rw [List.length_map]
        exact Nat.le_trans (List.length_filter_le _ _) (by rw [List.length_take]; omega)
      simp_arith [ht, seqOf, el7, inV_ints, flat_ints, flatV]
      rw [ft]
      by_cases c : p.1 ∈ ns
      · simp only [c, decide_true, if_true]
        simp_arith [d7, hpv]
        refine ⟨⟨rl, _, rfl, erl7⟩, .inl ⟨by decide, by decide⟩, ⟨kvs, rfl⟩, ?_⟩
        simp_arith [d7, hpv, erl7]
        refine ⟨szl' (by rw [List.length_map]; omega), _, _, rfl, fun b u n1 n2 q => ?_, ?_, ?_, ?_, ?_⟩
        · rw [upd_ne (ne_of_none q hrl0)]
          exact b7 b u n1 n2 q
        · rw [upd_ne nrs.symm]
          exact e7
        · rw [upd_ne nrp.symm]
          exact d7
        · rw [upd_ne nrl]
          exact el7
        · rw [upd_same, List.map_append]
          rfl
      · simp only [c, decide_false, Bool.false_eq_true, if_false, List.append_nil]
        exact ⟨_, _, rfl, b7, e7, d7, erl7⟩
    rintro σ H7 ⟨v1, v2, rfl, b7, e7, d7, el7, erl7⟩
    rw [hlx, List.take_length] at erl7
    generalize hrm : roomsL ps ns pl = rms at erl7
    walk_at "RD"
    try subst hR
    refine seq_hide fun R hR => ?_
    walk_at "RD"
    refine ⟨rl, rms, 0, rfl, rfl, erl7, fun room r0 r1 r2 => ?_⟩
    walk_at "RD"
    try subst hR
    refine seq_hide fun R hR => ?_
    simp_arith [seqOf, el7, List.length_map]
    have pd7 : PdAt H7 pd pl m := ⟨kvs, d7, hkl, hpv⟩
    by_cases c1 : ns.length < 2
    · rw [decide_eq_true (show (ns.length : Int) < 2 by omega)]
      walk_at "RD"
      exact hN H7 o5 b7 e7 so5 pd7
    rw [decide_eq_false (show ¬ (ns.length : Int) < 2 by omega)]
    walk_at "RD"
    by_cases c2 : room < 1
    · rw [decide_eq_true c2]
      walk_at "RD"
      exact hN H7 o5 b7 e7 so5 pd7
    rw [decide_eq_false c2]
    walk_at "RD"
    have hroom : ∀ p ∈ ps, p.1 ∈ ns → room ≤ 2 * p.2 - pl p.1 := fun p hp hn => by
      refine r2 _ ?_
      rw [← hrm]
      exact List.mem_map.mpr ⟨p, List.mem_filter.mpr ⟨hp, decide_eq_true hn⟩, rfl⟩
    have hmax : room < 1000000000000000000 := by
      by_cases c3 : rms = []
      · rw [r0 c3]; decide
      · have h1 := r1 c3
        rw [← hrm] at h1
        obtain ⟨p, hp, e⟩ := List.mem_map.mp h1
        have hp' := (List.mem_filter.mp hp).1
        have := (wok.p.nbp (by decide) p hp').2
        have := hpl0 p.1
        omega
    try subst hR
    refine seq_hide fun R hR => ?_
    walk_at "RD"
    refine ⟨st, o5, room, rfl, e7, so5, by omega, hmax, fun dr o8 dr0 dr1 so8 => ?_⟩
    have b8 : B2 st pd H (upd H7 st o8) := b7.trans (But.b2 (But.at st H7 o8))
    have e8 : upd H7 st o8 st = some o8 := upd_same
    have d8 := But.at st H7 o8 _ _ nsp.symm d7
    have el8 := But.at st H7 o8 _ _ nls el7
    generalize upd H7 st o8 = H8 at b8 e8 d8 el8
    walk_at "RD"
    intro q9 hq9
    have s9 := same_new hq9 (.lst [.int 1, .int room, .int (1 + dr)])
    have eq9 : upd H8 q9 (.lst [.int 1, .int room, .int (1 + dr)]) q9 = some (.lst [.int 1, .int room, .int (1 + dr)]) := upd_same
    have b9 : B2 st pd H (upd H8 q9 (.lst [.int 1, .int room, .int (1 + dr)])) := b8.trans (same_b2 s9)
    have e9 := s9 _ _ e8
    have d9 := s9 _ _ d8
    have el9 := s9 _ _ el8
    have nq9 : q9 ≠ st := (ne_of_none e8 hq9).symm
    generalize upd H8 q9 (.lst [.int 1, .int room, .int (1 + dr)]) = H9 at eq9 b9 e9 d9 el9
    refine ⟨st, o8, 3, rfl, e9, so8, by decide, by decide, fun ka o10 ka0 ka1 so10 => ?_⟩
    have b10 : B2 st pd H (upd H9 st o10) := b9.trans (But.b2 (But.at st H9 o10))
    have e10 : upd H9 st o10 st = some o10 := upd_same
    have d10 := But.at st H9 o10 _ _ nsp.symm d9
    have el10 := But.at st H9 o10 _ _ nls el9
    have eq10 := But.at st H9 o10 _ _ nq9 eq9
    generalize upd H9 st o10 = H10 at b10 e10 d10 el10 eq10
    obtain ⟨am, aam, am1, am2⟩ : ∃ am : Int, atI [V.int 1, .int room, .int (1 + dr)] ka = some (.int am) ∧ 1 ≤ am ∧ am ≤ room := by
      have : ka = 0 ∨ ka = 1 ∨ ka = 2 := by omega
      rcases this with rfl | rfl | rfl
      · exact ⟨1, rfl, by omega, by omega⟩
      · exact ⟨room, rfl, by omega, by omega⟩
      · exact ⟨1 + dr, rfl, by omega, by omega⟩
    simp_arith [seqOf, eq10, aam]
    try subst hR
    refine seq_hide fun R hR => ?_
    refine tFor_hide (Itl K l) H10 (fun R' hR' => ?_) (for_list (K := K) (a := l) (xs := ns.map V.int) (fun j σ H11 => ∃ v1 kv2, σ = [some (.ref st), some (.ref xv), some (.ref nd), some (.ref pd), some (.ref lp), some (.str w), some (.ref l), some (.ref rl), v1, v2, some (.int room), some (.int am)] ∧ B2 st pd H H11 ∧ H11 st = some o10 ∧ H11 l = some (.lst (ns.map V.int)) ∧ H11 pd = some (.dK kv2) ∧ kv2.length ≤ m + j ∧ ∀ n, (valV kv2 (Sum.inl n : Key)).getD (.int 0) = .int (pl n + am * ((ns.take j).count n : Int))) ⟨_, kvs, rfl, b10, e10, el10, d10, by omega, fun n => by rw [hpv]; simp⟩ (fun j σ H11 _ ⟨_, _, _, _, _, e11, _⟩ => SqL.of e11) ?_ ?_)
    · unfold iList
      walk_at "RD"
      exact ⟨l, rfl, ⟨_, SqL.of el10⟩, hR'⟩
    · rintro j y σ H11 hj ⟨v1', kv2, rfl, b11, e11, el11, d11, hk2, hv2⟩
      obtain ⟨n, hn, rfl⟩ : ∃ n, ns[j]? = some n ∧ y = .int n := by
        rw [List.getElem?_map] at hj
        cases c : ns[j]? with
        | none => rw [c] at hj; cases hj
        | some n => rw [c] at hj; cases hj; exact ⟨n, rfl, rfl⟩
      have hjl : j < ns.length := (List.getElem?_eq_some_iff.mp hn).1
      simp_arith [d11, hv2]
      refine ⟨⟨kv2, rfl⟩, ?_⟩
      simp_arith [d11, hv2]
      refine ⟨szg (by omega), _, _, rfl, b11.trans B2.at2, ?_, ?_, upd_same, ?_, fun k => ?_⟩
      · rw [upd_ne nsp]
        exact e11
      · rw [upd_ne nlp5]
        exact el11
      · have := length_putK kv2 (Sum.inl n : Key) (V.int (pl n + am * ((ns.take j).count n : Int) + am))
        omega
      · rw [valV_put, take_get hn, List.count_append]
        by_cases c : k = n
        · subst c
          rw [if_pos rfl]
          simp [Int.mul_add]
          omega
        · rw [if_neg (fun z => c (Sum.inl.inj z)), hv2 k]
          simp [List.count_cons, Ne.symm c]
    rintro σ H11 ⟨v1', kv2, rfl, b11, e11, el11, d11, hk2, hv2⟩
    rw [List.length_map] at hk2 hv2
    rw [List.take_length] at hv2
    walk_at "RD"
    try subst hR
    walk_at "RD"
    intro u hu11
    have s12 := same_new hu11 (.tup [.str w, .ref l, .int am])
    have nus : u ≠ st := (ne_of_none e11 hu11).symm
    have nup : u ≠ pd := (ne_of_none d11 hu11).symm
    refine hY u l (w, ns, am) _ o10 (b11.trans (same_b2 s12)) (s12 _ _ e11) so10 (b11.free nus nup hu11) hl0 nls nlp5 nus nup upd_same (s12 _ _ el11) ⟨hrow (by omega) am am1, hnn, hn20, fun p hp hn => ?_⟩ ⟨kv2, s12 _ _ d11, by omega, hv2⟩
    have := hroom p hp hn
    show pl p.1 + am ≤ 2 * p.2
    omega
  rcases hw01 with rfl | rfl
  · have hwr : decide ((("all" : String) : Str) = (("ring" : String) : Str)) = false := by decide +kernel
    simp_arith [hwr, seqOf, eq4, at0]
    refine ⟨f_law_all, spLAll, .head _, rfl, ?_⟩
    walk_at "RD"
    refine ⟨st, o3, nd, lp, ps, ts, rfl, e4, so3, NB b4, wok, elp4, hne, fun l ns H5 o5 b5 e5 so5 hl4 nls el hin hpw hnn hn20 => ?_⟩
    walk_at "RD"
    exact go l ns H5 o5 b5 e5 so5 hl4 nls el hin (fun h2 am h1 => row_all hin hpw h2 h1) hnn hn20
  · have hwr : decide ((("ring" : String) : Str) = (("ring" : String) : Str)) = true := by decide +kernel
    simp_arith [hwr, seqOf, eq4, at1]
    refine ⟨f_law_ring, spLRing, .tail _ (.head _), rfl, ?_⟩
    walk_at "RD"
    refine ⟨st, o3, nd, lp, ps, ts, rfl, e4, so3, NB b4, wok, elp4, hne, fun l ns H5 o5 b5 e5 so5 hl4 nls el hin hrg hnn hn20 => ?_⟩
    walk_at "RD"
    exact go l ns H5 o5 b5 e5 so5 hl4 nls el hin (fun h2 am h1 => row_ring hin (hrg.resolve_left fun z => by rw [z] at h2; simp at h2) h1) hnn hn20
end
end My
namespace My
open PySem L2
section
variable {P : Program} {w : World} {K : PySem.W.Frag} {mg : Str → Option Value} {base : Heap} {c1 c2 c3 c4 : Tok} {C_NoWeb f_NoWeb : Addr} {dI : FuncData}
def RowA (H : Hp) (rl : Addr) (x : V) (r : Row) : Prop := ∃ u l, x = .ref u ∧ H u = some (.tup [.str r.1, .ref l, .int r.2.2]) ∧ H l = some (.lst (r.2.1.map V.int)) ∧ l ≠ rl
theorem RowA.rep {H : Hp} {rl : Addr} {x : V} {r : Row} (h : RowA H rl x r) : Rep H (rowD r) x := by
  obtain ⟨u, l, rfl, e1, e2, _⟩ := h
  unfold rowD
  rw [Rep]
  refine ⟨u, _, rfl, e1, ?_⟩
  rw [Reps]
  refine ⟨_, _, rfl, by rw [Rep], ?_⟩
  rw [Reps]
  refine ⟨_, _, rfl, rep_lstI e2, ?_⟩
  rw [Reps]
  exact ⟨_, _, rfl, by rw [Rep], by rw [Reps]⟩
structure GoodRs (ps ts : List (Int × Int)) (rows : List Row) : Prop where
  ok : ∀ r ∈ rows, rowB ps ts (rowD r) = true
  nd : ∀ r ∈ rows, r.2.1.Nodup
  len : ∀ r ∈ rows, r.2.1.length ≤ 20
theorem count_nd : ∀ {ns : List Int} {n : Int}, ns.Nodup → n ∈ ns → ns.count n = 1
  | [], _, _, h => by cases h
  | a :: r, n, h, m => by
    have h' := List.nodup_cons.mp h
    rw [List.count_cons]
    rcases List.mem_cons.mp m with e | m
    · subst e
      rw [List.count_eq_zero_of_not_mem h'.1]
      simp
    · rw [count_nd h'.2 m]
      have : a ≠ n := fun z => h'.1 (z ▸ m)
      simp [this]
theorem GoodRs.nil (ps ts : List (Int × Int)) : GoodRs ps ts [] := ⟨(fun _ h => by cases h), (fun _ h => by cases h), (fun _ h => by cases h)⟩
theorem rowB_pos {ps ts : List (Int × Int)} {r : Row} (h : rowB ps ts (rowD r) = true) : 1 ≤ r.2.2 ∧ (∀ n ∈ r.2.1, n ∈ ps.map (·.1)) ∧ 2 ≤ r.2.1.length := by
  obtain ⟨w, ns, am⟩ := r
  have hp : rowOf (rowD (w, ns, am)) = some (w, ns, am) := by
    show some (w, intsD (ns.map Dt.int), am) = _
    rw [intsD_map]
  obtain ⟨r', e1, e2, e3, e4⟩ := rowB_row h
  rw [hp] at e2
  cases e2
  refine ⟨e3, e4, ?_⟩
  unfold rowD rowB rowT at h
  dsimp only at h
  rw [intsD_map] at h
  simp only [Bool.and_eq_true] at h
  obtain ⟨_, _, h⟩ := h
  split at h
  · unfold allB at h
    rw [Bool.and_eq_true] at h
    exact of_decide_eq_true h.2
  · rw [Bool.and_eq_true] at h
    unfold ringB at h
    simp only [Bool.and_eq_true, decide_eq_true_eq] at h
    show 2 ≤ ns.length
    omega
theorem paidL_snoc (rows : List Row) (r : Row) (n : Int) : paidL (rows ++ [r]) n = paidL rows n + r.2.2 * (r.2.1.count n : Int) := by
  unfold paidL
  rw [List.map_append, List.sum_append]
  simp
theorem paidL_nn {ps ts : List (Int × Int)} {n : Int} : ∀ {rows : List Row}, (∀ r ∈ rows, rowB ps ts (rowD r) = true) → 0 ≤ paidL rows n
  | [], _ => by simp [paidL]
  | r :: rs, h => by
    have h1 := (rowB_pos (h r (.head _))).1
    have h2 := paidL_nn (n := n) fun q hq => h q (.tail _ hq)
    have e : paidL (r :: rs) n = r.2.2 * (r.2.1.count n : Int) + paidL rs n := by simp [paidL]
    rw [e]
    have : 0 ≤ r.2.2 * (r.2.1.count n : Int) := Int.mul_nonneg (by omega) (Int.natCast_nonneg _)
    omega
def spRows16 : Sp := fun vs H Q _ => ∃ st o v most ps ts, vs = [.ref st, v, .int most] ∧ H st = some o ∧ StO o ∧ WebAt H v ps ts ∧ WebOk ps ts ∧ 0 ≤ most ∧ most ≤ 12 ∧
  ∀ l xs rows H' o', But st H H' → H' st = some o' → StO o' → H l = none → l ≠ st → H' l = some (.lst xs) → Paired (RowA H' l) xs rows → GoodRs ps ts rows → (rows.length : Int) ≤ most → (∀ p ∈ ps, paidL rows p.1 ≤ 2 * p.2) → Q (.ref l) H'
theorem eq_nil_P {ts : List (Int × Int)} : eqP (.lst (ts.map pairD)) (.lst []) = decide (ts = []) := by
  cases ts with
  | nil => rfl
  | cons a r => rw [eqP]; rfl
theorem dep_pairsD : ∀ (ts : List (Int × Int)), depP (.lst (ts.map pairD)) ≤ 20 := fun ts => by
  have : ∀ ts : List (Int × Int), depPs (ts.map pairD) ≤ 1 := fun ts => by
    induction ts with
    | nil => simp [depPs]
    | cons a r ih =>
      rw [List.map_cons, depPs]
      have : depP (pairD a) = 1 := by simp [pairD, depP, depPs]
      omega
  rw [depP]
  have := this ts
  omega
theorem ok_law_rows {f : Addr} {fd : FuncData} {f_law_near : Addr} {d_law_near : FuncData} {f_law_take : Addr} {d_law_take : FuncData} {f_law_row : Addr} {d_law_row : FuncData} (B : Blt mg) (D : DefAt K mg "_law_rows" (top 51) ["_law_state", "_law_web_here", "_law_most"] f fd) (D_law_near : DefAt K mg "_law_near" (top 47) ["_law_web_here"] f_law_near d_law_near) (G_law_near : FnOk P w K mg base CX0 1 f_law_near d_law_near ["_law_web_here"] spNearsIn) (D_law_take : DefAt K mg "_law_take" (top 44) ["_law_state", "_law_many"] f_law_take d_law_take) (G_law_take : FnOk P w K mg base CX0 1 f_law_take d_law_take ["_law_state", "_law_many"] spTake) (D_law_row : DefAt K mg "_law_row" (top 50) ["_law_state", "_law_web_here", "_law_book", "_law_paid"] f_law_row d_law_row) (G_law_row : FnOk P w K mg base CX0 3 f_law_row d_law_row ["_law_state", "_law_web_here", "_law_book", "_law_paid"] spRow16) : FnOk P w K mg base CX0 4 f fd ["_law_state", "_law_web_here", "_law_most"] spRows16 := by
  have sc : FnScope ["_law_state", "_law_web_here", "_law_most", "_law_book", "_law_paid", "_law_rows_here", "_law_turn", "_law_row_here"] ["_law_state", "_law_web_here", "_law_most"] (defScope (top 51)) := ⟨rfl, rfl, rfl, by decide +kernel, rfl, by decide +kernel, by decide +kernel⟩
  refine D.F.ok sc (fun vs H Q E h => ?_) (fun cdv A outer s H vs Q E hr h => ?_)
  · obtain ⟨st, o, v, most, ps, ts, rfl, _⟩ := h
    rfl
  obtain ⟨st, o, v, most, ps, ts, rfl, es, so, hw, wok, m0, m1, h⟩ := h
  obtain ⟨xv, pa, ta, xs, ys, rfl, ex, ep, et, pp, pt⟩ := id hw
  have hnd := wok.p.nodup
  have WB : ∀ {H2 : Hp}, But st H H2 → WebAt H2 (.ref xv) ps ts := fun b => hw.but es so b
  have nta := ne_st et pt es so
  have nxs : xv ≠ st := fun z => by
    rw [z, es] at ex
    obtain ⟨_, _, _, rfl, _⟩ := so
    cases ex
  have hu := hu_of hr
  have hu0 : _ < PySem.cLine := Nat.lt_of_succ_lt hu
  refine ⟨_, (pss_cons (ps_set (i := 3) sc.nd rfl (Or.inl rfl) (pe_call G_law_near (hr.mono (by decide)) rfl D_law_near.m D_law_near.F.kp D_law_near.b .nil pass0 (pa_cons (qv 1) pa_nil))) (pss_cons (ps_set (i := 4) sc.nd rfl (Or.inl rfl) pe_dnewK) (pss_cons (ps_set (i := 5) sc.nd rfl (Or.inl rfl) (pe_lst pa_nil)) (pss_cons (ps_for PassesOwn.never rfl (pi_range1 rfl B.range (pa_cons (pe_call G_law_take (hr.mono (by decide)) rfl D_law_take.m D_law_take.F.kp D_law_take.b .nil pass0 (pa_cons (qv 0) (pa_cons (pe_op q_add (qv 2) pe_int) pa_nil))) pa_nil)) (pg_name (i := 6) sc.nd rfl (Or.inl rfl)) (pss_one (ps_if (qt_cmp (op_neD hr.units) (pe_ix q_ix (qv 1) pe_int (fun _ _ => rfl)) (pe_lst pa_nil) (nomark _)) (pss_cons (ps_set (i := 7) sc.nd rfl (Or.inl rfl) (pe_call G_law_row (hr.mono (by decide)) rfl D_law_row.m D_law_row.F.kp D_law_row.b .nil pass0 (pa_cons (qv 0) (pa_cons (qv 1) (pa_cons (qv 3) (pa_cons (qv 4) pa_nil)))))) (pss_one (ps_if (qt_cmp q_notN (qv 7) pe_non (nomark _)) (pss_one (ps_expr (q_bm PySem.F.plainAttrs_list PySem.F.slot_list_append PySem.F.type_list_append q_append (qv 5) (pa_cons (qv 7) pa_nil)))) pss_nil))) pss_nil))) (pss_one (ps_ret (qv 5))))))), ?_⟩
  refine seq_hide fun R hR => ?_
  walk_at "RD"
  refine ⟨_, ps, ts, rfl, hw, wok, fun nd as H1 hnd0 s1 end1 hla hnr => ?_⟩
  have nr1 : NrAt H1 nd ps ts := ⟨as, end1, hla, hnr⟩
  have e1 := s1 _ _ es
  have b1 : But st H H1 := fun b u _ q => s1 _ _ q
  walk_at "RD"
  try subst hR
  refine seq_hide fun R hR => ?_
  walk_at "RD"
  intro pd hpd
  have s2 := same_new hpd (.dK [])
  have epd2 : upd H1 pd (.dK []) pd = some (.dK []) := upd_same
  have e2 := s2 _ _ e1
  have nr2 := nr1.same s2
  have b2 : But st H (upd H1 pd (.dK [])) := fun b u nb q => s2 _ _ (b1 _ _ nb q)
  have nnp : nd ≠ pd := ne_of_none end1 hpd
  have nsp : st ≠ pd := ne_of_none e1 hpd
  have hpd0 : H pd = none := s1.free hpd
  generalize upd H1 pd (.dK []) = H2 at epd2 e2 nr2 b2
  clear end1 hla hnr nr1
  try subst hR
  refine seq_hide fun R hR => ?_
  walk_at "RD"
  intro rl hrl
  have s3 := same_new hrl (.lst [])
  have erl3 : upd H2 rl (.lst []) rl = some (.lst []) := upd_same
  have e3 := s3 _ _ e2
  have epd3 := s3 _ _ epd2
  have b3 : But st H (upd H2 rl (.lst [])) := fun b u nb q => s3 _ _ (b2 _ _ nb q)
  have nrs : rl ≠ st := (ne_of_none e2 hrl).symm
  have nrp : rl ≠ pd := (ne_of_none epd2 hrl).symm
  have hrl0 : H rl = none := by
    cases q : H rl with
    | none => rfl
    | some u => rw [b2 _ _ nrs q] at hrl; cases hrl
  generalize upd H2 rl (.lst []) = H3 at s3 erl3 e3 epd3 b3
  try subst hR
  refine seq_hide fun R hR => ?_
  refine tFor_hideI (ι := Int × HO) (fun i0 => Itr 0 i0.1.toNat) (fun i0 => upd H3 st i0.2) (fun i0 => 0 ≤ i0.1 ∧ i0.1 < most + 1 ∧ StO i0.2) (fun R' hR' => ?_) (fun i0 ok0 => ?_)
  · unfold iRng1
    walk_at "RD"
    exact ⟨st, o, most + 1, rfl, e3, so, by omega, by omega, fun k1 o2 k10 k11 so2 => ⟨_, rfl, by omega, by omega, hR' (k1, o2) ⟨k10, k11, so2⟩⟩⟩
  obtain ⟨k1, o4⟩ := i0
  obtain ⟨k10, k11, so4⟩ := ok0
  dsimp only at k10 k11 so4
  have b4 : But st H (upd H3 st o4) := b3.trans (But.at st H3 o4)
  have e4 : upd H3 st o4 st = some o4 := upd_same
  have epd4 := But.at st H3 o4 _ _ nsp.symm epd3
  have erl4 := But.at st H3 o4 _ _ nrs erl3
  refine for_range (n := k1.toNat) (fun i σ H5 => ∃ v1 v2 zs rows o5, σ = [some (.ref st), some (.ref xv), some (.int most), some (.ref nd), some (.ref pd), some (.ref rl), v1, v2] ∧ But st H H5 ∧ H5 st = some o5 ∧ StO o5 ∧ B2 st pd H2 H5 ∧ PdAt H5 pd (paidL rows) (20 * i) ∧ H5 rl = some (.lst zs) ∧ Paired (RowA H5 rl) zs rows ∧ GoodRs ps ts rows ∧ rows.length ≤ i ∧ ∀ p ∈ ps, paidL rows p.1 ≤ 2 * p.2) ⟨none, none, [], [], o4, rfl, b4, e4, so4, (same_b2 s3).trans (But.b2 (But.at st _ o4)), ⟨[], epd4, by simp, fun n => rfl⟩, erl4, .nil, GoodRs.nil ps ts, by simp, fun p hp => ?_⟩ ?_ ?_
  · have := (wok.p.nbp (by decide) p hp).1
    show (0 : Int) ≤ _
    omega
  · rintro i σ H5 hi ⟨v1, v2, zs, rows, o5, rfl, b5, e5, so5, n25, pd5, erl5, pz, good, hlen, hfit⟩
    have hi13 : i < 13 := by omega
    obtain ⟨xv', pa', ta', xs', ys', ev, ex5, ep5, et5, pp5, pt5⟩ := WB b5
    cases ev
    have zz1 := ex5.symm.trans (b5 _ _ nxs ex)
    cases zz1
    simp_arith [seqOf, ex5, at1]
    intro p hp
    have s6 := same_new hp (.lst [])
    have ep6 : upd H5 p (.lst []) p = some (.lst []) := upd_same
    have e6 := s6 _ _ e5
    have n26 : B2 st pd H2 (upd H5 p (.lst [])) := n25.trans (same_b2 s6)
    have pd6 : PdAt (upd H5 p (.lst [])) pd (paidL rows) (20 * i) := by
      obtain ⟨kvs, q1, q2, q3⟩ := pd5
      exact ⟨kvs, s6 _ _ q1, q2, q3⟩
    have erl6 := s6 _ _ erl5
    have pz6 : Paired (RowA (upd H5 p (.lst [])) rl) zs rows := Paired.mapP pz fun x r ⟨u, l, q1, q2, q3, q4⟩ => ⟨u, l, q1, s6 _ _ q2, s6 _ _ q3, q4⟩
    have b6 : But st H (upd H5 p (.lst [])) := fun b u nb q => s6 _ _ (b5 _ _ nb q)
    have et6 := s6 _ _ et5
    have pt6 := Prs.same s6 pt5
    generalize upd H5 p (.lst []) = H6 at ep6 e6 n26 pd6 erl6 pz6 b6 et6 pt6
    have rt6 : Rep H6 (.lst (ts.map pairD)) (.ref ta) := by
      rw [Rep]
      exact ⟨ta, _, rfl, et6, Prs.reps pt6⟩
    have rn6 : Rep H6 (.lst []) (.ref p) := by
      rw [Rep]
      exact ⟨p, [], rfl, ep6, by rw [Reps]⟩
    refine ⟨.lst (ts.map pairD), .lst [], rt6, rn6, dep_pairsD ts, .inl ⟨_, _, rfl, rfl⟩, ?_⟩
    rw [eq_nil_P]
    walk_at "RD"
    by_cases c : ts = []
    · rw [decide_eq_true c]
      walk_at "RD"
      exact ⟨_, _, zs, rows, o5, rfl, b6, e6, so5, n26, ⟨_, pd6.choose_spec.1, by have := pd6.choose_spec.2.1; omega, pd6.choose_spec.2.2⟩, erl6, pz6, good, by omega, hfit⟩
    rw [decide_eq_false c]
    have hps : ps ≠ [] := fun z => by
      cases hts : ts with
      | nil => exact c hts
      | cons t r =>
        have := (wok.t.ats t (by rw [hts]; exact .head _)).2.1
        rw [z] at this
        simp [hasK, kvsOf, valV] at this
    walk_at "RD"
    refine ⟨st, o5, _, nd, pd, ps, ts, paidL rows, 20 * i, rfl, e6, so5, WB b6, wok, nr2.b2 epd2 e2 so nnp n26, nnp, nsp, hps, pd6, by omega, fun n => paidL_nn good.ok, fun H7 o7 b7 e7 so7 pd7 => ?_, fun u l r H7 o7 b7 e7 so7 hu6 hl6 nls nlp nus nup eu el fit pd7 => ?_⟩
    all_goals obtain ⟨kvs6, epd6, _, _⟩ := pd6
    all_goals have n27 : B2 st pd H2 H7 := n26.trans b7
    all_goals have erl7 := b7 _ _ nrs nrp erl6
    all_goals have pz7 : Paired (RowA H7 rl) zs rows := Paired.mapP pz6 fun x r ⟨u, l, q1, q2, q3, q4⟩ => ⟨u, l, q1, b7.tup epd6 e6 so5 q2, b7.lst epd6 (ne_stI q3 e6 so5) q3, q4⟩
    all_goals have b07 : But st H H7 := fun b u nb q => b7 _ _ nb (fun z => by rw [z, hpd0] at q; cases q) (b6 _ _ nb q)
    · walk_at "RD"
      exact ⟨_, _, zs, rows, o7, rfl, b07, e7, so7, n27, ⟨_, pd7.choose_spec.1, by have := pd7.choose_spec.2.1; omega, pd7.choose_spec.2.2⟩, erl7, pz7, good, by omega, hfit⟩
    · have hlz : zs.length = rows.length := Paired.length pz
      have nlr : l ≠ rl := (ne_of_none erl6 hl6).symm
      have nur : u ≠ rl := (ne_of_none erl6 hu6).symm
      walk_at "RD"
      refine ⟨⟨rl, _, rfl, erl7⟩, ?_⟩
      simp_arith [erl7]
      have hlen9 : (rows ++ [r]).length ≤ i + 1 := by rw [List.length_append]; show rows.length + 1 ≤ _; omega
      refine ⟨szl' (by omega), _, _, zs ++ [.ref u], rows ++ [r], o7, rfl, fun b w' nb q => ?_, ?_, so7, ?_, ?_, upd_same, ?_, ⟨fun q hq => ?_, fun q hq => ?_, fun q hq => ?_⟩, hlen9, fun q hq => ?_⟩
      · rw [upd_ne (ne_of_none q hrl0)]
        exact b07 b w' nb q
      · rw [upd_ne nrs.symm]
        exact e7
      · intro b w' n1 n2 q
        rw [upd_ne (ne_of_none q hrl)]
        exact n27 b w' n1 n2 q
      · obtain ⟨kv7, q1, q2, q3⟩ := pd7
        refine ⟨kv7, by rw [upd_ne nrp.symm]; exact q1, by omega, fun n => ?_⟩
        rw [q3, paidL_snoc]
      · refine paired_snoc (Paired.mapP pz7 fun x q ⟨u', l', q1, q2, q3, q4⟩ => ⟨u', l', q1, ?_, ?_, q4⟩) ⟨u, l, rfl, by rw [upd_ne nur]; exact eu, by rw [upd_ne nlr]; exact el, nlr⟩
        · rw [upd_ne (fun z => by rw [z, erl7] at q2; cases q2)]
          exact q2
        · rw [upd_ne q4]
          exact q3
      · rcases List.mem_append.mp hq with hq | hq
        · exact good.ok q hq
        · rw [List.mem_singleton.mp hq]; exact fit.ok
      · rcases List.mem_append.mp hq with hq | hq
        · exact good.nd q hq
        · rw [List.mem_singleton.mp hq]; exact fit.nd
      · rcases List.mem_append.mp hq with hq | hq
        · exact good.len q hq
        · rw [List.mem_singleton.mp hq]; exact fit.len
      · rw [paidL_snoc]
        by_cases c9 : q.1 ∈ r.2.1
        · rw [count_nd fit.nd c9]
          have := fit.room q hq c9
          omega
        · rw [List.count_eq_zero_of_not_mem c9]
          have := hfit q hq
          omega
  · rintro σ H5 ⟨v1, v2, zs, rows, o5, rfl, b5, e5, so5, n25, pd5, erl5, pz, good, hlen, hfit⟩
    walk_at "RD"
    try subst hR
    walk_at "RD"
    exact h rl zs rows H5 o5 b5 e5 so5 hrl0 nrs erl5 pz good (by omega) hfit
end
end My
namespace L2
open PySem PySem.Spec PyProof.Rows
section
variable {X : Cx}
end
end L2
namespace My
open PySem L2
section
variable {P : Program} {w : World} {K : PySem.W.Frag} {mg : Str → Option Value} {base : Heap} {c1 c2 c3 c4 : Tok} {C_NoWeb f_NoWeb : Addr} {dI : FuncData}
theorem row_at {H : Hp} {xs : List V} {rows : List Row} {i : Nat} {x : V} (rx : Reps H (rows.map rowD) xs) (hx : xs[i]? = some x) : ∃ r u la, rows[i]? = some r ∧ x = .ref u ∧ H u = some (.tup [.str r.1, .ref la, .int r.2.2]) ∧ H la = some (.lst (r.2.1.map V.int)) := by
  obtain ⟨dt, hdt, rdt1⟩ := rx.at hx
  obtain ⟨r, hr1, rfl⟩ : ∃ r, rows[i]? = some r ∧ dt = rowD r := by
    rw [List.getElem?_map] at hdt
    cases c : rows[i]? with
    | none => rw [c] at hdt; cases hdt
    | some r => rw [c] at hdt; cases hdt; exact ⟨r, rfl, rfl⟩
  unfold rowD at rdt1
  rw [Rep] at rdt1
  obtain ⟨t, vs, rfl, et, rs⟩ := rdt1
  rw [Reps] at rs
  obtain ⟨w0, r0, rfl, q0, rs⟩ := rs
  rw [Reps] at rs
  obtain ⟨w1, r1, rfl, q1, rs⟩ := rs
  rw [Reps] at rs
  obtain ⟨w2, r2, rfl, q2, rs⟩ := rs
  rw [Reps] at rs
  subst rs
  rw [Rep] at q0
  rw [Rep] at q1
  rw [Rep] at q2
  subst q0 q2
  obtain ⟨la, ys, rfl, ela, ry⟩ := q1
  have exs := reps_ints ry
  subst exs
  exact ⟨r, t, la, hr1, rfl, et, ela⟩
def RowR (H : Hp) (x : V) (r : Row) : Prop := ∃ u l, x = .ref u ∧ H u = some (.tup [.str r.1, .ref l, .int r.2.2]) ∧ H l = some (.lst (r.2.1.map V.int))
theorem RowR.rep {H : Hp} {x : V} {r : Row} (h : RowR H x r) : Rep H (rowD r) x := by
  obtain ⟨u, l, rfl, e1, e2⟩ := h
  unfold rowD
  rw [Rep]
  refine ⟨u, _, rfl, e1, ?_⟩
  rw [Reps]
  refine ⟨_, _, rfl, by rw [Rep], ?_⟩
  rw [Reps]
  refine ⟨_, _, rfl, rep_lstI e2, ?_⟩
  rw [Reps]
  exact ⟨_, _, rfl, by rw [Rep], by rw [Reps]⟩
theorem RowR.same {H H1 : Hp} {x : V} {r : Row} (s : Same H H1) (h : RowR H x r) : RowR H1 x r := by
  obtain ⟨u, l, e, e1, e2⟩ := h
  exact ⟨u, l, e, s _ _ e1, s _ _ e2⟩
theorem RowR.but {st : Addr} {o : HO} {H H1 : Hp} {x : V} {r : Row} (hs : H st = some o) (so : StO o) (b : But st H H1) (h : RowR H x r) : RowR H1 x r := by
  obtain ⟨u, l, e, e1, e2⟩ := h
  refine ⟨u, l, e, b _ _ (fun z => ?_) e1, b _ _ (ne_stI e2 hs so) e2⟩
  obtain ⟨_, _, _, rfl, _⟩ := so
  rw [z, hs] at e1
  cases e1
abbrev RwsR (H : Hp) (xs : List V) (rows : List Row) : Prop := Paired (RowR H) xs rows
theorem RwsR.reps {H : Hp} : ∀ {xs : List V} {rows : List Row}, RwsR H xs rows → Reps H (rows.map rowD) xs
  | _, _, .nil => by rw [List.map_nil, Reps]
  | _, _, .cons r t => by
    rw [List.map_cons, Reps]
    exact ⟨_, _, rfl, r.rep, RwsR.reps t⟩
theorem rwsA {H : Hp} {rl : Addr} {xs : List V} {rows : List Row} (h : Paired (RowA H rl) xs rows) : RwsR H xs rows := Paired.mapP h fun _ _ ⟨u, l, a, b, c, _⟩ => ⟨u, l, a, b, c⟩
theorem RwsR.same {H H1 : Hp} {xs : List V} {rows : List Row} (s : Same H H1) (h : RwsR H xs rows) : RwsR H1 xs rows := Paired.mapP h fun _ _ q => q.same s
theorem RwsR.but {st : Addr} {o : HO} {H H1 : Hp} {xs : List V} {rows : List Row} (hs : H st = some o) (so : StO o) (b : But st H H1) (h : RwsR H xs rows) : RwsR H1 xs rows := Paired.mapP h fun _ _ q => q.but hs so b
theorem paired_app {α β : Type} {F : α → β → Prop} : ∀ {a : List α} {b : List β} {c : List α} {d : List β}, Paired F a b → Paired F c d → Paired F (a ++ c) (b ++ d)
  | _, _, _, _, .nil, h => h
  | _, _, _, _, .cons r t, h => .cons r (paired_app t h)
theorem paired_take {α β : Type} {F : α → β → Prop} : ∀ {a : List α} {b : List β} (k : Nat), Paired F a b → Paired F (a.take k) (b.take k)
  | _, _, 0, _ => by rw [List.take_zero, List.take_zero]; exact .nil
  | _, _, _ + 1, .nil => .nil
  | _, _, k + 1, .cons r t => .cons r (paired_take k t)
theorem paired_drop {α β : Type} {F : α → β → Prop} : ∀ {a : List α} {b : List β} (k : Nat), Paired F a b → Paired F (a.drop k) (b.drop k)
  | _, _, 0, h => h
  | _, _, _ + 1, .nil => .nil
  | _, _, k + 1, .cons r t => paired_drop k t
theorem GoodRs.one {ps ts : List (Int × Int)} {r : Row} (a : rowB ps ts (rowD r) = true) (b : r.2.1.Nodup) (c : r.2.1.length ≤ 20) : GoodRs ps ts [r] := ⟨fun q hq => by rw [List.mem_singleton.mp hq]; exact a, fun q hq => by rw [List.mem_singleton.mp hq]; exact b, fun q hq => by rw [List.mem_singleton.mp hq]; exact c⟩
theorem ne_rows {H : Hp} {l st : Addr} {xs : List V} {rows : List Row} {o : HO} (el : H l = some (.lst xs)) (rr : RwsR H xs rows) (hne : rows ≠ []) (hs : H st = some o) (so : StO o) : l ≠ st := fun z => by
  obtain ⟨_, _, _, rfl, _⟩ := so
  rw [z, hs] at el
  cases el
  cases rr with
  | cons r t =>
    obtain ⟨u, l, e, _⟩ := r
    cases e
def gOne (r : Row) : Int := if r.1 = (("all" : String) : Str) then (r.2.1.length : Int) - 1 else ((r.2.1.length : Int) + 1) / 2
def gAll (rows : List Row) : Int := (rows.map fun r => gOne r * r.2.2).sum
def spGOne : Sp := fun vs H Q _ => ∃ x r, vs = [x] ∧ RowR H x r ∧ Q (.int (gOne r)) H
def spGBy : Sp := fun vs H Q _ => ∃ l xs rows, vs = [.ref l] ∧ H l = some (.lst xs) ∧ Reps H (rows.map rowD) xs ∧ rows.length ≤ 900 ∧ (∀ r ∈ rows, r.2.1.length ≤ 900) ∧ ∀ H', Same H H' → Q (.int (gAll rows)) H'
def spHalf : Sp := fun vs H Q _ => ∃ n, vs = [.int n] ∧ Q (.int ((n + 1) / 2)) H
def spMany : Sp := fun vs H Q _ => ∃ (a b : Addr) (ns ss : List Int), vs = [.ref a, .ref b] ∧ H a = some (.lst (ns.map V.int)) ∧ H b = some (.lst (ss.map V.int)) ∧ ns.length ≤ 900 ∧ ∀ H', Same H H' → Q (.int (ns.filter fun n => decide (n ∈ ss)).length) H'
theorem ok_given_for_one {f : Addr} {fd : FuncData}  (B : Blt mg) (D : DefAt K mg "given_for_one" (top 31) ["row"] f fd) : FnOk P w K mg base CX0 1 f fd ["row"] spGOne := by
  have sc : FnScope ["row", "many"] ["row"] (defScope (top 31)) := ⟨rfl, rfl, rfl, by decide +kernel, rfl, by decide +kernel, by decide +kernel⟩
  refine D.F.ok sc (fun vs H Q E h => ?_) (fun cdv A outer s H vs Q E hr h => ?_)
  · obtain ⟨x, r, rfl, _⟩ := h
    rfl
  obtain ⟨x, r, rfl, ⟨u, la, rfl, eu, el⟩, h⟩ := h
  have hu := hu_of hr
  have hu0 : _ < PySem.cLine := Nat.lt_of_succ_lt hu
  refine ⟨_, (pss_cons (ps_set (i := 1) sc.nd rfl (Or.inl rfl) (pe_callB q_len rfl B.len PySem.boot_len (pa_cons (pe_ix q_ix (qv 0) pe_int (fun _ _ => rfl)) pa_nil))) (pss_one (ps_ret (pe_ifExp (qt_cmp q_eq (pe_ix q_ix (qv 0) pe_int (fun _ _ => rfl)) pe_str (nomark _)) (pe_op q_sub (qv 1) pe_int) (pe_op q_fdiv (pe_op q_add (qv 1) pe_int) pe_int))))), ?_⟩
  simp_arith [seqOf, eu, el, at0, at1]
  rw [List.length_map]
  unfold gOne at h
  by_cases c : r.1 = (("all" : String) : Str)
  · rw [if_pos (decide_eq_true c)]
    rw [if_pos c] at h
    exact h
  · rw [if_neg (fun z => c (of_decide_eq_true z))]
    rw [if_neg c] at h
    exact ⟨⟨by decide, by decide⟩, h⟩
theorem ok_given_by {f : Addr} {fd : FuncData} {f_given_for_one : Addr} {d_given_for_one : FuncData} (B : Blt mg) (D : DefAt K mg "given_by" (top 32) ["rows"] f fd) (D_given_for_one : DefAt K mg "given_for_one" (top 31) ["row"] f_given_for_one d_given_for_one) (G_given_for_one : FnOk P w K mg base CX0 1 f_given_for_one d_given_for_one ["row"] spGOne) : FnOk P w K mg base CX0 2 f fd ["rows"] spGBy := by
  have sc : FnScope ["rows"] ["rows"] (defScope (top 32)) := ⟨rfl, rfl, rfl, by decide +kernel, rfl, by decide +kernel, by decide +kernel⟩
  refine D.F.ok sc (fun vs H Q E h => ?_) (fun cdv A outer s H vs Q E hr h => ?_)
  · obtain ⟨l, xs, rows, rfl, _⟩ := h
    rfl
  obtain ⟨l, xs, rows, rfl, el, rx, hl9, hw9, h⟩ := h
  have hlx : xs.length = rows.length := by rw [rx.len, List.length_map]
  have hu := hu_of hr
  have hu0 : _ < PySem.cLine := Nat.lt_of_succ_lt hu
  refine ⟨_, (pss_one (ps_ret (pe_callB (q_sum rfl) rfl B.sum PyProof.Rows.boot_sum (pa_cons (pe_comp (CpScope.of (N := ["row"]) (src := [none]) (by rfl)) rfl (pi_list (qv 0)) (fun _ _ _ _ => (pg_name (i := 0) (nodupB_ok (l := ["row"]) (by rfl)) rfl (Or.inl rfl))) (fun _ _ _ _ => pif_nil) (fun _ _ _ _ => (pe_op q_mul (pe_call G_given_for_one (hr.mono (by decide)) rfl D_given_for_one.m D_given_for_one.F.kp D_given_for_one.b .nil pass0 (pa_cons (qv 0) pa_nil)) (pe_ix q_ix (qv 0) pe_int (fun _ _ => rfl))))) pa_nil)))), ?_⟩
  walk_at "RD"
  refine tComp_hide (Itl K l) H (fun R hR => ?_) (fun z hz => comp_run rows.length (fun i σ' Hc => ∃ w1, σ' = [w1] ∧ Same H Hc ∧ Hc z = some (.lst (((rows.take i).map fun r => gOne r * r.2.2).map V.int))) ⟨none, rfl, same_new hz _, upd_same⟩ ?_ ?_)
  · unfold iList
    walk_at "RD"
    exact ⟨l, rfl, ⟨_, SqL.of el⟩, hR⟩
  · rintro i σ' Hc hi ⟨w1, rfl, s4, ez⟩
    have x1 : xs[i]? = some (xs[i]'(by omega)) := List.getElem?_eq_getElem _
    have z1 : SqL K Hc l xs := SqL.of (s4 _ _ el)
    refine ⟨⟨_, _, z1, x1⟩, ?_⟩
    rintro y H' ⟨rfl, hy⟩
    obtain ⟨r, u, la, hri, rfl, eu, ela⟩ := row_at rx (hy _ z1)
    have eu' := s4 _ _ eu
    have ela' := s4 _ _ ela
    walk_at "RD"
    refine ⟨_, r, rfl, ⟨u, la, rfl, eu', ela'⟩, ?_⟩
    simp_arith [seqOf, eu', at2]
    have h9 := hw9 r (List.mem_of_getElem? hri)
    have hg : 0 - 1 ≤ gOne r ∧ gOne r ≤ 1000 := by
      unfold gOne
      split <;> omega
    refine ⟨.inl ⟨by omega, by omega⟩, _, ez, ?_, _, rfl, same_upd s4 hz, ?_⟩
    · rw [List.length_map, List.length_map, List.length_take]
      exact szl' (by omega)
    · rw [upd_same, take_get hri, List.map_append, List.map_append]
      rfl
  rintro σ' H1 ⟨w1, rfl, s1, ez⟩
  refine ⟨⟨_, SqL.of (s1 _ _ el), by omega⟩, ?_⟩
  rw [List.take_length] at ez
  exact ⟨z, _, rfl, ez, h H1 s1⟩
theorem ok_half_up {f : Addr} {fd : FuncData}  (B : Blt mg) (D : DefAt K mg "half_up" (top 33) ["worth"] f fd) : FnOk P w K mg base CX0 1 f fd ["worth"] spHalf := by
  have sc : FnScope ["worth"] ["worth"] (defScope (top 33)) := ⟨rfl, rfl, rfl, by decide +kernel, rfl, by decide +kernel, by decide +kernel⟩
  refine D.F.ok sc (fun vs H Q E h => ?_) (fun cdv A outer s H vs Q E hr h => ?_)
  · obtain ⟨n, rfl, _⟩ := h
    rfl
  obtain ⟨n, rfl, h⟩ := h
  have hu := hu_of hr
  have hu0 : _ < PySem.cLine := Nat.lt_of_succ_lt hu
  refine ⟨_, (pss_one (ps_ret (pe_op q_fdiv (pe_op q_add (qv 0) pe_int) pe_int))), ?_⟩
  walk_at "RD"
  exact ⟨⟨by decide, by decide⟩, h⟩
theorem ok_many_in {f : Addr} {fd : FuncData}  (B : Blt mg) (D : DefAt K mg "many_in" (top 40) ["places", "some"] f fd) : FnOk P w K mg base CX0 1 f fd ["places", "some"] spMany := by
  have sc : FnScope ["places", "some"] ["places", "some"] (defScope (top 40)) := ⟨rfl, rfl, rfl, by decide +kernel, rfl, by decide +kernel, by decide +kernel⟩
  refine D.F.ok sc (fun vs H Q E h => ?_) (fun cdv A outer s H vs Q E hr h => ?_)
  · obtain ⟨a, b, ns, ss, rfl, _⟩ := h
    rfl
  obtain ⟨a, b, ns, ss, rfl, ea, eb, hl9, h⟩ := h
  have hu := hu_of hr
  have hu0 : _ < PySem.cLine := Nat.lt_of_succ_lt hu
  refine ⟨_, (pss_one (ps_ret (pe_callB q_len rfl B.len PySem.boot_len (pa_cons (pe_comp (CpScope.of (N := ["place", "some"]) (src := [none, some 1]) (by rfl)) rfl (pi_list (qv 0)) (fun _ _ _ _ => (pg_name (i := 0) (nodupB_ok (l := ["place", "some"]) (by rfl)) rfl (Or.inl rfl))) (fun _ _ _ _ => (pif_one (qt_cmp q_inL (qv 0) (qv 1) (by with_unfolding_all rfl)))) (fun _ _ _ _ => (qv 0))) pa_nil)))), ?_⟩
  walk_at "RD"
  refine tComp_hide (Itl K a) H (fun R hR => ?_) (fun z hz => comp_run ns.length (fun i σ' Hc => ∃ w1, σ' = [w1, some (.ref b)] ∧ Same H Hc ∧ Hc z = some (.lst (((ns.take i).filter fun n => decide (n ∈ ss)).map V.int))) ⟨none, rfl, same_new hz _, upd_same⟩ ?_ ?_)
  · unfold iList
    walk_at "RD"
    exact ⟨a, rfl, ⟨_, SqL.of ea⟩, hR⟩
  · rintro i σ' Hc hi ⟨w1, rfl, s4, ez⟩
    have x1 : ns[i]? = some ns[i] := List.getElem?_eq_getElem hi
    generalize ns[i] = n at x1
    have X1 : (ns.map V.int)[i]? = some (.int n) := by rw [List.getElem?_map, x1]; rfl
    have z1 : SqL K Hc a (ns.map V.int) := SqL.of (s4 _ _ ea)
    refine ⟨⟨_, _, z1, X1⟩, ?_⟩
    rintro y H' ⟨rfl, hy⟩
    have E1 : V.int n = y := Option.some.inj (X1.symm.trans (hy _ z1))
    subst E1
    have eb' := s4 _ _ eb
    simp_arith [seqOf, eb']
    refine ⟨rfl, flat_ints _, ?_⟩
    rw [inV_ints, take_get x1, List.filter_append]
    by_cases c : n ∈ ss
    · rw [if_pos (decide_eq_true c)]
      refine ⟨_, ez, ?_, _, rfl, same_upd s4 hz, ?_⟩
      · rw [List.length_map]
        have := List.length_filter_le (fun n => decide (n ∈ ss)) (ns.take i)
        rw [List.length_take] at this
        exact szl' (by omega)
      · rw [upd_same, List.map_append, List.filter_cons, if_pos (decide_eq_true c)]
        rfl
    · rw [if_neg (fun z => c (of_decide_eq_true z)), List.filter_cons, if_neg (by rw [decide_eq_false c]; decide), List.filter_nil, List.append_nil]
      exact ⟨_, rfl, s4, ez⟩
  rintro σ' H1 ⟨w1, rfl, s1, ez⟩
  refine ⟨⟨_, SqL.of (s1 _ _ ea), by rw [List.length_map]; exact Nat.le_refl _⟩, ?_⟩
  rw [List.take_length] at ez
  simp_arith [seqOf, ez, List.length_map]
  exact h H1 s1
end
end My
namespace My
open PySem L2
section
variable {P : Program} {w : World} {K : PySem.W.Frag} {mg : Str → Option Value} {base : Heap} {c1 c2 c3 c4 : Tok} {C_NoWeb f_NoWeb : Addr} {dI : FuncData}
def spWorthF (g : Int → Int) (CW CR CO : Addr) : Sp := fun vs H Q E => ∃ v dw u, vs = [v, u] ∧ Rep H dw v ∧ RefW CW H E dw ∧ ∀ ps ts, dw = webD ps ts → WebOk ps ts → ∃ d, Rep H d u ∧ RowsFit d ∧
  (∀ n, noRows ps ts d = some n → Ref1 CR H E "number" (nV n)) ∧ (noRows ps ts d = none → (∀ p, overP ps (rowsD d) = some p → Ref1 CO H E "place" (.int p)) ∧ (overP ps (rowsD d) = none → ∀ H', Same H H' → Q (.int (g (gAll (rowsD d)))) H'))
theorem noRows_none {ps ts : List (Int × Int)} {d : Dt} (h : noRows ps ts d = none) : ∃ rows : List Row, d = .lst (rows.map rowD) ∧ rowsD d = rows ∧ rows.length ≤ 200 ∧ ∀ r ∈ rows, 1 ≤ r.2.2 ∧ ∀ n ∈ r.2.1, n ∈ ps.map (·.1) := by
  cases d with
  | lst ds =>
    unfold noRows at h
    dsimp only at h
    by_cases c : ds.length ≤ 200
    · rw [if_pos c] at h
      have hb : rowBad ps ts 0 ds = none := by
        cases q : rowBad ps ts 0 ds with
        | none => rfl
        | some k => rw [q] at h; cases h
      obtain ⟨e, hr⟩ := rowBad_none hb
      refine ⟨ds.filterMap rowOf, by rw [← e], rfl, Nat.le_trans (List.length_filterMap_le _ _) c, hr⟩
    · rw [if_neg c] at h
      cases h
  | _ => cases h
theorem fit_rows {rows : List Row} (h : RowsFit (.lst (rows.map rowD))) : ∀ r ∈ rows, r.2.1.length ≤ 900 := fun r hr => by
  have := h _ rfl (rowD r) (List.mem_map_of_mem hr) _ _ _ rfl
  simpa using this
theorem ok_worth_of {f : Addr} {fd : FuncData} {f_look_at_rows : Addr} {d_look_at_rows : FuncData} {f_given_by : Addr} {d_given_by : FuncData} (B : Blt mg) (D : DefAt K mg "worth_of" (top 34) ["web", "rows"] f fd) (D_look_at_rows : DefAt K mg "look_at_rows" (top 30) ["web", "thing"] f_look_at_rows d_look_at_rows) (G_look_at_rows : FnOk P w K mg base (CXE P w) 6 f_look_at_rows d_look_at_rows ["web", "thing"] (spLookRows C_NoWeb C_NoRows C_Overpaid)) (D_given_by : DefAt K mg "given_by" (top 32) ["rows"] f_given_by d_given_by) (G_given_by : FnOk P w K mg base CX0 2 f_given_by d_given_by ["rows"] spGBy) : FnOk P w K mg base (CXE P w) 7 f fd ["web", "rows"] (spWorthF id C_NoWeb C_NoRows C_Overpaid) := by
  have sc : FnScope ["web", "rows"] ["web", "rows"] (defScope (top 34)) := ⟨rfl, rfl, rfl, by decide +kernel, rfl, by decide +kernel, by decide +kernel⟩
  refine D.F.okX sc (fun vs H Q E h => ?_) (fun cdv A outer s H vs Q E hr h => ?_)
  · obtain ⟨v, dw, u, rfl, _⟩ := h
    rfl
  obtain ⟨v, dw, u, rfl, hdw, hrw, h⟩ := h
  have hu := hu_of hr
  have hu0 : _ < PySem.cLine := Nat.lt_of_succ_lt hu
  refine ⟨_, (pss_cons (ps_expr (pe_callX G_look_at_rows (hr.mono (by decide)) rfl D_look_at_rows.m D_look_at_rows.F.kp D_look_at_rows.b .nil (passT ⟨rfl, rfl, rfl, fun _ => rfl⟩) (pa_cons (qv 0) (pa_cons (qv 1) pa_nil)))) (pss_one (ps_ret (pe_call G_given_by (hr.mono (by decide)) rfl D_given_by.m D_given_by.F.kp D_given_by.b .nil pass0 (pa_cons (qv 1) pa_nil))))), ?_⟩
  refine seq_hide fun R hR => ?_
  walk_at "RD"
  refine ⟨v, dw, u, rfl, hdw, hrw, fun ps ts e wok => ?_⟩
  obtain ⟨d, hd, fit, hN, hO⟩ := h ps ts e wok
  refine ⟨d, hd, fit, hN, fun en => ⟨(hO en).1, fun eo H1 s1 => ?_⟩⟩
  subst hR
  obtain ⟨rows, rfl, hrd, hl, _⟩ := noRows_none en
  have hq := (hO en).2 eo
  rw [hrd] at hq
  rw [Rep] at hd
  obtain ⟨l, xs, rfl, el, rx⟩ := hd
  walk_at "RD"
  exact ⟨l, xs, rows, rfl, s1 _ _ el, Reps.same s1 _ rx, by omega, fit_rows fit, fun H2 s2 => hq H2 (s1.trans s2)⟩
theorem ok_bound_of {f : Addr} {fd : FuncData} {f_worth_of : Addr} {d_worth_of : FuncData} {f_half_up : Addr} {d_half_up : FuncData} (B : Blt mg) (D : DefAt K mg "bound_of" (top 35) ["web", "rows"] f fd) (D_worth_of : DefAt K mg "worth_of" (top 34) ["web", "rows"] f_worth_of d_worth_of) (G_worth_of : FnOk P w K mg base (CXE P w) 7 f_worth_of d_worth_of ["web", "rows"] (spWorthF id C_NoWeb C_NoRows C_Overpaid)) (D_half_up : DefAt K mg "half_up" (top 33) ["worth"] f_half_up d_half_up) (G_half_up : FnOk P w K mg base CX0 1 f_half_up d_half_up ["worth"] spHalf) : FnOk P w K mg base (CXE P w) 8 f fd ["web", "rows"] (spWorthF (fun n => (n + 1) / 2) C_NoWeb C_NoRows C_Overpaid) := by
  have sc : FnScope ["web", "rows"] ["web", "rows"] (defScope (top 35)) := ⟨rfl, rfl, rfl, by decide +kernel, rfl, by decide +kernel, by decide +kernel⟩
  refine D.F.okX sc (fun vs H Q E h => ?_) (fun cdv A outer s H vs Q E hr h => ?_)
  · obtain ⟨v, dw, u, rfl, _⟩ := h
    rfl
  obtain ⟨v, dw, u, rfl, hdw, hrw, h⟩ := h
  have hu := hu_of hr
  have hu0 : _ < PySem.cLine := Nat.lt_of_succ_lt hu
  refine ⟨_, (pss_one (ps_ret (pe_call G_half_up (hr.mono (by decide)) rfl D_half_up.m D_half_up.F.kp D_half_up.b .nil pass0 (pa_cons (pe_callX G_worth_of (hr.mono (by decide)) rfl D_worth_of.m D_worth_of.F.kp D_worth_of.b .nil (passT ⟨rfl, rfl, rfl, fun _ => rfl⟩) (pa_cons (qv 0) (pa_cons (qv 1) pa_nil))) pa_nil)))), ?_⟩
  walk_at "RD"
  refine ⟨v, dw, u, rfl, hdw, hrw, fun ps ts e wok => ?_⟩
  obtain ⟨d, hd, fit, hN, hO⟩ := h ps ts e wok
  refine ⟨d, hd, fit, hN, fun en => ⟨(hO en).1, fun eo H1 s1 => ?_⟩⟩
  walk_at "RD"
  exact ⟨_, rfl, (hO en).2 eo H1 s1⟩
end
end My
namespace My
open PySem L2
section
variable {P : Program} {w : World} {K : PySem.W.Frag} {mg : Str → Option Value} {base : Heap} {c1 c2 c3 c4 : Tok} {C_NoWeb f_NoWeb : Addr} {dI : FuncData}
theorem pairs_injD {ps qs : List (Int × Int)} (h : ps.map pairD = qs.map pairD) : ps = qs := by
  induction ps generalizing qs with
  | nil => cases qs with
    | nil => rfl
    | cons _ _ => cases h
  | cons p r ih => cases qs with
    | nil => cases h
    | cons q t =>
      rw [List.map_cons, List.map_cons] at h
      injection h with h1 h2
      have e : p = q := by
        unfold pairD at h1
        injection h1 with h1
        injection h1 with a1 a2
        injection a1 with a1
        injection a2 with a2 _
        injection a2 with a2
        exact Prod.ext a1 a2
      rw [e, ih h2]
theorem webD_inj {ps ts qs us : List (Int × Int)} (h : webD ps ts = webD qs us) : qs = ps ∧ us = ts := by
  unfold webD prsD at h
  injection h with h
  injection h with h1 h2
  injection h1 with h1
  injection h2 with h2 _
  injection h2 with h2
  exact ⟨(pairs_injD h1).symm, (pairs_injD h2).symm⟩
theorem webD_rep {H : Hp} {v : V} {ps ts : List (Int × Int)} (h : WebAt H v ps ts) : Rep H (webD ps ts) v := by
  obtain ⟨u, pa, ta, xs, ys, rfl, h1, h2, h3, h4, h5⟩ := h
  unfold webD prsD
  rw [Rep]
  refine ⟨u, _, rfl, h1, ?_⟩
  rw [Reps]
  refine ⟨_, _, rfl, ?_, ?_⟩
  · rw [Rep]
    exact ⟨pa, xs, rfl, h2, Prs.reps h4⟩
  · rw [Reps]
    refine ⟨_, _, rfl, ?_, by rw [Reps]⟩
    rw [Rep]
    exact ⟨ta, ys, rfl, h3, Prs.reps h5⟩
theorem plBad_ok : ∀ {ps : List (Int × Int)} {l s : Int} {k : Nat}, PlOk l s ps → plBad l s k (ps.map some) = none
  | [], _, _, _, _ => rfl
  | p :: r, l, s, k, h => by
    rw [List.map_cons, plBad, if_pos (show plS l s (some p) = true from decide_eq_true h.1)]
    exact plBad_ok h.2
theorem tiBad_ok {kvs : List (Key × V)} : ∀ {ts : List (Int × Int)} {q : Int × Int} {k : Nat}, TiOk kvs q ts → tiBad kvs q k (ts.map some) = none
  | [], _, _, _ => rfl
  | p :: r, q, k, h => by
    have c : tiS kvs q (some p) = true := by
      unfold tiS
      simp only [Bool.and_eq_true, decide_eq_true_eq]
      exact ⟨h.1.1, h.1.2.1, h.1.2.2.1, h.1.2.2.2⟩
    rw [List.map_cons, tiBad, if_pos c]
    exact tiBad_ok h.2
theorem prO_prs (ps : List (Int × Int)) : (ps.map pairD).map prO = ps.map some := by
  rw [List.map_map]
  rfl
theorem webOk_no {ps ts : List (Int × Int)} (h : WebOk ps ts) : noWebD (webD ps ts) = none := by
  have e1 : noPlD (prsD ps) = none := by
    unfold prsD noPlD noPl
    dsimp only
    rw [prO_prs, List.length_map, if_pos h.pl, plBad_ok h.p]
    rfl
  have e2 : psD (prsD ps) = ps := by
    show psOf ((ps.map pairD).map prO) = ps
    rw [prO_prs]
    exact psOf_some ps
  have e3 : noTiD (kvsOf ps) (prsD ts) = none := by
    unfold prsD noTiD noTi
    dsimp only
    rw [prO_prs, List.length_map, if_pos h.tl, tiBad_ok h.t]
    rfl
  unfold webD noWebD
  dsimp only
  rw [e1]
  dsimp only
  rw [e2, e3]
theorem good {sp spG : Sp} {k : Nat} {f : Addr} {fd : FuncData} {qs : List Str} (imp : ∀ vs H Q E, spG vs H Q E → sp vs H Q (fun _ _ _ => False)) (G : FnOk P w K mg base (CXE P w) k f fd qs sp) : FnOk P w K mg base CX0 k f fd qs spG := by
  refine ⟨fun vs H Q E q => G.len vs H Q _ (imp _ _ _ _ q), fun A outer s H args us vs Q E hr he hb hv hs => codeAny_mono (G.run A outer s H args us vs Q _ hr he hb hv (imp _ _ _ _ hs)) fun r s' hq => ?_⟩
  cases r with
  | error e =>
    obtain ⟨_, _, _, _, _, _, _, _, _, _, _, _, _, _, _, z⟩ := hq
    exact z.elim
  | ok fl => cases fl <;> exact hq
def SeOk (kvs : List (Key × V)) : Int → List Int → Prop
  | _, [] => True
  | l, n :: r => (hasK kvs n = true ∧ l < n) ∧ SeOk kvs n r
def SetAt (H : Hp) (v : V) (ss : List Int) : Prop := ∃ a, v = .ref a ∧ H a = some (.lst (ss.map V.int))
theorem SetAt.same {H H' : Hp} {v : V} {ss : List Int} (h : SetAt H v ss) (s : Same H H') : SetAt H' v ss := let ⟨a, e, q⟩ := h; ⟨a, e, s _ _ q⟩
structure SetIn (ps : List (Int × Int)) (ss : List Int) : Prop where
  len : ss.length ≤ 40
  ok : SeOk (kvsOf ps) (-1) ss
def spIsSet : Sp := fun vs H Q _ => ∃ v u ps ts ss, vs = [v, u] ∧ WebAt H v ps ts ∧ WebOk ps ts ∧ SetAt H u ss ∧ SetIn ps ss ∧ ∀ H', Same H H' → Q (.bl true) H'
def spLookSet : Sp := fun vs H Q _ => ∃ v u ps ts ss, vs = [v, u] ∧ WebAt H v ps ts ∧ WebOk ps ts ∧ SetAt H u ss ∧ SetIn ps ss ∧ ∀ H', Same H H' → Q .non H'
def spLWG : Sp := fun vs H Q _ => ∃ v ps ts, vs = [v] ∧ WebAt H v ps ts ∧ WebOk ps ts ∧ ∀ H', Same H H' → Q .non H'
theorem lw_good {C : Addr} : ∀ vs H Q E, spLWG vs H Q E → spLW C vs H Q (fun _ _ _ => False) := by
  rintro vs H Q E ⟨v, ps, ts, rfl, hw, wok, h⟩
  refine ⟨v, webD ps ts, rfl, webD_rep hw, fun _ => h, fun w n e => ?_⟩
  rw [webOk_no wok] at e
  cases e
theorem ok_is_set {f : Addr} {fd : FuncData} {f_look_at_web : Addr} {d_look_at_web : FuncData} {f_is_place : Addr} {d_is_place : FuncData} (B : Blt mg) (D : DefAt K mg "is_set" (top 37) ["web", "thing"] f fd) (D_look_at_web : DefAt K mg "look_at_web" (top 20) ["thing"] f_look_at_web d_look_at_web) (G_look_at_web : FnOk P w K mg base CX0 5 f_look_at_web d_look_at_web ["thing"] spLWG) (D_is_place : DefAt K mg "is_place" (top 21) ["prices", "thing"] f_is_place d_is_place) (G_is_place : FnOk P w K mg base CX0 2 f_is_place d_is_place ["prices", "thing"] spIsPl) : FnOk P w K mg base CX0 6 f fd ["web", "thing"] spIsSet := by
  have sc : FnScope ["web", "thing", "prices", "last", "place"] ["web", "thing"] (defScope (top 37)) := ⟨rfl, rfl, rfl, by decide +kernel, rfl, by decide +kernel, by decide +kernel⟩
  refine D.F.ok sc (fun vs H Q E h => ?_) (fun cdv A outer s H vs Q E hr h => ?_)
  · obtain ⟨v, u, ps, ts, ss, rfl, _⟩ := h
    rfl
  obtain ⟨v, u, ps, ts, ss, rfl, hw, wok, hset, sin, h⟩ := h
  obtain ⟨x, pa, ta, xs, ys, rfl, ex, ep, et, pp, pt⟩ := id hw
  obtain ⟨sa, rfl, es⟩ := id hset
  have hlx : xs.length = ps.length := Paired.length pp
  have okl := wok.pl
  have hu := hu_of hr
  have hu0 : _ < PySem.cLine := Nat.lt_of_succ_lt hu
  refine ⟨_, (pss_cons (ps_expr (pe_call G_look_at_web (hr.mono (by decide)) rfl D_look_at_web.m D_look_at_web.F.kp D_look_at_web.b .nil pass0 (pa_cons (qv 0) pa_nil))) (pss_cons (ps_if (pt_not (qt_val (pe_callB (q_isi .lst) rfl B.isinstance PyProof.Rows.boot_isinstance (pa_cons (qv 1) (pa_cons (pe_bltn (v := .ty "list") rfl B.list PyProof.Rows.boot_list rfl) pa_nil))))) (pss_one (ps_ret pe_bl)) pss_nil) (pss_cons (ps_set (i := 2) sc.nd rfl (Or.inl rfl) (pe_callTy (q_dictL rfl) rfl B.dict PyProof.Rows.boot_dict (pa_cons (pe_ix q_ix (qv 0) pe_int (fun _ _ => rfl)) pa_nil))) (pss_cons (ps_set (i := 3) sc.nd rfl (Or.inl rfl) (pe_un q_neg pe_int)) (pss_cons (ps_for PassesOwn.never rfl (pi_list (qv 1)) (pg_name (i := 4) sc.nd rfl (Or.inl rfl)) (pss_cons (ps_if (PW.pt (pw_or (pt_not (qt_val (pe_call G_is_place (hr.mono (by decide)) rfl D_is_place.m D_is_place.F.kp D_is_place.b .nil pass0 (pa_cons (qv 2) (pa_cons (qv 4) pa_nil))))) (pw_or1 (qt_cmp q_le (qv 4) (qv 3) (nomark _))))) (pss_one (ps_ret pe_bl)) pss_nil) (pss_one (ps_set (i := 3) sc.nd rfl (Or.inl rfl) (qv 4))))) (pss_one (ps_ret pe_bl))))))), ?_⟩
  walk_at "RD"
  refine ⟨_, ps, ts, rfl, hw, wok, fun H1 s1 => ?_⟩
  simp_arith [kd, s1 _ _ es, isi, seqOf, s1 _ _ ex, s1 _ _ ep, at0]
  refine ⟨kvsOf ps, pairs_at (Prs.same s1 pp), by omega, keys_nodup wok.p.nodup, fun d hd => ?_⟩
  have s2 : Same H (upd H1 d (.dK (kvsOf ps))) := s1.trans (same_new hd _)
  have ed : upd H1 d (.dK (kvsOf ps)) d = some (.dK (kvsOf ps)) := upd_same
  generalize upd H1 d (.dK (kvsOf ps)) = H2 at s2 ed
  refine tFor_hide (Itl K sa) H2 (fun R hR => ?_) (for_list (K := K) (a := sa) (xs := ss.map V.int) (fun i σ H3 => ∃ l pl, σ = [some (.ref x), some (.ref sa), some (.ref d), some (.int l), pl] ∧ Same H2 H3 ∧ SeOk (kvsOf ps) l (ss.drop i)) ⟨-1, none, rfl, Same.refl _, sin.ok⟩ (fun i σ H3 _ ⟨_, _, _, s3, _⟩ => SqL.of (s3 _ _ (s2 _ _ es))) ?_ ?_)
  · unfold iList
    walk_at "RD"
    exact ⟨sa, rfl, ⟨_, SqL.of (s2 _ _ es)⟩, hR⟩
  · rintro i y σ H3 hi ⟨l, pl, rfl, s3, ok3⟩
    rw [List.getElem?_map] at hi
    obtain ⟨n, hn, rfl⟩ := Option.map_eq_some_iff.mp hi
    rw [drop_get' hn] at ok3
    have hk := ok3.1.1
    walk_at "RD"
    refine ⟨d, _, _, .int n, rfl, s3 _ _ ed, by rw [Rep], ?_⟩
    have hpl : isPl (kvsOf ps) (.int n) = true := hk
    rw [hpl]
    simp_arith [decide_eq_false (show ¬ n ≤ l by have := ok3.1.2; omega)]
    exact ⟨_, _, rfl, s3, ok3.2⟩
  · rintro σ H3 ⟨l, pl, rfl, s3, _⟩
    walk_at "RD"
    exact h H3 (s2.trans s3)
theorem ok_look_at_set {f : Addr} {fd : FuncData} {f_is_set : Addr} {d_is_set : FuncData} (B : Blt mg) (D : DefAt K mg "look_at_set" (top 38) ["web", "thing"] f fd) (D_is_set : DefAt K mg "is_set" (top 37) ["web", "thing"] f_is_set d_is_set) (G_is_set : FnOk P w K mg base CX0 6 f_is_set d_is_set ["web", "thing"] spIsSet) : FnOk P w K mg base CX0 7 f fd ["web", "thing"] spLookSet := by
  have sc : FnScope ["web", "thing"] ["web", "thing"] (defScope (top 38)) := ⟨rfl, rfl, rfl, by decide +kernel, rfl, by decide +kernel, by decide +kernel⟩
  refine D.F.ok sc (fun vs H Q E h => ?_) (fun cdv A outer s H vs Q E hr h => ?_)
  · obtain ⟨v, u, ps, ts, ss, rfl, _⟩ := h
    rfl
  obtain ⟨v, u, ps, ts, ss, rfl, hw, wok, hset, sin, h⟩ := h
  have hu := hu_of hr
  have hu0 : _ < PySem.cLine := Nat.lt_of_succ_lt hu
  refine ⟨_, (pss_one (ps_if (pt_not (qt_val (pe_call G_is_set (hr.mono (by decide)) rfl D_is_set.m D_is_set.F.kp D_is_set.b .nil pass0 (pa_cons (qv 0) (pa_cons (qv 1) pa_nil))))) (pss_one ps_never) pss_nil)), ?_⟩
  walk_at "RD"
  refine ⟨_, _, ps, ts, ss, rfl, hw, wok, hset, sin, fun H1 s1 => ?_⟩
  walk_at "RD"
  exact h H1 s1
end
end My
namespace My
open PySem L2
section
variable {P : Program} {w : World} {K : PySem.W.Frag} {mg : Str → Option Value} {base : Heap} {c1 c2 c3 c4 : Tok} {C_NoWeb f_NoWeb : Addr} {dI : FuncData}
def priceL (ps : List (Int × Int)) (n : Int) : Int := ((ps.find? fun p => decide (p.1 = n)).map (·.2)).getD 0
theorem priceL_at : ∀ {ps : List (Int × Int)} {p : Int × Int}, (ps.map (·.1)).Nodup → p ∈ ps → priceL ps p.1 = p.2
  | q :: r, p, hn, hp => by
    rw [List.map_cons, List.nodup_cons] at hn
    unfold priceL
    rw [List.find?_cons]
    rcases List.mem_cons.mp hp with e | hp
    · subst e
      simp
    · have : ¬ q.1 = p.1 := fun z => hn.1 (z ▸ List.mem_map_of_mem hp)
      rw [decide_eq_false this]
      exact priceL_at hn.2 hp
def tightB (ps : List (Int × Int)) (rows : List Row) (ss : List Int) : Bool := (ss.all fun n => decide (paidL rows n = 2 * priceL ps n)) && rows.all fun r => decide (((r.2.1.filter fun n => decide (n ∈ ss)).length : Int) = gOne r)
structure RowsOk (ps ts : List (Int × Int)) (rows : List Row) : Prop where
  no : noRows ps ts (.lst (rows.map rowD)) = none
  ov : overP ps rows = none
  fit : ∀ r ∈ rows, r.2.1.length ≤ 900
  len : rows.length ≤ 200
def spLRG : Sp := fun vs H Q _ => ∃ v l xs rows ps ts, vs = [v, .ref l] ∧ WebAt H v ps ts ∧ WebOk ps ts ∧ H l = some (.lst xs) ∧ Reps H (rows.map rowD) xs ∧ RowsOk ps ts rows ∧ ∀ H', Same H H' → Q .non H'
theorem rowOf_D (r : Row) : rowOf (rowD r) = some r := by
  obtain ⟨w, ns, am⟩ := r
  show some (w, intsD (ns.map Dt.int), am) = _
  rw [intsD_map]
theorem rowsD_map : ∀ (rows : List Row), (rows.map rowD).filterMap rowOf = rows
  | [] => rfl
  | r :: t => by
    rw [List.map_cons, List.filterMap_cons, rowOf_D]
    dsimp only
    rw [rowsD_map t]
theorem rows_fit {rows : List Row} (h : ∀ r ∈ rows, r.2.1.length ≤ 900) : RowsFit (.lst (rows.map rowD)) := by
  intro ds e r hr a b c er
  cases e
  obtain ⟨q, hq, rfl⟩ := List.mem_map.mp hr
  have := h q hq
  unfold rowD at er
  cases er
  rw [List.length_map]
  exact this
theorem lr_good {CW CR CO : Addr} : ∀ vs H Q E, spLRG vs H Q E → spLookRows CW CR CO vs H Q (fun _ _ _ => False) := by
  rintro vs H Q E ⟨v, l, xs, rows, ps, ts, rfl, hw, wok, el, rx, ok, h⟩
  refine ⟨v, webD ps ts, .ref l, rfl, webD_rep hw, fun w n e => ?_, fun qs us e _ => ?_⟩
  · rw [webOk_no wok] at e
    cases e
  obtain ⟨rfl, rfl⟩ := webD_inj e
  refine ⟨.lst (rows.map rowD), by rw [Rep]; exact ⟨l, xs, rfl, el, rx⟩, rows_fit ok.fit, fun n en => ?_, fun _ => ⟨fun p eo => ?_, fun _ => h⟩⟩
  · rw [ok.no] at en
    cases en
  · rw [show rowsD (.lst (rows.map rowD)) = rows from rowsD_map rows, ok.ov] at eo
    cases eo
theorem SeOk.hasP {kvs : List (Key × V)} : ∀ {ss : List Int} {l n : Int}, SeOk kvs l ss → n ∈ ss → hasK kvs n = true
  | q :: r, l, n, h, hn => by
    rcases List.mem_cons.mp hn with e | hn
    · rw [e]; exact h.1.1
    · exact SeOk.hasP h.2 hn
theorem all_not (f g : Int → Bool) (h : ∀ n, g n = !f n) (l : List Int) : (l.map g).any id = !l.all f := by
  induction l with
  | nil => rfl
  | cons a r ih => rw [List.map_cons, List.any_cons, List.all_cons, ih, h]; cases f a <;> simp
def spTight : Sp := fun vs H Q _ => ∃ v l u xs rows ps ts ss, vs = [v, .ref l, u] ∧ WebAt H v ps ts ∧ WebOk ps ts ∧ H l = some (.lst xs) ∧ Reps H (rows.map rowD) xs ∧ RowsOk ps ts rows ∧ SetAt H u ss ∧ SetIn ps ss ∧ ∀ H', Same H H' → Q (.bl (tightB ps rows ss)) H'
theorem ok_is_tight {f : Addr} {fd : FuncData} {f_look_at_rows : Addr} {d_look_at_rows : FuncData} {f_look_at_set : Addr} {d_look_at_set : FuncData} {f_paid_by : Addr} {d_paid_by : FuncData} {f_many_in : Addr} {d_many_in : FuncData} {f_given_for_one : Addr} {d_given_for_one : FuncData} (B : Blt mg) (D : DefAt K mg "is_tight" (top 41) ["web", "rows", "some"] f fd) (D_look_at_rows : DefAt K mg "look_at_rows" (top 30) ["web", "thing"] f_look_at_rows d_look_at_rows) (G_look_at_rows : FnOk P w K mg base CX0 6 f_look_at_rows d_look_at_rows ["web", "thing"] spLRG) (D_look_at_set : DefAt K mg "look_at_set" (top 38) ["web", "thing"] f_look_at_set d_look_at_set) (G_look_at_set : FnOk P w K mg base CX0 7 f_look_at_set d_look_at_set ["web", "thing"] spLookSet) (D_paid_by : DefAt K mg "paid_by" (top 29) ["rows"] f_paid_by d_paid_by) (G_paid_by : FnOk P w K mg base CX0 1 f_paid_by d_paid_by ["rows"] spPaidBy) (D_many_in : DefAt K mg "many_in" (top 40) ["places", "some"] f_many_in d_many_in) (G_many_in : FnOk P w K mg base CX0 1 f_many_in d_many_in ["places", "some"] spMany) (D_given_for_one : DefAt K mg "given_for_one" (top 31) ["row"] f_given_for_one d_given_for_one) (G_given_for_one : FnOk P w K mg base CX0 1 f_given_for_one d_given_for_one ["row"] spGOne) : FnOk P w K mg base CX0 8 f fd ["web", "rows", "some"] spTight := by
  have sc : FnScope ["web", "rows", "some", "prices", "paid"] ["web", "rows", "some"] (defScope (top 41)) := ⟨rfl, rfl, rfl, by decide +kernel, rfl, by decide +kernel, by decide +kernel⟩
  refine D.F.ok sc (fun vs H Q E h => ?_) (fun cdv A outer s H vs Q E hr h => ?_)
  · obtain ⟨v, l, u, xs, rows, ps, ts, ss, rfl, _⟩ := h
    rfl
  obtain ⟨v, l, u, zs, rows, ps, ts, ss, rfl, hw, wok, el, rz, rok, hset, sin, h⟩ := h
  obtain ⟨x, pa, ta, xs, ys, rfl, ex, ep, et, pp, pt⟩ := id hw
  obtain ⟨sa, rfl, es⟩ := id hset
  have hlx : xs.length = ps.length := Paired.length pp
  have okl := wok.pl
  have hlz : zs.length = rows.length := by rw [rz.len, List.length_map]
  have hl2 := rok.len
  have hu := hu_of hr
  have hu0 : _ < PySem.cLine := Nat.lt_of_succ_lt hu
  refine ⟨_, (pss_cons (ps_expr (pe_call G_look_at_rows (hr.mono (by decide)) rfl D_look_at_rows.m D_look_at_rows.F.kp D_look_at_rows.b .nil pass0 (pa_cons (qv 0) (pa_cons (qv 1) pa_nil)))) (pss_cons (ps_expr (pe_call G_look_at_set (hr.mono (by decide)) rfl D_look_at_set.m D_look_at_set.F.kp D_look_at_set.b .nil pass0 (pa_cons (qv 0) (pa_cons (qv 2) pa_nil)))) (pss_cons (ps_set (i := 3) sc.nd rfl (Or.inr rfl) (pe_callTy (q_dictL rfl) rfl B.dict PyProof.Rows.boot_dict (pa_cons (pe_ix q_ix (qv 0) pe_int (fun _ _ => rfl)) pa_nil))) (pss_cons (ps_set (i := 4) sc.nd rfl (Or.inr rfl) (pe_call G_paid_by (hr.mono (by decide)) rfl D_paid_by.m D_paid_by.F.kp D_paid_by.b .nil pass0 (pa_cons (qv 1) pa_nil))) (pss_cons (ps_if (qt_val (pe_callB (q_any rfl) rfl B.any PyProof.Rows.boot_any (pa_cons (pe_comp (CpScope.of (N := ["place", "paid", "prices"]) (src := [none, some 4, some 3]) (by rfl)) rfl (pi_list (qv 2)) (fun _ _ _ _ => (pg_name (i := 0) (nodupB_ok (l := ["place", "paid", "prices"]) (by rfl)) rfl (Or.inl rfl))) (fun _ _ _ _ => pif_nil) (fun _ _ _ _ => (pe_cmpR q_ne (q_dget2 hu (qv 1) (qv 0) pe_int) (pe_op q_mul pe_int (q_dget hu (qv 2) (qv 0) (fun _ _ => rfl))) (nomark _)))) pa_nil))) (pss_one (ps_ret pe_bl)) pss_nil) (pss_one (ps_ret (pe_callB (q_all rfl) rfl B.all PyProof.Rows.boot_all (pa_cons (pe_comp (CpScope.of (N := ["row", "some"]) (src := [none, some 2]) (by rfl)) rfl (pi_list (qv 1)) (fun _ _ _ _ => (pg_name (i := 0) (nodupB_ok (l := ["row", "some"]) (by rfl)) rfl (Or.inl rfl))) (fun _ _ _ _ => pif_nil) (fun _ _ _ _ => (pe_cmpR q_eq (pe_call G_many_in (hr.mono (by decide)) rfl D_many_in.m D_many_in.F.kp D_many_in.b .nil pass0 (pa_cons (pe_ix q_ix (qv 0) pe_int (fun _ _ => rfl)) (pa_cons (qv 1) pa_nil))) (pe_call G_given_for_one (hr.mono (by decide)) rfl D_given_for_one.m D_given_for_one.F.kp D_given_for_one.b .nil pass0 (pa_cons (qv 0) pa_nil)) (nomark _)))) pa_nil))))))))), ?_⟩
  refine seq_hide fun R hR => ?_
  walk_at "RD"
  refine ⟨_, l, zs, rows, ps, ts, rfl, hw, wok, el, rz, rok, fun H1 s1 => ?_⟩
  walk_at "RD"
  subst hR
  refine seq_hide fun R hR => ?_
  walk_at "RD"
  refine ⟨_, _, ps, ts, ss, rfl, hw.same s1, wok, hset.same s1, sin, fun H2 s2 => ?_⟩
  have s02 := s1.trans s2
  walk_at "RD"
  subst hR
  refine seq_hide fun R hR => ?_
  simp_arith [seqOf, s02 _ _ ex, s02 _ _ ep, at0]
  refine ⟨kvsOf ps, pairs_at (Prs.same s02 pp), by omega, keys_nodup wok.p.nodup, fun d hd => ?_⟩
  have s03 : Same H (upd H2 d (.dK (kvsOf ps))) := s02.trans (same_new hd _)
  have ed : upd H2 d (.dK (kvsOf ps)) d = some (.dK (kvsOf ps)) := upd_same
  generalize upd H2 d (.dK (kvsOf ps)) = H3 at s03 ed
  subst hR
  refine seq_hide fun R hR => ?_
  walk_at "RD"
  refine ⟨l, zs, rows, rfl, s03 _ _ el, Reps.same s03 _ rz, by omega, rok.fit, fun pd kvs H4 hpd s4 epd hpv => ?_⟩
  have s04 := s03.trans s4
  have ed4 := s4 _ _ ed
  walk_at "RD"
  subst hR
  refine seq_hide fun R hR => ?_
  walk_at "RD"
  refine tComp_hide (Itl K sa) H4 (fun R' hR' => ?_) (fun z hz => comp_run ss.length (fun i σ' Hc => ∃ w1, σ' = [w1, some (.ref pd), some (.ref d)] ∧ Same H4 Hc ∧ Hc z = some (.lst (((ss.take i).map fun n => !decide (paidL rows n = 2 * priceL ps n)).map V.bl))) ⟨none, rfl, same_new hz _, upd_same⟩ ?_ ?_)
  · unfold iList
    walk_at "RD"
    exact ⟨sa, rfl, ⟨_, SqL.of (s04 _ _ es)⟩, hR'⟩
  · rintro i σ' Hc hi ⟨w1, rfl, s5, ez⟩
    have x1 : ss[i]? = some ss[i] := List.getElem?_eq_getElem hi
    generalize ss[i] = n at x1
    have X1 : (ss.map V.int)[i]? = some (.int n) := by rw [List.getElem?_map, x1]; rfl
    have z1 : SqL K Hc sa (ss.map V.int) := SqL.of (s5 _ _ (s04 _ _ es))
    refine ⟨⟨_, _, z1, X1⟩, ?_⟩
    rintro y H' ⟨rfl, hy⟩
    have E1 : V.int n = y := Option.some.inj (X1.symm.trans (hy _ z1))
    subst E1
    have ed5 := s5 _ _ ed4
    have epd5 := s5 _ _ epd
    obtain ⟨j, p, hpj, hpn⟩ := hasK_inv (sin.ok.hasP (List.mem_of_getElem? x1))
    have hpm := List.mem_of_getElem? hpj
    have hv := valV_of wok.p.nodup hpm
    have hpr := priceL_at wok.p.nodup hpm
    rw [hpn] at hv hpr
    simp_arith [epd5, hpv]
    refine ⟨⟨kvs, rfl⟩, ?_⟩
    simp_arith [epd5, hpv, ed5, hv]
    refine ⟨.inl ⟨by decide, by decide⟩, _, ez, ?_, _, rfl, same_upd s5 hz, ?_⟩
    · rw [List.length_map, List.length_map, List.length_take]
      have := sin.len
      exact szl' (by omega)
    · rw [upd_same, take_get x1, List.map_append, List.map_append, ← hpr]
      rfl
  rintro σ' H5 ⟨w1, rfl, s5, ez⟩
  refine ⟨⟨_, SqL.of (s5 _ _ (s04 _ _ es)), by rw [List.length_map]; exact Nat.le_refl _⟩, ?_⟩
  rw [List.take_length] at ez
  simp_arith [ez]
  refine ⟨_, rfl, ?_⟩
  simp only [all_not (fun n => decide (paidL rows n = 2 * priceL ps n)) _ (fun n => rfl)]
  have s05 := s04.trans s5
  cases hc : ss.all fun n => decide (paidL rows n = 2 * priceL ps n) with
  | false =>
    have := h H5 s05
    unfold tightB at this
    rw [hc] at this
    exact this
  | true =>
  subst hR
  walk_at "RD"
  refine tComp_hide (Itl K l) H5 (fun R' hR' => ?_) (fun z2 hz2 => comp_run rows.length (fun i σ' Hc => ∃ w1, σ' = [w1, some (.ref sa)] ∧ Same H5 Hc ∧ Hc z2 = some (.lst (((rows.take i).map fun r => decide (((r.2.1.filter fun n => decide (n ∈ ss)).length : Int) = gOne r)).map V.bl))) ⟨none, rfl, same_new hz2 _, upd_same⟩ ?_ ?_)
  · unfold iList
    walk_at "RD"
    exact ⟨l, rfl, ⟨_, SqL.of (s05 _ _ el)⟩, hR'⟩
  · rintro i σ' Hc hi ⟨w2, rfl, s6, ez2⟩
    have x1 : zs[i]? = some (zs[i]'(by omega)) := List.getElem?_eq_getElem _
    have z1 : SqL K Hc l zs := SqL.of (s6 _ _ (s05 _ _ el))
    refine ⟨⟨_, _, z1, x1⟩, ?_⟩
    rintro y H' ⟨rfl, hy⟩
    obtain ⟨r, u, la, hri, rfl, eu, ela⟩ := row_at rz (hy _ z1)
    have s06 := s05.trans s6
    have eu' := s06 _ _ eu
    have ela' := s06 _ _ ela
    simp_arith [seqOf, eu', at1]
    refine ⟨la, sa, r.2.1, ss, rfl, ela', s06 _ _ es, rok.fit r (List.mem_of_getElem? hri), fun H7 s7 => ?_⟩
    refine ⟨_, r, rfl, ⟨u, la, rfl, s7 _ _ eu', s7 _ _ ela'⟩, ?_⟩
    walk_at "RD"
    refine ⟨_, s7 _ _ ez2, ?_, _, rfl, same_upd (s6.trans s7) hz2, ?_⟩
    · rw [List.length_map, List.length_map, List.length_take]
      exact szl' (by omega)
    · rw [upd_same, take_get hri, List.map_append, List.map_append]
      rfl
  rintro σ' H6 ⟨w2, rfl, s6, ez2⟩
  refine ⟨⟨_, SqL.of (s6 _ _ (s05 _ _ el)), by omega⟩, ?_⟩
  rw [List.take_length] at ez2
  simp_arith [ez2]
  refine ⟨_, rfl, ?_⟩
  have := h H6 (s05.trans s6)
  unfold tightB at this
  rw [hc, Bool.true_and] at this
  rw [List.all_map]
  exact this
end
end My
namespace My
open PySem L2
section
variable {P : Program} {w : World} {K : PySem.W.Frag} {mg : Str → Option Value} {base : Heap} {c1 c2 c3 c4 : Tok} {C_NoWeb f_NoWeb : Addr} {dI : FuncData}
def costL (ps : List (Int × Int)) (ss : List Int) : Int := ((ps.filter fun p => decide (p.1 ∈ ss)).map (·.2)).sum
def spCost : Sp := fun vs H Q _ => ∃ v u ps ts ss, vs = [v, u] ∧ WebAt H v ps ts ∧ ps.length ≤ 900 ∧ SetAt H u ss ∧ ∀ H', Same H H' → Q (.int (costL ps ss)) H'
def setsL (ns : List Int) : List (List Int) := ns.foldl (fun f n => f ++ f.map fun s => s ++ [n]) [[]]
theorem setsL_snoc (ns : List Int) (n : Int) : setsL (ns ++ [n]) = setsL ns ++ (setsL ns).map fun s => s ++ [n] := by
  unfold setsL
  rw [List.foldl_append]
  rfl
theorem setsL_len (ns : List Int) : (setsL ns).length = 2 ^ ns.length := by
  suffices h : ∀ (ns : List Int) (f : List (List Int)), (ns.foldl (fun f n => f ++ f.map fun s => s ++ [n]) f).length = f.length * 2 ^ ns.length by
    have := h ns [[]]
    simpa [setsL] using this
  intro ns
  induction ns with
  | nil => intro f; simp
  | cons a r ih =>
    intro f
    rw [List.foldl_cons, ih, List.length_append, List.length_map, List.length_cons, Nat.pow_succ]
    have : f.length + f.length = f.length * 2 := by omega
    rw [this, Nat.mul_assoc, Nat.mul_comm 2]
theorem setsL_mem : ∀ (ns : List Int) (f : List (List Int)) (k : Nat), (∀ s ∈ f, s.length ≤ k) → ∀ s ∈ ns.foldl (fun f n => f ++ f.map fun s => s ++ [n]) f, s.length ≤ k + ns.length
  | [], f, k, h, s, hs => h s hs
  | a :: r, f, k, h, s, hs => by
    rw [List.foldl_cons] at hs
    have := setsL_mem r _ (k + 1) (fun t ht => ?_) s hs
    · rw [List.length_cons]
      omega
    · rcases List.mem_append.mp ht with ht | ht
      · have := h t ht
        omega
      · obtain ⟨q, hq, rfl⟩ := List.mem_map.mp ht
        have := h q hq
        rw [List.length_append]
        show q.length + 1 ≤ k + 1
        omega
theorem setsL_le {ns s : List Int} (h : s ∈ setsL ns) : s.length ≤ ns.length := by
  have := setsL_mem ns [[]] 0 (fun t ht => by rw [List.mem_singleton.mp ht]; exact Nat.le_refl _) s h
  omega
theorem paired_app' {α β : Type} {F : α → β → Prop} : ∀ {a : List α} {b : List β} {c : List α} {d : List β}, Paired F a b → Paired F c d → Paired F (a ++ c) (b ++ d)
  | _, _, _, _, .nil, h => h
  | _, _, _, _, .cons r t, h => .cons r (paired_app' t h)
def SetNew (H H' : Hp) (x : V) (s : List Int) : Prop := SetAt H' x s ∧ ∀ a, x = .ref a → H a = none
def spSets : Sp := fun vs H Q _ => ∃ (l : Addr) (ns : List Int), vs = [.ref l] ∧ H l = some (.lst (ns.map V.int)) ∧ ns.length ≤ 12 ∧ ∀ l' xs H', H l' = none → Same H H' → H' l' = some (.lst xs) → Paired (SetNew H H') xs (setsL ns) → Q (.ref l') H'
theorem ok_law_cost {f : Addr} {fd : FuncData}  (B : Blt mg) (D : DefAt K mg "_law_cost" (top 54) ["_law_web_here", "_law_some"] f fd) : FnOk P w K mg base CX0 1 f fd ["_law_web_here", "_law_some"] spCost := by
  have sc : FnScope ["_law_web_here", "_law_some"] ["_law_web_here", "_law_some"] (defScope (top 54)) := ⟨rfl, rfl, rfl, by decide +kernel, rfl, by decide +kernel, by decide +kernel⟩
  refine D.F.ok sc (fun vs H Q E h => ?_) (fun cdv A outer s H vs Q E hr h => ?_)
  · obtain ⟨v, u, ps, ts, ss, rfl, _⟩ := h
    rfl
  obtain ⟨v, u, ps, ts, ss, rfl, hw, hl9, ⟨sa, rfl, es⟩, h⟩ := h
  obtain ⟨x, pa, ta, xs, ys, rfl, ex, ep, et, pp, pt⟩ := id hw
  have hlx : xs.length = ps.length := Paired.length pp
  have hu := hu_of hr
  have hu0 : _ < PySem.cLine := Nat.lt_of_succ_lt hu
  refine ⟨_, (pss_one (ps_ret (pe_callB (q_sum rfl) rfl B.sum PyProof.Rows.boot_sum (pa_cons (pe_comp (CpScope.of (N := ["_law_place", "_law_price", "_law_some"]) (src := [none, none, some 1]) (by rfl)) rfl (pi_list (pe_ix q_ix (qv 0) pe_int (fun _ _ => rfl))) (fun _ _ _ _ => (qg_tup (n := 2) rfl (qgs_cons (pg_name (i := 0) (nodupB_ok (l := ["_law_place", "_law_price", "_law_some"]) (by rfl)) rfl (Or.inl rfl)) (qgs_cons (pg_name (i := 1) (nodupB_ok (l := ["_law_place", "_law_price", "_law_some"]) (by rfl)) rfl (Or.inl rfl)) qgs_nil)))) (fun _ _ _ _ => (pif_one (qt_cmp q_inL (qv 0) (qv 2) (by with_unfolding_all rfl)))) (fun _ _ _ _ => (qv 1))) pa_nil)))), ?_⟩
  walk_at "RD"
  refine tComp_hide (Itl K pa) H (fun R hR => ?_) (fun z hz => comp_run ps.length (fun i σ' Hc => ∃ w1 w2, σ' = [w1, w2, some (.ref sa)] ∧ Same H Hc ∧ Hc z = some (.lst ((((ps.take i).filter fun p => decide (p.1 ∈ ss)).map (·.2)).map V.int))) ⟨none, none, rfl, same_new hz _, upd_same⟩ ?_ ?_)
  · unfold iList
    simp_arith [seqOf, ex, at0]
    exact ⟨pa, rfl, ⟨_, SqL.of ep⟩, hR⟩
  · rintro i σ' Hc hi ⟨w1, w2, rfl, s4, ez⟩
    have x1 : xs[i]? = some (xs[i]'(by omega)) := List.getElem?_eq_getElem _
    have z1 : SqL K Hc pa xs := SqL.of (s4 _ _ ep)
    refine ⟨⟨_, _, z1, x1⟩, ?_⟩
    rintro y H' ⟨rfl, hy⟩
    obtain ⟨q, hq, pq⟩ := paired_left pp (hy _ z1)
    obtain ⟨t, rfl, ht⟩ := pq.same s4
    have es' := s4 _ _ es
    simp_arith [ht, seqOf, es']
    refine ⟨rfl, flat_ints _, ?_⟩
    rw [inV_ints, take_get hq, List.filter_append]
    by_cases c : q.1 ∈ ss
    · rw [if_pos (decide_eq_true c)]
      refine ⟨_, ez, ?_, _, _, rfl, same_upd s4 hz, ?_⟩
      · rw [List.length_map, List.length_map]
        have := List.length_filter_le (fun p : Int × Int => decide (p.1 ∈ ss)) (ps.take i)
        rw [List.length_take] at this
        exact szl' (by omega)
      · rw [upd_same, List.map_append, List.map_append, List.filter_cons, if_pos (decide_eq_true c)]
        rfl
    · rw [if_neg (fun z => c (of_decide_eq_true z)), List.filter_cons, if_neg (by rw [decide_eq_false c]; decide), List.filter_nil, List.append_nil]
      exact ⟨_, _, rfl, s4, ez⟩
  rintro σ' H1 ⟨w1, w2, rfl, s1, ez⟩
  refine ⟨⟨_, SqL.of (s1 _ _ ep), by omega⟩, ?_⟩
  rw [List.take_length] at ez
  exact ⟨z, _, rfl, ez, h H1 s1⟩
theorem ok_law_sets {f : Addr} {fd : FuncData}  (B : Blt mg) (D : DefAt K mg "_law_sets" (top 52) ["_law_places_here"] f fd) : FnOk P w K mg base CX0 1 f fd ["_law_places_here"] spSets := by
  have sc : FnScope ["_law_places_here", "_law_found", "_law_place"] ["_law_places_here"] (defScope (top 52)) := ⟨rfl, rfl, rfl, by decide +kernel, rfl, by decide +kernel, by decide +kernel⟩
  refine D.F.ok sc (fun vs H Q E h => ?_) (fun cdv A outer s H vs Q E hr h => ?_)
  · obtain ⟨l, ns, rfl, _⟩ := h
    rfl
  obtain ⟨l, ns, rfl, el, hl, h⟩ := h
  have hu := hu_of hr
  have hu0 : _ < PySem.cLine := Nat.lt_of_succ_lt hu
  refine ⟨_, (pss_cons (ps_set (i := 1) sc.nd rfl (Or.inl rfl) (pe_lst (pa_cons (pe_lst pa_nil) pa_nil))) (pss_cons (ps_for PassesOwn.never rfl (pi_list (qv 0)) (pg_name (i := 2) sc.nd rfl (Or.inr rfl)) (pss_one (ps_set (i := 1) sc.nd rfl (Or.inl rfl) (pe_op q_cat (qv 1) (pe_comp (CpScope.of (N := ["_law_some", "_law_place"]) (src := [none, some 2]) (by rfl)) rfl (pi_list (qv 1)) (fun _ _ _ _ => (pg_name (i := 0) (nodupB_ok (l := ["_law_some", "_law_place"]) (by rfl)) rfl (Or.inl rfl))) (fun _ _ _ _ => pif_nil) (fun _ _ _ _ => (pe_op q_cat (qv 0) (pe_lst (pa_cons (qv 1) pa_nil))))))))) (pss_one (ps_ret (qv 1))))), ?_⟩
  walk_at "RD"
  intro e0 he0
  have s0 := same_new he0 (.lst [])
  have ee0 : upd H e0 (.lst []) e0 = some (.lst []) := upd_same
  generalize upd H e0 (.lst []) = H0 at s0 ee0
  intro f0 hf0
  have s1 := s0.trans (same_new hf0 (.lst [.ref e0]))
  have ef1 : upd H0 f0 (.lst [.ref e0]) f0 = some (.lst [.ref e0]) := upd_same
  have ee1 := same_new hf0 (.lst [.ref e0]) _ _ ee0
  have hf00 := s0.free hf0
  generalize upd H0 f0 (.lst [.ref e0]) = H1 at s1 ef1 ee1
  refine tFor_hide (Itl K l) H1 (fun R hR => ?_) (for_list (K := K) (a := l) (xs := ns.map V.int) (fun i σ H2 => ∃ fa xs v1, σ = [some (.ref l), some (.ref fa), v1] ∧ Same H H2 ∧ H fa = none ∧ H2 fa = some (.lst xs) ∧ Paired (SetNew H H2) xs (setsL (ns.take i))) ⟨f0, _, none, rfl, s1, hf00, ef1, .cons ⟨⟨e0, rfl, ee1⟩, fun a q => by cases q; exact he0⟩ .nil⟩ (fun i σ H2 _ ⟨_, _, _, _, s2, _⟩ => SqL.of (s2 _ _ el)) ?_ ?_)
  · unfold iList
    walk_at "RD"
    exact ⟨l, rfl, ⟨_, SqL.of (s1 _ _ el)⟩, hR⟩
  · rintro i y σ H2 hi ⟨fa, xs, v1, rfl, s2, hfa, ef2, pz⟩
    rw [List.getElem?_map] at hi
    obtain ⟨n, hn, rfl⟩ := Option.map_eq_some_iff.mp hi
    have hin : i < ns.length := (List.getElem?_eq_some_iff.mp hn).1
    have hsl : (setsL (ns.take i)).length ≤ 4096 := by
      rw [setsL_len, List.length_take]
      exact Nat.le_trans (Nat.pow_le_pow_right (by decide) (show min i ns.length ≤ 12 by omega)) (by decide)
    have hxl : xs.length = (setsL (ns.take i)).length := Paired.length pz
    walk_at "RD"
    refine tComp_hide (Itl K fa) H2 (fun R hR => ?_) (fun z hz => comp_run (setsL (ns.take i)).length (fun j σ' Hc => ∃ w1 ys, σ' = [w1, some (.int n)] ∧ Same H2 Hc ∧ Hc z = some (.lst ys) ∧ Paired (fun x s => SetNew H Hc x s ∧ x ≠ .ref z) ys (((setsL (ns.take i)).take j).map fun s => s ++ [n])) ⟨none, [], rfl, same_new hz _, upd_same, .nil⟩ ?_ ?_)
    · unfold iList
      walk_at "RD"
      exact ⟨fa, rfl, ⟨_, SqL.of ef2⟩, hR⟩
    · rintro j σ' Hc hj ⟨w1, ys, rfl, s3, ez, pys⟩
      have hyl : ys.length = j := by
        have := Paired.length pys
        rw [List.length_map, List.length_take] at this
        omega
      have x1 : xs[j]? = some (xs[j]'(by omega)) := List.getElem?_eq_getElem _
      have z1 : SqL K Hc fa xs := SqL.of (s3 _ _ ef2)
      refine ⟨⟨_, _, z1, x1⟩, ?_⟩
      rintro y H' ⟨rfl, hy⟩
      obtain ⟨ss, hss, ⟨sa, rfl, es⟩, _⟩ := paired_left pz (hy _ z1)
      have hs12 := setsL_le (List.mem_of_getElem? hss)
      rw [List.length_take] at hs12
      walk_at "RD"
      intro c1 hc1
      have s4 := same_new hc1 (.lst [.int n])
      have ec4 : upd H' c1 (.lst [.int n]) c1 = some (.lst [.int n]) := upd_same
      have es4 := s4 _ _ (s3 _ _ es)
      have ez4 := s4 _ _ ez
      have py4 : Paired (fun x s => SetNew H (upd H' c1 (.lst [.int n])) x s ∧ x ≠ .ref z) ys _ := Paired.mapP pys fun _ _ q => ⟨⟨q.1.1.same s4, q.1.2⟩, q.2⟩
      have s34 := s3.trans s4
      generalize upd H' c1 (.lst [.int n]) = H4 at s4 ec4 es4 ez4 py4 s34
      simp only [es4, ec4]
      refine ⟨?_, ?_⟩
      · have : (1000000 : Nat) ≤ sizeLine := by decide
        rw [List.length_map]
        show ss.length + 1 ≤ _
        omega
      intro c2 hc2
      have s5 := same_new hc2 (.lst (ss.map V.int ++ [.int n]))
      have ec5 : upd H4 c2 (.lst (ss.map V.int ++ [.int n])) c2 = some (.lst (ss.map V.int ++ [.int n])) := upd_same
      have ez5 := s5 _ _ ez4
      have py5 : Paired (fun x s => SetNew H (upd H4 c2 (.lst (ss.map V.int ++ [.int n]))) x s ∧ x ≠ .ref z) ys _ := Paired.mapP py4 fun _ _ q => ⟨⟨q.1.1.same s5, q.1.2⟩, q.2⟩
      have hc20 : H c2 = none := (s2.trans s34).free hc2
      have s35 := s34.trans s5
      have nz : c2 ≠ z := (ne_of_none ez4 hc2).symm
      generalize upd H4 c2 (.lst (ss.map V.int ++ [.int n])) = H5 at s5 ec5 ez5 py5 s35
      refine ⟨_, ez5, szg (by omega), _, _, rfl, same_upd s35 hz, upd_same, ?_⟩
      rw [take_get hss, List.map_append]
      refine paired_snoc (Paired.mapP py5 fun _ _ ⟨⟨⟨a, q1, q2⟩, q4⟩, q3⟩ => ⟨⟨⟨a, q1, ?_⟩, q4⟩, q3⟩) ⟨⟨⟨c2, rfl, ?_⟩, fun a q => by cases q; exact hc20⟩, fun q => nz (by cases q; rfl)⟩
      · rw [upd_ne (fun q => q3 (by rw [q1, q]))]
        exact q2
      · rw [upd_ne nz, List.map_append]
        exact ec5
    rintro σ' H3 ⟨w1, ys, rfl, s3, ez, pys⟩
    refine ⟨⟨_, SqL.of (s3 _ _ ef2), by omega⟩, ?_⟩
    rw [List.take_length] at pys
    have ef3 := s3 _ _ ef2
    simp_arith [ef3, ez]
    have hyl : ys.length = (setsL (ns.take i)).length := by
      have := Paired.length pys
      rwa [List.length_map] at this
    refine ⟨?_, fun c hc => ?_⟩
    · have : (1000000 : Nat) ≤ sizeLine := by decide
      omega
    have s4 := same_new hc (.lst (xs ++ ys))
    refine ⟨c, _, _, rfl, (s2.trans s3).trans s4, (s2.trans s3).free hc, upd_same, ?_⟩
    rw [take_get hn, setsL_snoc]
    exact paired_app' (Paired.mapP pz fun _ _ q => ⟨q.1.same (s3.trans s4), q.2⟩) (Paired.mapP pys fun _ _ q => ⟨q.1.1.same s4, q.1.2⟩)
  · rintro σ H2 ⟨fa, xs, v1, rfl, s2, hfa, ef2, pz⟩
    rw [List.length_map, List.take_length] at pz
    walk_at "RD"
    exact h fa xs H2 hfa s2 ef2 pz
end
end My
namespace My
open PySem L2
section
variable {P : Program} {w : World} {K : PySem.W.Frag} {mg : Str → Option Value} {base : Heap} {c1 c2 c3 c4 : Tok} {C_NoWeb f_NoWeb : Addr} {dI : FuncData}
def leftA (ts : List (Int × Int)) (ss : List Int) : List (Int × Int) := ts.filter fun t => !decide (t.1 ∈ ss)
def leftB (ts : List (Int × Int)) (ss : List Int) : List (Int × Int) := (leftA ts ss).filter fun t => !decide (t.2 ∈ ss)
def touchL (ps ts : List (Int × Int)) : List (List Int) := (setsL (ps.map (·.1))).filter fun ss => decide (leftB ts ss = [])
def spTouch : Sp := fun vs H Q _ => ∃ v ps ts, vs = [v] ∧ WebAt H v ps ts ∧ WebOk ps ts ∧ ps.length ≤ 12 ∧ ∀ l xs H', H l = none → Same H H' → H' l = some (.lst xs) → Paired (SetAt H') xs (touchL ps ts) → Q (.ref l) H'
theorem filter_take' {α : Type} {f : α → Bool} {l : List α} {i : Nat} {x : α} (h : l[i]? = some x) : (l.take (i + 1)).filter f = (l.take i).filter f ++ (if f x = true then [x] else []) := by
  rw [take_get h, List.filter_append, List.filter_cons]
  rfl
theorem ok_law_touching {f : Addr} {fd : FuncData} {f_law_sets : Addr} {d_law_sets : FuncData} (B : Blt mg) (D : DefAt K mg "_law_touching" (top 53) ["_law_web_here"] f fd) (D_law_sets : DefAt K mg "_law_sets" (top 52) ["_law_places_here"] f_law_sets d_law_sets) (G_law_sets : FnOk P w K mg base CX0 1 f_law_sets d_law_sets ["_law_places_here"] spSets) : FnOk P w K mg base CX0 2 f fd ["_law_web_here"] spTouch := by
  have sc : FnScope ["_law_web_here", "_law_found", "_law_some", "_law_left"] ["_law_web_here"] (defScope (top 53)) := ⟨rfl, rfl, rfl, by decide +kernel, rfl, by decide +kernel, by decide +kernel⟩
  refine D.F.ok sc (fun vs H Q E h => ?_) (fun cdv A outer s H vs Q E hr h => ?_)
  · obtain ⟨v, ps, ts, rfl, _⟩ := h
    rfl
  obtain ⟨v, ps, ts, rfl, hw, wok, hp12, h⟩ := h
  obtain ⟨x, pa, ta, xs, ys, rfl, ex, ep, et, pp, pt⟩ := id hw
  have hlx : xs.length = ps.length := Paired.length pp
  have hly : ys.length = ts.length := Paired.length pt
  have htl := wok.tl
  have hu := hu_of hr
  have hu0 : _ < PySem.cLine := Nat.lt_of_succ_lt hu
  refine ⟨_, (pss_cons (ps_set (i := 1) sc.nd rfl (Or.inl rfl) (pe_lst pa_nil)) (pss_cons (ps_for PassesOwn.never rfl (pi_list (pe_call G_law_sets (hr.mono (by decide)) rfl D_law_sets.m D_law_sets.F.kp D_law_sets.b .nil pass0 (pa_cons (pe_comp (CpScope.of (N := ["_law_place", "_law_price"]) (src := [none, none]) (by rfl)) rfl (pi_list (pe_ix q_ix (qv 0) pe_int (fun _ _ => rfl))) (fun _ _ _ _ => (qg_tup (n := 2) rfl (qgs_cons (pg_name (i := 0) (nodupB_ok (l := ["_law_place", "_law_price"]) (by rfl)) rfl (Or.inl rfl)) (qgs_cons (pg_name (i := 1) (nodupB_ok (l := ["_law_place", "_law_price"]) (by rfl)) rfl (Or.inl rfl)) qgs_nil)))) (fun _ _ _ _ => pif_nil) (fun _ _ _ _ => (qv 0))) pa_nil))) (pg_name (i := 2) sc.nd rfl (Or.inr rfl)) (pss_cons (ps_setc (i := 3) sc.nd rfl (Or.inl rfl) (CpScope.of (N := ["_law_tie", "_law_some"]) (src := [none, some 2]) (by rfl)) rfl (pi_list (pe_ix q_ix (qv 0) pe_int (fun _ _ => rfl))) (fun _ _ _ _ => (pg_name (i := 0) (nodupB_ok (l := ["_law_tie", "_law_some"]) (by rfl)) rfl (Or.inl rfl))) (fun _ _ _ _ => (pif_one (qt_cmp q_notinL (pe_ix q_ix (qv 0) pe_int (fun _ _ => rfl)) (qv 1) (by with_unfolding_all rfl)))) (fun _ _ _ _ => (qv 0))) (pss_one (ps_if (qt_cmp (op_eqD hr.units) (pe_comp (CpScope.of (N := ["_law_tie", "_law_some"]) (src := [none, some 2]) (by rfl)) rfl (pi_list (qv 3)) (fun _ _ _ _ => (pg_name (i := 0) (nodupB_ok (l := ["_law_tie", "_law_some"]) (by rfl)) rfl (Or.inl rfl))) (fun _ _ _ _ => (pif_one (qt_cmp q_notinL (pe_ix q_ix (qv 0) pe_int (fun _ _ => rfl)) (qv 1) (by with_unfolding_all rfl)))) (fun _ _ _ _ => (qv 0))) (pe_lst pa_nil) (nomark _)) (pss_one (ps_expr (q_bm PySem.F.plainAttrs_list PySem.F.slot_list_append PySem.F.type_list_append q_append (qv 1) (pa_cons (qv 2) pa_nil)))) pss_nil)))) (pss_one (ps_ret (qv 1))))), ?_⟩
  refine seq_hide fun R hR => ?_
  walk_at "RD"
  intro fl hfl
  have s1 := same_new hfl (.lst [])
  have ef1 : upd H fl (.lst []) fl = some (.lst []) := upd_same
  generalize upd H fl (.lst []) = H1 at s1 ef1
  subst hR
  refine seq_hide fun R hR => ?_
  refine tFor_hideI (ι := Addr × List V × Hp) (fun i0 => Itl K i0.1) (fun i0 => i0.2.2) (fun i0 => Same H1 i0.2.2 ∧ i0.2.2 i0.1 = some (.lst i0.2.1) ∧ H1 i0.1 = none ∧ Paired (SetNew H1 i0.2.2) i0.2.1 (setsL (ps.map (·.1)))) (fun R' hR' => ?_) (fun i0 ok0 => ?_)
  · unfold iList
    walk_at "RD"
    refine tComp_hide (Itl K pa) H1 (fun R2 hR2 => ?_) (fun lp hlp => comp_run ps.length (fun i σ' Hc => ∃ w1 w2, σ' = [w1, w2] ∧ Same H1 Hc ∧ Hc lp = some (.lst (((ps.take i).map (·.1)).map V.int))) ⟨none, none, rfl, same_new hlp _, upd_same⟩ ?_ ?_)
    · simp_arith [seqOf, s1 _ _ ex, at0]
      exact ⟨pa, rfl, ⟨_, SqL.of (s1 _ _ ep)⟩, hR2⟩
    · rintro i σ' Hc hi ⟨w1, w2, rfl, s4, ez⟩
      have x1 : xs[i]? = some (xs[i]'(by omega)) := List.getElem?_eq_getElem _
      have z1 : SqL K Hc pa xs := SqL.of (s4 _ _ (s1 _ _ ep))
      refine ⟨⟨_, _, z1, x1⟩, ?_⟩
      rintro y H' ⟨rfl, hy⟩
      obtain ⟨q, hq, pq⟩ := paired_left pp (hy _ z1)
      obtain ⟨t, rfl, ht⟩ := pq.same (s1.trans s4)
      simp_arith [ht]
      refine ⟨_, ez, ?_, _, _, rfl, same_upd s4 hlp, ?_⟩
      · rw [List.length_map, List.length_map, List.length_take]
        exact szl' (by omega)
      · rw [upd_same, take_get hq, List.map_append, List.map_append]
        rfl
    rintro σ' H2 ⟨w1, w2, rfl, s2, elp⟩
    refine ⟨⟨_, SqL.of (s2 _ _ (s1 _ _ ep)), by omega⟩, ?_⟩
    rw [List.take_length] at elp
    walk_at "RD"
    refine ⟨lp, ps.map (·.1), rfl, elp, by rw [List.length_map]; exact hp12, fun l' xs' H3 hl' s3 e3 pz => ?_⟩
    exact ⟨l', rfl, ⟨_, SqL.of e3⟩, hR' (l', xs', H3) ⟨s2.trans s3, e3, s2.free hl', Paired.mapP pz fun _ _ q => ⟨q.1, fun a e => s2.free (q.2 a e)⟩⟩⟩
  obtain ⟨la, zs, H3⟩ := i0
  obtain ⟨s3, e3, hla, pz⟩ := ok0
  dsimp only at s3 e3 hla pz
  have nfl : la ≠ fl := (ne_of_none ef1 hla).symm
  have s03 := s1.trans s3
  have ef3 := s3 _ _ ef1
  have hzl : zs.length = (setsL (ps.map (·.1))).length := Paired.length pz
  have hsl : (setsL (ps.map (·.1))).length ≤ 4096 := by
    rw [setsL_len, List.length_map]
    exact Nat.le_trans (Nat.pow_le_pow_right (by decide) hp12) (by decide)
  refine for_list (K := K) (a := la) (xs := zs) (fun i σ H4 => ∃ v1 v2 us, σ = [some (.ref x), some (.ref fl), v1, v2] ∧ Same H H4 ∧ H4 la = some (.lst zs) ∧ H4 fl = some (.lst us) ∧ us.length ≤ i ∧ Paired (SetNew H1 H4) zs (setsL (ps.map (·.1))) ∧ Paired (SetNew H1 H4) us (((setsL (ps.map (·.1))).take i).filter fun ss => decide (leftB ts ss = []))) ⟨none, none, [], rfl, s03, e3, ef3, by simp, pz, .nil⟩ (fun i σ H4 _ ⟨_, _, _, _, _, q, _⟩ => SqL.of q) ?_ ?_
  · rintro i y σ H4 hi ⟨v1, v2, us, rfl, s4, ela4, efl4, hul, pz4, pu4⟩
    have hil : i < zs.length := (List.getElem?_eq_some_iff.mp hi).1
    obtain ⟨ss, hss, ⟨sa, rfl, es⟩, hsn⟩ := paired_left pz4 hi
    simp only [gName, List.set_cons_zero, List.set_cons_succ]
    refine seq_hide fun R9 hR9 => ?_
    walk_at "RD"
    refine tComp_hide (Itl K ta) H4 (fun R2 hR2 => ?_) (fun z hz => comp_run ts.length (fun j σ' Hc => ∃ w1 zs', σ' = [w1, some (.ref sa)] ∧ Same H4 Hc ∧ Hc z = some (.lst zs') ∧ Prs Hc zs' (leftA (ts.take j) ss)) ⟨none, [], rfl, same_new hz _, upd_same, .nil⟩ ?_ ?_)
    · unfold iList
      simp_arith [seqOf, s4 _ _ ex, at1]
      exact ⟨ta, rfl, ⟨_, SqL.of (s4 _ _ et)⟩, hR2⟩
    · rintro j σ' Hc hj ⟨w1, zs', rfl, s5, ez, pzz⟩
      have x1 : ys[j]? = some (ys[j]'(by omega)) := List.getElem?_eq_getElem _
      have z1 : SqL K Hc ta ys := SqL.of (s5 _ _ (s4 _ _ et))
      refine ⟨⟨_, _, z1, x1⟩, ?_⟩
      rintro y H' ⟨rfl, hy⟩
      obtain ⟨q, hq, pq⟩ := paired_left pt (hy _ z1)
      obtain ⟨t, rfl, ht⟩ := pq.same (s4.trans s5)
      have es5 := s5 _ _ es
      simp_arith [ht, seqOf, es5, at0]
      refine ⟨rfl, flat_ints _, ?_⟩
      have hz9 : zs'.length ≤ 120 := by
        have a1 := Paired.length pzz
        have a2 := List.length_filter_le (fun t : Int × Int => !decide (t.1 ∈ ss)) (ts.take j)
        rw [List.length_take] at a2
        unfold leftA at a1
        omega
      have hA : leftA (ts.take (j + 1)) ss = leftA (ts.take j) ss ++ (if (!decide (q.1 ∈ ss)) = true then [q] else []) := filter_take' hq
      rw [inV_ints, hA]
      by_cases c : q.1 ∈ ss
      · rw [decide_eq_true c]
        simp only [Bool.not_true, Bool.false_eq_true, if_false, List.append_nil]
        exact ⟨_, zs', rfl, s5, ez, pzz⟩
      · rw [decide_eq_false c]
        simp only [Bool.not_false, if_true]
        refine ⟨_, ez, szl' (by omega), _, _, rfl, same_upd s5 hz, upd_same, paired_snoc (Paired.mapP pzz fun _ _ ⟨t', e', q'⟩ => ⟨t', e', by rw [upd_ne (fun w9 => by rw [w9, ez] at q'; cases q')]; exact q'⟩) ⟨t, rfl, by rw [upd_ne (fun w9 => by rw [w9, ez] at ht; cases ht)]; exact ht⟩⟩
    rintro σ' H5 ⟨w1, zs', rfl, s5, ez, pzz⟩
    refine ⟨⟨_, SqL.of (s5 _ _ (s4 _ _ et)), by omega⟩, ?_⟩
    rw [List.take_length] at pzz
    have hz9 : zs'.length = (leftA ts ss).length := Paired.length pzz
    have hA9 : (leftA ts ss).length ≤ 120 := Nat.le_trans (List.length_filter_le _ _) htl
    have es5 := s5 _ _ es
    walk_at "RD"
    subst hR9
    walk_at "RD"
    refine tComp_hide (Itl K z) H5 (fun R2 hR2 => ?_) (fun z2 hz2 => comp_run (leftA ts ss).length (fun j σ' Hc => ∃ w1 zs2, σ' = [w1, some (.ref sa)] ∧ Same H5 Hc ∧ Hc z2 = some (.lst zs2) ∧ Prs Hc zs2 (((leftA ts ss).take j).filter fun t => !decide (t.2 ∈ ss))) ⟨none, [], rfl, same_new hz2 _, upd_same, .nil⟩ ?_ ?_)
    · unfold iList
      walk_at "RD"
      exact ⟨z, rfl, ⟨_, SqL.of ez⟩, hR2⟩
    · rintro j σ' Hc hj ⟨w1, zs2, rfl, s6, ez2, pzz2⟩
      have x1 : zs'[j]? = some (zs'[j]'(by omega)) := List.getElem?_eq_getElem _
      have z1 : SqL K Hc z zs' := SqL.of (s6 _ _ ez)
      refine ⟨⟨_, _, z1, x1⟩, ?_⟩
      rintro y H' ⟨rfl, hy⟩
      obtain ⟨q, hq, pq⟩ := paired_left pzz (hy _ z1)
      obtain ⟨t, rfl, ht⟩ := pq.same s6
      have es6 := s6 _ _ es5
      simp_arith [ht, seqOf, es6, at1]
      refine ⟨rfl, flat_ints _, ?_⟩
      have hz8 : zs2.length ≤ 120 := by
        have a1 := Paired.length pzz2
        have a2 := List.length_filter_le (fun t : Int × Int => !decide (t.2 ∈ ss)) ((leftA ts ss).take j)
        rw [List.length_take] at a2
        omega
      rw [inV_ints, filter_take' hq]
      by_cases c : q.2 ∈ ss
      · rw [decide_eq_true c]
        simp only [Bool.not_true, Bool.false_eq_true, if_false, List.append_nil]
        exact ⟨_, zs2, rfl, s6, ez2, pzz2⟩
      · rw [decide_eq_false c]
        simp only [Bool.not_false, if_true]
        refine ⟨_, ez2, szl' (by omega), _, _, rfl, same_upd s6 hz2, upd_same, paired_snoc (Paired.mapP pzz2 fun _ _ ⟨t', e', q'⟩ => ⟨t', e', by rw [upd_ne (fun w9 => by rw [w9, ez2] at q'; cases q')]; exact q'⟩) ⟨t, rfl, by rw [upd_ne (fun w9 => by rw [w9, ez2] at ht; cases ht)]; exact ht⟩⟩
    rintro σ' H6 ⟨w2, zs2, rfl, s6, ez2, pzz2⟩
    refine ⟨⟨_, SqL.of (s6 _ _ ez), by omega⟩, ?_⟩
    rw [List.take_length] at pzz2
    walk_at "RD"
    intro c1 hc1
    have s7 := same_new hc1 (.lst [])
    have ec7 : upd H6 c1 (.lst []) c1 = some (.lst []) := upd_same
    have ez7 := s7 _ _ ez2
    have pr7 : Prs (upd H6 c1 (.lst [])) zs2 (leftB ts ss) := Prs.same s7 pzz2
    have s47 := (s5.trans s6).trans s7
    generalize upd H6 c1 (.lst []) = H7 at s7 ec7 ez7 pr7 s47
    have r1 : Rep H7 (.lst ((leftB ts ss).map pairD)) (.ref z2) := by
      rw [Rep]
      exact ⟨z2, _, rfl, ez7, Prs.reps pr7⟩
    have r2 : Rep H7 (.lst []) (.ref c1) := by
      rw [Rep]
      exact ⟨c1, [], rfl, ec7, by rw [Reps]⟩
    refine ⟨.lst ((leftB ts ss).map pairD), .lst [], r1, r2, dep_pairsD _, .inl ⟨_, _, rfl, rfl⟩, ?_⟩
    rw [eq_nil_P]
    have efl7 := s47 _ _ efl4
    have upN : ∀ (o : HO) (x : V) (s' : List Int), SetNew H1 H4 x s' → SetNew H1 (upd H7 fl o) x s' := fun o x s' ⟨⟨a, e, q⟩, hn⟩ => ⟨⟨a, e, by rw [upd_ne (fun w9 => by have := hn a e; rw [w9, ef1] at this; cases this)]; exact s47 _ _ q⟩, hn⟩
    by_cases c : leftB ts ss = []
    · rw [decide_eq_true c]
      walk_at "RD"
      refine ⟨⟨fl, _, rfl, efl7⟩, ?_⟩
      simp only [efl7]
      refine ⟨szg (by omega), _, _, us ++ [.ref sa], rfl, same_upd (s4.trans s47) hfl, by rw [upd_ne nfl]; exact s47 _ _ ela4, upd_same, ?_, Paired.mapP pz4 (upN _), ?_⟩
      · rw [List.length_append]
        show us.length + 1 ≤ i + 1
        omega
      · rw [filter_take' hss, if_pos (decide_eq_true c)]
        exact paired_snoc (Paired.mapP pu4 (upN _)) (upN _ _ _ ⟨⟨sa, rfl, es⟩, hsn⟩)
    · rw [decide_eq_false c]
      walk_at "RD"
      refine ⟨_, _, us, rfl, s4.trans s47, s47 _ _ ela4, efl7, by omega, Paired.mapP pz4 fun _ _ q => ⟨q.1.same s47, q.2⟩, ?_⟩
      rw [filter_take' hss, if_neg (by rw [decide_eq_false c]; decide), List.append_nil]
      exact Paired.mapP pu4 fun _ _ q => ⟨q.1.same s47, q.2⟩
  · rintro σ H4 ⟨v1, v2, us, rfl, s4, ela4, efl4, hul, pz4, pu4⟩
    rw [hzl, List.take_length] at pu4
    walk_at "RD"
    subst hR
    walk_at "RD"
    exact h fl us H4 hfl s4 efl4 (Paired.mapP pu4 fun _ _ q => q.1)
end
end My
namespace My
open PySem L2
theorem hits_count : ∀ (ss ns : List Int), ss.Nodup → ((ns.filter fun n => decide (n ∈ ss)).length : Int) = (ss.map fun n => (ns.count n : Int)).sum
  | [], ns, _ => by simp
  | s :: r, ns, h => by
    rw [List.nodup_cons] at h
    have ih := hits_count r ns h.2
    rw [List.map_cons, List.sum_cons, ← ih]
    clear ih
    induction ns with
    | nil => simp
    | cons a t iht =>
      rw [List.filter_cons, List.filter_cons, List.count_cons]
      by_cases c1 : a = s
      · subst c1
        have e1 : decide (a ∈ a :: r) = true := decide_eq_true (List.mem_cons_self ..)
        have e2 : decide (a ∈ r) = false := decide_eq_false h.1
        have e3 : (a == a) = true := by simp
        rw [e1, e2, e3]
        simp only [if_true, Bool.false_eq_true, if_false, List.length_cons]
        omega
      · have e1 : decide (a ∈ s :: r) = decide (a ∈ r) := by simp [c1]
        have e2 : (a == s) = false := by simp [c1]
        rw [e1, e2]
        cases decide (a ∈ r)
        · simp only [Bool.false_eq_true, if_false]
          omega
        · simp only [Bool.false_eq_true, if_false, if_true, List.length_cons]
          omega
theorem sum_map_add (f g : Int → Int) : ∀ (l : List Int), (l.map fun n => f n + g n).sum = (l.map f).sum + (l.map g).sum
  | [] => rfl
  | a :: r => by
    rw [List.map_cons, List.map_cons, List.map_cons, List.sum_cons, List.sum_cons, List.sum_cons, sum_map_add f g r]
    omega
theorem sum_map_mul (k : Int) (f : Int → Int) : ∀ (l : List Int), (l.map fun n => k * f n).sum = k * (l.map f).sum
  | [] => by simp
  | a :: r => by
    rw [List.map_cons, List.map_cons, List.sum_cons, List.sum_cons, sum_map_mul k f r, Int.mul_add]
theorem paid_swap {ss : List Int} (h : ss.Nodup) : ∀ (rows : List Row), (rows.map fun r => ((r.2.1.filter fun n => decide (n ∈ ss)).length : Int) * r.2.2).sum = (ss.map (paidL rows)).sum
  | [] => by
    have : ∀ ss : List Int, (ss.map (paidL [])).sum = 0 := fun ss => by
      induction ss with
      | nil => rfl
      | cons a r ih => rw [List.map_cons, List.sum_cons, ih]; rfl
    rw [this]
    rfl
  | r :: t => by
    have e : ∀ n, paidL (r :: t) n = r.2.2 * (r.2.1.count n : Int) + paidL t n := fun n => by simp [paidL]
    rw [List.map_cons, List.sum_cons, paid_swap h t, show paidL (r :: t) = fun n => r.2.2 * (r.2.1.count n : Int) + paidL t n from funext e, sum_map_add, sum_map_mul, hits_count ss r.2.1 h, Int.mul_comm]
theorem priceL_none : ∀ {ps : List (Int × Int)} {n : Int}, n ∉ ps.map (·.1) → priceL ps n = 0
  | [], _, _ => rfl
  | q :: r, n, h => by
    rw [List.map_cons, List.mem_cons, not_or] at h
    unfold priceL
    rw [List.find?_cons, decide_eq_false (fun z => h.1 z.symm)]
    exact priceL_none h.2
theorem priceL_cons {q : Int × Int} {r : List (Int × Int)} (h : q.1 ∉ r.map (·.1)) (n : Int) : priceL (q :: r) n = (if q.1 = n then q.2 else 0) + priceL r n := by
  unfold priceL
  rw [List.find?_cons]
  by_cases c : q.1 = n
  · rw [decide_eq_true c, if_pos c]
    have := priceL_none (n := n) (c ▸ h)
    unfold priceL at this
    rw [this]
    simp
  · rw [decide_eq_false c, if_neg c]
    simp
theorem sum_hit (k v : Int) : ∀ {ss : List Int}, ss.Nodup → (ss.map fun n => if k = n then v else 0).sum = if k ∈ ss then v else 0
  | [], _ => by simp
  | a :: r, h => by
    rw [List.nodup_cons] at h
    rw [List.map_cons, List.sum_cons, sum_hit k v h.2]
    by_cases c : k = a
    · subst c
      rw [if_pos rfl, if_neg h.1, if_pos (List.mem_cons_self ..)]
      simp
    · rw [if_neg c]
      by_cases c2 : k ∈ r
      · rw [if_pos c2, if_pos (List.mem_cons_of_mem _ c2)]
        simp
      · rw [if_neg c2, if_neg (fun z => (List.mem_cons.mp z).elim c c2)]
        rfl
theorem cost_sum {ss : List Int} (h : ss.Nodup) : ∀ {ps : List (Int × Int)}, (ps.map (·.1)).Nodup → costL ps ss = (ss.map (priceL ps)).sum
  | [], _ => by
    have : ∀ ss : List Int, (ss.map (priceL [])).sum = 0 := fun ss => by
      induction ss with
      | nil => rfl
      | cons a r ih => rw [List.map_cons, List.sum_cons, ih]; rfl
    rw [this]
    rfl
  | q :: r, hn => by
    rw [List.map_cons, List.nodup_cons] at hn
    have ih := cost_sum h hn.2
    rw [show priceL (q :: r) = fun n => (if q.1 = n then q.2 else 0) + priceL r n from funext (priceL_cons hn.1), sum_map_add, sum_hit q.1 q.2 h, ← ih]
    unfold costL
    rw [List.filter_cons]
    by_cases c : q.1 ∈ ss
    · rw [if_pos (decide_eq_true c), if_pos c, List.map_cons, List.sum_cons]
    · rw [if_neg (by rw [decide_eq_false c]; decide), if_neg c]
      simp
theorem sums_le {α : Type} (f g : α → Int) : ∀ {l : List α}, (∀ x ∈ l, f x ≤ g x) → (l.map f).sum ≤ (l.map g).sum ∧ ((l.map f).sum = (l.map g).sum → ∀ x ∈ l, f x = g x)
  | [], _ => ⟨Int.le_refl _, fun _ _ h => by cases h⟩
  | a :: r, h => by
    have h1 := h a (.head _)
    obtain ⟨i1, i2⟩ := sums_le f g (l := r) fun x hx => h x (.tail _ hx)
    rw [List.map_cons, List.map_cons, List.sum_cons, List.sum_cons]
    refine ⟨by omega, fun e x hx => ?_⟩
    rcases List.mem_cons.mp hx with rfl | hx
    · omega
    · exact i2 (by omega) x hx
theorem sums_eq {α : Type} (f g : α → Int) : ∀ {l : List α}, (∀ x ∈ l, f x = g x) → (l.map f).sum = (l.map g).sum
  | [], _ => rfl
  | a :: r, h => by rw [List.map_cons, List.map_cons, List.sum_cons, List.sum_cons, h a (.head _), sums_eq f g (l := r) fun x hx => h x (.tail _ hx)]
theorem mul_eq_of {a b k : Int} (hk : 1 ≤ k) (h : a * k = b * k) : a = b := Int.eq_of_mul_eq_mul_right (by omega) h
theorem whole {ps : List (Int × Int)} {rows : List Row} {ss : List Int} (hn : (ps.map (·.1)).Nodup) (hs : ss.Nodup) (hp : ∀ n ∈ ss, paidL rows n ≤ 2 * priceL ps n) (ha : ∀ r ∈ rows, 1 ≤ r.2.2)
    (hc : ∀ r ∈ rows, gOne r ≤ ((r.2.1.filter fun n => decide (n ∈ ss)).length : Int)) : gAll rows ≤ 2 * costL ps ss ∧ tightB ps rows ss = decide (2 * costL ps ss = gAll rows) := by
  have l1 : ∀ r ∈ rows, gOne r * r.2.2 ≤ ((r.2.1.filter fun n => decide (n ∈ ss)).length : Int) * r.2.2 := fun r hr => Int.mul_le_mul_of_nonneg_right (hc r hr) (by have := ha r hr; omega)
  obtain ⟨a1, a2⟩ := sums_le (fun r : Row => gOne r * r.2.2) (fun r => ((r.2.1.filter fun n => decide (n ∈ ss)).length : Int) * r.2.2) l1
  obtain ⟨b1, b2⟩ := sums_le (paidL rows) (fun n => 2 * priceL ps n) hp
  rw [paid_swap hs] at a1 a2
  rw [sum_map_mul, ← cost_sum hs hn] at b1 b2
  have eg : gAll rows = (rows.map fun r => gOne r * r.2.2).sum := rfl
  rw [← eg] at a1 a2
  refine ⟨by omega, ?_⟩
  unfold tightB
  by_cases c : 2 * costL ps ss = gAll rows
  · rw [decide_eq_true c, Bool.and_eq_true, List.all_eq_true, List.all_eq_true]
    have q1 := a2 (by omega)
    have q2 := b2 (by omega)
    exact ⟨fun n hn' => decide_eq_true (q2 n hn'), fun r hr => decide_eq_true (mul_eq_of (ha r hr) (q1 r hr)).symm⟩
  · rw [decide_eq_false c, Bool.and_eq_false_iff]
    by_cases d : (ss.all fun n => decide (paidL rows n = 2 * priceL ps n)) = true
    · right
      cases e : rows.all fun r => decide (((r.2.1.filter fun n => decide (n ∈ ss)).length : Int) = gOne r) with
      | false => rfl
      | true =>
        rw [List.all_eq_true] at d e
        have q1 := sums_eq (paidL rows) (fun n => 2 * priceL ps n) fun n hn' => of_decide_eq_true (d n hn')
        have q2 := sums_eq (fun r : Row => gOne r * r.2.2) (fun r => ((r.2.1.filter fun n => decide (n ∈ ss)).length : Int) * r.2.2) (l := rows) fun r hr => by rw [of_decide_eq_true (e r hr)]
        rw [sum_map_mul, ← cost_sum hs hn] at q1
        rw [paid_swap hs, ← eg] at q2
        exact absurd (by omega) c
    · left
      exact Bool.eq_false_iff.mpr d
end My
namespace My
open PySem L2
def hitsN (ss ns : List Int) : Nat := (ns.filter fun n => decide (n ∈ ss)).length
theorem hitsN_in {ss r : List Int} {n : Int} (h : n ∈ ss) : hitsN ss (n :: r) = hitsN ss r + 1 := by
  unfold hitsN
  rw [List.filter_cons, if_pos (decide_eq_true h), List.length_cons]
theorem hitsN_out {ss r : List Int} {n : Int} (h : n ∉ ss) : hitsN ss (n :: r) = hitsN ss r := by
  unfold hitsN
  rw [List.filter_cons, if_neg (by rw [decide_eq_false h]; decide)]
theorem hitsN_all {ss : List Int} : ∀ {r : List Int}, (∀ m ∈ r, m ∈ ss) → hitsN ss r = r.length
  | [], _ => rfl
  | a :: r, h => by rw [hitsN_in (h a (.head _)), hitsN_all fun m hm => h m (.tail _ hm), List.length_cons]
theorem all_hits {ts : List (Int × Int)} {ss : List Int} (hcov : ∀ n m, m ∈ nearL ts n → n ∈ ss ∨ m ∈ ss) : ∀ {ns : List Int}, pwB ts ns = true → ns.length ≤ hitsN ss ns + 1
  | [], _ => Nat.zero_le _
  | n :: r, h => by
    rw [pwB, Bool.and_eq_true, List.all_eq_true] at h
    by_cases c : n ∈ ss
    · have := all_hits hcov h.2
      rw [hitsN_in c, List.length_cons]
      omega
    · rw [hitsN_out c, hitsN_all fun m hm => ?_]
      · exact Nat.le_refl _
      · have q := h.1 m hm
        rw [Bool.and_eq_true] at q
        exact (hcov n m (of_decide_eq_true q.2)).resolve_left c
theorem path_hits {ts : List (Int × Int)} {ss : List Int} (hcov : ∀ n m, m ∈ nearL ts n → n ∈ ss ∨ m ∈ ss) : ∀ {ns : List Int}, ((ns.zip (ns.drop 1)).all fun p => decide (p.2 ∈ nearL ts p.1)) = true → ns.length / 2 ≤ hitsN ss ns
  | [], _ => Nat.zero_le _
  | [_], _ => by simp
  | a :: b :: r, h => by
    rw [List.drop_one, List.tail_cons, List.zip_cons_cons, List.all_cons, Bool.and_eq_true] at h
    have h2 : ((r.zip (r.drop 1)).all fun p => decide (p.2 ∈ nearL ts p.1)) = true := by
      cases r with
      | nil => rfl
      | cons c t =>
        have := h.2
        rw [List.zip_cons_cons, List.all_cons, Bool.and_eq_true] at this
        rw [List.drop_one, List.tail_cons]
        exact this.2
    have ih := path_hits hcov h2
    have q := hcov a b (of_decide_eq_true h.1)
    rw [List.length_cons, List.length_cons]
    by_cases ca : a ∈ ss
    · rw [hitsN_in ca]
      by_cases cb : b ∈ ss
      · rw [hitsN_in cb]; omega
      · rw [hitsN_out cb]; omega
    · rw [hitsN_out ca, hitsN_in (q.resolve_left ca)]
      omega
end My
namespace My
open PySem L2
theorem near_tie {ts : List (Int × Int)} {n m : Int} (h : m ∈ nearL ts n) : (n, m) ∈ ts ∨ (m, n) ∈ ts := by
  unfold nearL at h
  obtain ⟨t, ht, hm⟩ := List.mem_flatMap.mp h
  unfold nr at hm
  split at hm
  · rename_i c
    rw [List.mem_singleton] at hm
    left
    rw [← c, hm]
    exact ht
  · split at hm
    · rename_i c
      rw [List.mem_singleton] at hm
      right
      rw [← c, hm]
      exact ht
    · cases hm
theorem left_cov {ts : List (Int × Int)} {ss : List Int} (h : leftB ts ss = []) : ∀ n m, m ∈ nearL ts n → n ∈ ss ∨ m ∈ ss := by
  have key : ∀ t ∈ ts, t.1 ∈ ss ∨ t.2 ∈ ss := fun t ht => by
    by_cases c1 : t.1 ∈ ss
    · exact .inl c1
    · by_cases c2 : t.2 ∈ ss
      · exact .inr c2
      · exfalso
        have : t ∈ leftB ts ss := by
          unfold leftB leftA
          rw [List.mem_filter, List.mem_filter]
          exact ⟨⟨ht, by rw [decide_eq_false c1]; rfl⟩, by rw [decide_eq_false c2]; rfl⟩
        rw [h] at this
        cases this
  intro n m hm
  rcases near_tie hm with q | q
  · exact key _ q
  · exact (key _ q).symm
def stepB (ts : List (Int × Int)) (ns : List Int) : Bool := (ns.zip (ns.drop 1)).all fun p => decide (p.2 ∈ nearL ts p.1)
theorem stepB_tail {ts : List (Int × Int)} {a : Int} {r : List Int} (h : stepB ts (a :: r) = true) : stepB ts r = true := by
  cases r with
  | nil => rfl
  | cons b t =>
    unfold stepB at h
    rw [List.drop_one, List.tail_cons, List.zip_cons_cons, List.all_cons, Bool.and_eq_true] at h
    unfold stepB
    rw [List.drop_one, List.tail_cons]
    exact h.2
theorem ring_split {ts : List (Int × Int)} : ∀ (ns : List Int) (a z : Int), ((ns ++ [z]).zip ((ns ++ [z]).drop 1 ++ [a])).all (fun p => decide (p.2 ∈ nearL ts p.1)) = true → stepB ts (ns ++ [z]) = true ∧ a ∈ nearL ts z
  | [], a, z, h => by
    simp at h
    exact ⟨rfl, h⟩
  | [b], a, z, h => by
    simp at h
    refine ⟨?_, h.2⟩
    simp [stepB]
    exact h.1
  | b :: c :: r, a, z, h => by
    have ih := ring_split (ts := ts) (c :: r) a z
    simp only [List.cons_append, List.drop_succ_cons, List.drop_zero, List.zip_cons_cons, List.all_cons, Bool.and_eq_true] at h ih ⊢
    have := ih h.2
    refine ⟨?_, this.2⟩
    unfold stepB
    simp only [List.drop_succ_cons, List.drop_zero, List.zip_cons_cons, List.all_cons, Bool.and_eq_true]
    refine ⟨h.1, ?_⟩
    have q := this.1
    unfold stepB at q
    simp only [List.drop_succ_cons, List.drop_zero] at q
    exact q
theorem stepB_init {ts : List (Int × Int)} : ∀ (ns : List Int) (z : Int), stepB ts (ns ++ [z]) = true → stepB ts ns = true
  | [], _, _ => rfl
  | [_], _, _ => rfl
  | b :: c :: r, z, h => by
    have ih := stepB_init (c :: r) z (stepB_tail h)
    unfold stepB at h ih ⊢
    simp only [List.cons_append, List.drop_succ_cons, List.drop_zero, List.zip_cons_cons, List.all_cons, Bool.and_eq_true] at h ih ⊢
    exact ⟨h.1, ih⟩
theorem hitsN_app (ss a b : List Int) : hitsN ss (a ++ b) = hitsN ss a + hitsN ss b := by
  unfold hitsN
  rw [List.filter_append, List.length_append]
theorem ring_hits {ts : List (Int × Int)} {ss ns : List Int} (hcov : ∀ n m, m ∈ nearL ts n → n ∈ ss ∨ m ∈ ss) (h : ringB ts ns = true) : (ns.length + 1) / 2 ≤ hitsN ss ns := by
  unfold ringB at h
  simp only [Bool.and_eq_true, decide_eq_true_eq] at h
  obtain ⟨⟨⟨h3, hodd⟩, _⟩, hz⟩ := h
  match ns, h3, hodd, hz with
  | a :: r, h3, hodd, hz =>
    rw [show (a :: r).take 1 = [a] from rfl] at hz
    have hr : r ≠ [] := fun e => by rw [e] at h3; simp at h3
    obtain ⟨ms, z, rfl⟩ : ∃ ms z, r = ms ++ [z] := ⟨r.dropLast, r.getLast hr, (List.dropLast_concat_getLast hr).symm⟩
    obtain ⟨hs, hl⟩ := ring_split (a :: ms) a z hz
    have hs' : stepB ts (ms ++ [z]) = true := stepB_tail hs
    rw [List.length_cons, List.length_append, List.length_singleton] at h3 hodd ⊢
    by_cases ca : a ∈ ss
    · rw [hitsN_in ca]
      have p := path_hits hcov (ns := ms ++ [z]) hs'
      rw [List.length_append, List.length_singleton] at p
      omega
    · rw [hitsN_out ca]
      have cz : z ∈ ss := (hcov z a hl).resolve_right ca
      match ms, hs, hs', h3, hodd with
      | b :: ms, hs, hs', h3, hodd =>
        have cb : b ∈ ss := by
          unfold stepB at hs
          simp only [List.cons_append, List.drop_succ_cons, List.drop_zero, List.zip_cons_cons, List.all_cons, Bool.and_eq_true] at hs
          exact (hcov a b (of_decide_eq_true hs.1)).resolve_left ca
        have hm : stepB ts ms = true := stepB_init ms z (stepB_tail hs')
        have p := path_hits hcov (ns := ms) hm
        rw [List.cons_append, hitsN_in cb, hitsN_app, hitsN_in cz]
        rw [List.length_cons] at h3 hodd ⊢
        omega
      | [], hs, hs', h3, hodd => simp at h3
theorem row_hits {ps ts : List (Int × Int)} {ss : List Int} {r : Row} (hcov : ∀ n m, m ∈ nearL ts n → n ∈ ss ∨ m ∈ ss) (h : rowB ps ts (rowD r) = true) : gOne r ≤ ((r.2.1.filter fun n => decide (n ∈ ss)).length : Int) := by
  obtain ⟨w, ns, am⟩ := r
  unfold rowD rowB rowT at h
  dsimp only at h
  rw [intsD_map] at h
  simp only [Bool.and_eq_true] at h
  obtain ⟨_, _, h⟩ := h
  unfold gOne
  dsimp only
  by_cases c : w = (("all" : String) : Str)
  · rw [if_pos c] at h ⊢
    unfold allB at h
    rw [Bool.and_eq_true] at h
    have := all_hits hcov h.1
    unfold hitsN at this
    omega
  · rw [if_neg c] at h ⊢
    rw [Bool.and_eq_true] at h
    have := ring_hits hcov h.2
    unfold hitsN at this
    omega
theorem rowBad_rows {ps ts : List (Int × Int)} : ∀ {rows : List Row} {k : Nat}, rowBad ps ts k (rows.map rowD) = none → ∀ r ∈ rows, rowB ps ts (rowD r) = true
  | [], _, _, _, h => by cases h
  | q :: t, k, h, r, hr => by
    rw [List.map_cons, rowBad] at h
    by_cases c : rowB ps ts (rowD q) = true
    · rw [if_pos c] at h
      rcases List.mem_cons.mp hr with e | hr
      · rw [e]; exact c
      · exact rowBad_rows h r hr
    · rw [if_neg c] at h
      cases h
theorem noRows_rows {ps ts : List (Int × Int)} {rows : List Row} (h : noRows ps ts (.lst (rows.map rowD)) = none) : (∀ r ∈ rows, rowB ps ts (rowD r) = true) ∧ rows.length ≤ 200 := by
  unfold noRows at h
  dsimp only at h
  rw [List.length_map] at h
  by_cases c : rows.length ≤ 200
  · rw [if_pos c] at h
    have hb : rowBad ps ts 0 (rows.map rowD) = none := by
      cases q : rowBad ps ts 0 (rows.map rowD) with
      | none => rfl
      | some k => rw [q] at h; cases h
    exact ⟨rowBad_rows hb, c⟩
  · rw [if_neg c] at h
    cases h
theorem over_none {ps : List (Int × Int)} {rows : List Row} (h : overP ps rows = none) : ∀ p ∈ ps, paidL rows p.1 ≤ 2 * p.2 := by
  unfold overP at h
  have := Option.map_eq_none_iff.mp h
  rw [List.find?_eq_none] at this
  intro p hp
  have q := this p hp
  rw [decide_eq_true_eq] at q
  omega
theorem stands_whole {ps ts : List (Int × Int)} {rows : List Row} {ss : List Int} (wn : (ps.map (·.1)).Nodup) (h1 : noRows ps ts (.lst (rows.map rowD)) = none) (h2 : overP ps rows = none) (hs : ss.Nodup) (hin : ∀ n ∈ ss, n ∈ ps.map (·.1)) (hl : leftB ts ss = []) :
    gAll rows ≤ 2 * costL ps ss ∧ tightB ps rows ss = decide (2 * costL ps ss = gAll rows) := by
  obtain ⟨hr, _⟩ := noRows_rows h1
  have ho := over_none h2
  refine whole wn hs (fun n hn => ?_) (fun r hr' => (rowB_pos (hr r hr')).1) (fun r hr' => row_hits (left_cov hl) (hr r hr'))
  obtain ⟨p, hp, rfl⟩ := List.mem_map.mp (hin n hn)
  rw [priceL_at wn hp]
  exact ho p hp
theorem setsL_sub {ns s : List Int} (h : s ∈ setsL ns) : s.Sublist ns := by
  suffices q : ∀ (ns pre : List Int) (f : List (List Int)), (∀ s ∈ f, s.Sublist pre) → ∀ s ∈ ns.foldl (fun f n => f ++ f.map fun s => s ++ [n]) f, s.Sublist (pre ++ ns) by
    have := q ns [] [[]] (fun s hs => by rw [List.mem_singleton.mp hs]; exact List.Sublist.slnil) s h
    simpa using this
  intro ns
  induction ns with
  | nil => intro pre f hf s hs; rw [List.append_nil]; exact hf s hs
  | cons a r ih =>
    intro pre f hf s hs
    rw [List.foldl_cons] at hs
    have := ih (pre ++ [a]) _ (fun t ht => ?_) s hs
    · simpa using this
    · rcases List.mem_append.mp ht with ht | ht
      · exact (hf t ht).trans (List.sublist_append_left _ _)
      · obtain ⟨q, hq, rfl⟩ := List.mem_map.mp ht
        exact List.Sublist.append (hf q hq) (List.Sublist.refl _)
theorem SeOk_sub {kvs : List (Key × V)} : ∀ {ns : List Int} {l : Int}, SeOk kvs l ns → ∀ {l' : Int} {ss : List Int}, ss.Sublist ns → l' ≤ l → SeOk kvs l' ss
  | [], _, _, _, _, .slnil, _ => trivial
  | n :: ns, l, h, l', _, .cons _ s, hl => SeOk_sub h.2 s (by have := h.1.2; omega)
  | n :: ns, l, h, l', _, .cons₂ _ s, hl => ⟨⟨h.1.1, by have := h.1.2; omega⟩, SeOk_sub h.2 s (Int.le_refl _)⟩
end My
namespace My
open PySem L2
section
variable {P : Program} {w : World} {K : PySem.W.Frag} {mg : Str → Option Value} {base : Heap} {c1 c2 c3 c4 : Tok} {C_NoWeb f_NoWeb : Addr} {dI : FuncData}
theorem cut_to {xs : List V} {k : Int} (h0 : 0 ≤ k) (h1 : k ≤ xs.length) : cutV xs none (some k) = xs.take k.toNat := by
  unfold cutV HT.sIx
  simp only [List.drop_zero]
  congr 1
  split <;> omega
theorem cut_from {xs : List V} {k : Int} (h0 : 0 ≤ k) (h1 : k ≤ xs.length) : cutV xs (some k) none = xs.drop k.toNat := by
  unfold cutV HT.sIx
  have e : (if k < 0 then (k + (xs.length : Int)).toNat else min k.toNat xs.length) = k.toNat := by split <;> omega
  first
    | (simp only [e]; rw [List.take_of_length_le (by rw [List.length_drop]; omega)])
    | (rw [List.take_of_length_le]
       · congr 1
         split <;> omega
       · rw [List.length_drop]; split <;> omega)
theorem dep_rows (rows : List Row) : depP (.lst (rows.map rowD)) ≤ 20 := by
  have hi : ∀ ns : List Int, depPs (ns.map Dt.int) = 0 := fun ns => by
    induction ns with
    | nil => simp [depPs]
    | cons a r ih => rw [List.map_cons, depPs, ih]; simp [depP]
  have hr : ∀ rows : List Row, depPs (rows.map rowD) ≤ 2 := fun rows => by
    induction rows with
    | nil => simp [depPs]
    | cons a r ih =>
      rw [List.map_cons, depPs]
      have : depP (rowD a) ≤ 2 := by simp [rowD, depP, depPs, hi]
      omega
  rw [depP]
  have := hr rows
  omega
theorem eq_nil_R {rows : List Row} : eqP (.lst (rows.map rowD)) (.lst []) = decide (rows = []) := by
  cases rows with
  | nil => rfl
  | cons a r => rw [eqP]; rfl
theorem seq_hideD {a b : TS} {D : Ends} {σ : St} {H : Hp} (h : ∀ D', D' = D → tSeq a b D' σ H) : tSeq a b D σ H := h D rfl
theorem cut_1I (ns : List Int) : cutV (ns.map V.int) (some (1 : Int)) none = (ns.drop 1).map V.int := by
  cases ns with
  | nil => rfl
  | cons a r => exact cut_fromI (ns := a :: r) (k := 1) (by simp)
def spLoose : Sp := fun vs H Q _ => ∃ st o l v xs rows ps ts, vs = [.ref st, .ref l, v] ∧ H st = some o ∧ StO o ∧ WebAt H v ps ts ∧ WebOk ps ts ∧ H l = some (.lst xs) ∧ RwsR H xs rows ∧ GoodRs ps ts rows ∧ rows.length ≤ 100 ∧
  ∀ l' xs' rows' H' o', But st H H' → H' st = some o' → StO o' → H' l' = some (.lst xs') → RwsR H' xs' rows' → (∀ r ∈ rows', r.2.1.length ≤ 100) → rows'.length ≤ 101 → Q (.ref l') H'
theorem ok_law_loose {f : Addr} {fd : FuncData} {f_law_take : Addr} {d_law_take : FuncData} (B : Blt mg) (D : DefAt K mg "_law_loose" (top 55) ["_law_state", "_law_rows_here", "_law_web_here"] f fd) (D_law_take : DefAt K mg "_law_take" (top 44) ["_law_state", "_law_many"] f_law_take d_law_take) (G_law_take : FnOk P w K mg base CX0 1 f_law_take d_law_take ["_law_state", "_law_many"] spTake) : FnOk P w K mg base CX0 2 f fd ["_law_state", "_law_rows_here", "_law_web_here"] spLoose := by
  have sc : FnScope ["_law_state", "_law_rows_here", "_law_web_here", "_law_at", "_law_word", "_law_places_here", "_law_amount", "_law_way"] ["_law_state", "_law_rows_here", "_law_web_here"] (defScope (top 55)) := ⟨rfl, rfl, rfl, by decide +kernel, rfl, by decide +kernel, by decide +kernel⟩
  refine D.F.ok sc (fun vs H Q E h => ?_) (fun cdv A outer s H vs Q E hr h => ?_)
  · obtain ⟨st, o, l, v, xs, rows, ps, ts, rfl, _⟩ := h
    rfl
  obtain ⟨st, o, l, v, zs, rows, ps, ts, rfl, es, so, hw, wok, el, rr, good, hl8, h⟩ := h
  obtain ⟨xv, pa, ta, xs, ys, rfl, ex, ep, et, pp, pt⟩ := id hw
  have hlx : xs.length = ps.length := Paired.length pp
  have hlz : zs.length = rows.length := Paired.length rr
  have hu := hu_of hr
  have hu0 : _ < PySem.cLine := Nat.lt_of_succ_lt hu
  refine ⟨_, (pss_cons (ps_if (qt_cmp (op_eqD hr.units) (qv 1) (pe_lst pa_nil) (nomark _)) (pss_one (ps_ret (pe_lst (pa_cons (pe_tup (pa_cons pe_str (pa_cons (pe_comp (CpScope.of (N := ["_law_place", "_law_price"]) (src := [none, none]) (by rfl)) rfl (pi_list (pe_ix q_ix (qv 2) pe_int (fun _ _ => rfl))) (fun _ _ _ _ => (qg_tup (n := 2) rfl (qgs_cons (pg_name (i := 0) (nodupB_ok (l := ["_law_place", "_law_price"]) (by rfl)) rfl (Or.inl rfl)) (qgs_cons (pg_name (i := 1) (nodupB_ok (l := ["_law_place", "_law_price"]) (by rfl)) rfl (Or.inl rfl)) qgs_nil)))) (fun _ _ _ _ => pif_nil) (fun _ _ _ _ => (qv 0))) (pa_cons (pe_op q_add pe_int (pe_call G_law_take (hr.mono (by decide)) rfl D_law_take.m D_law_take.F.kp D_law_take.b .nil pass0 (pa_cons (qv 0) (pa_cons pe_int pa_nil)))) pa_nil)))) pa_nil)))) pss_nil) (pss_cons (ps_set (i := 3) sc.nd rfl (Or.inl rfl) (pe_call G_law_take (hr.mono (by decide)) rfl D_law_take.m D_law_take.F.kp D_law_take.b .nil pass0 (pa_cons (qv 0) (pa_cons (pe_callB q_len rfl B.len PySem.boot_len (pa_cons (qv 1) pa_nil)) pa_nil)))) (pss_cons (ps_asg (pe_ix q_ix (qv 1) (qv 3) (fun _ _ => rfl)) (qg_tup (n := 3) rfl (qgs_cons (pg_name (i := 4) sc.nd rfl (Or.inl rfl)) (qgs_cons (pg_name (i := 5) sc.nd rfl (Or.inl rfl)) (qgs_cons (pg_name (i := 6) sc.nd rfl (Or.inl rfl)) qgs_nil))))) (pss_cons (ps_set (i := 7) sc.nd rfl (Or.inl rfl) (pe_call G_law_take (hr.mono (by decide)) rfl D_law_take.m D_law_take.F.kp D_law_take.b .nil pass0 (pa_cons (qv 0) (pa_cons pe_int pa_nil)))) (pss_cons (ps_if (qt_cmp q_eq (qv 7) pe_int (nomark _)) (pss_one (ps_set (i := 4) sc.nd rfl (Or.inl rfl) (pe_ix q_ix (pe_lst (pa_cons pe_str (pa_cons pe_str pa_nil))) (pe_callTy q_int1 rfl B.int PyProof.Rows.boot_int (pa_cons (pe_cmpR q_eq (qv 4) pe_str (nomark _)) pa_nil)) (fun _ _ => rfl)))) pss_nil) (pss_cons (ps_if (qt_cmp q_eq (qv 7) pe_int (nomark _)) (pss_one (ps_set (i := 5) sc.nd rfl (Or.inl rfl) (pe_slice q_slL (qv 5) (qo_some pe_int) po_none))) pss_nil) (pss_cons (ps_if (qt_cmp q_eq (qv 7) pe_int (nomark _)) (pss_one (ps_set (i := 5) sc.nd rfl (Or.inl rfl) (pe_op q_cat (qv 5) (pe_lst (pa_cons (pe_ix q_ix (pe_ix q_ix (pe_ix q_ix (qv 2) pe_int (fun _ _ => rfl)) (pe_call G_law_take (hr.mono (by decide)) rfl D_law_take.m D_law_take.F.kp D_law_take.b .nil pass0 (pa_cons (qv 0) (pa_cons (pe_callB q_len rfl B.len PySem.boot_len (pa_cons (pe_ix q_ix (qv 2) pe_int (fun _ _ => rfl)) pa_nil)) pa_nil))) (fun _ _ => rfl)) pe_int (fun _ _ => rfl)) pa_nil))))) pss_nil) (pss_cons (ps_if (qt_cmp q_eq (qv 7) pe_int (nomark _)) (pss_one (ps_set (i := 6) sc.nd rfl (Or.inl rfl) (pe_op q_add (pe_op q_add (qv 6) pe_int) (pe_call G_law_take (hr.mono (by decide)) rfl D_law_take.m D_law_take.F.kp D_law_take.b .nil pass0 (pa_cons (qv 0) (pa_cons (pe_ix q_ix (pe_lst (pa_cons pe_int (pa_cons pe_int (pa_cons (pe_op q_pow pe_int pe_int) pa_nil)))) (pe_call G_law_take (hr.mono (by decide)) rfl D_law_take.m D_law_take.F.kp D_law_take.b .nil pass0 (pa_cons (qv 0) (pa_cons pe_int pa_nil))) (fun _ _ => rfl)) pa_nil)))))) pss_nil) (pss_one (ps_ret (pe_op q_cat (pe_op q_cat (pe_slice q_slL (qv 1) po_none (qo_some (qv 3))) (pe_lst (pa_cons (pe_tup (pa_cons (qv 4) (pa_cons (qv 5) (pa_cons (qv 6) pa_nil)))) pa_nil))) (pe_slice q_slL (qv 1) (qo_some (pe_op q_add (qv 3) pe_int)) po_none)))))))))))), ?_⟩
  refine seq_hide fun R hR => ?_
  walk_at "RD"
  intro c hc
  have s1 := same_new hc (.lst [])
  have rn : Rep (upd H c (.lst [])) (.lst []) (.ref c) := by
    rw [Rep]
    exact ⟨c, [], rfl, upd_same, by rw [Reps]⟩
  have rz : Rep (upd H c (.lst [])) (.lst (rows.map rowD)) (.ref l) := by
    rw [Rep]
    exact ⟨l, _, rfl, s1 _ _ el, (rr.same s1).reps⟩
  refine ⟨.lst (rows.map rowD), .lst [], rz, rn, dep_rows rows, .inl ⟨_, _, rfl, rfl⟩, ?_⟩
  rw [eq_nil_R]
  have e1 := s1 _ _ es
  have b1 : But st H (upd H c (.lst [])) := fun b u nb q => s1 _ _ q
  generalize upd H c (.lst []) = H1 at s1 e1 b1
  have okp := wok.pl
  by_cases hne : rows = []
  · rw [decide_eq_true hne]
    walk_at "RD"
    refine tComp_hide (Itl K pa) H1 (fun R2 hR2 => ?_) (fun lp hlp => comp_run ps.length (fun i σ' Hc => ∃ w1 w2, σ' = [w1, w2] ∧ Same H1 Hc ∧ Hc lp = some (.lst (((ps.take i).map (·.1)).map V.int))) ⟨none, none, rfl, same_new hlp _, upd_same⟩ ?_ ?_)
    · unfold iList
      simp_arith [seqOf, s1 _ _ ex, at0]
      exact ⟨pa, rfl, ⟨_, SqL.of (s1 _ _ ep)⟩, hR2⟩
    · rintro i σ' Hc hi ⟨w1, w2, rfl, s4, ez⟩
      have x1 : xs[i]? = some (xs[i]'(by omega)) := List.getElem?_eq_getElem _
      have z1 : SqL K Hc pa xs := SqL.of (s4 _ _ (s1 _ _ ep))
      refine ⟨⟨_, _, z1, x1⟩, ?_⟩
      rintro y H' ⟨rfl, hy⟩
      obtain ⟨q, hq, pq⟩ := paired_left pp (hy _ z1)
      obtain ⟨t, rfl, ht⟩ := pq.same (s1.trans s4)
      simp_arith [ht]
      refine ⟨_, ez, ?_, _, _, rfl, same_upd s4 hlp, ?_⟩
      · rw [List.length_map, List.length_map, List.length_take]
        exact szl' (by omega)
      · rw [upd_same, take_get hq, List.map_append, List.map_append]
        rfl
    rintro σ' H2 ⟨w1, w2, rfl, s2, elp⟩
    refine ⟨⟨_, SqL.of (s2 _ _ (s1 _ _ ep)), by omega⟩, ?_⟩
    rw [List.take_length] at elp
    have e2 := s2 _ _ e1
    walk_at "RD"
    refine ⟨st, o, 9, rfl, e2, so, by decide, by decide, fun t o3 t0 t1 so3 => ?_⟩
    have b3 : But st H2 (upd H2 st o3) := But.at st H2 o3
    have e3 : upd H2 st o3 st = some o3 := upd_same
    have elp3 := b3 _ _ (ne_stI elp e2 so) elp
    have b03 : But st H (upd H2 st o3) := fun b u nb q => b3 _ _ nb (s2 _ _ (s1 _ _ q))
    generalize upd H2 st o3 = H3 at b3 e3 elp3 b03
    intro u hu'
    have s4 := same_new hu' (.tup [.str "all", .ref lp, .int (1 + t)])
    have eu4 : upd H3 u (.tup [.str "all", .ref lp, .int (1 + t)]) u = some (.tup [.str "all", .ref lp, .int (1 + t)]) := upd_same
    generalize upd H3 u (.tup [.str "all", .ref lp, .int (1 + t)]) = H4 at s4 eu4
    intro d hd
    have s5 := same_new hd (.lst [.ref u])
    have s45 := s4.trans s5
    refine h d _ [((("all" : String) : Str), ps.map (·.1), 1 + t)] _ o3 (fun b u nb q => s45 _ _ (b03 _ _ nb q)) (s45 _ _ e3) so3 upd_same (.cons ⟨u, lp, rfl, s5 _ _ eu4, s45 _ _ elp3⟩ .nil) (fun r hr => ?_) (by show 1 ≤ 101; decide)
    rw [List.mem_singleton.mp hr]
    show (ps.map (·.1)).length ≤ 100
    rw [List.length_map]
    omega
  rw [decide_eq_false hne]
  walk_at "RD"
  subst hR
  refine seq_hide fun R hR => ?_
  have nls := ne_rows el rr hne es so
  have hlen0 : rows.length ≠ 0 := fun z => hne (List.eq_nil_of_length_eq_zero z)
  have hps : ps.length ≠ 0 := fun z => by
    match rows, hne, good with
    | r :: t, _, good =>
      obtain ⟨_, q2, q3⟩ := rowB_pos (good.ok r (.head _))
      have : ps = [] := List.eq_nil_of_length_eq_zero z
      rw [this] at q2
      match r.2.1, q2, q3 with
      | n :: _, q2, _ => exact absurd (q2 n (.head _)) (List.not_mem_nil)
  simp_arith [seqOf, s1 _ _ el]
  refine ⟨st, o, _, rfl, e1, so, by omega, by omega, fun k o2 k0 k1 so2 => ?_⟩
  have b2 : But st H (upd H1 st o2) := b1.trans (But.at st H1 o2)
  have e2 : upd H1 st o2 st = some o2 := upd_same
  generalize upd H1 st o2 = H2 at b2 e2
  have hkl : k.toNat < zs.length := by omega
  have hx0 : zs[k.toNat]? = some zs[k.toNat] := List.getElem?_eq_getElem hkl
  generalize zs[k.toNat] = x at hx0
  obtain ⟨r, hri, u, la, rfl, eu, ela⟩ := paired_left rr hx0
  have hx : atI zs k = some (.ref u) := by
    have := atI_nat (j := k.toNat) hx0
    rwa [Int.toNat_of_nonneg k0] at this
  have el2 := b2 _ _ nls el
  have nus : u ≠ st := fun z => by
    obtain ⟨_, _, _, rfl, _⟩ := so
    rw [z, es] at eu
    cases eu
  have eu2 := b2 _ _ nus eu
  have ela2 := b2 _ _ (ne_stI ela es so) ela
  walk_at "RD"
  subst hR
  refine seq_hide fun R hR => ?_
  simp_arith [seqOf, el2, hx, eu2]
  obtain ⟨w, ns, am⟩ := r
  have hr20 := good.len _ (List.mem_of_getElem? hri)
  dsimp only at hr20 eu eu2 ela ela2 ⊢
  subst hR
  refine seq_hide fun R hR => ?_
  walk_at "RD"
  refine ⟨st, o2, 5, rfl, e2, so2, by decide, by decide, fun way o3 way0 way1 so3 => ?_⟩
  have b3 : But st H (upd H2 st o3) := b2.trans (But.at st H2 o3)
  have e3 : upd H2 st o3 st = some o3 := upd_same
  have ela3 := (But.at st H2 o3) _ _ (ne_stI ela2 e2 so2) ela2
  generalize upd H2 st o3 = H3 at b3 e3 ela3
  walk_at "RD"
  subst hR
  clear eu2 ela2 el2 b2 e2 so2 eu ela hri nus hx hx0 hkl
  clear o2 H2
  revert ela3 so3 e3 b3
  generalize H3 = H'
  generalize o3 = o'
  intro so' b' e' ela
  have hns : ns.length ≤ 30 := by omega
  clear hr20
  refine seq_hideD fun D9 hD9 => ?_
  refine seq_hide fun R hR => ?_
  suffices k0 : ∀ (w : Str) (la : Addr) (ns : List Int) (am : Int) (H' : Hp) (o' : HO), But st H H' → H' st = some o' → StO o' → H' la = some (.lst (ns.map V.int)) → ns.length ≤ 30 + 0 → R D9 [some (.ref st), some (.ref l), some (.ref xv), some (.int k), some (.str w), some (.ref la), some (.int am), some (.int way)] H' by
    walk_at "RD"
    by_cases c : way = 0
    · rw [decide_eq_true c]
      walk_at "RD"
      by_cases c2 : w = (("ring" : String) : Str)
      · rw [decide_eq_true c2]
        walk_at "RD"
        intro c9 hc9
        have s9 := same_new hc9 (.lst [.str "ring", .str "all"])
        have ec9 : upd H' c9 (.lst [.str "ring", .str "all"]) c9 = some (.lst [.str "ring", .str "all"]) := upd_same
        generalize upd H' c9 (.lst [.str "ring", .str "all"]) = H9 at s9 ec9
        simp_arith [seqOf, ec9, at0, at1]
        exact k0 _ la ns am H9 o' (fun b u nb q => s9 _ _ (b' _ _ nb q)) (s9 _ _ e') so' (s9 _ _ ela) (by omega)
      · rw [decide_eq_false c2]
        walk_at "RD"
        intro c9 hc9
        have s9 := same_new hc9 (.lst [.str "ring", .str "all"])
        have ec9 : upd H' c9 (.lst [.str "ring", .str "all"]) c9 = some (.lst [.str "ring", .str "all"]) := upd_same
        generalize upd H' c9 (.lst [.str "ring", .str "all"]) = H9 at s9 ec9
        simp_arith [seqOf, ec9, at0, at1]
        exact k0 _ la ns am H9 o' (fun b u nb q => s9 _ _ (b' _ _ nb q)) (s9 _ _ e') so' (s9 _ _ ela) (by omega)
    · rw [decide_eq_false c]
      walk_at "RD"
      exact k0 w la ns am _ _ b' e' so' ela (by omega)
  subst hR
  clear so' ela hns b' e'
  clear o' H' la ns am w
  intro w la ns am H' o' b' e' so' ela hns
  refine seq_hide fun R hR => ?_
  suffices k1 : ∀ (w : Str) (la : Addr) (ns : List Int) (am : Int) (H' : Hp) (o' : HO), But st H H' → H' st = some o' → StO o' → H' la = some (.lst (ns.map V.int)) → ns.length ≤ 30 + 1 → R D9 [some (.ref st), some (.ref l), some (.ref xv), some (.int k), some (.str w), some (.ref la), some (.int am), some (.int way)] H' by
    walk_at "RD"
    by_cases c : way = 1
    · rw [decide_eq_true c]
      walk_at "RD"
      simp_arith [ela]
      rw [cut_1I]
      intro c9 hc9
      have s9 := same_new hc9 (.lst ((ns.drop 1).map V.int))
      exact k1 w c9 (ns.drop 1) am _ o' (fun b u nb q => s9 _ _ (b' _ _ nb q)) (s9 _ _ e') so' upd_same (by rw [List.length_drop]; omega)
    · rw [decide_eq_false c]
      walk_at "RD"
      exact k1 w la ns am _ _ b' e' so' ela (by omega)
  subst hR
  clear so' ela hns b' e'
  clear o' H' la ns am w
  intro w la ns am H' o' b' e' so' ela hns
  refine seq_hide fun R hR => ?_
  suffices k2 : ∀ (w : Str) (la : Addr) (ns : List Int) (am : Int) (H' : Hp) (o' : HO), But st H H' → H' st = some o' → StO o' → H' la = some (.lst (ns.map V.int)) → ns.length ≤ 30 + 2 → R D9 [some (.ref st), some (.ref l), some (.ref xv), some (.int k), some (.str w), some (.ref la), some (.int am), some (.int way)] H' by
    walk_at "RD"
    by_cases c : way = 2
    · rw [decide_eq_true c]
      walk_at "RD"
      obtain ⟨xv', pa', ta', xs', ys', ev, ex2, ep2, et2, pp2, pt2⟩ := hw.but es so b'
      cases ev
      have hlx' : xs'.length = ps.length := Paired.length pp2
      simp_arith [seqOf, ex2, at0, ep2]
      refine ⟨st, o', _, rfl, e', so', by omega, by omega, fun j o5 j0 j1 so5 => ?_⟩
      have b5 : But st H' (upd H' st o5) := But.at st H' o5
      have e5 : upd H' st o5 st = some o5 := upd_same
      have b05 := b'.trans b5
      have ela5 := b5 _ _ (ne_stI ela e' so') ela
      generalize upd H' st o5 = H5 at b5 e5 b05 ela5
      have ex5 := b5 _ _ (fun z => by
        obtain ⟨_, _, _, rfl, _⟩ := so'
        rw [z, e'] at ex2
        cases ex2) ex2
      have ep5 := b5 _ _ (ne_st ep2 pp2 e' so') ep2
      have pp5 : Prs H5 xs' ps := Prs.tups (b5.tups e' so'.imm) pp2
      have hjl : j.toNat < xs'.length := by omega
      have hj0 : xs'[j.toNat]? = some xs'[j.toNat] := List.getElem?_eq_getElem hjl
      generalize xs'[j.toNat] = xj at hj0
      obtain ⟨q, hq, tq, rfl, etq⟩ := paired_left pp5 hj0
      have hxj : atI xs' j = some (.ref tq) := by
        have := atI_nat (j := j.toNat) hj0
        rwa [Int.toNat_of_nonneg j0] at this
      simp_arith [seqOf, ex5, at0, ep5, hxj, etq]
      intro c8 hc8
      have s8 := same_new hc8 (.lst [.int q.1])
      have ec8 : upd H5 c8 (.lst [.int q.1]) c8 = some (.lst [.int q.1]) := upd_same
      have ela8 := s8 _ _ ela5
      generalize upd H5 c8 (.lst [.int q.1]) = H8 at s8 ec8 ela8
      simp only [ela8, ec8]
      refine ⟨?_, ?_⟩
      · have : (1000000 : Nat) ≤ sizeLine := by decide
        rw [List.length_map]
        show ns.length + 1 ≤ _
        omega
      intro c9 hc9
      have s9 := same_new hc9 (.lst (ns.map V.int ++ [.int q.1]))
      exact k2 w c9 (ns ++ [q.1]) am _ o5 (fun b u nb z => s9 _ _ (s8 _ _ (b05 _ _ nb z))) (s9 _ _ (s8 _ _ e5)) so5 (by rw [List.map_append]; exact upd_same) (by rw [List.length_append]; show ns.length + 1 ≤ _; omega)
    · rw [decide_eq_false c]
      walk_at "RD"
      exact k2 w la ns am _ _ b' e' so' ela (by omega)
  subst hR
  clear so' ela hns b' e'
  clear o' H' la ns am w
  intro w la ns am H' o' b' e' so' ela hns
  refine seq_hide fun R hR => ?_
  suffices k3 : ∀ (w : Str) (la : Addr) (ns : List Int) (am : Int) (H' : Hp) (o' : HO), But st H H' → H' st = some o' → StO o' → H' la = some (.lst (ns.map V.int)) → ns.length ≤ 30 + 3 → R D9 [some (.ref st), some (.ref l), some (.ref xv), some (.int k), some (.str w), some (.ref la), some (.int am), some (.int way)] H' by
    walk_at "RD"
    by_cases c : way = 3
    · rw [decide_eq_true c]
      walk_at "RD"
      refine ⟨⟨by decide, by decide, by decide⟩, ?_⟩
      rw [show Int.toNat 9 = 9 from rfl]
      intro c9 hc9
      have s9 := same_new hc9 (.lst [.int 1, .int 9, .int (10 ^ (9 : Nat))])
      have ec9 : upd H' c9 (.lst [.int 1, .int 9, .int (10 ^ (9 : Nat))]) c9 = some (.lst [.int 1, .int 9, .int (10 ^ (9 : Nat))]) := upd_same
      have e9 := s9 _ _ e'
      have ela9 := s9 _ _ ela
      have b9 : But st H (upd H' c9 (.lst [.int 1, .int 9, .int (10 ^ (9 : Nat))])) := fun b u nb q => s9 _ _ (b' _ _ nb q)
      generalize upd H' c9 (.lst [.int 1, .int 9, .int (10 ^ (9 : Nat))]) = H9 at s9 ec9 e9 ela9 b9
      refine ⟨st, o', 3, rfl, e9, so', by decide, by decide, fun j o5 j0 j1 so5 => ?_⟩
      have nc9 : c9 ≠ st := (ne_of_none e' hc9).symm
      have b5 : But st H9 (upd H9 st o5) := But.at st H9 o5
      have e5 : upd H9 st o5 st = some o5 := upd_same
      have b05 := b9.trans b5
      have ela5 := b5 _ _ (ne_stI ela9 e9 so') ela9
      have ec5 := b5 _ _ nc9 ec9
      generalize upd H9 st o5 = H5 at b5 e5 b05 ela5 ec5
      obtain ⟨m, hm, m0, m1⟩ : ∃ m : Int, atI [V.int 1, .int 9, .int (10 ^ 9)] j = some (.int m) ∧ 1 ≤ m ∧ m ≤ 10 ^ 9 := by
        have : j = 0 ∨ j = 1 ∨ j = 2 := by omega
        rcases this with rfl | rfl | rfl
        · exact ⟨1, rfl, by decide, by decide⟩
        · exact ⟨9, rfl, by decide, by decide⟩
        · exact ⟨10 ^ 9, rfl, by decide, by decide⟩
      simp_arith [seqOf, ec5, hm]
      refine ⟨st, o5, m, rfl, e5, so5, m0, by omega, fun t o6 t0 t1 so6 => ?_⟩
      have b6 : But st H5 (upd H5 st o6) := But.at st H5 o6
      exact k3 w la ns _ _ o6 (b05.trans b6) upd_same so6 (b6 _ _ (ne_stI ela5 e5 so5) ela5) (by omega)
    · rw [decide_eq_false c]
      walk_at "RD"
      exact k3 w la ns am _ _ b' e' so' ela (by omega)
  subst hR
  clear so' ela hns b' e'
  clear o' H' la ns am w
  intro w la ns am H' o' b' e' so' ela hns
  subst hD9
  obtain el' := b' _ _ nls el
  have rr' := rr.but es so b'
  simp_arith [el']
  rw [cut_to k0 (by omega)]
  intro c1 hc1
  have s1' := same_new hc1 (.lst (zs.take k.toNat))
  have ec1 : upd H' c1 (.lst (zs.take k.toNat)) c1 = some (.lst (zs.take k.toNat)) := upd_same
  generalize upd H' c1 (.lst (zs.take k.toNat)) = H4 at s1' ec1
  intro u9 hu9
  have s2' := same_new hu9 (.tup [.str w, .ref la, .int am])
  have eu9 : upd H4 u9 (.tup [.str w, .ref la, .int am]) u9 = some (.tup [.str w, .ref la, .int am]) := upd_same
  have ec2 := s2' _ _ ec1
  have S2 := s1'.trans s2'
  generalize upd H4 u9 (.tup [.str w, .ref la, .int am]) = H5 at s2' eu9 ec2 S2
  intro c3 hc3
  have s3' := same_new hc3 (.lst [.ref u9])
  have ec3 : upd H5 c3 (.lst [.ref u9]) c3 = some (.lst [.ref u9]) := upd_same
  have ec13 := s3' _ _ ec2
  have eu93 := s3' _ _ eu9
  have S3 := S2.trans s3'
  generalize upd H5 c3 (.lst [.ref u9]) = H6 at s3' ec3 ec13 eu93 S3
  simp only [ec13, ec3]
  refine ⟨?_, ?_⟩
  · have : (1000000 : Nat) ≤ sizeLine := by decide
    rw [List.length_take]
    show _ + 1 ≤ _
    omega
  intro c4 hc4
  have s4' := same_new hc4 (.lst (zs.take k.toNat ++ [.ref u9]))
  have ec4 : upd H6 c4 (.lst (zs.take k.toNat ++ [.ref u9])) c4 = some (.lst (zs.take k.toNat ++ [.ref u9])) := upd_same
  have S4 := S3.trans s4'
  have el7 := S4 _ _ el'
  generalize upd H6 c4 (.lst (zs.take k.toNat ++ [.ref u9])) = H7 at s4' ec4 S4 el7
  simp only [el7]
  rw [cut_from (by omega) (by omega)]
  intro c5 hc5
  have s5' := same_new hc5 (.lst (zs.drop (k + 1).toNat))
  have ec5 : upd H7 c5 (.lst (zs.drop (k + 1).toNat)) c5 = some (.lst (zs.drop (k + 1).toNat)) := upd_same
  have ec45 := s5' _ _ ec4
  have S5 := S4.trans s5'
  generalize upd H7 c5 (.lst (zs.drop (k + 1).toNat)) = H8 at s5' ec5 ec45 S5
  simp only [ec45, ec5]
  refine ⟨?_, ?_⟩
  · have : (1000000 : Nat) ≤ sizeLine := by decide
    rw [List.length_append, List.length_take, List.length_drop]
    show _ + 1 + _ ≤ _
    omega
  intro c6 hc6
  have s6' := same_new hc6 (.lst ((zs.take k.toNat ++ [.ref u9]) ++ zs.drop (k + 1).toNat))
  have S6 := S5.trans s6'
  have rr9 := rr'.same S6
  refine h c6 _ ((rows.take k.toNat ++ [(w, ns, am)]) ++ rows.drop (k + 1).toNat) _ o' (fun b u nb q => S6 _ _ (b' _ _ nb q)) (S6 _ _ e') so' upd_same (paired_app (paired_app (paired_take _ rr9) (.cons ⟨u9, la, rfl, s6' _ _ (s5' _ _ (s4' _ _ eu93)), S6 _ _ ela⟩ .nil)) (paired_drop _ rr9)) (fun r hr => ?_) ?_
  · rcases List.mem_append.mp hr with hr | hr
    · rcases List.mem_append.mp hr with hr | hr
      · have := good.len r (List.mem_of_mem_take hr)
        omega
      · rw [List.mem_singleton.mp hr]
        show ns.length ≤ 100
        omega
    · have := good.len r (List.mem_of_mem_drop hr)
      omega
  · rw [List.length_append, List.length_append, List.length_take, List.length_drop]
    show _ + 1 + _ ≤ _
    omega
end
end My
namespace L2
open PySem PySem.Spec PyProof.Rows
theorem FlyD.push {B : Heap} {l : List Env} {x : Addr} {cl : Value} {dd : Option Addr} {fl : Value} {h : Heap} (f : FlyD B l x cl dd fl h) (o : Obj) : FlyD B l x cl dd fl (h.push o) := by
  obtain ⟨st, nx, fu, ox, ws, T, oT, ts, gx, c1, c2, dx, w1, nT, ne, gT, dT, t3, w2⟩ := f
  exact ⟨fun b o' q => Heap.get?_push_of_some _ (st b o' q), nx, fu.of_keeps fun b o' q _ => ⟨_, Heap.get?_push_of_some _ q, rfl⟩, ox, ws, T, oT, ts, Heap.get?_push_of_some _ gx, c1, c2, dx, w1, nT, ne, Heap.get?_push_of_some _ gT, dT, t3, w2⟩
theorem upTo_push (h : Heap) (o : Obj) : h.UpToSlots (h.push o) := fun b o' q _ => ⟨_, Heap.get?_push_of_some _ q⟩
section
variable {X : Cx} {x y : Str} {np mp tp hpos pos : Pos} {kk : Nat} {body suite : List Stmt} {b0 : Stmt} {C C' : Addr} {mt : Value → Prop} {tb : (St → XK) → TS} {th : TS}
theorem ps_tryT (d : Df X) (hg : Gl X x) (hm : X.mg x = some (.ref C)) (hg2 : Gl X y) (hm2 : X.mg y = some (.ref C')) (hM : ∀ cl, mt cl → PySem.W.exmAny X.K cl [.ref C, .ref C'] = some true)
    (hb : ∀ pins EX, PSs (X.tr pins EX) body (tb EX)) (hs : ∀ a, PSs (X.hnd a) (b0 :: suite) th) (hdb : (x == ("__debug__" : Str)) = false := by decide) (hdb2 : (y == ("__debug__" : Str)) = false := by decide) :
    PS X (.Try body [.ExceptHandler (some (.Tuple [.Name x np, .Name y mp] kk tp)) none (b0 :: suite) hpos] [] [] pos) (tTry0 mt tb th) := by
  intro pins s σ H D I h
  have d' : Df ({ X with pn := X.pn ++ pins } : Cx) := ⟨d.stk, d.fr, d.ex, d.fn⟩
  have fr' : X.A.frames = some (X.env :: X.outer) := by rw [← d.stk]; exact I.ok.frames
  refine wpAny_Try_except (wpAny_mono (hb pins _ [] s σ H D (I.tr _) h) (fun f s1 hf => ?_) fun e s1 hx => ?_)
  · cases f with
    | next =>
      obtain ⟨σ', H', J, q⟩ := hf
      exact pss_nil pins s1 σ' H' D (J.untr I.ok) q
    | ret u => obtain ⟨v, σ', H', J, r, q⟩ := hf; exact ⟨v, σ', H', J.untr I.ok, r, q⟩
    | brk => obtain ⟨σ', H', J, q⟩ := hf; exact ⟨σ', H', J.untr I.ok, q⟩
    | cont => obtain ⟨σ', H', J, q⟩ := hf; exact ⟨σ', H', J.untr I.ok, q⟩
  · obtain ⟨a, cl, dd, σ1, H1, B, rfl, J, hxn, nx, c, ⟨hmt, q⟩, m⟩ := hx
    have go : ∀ h2, FlyD B X.stack a cl dd (rawInt X.env.locals) h2 → s1.heap.UpToSlots h2 → wpAny (model X.prog X.w) X.A (setFlight (.ref a) none) (fun _ s3 => wpAny (model X.prog X.w) X.A (handleBy (.ref a) X.env [.ExceptHandler (some (.Tuple [.Name x np, .Name y mp] kk tp)) none (b0 :: suite) hpos]) (SP X pins D) X.xe s3) X.xe { s1 with heap := h2 } := by
      intro h2 f2 u2
      refine flightD (s := { s1 with heap := h2 }) none f2 fun h3 f3 u3 => ?_
      have J3 := (J.viaB d' c f3.stays (u2.trans u3)).pn2 I.ok
      refine wpAny_handleBy_cons (codeAny_handlers_test ?_) (by intro z; cases z)
      refine Tuple_ (spliced_more (ld_glob (X := X.hnd a) (J3.toHnd a) hg hm (spliced_more (ld_glob (X := X.hnd a) (J3.toHnd a) hg2 hm2 (spliced_none ?_) hdb2)) hdb))
      refine wpAny_newObj_type ?_
      have f5 := f3.push { cls := .type "tuple", dict := none, data := .seq [Value.ref C, .ref C'].toArray }
      have u5 := upTo_push h3 { cls := .type "tuple", dict := none, data := .seq [Value.ref C, .ref C'].toArray }
      have e5 := Heap.get?_push_size h3 (show ({ cls := .type "tuple", dict := none, data := .seq [Value.ref C, .ref C'].toArray } : Obj).isFreed = false from rfl)
      dsimp only
      have J6 := (J.viaB d' c f5.stays ((u2.trans u3).trans u5)).pn2 I.ok
      obtain ⟨ox, ws, gx, cx, dx, ex⟩ := f5.there
      have LT : PySem.W.Looks (model X.prog X.w) (h3.push { cls := .type "tuple", dict := none, data := .seq [Value.ref C, .ref C'].toArray }) (typeOf (.ref a)) cl := by
        rw [← cx]
        exact (PySem.W.Looks.ld gx).andThen .now
      refine PySem.W.Looks.here (PySem.W.exm_tup2 J6.kIn LT e5 (hM cl hmt)) (codeAny_handlers_suite ?_)
      refine flightD (s := { s1 with heap := h3.push { cls := .type "tuple", dict := none, data := .seq [Value.ref C, .ref C'].toArray } }) none f5 fun h4 f4 u4 => ?_
      have J4 := (J.viaB d' c f4.stays (((u2.trans u3).trans u5).trans u4)).pn2 I.ok
      obtain ⟨ox, ws, gx, cx, dx, ex⟩ := f4.there
      have nl : X.env.locals ≠ a := fun z => by
        obtain ⟨m, ⟨o, es, ep, ho, hd, _⟩, _⟩ := J4.loc
        rw [z] at ho
        rw [show h4.get? a = some ox from gx] at ho
        cases ho
        rw [ex] at hd
        cases hd
      have J5 := J4.adopt (x := a) (o := caO a cl dd) hxn nx nl (fun y cc e z => by
        obtain ⟨q1, _, q2⟩ := c.cel y cc e
        rw [z, f4.new] at q2
        cases q2) (fun p hp z => by
        have := c.pin p hp
        rw [z, f4.new] at this
        cases this) (caO_ok gx cx dx ex)
      refine wpAny_mono (hs a pins _ _ _ D (J5.toHnd a) (q a hxn)) (fun f s7 hf => ?_) fun _ _ z => z.elim
      cases f with
      | next => obtain ⟨σ', H', J7, q7⟩ := hf; exact ⟨_, _, J7.unHnd I.ok, q7⟩
      | ret u => obtain ⟨v, σ', H', J7, r, q7⟩ := hf; exact ⟨v, _, _, J7.unHnd I.ok, r, q7⟩
      | brk => obtain ⟨σ', H', J7, q7⟩ := hf; exact ⟨_, _, J7.unHnd I.ok, q7⟩
      | cont => obtain ⟨σ', H', J7, q7⟩ := hf; exact ⟨_, _, J7.unHnd I.ok, q7⟩
    cases m with
    | new gx c1 c2 dx w1 w2 st nb fu =>
      rw [show ({ X with pn := X.pn ++ pins } : Cx).stack = X.env :: X.outer from d.stk] at fu
      subst c1; subst c2
      exact noteD0 fr' fu d.fr gx st nb dx w1 w2 fun h1 f1 u1 => go h1 (by rw [d.stk]; exact f1) u1
    | fly f =>
      rw [show ({ X with pn := X.pn ++ pins } : Cx).stack = X.env :: X.outer from d.stk] at f
      exact noteD fr' d.fr f fun h1 f1 u1 => go h1 (by rw [d.stk]; exact f1) u1
    | held f => exact noteAgain d.fr f (go s1.heap f (Heap.UpToSlots.refl _))
end
end L2
namespace My
open PySem L2
section
variable {P : Program} {w : World} {K : PySem.W.Frag} {mg : Str → Option Value} {base : Heap} {c1 c2 c3 c4 : Tok} {C_NoWeb f_NoWeb : Addr} {dI : FuncData}
variable {C_NoRows C_Overpaid : Addr}
def boundV (ps ts : List (Int × Int)) (rows : List Row) : V := if noRows ps ts (.lst (rows.map rowD)) = none ∧ overP ps rows = none then .int ((gAll rows + 1) / 2) else .non
def spLet : Sp := fun vs H Q _ => ∃ v l xs rows ps ts, vs = [v, .ref l] ∧ WebAt H v ps ts ∧ WebOk ps ts ∧ H l = some (.lst xs) ∧ Reps H (rows.map rowD) xs ∧ (∀ r ∈ rows, r.2.1.length ≤ 900) ∧ ∀ H', Same H H' → Q (boundV ps ts rows) H'
def spWorthG : Sp := fun vs H Q _ => ∃ v l xs rows ps ts, vs = [v, .ref l] ∧ WebAt H v ps ts ∧ WebOk ps ts ∧ H l = some (.lst xs) ∧ Reps H (rows.map rowD) xs ∧ RowsOk ps ts rows ∧ ∀ H', Same H H' → Q (.int (gAll rows)) H'
theorem worth_good {CW CR CO : Addr} : ∀ vs H Q E, spWorthG vs H Q E → spWorthF id CW CR CO vs H Q (fun _ _ _ => False) := by
  rintro vs H Q E ⟨v, l, xs, rows, ps, ts, rfl, hw, wok, el, rx, ok, h⟩
  refine ⟨v, webD ps ts, .ref l, rfl, webD_rep hw, fun w n e => ?_, fun qs us e _ => ?_⟩
  · rw [webOk_no wok] at e
    cases e
  obtain ⟨rfl, rfl⟩ := webD_inj e
  refine ⟨.lst (rows.map rowD), by rw [Rep]; exact ⟨l, xs, rfl, el, rx⟩, rows_fit ok.fit, fun n en => ?_, fun _ => ⟨fun p eo => ?_, fun _ => ?_⟩⟩
  · rw [ok.no] at en
    cases en
  · rw [show rowsD (.lst (rows.map rowD)) = rows from rowsD_map rows, ok.ov] at eo
    cases eo
  · rw [show rowsD (.lst (rows.map rowD)) = rows from rowsD_map rows]
    exact h
theorem ok_law_let_by {f : Addr} {fd : FuncData} {f_bound_of : Addr} {d_bound_of : FuncData} (B : Blt mg) (D : DefAt K mg "_law_let_by" (top 56) ["_law_web_here", "_law_rows_here"] f fd) (D_bound_of : DefAt K mg "bound_of" (top 35) ["web", "rows"] f_bound_of d_bound_of) (G_bound_of : FnOk P w K mg base (CXE P w) 8 f_bound_of d_bound_of ["web", "rows"] (spWorthF (fun n => (n + 1) / 2) C_NoWeb C_NoRows C_Overpaid)) (m_NoRows : mg "NoRows" = some (.ref C_NoRows)) (m_Overpaid : mg "Overpaid" = some (.ref C_Overpaid)) (hMX : ∀ cl, (cl = .ref C_NoRows ∨ cl = .ref C_Overpaid) → PySem.W.exmAny K cl [.ref C_NoRows, .ref C_Overpaid] = some true) : FnOk P w K mg base CX0 9 f fd ["_law_web_here", "_law_rows_here"] spLet := by
  have sc : FnScope ["_law_web_here", "_law_rows_here", "_law_bound"] ["_law_web_here", "_law_rows_here"] (defScope (top 56)) := ⟨rfl, rfl, rfl, by decide +kernel, rfl, by decide +kernel, by decide +kernel⟩
  refine D.F.ok sc (fun vs H Q E h => ?_) (fun cdv A outer s H vs Q E hr h => ?_)
  · obtain ⟨v, l, xs, rows, ps, ts, rfl, _⟩ := h
    rfl
  obtain ⟨v, l, xs, rows, ps, ts, rfl, hw, wok, el, rx, fit, h⟩ := h
  have hu := hu_of hr
  have hu0 : _ < PySem.cLine := Nat.lt_of_succ_lt hu
  refine ⟨_, (pss_cons (ps_set (i := 2) sc.nd rfl (Or.inl rfl) pe_non) (pss_cons (ps_tryT (mt := fun cl => cl = .ref C_NoRows ∨ cl = .ref C_Overpaid) ⟨rfl, rfl, rfl, fun _ => rfl⟩ rfl m_NoRows rfl m_Overpaid hMX (fun pins EX => (pss_one (ps_set (i := 2) sc.nd rfl (Or.inl rfl) (pe_callX G_bound_of (hr.mono (by decide)) rfl D_bound_of.m D_bound_of.F.kp D_bound_of.b .nil (passT ⟨rfl, rfl, rfl, fun _ => rfl⟩) (pa_cons (qv 0) (pa_cons (qv 1) pa_nil)))))) (fun a => (pss_one (ps_set (i := 2) sc.nd rfl (Or.inl rfl) pe_non)))) (pss_one (ps_ret (qv 2))))), ?_⟩
  refine seq_hide fun R hR => ?_
  walk_at "RD"
  subst hR
  refine seq_hide fun R hR => ?_
  unfold tTry0
  walk_at "RD"
  have hrs : rowsD (.lst (rows.map rowD)) = rows := rowsD_map rows
  refine ⟨v, webD ps ts, .ref l, rfl, webD_rep hw, fun w n e => ?_, fun qs us e _ => ?_⟩
  · rw [webOk_no wok] at e
    cases e
  obtain ⟨rfl, rfl⟩ := webD_inj e
  refine ⟨.lst (rows.map rowD), by rw [Rep]; exact ⟨l, xs, rfl, el, rx⟩, rows_fit fit, fun n en => ?_, fun en => ⟨fun p eo => ?_, fun eo H1 s1 => ?_⟩⟩
  · intro dx H1 hdx s1 edx
    refine ⟨.inl rfl, fun x hx => ?_⟩
    walk_at "RD"
    subst hR
    walk_at "RD"
    have := h _ (s1.trans (same_new hx (caO x (.ref C_NoRows) (some dx))))
    unfold boundV at this
    rw [if_neg (fun z => by rw [z.1] at en; cases en)] at this
    exact this
  · rw [hrs] at eo
    intro dx H1 hdx s1 edx
    refine ⟨.inr rfl, fun x hx => ?_⟩
    walk_at "RD"
    subst hR
    walk_at "RD"
    have := h _ (s1.trans (same_new hx (caO x (.ref C_Overpaid) (some dx))))
    unfold boundV at this
    rw [if_neg (fun z => by rw [z.2] at eo; cases eo)] at this
    exact this
  · rw [hrs] at eo ⊢
    walk_at "RD"
    subst hR
    walk_at "RD"
    have := h _ s1
    unfold boundV at this
    rw [if_pos ⟨en, eo⟩] at this
    exact this
end
end My
namespace My
open PySem L2
section
variable {P : Program} {w : World} {K : PySem.W.Frag} {mg : Str → Option Value} {base : Heap} {c1 c2 c3 c4 : Tok} {C_NoWeb f_NoWeb : Addr} {dI : FuncData}
theorem setIn_of {ps : List (Int × Int)} {ss : List Int} (hn : PlOk (-1) 0 ps) (hl : ps.length ≤ 40) (h : ss ∈ setsL (ps.map (·.1))) : SetIn ps ss ∧ ss.Nodup ∧ ∀ n ∈ ss, n ∈ ps.map (·.1) := by
  have hs := setsL_sub h
  have hle := hs.length_le
  rw [List.length_map] at hle
  have hb : ∀ (qs : List (Int × Int)) (l s : Int), PlOk l s qs → (∀ q ∈ qs, hasK (kvsOf ps) q.1 = true) → SeOk (kvsOf ps) l (qs.map (·.1)) := by
    intro qs
    induction qs with
    | nil => intro l s _ _; exact trivial
    | cons q r ih =>
      intro l s h hk
      exact ⟨⟨hk q (.head _), h.gt q (.head _)⟩, ih _ _ h.2 fun p hp => hk p (.tail _ hp)⟩
  refine ⟨⟨by omega, SeOk_sub (hb ps (-1) 0 hn fun q hq => hasK_of hn.nodup hq) hs (Int.le_refl _)⟩, hs.nodup hn.nodup, fun n hn' => hs.subset hn'⟩
def spHolds : Sp := fun vs H Q _ => ∃ v l sl xs zs, ∃ rows : List Row, ∃ ps ts, vs = [v, .ref l, .ref sl] ∧ WebAt H v ps ts ∧ WebOk ps ts ∧ H l = some (.lst xs) ∧ Reps H (rows.map rowD) xs ∧ (∀ r ∈ rows, r.2.1.length ≤ 900) ∧ H sl = some (.lst zs) ∧ Paired (SetAt H) zs (touchL ps ts) ∧ ∀ H', Same H H' → Q (.bl true) H'
theorem ok_law_holds {f : Addr} {fd : FuncData} {f_law_let_by : Addr} {d_law_let_by : FuncData} {f_worth_of : Addr} {d_worth_of : FuncData} {f_law_cost : Addr} {d_law_cost : FuncData} {f_is_tight : Addr} {d_is_tight : FuncData} (B : Blt mg) (D : DefAt K mg "_law_holds" (top 57) ["_law_web_here", "_law_rows_here", "_law_sets_here"] f fd) (D_law_let_by : DefAt K mg "_law_let_by" (top 56) ["_law_web_here", "_law_rows_here"] f_law_let_by d_law_let_by) (G_law_let_by : FnOk P w K mg base CX0 9 f_law_let_by d_law_let_by ["_law_web_here", "_law_rows_here"] spLet) (D_worth_of : DefAt K mg "worth_of" (top 34) ["web", "rows"] f_worth_of d_worth_of) (G_worth_of : FnOk P w K mg base CX0 7 f_worth_of d_worth_of ["web", "rows"] spWorthG) (D_law_cost : DefAt K mg "_law_cost" (top 54) ["_law_web_here", "_law_some"] f_law_cost d_law_cost) (G_law_cost : FnOk P w K mg base CX0 1 f_law_cost d_law_cost ["_law_web_here", "_law_some"] spCost) (D_is_tight : DefAt K mg "is_tight" (top 41) ["web", "rows", "some"] f_is_tight d_is_tight) (G_is_tight : FnOk P w K mg base CX0 8 f_is_tight d_is_tight ["web", "rows", "some"] spTight) : FnOk P w K mg base CX0 10 f fd ["_law_web_here", "_law_rows_here", "_law_sets_here"] spHolds := by
  have sc : FnScope ["_law_web_here", "_law_rows_here", "_law_sets_here", "_law_bound", "_law_worth", "_law_some", "_law_cost_here"] ["_law_web_here", "_law_rows_here", "_law_sets_here"] (defScope (top 57)) := ⟨rfl, rfl, rfl, by decide +kernel, rfl, by decide +kernel, by decide +kernel⟩
  refine D.F.ok sc (fun vs H Q E h => ?_) (fun cdv A outer s H vs Q E hr h => ?_)
  · obtain ⟨v, l, sl, xs, zs, rows, ps, ts, rfl, _⟩ := h
    rfl
  obtain ⟨v, l, sl, xs, zs, rows, ps, ts, rfl, hw, wok, el, rx, fit, esl, pz, h⟩ := h
  have okl := wok.pl
  have hu := hu_of hr
  have hu0 : _ < PySem.cLine := Nat.lt_of_succ_lt hu
  refine ⟨_, (pss_cons (ps_set (i := 3) sc.nd rfl (Or.inl rfl) (pe_call G_law_let_by (hr.mono (by decide)) rfl D_law_let_by.m D_law_let_by.F.kp D_law_let_by.b .nil pass0 (pa_cons (qv 0) (pa_cons (qv 1) pa_nil)))) (pss_cons (ps_if (qt_cmp q_isN (qv 3) pe_non (nomark _)) (pss_one (ps_ret pe_bl)) pss_nil) (pss_cons (ps_set (i := 4) sc.nd rfl (Or.inl rfl) (pe_call G_worth_of (hr.mono (by decide)) rfl D_worth_of.m D_worth_of.F.kp D_worth_of.b .nil pass0 (pa_cons (qv 0) (pa_cons (qv 1) pa_nil)))) (pss_cons (ps_for PassesOwn.never rfl (pi_list (qv 2)) (pg_name (i := 5) sc.nd rfl (Or.inl rfl)) (pss_cons (ps_set (i := 6) sc.nd rfl (Or.inl rfl) (pe_call G_law_cost (hr.mono (by decide)) rfl D_law_cost.m D_law_cost.F.kp D_law_cost.b .nil pass0 (pa_cons (qv 0) (pa_cons (qv 5) pa_nil)))) (pss_one (ps_if (PW.pt (pw_or (qt_cmp q_lt (qv 6) (qv 3) (nomark _)) (pw_or1 (qt_cmp q_ne (pe_call G_is_tight (hr.mono (by decide)) rfl D_is_tight.m D_is_tight.F.kp D_is_tight.b .nil pass0 (pa_cons (qv 0) (pa_cons (qv 1) (pa_cons (qv 5) pa_nil)))) (pe_cmpR q_eq (pe_op q_mul pe_int (qv 6)) (qv 4) (nomark _)) (nomark _))))) (pss_one (ps_ret pe_bl)) pss_nil)))) (pss_one (ps_ret pe_bl)))))), ?_⟩
  refine seq_hide fun R hR => ?_
  walk_at "RD"
  refine ⟨v, l, xs, rows, ps, ts, rfl, hw, wok, el, rx, fit, fun H1 s1 => ?_⟩
  walk_at "RD"
  subst hR
  refine seq_hide fun R hR => ?_
  unfold boundV
  by_cases c : noRows ps ts (.lst (rows.map rowD)) = none ∧ overP ps rows = none
  case' neg =>
    rw [if_neg c]
    walk_at "RD"
    exact h _ s1
  rw [if_pos c]
  walk_at "RD"
  subst hR
  refine seq_hide fun R hR => ?_
  have rok : RowsOk ps ts rows := ⟨c.1, c.2, fit, (noRows_rows c.1).2⟩
  walk_at "RD"
  refine ⟨v, l, xs, rows, ps, ts, rfl, hw.same s1, wok, s1 _ _ el, Reps.same s1 _ rx, rok, fun H2 s2 => ?_⟩
  have s02 := s1.trans s2
  walk_at "RD"
  subst hR
  refine seq_hide fun R hR => ?_
  have hzl : zs.length = (touchL ps ts).length := Paired.length pz
  refine tFor_hide (Itl K sl) H2 (fun R' hR' => ?_) (for_list (K := K) (a := sl) (xs := zs) (fun i σ H3 => ∃ v1 v2, σ = [some v, some (.ref l), some (.ref sl), some (.int ((gAll rows + 1) / 2)), some (.int (gAll rows)), v1, v2] ∧ Same H H3) ⟨none, none, rfl, s02⟩ (fun i σ H3 _ ⟨_, _, _, s3⟩ => SqL.of (s3 _ _ esl)) ?_ ?_)
  · unfold iList
    walk_at "RD"
    exact ⟨sl, rfl, ⟨_, SqL.of (s02 _ _ esl)⟩, hR'⟩
  · rintro i y σ H3 hi ⟨v1, v2, rfl, s3⟩
    obtain ⟨ss, hss, hset⟩ := paired_left pz hi
    have hmem := List.mem_of_getElem? hss
    unfold touchL at hmem
    rw [List.mem_filter] at hmem
    obtain ⟨hm1, hm2⟩ := hmem
    obtain ⟨sin, snd, sub⟩ := setIn_of wok.p okl hm1
    obtain ⟨g1, g2⟩ := stands_whole wok.p.nodup c.1 c.2 snd sub (of_decide_eq_true hm2)
    simp only [gName, List.set_cons_zero, List.set_cons_succ]
    refine seq_hide fun R9 hR9 => ?_
    walk_at "RD"
    refine ⟨v, _, ps, ts, ss, rfl, hw.same s3, by omega, hset.same s3, fun H4 s4 => ?_⟩
    have s04 := s3.trans s4
    walk_at "RD"
    subst hR9
    simp_arith [decide_eq_false (show ¬ costL ps ss < (gAll rows + 1) / 2 by omega)]
    refine ⟨v, l, _, xs, rows, ps, ts, ss, rfl, hw.same s04, wok, s04 _ _ el, Reps.same s04 _ rx, rok, hset.same s04, sin, fun H5 s5 => ?_⟩
    rw [g2]
    walk_at "RD"
    refine ⟨.inl ⟨by decide, by decide⟩, ?_⟩
    rw [if_neg (by decide)]
    exact ⟨_, _, rfl, s04.trans s5⟩
  · rintro σ H3 ⟨v1, v2, rfl, s3⟩
    walk_at "RD"
    subst hR
    walk_at "RD"
    exact h _ s3
end
end My
namespace My
open PySem L2
section
variable {P : Program} {w : World} {K : PySem.W.Frag} {mg : Str → Option Value} {base : Heap} {c1 c2 c3 c4 : Tok} {C_NoWeb f_NoWeb : Addr} {dI : FuncData}
theorem SetAt.but {st : Addr} {o : HO} {H H1 : Hp} {x : V} {ss : List Int} (hs : H st = some o) (so : StO o) (b : But st H H1) (h : SetAt H x ss) : SetAt H1 x ss := by
  obtain ⟨a, e, q⟩ := h
  exact ⟨a, e, b _ _ (ne_stI q hs so) q⟩
def spLaw (K : PySem.W.Frag) : Sp := fun vs H Q _ => ∃ a ns, vs = [.ref a] ∧ Scr K H a ns ∧ ∀ H', Q (.bl true) H'
theorem bound_some {ps ts : List (Int × Int)} {rows : List Row} (g : GoodRs ps ts rows) (hl : rows.length ≤ 200) (hf : ∀ p ∈ ps, paidL rows p.1 ≤ 2 * p.2) : boundV ps ts rows = .int ((gAll rows + 1) / 2) := by
  unfold boundV
  rw [if_pos]
  refine ⟨?_, ?_⟩
  · unfold noRows
    dsimp only
    rw [List.length_map, if_pos hl]
    have : ∀ (rs : List Row) (k : Nat), (∀ r ∈ rs, rowB ps ts (rowD r) = true) → rowBad ps ts k (rs.map rowD) = none := fun rs => by
      induction rs with
      | nil => intro _ _; rfl
      | cons r t ih => intro k h; rw [List.map_cons, rowBad, if_pos (h r (.head _))]; exact ih _ fun q hq => h q (.tail _ hq)
    rw [this rows 0 g.ok]
    rfl
  · unfold overP
    rw [List.find?_eq_none.mpr fun p hp => ?_]
    · rfl
    · have := hf p hp
      rw [decide_eq_true_eq]
      omega
theorem ok_law {f : Addr} {fd : FuncData} {f_law_begun : Addr} {d_law_begun : FuncData} {f_law_web : Addr} {d_law_web : FuncData} {f_law_touching : Addr} {d_law_touching : FuncData} {f_law_rows : Addr} {d_law_rows : FuncData} {f_law_let_by : Addr} {d_law_let_by : FuncData} {f_law_holds : Addr} {d_law_holds : FuncData} {f_law_loose : Addr} {d_law_loose : FuncData} {f_law_take : Addr} {d_law_take : FuncData} (B : Blt mg) (D : DefAt K mg "law" (top 58) ["_law_script"] f fd) (D_law_begun : DefAt K mg "_law_begun" (top 43) ["_law_script", "_law_k"] f_law_begun d_law_begun) (G_law_begun : FnOk P w K mg base CX0 1 f_law_begun d_law_begun ["_law_script", "_law_k"] (spBegun K)) (D_law_web : DefAt K mg "_law_web" (top 46) ["_law_state", "_law_most"] f_law_web d_law_web) (G_law_web : FnOk P w K mg base CX0 3 f_law_web d_law_web ["_law_state", "_law_most"] spWebD) (D_law_touching : DefAt K mg "_law_touching" (top 53) ["_law_web_here"] f_law_touching d_law_touching) (G_law_touching : FnOk P w K mg base CX0 2 f_law_touching d_law_touching ["_law_web_here"] spTouch) (D_law_rows : DefAt K mg "_law_rows" (top 51) ["_law_state", "_law_web_here", "_law_most"] f_law_rows d_law_rows) (G_law_rows : FnOk P w K mg base CX0 4 f_law_rows d_law_rows ["_law_state", "_law_web_here", "_law_most"] spRows16) (D_law_let_by : DefAt K mg "_law_let_by" (top 56) ["_law_web_here", "_law_rows_here"] f_law_let_by d_law_let_by) (G_law_let_by : FnOk P w K mg base CX0 9 f_law_let_by d_law_let_by ["_law_web_here", "_law_rows_here"] spLet) (D_law_holds : DefAt K mg "_law_holds" (top 57) ["_law_web_here", "_law_rows_here", "_law_sets_here"] f_law_holds d_law_holds) (G_law_holds : FnOk P w K mg base CX0 10 f_law_holds d_law_holds ["_law_web_here", "_law_rows_here", "_law_sets_here"] spHolds) (D_law_loose : DefAt K mg "_law_loose" (top 55) ["_law_state", "_law_rows_here", "_law_web_here"] f_law_loose d_law_loose) (G_law_loose : FnOk P w K mg base CX0 2 f_law_loose d_law_loose ["_law_state", "_law_rows_here", "_law_web_here"] spLoose) (D_law_take : DefAt K mg "_law_take" (top 44) ["_law_state", "_law_many"] f_law_take d_law_take) (G_law_take : FnOk P w K mg base CX0 1 f_law_take d_law_take ["_law_state", "_law_many"] spTake) : FnOk P w K mg base CX0 11 f fd ["_law_script"] (spLaw K) := by
  have sc : FnScope ["_law_script", "_law_k", "_law_state", "_law_web_here", "_law_sets_here", "_law_turn", "_law_rows_here"] ["_law_script"] (defScope (top 58)) := ⟨rfl, rfl, rfl, by decide +kernel, rfl, by decide +kernel, by decide +kernel⟩
  refine D.F.ok sc (fun vs H Q E h => ?_) (fun cdv A outer s H vs Q E hr h => ?_)
  · obtain ⟨a, ns, rfl, _⟩ := h
    rfl
  obtain ⟨a, ns, rfl, hs, h⟩ := h
  have hu := hu_of hr
  have hu0 : _ < PySem.cLine := Nat.lt_of_succ_lt hu
  refine ⟨_, (pss_cons (ps_for PassesOwn.never rfl (pi_range1 rfl B.range (pa_cons (pe_callB (q_max rfl) rfl B.max PyProof.Rows.boot_max (pa_cons pe_int (pa_cons (pe_callB (q_min rfl) rfl B.min PyProof.Rows.boot_min (pa_cons (pe_callB call_len_seq rfl B.len PySem.boot_len (pa_cons (qv 0) pa_nil)) (pa_cons pe_int pa_nil))) pa_nil))) pa_nil)) (pg_name (i := 1) sc.nd rfl (Or.inl rfl)) (pss_cons (ps_set (i := 2) sc.nd rfl (Or.inl rfl) (pe_call G_law_begun (hr.mono (by decide)) rfl D_law_begun.m D_law_begun.F.kp D_law_begun.b .nil pass0 (pa_cons (qv 0) (pa_cons (qv 1) pa_nil)))) (pss_cons (ps_set (i := 3) sc.nd rfl (Or.inl rfl) (pe_call G_law_web (hr.mono (by decide)) rfl D_law_web.m D_law_web.F.kp D_law_web.b .nil pass0 (pa_cons (qv 2) (pa_cons pe_int pa_nil)))) (pss_cons (ps_set (i := 4) sc.nd rfl (Or.inl rfl) (pe_call G_law_touching (hr.mono (by decide)) rfl D_law_touching.m D_law_touching.F.kp D_law_touching.b .nil pass0 (pa_cons (qv 3) pa_nil))) (pss_one (ps_for PassesOwn.never rfl (pi_range1 rfl B.range (pa_cons (pe_op q_add pe_int (pe_call G_law_take (hr.mono (by decide)) rfl D_law_take.m D_law_take.F.kp D_law_take.b .nil pass0 (pa_cons (qv 2) (pa_cons pe_int pa_nil)))) pa_nil)) (pg_name (i := 5) sc.nd rfl (Or.inl rfl)) (pss_cons (ps_set (i := 6) sc.nd rfl (Or.inl rfl) (pe_call G_law_rows (hr.mono (by decide)) rfl D_law_rows.m D_law_rows.F.kp D_law_rows.b .nil pass0 (pa_cons (qv 2) (pa_cons (qv 3) (pa_cons pe_int pa_nil))))) (pss_cons (ps_if (PW.pt (pw_or (qt_cmp q_isN (pe_call G_law_let_by (hr.mono (by decide)) rfl D_law_let_by.m D_law_let_by.F.kp D_law_let_by.b .nil pass0 (pa_cons (qv 3) (pa_cons (qv 6) pa_nil))) pe_non (nomark _)) (pw_or1 (pt_not (qt_val (pe_call G_law_holds (hr.mono (by decide)) rfl D_law_holds.m D_law_holds.F.kp D_law_holds.b .nil pass0 (pa_cons (qv 3) (pa_cons (qv 6) (pa_cons (qv 4) pa_nil))))))))) (pss_one (ps_ret pe_bl)) pss_nil) (pss_one (ps_if (pt_not (qt_val (pe_call G_law_holds (hr.mono (by decide)) rfl D_law_holds.m D_law_holds.F.kp D_law_holds.b .nil pass0 (pa_cons (qv 3) (pa_cons (pe_call G_law_loose (hr.mono (by decide)) rfl D_law_loose.m D_law_loose.F.kp D_law_loose.b .nil pass0 (pa_cons (qv 2) (pa_cons (qv 6) (pa_cons (qv 3) pa_nil)))) (pa_cons (qv 4) pa_nil)))))) (pss_one (ps_ret pe_bl)) pss_nil)))))))))) (pss_one (ps_ret pe_bl))), ?_⟩
  refine seq_hide fun R hR => ?_
  obtain ⟨N, hN, hN2⟩ : ∃ N : Nat, N = (if (1 : Int) < (if (6 : Int) < (ns.length : Int) then 6 else (ns.length : Int)) then (if (6 : Int) < (ns.length : Int) then 6 else (ns.length : Int)) else 1).toNat ∧ N < 40 := ⟨_, rfl, by split <;> split <;> omega⟩
  refine tFor_hide (Itr 0 N) H (fun R' hR' => ?_) (for_range (n := N) (fun i σ H1 => ∃ v1 v2 v3 v4 v5 v6, σ = [some (.ref a), v1, v2, v3, v4, v5, v6] ∧ Same H H1) ⟨none, none, none, none, none, none, rfl, Same.refl _⟩ ?_ ?_)
  · unfold iRng1
    walk_at "RD"
    refine ⟨a, _, rfl, .inl hs.sq, ?_⟩
    simp_arith [List.length_map]
    refine ⟨_, rfl, ?_, ?_, ?_⟩
    · split <;> split <;> omega
    · split <;> split <;> omega
    · rw [← hN]
      exact hR'
  · rintro i σ H1 hi ⟨v1, v2, v3, v4, v5, v6, rfl, s1⟩
    simp only [gName, List.set_cons_zero, List.set_cons_succ]
    refine seq_hide fun R9 hR9 => ?_
    walk_at "RD"
    refine ⟨a, 0 + (i : Int), ns, rfl, hs.tups s1.tups, by omega, by omega, fun st o hst so => ?_⟩
    have s2 := s1.trans (same_new hst o)
    have e2 : upd H1 st o st = some o := upd_same
    have hst0 : H st = none := s1.free hst
    generalize upd H1 st o = H2 at s2 e2
    walk_at "RD"
    subst hR9
    refine seq_hide fun R9 hR9 => ?_
    walk_at "RD"
    refine ⟨st, o, 7, rfl, e2, so, by decide, by decide, fun v H3 o3 ps ts b3 e3 so3 hw wok dr hp12 => ?_⟩
    walk_at "RD"
    subst hR9
    refine seq_hide fun R9 hR9 => ?_
    walk_at "RD"
    refine ⟨v, ps, ts, rfl, hw, wok, hp12, fun sl zs H4 hsl s4 esl pz => ?_⟩
    have e4 := s4 _ _ e3
    have hw4 := hw.same s4
    have nsl : sl ≠ st := (ne_of_none e3 hsl).symm
    have b04 : But st H2 H4 := fun b u nb q => s4 _ _ (b3 _ _ nb q)
    walk_at "RD"
    subst hR9
    refine tFor_hideI (ι := Nat × Hp × HO) (fun i0 => Itr 0 i0.1) (fun i0 => i0.2.1) (fun i0 => But st H4 i0.2.1 ∧ i0.2.1 st = some i0.2.2 ∧ StO i0.2.2) (fun R' hR' => ?_) (fun i0 ok0 => ?_)
    · unfold iRng1
      walk_at "RD"
      refine ⟨st, o3, 8, rfl, e4, so3, by decide, by decide, fun t o5 t0 t1 so5 => ?_⟩
      exact ⟨_, rfl, by omega, by omega, hR' ((1 + t).toNat, _, o5) ⟨But.at st H4 o5, upd_same, so5⟩⟩
    obtain ⟨n, H5, o5⟩ := i0
    obtain ⟨b5, e5, so5⟩ := ok0
    dsimp only at b5 e5 so5
    refine for_range (n := n) (fun j σ H6 => ∃ v1 v5 v6 o6, σ = [some (.ref a), v1, some (.ref st), some v, some (.ref sl), v5, v6] ∧ But st H4 H6 ∧ H6 st = some o6 ∧ StO o6) ⟨_, _, _, o5, rfl, b5, e5, so5⟩ ?_ ?_
    · rintro j σ H6 hj ⟨w1, w5, w6, o6, rfl, b6, e6, so6⟩
      simp only [gName, List.set_cons_zero, List.set_cons_succ]
      refine seq_hide fun R9 hR9 => ?_
      walk_at "RD"
      have hw6 := hw4.but e4 so3 b6
      refine ⟨st, o6, v, 7, ps, ts, rfl, e6, so6, hw6, wok, by decide, by decide, fun l xs rows H7 o7 b7 e7 so7 hl nls el rr0 good hlen hfit => ?_⟩
      have rr := rwsA rr0
      clear rr0
      have hw7 := hw6.but e6 so6 b7
      have b07 := b6.trans b7
      have esl7 := b07 _ _ nsl esl
      have pz7 : Paired (SetAt H7) zs (touchL ps ts) := Paired.mapP pz fun _ _ q => q.but e4 so3 b07
      walk_at "RD"
      subst hR9
      refine seq_hide fun R9 hR9 => ?_
      walk_at "RD"
      refine ⟨v, l, xs, rows, ps, ts, rfl, hw7, wok, el, rr.reps, fun r hr => by have := good.len r hr; omega, fun H8 s8 => ?_⟩
      rw [bound_some good (by omega) hfit]
      walk_at "RD"
      refine ⟨v, l, sl, xs, zs, rows, ps, ts, rfl, hw7.same s8, wok, s8 _ _ el, (rr.same s8).reps, fun r hr => by have := good.len r hr; omega, s8 _ _ esl7, Paired.mapP pz7 fun _ _ q => q.same s8, fun H9 s9 => ?_⟩
      walk_at "RD"
      subst hR9
      walk_at "RD"
      have s79 := s8.trans s9
      have e9 := s79 _ _ e7
      refine ⟨st, o7, l, v, xs, rows, ps, ts, rfl, e9, so7, hw7.same s79, wok, s79 _ _ el, rr.same s79, good, by omega, fun l' xs' rows' H10 o10 b10 e10 so10 el' rr' fit' hlen' => ?_⟩
      have hw10 := (hw7.same s79).but e9 so7 b10
      have b010 : But st H7 H10 := fun b u nb q => b10 _ _ nb (s79 _ _ q)
      have pz10 : Paired (SetAt H10) zs (touchL ps ts) := Paired.mapP pz7 fun _ _ q => q.but e7 so7 b010
      refine ⟨v, l', sl, xs', zs, rows', ps, ts, rfl, hw10, wok, el', rr'.reps, fun r hr => by have := fit' r hr; omega, b010 _ _ nsl esl7, pz10, fun H11 s11 => ?_⟩
      walk_at "RD"
      exact ⟨_, _, _, o10, rfl, fun b u nb q => s11 _ _ (b010 _ _ nb (b07 _ _ nb q)), s11 _ _ e10, so10⟩
    · rintro σ H6 ⟨w1, w5, w6, o6, rfl, b6, e6, so6⟩
      refine ⟨_, _, _, _, _, _, rfl, fun b u q => b6 _ _ (fun z => ?_) (b04 _ _ (fun z => ?_) (s2 _ _ q))⟩
      · rw [z, hst0] at q; cases q
      · rw [z, hst0] at q; cases q
  · rintro σ H1 ⟨v1, v2, v3, v4, v5, v6, rfl, s1⟩
    walk_at "RD"
    subst hR
    walk_at "RD"
    exact h _
end
end My
set_option autoImplicit true
namespace My
open PySem L2
abbrev aT (K : PySem.W.Frag) (x : Str) (f : Addr) : Prop := PySem.W.nsIn K mainGlobals x = some (some (.ref f))
abbrev lT (K : PySem.W.Frag) (x q : Str) (st : Stmt) (f : Addr) (oc : Value) (od an : Option Addr) (sl : Array (Option Value)) (kV dc pm cd ct : Value) : Prop := K.lookup f = some ⟨oc, od, .func (PySem.W.fnOf x q (defArgs st) (defBody st) (defScope st) .none kV dc pm an cd ct), sl⟩
abbrev cT (K : PySem.W.Frag) (cd : Value) (x : Str) : Prop := PySem.W.codeIn K cd x = true
abbrev kT (K : PySem.W.Frag) (f : Addr) : Prop := PySem.W.keepIn K (.ref f) = true
abbrev zT (K : PySem.W.Frag) (x : Str) : Prop := PySem.W.nsIn K mainGlobals x = some none
theorem dmk {K : PySem.W.Frag} {h : Heap} {mg : Str → Option Value} (X : K.In h) (G : h.Ns mainGlobals mg) {x : Str} {st : Stmt} {f : Addr} {oc : Value} {od an : Option Addr} {sl : Array (Option Value)} {kV dc pm cd ct : Value} (a : aT K x f) (l : lT K x x st f oc od an sl kV dc pm cd ct) (c : cT K cd x) (k : kT K f) (ps : List Str)
    (b : Binds K (PySem.W.fnOf x x (defArgs st) (defBody st) (defScope st) .none kV dc pm an cd ct) ps []) : DefAt K mg x st ps f (PySem.W.fnOf x x (defArgs st) (defBody st) (defScope st) .none kV dc pm an cd ct) := ⟨fun_mk l c k, b, PySem.W.mg_of X G a⟩
theorem all_mk {l : PySem.W.OpenLaw} {w : World} {K : PySem.W.Frag} {h : Heap} {mg : Str → Option Value} {fa : Addr} (X : K.In h) (G : h.Ns mainGlobals mg) (hfa : mg "law" = some (.ref fa)) (a0 : aT K "is_whole" f0) (l0 : lT K "is_whole" "is_whole" (top 7) f0 oc0 od0 an0 sq0 kV0 dc0 pm0 cd0 ct0) (g0 : cT K cd0 "is_whole") (k0 : kT K f0) (a1 : aT K "is_tuple_of" f1) (l1 : lT K "is_tuple_of" "is_tuple_of" (top 8) f1 oc1 od1 an1 sq1 kV1 dc1 pm1 cd1 ct1) (g1 : cT K cd1 "is_tuple_of") (k1 : kT K f1) (a2 : aT K "is_pair_of_wholes" f2) (l2 : lT K "is_pair_of_wholes" "is_pair_of_wholes" (top 9) f2 oc2 od2 an2 sq2 kV2 dc2 pm2 cd2 ct2) (g2 : cT K cd2 "is_pair_of_wholes") (k2 : kT K f2) (a3 : aT K "is_list_up_to" f3) (l3 : lT K "is_list_up_to" "is_list_up_to" (top 10) f3 oc3 od3 an3 sq3 kV3 dc3 pm3 cd3 ct3) (g3 : cT K cd3 "is_list_up_to") (k3 : kT K f3) (a4 : aT K "place_stands" f4) (l4 : lT K "place_stands" "place_stands" (top 16) f4 oc4 od4 an4 sq4 kV4 dc4 pm4 cd4 ct4) (g4 : cT K cd4 "place_stands") (k4 : kT K f4) (a5 : aT K "tie_stands" f5) (l5 : lT K "tie_stands" "tie_stands" (top 17) f5 oc5 od5 an5 sq5 kV5 dc5 pm5 cd5 ct5) (g5 : cT K cd5 "tie_stands") (k5 : kT K f5) (a6 : aT K "look_at_places" f6) (l6 : lT K "look_at_places" "look_at_places" (top 18) f6 oc6 od6 an6 sq6 kV6 dc6 pm6 cd6 ct6) (g6 : cT K cd6 "look_at_places") (k6 : kT K f6) (a7 : aT K "look_at_ties" f7) (l7 : lT K "look_at_ties" "look_at_ties" (top 19) f7 oc7 od7 an7 sq7 kV7 dc7 pm7 cd7 ct7) (g7 : cT K cd7 "look_at_ties") (k7 : kT K f7) (a8 : aT K "look_at_web" f8) (l8 : lT K "look_at_web" "look_at_web" (top 20) f8 oc8 od8 an8 sq8 kV8 dc8 pm8 cd8 ct8) (g8 : cT K cd8 "look_at_web") (k8 : kT K f8) (a9 : aT K "nears_in" f9) (l9 : lT K "nears_in" "nears_in" (top 23) f9 oc9 od9 an9 sq9 kV9 dc9 pm9 cd9 ct9) (g9 : cT K cd9 "nears_in") (k9 : kT K f9) (a10 : aT K "is_place" f10) (l10 : lT K "is_place" "is_place" (top 21) f10 oc10 od10 an10 sq10 kV10 dc10 pm10 cd10 ct10) (g10 : cT K cd10 "is_place") (k10 : kT K f10) (a11 : aT K "are_places" f11) (l11 : lT K "are_places" "are_places" (top 22) f11 oc11 od11 an11 sq11 kV11 dc11 pm11 cd11 ct11) (g11 : cT K cd11 "are_places") (k11 : kT K f11) (a12 : aT K "is_all" f12) (l12 : lT K "is_all" "is_all" (top 26) f12 oc12 od12 an12 sq12 kV12 dc12 pm12 cd12 ct12) (g12 : cT K cd12 "is_all") (k12 : kT K f12) (a13 : aT K "is_ring" f13) (l13 : lT K "is_ring" "is_ring" (top 27) f13 oc13 od13 an13 sq13 kV13 dc13 pm13 cd13 ct13) (g13 : cT K cd13 "is_ring") (k13 : kT K f13) (a14 : aT K "is_row" f14) (l14 : lT K "is_row" "is_row" (top 28) f14 oc14 od14 an14 sq14 kV14 dc14 pm14 cd14 ct14) (g14 : cT K cd14 "is_row") (k14 : kT K f14) (a15 : aT K "paid_by" f15) (l15 : lT K "paid_by" "paid_by" (top 29) f15 oc15 od15 an15 sq15 kV15 dc15 pm15 cd15 ct15) (g15 : cT K cd15 "paid_by") (k15 : kT K f15) (a16 : aT K "look_at_rows" f16) (l16 : lT K "look_at_rows" "look_at_rows" (top 30) f16 oc16 od16 an16 sq16 kV16 dc16 pm16 cd16 ct16) (g16 : cT K cd16 "look_at_rows") (k16 : kT K f16) (a17 : aT K "given_for_one" f17) (l17 : lT K "given_for_one" "given_for_one" (top 31) f17 oc17 od17 an17 sq17 kV17 dc17 pm17 cd17 ct17) (g17 : cT K cd17 "given_for_one") (k17 : kT K f17) (a18 : aT K "given_by" f18) (l18 : lT K "given_by" "given_by" (top 32) f18 oc18 od18 an18 sq18 kV18 dc18 pm18 cd18 ct18) (g18 : cT K cd18 "given_by") (k18 : kT K f18) (a19 : aT K "half_up" f19) (l19 : lT K "half_up" "half_up" (top 33) f19 oc19 od19 an19 sq19 kV19 dc19 pm19 cd19 ct19) (g19 : cT K cd19 "half_up") (k19 : kT K f19) (a20 : aT K "worth_of" f20) (l20 : lT K "worth_of" "worth_of" (top 34) f20 oc20 od20 an20 sq20 kV20 dc20 pm20 cd20 ct20) (g20 : cT K cd20 "worth_of") (k20 : kT K f20) (a21 : aT K "bound_of" f21) (l21 : lT K "bound_of" "bound_of" (top 35) f21 oc21 od21 an21 sq21 kV21 dc21 pm21 cd21 ct21) (g21 : cT K cd21 "bound_of") (k21 : kT K f21) (a22 : aT K "many_in" f22) (l22 : lT K "many_in" "many_in" (top 40) f22 oc22 od22 an22 sq22 kV22 dc22 pm22 cd22 ct22) (g22 : cT K cd22 "many_in") (k22 : kT K f22) (a23 : aT K "is_set" f23) (l23 : lT K "is_set" "is_set" (top 37) f23 oc23 od23 an23 sq23 kV23 dc23 pm23 cd23 ct23) (g23 : cT K cd23 "is_set") (k23 : kT K f23) (a24 : aT K "look_at_set" f24) (l24 : lT K "look_at_set" "look_at_set" (top 38) f24 oc24 od24 an24 sq24 kV24 dc24 pm24 cd24 ct24) (g24 : cT K cd24 "look_at_set") (k24 : kT K f24) (a25 : aT K "is_tight" f25) (l25 : lT K "is_tight" "is_tight" (top 41) f25 oc25 od25 an25 sq25 kV25 dc25 pm25 cd25 ct25) (g25 : cT K cd25 "is_tight") (k25 : kT K f25) (a26 : aT K "_law_begun" f26) (l26 : lT K "_law_begun" "_law_begun" (top 43) f26 oc26 od26 an26 sq26 kV26 dc26 pm26 cd26 ct26) (g26 : cT K cd26 "_law_begun") (k26 : kT K f26) (a27 : aT K "_law_take" f27) (l27 : lT K "_law_take" "_law_take" (top 44) f27 oc27 od27 an27 sq27 kV27 dc27 pm27 cd27 ct27) (g27 : cT K cd27 "_law_take") (k27 : kT K f27) (a28 : aT K "_law_places" f28) (l28 : lT K "_law_places" "_law_places" (top 45) f28 oc28 od28 an28 sq28 kV28 dc28 pm28 cd28 ct28) (g28 : cT K cd28 "_law_places") (k28 : kT K f28) (a29 : aT K "_law_web" f29) (l29 : lT K "_law_web" "_law_web" (top 46) f29 oc29 od29 an29 sq29 kV29 dc29 pm29 cd29 ct29) (g29 : cT K cd29 "_law_web") (k29 : kT K f29) (a30 : aT K "_law_near" f30) (l30 : lT K "_law_near" "_law_near" (top 47) f30 oc30 od30 an30 sq30 kV30 dc30 pm30 cd30 ct30) (g30 : cT K cd30 "_law_near") (k30 : kT K f30) (a31 : aT K "_law_all" f31) (l31 : lT K "_law_all" "_law_all" (top 48) f31 oc31 od31 an31 sq31 kV31 dc31 pm31 cd31 ct31) (g31 : cT K cd31 "_law_all") (k31 : kT K f31) (a32 : aT K "_law_ring" f32) (l32 : lT K "_law_ring" "_law_ring" (top 49) f32 oc32 od32 an32 sq32 kV32 dc32 pm32 cd32 ct32) (g32 : cT K cd32 "_law_ring") (k32 : kT K f32) (a33 : aT K "_law_row" f33) (l33 : lT K "_law_row" "_law_row" (top 50) f33 oc33 od33 an33 sq33 kV33 dc33 pm33 cd33 ct33) (g33 : cT K cd33 "_law_row") (k33 : kT K f33) (a34 : aT K "_law_rows" f34) (l34 : lT K "_law_rows" "_law_rows" (top 51) f34 oc34 od34 an34 sq34 kV34 dc34 pm34 cd34 ct34) (g34 : cT K cd34 "_law_rows") (k34 : kT K f34) (a35 : aT K "_law_sets" f35) (l35 : lT K "_law_sets" "_law_sets" (top 52) f35 oc35 od35 an35 sq35 kV35 dc35 pm35 cd35 ct35) (g35 : cT K cd35 "_law_sets") (k35 : kT K f35) (a36 : aT K "_law_touching" f36) (l36 : lT K "_law_touching" "_law_touching" (top 53) f36 oc36 od36 an36 sq36 kV36 dc36 pm36 cd36 ct36) (g36 : cT K cd36 "_law_touching") (k36 : kT K f36) (a37 : aT K "_law_cost" f37) (l37 : lT K "_law_cost" "_law_cost" (top 54) f37 oc37 od37 an37 sq37 kV37 dc37 pm37 cd37 ct37) (g37 : cT K cd37 "_law_cost") (k37 : kT K f37) (a38 : aT K "_law_loose" f38) (l38 : lT K "_law_loose" "_law_loose" (top 55) f38 oc38 od38 an38 sq38 kV38 dc38 pm38 cd38 ct38) (g38 : cT K cd38 "_law_loose") (k38 : kT K f38) (a39 : aT K "_law_let_by" f39) (l39 : lT K "_law_let_by" "_law_let_by" (top 56) f39 oc39 od39 an39 sq39 kV39 dc39 pm39 cd39 ct39) (g39 : cT K cd39 "_law_let_by") (k39 : kT K f39) (a40 : aT K "_law_holds" f40) (l40 : lT K "_law_holds" "_law_holds" (top 57) f40 oc40 od40 an40 sq40 kV40 dc40 pm40 cd40 ct40) (g40 : cT K cd40 "_law_holds") (k40 : kT K f40) (a41 : aT K "law" f41) (l41 : lT K "law" "law" (top 58) f41 oc41 od41 an41 sq41 kV41 dc41 pm41 cd41 ct41) (g41 : cT K cd41 "law") (k41 : kT K f41) (z_len : zT K "len") (z_isinstance : zT K "isinstance") (z_all : zT K "all") (z_min : zT K "min") (z_list : zT K "list") (z_dict : zT K "dict") (z_int : zT K "int") (z_bool : zT K "bool") (z_str : zT K "str") (z_tuple : zT K "tuple") (z_range : zT K "range") (z_enumerate : zT K "enumerate") (z_zip : zT K "zip") (z_max : zT K "max") (z_any : zT K "any") (z_sum : zT K "sum") (z_sorted : zT K "sorted") (z_set : zT K "set") (n_MOST_PLACES : PySem.W.nsIn K mainGlobals "MOST_PLACES" = some (some (.int 40 c1))) (n_MOST_TIES : PySem.W.nsIn K mainGlobals "MOST_TIES" = some (some (.int 120 c2))) (n_LAST_PLACE : PySem.W.nsIn K mainGlobals "LAST_PLACE" = some (some (.int 999 c3))) (n_MOST_PRICE : PySem.W.nsIn K mainGlobals "MOST_PRICE" = some (some (.int 1000000000000 c4))) (a_NoWeb : aT K "NoWeb" C_NoWeb) (l_NoWeb : K.lookup C_NoWeb = some ⟨oc_NoWeb, od_NoWeb, .cls cd_NoWeb, sl_NoWeb⟩) (i_NoWeb : PySem.W.nsIn K cd_NoWeb.ns "__init__" = some (some (.ref fI_NoWeb))) (li_NoWeb : lT K "__init__" "NoWeb.__init__" (meth 2 0) fI_NoWeb oci_NoWeb odi_NoWeb ani_NoWeb sli_NoWeb kVi_NoWeb dci_NoWeb pmi_NoWeb cdi_NoWeb cti_NoWeb) (ci_NoWeb : PySem.W.codeIn K cdi_NoWeb "NoWeb.__init__" = true) (ki_NoWeb : PySem.W.keepIn K (.ref fI_NoWeb) = true) (x_NoWeb : xinIn K C_NoWeb bmV "ValueError.__new__" fI_NoWeb = true) (kp_NoWeb : PySem.W.keepIn K (.ref C_NoWeb) = true) (fn_NoWeb : PySem.W.typeIn K (.ref fI_NoWeb) = some (.type "function")) (ch_NoWeb : (refsThen bmV cd_NoWeb.mro && cd_NoWeb.hasDict && !cd_NoWeb.mro.isEmpty) = true) (sa_NoWeb : PySem.W.findIn K (.ref C_NoWeb) "__setattr__" = some (some (.builtin "object.__setattr__"))) (ga_NoWeb : PySem.W.findIn K (.ref C_NoWeb) "__getattribute__" = some (some (.builtin "BaseException.__getattribute__"))) (gt_NoWeb : PySem.W.findIn K (.ref C_NoWeb) "__getattr__" = some none) (sb_NoWeb : PySem.W.mroIn K C_NoWeb (.type "BaseException") = some true) (f_NoWeb_part : PySem.W.findIn K (.ref C_NoWeb) "part" = some none) (f_NoWeb_number : PySem.W.findIn K (.ref C_NoWeb) "number" = some none) (hd_NoWeb : PySem.W.hasDictIn K C_NoWeb = true) (ha_NoWeb : PySem.W.findIn K (.ref C_NoWeb) "__class__" = some (some (.builtin "object.__class__"))) (hm_NoWeb : PySem.W.mroIn K C_NoWeb (.type "object") = some true) (a_NoRows : aT K "NoRows" C_NoRows) (l_NoRows : K.lookup C_NoRows = some ⟨oc_NoRows, od_NoRows, .cls cd_NoRows, sl_NoRows⟩) (i_NoRows : PySem.W.nsIn K cd_NoRows.ns "__init__" = some (some (.ref fI_NoRows))) (li_NoRows : lT K "__init__" "NoRows.__init__" (meth 3 0) fI_NoRows oci_NoRows odi_NoRows ani_NoRows sli_NoRows kVi_NoRows dci_NoRows pmi_NoRows cdi_NoRows cti_NoRows) (ci_NoRows : PySem.W.codeIn K cdi_NoRows "NoRows.__init__" = true) (ki_NoRows : PySem.W.keepIn K (.ref fI_NoRows) = true) (x_NoRows : xinIn K C_NoRows bmV "ValueError.__new__" fI_NoRows = true) (kp_NoRows : PySem.W.keepIn K (.ref C_NoRows) = true) (fn_NoRows : PySem.W.typeIn K (.ref fI_NoRows) = some (.type "function")) (ch_NoRows : (refsThen bmV cd_NoRows.mro && cd_NoRows.hasDict && !cd_NoRows.mro.isEmpty) = true) (sa_NoRows : PySem.W.findIn K (.ref C_NoRows) "__setattr__" = some (some (.builtin "object.__setattr__"))) (ga_NoRows : PySem.W.findIn K (.ref C_NoRows) "__getattribute__" = some (some (.builtin "BaseException.__getattribute__"))) (gt_NoRows : PySem.W.findIn K (.ref C_NoRows) "__getattr__" = some none) (sb_NoRows : PySem.W.mroIn K C_NoRows (.type "BaseException") = some true) (f_NoRows_number : PySem.W.findIn K (.ref C_NoRows) "number" = some none) (hd_NoRows : PySem.W.hasDictIn K C_NoRows = true) (ha_NoRows : PySem.W.findIn K (.ref C_NoRows) "__class__" = some (some (.builtin "object.__class__"))) (hm_NoRows : PySem.W.mroIn K C_NoRows (.type "object") = some true) (a_Overpaid : aT K "Overpaid" C_Overpaid) (l_Overpaid : K.lookup C_Overpaid = some ⟨oc_Overpaid, od_Overpaid, .cls cd_Overpaid, sl_Overpaid⟩) (i_Overpaid : PySem.W.nsIn K cd_Overpaid.ns "__init__" = some (some (.ref fI_Overpaid))) (li_Overpaid : lT K "__init__" "Overpaid.__init__" (meth 4 0) fI_Overpaid oci_Overpaid odi_Overpaid ani_Overpaid sli_Overpaid kVi_Overpaid dci_Overpaid pmi_Overpaid cdi_Overpaid cti_Overpaid) (ci_Overpaid : PySem.W.codeIn K cdi_Overpaid "Overpaid.__init__" = true) (ki_Overpaid : PySem.W.keepIn K (.ref fI_Overpaid) = true) (x_Overpaid : xinIn K C_Overpaid bmV "ValueError.__new__" fI_Overpaid = true) (kp_Overpaid : PySem.W.keepIn K (.ref C_Overpaid) = true) (fn_Overpaid : PySem.W.typeIn K (.ref fI_Overpaid) = some (.type "function")) (ch_Overpaid : (refsThen bmV cd_Overpaid.mro && cd_Overpaid.hasDict && !cd_Overpaid.mro.isEmpty) = true) (sa_Overpaid : PySem.W.findIn K (.ref C_Overpaid) "__setattr__" = some (some (.builtin "object.__setattr__"))) (ga_Overpaid : PySem.W.findIn K (.ref C_Overpaid) "__getattribute__" = some (some (.builtin "BaseException.__getattribute__"))) (gt_Overpaid : PySem.W.findIn K (.ref C_Overpaid) "__getattr__" = some none) (sb_Overpaid : PySem.W.mroIn K C_Overpaid (.type "BaseException") = some true) (f_Overpaid_place : PySem.W.findIn K (.ref C_Overpaid) "place" = some none) (hd_Overpaid : PySem.W.hasDictIn K C_Overpaid = true) (ha_Overpaid : PySem.W.findIn K (.ref C_Overpaid) "__class__" = some (some (.builtin "object.__class__"))) (hm_Overpaid : PySem.W.mroIn K C_Overpaid (.type "object") = some true) (hn_cls : PySem.W.specialIn K (.builtin "object.__class__") "__get__" = some (some (.builtin "getset_descriptor.__get__"))) (ht_cls : PySem.W.takesIn K (.builtin "object.__class__") = some true) (a_T : PySem.W.nsIn K mainGlobals "TouchError" = some (some (.ref T))) (rd_T : PySem.W.readsIn K T (.type "type") = true) (sp_T : PySem.W.specialIn K (.ref T) "__getattribute__" = some (some (.builtin "type.__getattribute__"))) (at_T : PySem.W.findCls K (.ref T) (.type "type") "__init__" = some (.val (.builtin iid))) (iid_T : iid = "ValueError.__init__") (hd_T : PySem.W.handedIn (.builtin "ValueError.__init__") = true) (q_T : PySem.W.excIn K T bmV "ValueError.__new__" = true) (n_MR : PySem.W.nsIn K mainGlobals "MOST_ROWS" = some (some (.int 200 c5))) (xm1 : PySem.W.exmAny K (.ref C_NoRows) [.ref C_NoRows, .ref C_Overpaid] = some true) (xm2 : PySem.W.exmAny K (.ref C_Overpaid) [.ref C_NoRows, .ref C_Overpaid] = some true)
    : ∃ fd : FuncData, (∀ (s : Shared) (v : Value), BindsTo s fd ⟨[v], []⟩ [("_law_script", v)]) ∧ ∀ base : Heap, K.In base → base.Ns mainGlobals mg → FnOk l.prog w K mg base CX0 11 fa fd ["_law_script"] (spLaw K) := by
  have e := hfa.symm.trans (PySem.W.mg_of X G a41)
  cases e
  have B : Blt mg := ⟨PySem.W.mg_none_of X G z_len, PySem.W.mg_none_of X G z_isinstance, PySem.W.mg_none_of X G z_all, PySem.W.mg_none_of X G z_min, PySem.W.mg_none_of X G z_list, PySem.W.mg_none_of X G z_dict, PySem.W.mg_none_of X G z_int, PySem.W.mg_none_of X G z_bool, PySem.W.mg_none_of X G z_str, PySem.W.mg_none_of X G z_tuple, PySem.W.mg_none_of X G z_range, PySem.W.mg_none_of X G z_enumerate, PySem.W.mg_none_of X G z_zip, PySem.W.mg_none_of X G z_max, PySem.W.mg_none_of X G z_any, PySem.W.mg_none_of X G z_sum, PySem.W.mg_none_of X G z_sorted, PySem.W.mg_none_of X G z_set⟩
  have C : Cst mg c1 c2 c3 c4 := ⟨PySem.W.mg_of X G n_MOST_PLACES, PySem.W.mg_of X G n_MOST_TIES, PySem.W.mg_of X G n_LAST_PLACE, PySem.W.mg_of X G n_MOST_PRICE⟩
  have D_is_whole := dmk X G a0 l0 g0 k0 ["thing"] ((fun_mk l0 g0 k0).binds fun _ _ _ _ _ _ us hl => match us, hl with | [_], _ => rfl)
  have D_is_tuple_of := dmk X G a1 l1 g1 k1 ["thing", "many"] ((fun_mk l1 g1 k1).binds fun _ _ _ _ _ _ us hl => match us, hl with | [_, _], _ => rfl)
  have D_is_pair_of_wholes := dmk X G a2 l2 g2 k2 ["thing"] ((fun_mk l2 g2 k2).binds fun _ _ _ _ _ _ us hl => match us, hl with | [_], _ => rfl)
  have D_is_list_up_to := dmk X G a3 l3 g3 k3 ["thing", "most"] ((fun_mk l3 g3 k3).binds fun _ _ _ _ _ _ us hl => match us, hl with | [_, _], _ => rfl)
  have D_place_stands := dmk X G a4 l4 g4 k4 ["thing", "last", "spent"] ((fun_mk l4 g4 k4).binds fun _ _ _ _ _ _ us hl => match us, hl with | [_, _, _], _ => rfl)
  have D_tie_stands := dmk X G a5 l5 g5 k5 ["thing", "last", "prices"] ((fun_mk l5 g5 k5).binds fun _ _ _ _ _ _ us hl => match us, hl with | [_, _, _], _ => rfl)
  have D_look_at_places := dmk X G a6 l6 g6 k6 ["places"] ((fun_mk l6 g6 k6).binds fun _ _ _ _ _ _ us hl => match us, hl with | [_], _ => rfl)
  have D_look_at_ties := dmk X G a7 l7 g7 k7 ["ties", "prices"] ((fun_mk l7 g7 k7).binds fun _ _ _ _ _ _ us hl => match us, hl with | [_, _], _ => rfl)
  have D_look_at_web := dmk X G a8 l8 g8 k8 ["thing"] ((fun_mk l8 g8 k8).binds fun _ _ _ _ _ _ us hl => match us, hl with | [_], _ => rfl)
  have D_nears_in := dmk X G a9 l9 g9 k9 ["web"] ((fun_mk l9 g9 k9).binds fun _ _ _ _ _ _ us hl => match us, hl with | [_], _ => rfl)
  have D_is_place := dmk X G a10 l10 g10 k10 ["prices", "thing"] ((fun_mk l10 g10 k10).binds fun _ _ _ _ _ _ us hl => match us, hl with | [_, _], _ => rfl)
  have D_are_places := dmk X G a11 l11 g11 k11 ["prices", "things"] ((fun_mk l11 g11 k11).binds fun _ _ _ _ _ _ us hl => match us, hl with | [_, _], _ => rfl)
  have D_is_all := dmk X G a12 l12 g12 k12 ["nears", "places"] ((fun_mk l12 g12 k12).binds fun _ _ _ _ _ _ us hl => match us, hl with | [_, _], _ => rfl)
  have D_is_ring := dmk X G a13 l13 g13 k13 ["nears", "places"] ((fun_mk l13 g13 k13).binds fun _ _ _ _ _ _ us hl => match us, hl with | [_, _], _ => rfl)
  have D_is_row := dmk X G a14 l14 g14 k14 ["nears", "thing"] ((fun_mk l14 g14 k14).binds fun _ _ _ _ _ _ us hl => match us, hl with | [_, _], _ => rfl)
  have D_paid_by := dmk X G a15 l15 g15 k15 ["rows"] ((fun_mk l15 g15 k15).binds fun _ _ _ _ _ _ us hl => match us, hl with | [_], _ => rfl)
  have D_look_at_rows := dmk X G a16 l16 g16 k16 ["web", "thing"] ((fun_mk l16 g16 k16).binds fun _ _ _ _ _ _ us hl => match us, hl with | [_, _], _ => rfl)
  have D_given_for_one := dmk X G a17 l17 g17 k17 ["row"] ((fun_mk l17 g17 k17).binds fun _ _ _ _ _ _ us hl => match us, hl with | [_], _ => rfl)
  have D_given_by := dmk X G a18 l18 g18 k18 ["rows"] ((fun_mk l18 g18 k18).binds fun _ _ _ _ _ _ us hl => match us, hl with | [_], _ => rfl)
  have D_half_up := dmk X G a19 l19 g19 k19 ["worth"] ((fun_mk l19 g19 k19).binds fun _ _ _ _ _ _ us hl => match us, hl with | [_], _ => rfl)
  have D_worth_of := dmk X G a20 l20 g20 k20 ["web", "rows"] ((fun_mk l20 g20 k20).binds fun _ _ _ _ _ _ us hl => match us, hl with | [_, _], _ => rfl)
  have D_bound_of := dmk X G a21 l21 g21 k21 ["web", "rows"] ((fun_mk l21 g21 k21).binds fun _ _ _ _ _ _ us hl => match us, hl with | [_, _], _ => rfl)
  have D_many_in := dmk X G a22 l22 g22 k22 ["places", "some"] ((fun_mk l22 g22 k22).binds fun _ _ _ _ _ _ us hl => match us, hl with | [_, _], _ => rfl)
  have D_is_set := dmk X G a23 l23 g23 k23 ["web", "thing"] ((fun_mk l23 g23 k23).binds fun _ _ _ _ _ _ us hl => match us, hl with | [_, _], _ => rfl)
  have D_look_at_set := dmk X G a24 l24 g24 k24 ["web", "thing"] ((fun_mk l24 g24 k24).binds fun _ _ _ _ _ _ us hl => match us, hl with | [_, _], _ => rfl)
  have D_is_tight := dmk X G a25 l25 g25 k25 ["web", "rows", "some"] ((fun_mk l25 g25 k25).binds fun _ _ _ _ _ _ us hl => match us, hl with | [_, _, _], _ => rfl)
  have D_law_begun := dmk X G a26 l26 g26 k26 ["_law_script", "_law_k"] ((fun_mk l26 g26 k26).binds fun _ _ _ _ _ _ us hl => match us, hl with | [_, _], _ => rfl)
  have D_law_take := dmk X G a27 l27 g27 k27 ["_law_state", "_law_many"] ((fun_mk l27 g27 k27).binds fun _ _ _ _ _ _ us hl => match us, hl with | [_, _], _ => rfl)
  have D_law_places := dmk X G a28 l28 g28 k28 ["_law_state", "_law_count"] ((fun_mk l28 g28 k28).binds fun _ _ _ _ _ _ us hl => match us, hl with | [_, _], _ => rfl)
  have D_law_web := dmk X G a29 l29 g29 k29 ["_law_state", "_law_most"] ((fun_mk l29 g29 k29).binds fun _ _ _ _ _ _ us hl => match us, hl with | [_, _], _ => rfl)
  have D_law_near := dmk X G a30 l30 g30 k30 ["_law_web_here"] ((fun_mk l30 g30 k30).binds fun _ _ _ _ _ _ us hl => match us, hl with | [_], _ => rfl)
  have D_law_all := dmk X G a31 l31 g31 k31 ["_law_state", "_law_book", "_law_places_here"] ((fun_mk l31 g31 k31).binds fun _ _ _ _ _ _ us hl => match us, hl with | [_, _, _], _ => rfl)
  have D_law_ring := dmk X G a32 l32 g32 k32 ["_law_state", "_law_book", "_law_places_here"] ((fun_mk l32 g32 k32).binds fun _ _ _ _ _ _ us hl => match us, hl with | [_, _, _], _ => rfl)
  have D_law_row := dmk X G a33 l33 g33 k33 ["_law_state", "_law_web_here", "_law_book", "_law_paid"] ((fun_mk l33 g33 k33).binds fun _ _ _ _ _ _ us hl => match us, hl with | [_, _, _, _], _ => rfl)
  have D_law_rows := dmk X G a34 l34 g34 k34 ["_law_state", "_law_web_here", "_law_most"] ((fun_mk l34 g34 k34).binds fun _ _ _ _ _ _ us hl => match us, hl with | [_, _, _], _ => rfl)
  have D_law_sets := dmk X G a35 l35 g35 k35 ["_law_places_here"] ((fun_mk l35 g35 k35).binds fun _ _ _ _ _ _ us hl => match us, hl with | [_], _ => rfl)
  have D_law_touching := dmk X G a36 l36 g36 k36 ["_law_web_here"] ((fun_mk l36 g36 k36).binds fun _ _ _ _ _ _ us hl => match us, hl with | [_], _ => rfl)
  have D_law_cost := dmk X G a37 l37 g37 k37 ["_law_web_here", "_law_some"] ((fun_mk l37 g37 k37).binds fun _ _ _ _ _ _ us hl => match us, hl with | [_, _], _ => rfl)
  have D_law_loose := dmk X G a38 l38 g38 k38 ["_law_state", "_law_rows_here", "_law_web_here"] ((fun_mk l38 g38 k38).binds fun _ _ _ _ _ _ us hl => match us, hl with | [_, _, _], _ => rfl)
  have D_law_let_by := dmk X G a39 l39 g39 k39 ["_law_web_here", "_law_rows_here"] ((fun_mk l39 g39 k39).binds fun _ _ _ _ _ _ us hl => match us, hl with | [_, _], _ => rfl)
  have D_law_holds := dmk X G a40 l40 g40 k40 ["_law_web_here", "_law_rows_here", "_law_sets_here"] ((fun_mk l40 g40 k40).binds fun _ _ _ _ _ _ us hl => match us, hl with | [_, _, _], _ => rfl)
  have D_law := dmk X G a41 l41 g41 k41 ["_law_script"] ((fun_mk l41 g41 k41).binds fun _ _ _ _ _ _ us hl => match us, hl with | [_], _ => rfl)
  refine ⟨PySem.W.fnOf "law" "law" (defArgs (top 58)) (defBody (top 58)) (defScope (top 58)) .none kV41 dc41 pm41 an41 cd41 ct41, fun s v => .of_eq rfl, fun base _ _ => ?_⟩
  have X_NoWeb : ClsX K mg "NoWeb" C_NoWeb fI_NoWeb := ⟨PySem.W.mg_of X G a_NoWeb, kp_NoWeb, x_NoWeb, fn_NoWeb, ⟨⟨cd_NoWeb, by unfold PySem.W.clsIn; rw [l_NoWeb], by
    simp only [Bool.and_eq_true, Bool.not_eq_true'] at ch_NoWeb
    exact ⟨ch_NoWeb.1.1, ch_NoWeb.1.2, ch_NoWeb.2⟩⟩, sa_NoWeb⟩, ⟨⟨ga_NoWeb, gt_NoWeb, sb_NoWeb⟩, hd_NoWeb, ha_NoWeb, hn_cls, ht_cls, hm_NoWeb⟩⟩
  have FI_NoWeb := fun_mk (x := "__init__") (qual := "NoWeb.__init__") (st := meth 2 0) li_NoWeb ci_NoWeb ki_NoWeb
  have bI_NoWeb := FI_NoWeb.binds (ps := ["self", "part", "number"]) fun _ _ _ _ _ _ us hl => match us, hl with | [_, _, _], _ => rfl
  have DI_NoWeb : InitAt K "NoWeb.__init__" (meth 2 0) ["self", "part", "number"] _ _ := ⟨FI_NoWeb, bI_NoWeb⟩
  have X_NoRows : ClsX K mg "NoRows" C_NoRows fI_NoRows := ⟨PySem.W.mg_of X G a_NoRows, kp_NoRows, x_NoRows, fn_NoRows, ⟨⟨cd_NoRows, by unfold PySem.W.clsIn; rw [l_NoRows], by
    simp only [Bool.and_eq_true, Bool.not_eq_true'] at ch_NoRows
    exact ⟨ch_NoRows.1.1, ch_NoRows.1.2, ch_NoRows.2⟩⟩, sa_NoRows⟩, ⟨⟨ga_NoRows, gt_NoRows, sb_NoRows⟩, hd_NoRows, ha_NoRows, hn_cls, ht_cls, hm_NoRows⟩⟩
  have FI_NoRows := fun_mk (x := "__init__") (qual := "NoRows.__init__") (st := meth 3 0) li_NoRows ci_NoRows ki_NoRows
  have bI_NoRows := FI_NoRows.binds (ps := ["self", "number"]) fun _ _ _ _ _ _ us hl => match us, hl with | [_, _], _ => rfl
  have DI_NoRows : InitAt K "NoRows.__init__" (meth 3 0) ["self", "number"] _ _ := ⟨FI_NoRows, bI_NoRows⟩
  have X_Overpaid : ClsX K mg "Overpaid" C_Overpaid fI_Overpaid := ⟨PySem.W.mg_of X G a_Overpaid, kp_Overpaid, x_Overpaid, fn_Overpaid, ⟨⟨cd_Overpaid, by unfold PySem.W.clsIn; rw [l_Overpaid], by
    simp only [Bool.and_eq_true, Bool.not_eq_true'] at ch_Overpaid
    exact ⟨ch_Overpaid.1.1, ch_Overpaid.1.2, ch_Overpaid.2⟩⟩, sa_Overpaid⟩, ⟨⟨ga_Overpaid, gt_Overpaid, sb_Overpaid⟩, hd_Overpaid, ha_Overpaid, hn_cls, ht_cls, hm_Overpaid⟩⟩
  have FI_Overpaid := fun_mk (x := "__init__") (qual := "Overpaid.__init__") (st := meth 4 0) li_Overpaid ci_Overpaid ki_Overpaid
  have bI_Overpaid := FI_Overpaid.binds (ps := ["self", "place"]) fun _ _ _ _ _ _ us hl => match us, hl with | [_, _], _ => rfl
  have DI_Overpaid : InitAt K "Overpaid.__init__" (meth 4 0) ["self", "place"] _ _ := ⟨FI_Overpaid, bI_Overpaid⟩
  have m_T := PySem.W.mg_of X G a_T
  have xi : XI K T "ValueError.__init__" := ⟨rd_T, sp_T, iid_T ▸ at_T, hd_T⟩
  have hMX : ∀ cl : Value, (cl = .ref C_NoRows ∨ cl = .ref C_Overpaid) → PySem.W.exmAny K cl [.ref C_NoRows, .ref C_Overpaid] = some true := fun cl e => by
    rcases e with rfl | rfl
    · exact xm1
    · exact xm2
  have G_is_whole := ok_is_whole (P := l.prog) (w := w) (base := base) B D_is_whole
  have G_is_tuple_of := ok_is_tuple_of (P := l.prog) (w := w) (base := base) B D_is_tuple_of
  have G_is_list_up_to := ok_is_list_up_to (P := l.prog) (w := w) (base := base) B D_is_list_up_to
  have G_is_pair_of_wholes := ok_is_pair_of_wholes (P := l.prog) (w := w) (base := base) B D_is_pair_of_wholes D_is_tuple_of G_is_tuple_of D_is_whole G_is_whole
  have G_place_stands := ok_place_stands (P := l.prog) (w := w) (base := base) B C D_place_stands D_is_pair_of_wholes G_is_pair_of_wholes
  have G_tie_stands := ok_tie_stands (P := l.prog) (w := w) (base := base) B D_tie_stands D_is_pair_of_wholes G_is_pair_of_wholes
  have GI_NoWeb := ok_init_NoWeb (P := l.prog) (w := w) (base := base) DI_NoWeb X_NoWeb m_T xi f_NoWeb_part f_NoWeb_number
  have GI_NoRows := ok_init_NoRows (P := l.prog) (w := w) (base := base) DI_NoRows X_NoRows m_T xi f_NoRows_number
  have GI_Overpaid := ok_init_Overpaid (P := l.prog) (w := w) (base := base) DI_Overpaid X_Overpaid m_T xi f_Overpaid_place
  have G_look_at_places := ok_look_at_places (P := l.prog) (w := w) (base := base) B C D_look_at_places D_is_list_up_to G_is_list_up_to D_place_stands G_place_stands X_NoWeb DI_NoWeb GI_NoWeb
  have G_look_at_ties := ok_look_at_ties (P := l.prog) (w := w) (base := base) B C D_look_at_ties D_is_list_up_to G_is_list_up_to D_tie_stands G_tie_stands X_NoWeb DI_NoWeb GI_NoWeb
  have G_look_at_web := ok_look_at_web (P := l.prog) (w := w) (base := base) B D_look_at_web D_is_tuple_of G_is_tuple_of D_look_at_places G_look_at_places D_look_at_ties G_look_at_ties X_NoWeb DI_NoWeb GI_NoWeb
  have G_nears_in := ok_nears_in (P := l.prog) (w := w) (base := base) B D_nears_in
  have G_is_place := ok_is_place (P := l.prog) (w := w) (base := base) B D_is_place D_is_whole G_is_whole
  have G_are_places := ok_are_places (P := l.prog) (w := w) (base := base) B D_are_places D_is_place G_is_place
  have G_is_all := ok_is_all (P := l.prog) (w := w) (base := base) B D_is_all
  have G_is_ring := ok_is_ring (P := l.prog) (w := w) (base := base) B D_is_ring
  have G_is_row := ok_is_row (P := l.prog) (w := w) (base := base) B D_is_row D_is_tuple_of G_is_tuple_of D_is_whole G_is_whole D_are_places G_are_places D_is_all G_is_all D_is_ring G_is_ring
  have G_paid_by := ok_paid_by (P := l.prog) (w := w) (base := base) B D_paid_by
  have G_look_at_rows := ok_look_at_rows (P := l.prog) (w := w) (base := base) B D_look_at_rows D_look_at_web G_look_at_web D_is_list_up_to G_is_list_up_to D_nears_in G_nears_in D_is_row G_is_row D_paid_by G_paid_by (PySem.W.mg_of X G n_MR) X_NoRows DI_NoRows GI_NoRows X_Overpaid DI_Overpaid GI_Overpaid
  have G_law_begun := ok_law_begun (P := l.prog) (w := w) (base := base) B D_law_begun
  have G_law_take := ok_law_take (P := l.prog) (w := w) (base := base) B D_law_take
  have G_law_places := ok_law_places (P := l.prog) (w := w) (base := base) B D_law_places D_law_take G_law_take
  have G_law_web := ok_law_web (P := l.prog) (w := w) (base := base) B D_law_web D_law_take G_law_take D_law_places G_law_places
  have G_law_near := ok_law_near (P := l.prog) (w := w) (base := base) B D_law_near
  have G_law_all := ok_law_all (P := l.prog) (w := w) (base := base) B D_law_all D_law_take G_law_take
  have G_law_ring := ok_law_ring (P := l.prog) (w := w) (base := base) B D_law_ring D_law_take G_law_take
  have G_law_row := ok_law_row (P := l.prog) (w := w) (base := base) B D_law_row D_law_take G_law_take D_law_all G_law_all D_law_ring G_law_ring
  have G_law_rows := ok_law_rows (P := l.prog) (w := w) (base := base) B D_law_rows D_law_near G_law_near D_law_take G_law_take D_law_row G_law_row
  have G_given_for_one := ok_given_for_one (P := l.prog) (w := w) (base := base) B D_given_for_one
  have G_given_by := ok_given_by (P := l.prog) (w := w) (base := base) B D_given_by D_given_for_one G_given_for_one
  have G_half_up := ok_half_up (P := l.prog) (w := w) (base := base) B D_half_up
  have G_many_in := ok_many_in (P := l.prog) (w := w) (base := base) B D_many_in
  have G_worth_of := ok_worth_of (P := l.prog) (w := w) (base := base) B D_worth_of D_look_at_rows G_look_at_rows D_given_by G_given_by
  have G_bound_of := ok_bound_of (P := l.prog) (w := w) (base := base) B D_bound_of D_worth_of G_worth_of D_half_up G_half_up
  have G_law_let_by := ok_law_let_by (P := l.prog) (w := w) (base := base) B D_law_let_by D_bound_of G_bound_of X_NoRows.m X_Overpaid.m hMX
  have G_lwg := good lw_good G_look_at_web
  have G_lrg := good lr_good G_look_at_rows
  have G_wog := good worth_good G_worth_of
  have G_is_set := ok_is_set (P := l.prog) (w := w) (base := base) B D_is_set D_look_at_web G_lwg D_is_place G_is_place
  have G_look_at_set := ok_look_at_set (P := l.prog) (w := w) (base := base) B D_look_at_set D_is_set G_is_set
  have G_is_tight := ok_is_tight (P := l.prog) (w := w) (base := base) B D_is_tight D_look_at_rows G_lrg D_look_at_set G_look_at_set D_paid_by G_paid_by D_many_in G_many_in D_given_for_one G_given_for_one
  have G_law_sets := ok_law_sets (P := l.prog) (w := w) (base := base) B D_law_sets
  have G_law_touching := ok_law_touching (P := l.prog) (w := w) (base := base) B D_law_touching D_law_sets G_law_sets
  have G_law_cost := ok_law_cost (P := l.prog) (w := w) (base := base) B D_law_cost
  have G_law_loose := ok_law_loose (P := l.prog) (w := w) (base := base) B D_law_loose D_law_take G_law_take
  have G_law_holds := ok_law_holds (P := l.prog) (w := w) (base := base) B D_law_holds D_law_let_by G_law_let_by D_worth_of G_wog D_law_cost G_law_cost D_is_tight G_is_tight
  exact ok_law B D_law D_law_begun G_law_begun D_law_web G_law_web D_law_touching G_law_touching D_law_rows G_law_rows D_law_let_by G_law_let_by D_law_holds G_law_holds D_law_loose G_law_loose D_law_take G_law_take
theorem walk {l : PySem.W.OpenLaw} {q : Program} {loose : List Str} {XP : (Str → Option Value) → Heap → Prop} {YP : World → Heap → Prop} {d : DefRec} {K : Params → PySem.W.Frag} (hn : l.most = some 63) (hdf : d.params.defaults = [])
    (hY : ∀ (w : World) (h : Heap), YP w h → (K w.params).In h)
    (F : ∀ (w : World) (mg : Str → Option Value) (fa : Addr) (h : Heap), (K w.params).In h → h.Ns mainGlobals mg → mg d.name = some (.ref fa) →
      ∃ fd : FuncData, (∀ (s : Shared) (u : Value), BindsTo s fd ⟨[u], []⟩ [("_law_script", u)]) ∧ ∀ base : Heap, (K w.params).In base → base.Ns mainGlobals mg → FnOk l.prog w (K w.params) mg base CX0 11 fa fd ["_law_script"] (spLaw (K w.params))) :
    PySem.W.WalkO q loose XP YP l.row.toRowW d [] (fun f vs => PySem.call f vs) :=
  L2.walk_of (n := 63) (k := 11) (x := "_law_script") (CX := fun _ => CX0) (sp := fun w => spLaw (K w.params)) hn (by decide) hdf ⟨rfl, by decide, by decide⟩ hY F (fun _ _ a ns hl hO hS => ⟨a, ns, rfl, Scr.of hS hO, fun _ => rfl⟩) fun _ _ _ _ _ z => z
end My
open PySem PySem.W PyProof.Rows
set_option maxRecDepth 100000 in
set_option maxHeartbeats 0 in
theorem PySem.Challenge.cw_touchall_k19_whole_none_costs_less_holds : PySem.Challenge.rw_touchall_k19_whole_none_costs_less.Holds := by
  refine MyHead ?_
  k_fill
  refine My.walk (l := PySem.Challenge.rw_touchall_k19_whole_none_costs_less) rfl rfl (fun w h Y => PySem.W.kIn_of Y) ?F
  case F =>
    intro w mg fa h KX G hmg
    refine' My.all_mk KX G hmg ?_ ?_ ?_ ?_ ?_ ?_ ?_ ?_ ?_ ?_ ?_ ?_ ?_ ?_ ?_ ?_ ?_ ?_ ?_ ?_ ?_ ?_ ?_ ?_ ?_ ?_ ?_ ?_ ?_ ?_ ?_ ?_ ?_ ?_ ?_ ?_ ?_ ?_ ?_ ?_ ?_ ?_ ?_ ?_ ?_ ?_ ?_ ?_ ?_ ?_ ?_ ?_ ?_ ?_ ?_ ?_ ?_ ?_ ?_ ?_ ?_ ?_ ?_ ?_ ?_ ?_ ?_ ?_ ?_ ?_ ?_ ?_ ?_ ?_ ?_ ?_ ?_ ?_ ?_ ?_ ?_ ?_ ?_ ?_ ?_ ?_ ?_ ?_ ?_ ?_ ?_ ?_ ?_ ?_ ?_ ?_ ?_ ?_ ?_ ?_ ?_ ?_ ?_ ?_ ?_ ?_ ?_ ?_ ?_ ?_ ?_ ?_ ?_ ?_ ?_ ?_ ?_ ?_ ?_ ?_ ?_ ?_ ?_ ?_ ?_ ?_ ?_ ?_ ?_ ?_ ?_ ?_ ?_ ?_ ?_ ?_ ?_ ?_ ?_ ?_ ?_ ?_ ?_ ?_ ?_ ?_ ?_ ?_ ?_ ?_ ?_ ?_ ?_ ?_ ?_ ?_ ?_ ?_ ?_ ?_ ?_ ?_ ?_ ?_ ?_ ?_ ?_ ?_ ?_ ?_ ?_ ?_ ?_ ?_ ?_ ?_ ?_ ?_ ?_ ?_ ?_ ?_ ?_ ?_ ?_ ?_ ?_ ?_ ?_ ?_ ?_ ?_ ?_ ?_ ?_ ?_ ?_ ?_ ?_ ?_ ?_ ?_ ?_ ?_ ?_ ?_ ?_ ?_ ?_ ?_ ?_ ?_ ?_ ?_ ?_ ?_ ?_ ?_ ?_ ?_ ?_ ?_ ?_ ?_ ?_ ?_ ?_ ?_ ?_ ?_ ?_ ?_ ?_ ?_ ?_ ?_ ?_ ?_ ?_ ?_ ?_ ?_ ?_ ?_ ?_ ?_ ?_ ?_ ?_ ?_ ?_ ?_ ?_ ?_ ?_ ?_ ?_
    any_goals first | k_is | (delta My.aT; k_is) | (delta My.lT; k_is) | (delta My.cT; k_is) | (delta My.kT; k_is) | (delta My.zT; k_is) | kernel_rfl | rfl
#print axioms PySem.Challenge.cw_touchall_k19_whole_none_costs_less_holds
