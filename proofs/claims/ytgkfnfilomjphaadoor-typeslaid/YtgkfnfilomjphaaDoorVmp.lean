/-
  Maps keyed by texts: a block that holds just what a list of pairs tells (the first pair of a key counts), how it is made, kept, read and written.
-/
import Derived.Test.YtgkfnfilomjphaaDoorVba
import Derived.Maps.OwnSet
import Derived.Maps.OwnOps
import Derived.StringKeys
import Derived.Maps.OwnIn
namespace Go.Proofs.YtgkfnfilomjphaaDoor
set_option linter.unusedVariables false
set_option linter.unusedSimpArgs false
open Go.ChangeShapes Go.WideShapes Go.ChangeAt Go.RowKit Go.Maps

abbrev Bs := List UInt8
def look {α : Type} (L : List (Bs × α)) (k : Bs) : Option α := (L.find? (·.1 == k)).map (·.2)
theorem look_cons {α : Type} (x : Bs × α) (L : List (Bs × α)) (k : Bs) : look (x :: L) k = if x.1 = k then some x.2 else look L k := by
  unfold look
  by_cases h : x.1 = k
  · simp [h]
  · simp [h]
def RV (v : Value) : Option (DataW Value × List MemPlace) := some (.held v, [])
theorem keyed9 : Keyed Tryd.prog 9 := string_keyed Tryd.underlying9
structure MapIs (w : World) (b : Nat) (L : List (Bs × Value)) : Prop where
  own : ∃ D, w.ownsMap Tryd.prog 9 RV b L.length D ∧ IsMap D ∧ (∀ k, Maps.has D (.string k) = (look L k).isSome) ∧ ∀ k v, look L k = some v → ∀ z, D.atKey (.string k) z = .held v
theorem MapIs.lt {w : World} {b : Nat} {L : List (Bs × Value)} (h : MapIs w b L) : b < w.heap.size := by obtain ⟨D, hD, _⟩ := h.own; exact hD.lt
theorem MapIs.block {w w' : World} {b : Nat} {L : List (Bs × Value)} (h : MapIs w b L) (hb : w'.heap[b]? = w.heap[b]?) : MapIs w' b L := by
  obtain ⟨D, ⟨es, c, h1, h2⟩, h3⟩ := h.own
  exact ⟨D, ⟨es, c, hb.trans h1, h2⟩, h3⟩
theorem MapIs.below {B : Nat} {w w' : World} {b : Nat} {L : List (Bs × Value)} (h : MapIs w b L) (hb : Below B w w') (hB : b < B) : MapIs w' b L := h.block (hb.block b hB)
theorem MapIs.call {w w' : World} {b : Nat} {L : List (Bs × Value)} (h : MapIs w b L) (hb : Below w.heap.size w w') : MapIs w' b L := h.below hb h.lt
theorem MapIs.grown {w w' : World} {b : Nat} {r : Option Nat} {L : List (Bs × Value)} (h : MapIs w b L) (hb : w.grownBy w' r) (hr : some b ≠ r) : MapIs w' b L := h.block (hb.block b h.lt hr)
theorem MapIs.drew {w : World} {b : Nat} {L : List (Bs × Value)} (h : MapIs w b L) : MapIs w.drew b L := h.block rfl
theorem MapIs.drewN {w : World} {b : Nat} {L : List (Bs × Value)} (h : MapIs w b L) (n : Nat) : MapIs (w.drewN n) b L := h.call (bdn (Below.refl _ _) n)
theorem MapIs.alloc {w : World} {b : Nat} {L : List (Bs × Value)} (h : MapIs w b L) (o : Obj) : MapIs (w.alloc o) b L := h.call ((Below.refl _ _).alloc (Nat.le_refl _) _)
theorem MapIs.made (w : World) : MapIs (w.alloc (.map #[] 0)) w.heap.size [] :=
  ⟨.map [], World.ownsMap_made w _ _ _, isMap_empty, fun k => rfl, fun k v h => by cases h⟩
theorem MapIs.look {w : World} {b : Nat} {L : List (Bs × Value)} (h : MapIs w b L) {t e : TypeId} (ht : Tryd.prog.underlying t = some (.map 9 e)) {z : Value} (hz : (zeroValue e).run Tryd.prog w = .ok z w) (s : ByteArray) (hs : s.size ≤ maxLen) :
    (Instr.lookup t (.map (some b)) (.string s) true).run Tryd.prog w = .ok (.tuple #[((look L s.data.toList).getD z), .bool (look L s.data.toList).isSome]) w := by
  obtain ⟨D, hD, _, hh, ha⟩ := h.own
  obtain ⟨v, ps, hrun, hv⟩ := hD.look_ok keyed9 ht hz (zd := .held z) (zp := []) rfl (WideMaps.keyOf_string_mk Tryd.underlying9 hs)
  rw [hrun, hh]
  have hv' : v = (Go.Proofs.YtgkfnfilomjphaaDoor.look L s.data.toList).getD z := by
    simp only [RV, Option.some.injEq, Prod.mk.injEq] at hv
    cases hl : Go.Proofs.YtgkfnfilomjphaaDoor.look L s.data.toList with
    | none =>
      have : D.atKey (.string s.data.toList) (.held z) = .held z := atKey_of_not_has (by rw [hh, hl]; rfl) _
      rw [this] at hv
      have := hv.1
      simp at this
      simp [this]
    | some x =>
      rw [ha _ _ hl] at hv
      have := hv.1
      simp at this
      simp [this]
  rw [hv']
theorem MapIs.put {w : World} {b : Nat} {L : List (Bs × Value)} (h : MapIs w b L) (hn : L.length < 100000) {t e : TypeId} (ht : Tryd.prog.underlying t = some (.map 9 e)) (s : ByteArray) (hs : s.size ≤ maxLen) (v : Value) :
    ∃ w', (Instr.mapUpdate t (.map (some b)) (.string s) v).run Tryd.prog w = .ok () w' ∧ MapIs w' b ((s.data.toList, v) :: L) ∧ w.grownBy w' (some b) := by
  obtain ⟨D, hD, hm, hh, ha⟩ := h.own
  obtain ⟨w', hrun, hD', hg⟩ := hD.update keyed9 ht (by unfold maxLen; omega) (WideMaps.keyOf_string_mk Tryd.underlying9 hs) (d := .held v) (ps := []) (show RV v = _ from rfl)
  refine ⟨w', hrun, ⟨_, hD', hm.put _ _, fun k => ?_, fun k x hx z => ?_⟩, hg⟩
  · rw [look_cons]
    by_cases e1 : s.data.toList = k
    · subst e1
      rw [has_put_same hm (keyed9.key (WideMaps.keyOf_string_mk Tryd.underlying9 hs))]; simp
    · rw [has_put_other (by simpa using fun e => e1 e.symm), hh]; simp [e1]
  · rw [look_cons] at hx
    by_cases e1 : s.data.toList = k
    · subst e1
      rw [atKey_put_same hm (keyed9.key (WideMaps.keyOf_string_mk Tryd.underlying9 hs))]
      simpa using hx
    · rw [atKey_put_other (by simpa using fun e => e1 e.symm)]
      exact ha k x (by simpa [e1] using hx) z

section
variable {w : World} {ops : Array Oper} {rest : List Oper} {o : Oper} {a : Act} {Q : Exit → Act → World → Prop}
theorem wpList_look (hg : o.guard = none) (m x : Operand) (t : TypeId) (hop : o.op = Op.lookup t m x true) (e : TypeId) (ht : Tryd.prog.underlying t = some (.map 9 e)) {z : Value} (hz : (zeroValue e).run Tryd.prog w = .ok z w)
    (b : Nat) (L : List (Bs × Value)) (hm : a.eval m = .map (some b)) (hM : MapIs w b L) (s : ByteArray) (hx : a.eval x = .string s) (hs : s.size ≤ maxLen) (v : Value) (f : Bool) (hv : (look L s.data.toList).getD z = v) (hf : (look L s.data.toList).isSome = f)
    (hK : wpList Tryd.prog ops Q rest (a.put o.dst (.tuple #[v, .bool f])) w) : wpList Tryd.prog ops Q (o :: rest) a w := by
  refine wpList_plain hg fun K' hK' => ?_
  have hrun := hM.look ht hz s hs
  unfold Oper.wp
  simp [execOp, hop, hm, hx, hrun, Result.andThen, hv, hf]
  exact hK' _ _ hK
theorem wpList_put (hg : o.guard = none) (m x v : Operand) (t : TypeId) (hop : o.op = Op.mapUpdate t m x v) (e : TypeId) (ht : Tryd.prog.underlying t = some (.map 9 e)) (b : Nat) (L : List (Bs × Value)) (hm : a.eval m = .map (some b)) (hM : MapIs w b L) (hn : L.length < 100000)
    (s : ByteArray) (val : Value) (hx : a.eval x = .string s) (hv : a.eval v = val) (hs : s.size ≤ maxLen)
    (hK : ∀ w', MapIs w' b ((s.data.toList, val) :: L) → w.grownBy w' (some b) → wpList Tryd.prog ops Q rest (a.put o.dst undef) w') : wpList Tryd.prog ops Q (o :: rest) a w := by
  refine wpList_plain hg fun K' hK' => ?_
  obtain ⟨w', hrun, r1, r2⟩ := hM.put hn ht s hs val
  unfold Oper.wp
  simp [execOp, hop, hm, hx, hv, hrun, Result.andThen]
  exact hK' _ _ (hK w' r1 r2)
end
section
variable {F : Fence} {nF : Nat} {w : World} {ops : Array Oper} {rest : List Oper} {o : Oper} {a : Act} {Q : Exit → Act → World → Prop}
theorem wpListIn_lookT (hg : o.guard = none) (m x : Operand) (t : TypeId) (hop : o.op = Op.lookup t m x true) (e : TypeId) (ht : Tryd.prog.underlying t = some (.map 9 e)) {z : Value} (hz : (zeroValue e).run Tryd.prog w = .ok z w)
    (b : Nat) (L : List (Bs × Value)) (hm : a.eval m = .map (some b)) (hM : MapIs w b L) (s : ByteArray) (hx : a.eval x = .string s) (hs : s.size ≤ maxLen) (v : Value) (f : Bool) (hv : (look L s.data.toList).getD z = v) (hf : (look L s.data.toList).isSome = f)
    (hK : wpListIn F nF Tryd.prog ops Q rest (a.put o.dst (.tuple #[v, .bool f])) w) : wpListIn F nF Tryd.prog ops Q (o :: rest) a w := by
  refine wpListIn_plain hg fun K' hK' => ?_
  have hrun := hM.look ht hz s hs
  unfold Oper.wpIn
  refine ⟨by simp [Oper.about, hop], ?_⟩
  rw [Oper.semAt_plain F _ _ (by rw [hop]; intro c hc'; cases hc')]
  simp [execOp, hop, hm, hx, hrun, Result.andThen, hv, hf]
  exact hK' _ _ hK
theorem wpListIn_putT (hg : o.guard = none) (m x v : Operand) (t : TypeId) (hop : o.op = Op.mapUpdate t m x v) (e : TypeId) (ht : Tryd.prog.underlying t = some (.map 9 e)) (b : Nat) (L : List (Bs × Value)) (hm : a.eval m = .map (some b)) (hM : MapIs w b L) (hn : L.length < 100000)
    (s : ByteArray) (val : Value) (hx : a.eval x = .string s) (hv : a.eval v = val) (hs : s.size ≤ maxLen)
    (hK : ∀ w', MapIs w' b ((s.data.toList, val) :: L) → w.grownBy w' (some b) → wpListIn F nF Tryd.prog ops Q rest (a.put o.dst undef) w') : wpListIn F nF Tryd.prog ops Q (o :: rest) a w := by
  refine wpListIn_plain hg fun K' hK' => ?_
  obtain ⟨w', hrun, r1, r2⟩ := hM.put hn ht s hs val
  unfold Oper.wpIn
  refine ⟨by simp [Oper.about, hop], ?_⟩
  rw [Oper.semAt_plain F _ _ (by rw [hop]; intro c hc'; cases hc')]
  simp [execOp, hop, hm, hx, hv, hrun, Result.andThen]
  exact hK' _ _ (hK w' r1 r2)
end
def unit_ : Value := .agg #[]
theorem zeroU (X : World) : (zeroValue 77).run Tryd.prog X = .ok unit_ X := by kernel_rfl
/-- The names that were there. -/
def seenL (N : List Bs) : List (Bs × Value) := N.map fun n => (n, unit_)
theorem look_seen (N : List Bs) (k : Bs) : look (seenL N) k = if N.contains k then some unit_ else none := by
  induction N with
  | nil => rfl
  | cons x r ih =>
    rw [seenL, List.map_cons, look_cons]
    by_cases h : x = k
    · subst h; simp
    · rw [if_neg h]
      have : (k == x) = false := by simpa using fun e => h e.symm
      rw [List.contains_cons, this, Bool.false_or]
      exact ih
end Go.Proofs.YtgkfnfilomjphaaDoor
