/-
  Rows of texts that a call itself has made: what they read as, how they are kept.
  Maps keyed by texts: a block that holds just what a list of pairs tells (the first pair of a key counts), how it is made, kept, read and written.
-/
import Derived.Test.YtmldlkcgaepaaaaGreatDoorMVrs
import Derived.Maps.OwnSet
import Derived.Maps.OwnOps
import Derived.StringKeys
namespace Go.Proofs.YtmldlkcgaepaaaaGreatDoor
open Go.ChangeShapes Go.WideShapes Go.ChangeAt Go.RowKit

def strs (l : List Bs) : List Value := l.map fun x => .string (bs x)
theorem strs_len (l : List Bs) : (strs l).length = l.length := by simp [strs]
theorem strs_snoc (l : List Bs) (x : Bs) : strs (l ++ [x]) = strs l ++ [.string (bs x)] := by simp [strs]
theorem own_call {w w' : World} {B e size n : Nat} {v : Value} {xs : List Value} (h : w.ownsRow B e size v n xs) (hb : Below w.heap.size w w') : w'.ownsRow B e size v n xs :=
  ⟨h.1, h.2.imp id fun ⟨g, cap, cur, a, b, c, d⟩ => ⟨g, cap, cur, a, b, by rw [hb.block g (Array.getElem?_eq_some_iff.1 c).1]; exact c, d⟩⟩
theorem own_lt {w : World} {B e size n : Nat} {v : Value} {xs : List Value} (h : w.ownsRow B e size v n xs) : ∀ j, v.ownBlock = some j → B ≤ j ∧ j < w.heap.size := fun j hj => by
  rcases h.2 with ⟨rfl, _⟩ | ⟨g, cap, cur, rfl, hb, hg, _⟩
  · simp [Value.ownBlock] at hj
  · simp only [Value.ownBlock, Option.some.injEq] at hj
    subst hj
    exact ⟨hb, (Array.getElem?_eq_some_iff.1 hg).1⟩
theorem row_cell (w : World) (g j : Nat) (cur : Array Value) (e : TypeId) (f : Nat × Nat) (h : w.heap[g]? = some (.cells cur e f)) : w.cell? ⟨g, j, none⟩ = cur[j]? := by
  simp [World.cell?, h]
/-- A row that is owned and not empty: where it lies, and what its cells hold. -/
theorem own_row {w : World} {B e n : Nat} {v : Value} {xs : List Value} (h : w.ownsRow B e 1 v n xs) (hn : 0 < n) :
    ∃ g cap, v = .slice (some ⟨g, 0, none⟩) n cap ∧ B ≤ g ∧ g < w.heap.size ∧ n ≤ cap ∧ (∀ j, j < n → w.cell? ⟨g, j, none⟩ = xs[j]?) ∧ (∀ j, w.frozen? ⟨g, j, none⟩ = false) := by
  rcases h.2 with ⟨_, h0⟩ | ⟨g, cap, cur, hv, hb, hg, hc, _, hs, ht⟩
  · omega
  · refine ⟨g, cap, hv, hb, (Array.getElem?_eq_some_iff.1 hg).1, hc, fun j hj => ?_, fun j => by simp [World.frozen?, hg]⟩
    rw [row_cell w g j cur e (0, 0) hg, ← ht, List.getElem?_take, if_pos (by omega)]; simp
theorem cell_new1 (w : World) (v : Value) (t : TypeId) : ∀ j u, [v][j]? = some u → (w.alloc (.cells #[v] t)).cell? ((⟨w.heap.size, 0, none⟩ : Addr).add j) = some u := by
  intro j u hj
  match j, hj with
  | 0, hj => simp at hj; subst hj; simp [Addr.add]
  | j + 1, hj => simp at hj
theorem info9' : (Tryz.prog.info? 9).map (fun i => (i.zero, i.size, i.bytes)) = some (some (.string ⟨#[]⟩), 1, 16) := by kernel_rfl
theorem strs_at {l : List Bs} {j : Nat} (h : j < l.length) : (strs l)[j]? = some (.string (bs l[j])) := by simp [strs, h]
theorem join_len (sep : Bs) (k : Nat) : ∀ xs : List Bs, (∀ x ∈ xs, x.length ≤ k) → (Lib.join xs sep).length ≤ xs.length * (k + sep.length)
  | [], _ => by simp [Lib.join]
  | [x], h => by simp [Lib.join]; have := h x (by simp); omega
  | x :: y :: r, h => by
    have ih := join_len sep k (y :: r) (fun z hz => h z (by simp only [List.mem_cons] at hz ⊢; exact .inr hz))
    have hx := h x (by simp)
    have e : Lib.join (x :: y :: r) sep = x ++ (sep ++ Lib.join (y :: r) sep) := by simp [Lib.join, List.intercalate]
    rw [e, List.length_append, List.length_append, List.length_cons, Nat.succ_mul]
    omega
end Go.Proofs.YtmldlkcgaepaaaaGreatDoor

namespace Go.Proofs.YtmldlkcgaepaaaaGreatDoor
set_option linter.unusedVariables false
set_option linter.unusedSimpArgs false
open Go.ChangeShapes Go.WideShapes Go.ChangeAt Go.RowKit Go.Maps

def look {α : Type} (L : List (Bs × α)) (k : Bs) : Option α := (L.find? (·.1 == k)).map (·.2)
theorem look_cons {α : Type} (x : Bs × α) (L : List (Bs × α)) (k : Bs) : look (x :: L) k = if x.1 = k then some x.2 else look L k := by
  unfold look
  by_cases h : x.1 = k
  · simp [h]
  · simp [h]
def RV (v : Value) : Option (DataW Value × List MemPlace) := some (.held v, [])
theorem keyed9 : Keyed Tryz.prog 9 := string_keyed Tryz.underlying9
structure MapIs (w : World) (b : Nat) (L : List (Bs × Value)) : Prop where
  own : ∃ D, w.ownsMap Tryz.prog 9 RV b L.length D ∧ IsMap D ∧ (∀ k, Maps.has D (.string k) = (look L k).isSome) ∧ ∀ k v, look L k = some v → ∀ z, D.atKey (.string k) z = .held v
theorem MapIs.lt {w : World} {b : Nat} {L : List (Bs × Value)} (h : MapIs w b L) : b < w.heap.size := by obtain ⟨D, hD, _⟩ := h.own; exact hD.lt
theorem MapIs.block {w w' : World} {b : Nat} {L : List (Bs × Value)} (h : MapIs w b L) (hb : w'.heap[b]? = w.heap[b]?) : MapIs w' b L := by
  obtain ⟨D, ⟨es, c, h1, h2⟩, h3⟩ := h.own
  exact ⟨D, ⟨es, c, hb.trans h1, h2⟩, h3⟩
theorem MapIs.below {B : Nat} {w w' : World} {b : Nat} {L : List (Bs × Value)} (h : MapIs w b L) (hb : Below B w w') (hB : b < B) : MapIs w' b L := h.block (hb.block b hB)
theorem MapIs.call {w w' : World} {b : Nat} {L : List (Bs × Value)} (h : MapIs w b L) (hb : Below w.heap.size w w') : MapIs w' b L := h.below hb h.lt
theorem MapIs.grown {w w' : World} {b : Nat} {r : Option Nat} {L : List (Bs × Value)} (h : MapIs w b L) (hb : w.grownBy w' r) (hr : some b ≠ r) : MapIs w' b L := h.block (hb.block b h.lt hr)
theorem MapIs.drew {w : World} {b : Nat} {L : List (Bs × Value)} (h : MapIs w b L) : MapIs w.drew b L := h.block rfl
theorem MapIs.drewN {w : World} {b : Nat} {L : List (Bs × Value)} (h : MapIs w b L) (n : Nat) : MapIs (w.drewN n) b L := h.call (below_drewN (Below.refl _ _) n)
theorem MapIs.alloc {w : World} {b : Nat} {L : List (Bs × Value)} (h : MapIs w b L) (o : Obj) : MapIs (w.alloc o) b L := h.call ((Below.refl _ _).alloc (Nat.le_refl _) _)
theorem MapIs.made (w : World) : MapIs (w.alloc (.map #[] 0)) w.heap.size [] :=
  ⟨.map [], World.ownsMap_made w _ _ _, isMap_empty, fun k => rfl, fun k v h => by cases h⟩
theorem MapIs.look {w : World} {b : Nat} {L : List (Bs × Value)} (h : MapIs w b L) {t e : TypeId} (ht : Tryz.prog.underlying t = some (.map 9 e)) {z : Value} (hz : (zeroValue e).run Tryz.prog w = .ok z w) (s : ByteArray) (hs : s.size ≤ maxLen) :
    (Instr.lookup t (.map (some b)) (.string s) true).run Tryz.prog w = .ok (.tuple #[((look L s.data.toList).getD z), .bool (look L s.data.toList).isSome]) w := by
  obtain ⟨D, hD, _, hh, ha⟩ := h.own
  obtain ⟨v, ps, hrun, hv⟩ := hD.look_ok keyed9 ht hz (zd := .held z) (zp := []) rfl (WideMaps.keyOf_string_mk Tryz.underlying9 hs)
  rw [hrun, hh]
  have hv' : v = (Go.Proofs.YtmldlkcgaepaaaaGreatDoor.look L s.data.toList).getD z := by
    simp only [RV, Option.some.injEq, Prod.mk.injEq] at hv
    cases hl : Go.Proofs.YtmldlkcgaepaaaaGreatDoor.look L s.data.toList with
    | none =>
      have : D.atKey (.string s.data.toList) (.held z) = .held z := atKey_of_not_has (by rw [hh, hl]; rfl) _
      rw [this] at hv
      have := hv.1
      simp at this
      simp [this]
    | some x =>
      rw [ha _ _ hl] at hv
      have := hv.1
      simp at this
      simp [this]
  rw [hv']
theorem MapIs.put {w : World} {b : Nat} {L : List (Bs × Value)} (h : MapIs w b L) (hn : L.length < 100000) {t e : TypeId} (ht : Tryz.prog.underlying t = some (.map 9 e)) (s : ByteArray) (hs : s.size ≤ maxLen) (v : Value) :
    ∃ w', (Instr.mapUpdate t (.map (some b)) (.string s) v).run Tryz.prog w = .ok () w' ∧ MapIs w' b ((s.data.toList, v) :: L) ∧ w.grownBy w' (some b) := by
  obtain ⟨D, hD, hm, hh, ha⟩ := h.own
  obtain ⟨w', hrun, hD', hg⟩ := hD.update keyed9 ht (by unfold maxLen; omega) (WideMaps.keyOf_string_mk Tryz.underlying9 hs) (d := .held v) (ps := []) (show RV v = _ from rfl)
  refine ⟨w', hrun, ⟨_, hD', hm.put _ _, fun k => ?_, fun k x hx z => ?_⟩, hg⟩
  · rw [look_cons]
    by_cases e1 : s.data.toList = k
    · subst e1
      rw [has_put_same hm (keyed9.key (WideMaps.keyOf_string_mk Tryz.underlying9 hs))]; simp
    · rw [has_put_other (by simpa using fun e => e1 e.symm), hh]; simp [e1]
  · rw [look_cons] at hx
    by_cases e1 : s.data.toList = k
    · subst e1
      rw [atKey_put_same hm (keyed9.key (WideMaps.keyOf_string_mk Tryz.underlying9 hs))]
      simpa using hx
    · rw [atKey_put_other (by simpa using fun e => e1 e.symm)]
      exact ha k x (by simpa [e1] using hx) z

section
variable {w : World} {ops : Array Oper} {rest : List Oper} {o : Oper} {a : Act} {Q : Exit → Act → World → Prop}
theorem wpList_look (hg : o.guard = none) (m x : Operand) (t : TypeId) (hop : o.op = Op.lookup t m x true) (e : TypeId) (ht : Tryz.prog.underlying t = some (.map 9 e)) {z : Value} (hz : (zeroValue e).run Tryz.prog w = .ok z w)
    (b : Nat) (L : List (Bs × Value)) (hm : a.eval m = .map (some b)) (hM : MapIs w b L) (s : ByteArray) (hx : a.eval x = .string s) (hs : s.size ≤ maxLen) (v : Value) (f : Bool) (hv : (look L s.data.toList).getD z = v) (hf : (look L s.data.toList).isSome = f)
    (hK : wpList Tryz.prog ops Q rest (a.put o.dst (.tuple #[v, .bool f])) w) : wpList Tryz.prog ops Q (o :: rest) a w := by
  refine wpList_plain hg fun K' hK' => ?_
  have hrun := hM.look ht hz s hs
  unfold Oper.wp
  simp [execOp, hop, hm, hx, hrun, Result.andThen, hv, hf]
  exact hK' _ _ hK
theorem wpList_put (hg : o.guard = none) (m x v : Operand) (t : TypeId) (hop : o.op = Op.mapUpdate t m x v) (e : TypeId) (ht : Tryz.prog.underlying t = some (.map 9 e)) (b : Nat) (L : List (Bs × Value)) (hm : a.eval m = .map (some b)) (hM : MapIs w b L) (hn : L.length < 100000)
    (s : ByteArray) (val : Value) (hx : a.eval x = .string s) (hv : a.eval v = val) (hs : s.size ≤ maxLen)
    (hK : ∀ w', MapIs w' b ((s.data.toList, val) :: L) → w.grownBy w' (some b) → wpList Tryz.prog ops Q rest (a.put o.dst undef) w') : wpList Tryz.prog ops Q (o :: rest) a w := by
  refine wpList_plain hg fun K' hK' => ?_
  obtain ⟨w', hrun, r1, r2⟩ := hM.put hn ht s hs val
  unfold Oper.wp
  simp [execOp, hop, hm, hx, hv, hrun, Result.andThen]
  exact hK' _ _ (hK w' r1 r2)
end
end Go.Proofs.YtmldlkcgaepaaaaGreatDoor
