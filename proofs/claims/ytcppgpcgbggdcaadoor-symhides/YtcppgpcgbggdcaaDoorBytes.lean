/-
  The walk of the law WordBytes: for every row of bytes within the reach, every place and every word it returns true, and nothing that was there has turned.
-/
import Derived.Test.YtcppgpcgbggdcaaDoorPuts
namespace Go.Proofs.YtcppgpcgbggdcaaDoor
open Go.ChangeShapes Go.WideShapes Go.ChangeAt Go.RowKit

theorem RdB.below {w w' : World} {a : Option Addr} {len : Nat} {f : Nat → Int} (h : RdB w a len f) (hb : Below w.heap.size w w') : RdB w' a len f := by
  refine ⟨h.1, h.2.imp id fun ⟨b, off, ha, hc⟩ => ⟨b, off, ha, fun i hi => ⟨?_, (hc i hi).2⟩⟩⟩
  have := World.block_lt_of_cell? _ _ (hc i hi).1
  exact (hb.cell (p := ⟨b, off + i, none⟩) this).trans (hc i hi).1

theorem four_of {w : World} {base : Nat} {x : Value} {v : Int} (h : w.ownsRow base 5 1 x 4 (bytesOf v 4)) : ∃ g c, x = .slice (some ⟨g, 0, none⟩) 4 c ∧ ∀ j, j < 4 → w.cell? ⟨g, j, none⟩ = some (.int .u8 (byteOf v j)) := by
  rcases h.2 with ⟨_, h0⟩ | ⟨g, cap, cur, rfl, _, _⟩
  · omega
  · refine ⟨g, cap, rfl, fun j hj => ?_⟩
    rw [h.cellAt j (by omega)]
    have : j = 0 ∨ j = 1 ∨ j = 2 ∨ j = 3 := by omega
    rcases this with rfl | rfl | rfl | rfl <;> rfl

/-- A row of bytes as cells. -/
def rowOf (f : Nat → Int) (len : Nat) : List Value := (List.range len).map fun i => .int .u8 (f i)
/-- What lies in the copy ahead of Put: the bytes, then noughts. -/
def baseL (len : Nat) (f : Nat → Int) (i : Nat) : Int := if i < len then f i else 0
theorem spliced {w : World} {g len : Nat} {f : Nat → Int} {Z : List Value} (hZ : Z = List.replicate (len + 8) (.int .u8 0))
    (h : w.heap[g]? = some (.cells (splice Z 0 (rowOf f len)).toArray 5 (0, 0))) :
    (∀ i, i < len + 8 → w.cell? ⟨g, i, none⟩ = some (.int .u8 (baseL len f i))) ∧ ∀ i, w.frozen? ⟨g, i, none⟩ = false := by
  refine ⟨fun i hi => ?_, fun i => ?_⟩
  · rw [cell_of_row w g i _ 5 (0, 0) h, hZ]
    simp only [splice, baseL, rowOf]
    by_cases hl : i < len
    · simp [hl, List.getElem?_append]
    · simp [hl, List.getElem?_append]
      have : i - len = 0 ∨ i - len = 1 ∨ i - len = 2 ∨ i - len = 3 ∨ i - len = 4 ∨ i - len = 5 ∨ i - len = 6 ∨ i - len = 7 := by omega
      rcases this with e | e | e | e | e | e | e | e <;> rw [e] <;> rfl
  · simp [World.frozen?, h]

theorem made_of {w : World} {base g n : Nat} (h : w.ownsRow base 5 1 (.slice (some ⟨g, 0, none⟩) n n) n (madeCells (Value.int .u8 0).cells (n * 1)).toList) :
    w.heap[g]? = some (.cells (List.replicate n (.int .u8 0)).toArray 5 (0, 0)) := by
  rcases h.2 with ⟨h0, _⟩ | ⟨g', cap, cur, hv, _, hg, _, _, hs, ht⟩
  · simp at h0
  · simp at hv
    obtain ⟨rfl, rfl⟩ := hv
    have e : cur = (List.replicate n (.int .u8 0)).toArray := by
      rw [List.take_of_length_le (by simp; omega)] at ht
      apply Array.ext'
      rw [ht, Nat.mul_one]
      simpa [Value.cells] using toList_madeCells_one (.int .u8 0) n
    rw [hg, e]
theorem copy_src {w : World} {a : Option Addr} {len : Nat} {f : Nat → Int} (h : RdB w a len f) (h0 : 0 < (rowOf f len).length) : ∃ ad, a = some ad ∧ ∀ j u, (rowOf f len)[j]? = some u → w.cell? (ad.add j) = some u := by
  have hl : 0 < len := by simpa [rowOf] using h0
  rcases h.2 with h1 | ⟨b, off, rfl, hc⟩
  · omega
  · refine ⟨_, rfl, fun j u hj => ?_⟩
    have hj' : j < len := by
      rcases Nat.lt_or_ge j len with h | h
      · exact h
      · simp [rowOf, List.getElem?_eq_none (show (List.range len).length ≤ j by simpa using h)] at hj
    have e : u = .int .u8 (f j) := by simp [rowOf, hj'] at hj; exact hj.symm
    rw [e, ← (hc j hj').1]
    by_cases hj0 : j = 0
    · subst hj0; simp [Addr.add]
    · simp [Addr.add, hj0]
theorem row_one (f : Nat → Int) (len : Nat) : ∀ u ∈ rowOf f len, u.oneCell' = true := by
  intro u hu
  simp [rowOf] at hu
  obtain ⟨i, _, rfl⟩ := hu
  rfl
theorem size5 : (Tryd.prog.info? 5).map (·.size) = some 1 := by kernel_rfl

/-- What lies in the copy behind Put, its spare room too. -/
def behindL (len : Nat) (f : Nat → Int) (at_ v : Int) (i : Nat) : Int := if i < len then putL len (baseL len f) at_ v i else 0

theorem behind_of {w3 w4 : World} {g len : Nat} {f : Nat → Int} {at_ v : Int} (h : ∀ i, i < len + 8 → w3.cell? ⟨g, i, none⟩ = some (.int .u8 (baseL len f i)))
    (p1 : ∀ i, i < len → w4.cell? ⟨g, 0 + i, none⟩ = some (.int .u8 (putL len (baseL len f) at_ v i))) (p2 : ∀ i, i < 0 ∨ 0 + len ≤ i → w4.cell? ⟨g, i, none⟩ = w3.cell? ⟨g, i, none⟩) :
    ∀ i, i < len + 8 → w4.cell? ⟨g, i, none⟩ = some (.int .u8 (behindL len f at_ v i)) := by
  intro i hi
  unfold behindL
  by_cases hl : i < len
  · rw [if_pos hl, ← p1 i hl, Nat.zero_add]
  · rw [if_neg hl, p2 i (by omega), h i hi, baseL, if_neg hl]
theorem still_of {w4 w5 : World} {g n : Nat} {L : Nat → Int} (hn : 0 < n) (h : ∀ i, i < n → w4.cell? ⟨g, i, none⟩ = some (.int .u8 (L i))) (hb : Below w4.heap.size w4 w5) :
    ∀ i, i < n → w5.cell? ⟨g, i, none⟩ = some (.int .u8 (L i)) := by
  intro i hi
  have := World.block_lt_of_cell? _ _ (h 0 hn)
  exact (hb.cell (p := ⟨g, i, none⟩) this).trans (h i hi)

theorem copy_runs {w w2 : World} {g B : Nat} {a : Option Addr} {len cap : Nat} {f : Nat → Int} (hr : RdB w2 a len f) (hg : w2.heap[g]? = some (.cells (List.replicate (len + 8) (.int .u8 0)).toArray 5 (0, 0))) (hb : Below B w w2) (hBg : B ≤ g) :
    ∃ w3, (Builtin.copy_ #[30, 30] 3 #[.slice (some ⟨g, 0, none⟩) (len + 8) (len + 8), .slice a len cap]).run Tryd.prog w2 = .ok (.int .i64 (len : Int)) w3 ∧
      Hid ((∀ i, i < len + 8 → w3.cell? ⟨g, i, none⟩ = some (.int .u8 (baseL len f i))) ∧ ∀ i, w3.frozen? ⟨g, i, none⟩ = false) ∧ Below B w w3 := by
  by_cases h0 : len = 0
  · subst h0
    refine ⟨w2, run_copy_none w2 30 30 3 5 _ _ _ _ _ _ Tryd.underlying30 size5 (by rfl), spliced rfl ?_, hb⟩
    simpa [splice, rowOf] using hg
  · obtain ⟨ad, rfl, hsrc⟩ := copy_src hr (by simp [rowOf]; omega)
    have hl : (rowOf f len).length = len := by simp [rowOf]
    have e := run_copy_row (P := Tryd.prog) w2 30 30 3 5 g 0 (len + 8) (len + 8) ad len cap _ 5 (rowOf f len) Tryd.underlying30 size5 hg (by rw [hl]; exact (Nat.min_eq_left (by omega)).symm) hsrc (by simp [rowOf]) (row_one f len)
    rw [hl] at e
    refine ⟨_, e, spliced rfl ?_, below_setRow hb hBg _⟩
    simpa [splice, hl] using setRow_heap w2 g _ _ 5 _ hg

end Go.Proofs.YtcppgpcgbggdcaaDoor
