/-
  Layer 7: the law's Same, at two objects of noughts.
-/
import Derived.Test.YtjpaepmnmlpjkaaRob
namespace Go.Proofs.Ytjpaepmnmlpjkaa
set_option linter.unusedVariables false
set_option linter.unusedSimpArgs false
open Go.ChangeShapes Go.WideShapes Go.ChangeAt Go.RowKit

theorem ints_nil (w : World) : Calls Try.prog 27 #[.slice none 0 0, .slice none 0 0] w fun e w' => e = .returned (.bool true) ∧ w' = w := by
  go_enter Try.func27, Try.ntmps27
  go_wp2
  go_loopg [5] 0 (fun gf s5 wx => s5 = .int .i64 0 ∧ wx = w)
  case atStart => exact ⟨rfl, rfl⟩
  case round =>
    obtain ⟨rfl, hww⟩ := hrel
    obtain rfl := hww.symm
    go_wp2
    go_ret
    exact ⟨rfl, rfl⟩
attribute [local go_sem ↓] loadO_seal
set_option maxHeartbeats 4000000 in
set_option maxRecDepth 20000 in
theorem procs_zero (w : World) : Calls Try.prog 28 #[.agg Oc.zero.cells, .agg Oc.zero.cells] w fun e w' => e = .returned (.bool true) ∧ Below w.heap.size w w' := by
  have IN : Hid (∀ X, Calls Try.prog 27 #[.slice none 0 0, .slice none 0 0] X fun e w' => e = .returned (.bool true) ∧ w' = X) := fun X => ints_nil X
  simp only [Oc.cells, Oc.zero]
  obtain ⟨W, hW⟩ : ∃ W, W = (w.alloc zeroO).alloc zeroO := ⟨_, rfl⟩
  have HB : Hid (Below w.heap.size w W) := by rw [hW]; exact ((Below.refl _ _).alloc (Nat.le_refl _) _).alloc (by simp) _
  unfold zeroO at hW
  have c2 : W.heap[w.heap.size]? = some (.cells Oc.zero.cells 31 (0, 0)) := by rw [hW, Below.heap_alloc _ _ _ (by simp)]; exact blk_new _ _
  have c3 : W.heap[w.heap.size + 1]? = some (.cells Oc.zero.cells 31 (0, 0)) := by rw [hW]; have := blk_new (w.alloc zeroO) zeroO; rw [show (w.alloc zeroO).heap.size = w.heap.size + 1 by simp] at this; exact this
  have f4 : W.cell? ⟨w.heap.size, 4, none⟩ = some (.slice none 0 0) := blk_cell c2 4
  have f5 : W.cell? ⟨w.heap.size, 5, none⟩ = some (.slice none 0 0) := blk_cell c2 5
  have f6 : W.cell? ⟨w.heap.size, 6, none⟩ = some (.slice none 0 0) := blk_cell c2 6
  have f8 : W.cell? ⟨w.heap.size, 8, none⟩ = some (.slice none 0 0) := blk_cell c2 8
  have f9 : W.cell? ⟨w.heap.size, 9, none⟩ = some (.slice none 0 0) := blk_cell c2 9
  have g4 : W.cell? ⟨w.heap.size + 1, 4, none⟩ = some (.slice none 0 0) := blk_cell c3 4
  have g5 : W.cell? ⟨w.heap.size + 1, 5, none⟩ = some (.slice none 0 0) := blk_cell c3 5
  have g6 : W.cell? ⟨w.heap.size + 1, 6, none⟩ = some (.slice none 0 0) := blk_cell c3 6
  have g8 : W.cell? ⟨w.heap.size + 1, 8, none⟩ = some (.slice none 0 0) := blk_cell c3 8
  have g9 : W.cell? ⟨w.heap.size + 1, 9, none⟩ = some (.slice none 0 0) := blk_cell c3 9
  clear c2 c3
  go_enter Try.func28, Try.ntmps28
  go_wp2_with (first
    | (rw [← hW]; clear hW)
    | (go_at_call 27; refine (IN.out _).mono ?_; rintro e w1 ⟨rfl, hw⟩; rw [hw]; clear hw))
  go_loopg [8] 0 (fun gf s8 wx => s8 = .int .i64 0 ∧ wx = W)
  case atStart => exact ⟨rfl, rfl⟩
  case round =>
    obtain ⟨rfl, hww⟩ := hrel
    subst hww
    go_wp2
    go_loopg [9] 0 (fun gf s9 wx => s9 = .int .i64 0 ∧ wx = wr)
    case atStart => exact ⟨rfl, rfl⟩
    case round =>
      obtain ⟨rfl, hww⟩ := hrel
      subst hww
      go_wp2
      go_ret
      exact ⟨rfl, HB.out⟩
set_option maxHeartbeats 8000000 in
set_option maxRecDepth 20000 in
theorem same_zero (w : World) : Calls Try.prog 13 #[.agg Oc.zero.cells, .agg Oc.zero.cells] w fun e w' => e = .returned (.bool true) ∧ Below w.heap.size w w' := by
  have PZ : Hid (∀ X, Calls Try.prog 28 #[.agg Oc.zero.cells, .agg Oc.zero.cells] X fun e w' => e = .returned (.bool true) ∧ Below X.heap.size X w') := fun X => procs_zero X
  simp only [Oc.cells, Oc.zero] at PZ
  simp only [Oc.cells, Oc.zero]
  obtain ⟨W, hW⟩ : ∃ W, W = (w.alloc zeroO).alloc zeroO := ⟨_, rfl⟩
  have HB : Hid (Below w.heap.size w W) := by rw [hW]; exact ((Below.refl _ _).alloc (Nat.le_refl _) _).alloc (by simp) _
  unfold zeroO at hW
  have c2 : W.heap[w.heap.size]? = some (.cells Oc.zero.cells 31 (0, 0)) := by rw [hW, Below.heap_alloc _ _ _ (by simp)]; exact blk_new _ _
  have c3 : W.heap[w.heap.size + 1]? = some (.cells Oc.zero.cells 31 (0, 0)) := by rw [hW]; have := blk_new (w.alloc zeroO) zeroO; rw [show (w.alloc zeroO).heap.size = w.heap.size + 1 by simp] at this; exact this
  have f2 : W.cell? ⟨w.heap.size, 2, none⟩ = some (.slice none 0 0) := blk_cell c2 2
  have g2 : W.cell? ⟨w.heap.size + 1, 2, none⟩ = some (.slice none 0 0) := blk_cell c3 2
  have f3 : W.cell? ⟨w.heap.size, 3, none⟩ = some (.slice none 0 0) := blk_cell c2 3
  have g3 : W.cell? ⟨w.heap.size + 1, 3, none⟩ = some (.slice none 0 0) := blk_cell c3 3
  have f10 : W.cell? ⟨w.heap.size, 10, none⟩ = some (.slice none 0 0) := blk_cell c2 10
  have g10 : W.cell? ⟨w.heap.size + 1, 10, none⟩ = some (.slice none 0 0) := blk_cell c3 10
  have f11 : W.cell? ⟨w.heap.size, 11, none⟩ = some (.slice none 0 0) := blk_cell c2 11
  have g11 : W.cell? ⟨w.heap.size + 1, 11, none⟩ = some (.slice none 0 0) := blk_cell c3 11
  have f12 : W.cell? ⟨w.heap.size, 12, none⟩ = some (.slice none 0 0) := blk_cell c2 12
  have g12 : W.cell? ⟨w.heap.size + 1, 12, none⟩ = some (.slice none 0 0) := blk_cell c3 12
  have f0 : W.cell? ⟨w.heap.size, 0, none⟩ = some (.string ⟨#[]⟩) := blk_cell c2 0
  have g0 : W.cell? ⟨w.heap.size + 1, 0, none⟩ = some (.string ⟨#[]⟩) := blk_cell c3 0
  have f1 : W.cell? ⟨w.heap.size, 1, none⟩ = some (.int .u32 0) := blk_cell c2 1
  have g1 : W.cell? ⟨w.heap.size + 1, 1, none⟩ = some (.int .u32 0) := blk_cell c3 1
  have f7 : W.cell? ⟨w.heap.size, 7, none⟩ = some (.int .i64 0) := blk_cell c2 7
  have g7 : W.cell? ⟨w.heap.size + 1, 7, none⟩ = some (.int .i64 0) := blk_cell c3 7
  have l2 := loadO_run c2
  have l3 := loadO_run c3
  simp only [Oc.cells, Oc.zero] at l2 l3
  clear c2 c3
  go_enter Try.func13, Try.ntmps13
  go_wp2_with (rw [← hW]; clear hW)
  go_loopg [5] 0 (fun gf s5 wx => s5 = .int .i64 0 ∧ wx = W)
  case atStart => exact ⟨rfl, rfl⟩
  case round =>
    obtain ⟨rfl, hww⟩ := hrel
    subst hww
    go_wp2
    go_loopg [6] 0 (fun gf s6 wx => s6 = .int .i64 0 ∧ wx = wr)
    case atStart => exact ⟨rfl, rfl⟩
    case round =>
      obtain ⟨rfl, hww⟩ := hrel
      subst hww
      go_wp2
      go_loopg [7] 0 (fun gf s7 wx => s7 = .int .i64 0 ∧ wx = wr)
      case atStart => exact ⟨rfl, rfl⟩
      case round =>
        obtain ⟨rfl, hww⟩ := hrel
        subst hww
        go_wp2
        go_loopg [8, 9] 0 (fun gf s8 s9 wx => s8 = .int .i64 0 ∧ wx = wr)
        case atStart => exact ⟨rfl, rfl⟩
        case round =>
          obtain ⟨rfl, hww⟩ := hrel
          subst hww
          go_wp2
          go_loopg [10] 0 (fun gf s10 wx => s10 = .int .i64 0 ∧ wx = wr)
          case atStart => exact ⟨rfl, rfl⟩
          case round =>
            obtain ⟨rfl, hww⟩ := hrel
            subst hww
            go_wp2_with (go_at_call 28; refine (PZ.out _).mono ?_; rintro e w1 ⟨rfl, hb⟩)
            go_ret
            exact ⟨rfl, HB.out.trans (hb.mono HB.out.size)⟩
end Go.Proofs.Ytjpaepmnmlpjkaa
