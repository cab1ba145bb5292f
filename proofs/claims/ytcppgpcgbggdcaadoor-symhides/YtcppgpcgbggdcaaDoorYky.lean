/-
  Layer 13: the key of symbols.
-/
import Derived.Test.YtcppgpcgbggdcaaDoorYbd
import Derived.Test.YtcppgpcgbggdcaaDoorYen
namespace Go.Proofs.YtcppgpcgbggdcaaDoor
set_option linter.unusedVariables false
set_option linter.unusedSimpArgs false
open Go.ChangeShapes Go.WideShapes Go.ChangeAt Go.RowKit
attribute [local go_sem ↓] ldS_seal stS_seal

/-- The sum of symbols' bytes. -/
def keyI (o : Sy) : Int := fnv (fun i => (markL ++ symP o).getD i 0) (markL ++ symP o).length
set_option maxHeartbeats 4000000 in
set_option maxRecDepth 20000 in
theorem key_any (w : World) (hv : Vs w) (c : Sc) (o : Sy) (ls : List (Pc × Sl)) (hr : SyR w c o ls) : Calls Tryd.prog 13 #[.agg c.cells] w fun e w' => e = .returned (.tuple (if rightP o then #[.int .u32 (keyI o), .int .i64 0] else #[.int .u32 0, .int .i64 130])) ∧ Below w.heap.size w w' := by
  have b0 := BA.new w 26 c.cells
  have hb1 : Below w.heap.size w (w.alloc (.cells c.cells 26)) := (Below.refl _ _).alloc (Nat.le_refl _) _
  have q0 := ldT_run b0 Tryd.underlying26 rfl (by kernel_rfl)
  cases hn : rightP o
  · have EN : Hid (Calls Tryd.prog 11 #[.agg c.cells] (w.alloc (.cells c.cells 26)) fun e Y => e = .returned (.tuple #[.slice none 0 0, .int .i64 130]) ∧ Hid (Below w.heap.size w Y)) := hid_of ((encode_no _ (hv.below hb1 hv.big) c o ls (hr.below hb1) hn).mono fun e Y hh => ⟨hh.1, hb1.trans (hh.2.mono hb1.size)⟩)
    clear hr hv b0 hb1
    go_enter Tryd.func13, Tryd.ntmps13
    go_wp2_with (go_at_call 11; refine EN.out.mono ?_; rintro e w1 ⟨rfl, D1⟩)
    go_ret2
    exact ⟨rfl, D1.out⟩
  · have hle := symP_le hn
    have hby : AllB (markL ++ symP o) := mark_by.app (symP_by hn)
    have EN : Hid (Calls Tryd.prog 11 #[.agg c.cells] (w.alloc (.cells c.cells 26)) fun e Y => ∃ a n k, e = .returned (.tuple #[.slice a n k, .int .i64 0]) ∧ Hid (Calls Tryd.prog 33 #[.slice a n k] Y fun e2 Y2 => e2 = .returned (.int .u32 (keyI o)) ∧ Y2 = Y) ∧ Hid (Below w.heap.size w Y)) := hid_of ((encode_yes _ (hv.below hb1 hv.big) c o ls (hr.below hb1) hn).mono fun e Y hh => by
      obtain ⟨a, n, k, e1, ⟨B, _, h2⟩, h3⟩ := hh
      obtain ⟨s1, s2, _⟩ := ow_src h2 hby (by rw [List.length_append, show markL.length = 4 from rfl]; omega)
      refine ⟨a, n, k, e1, hid_of ?_, hb1.trans (h3.mono hb1.size)⟩
      have := sum_any a n k _ Y s1.rd
      unfold keyI
      rw [← s2]
      exact this)
    clear hr hv b0 hb1 hle hby
    go_enter Tryd.func13, Tryd.ntmps13
    go_wp2_with (first
      | (go_at_call 33; refine SM.out.mono ?_; rintro e w2 ⟨rfl, hw⟩; rw [hw]; clear hw)
      | (go_at_call 11; refine EN.out.mono ?_; rintro e w1 ⟨a, n, k, rfl, SM, D1⟩))
    go_ret2
    exact ⟨rfl, D1.out⟩
end Go.Proofs.YtcppgpcgbggdcaaDoor
