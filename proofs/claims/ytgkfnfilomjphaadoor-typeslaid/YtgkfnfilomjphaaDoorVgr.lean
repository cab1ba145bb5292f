/-
  Layer 11: room for fields: slices.Grow of the empty row.
-/
import Derived.Test.YtgkfnfilomjphaaDoorVrw
import Derived.Lib.AppendZerosOnto
namespace Go.Proofs.YtgkfnfilomjphaaDoor
set_option linter.unusedVariables false
set_option linter.unusedSimpArgs false
open Go.ChangeShapes Go.WideShapes Go.ChangeAt Go.RowKit
attribute [local go_sem ↓] ldY_seal stY_seal ldF_seal stF_seal
def PostG (w : World) (e : Ending) (w' : World) : Prop := ∃ s : Sl, e = .returned (.slice s.a s.n s.c) ∧ w'.ownsRow w.heap.size 33 3 (.slice s.a s.n s.c) 0 [] ∧ Below w.heap.size w w'
theorem infoF : ∃ i : TypeInfo, Tryd.prog.info? 33 = some i ∧ i.zero = some (.agg #[.string ⟨#[]⟩, .int .i64 0, .int .i64 0]) ∧ i.bytes = 32 ∧ i.size = 3 := by
  have h : (match Tryd.prog.info? 33 with | some i => decide (i.bytes = 32) && decide (i.size = 3) | none => false) = true := by kernel_rfl
  have h2 : (Tryd.prog.info? 33).bind (·.zero) = some (.agg #[.string ⟨#[]⟩, .int .i64 0, .int .i64 0]) := by kernel_rfl
  cases hi : Tryd.prog.info? 33 with
  | none => rw [hi] at h; cases h
  | some i =>
    rw [hi] at h h2
    simp only [Bool.and_eq_true, decide_eq_true_eq] at h
    exact ⟨i, rfl, h2, h.1, h.2⟩
set_option maxHeartbeats 4000000 in
set_option maxRecDepth 100000 in
theorem grow_any (w : World) (n : Nat) (hn : n ≤ 200) : Calls Tryd.prog 27 #[.slice none 0 0, .int .i64 n] w (PostG w) := by
  have d1 : decide ((n : Int) < 0) = false := decide_eq_false (by omega)
  have e1 : IntKind.i64.wrap ((n : Int) - 0) = (n : Int) := by rw [IntWalk.i64_left, IntWalk.wrap64_in] <;> omega
  by_cases h0 : n = 0
  · have d2 : decide ((n : Int) > 0) = false := decide_eq_false (by omega)
    have d3 : decide (0 < (n : Int)) = false := decide_eq_false (by omega)
    subst h0
    go_enter Tryd.func27, Tryd.ntmps27
    go_wp2
    go_ret
    exact ⟨⟨none, 0, 0⟩, rfl, own_nilH _ _ _ _, Below.refl _ _⟩
  · have d2 : decide ((n : Int) > 0) = true := decide_eq_true (by omega)
    have d3 : decide (0 < (n : Int)) = true := decide_eq_true (by omega)
    obtain ⟨i0, hi0, hz0, hb0, hs0⟩ := infoF
    have hfit : Builtin.nextslicecap (0 + n) 0 * i0.bytes ≤ 281474976710656 := by
      rw [hb0]
      unfold Builtin.nextslicecap
      rw [if_pos (by omega)]
      omega
    have hold : (Builtin.firstCells i0.size 0 (.slice none 0 0)).run Tryd.prog w.drew = .ok ([] : List Value).toArray w.drew := by
      simp [Builtin.firstCells]
    have hrz := Lib.run_append_grow_zeros (P := Tryd.prog) w 29 3 29 33 i0 _ .i64 .i64 Tryd.underlying29 Tryd.underlying3 hi0 hz0 none 0 0 [] hold n (by omega) (by omega) (by omega) (by omega) (by rw [hb0]; omega) hfit
    rw [Nat.zero_add] at hrz
    have hcm := grownCap_le_maxLen w n 0 33 (by unfold maxLen; omega)
    have hge := grownCap_ge w n 0 33
    generalize hG : grownCap w n 0 33 = G at *
    have hcz : (Value.agg #[.string ⟨#[]⟩, .int .i64 0, .int .i64 0]).cells.size = 3 := rfl
    generalize hC : (([] : List Value).toArray ++ Builtin.zeroCells (Value.agg #[.string ⟨#[]⟩, .int .i64 0, .int .i64 0]).cells n ++ Builtin.zeroCells (Value.agg #[.string ⟨#[]⟩, .int .i64 0, .int .i64 0]).cells (G - n)) = cur at *
    have hcs : cur.size = G * 3 := by
      rw [← hC]
      simp only [Array.size_append, List.size_toArray, size_zeroCells, hcz, List.length_nil]
      omega
    have HO : Hid ((w.drew.alloc (.cells cur 33)).ownsRow w.heap.size 33 3 (.slice (some ⟨w.heap.size, 0, none⟩) 0 G) 0 []) := hid_of (World.ownsRow_made w.drew cur G (Nat.le_refl _) hcm hcs)
    have hG63 : G ≤ 9223372036854775807 := by unfold maxLen at hcm; omega
    clear hold hfit hi0 hz0 hb0 hs0 hC hcs hG hcz hge hcm
    go_enter Tryd.func27, Tryd.ntmps27
    go_wp2_with (at_builtin; refine Lib.wpList_append_run _ rfl _ _ _ _ rfl _ _ rfl rfl _ _ hrz ?_)
    go_ret
    exact ⟨⟨some ⟨w.heap.size, 0, none⟩, 0, G⟩, rfl, HO.out, (Below.refl _ _).drew.alloc (Nat.le_refl _) _⟩
end Go.Proofs.YtgkfnfilomjphaaDoor
