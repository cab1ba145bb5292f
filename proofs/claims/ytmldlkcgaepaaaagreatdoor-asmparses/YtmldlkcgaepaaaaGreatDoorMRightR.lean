/-
  The document's Right answers as the program's right, for every instruction.
-/
import Derived.Test.YtmldlkcgaepaaaaGreatDoorMRefs
import Derived.Deep.Light
namespace Go.Proofs.YtmldlkcgaepaaaaGreatDoor
set_option linter.unusedSimpArgs false
open Go.ChangeShapes Go.WideShapes Go.ChangeAt Go.RowKit
attribute [local go_sem ↓] loadIn_seal storeIn_seal
attribute [local go_sem] loadIn_run storeIn_run rowAt_at rowAt_old rowAt_drew rowAt_drewN roomCpu_new roomIn_new roomAt_old roomAt_drew roomAt_drewN putCpu_new putIn_new Cp.zero_fold In.fold putRow_past rowCpu_put rowIn_put size_put putRow_drew putRow_drewN alloc_drewN setCell_drewN Cp.at16 Cp.at17 Cp.at18 Cp.at19 Cp.at20 Cp.at21 Cp.size Cp.set16 Cp.set17 Cp.set18 Cp.set19 Cp.set20 Cp.set21 In.at0 In.at1 In.at2 In.at3 In.at4 In.at5 In.at6 In.at7 In.size In.set0 In.set1 In.set2 In.set3 In.ne Cp.ne In.set4 In.set5 In.set6 In.set7

theorem aw_13_1 : bits .and .i64 13 1 = 1 := by decide +kernel
theorem aw_13_2 : bits .and .i64 13 2 = 0 := by decide +kernel
theorem aw_13_4 : bits .and .i64 13 4 = 4 := by decide +kernel
theorem aw_13_8 : bits .and .i64 13 8 = 8 := by decide +kernel
theorem aw_7_1 : bits .and .i64 7 1 = 1 := by decide +kernel
theorem aw_7_2 : bits .and .i64 7 2 = 2 := by decide +kernel
theorem aw_7_4 : bits .and .i64 7 4 = 4 := by decide +kernel
theorem aw_7_8 : bits .and .i64 7 8 = 0 := by decide +kernel
theorem aw_0_1 : bits .and .i64 0 1 = 0 := by decide +kernel
theorem aw_0_2 : bits .and .i64 0 2 = 0 := by decide +kernel
theorem aw_0_4 : bits .and .i64 0 4 = 0 := by decide +kernel
theorem aw_0_8 : bits .and .i64 0 8 = 0 := by decide +kernel
theorem aw_1_1 : bits .and .i64 1 1 = 1 := by decide +kernel
theorem aw_1_2 : bits .and .i64 1 2 = 0 := by decide +kernel
theorem aw_1_4 : bits .and .i64 1 4 = 0 := by decide +kernel
theorem aw_1_8 : bits .and .i64 1 8 = 0 := by decide +kernel
theorem aw_3_1 : bits .and .i64 3 1 = 1 := by decide +kernel
theorem aw_3_2 : bits .and .i64 3 2 = 2 := by decide +kernel
theorem aw_3_4 : bits .and .i64 3 4 = 0 := by decide +kernel
theorem aw_3_8 : bits .and .i64 3 8 = 0 := by decide +kernel
theorem aw_5_1 : bits .and .i64 5 1 = 1 := by decide +kernel
theorem aw_5_2 : bits .and .i64 5 2 = 0 := by decide +kernel
theorem aw_5_4 : bits .and .i64 5 4 = 4 := by decide +kernel
theorem aw_5_8 : bits .and .i64 5 8 = 0 := by decide +kernel
theorem aw_15_1 : bits .and .i64 15 1 = 1 := by decide +kernel
theorem aw_15_2 : bits .and .i64 15 2 = 2 := by decide +kernel
theorem aw_15_4 : bits .and .i64 15 4 = 4 := by decide +kernel
theorem aw_15_8 : bits .and .i64 15 8 = 8 := by decide +kernel
theorem may_rop (i : In) (hF : i.F = 0 ∨ i.F = 1 ∧ i.C = 0) : mayB i = ropB i := by
  by_cases ho : 0 ≤ i.O ∧ i.O < 16
  · obtain ⟨F, U, V, A, B, O, C, N⟩ := i
    simp only at hF ho
    have : O = 0 ∨ O = 1 ∨ O = 2 ∨ O = 3 ∨ O = 4 ∨ O = 5 ∨ O = 6 ∨ O = 7 ∨ O = 8 ∨ O = 9 ∨ O = 10 ∨ O = 11 ∨ O = 12 ∨ O = 13 ∨ O = 14 ∨ O = 15 := by omega
    clear ho
    rcases this with rfl|rfl|rfl|rfl|rfl|rfl|rfl|rfl|rfl|rfl|rfl|rfl|rfl|rfl|rfl|rfl <;> rcases hF with rfl | ⟨rfl, rfl⟩ <;> cases U <;> cases V <;> simp [mayB, ropB, waysZ, wayI, aw_13_1, aw_13_2, aw_13_4, aw_13_8, aw_7_1, aw_7_2, aw_7_4, aw_7_8, aw_0_1, aw_0_2, aw_0_4, aw_0_8, aw_1_1, aw_1_2, aw_1_4, aw_1_8, aw_3_1, aw_3_2, aw_3_4, aw_3_8, aw_5_1, aw_5_2, aw_5_4, aw_5_8, aw_15_1, aw_15_2, aw_15_4, aw_15_8]
  · unfold mayB ropB
    rw [if_pos (by omega)]
    simp [ho]
set_option maxHeartbeats 2000000 in
theorem rright_reg (i : In) (w : World) (hr : (0 ≤ i.A ∧ i.A < 16) ∧ (0 ≤ i.B ∧ i.B < 16) ∧ (0 ≤ i.C ∧ i.C < 16)) : Calls Tryz.prog 57 #[.agg i.cells] w fun e w' => e = .returned (.bool (rightB i)) ∧ Below w.heap.size w w' := by
  obtain ⟨⟨a0, a1⟩, ⟨b0, b1⟩, ⟨c0, c1⟩⟩ := hr
  have hF : i.F = 0 ∨ i.F = 1 ∨ i.F = 2 ∨ i.F = 3 ∨ (i.F < 0 ∨ 3 < i.F) := by omega
  rcases hF with hF | hF | hF | hF | hF
  · have HM : Hid (mayB i = ropB i) := may_rop i (.inl hF)
    go_enter Tryz.func57, Tryz.ntmps57
    go_wp2_with (go_at_call 92; refine (may_any i _).mono ?_; rintro e w1 ⟨rfl, hb⟩; obtain ⟨hc, hq, hm, hz⟩ := bcell hb)
    all_goals go_ret
    all_goals refine ⟨ret_bool ?_, ?_⟩
    all_goals first | exact (Below.refl _ _).alloc (Nat.le_refl _) _ | exact ((Below.refl _ _).alloc (Nat.le_refl _) _).trans (hb.mono (by simp)) | skip
    all_goals go_light
    all_goals have hm0 := HM.out.symm
    all_goals clear HM
    all_goals (rw [Bool.eq_iff_iff]; simp_all [rightB, regB, fit20, fit24, targetB])
  · have HM : Hid (i.C = 0 → mayB i = ropB i) := fun h => may_rop i (.inr ⟨hF, h⟩)
    go_enter Tryz.func57, Tryz.ntmps57
    go_wp2_with (go_at_call 92; refine (may_any i _).mono ?_; rintro e w1 ⟨rfl, hb⟩; obtain ⟨hc, hq, hm, hz⟩ := bcell hb)
    all_goals go_ret
    all_goals refine ⟨ret_bool ?_, ?_⟩
    all_goals first | exact (Below.refl _ _).alloc (Nat.le_refl _) _ | exact ((Below.refl _ _).alloc (Nat.le_refl _) _).trans (hb.mono (by simp)) | skip
    all_goals go_light
    all_goals have hm0 := HM.out
    all_goals clear HM
    all_goals by_cases hC : i.C = 0
    all_goals first | (have hm1 := (hm0 hC).symm; clear hm0) | clear hm0
    all_goals (rw [Bool.eq_iff_iff]; simp_all [rightB, regB, fit20, fit24, targetB])
    all_goals omega
  · go_enter Tryz.func57, Tryz.ntmps57
    go_wp2_with (go_at_call 92; refine (may_any i _).mono ?_; rintro e w1 ⟨rfl, hb⟩; obtain ⟨hc, hq, hm, hz⟩ := bcell hb)
    all_goals go_ret
    all_goals refine ⟨ret_bool ?_, ?_⟩
    all_goals first | exact (Below.refl _ _).alloc (Nat.le_refl _) _ | exact ((Below.refl _ _).alloc (Nat.le_refl _) _).trans (hb.mono (by simp)) | skip
    all_goals go_light
    all_goals (rw [Bool.eq_iff_iff]; simp_all [rightB, regB, fit20, fit24, targetB])
    all_goals omega
  · go_enter Tryz.func57, Tryz.ntmps57
    go_wp2_with (go_at_call 92; refine (may_any i _).mono ?_; rintro e w1 ⟨rfl, hb⟩; obtain ⟨hc, hq, hm, hz⟩ := bcell hb)
    all_goals go_ret
    all_goals refine ⟨ret_bool ?_, ?_⟩
    all_goals first | exact (Below.refl _ _).alloc (Nat.le_refl _) _ | exact ((Below.refl _ _).alloc (Nat.le_refl _) _).trans (hb.mono (by simp)) | skip
    all_goals go_light
    all_goals (rw [Bool.eq_iff_iff]; simp_all [rightB, regB, fit20, fit24, targetB])
    all_goals omega
  · go_enter Tryz.func57, Tryz.ntmps57
    go_wp2_with (go_at_call 92; refine (may_any i _).mono ?_; rintro e w1 ⟨rfl, hb⟩; obtain ⟨hc, hq, hm, hz⟩ := bcell hb)
    all_goals go_ret
    all_goals refine ⟨ret_bool ?_, ?_⟩
    all_goals first | exact (Below.refl _ _).alloc (Nat.le_refl _) _ | exact ((Below.refl _ _).alloc (Nat.le_refl _) _).trans (hb.mono (by simp)) | skip
    all_goals go_light
    all_goals (rw [Bool.eq_iff_iff]; simp_all [rightB, regB, fit20, fit24, targetB])
    all_goals omega
set_option maxHeartbeats 2000000 in
theorem rright_bad (i : In) (w : World) (hr : ¬ ((0 ≤ i.A ∧ i.A < 16) ∧ (0 ≤ i.B ∧ i.B < 16) ∧ (0 ≤ i.C ∧ i.C < 16))) : Calls Tryz.prog 57 #[.agg i.cells] w fun e w' => e = .returned (.bool (rightB i)) ∧ Below w.heap.size w w' := by
  have hf : rightB i = false := by
    rw [Bool.eq_false_iff]
    intro h
    have := right_bd h
    exact hr ⟨this.A, this.B, this.C⟩
  rw [hf]
  clear hf
  have hc : i.A < 0 ∨ 16 ≤ i.A ∨ (0 ≤ i.A ∧ i.A < 16 ∧ i.B < 0) ∨ (0 ≤ i.A ∧ i.A < 16 ∧ 16 ≤ i.B) ∨ (0 ≤ i.A ∧ i.A < 16 ∧ 0 ≤ i.B ∧ i.B < 16 ∧ i.C < 0) ∨ (0 ≤ i.A ∧ i.A < 16 ∧ 0 ≤ i.B ∧ i.B < 16 ∧ 16 ≤ i.C) := by omega
  clear hr
  rcases hc with h1 | h1 | ⟨h1, h2, h3⟩ | ⟨h1, h2, h3⟩ | ⟨h1, h2, h3, h4, h5⟩ | ⟨h1, h2, h3, h4, h5⟩
  all_goals
    go_enter Tryz.func57, Tryz.ntmps57
    go_wp2_with (go_at_call 92; refine (may_any i _).mono ?_; rintro e w1 ⟨rfl, hb⟩; obtain ⟨hc, hq, hm, hz⟩ := bcell hb)
    all_goals go_ret
    all_goals refine ⟨rfl, ?_⟩
    all_goals first | exact (Below.refl _ _).alloc (Nat.le_refl _) _ | exact ((Below.refl _ _).alloc (Nat.le_refl _) _).trans (hb.mono (by simp))
theorem rright_any (i : In) (w : World) : Calls Tryz.prog 57 #[.agg i.cells] w fun e w' => e = .returned (.bool (rightB i)) ∧ Below w.heap.size w w' := by
  by_cases hr : (0 ≤ i.A ∧ i.A < 16) ∧ (0 ≤ i.B ∧ i.B < 16) ∧ (0 ≤ i.C ∧ i.C < 16)
  · exact rright_reg i w hr
  · exact rright_bad i w hr
end Go.Proofs.YtmldlkcgaepaaaaGreatDoor
