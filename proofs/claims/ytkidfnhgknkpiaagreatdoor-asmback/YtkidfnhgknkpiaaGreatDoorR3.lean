/-
  The document's layer 6: branches.
-/
import Derived.Test.YtkidfnhgknkpiaaGreatDoorR2
namespace Go.Proofs.YtkidfnhgknkpiaaGreatDoor
set_option linter.unusedVariables false
set_option linter.unusedSimpArgs false
open Go.ChangeShapes Go.WideShapes Go.ChangeAt Go.RowKit
attribute [local go_sem ↓] loadIn_seal storeIn_seal
attribute [local go_sem] loadIn_run storeIn_run rowAt_at rowAt_old rowAt_drew rowAt_drewN roomCpu_new roomIn_new roomAt_old roomAt_drew roomAt_drewN putCpu_new putIn_new Cp.zero_fold In.fold putRow_past rowCpu_put rowIn_put size_put putRow_drew putRow_drewN alloc_drewN setCell_drewN Cp.at16 Cp.at17 Cp.at18 Cp.at19 Cp.at20 Cp.at21 Cp.size Cp.set16 Cp.set17 Cp.set18 Cp.set19 Cp.set20 Cp.set21 In.at0 In.at1 In.at2 In.at3 In.at4 In.at5 In.at6 In.at7 In.size In.set0 In.set1 In.set2 In.set3 In.ne Cp.ne In.set4 In.set5 In.set6 In.set7

theorem toR_eq (a n : Int) : IntKind.i64.wrap (IntKind.u32.wrap ((a + 4) % 4294967296 + IntKind.u32.wrap (4 * n))) = toP a n := by rw [IntKind.wrap_i64, IntKind.wrap_u32, IntKind.wrap_u32]; unfold toP; omega
set_option maxRecDepth 20000 in
set_option maxHeartbeats 1000000 in
theorem rbranch_any (i : In) (hi : Wr i) (a : Int) (w : World) : Calls Tryz.prog 25 #[.agg i.cells, .int .u32 a] w fun e w' => e = .returned (.string (bs (branchP i a))) ∧ Below w.heap.size w w' := by
  obtain ⟨⟨a0, a1⟩, ⟨b0, b1⟩, ⟨c0, c1⟩, n0, n1⟩ := hi
  have R1 := fun X => rreg_any i.C (by omega) (by omega) X
  have hbd := toP_bd a i.N
  have R2 : ∀ z X, z = toP a i.N → Calls Tryz.prog 27 #[.int .i64 z] X fun e w' => e = .returned (.string (bs (Lib.itoa (toP a i.N)))) ∧ w' = X := fun z X hz => by subst hz; exact rdigits_any (toP a i.N) (by omega) (by omega) X
  have RC := rconds_any
  have z1 := reg_size' i.C (by omega) (by omega)
  have z3 := itoa_size (toP a i.N) (by omega) (by omega)
  have z2 : (bs (condName i.A)).size = 2 := by rw [bs_size, cond_len]
  have od : decide (i.A < 0) = false := by simpa using a0
  have oe : decide (16 ≤ i.A) = false := by simpa using a1
  have hz : i.A.toNat < 16 := by omega
  have hza : ((i.A.toNat : Nat) : Int) = i.A := Int.toNat_of_nonneg a0
  cases hV : i.V <;> cases hU : i.U
  · have hm : branchP i a = [74, 77, 80, 32] ++ condName i.A ++ [44, 32] ++ regP i.C := by simp [branchP, hU, hV]
    have HM : Hid (branchP i a = _) := hm
    clear hm
    go_enter Tryz.func25, Tryz.ntmps25
    go_wp2
    go_region_with (go_at_call 57; refine (RC _).mono ?_; rintro e w1 ⟨g, rfl, hg1, hg2, hcc, hb1⟩; have k1 : w1.cell? ⟨g, i.A.toNat, none⟩ = some (.string (bs (condName i.A))) := (by have := hcc i.A.toNat hz; rwa [hza] at this); have k2 : rowAt w1 w.heap.size = some i.cells := (rowAt_below hb1 _ (by simp)).trans (by simp [go_sem]); have k3 := rowAt_cell k2; clear hcc)
    all_goals
      go_wp2_with (go_at_call 26; refine (R1 _).mono ?_; rintro e w' ⟨rfl, hw⟩; rw [hw]; clear hw)
      go_ret
      exact ⟨ret_str (by rw [HM.out, ← bs_app, ← bs_app, ← bs_app]; rfl), ((Below.refl _ _).alloc (Nat.le_refl _) _).drew.trans (hb1.mono (by simp))⟩
  · have hm : branchP i a = [74, 77, 80, 32] ++ condName i.A ++ [44, 32] ++ Lib.itoa (toP a i.N) := by simp [branchP, hU, hV]
    have HM : Hid (branchP i a = _) := hm
    clear hm
    go_enter Tryz.func25, Tryz.ntmps25
    go_wp2
    go_region_with (go_at_call 57; refine (RC _).mono ?_; rintro e w1 ⟨g, rfl, hg1, hg2, hcc, hb1⟩; have k1 : w1.cell? ⟨g, i.A.toNat, none⟩ = some (.string (bs (condName i.A))) := (by have := hcc i.A.toNat hz; rwa [hza] at this); have k2 : rowAt w1 w.heap.size = some i.cells := (rowAt_below hb1 _ (by simp)).trans (by simp [go_sem]); have k3 := rowAt_cell k2; clear hcc)
    all_goals
      go_wp2_with (go_at_call 27; refine (R2 _ _ (by simp only [IntKind.wrap_i64, IntKind.wrap_u32, toP] <;> omega)).mono ?_; rintro e w' ⟨rfl, hw⟩; rw [hw]; clear hw)
      go_ret
      exact ⟨ret_str (by rw [HM.out, ← bs_app, ← bs_app, ← bs_app]; rfl), ((Below.refl _ _).alloc (Nat.le_refl _) _).drew.trans (hb1.mono (by simp))⟩
  · have hm : branchP i a = [67, 65, 76, 76, 32] ++ condName i.A ++ [44, 32] ++ regP i.C := by simp [branchP, hU, hV]
    have HM : Hid (branchP i a = _) := hm
    clear hm
    go_enter Tryz.func25, Tryz.ntmps25
    go_wp2
    go_region_with (go_at_call 57; refine (RC _).mono ?_; rintro e w1 ⟨g, rfl, hg1, hg2, hcc, hb1⟩; have k1 : w1.cell? ⟨g, i.A.toNat, none⟩ = some (.string (bs (condName i.A))) := (by have := hcc i.A.toNat hz; rwa [hza] at this); have k2 : rowAt w1 w.heap.size = some i.cells := (rowAt_below hb1 _ (by simp)).trans (by simp [go_sem]); have k3 := rowAt_cell k2; clear hcc)
    all_goals
      go_wp2_with (go_at_call 26; refine (R1 _).mono ?_; rintro e w' ⟨rfl, hw⟩; rw [hw]; clear hw)
      go_ret
      exact ⟨ret_str (by rw [HM.out, ← bs_app, ← bs_app, ← bs_app]; rfl), ((Below.refl _ _).alloc (Nat.le_refl _) _).drew.trans (hb1.mono (by simp))⟩
  · have hm : branchP i a = [67, 65, 76, 76, 32] ++ condName i.A ++ [44, 32] ++ Lib.itoa (toP a i.N) := by simp [branchP, hU, hV]
    have HM : Hid (branchP i a = _) := hm
    clear hm
    go_enter Tryz.func25, Tryz.ntmps25
    go_wp2
    go_region_with (go_at_call 57; refine (RC _).mono ?_; rintro e w1 ⟨g, rfl, hg1, hg2, hcc, hb1⟩; have k1 : w1.cell? ⟨g, i.A.toNat, none⟩ = some (.string (bs (condName i.A))) := (by have := hcc i.A.toNat hz; rwa [hza] at this); have k2 : rowAt w1 w.heap.size = some i.cells := (rowAt_below hb1 _ (by simp)).trans (by simp [go_sem]); have k3 := rowAt_cell k2; clear hcc)
    all_goals
      go_wp2_with (go_at_call 27; refine (R2 _ _ (by simp only [IntKind.wrap_i64, IntKind.wrap_u32, toP] <;> omega)).mono ?_; rintro e w' ⟨rfl, hw⟩; rw [hw]; clear hw)
      go_ret
      exact ⟨ret_str (by rw [HM.out, ← bs_app, ← bs_app, ← bs_app]; rfl), ((Below.refl _ _).alloc (Nat.le_refl _) _).drew.trans (hb1.mono (by simp))⟩
end Go.Proofs.YtkidfnhgknkpiaaGreatDoor
