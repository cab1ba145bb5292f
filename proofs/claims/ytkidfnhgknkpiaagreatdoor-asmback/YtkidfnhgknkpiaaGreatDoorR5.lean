/-
  The document's layer 6: Show: LDW and its like.
-/
import Derived.Test.YtkidfnhgknkpiaaGreatDoorR4
import Derived.Deep.RegionHeld3
namespace Go.Proofs.YtkidfnhgknkpiaaGreatDoor
set_option linter.unusedVariables false
set_option linter.unusedSimpArgs false
open Go.ChangeShapes Go.WideShapes Go.ChangeAt Go.RowKit
attribute [local go_sem ↓] loadIn_seal storeIn_seal
attribute [local go_sem] loadIn_run storeIn_run rowAt_at rowAt_old rowAt_drew rowAt_drewN roomCpu_new roomIn_new roomAt_old roomAt_drew roomAt_drewN putCpu_new putIn_new Cp.zero_fold In.fold putRow_past rowCpu_put rowIn_put size_put putRow_drew putRow_drewN alloc_drewN setCell_drewN Cp.at16 Cp.at17 Cp.at18 Cp.at19 Cp.at20 Cp.at21 Cp.size Cp.set16 Cp.set17 Cp.set18 Cp.set19 Cp.set20 Cp.set21 In.at0 In.at1 In.at2 In.at3 In.at4 In.at5 In.at6 In.at7 In.size In.set0 In.set1 In.set2 In.set3 In.ne Cp.ne In.set4 In.set5 In.set6 In.set7

section
variable (x a : Int) (i : In) (w : World) (hW : Wr i) (hD : Calls Tryz.prog 23 #[.int .u32 x] w fun e w' => e = .returned (.tuple #[.agg i.cells, .bool true]) ∧ Below w.heap.size w w')
include hW hD
set_option maxRecDepth 20000 in
set_option maxHeartbeats 4000000 in
theorem rshow_mem (h : i.F = 2) : Calls Tryz.prog 10 #[.int .u32 x, .int .u32 a] w fun e w' => e = .returned (.string (bs (showI i a))) ∧ Below w.heap.size w w' := by
  have hm := showI_mem i a h
  have g1 : (i.F == 3) = false := by simp [h]
  have g2 : (i.F == 2) = true := by simpa using h
  obtain ⟨⟨a0, a1⟩, ⟨b0, b1⟩, ⟨c0, c1⟩, n0, n1⟩ := hW
  have RA := fun X => rreg_any i.A (by omega) (by omega) X
  have RB := fun X => rreg_any i.B (by omega) (by omega) X
  have RN := fun X => rdigits_any i.N (by omega) (by omega) X
  have z1 := reg_size' i.A (by omega) (by omega)
  have z2 := reg_size' i.B (by omega) (by omega)
  have z3 := itoa_size i.N (by omega) (by omega)
  cases hU : i.U <;> cases hV : i.V
  all_goals
    simp only [hU, hV, if_true, if_false, Bool.false_eq_true] at hm
    have HM : Hid (showI i a = _) := hm
    clear hm
    go_enter Tryz.func10, Tryz.ntmps10
    go_wp2_with (go_at_call 23; refine hD.mono ?_; rintro e w1 ⟨rfl, hb⟩; have hs := hb.size)
    go_region_held (fun w' => rowAt w' w1.heap.size = some i.cells ∧ (∀ j, w'.cell? ⟨w1.heap.size, j, none⟩ = i.cells[j]?)) (first | (simp [*, rowAt_at, rowAt_drew]; done) | exact held_call (by assumption) (by assumption)) (first | (go_at_call 26; first | (refine (RA _).mono ?_; rintro e w' ⟨rfl, hw⟩; obtain rfl := hw.symm; clear hw) | (refine (RB _).mono ?_; rintro e w' ⟨rfl, hw⟩; obtain rfl := hw.symm; clear hw)) | (go_at_call 27; refine (RN _).mono ?_; rintro e w' ⟨rfl, hw⟩; obtain rfl := hw.symm; clear hw))
    all_goals
      go_wp2
      go_ret
      exact ⟨ret_str (by rw [HM.out]; simp only [← bs_app]; rfl), (hb.alloc hs _).drew⟩
end
end Go.Proofs.YtkidfnhgknkpiaaGreatDoor
