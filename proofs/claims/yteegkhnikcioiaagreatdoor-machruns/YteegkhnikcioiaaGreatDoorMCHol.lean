/-
  The document's Holds.
-/
import Derived.Test.YteegkhnikcioiaaGreatDoorMCPuts
import Derived.Test.YteegkhnikcioiaaGreatDoorMCEnds
namespace Go.Proofs.YteegkhnikcioiaaGreatDoor.Cpu
open Go.ChangeShapes Go.WideShapes Go.ChangeAt Go.RowKit
attribute [local go_sem ↓] loadCpu_seal storeCpu_seal loadIn_seal storeIn_seal
attribute [local go_sem] loadCpu_run storeCpu_run loadIn_run storeIn_run rowAt_at rowAt_past rowAt_drew rowAt_drewN roomCpu_new roomIn_new roomAt_old roomAt_drew roomAt_drewN putCpu_new putIn_new Cp.zero_fold In.fold putRow_past rowCpu_put rowIn_put size_put putRow_drew putRow_drewN alloc_drewN setCell_drewN Cp.at16 Cp.at17 Cp.at18 Cp.at19 Cp.at20 Cp.at21 Cp.size Cp.set16 Cp.set17 Cp.set18 Cp.set19 Cp.set20 Cp.set21 In.at0 In.at1 In.at2 In.at3 In.at4 In.at5 In.at6 In.at7 In.size In.set0 In.set1 In.set2 In.set3 In.ne Cp.ne In.set4 In.set5 In.set6 In.set7
attribute [local go_sem ↓] eqlCpu_seal
set_option linter.unusedVariables false

set_option maxHeartbeats 8000000 in
theorem rholds_any (c : Cp) (k : Int) (w : World) :
    Calls Tryz.prog 115 #[.agg c.cells, .int .i64 k] w fun e w' => e = .returned (.bool (holdsB c k)) ∧ Below w.heap.size w w' := by
  by_cases hk : 0 ≤ k ∧ k < 16
  · have : k = 0 ∨ k = 1 ∨ k = 2 ∨ k = 3 ∨ k = 4 ∨ k = 5 ∨ k = 6 ∨ k = 7 ∨ k = 8 ∨ k = 9 ∨ k = 10 ∨ k = 11 ∨ k = 12 ∨ k = 13 ∨ k = 14 ∨ k = 15 := by omega
    clear hk
    rcases this with rfl|rfl|rfl|rfl|rfl|rfl|rfl|rfl|rfl|rfl|rfl|rfl|rfl|rfl|rfl|rfl
    all_goals
      go_enter Tryz.func115, Tryz.ntmps115
      go_wp2
    all_goals go_ret
    all_goals refine ⟨ret_bool ?_, ?_⟩
    all_goals first | (simp only [holdsB, bareH]; simp_all; done) | go_grown
  · have hf : holdsB c k = false := by unfold holdsB; simp [hk]
    rw [hf]
    have h2 : k < 0 ∨ 16 ≤ k := by omega
    clear hk hf
    rcases h2 with h2 | h2
    all_goals
      go_enter Tryz.func115, Tryz.ntmps115
      go_wp2
      go_ret
      exact ⟨rfl, (Below.refl _ _).alloc (Nat.le_refl _) _⟩
end Go.Proofs.YteegkhnikcioiaaGreatDoor.Cpu
