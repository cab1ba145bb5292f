/-
  Contracts of the functions that tell whether a condition holds, the program's and the document's: each returns the same plain truth, for every processor and every number.
-/
import Derived.Test.YtpiiidelmcnhnabBase
import Derived.Deep.Light
namespace Go.Proofs.Ytpiiidelmcnhnab
open Go.ChangeShapes Go.WideShapes Go.ChangeAt Go.RowKit
attribute [local go_sem ↓] loadCpu_seal storeCpu_seal
attribute [local go_sem] loadCpu_run storeCpu_run rowAt_at rowAt_old rowAt_drew rowAt_drewN roomCpu_new roomIn_new roomAt_old roomAt_drew roomAt_drewN putCpu_new putIn_new Cp.zero_fold In.fold putRow_past rowCpu_put rowIn_put size_put putRow_drew putRow_drewN alloc_drewN setCell_drewN Cp.at16 Cp.at17 Cp.at18 Cp.at19 Cp.at20 Cp.at21 Cp.size Cp.set16 Cp.set17 Cp.set18 Cp.set19 Cp.set20 Cp.set21 In.at0 In.at1 In.at2 In.at3 In.at4 In.at5 In.at6 In.at7 In.size In.set0 In.set1 In.set2 In.set3 In.ne Cp.ne In.set4 In.set5 In.set6 In.set7

def bareH (c : Cp) (k : Int) : Bool := if k = 0 then c.N else if k = 1 then c.Z else if k = 2 then c.C else if k = 3 then c.V else if k = 4 then (c.C || c.Z) else if k = 5 then (!(c.N == c.V)) else if k = 6 then (!(c.N == c.V) || c.Z) else true
theorem bareHolds_any (c : Cp) (k : Int) (w : World) :
    Calls Try.prog 6 #[.agg c.cells, .int .i64 k] w fun e w' => e = .returned (.bool (bareH c k)) ∧ Below w.heap.size w w' := by
  go_enter Try.func6, Try.ntmps6
  go_wp2
  all_goals go_ret
  all_goals refine ⟨ret_bool ?_, (Below.refl _ _).alloc (Nat.le_refl _) _⟩
  all_goals (simp only [bareH]; simp_all)
def holdsB (c : Cp) (k : Int) : Bool := decide (0 ≤ k ∧ k < 16) && (bareH c (k % 8) == decide (k < 8))
theorem holds_any (c : Cp) (k : Int) (w : World) :
    Calls Try.prog 4 #[.agg c.cells, .int .i64 k] w fun e w' => e = .returned (.bool (holdsB c k)) ∧ Below w.heap.size w w' := by
  by_cases hk : 0 ≤ k ∧ k < 16
  · obtain ⟨k0, k1⟩ := hk
    go_enter Try.func4, Try.ntmps4
    go_wp2_with (go_at_call 6; refine (bareHolds_any c _ _).mono ?_; rintro e w' ⟨rfl, hb⟩)
    go_ret
    refine ⟨ret_bool (by unfold holdsB; simp [k0, k1]), ?_⟩
    exact ((Below.refl _ _).alloc (Nat.le_refl _) _).trans (hb.mono (by simp))
  · have hf : holdsB c k = false := by unfold holdsB; simp [hk]
    rw [hf]
    have h2 : k < 0 ∨ 16 ≤ k := by omega
    clear hk hf
    rcases h2 with h2 | h2
    all_goals
      go_enter Try.func4, Try.ntmps4
      go_wp2
      go_ret
      exact ⟨rfl, (Below.refl _ _).alloc (Nat.le_refl _) _⟩
set_option maxHeartbeats 8000000 in
theorem rholds_any (c : Cp) (k : Int) (w : World) :
    Calls Try.prog 5 #[.agg c.cells, .int .i64 k] w fun e w' => e = .returned (.bool (holdsB c k)) ∧ Below w.heap.size w w' := by
  by_cases hk : 0 ≤ k ∧ k < 16
  · have : k = 0 ∨ k = 1 ∨ k = 2 ∨ k = 3 ∨ k = 4 ∨ k = 5 ∨ k = 6 ∨ k = 7 ∨ k = 8 ∨ k = 9 ∨ k = 10 ∨ k = 11 ∨ k = 12 ∨ k = 13 ∨ k = 14 ∨ k = 15 := by omega
    clear hk
    rcases this with rfl|rfl|rfl|rfl|rfl|rfl|rfl|rfl|rfl|rfl|rfl|rfl|rfl|rfl|rfl|rfl
    all_goals
      go_enter Try.func5, Try.ntmps5
      go_wp2
    all_goals go_ret
    all_goals refine ⟨ret_bool ?_, ?_⟩
    all_goals first | (simp only [holdsB, bareH]; simp_all; done) | go_grown
  · have hf : holdsB c k = false := by unfold holdsB; simp [hk]
    rw [hf]
    have h2 : k < 0 ∨ 16 ≤ k := by omega
    clear hk hf
    rcases h2 with h2 | h2
    all_goals
      go_enter Try.func5, Try.ntmps5
      go_wp2
      go_ret
      exact ⟨rfl, (Below.refl _ _).alloc (Nat.le_refl _) _⟩
end Go.Proofs.Ytpiiidelmcnhnab
