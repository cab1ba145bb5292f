/-
  Exec, for whatever instruction, the program's.
-/
import Derived.Test.YteegkhnikcioiaaGreatDoorMCExb
namespace Go.Proofs.YteegkhnikcioiaaGreatDoor.Cpu
open Go.ChangeShapes Go.WideShapes Go.ChangeAt Go.RowKit
attribute [local go_sem ↓] loadCpu_seal storeCpu_seal loadIn_seal storeIn_seal
attribute [local go_sem] loadCpu_run storeCpu_run loadIn_run storeIn_run rowAt_at rowAt_past rowAt_drew rowAt_drewN roomCpu_new roomIn_new roomAt_old roomAt_drew roomAt_drewN putCpu_new putIn_new Cp.zero_fold In.fold putRow_past rowCpu_put rowIn_put size_put putRow_drew putRow_drewN alloc_drewN setCell_drewN Cp.at16 Cp.at17 Cp.at18 Cp.at19 Cp.at20 Cp.at21 Cp.size Cp.set16 Cp.set17 Cp.set18 Cp.set19 Cp.set20 Cp.set21 In.at0 In.at1 In.at2 In.at3 In.at4 In.at5 In.at6 In.at7 In.size In.set0 In.set1 In.set2 In.set3 In.ne Cp.ne In.set4 In.set5 In.set6 In.set7
attribute [local go_sem ↓] eqlCpu_seal
set_option linter.unusedVariables false

theorem Keeps.alloc {w : World} {rows : List (Nat × Array Value)} {X : World} (h : Keeps w rows X) (o : Obj) : Keeps w rows (X.alloc o) :=
  ⟨h.1.alloc h.1.size _, fun r hr => by
    have := h.2 r hr
    exact ⟨(rowAt_past _ _ _ this.2.2).trans this.1, (roomAt_old _ _ _ _ this.2.2).trans this.2.1, by simp; omega⟩⟩
/-- Exec of an operation that goes on. -/
theorem exec_goes (c d : Cp) (i : In) (x : Int) (w : World) (hw : Ways w) (hc : c.Ok) (hd : d.Ok) (hr : rightB i = true) (hF : i.F = 0 ∨ i.F = 1) (hpc : d.PC ≠ c.PC)
    (hop : Hid (∀ w, Calls Tryz.prog 107 #[.agg c.cells, .agg i.cells] w fun e w' => e = .returned (.agg d.cells) ∧ Below w.heap.size w w')) :
    Calls Tryz.prog 68 #[.agg c.cells, .agg i.cells, .int .u32 x] w fun e w' => e = .returned (.tuple #[.agg d.cells, .int .i64 0, .bool false]) ∧ Below w.heap.size w w' := by
  have K0 : Hid (Keeps w [(w.heap.size + 2, Cp.zero.cells), (w.heap.size + 1, i.cells), (w.heap.size, c.cells)] (((w.alloc (.cells c.cells 45)).alloc (.cells i.cells 123)).alloc (.cells Cp.zero.cells 45))) := keeps3 w _ _ _ _ _ _
  have HW : Hid (Ways (((w.alloc (.cells c.cells 45)).alloc (.cells i.cells 123)).alloc (.cells Cp.zero.cells 45))) := ((hw.alloc _).alloc _).alloc _
  have hne : ∀ w, (eqlCpu (.agg d.cells) (.agg c.cells)).run Tryz.prog w = .ok (.bool false) w := eqlCpu_ne _ c hd hc hpc
  clear hw hpc
  rcases hF with hF | hF
  all_goals
    go_enter Tryz.func68, Tryz.ntmps68
    go_wp2_with (first | (go_at_call 97; refine (right_any i _ HW.out).mono ?_; rw [hr]; rintro e w1 ⟨rfl, hb⟩; have HK : Hid (Keeps w [(w.heap.size + 2, Cp.zero.cells), (w.heap.size + 1, i.cells), (w.heap.size, c.cells)] w1) := K0.out.call hb; have q1 := HK.out.row (b := w.heap.size) (c := c.cells) (by simp); have q2 := HK.out.row (b := w.heap.size + 1) (c := i.cells) (by simp); have q3 := HK.out.cell (b := w.heap.size + 1) (c := i.cells) (by simp)) | (go_at_call 107; refine (hop.out _).mono ?_; rintro e w2 ⟨rfl, hb2⟩; have HK2 : Hid (Keeps w [(w.heap.size + 2, Cp.zero.cells), (w.heap.size + 1, i.cells), (w.heap.size, c.cells)] w2) := HK.out.call hb2; have q4 := HK2.out.row (b := w.heap.size) (c := c.cells) (by simp); have q5 : roomAt w2 (w.heap.size + 1 + 1) 22 = true := HK2.out.room (b := w.heap.size + 2) (c := Cp.zero.cells) (by simp); have q6 : w.heap.size + 1 + 1 < w2.heap.size := (HK2.out.2 (w.heap.size + 2, Cp.zero.cells) (by simp)).2.2; have q7 : w.heap.size < w2.heap.size := by omega))
    exact ret_cell_tmp2 rfl rfl (loadCpu_row ((rowAt_past _ _ _ (by rw [size_put]; exact q6)).trans (rowCpu_put _ _ _ q5))) rfl ⟨rfl, (below_put HK2.out.1 _ (by omega) _).alloc (by rw [size_put]; exact HK2.out.1.size) _⟩
set_option maxHeartbeats 2000000 in
theorem exec_traps (c : Cp) (i : In) (x n : Int) (w : World) (hw : Ways w) (hc : c.Ok) (hr : rightB i = true) (hF : i.F = 0 ∨ i.F = 1) (hop : Hid (∀ w, Calls Tryz.prog 107 #[.agg c.cells, .agg i.cells] w fun e w' => e = .returned (.agg c.cells) ∧ Below w.heap.size w w'))
    (hn : Hid (∀ w, Calls Tryz.prog 108 #[.agg i.cells] w fun e w' => e = .returned (.int .i64 n) ∧ Below w.heap.size w w')) :
    Calls Tryz.prog 68 #[.agg c.cells, .agg i.cells, .int .u32 x] w fun e w' => e = .returned (.tuple #[.agg c.cells, .int .i64 n, .bool true]) ∧ Below w.heap.size w w' := by
  have OP := hop
  have K0 : Hid (Keeps w [(w.heap.size + 2, Cp.zero.cells), (w.heap.size + 1, i.cells), (w.heap.size, c.cells)] (((w.alloc (.cells c.cells 45)).alloc (.cells i.cells 123)).alloc (.cells Cp.zero.cells 45))) := keeps3 w _ _ _ _ _ _
  have HW : Hid (Ways (((w.alloc (.cells c.cells 45)).alloc (.cells i.cells 123)).alloc (.cells Cp.zero.cells 45))) := ((hw.alloc _).alloc _).alloc _
  have hne : ∀ w, (eqlCpu (.agg c.cells) (.agg c.cells)).run Tryz.prog w = .ok (.bool true) w := eqlCpu_same c hc
  clear hw hop
  rcases hF with hF | hF
  all_goals
    go_enter Tryz.func68, Tryz.ntmps68
    go_wp2_with (first | (go_at_call 97; refine (right_any i _ HW.out).mono ?_; rw [hr]; rintro e w1 ⟨rfl, hb⟩; have HK : Hid (Keeps w [(w.heap.size + 2, Cp.zero.cells), (w.heap.size + 1, i.cells), (w.heap.size, c.cells)] w1) := K0.out.call hb; have q1 := HK.out.row (b := w.heap.size) (c := c.cells) (by simp); have q2 := HK.out.row (b := w.heap.size + 1) (c := i.cells) (by simp); have q3 := HK.out.cell (b := w.heap.size + 1) (c := i.cells) (by simp)) | (go_at_call 107; refine (OP.out _).mono ?_; rintro e w2 ⟨rfl, hb2⟩; have HK2 : Hid (Keeps w [(w.heap.size + 2, Cp.zero.cells), (w.heap.size + 1, i.cells), (w.heap.size, c.cells)] w2) := HK.out.call hb2; have q4 := HK2.out.row (b := w.heap.size) (c := c.cells) (by simp); have q8 := HK2.out.row (b := w.heap.size + 1) (c := i.cells) (by simp); have q6 : w.heap.size + 1 + 1 < w2.heap.size := (HK2.out.2 (w.heap.size + 2, Cp.zero.cells) (by simp)).2.2; have q7 : w.heap.size < w2.heap.size := (by omega); have q9 : w.heap.size + 1 < w2.heap.size := (by omega)))
    go_region_with ((go_at_call 108; refine (hn.out _).mono ?_; rintro e w3 ⟨rfl, hb3⟩; have HK3 : Hid (Keeps w [(w.heap.size + 2, Cp.zero.cells), (w.heap.size + 1, i.cells), (w.heap.size, c.cells)] w3) := Keeps.call hb3 (Keeps.drew (Keeps.alloc HK2.out _)); have t1 := HK3.out.row (b := w.heap.size) (c := c.cells) (by simp); have t5 : roomAt w3 (w.heap.size + 1 + 1) 22 = true := HK3.out.room (b := w.heap.size + 2) (c := Cp.zero.cells) (by simp)))
    all_goals go_wp2
    all_goals exact ret_cell_tmp2 rfl rfl (loadCpu_row (rowCpu_put _ _ _ t5)) rfl ⟨rfl, below_put HK3.out.1 _ (by omega) _⟩

theorem trap_num (i : In) (w : World) : Calls Tryz.prog 108 #[.agg i.cells] w fun e w' => e = .returned (.int .i64 (if i.O = 15 then i.N else 6)) ∧ Below w.heap.size w w' := by
  by_cases h : i.O = 15
  · rw [if_pos h]
    go_enter Tryz.func108, Tryz.ntmps108
    go_wp2
    go_ret
    exact ⟨rfl, (Below.refl _ _).alloc (Nat.le_refl _) _⟩
  · rw [if_neg h]
    go_enter Tryz.func108, Tryz.ntmps108
    go_wp2
    go_ret
    exact ⟨rfl, (Below.refl _ _).alloc (Nat.le_refl _) _⟩
end Go.Proofs.YteegkhnikcioiaaGreatDoor.Cpu
