/-
  branch, for whatever instruction, the program's.
-/
import Derived.Test.YtkhgeldnlffgjabDoorExt
namespace Go.Proofs.YtkhgeldnlffgjabDoor
open Go.ChangeShapes Go.WideShapes Go.ChangeAt Go.RowKit
attribute [local go_sem ↓] loadCpu_seal storeCpu_seal loadIn_seal storeIn_seal
attribute [local go_sem] loadCpu_run storeCpu_run loadIn_run storeIn_run rowAt_at rowAt_past rowAt_drew rowAt_drewN roomCpu_new roomIn_new roomAt_old roomAt_drew roomAt_drewN putCpu_new putIn_new Cp.zero_fold In.fold putRow_past rowCpu_put rowIn_put size_put putRow_drew putRow_drewN alloc_drewN setCell_drewN Cp.at16 Cp.at17 Cp.at18 Cp.at19 Cp.at20 Cp.at21 Cp.size Cp.set16 Cp.set17 Cp.set18 Cp.set19 Cp.set20 Cp.set21 In.at0 In.at1 In.at2 In.at3 In.at4 In.at5 In.at6 In.at7 In.size In.set0 In.set1 In.set2 In.set3 In.ne Cp.ne In.set4 In.set5 In.set6 In.set7
attribute [local go_sem ↓] eqlCpu_seal
set_option linter.unusedVariables false

theorem Keeps.drewN {w : World} {rows : List (Nat × Array Value)} {X : World} (h : Keeps w rows X) (n : Nat) : Keeps w rows (X.drewN n) := ⟨bdrewN h.1 n, h.2⟩
set_option maxHeartbeats 1000000 in
theorem br_no (c : Cp) (i : In) (w : World) (hC : 0 ≤ i.C ∧ i.C < 16) (hH : holdsB c.on i.A = false) : Calls Tryd.prog 14 #[.agg c.cells, .agg i.cells] w fun e w' => e = .returned (.agg (c.on).cells) ∧ Below w.heap.size w w' := by
  have hrc := Cp.atR c i.C.toNat (by omega)
  obtain ⟨c0, c1⟩ := hC
  go_enter Tryd.func14, Tryd.ntmps14
  go_wp2
  go_quiet (fail)
  go_wp2_with (go_at_call 26; refine (holds_any c.on i.A _).mono ?_; rintro e w1 ⟨rfl, hb⟩; have HK : Hid (Keeps w [(w.heap.size + 2, Cp.zero.cells), (w.heap.size + 1, i.cells), (w.heap.size, c.on.cells)] w1) := Keeps.call hb (Keeps.drewN (keeps3 w _ _ _ _ _ _) _); have q1 := HK.out.row (b := w.heap.size) (c := c.on.cells) (by simp); have q2 := HK.out.cell (b := w.heap.size) (c := c.on.cells) (by simp); have q3 := HK.out.cell (b := w.heap.size + 1) (c := i.cells) (by simp); have q4 : roomAt w1 (w.heap.size + 1 + 1) 22 = true := HK.out.room (b := w.heap.size + 2) (c := Cp.zero.cells) (by simp); rw [hH])
  exact ret_cell1 rfl rfl (loadCpu_row (rowCpu_put _ _ _ q4)) rfl ⟨rfl, below_put HK.out.1 _ (by omega) _⟩
set_option maxHeartbeats 1000000 in
theorem br_reg (c : Cp) (i : In) (w : World) (hC : 0 ≤ i.C ∧ i.C < 16) (hH : holdsB c.on i.A = true) (hV : i.V = false) (hU : i.U = false) : Calls Tryd.prog 14 #[.agg c.cells, .agg i.cells] w fun e w' => e = .returned (.agg ({ c.on with PC := c.R i.C.toNat }).cells) ∧ Below w.heap.size w w' := by
  have hrc := Cp.atR c i.C.toNat (by omega)
  obtain ⟨c0, c1⟩ := hC
  go_enter Tryd.func14, Tryd.ntmps14
  go_wp2
  go_quiet (fail)
  go_wp2_with (go_at_call 26; refine (holds_any c.on i.A _).mono ?_; rintro e w1 ⟨rfl, hb⟩; have HK : Hid (Keeps w [(w.heap.size + 2, Cp.zero.cells), (w.heap.size + 1, i.cells), (w.heap.size, c.on.cells)] w1) := Keeps.call hb (Keeps.drewN (keeps3 w _ _ _ _ _ _) _); have q1 := HK.out.row (b := w.heap.size) (c := c.on.cells) (by simp); have q2 := HK.out.cell (b := w.heap.size) (c := c.on.cells) (by simp); have q3 := HK.out.cell (b := w.heap.size + 1) (c := i.cells) (by simp); have q4 : roomAt w1 (w.heap.size + 1 + 1) 22 = true := HK.out.room (b := w.heap.size + 2) (c := Cp.zero.cells) (by simp); have f1 := HK.out.froz (b := w.heap.size) (c := (c.on).cells) (by simp) 21 (by rw [Cp.size]; omega); have HS1 : Hid (Keeps w [(w.heap.size + 2, Cp.zero.cells), (w.heap.size + 1, i.cells), (w.heap.size, ({ c.on with PC := c.R i.C.toNat }).cells)] (w1.setCell ⟨w.heap.size, 21, none⟩ (.int .u32 (c.R i.C.toNat)))) := by { have hz := HK.out.set1 21 (.int .u32 (c.R i.C.toNat)) (by omega) (by omega) (Nat.le_refl _); rw [Cp.set21] at hz; exact hz }; have g1 := HS1.out.row (b := w.heap.size) (c := ({ c.on with PC := c.R i.C.toNat }).cells) (by simp); have c1_ := HS1.out.cell (b := w.heap.size) (c := ({ c.on with PC := c.R i.C.toNat }).cells) (by simp); have m1 := HS1.out.cell (b := w.heap.size + 1) (c := i.cells) (by simp); have t1 : roomAt (w1.setCell ⟨w.heap.size, 21, none⟩ (.int .u32 (c.R i.C.toNat))) (w.heap.size + 1 + 1) 22 = true := HS1.out.room (b := w.heap.size + 2) (c := Cp.zero.cells) (by simp); rw [hH])
  exact ret_cell1 rfl rfl (loadCpu_row (rowCpu_put _ _ _ t1)) rfl ⟨rfl, below_put HS1.out.1 _ (by omega) _⟩
set_option maxHeartbeats 1000000 in
theorem br_regV (c : Cp) (i : In) (w : World) (hC : 0 ≤ i.C ∧ i.C < 16) (hH : holdsB c.on i.A = true) (hV : i.V = true) (hU : i.U = false) : Calls Tryd.prog 14 #[.agg c.cells, .agg i.cells] w fun e w' => e = .returned (.agg ({ c.on.setR 15 ((c.PC + 4) % 4294967296) with PC := c.R i.C.toNat }).cells) ∧ Below w.heap.size w w' := by
  have hrc := Cp.atR c i.C.toNat (by omega)
  obtain ⟨c0, c1⟩ := hC
  go_enter Tryd.func14, Tryd.ntmps14
  go_wp2
  go_quiet (fail)
  go_wp2_with (go_at_call 26; refine (holds_any c.on i.A _).mono ?_; rintro e w1 ⟨rfl, hb⟩; have HK : Hid (Keeps w [(w.heap.size + 2, Cp.zero.cells), (w.heap.size + 1, i.cells), (w.heap.size, c.on.cells)] w1) := Keeps.call hb (Keeps.drewN (keeps3 w _ _ _ _ _ _) _); have q1 := HK.out.row (b := w.heap.size) (c := c.on.cells) (by simp); have q2 := HK.out.cell (b := w.heap.size) (c := c.on.cells) (by simp); have q3 := HK.out.cell (b := w.heap.size + 1) (c := i.cells) (by simp); have q4 : roomAt w1 (w.heap.size + 1 + 1) 22 = true := HK.out.room (b := w.heap.size + 2) (c := Cp.zero.cells) (by simp); have f1 := HK.out.froz (b := w.heap.size) (c := (c.on).cells) (by simp) 15 (by rw [Cp.size]; omega); have HS1 : Hid (Keeps w [(w.heap.size + 2, Cp.zero.cells), (w.heap.size + 1, i.cells), (w.heap.size, (c.on.setR 15 ((c.PC + 4) % 4294967296)).cells)] (w1.setCell ⟨w.heap.size, 15, none⟩ (.int .u32 ((c.PC + 4) % 4294967296)))) := by { have hz := HK.out.set1 15 (.int .u32 ((c.PC + 4) % 4294967296)) (by omega) (by omega) (Nat.le_refl _); rw [Cp.setAt c.on 15 _ (by omega)] at hz; exact hz }; have g1 := HS1.out.row (b := w.heap.size) (c := (c.on.setR 15 ((c.PC + 4) % 4294967296)).cells) (by simp); have c1_ := HS1.out.cell (b := w.heap.size) (c := (c.on.setR 15 ((c.PC + 4) % 4294967296)).cells) (by simp); have m1 := HS1.out.cell (b := w.heap.size + 1) (c := i.cells) (by simp); have t1 : roomAt (w1.setCell ⟨w.heap.size, 15, none⟩ (.int .u32 ((c.PC + 4) % 4294967296))) (w.heap.size + 1 + 1) 22 = true := HS1.out.room (b := w.heap.size + 2) (c := Cp.zero.cells) (by simp); have f2 := HS1.out.froz (b := w.heap.size) (c := (c.on.setR 15 ((c.PC + 4) % 4294967296)).cells) (by simp) 21 (by rw [Cp.size]; omega); have HS2 : Hid (Keeps w [(w.heap.size + 2, Cp.zero.cells), (w.heap.size + 1, i.cells), (w.heap.size, ({ c.on.setR 15 ((c.PC + 4) % 4294967296) with PC := c.R i.C.toNat }).cells)] ((w1.setCell ⟨w.heap.size, 15, none⟩ (.int .u32 ((c.PC + 4) % 4294967296))).setCell ⟨w.heap.size, 21, none⟩ (.int .u32 (c.R i.C.toNat)))) := by { have hz := HS1.out.set1 21 (.int .u32 (c.R i.C.toNat)) (by omega) (by omega) (Nat.le_refl _); rw [Cp.set21] at hz; exact hz }; have g2 := HS2.out.row (b := w.heap.size) (c := ({ c.on.setR 15 ((c.PC + 4) % 4294967296) with PC := c.R i.C.toNat }).cells) (by simp); have c2_ := HS2.out.cell (b := w.heap.size) (c := ({ c.on.setR 15 ((c.PC + 4) % 4294967296) with PC := c.R i.C.toNat }).cells) (by simp); have m2 := HS2.out.cell (b := w.heap.size + 1) (c := i.cells) (by simp); have t2 : roomAt ((w1.setCell ⟨w.heap.size, 15, none⟩ (.int .u32 ((c.PC + 4) % 4294967296))).setCell ⟨w.heap.size, 21, none⟩ (.int .u32 (c.R i.C.toNat))) (w.heap.size + 1 + 1) 22 = true := HS2.out.room (b := w.heap.size + 2) (c := Cp.zero.cells) (by simp); rw [hH])
  exact ret_cell1 rfl rfl (loadCpu_row (rowCpu_put _ _ _ t2)) rfl ⟨rfl, below_put HS2.out.1 _ (by omega) _⟩
set_option maxHeartbeats 1000000 in
theorem br_far (c : Cp) (i : In) (w : World) (hC : 0 ≤ i.C ∧ i.C < 16) (hH : holdsB c.on i.A = true) (hV : i.V = false) (hU : i.U = true) : Calls Tryd.prog 14 #[.agg c.cells, .agg i.cells] w fun e w' => e = .returned (.agg ({ c.on with PC := (c.on.PC + 4 * i.N) % 4294967296 }).cells) ∧ Below w.heap.size w w' := by
  have hrc := Cp.atR c i.C.toNat (by omega)
  obtain ⟨c0, c1⟩ := hC
  go_enter Tryd.func14, Tryd.ntmps14
  go_wp2
  go_quiet (fail)
  go_wp2_with (go_at_call 26; refine (holds_any c.on i.A _).mono ?_; rintro e w1 ⟨rfl, hb⟩; have HK : Hid (Keeps w [(w.heap.size + 2, Cp.zero.cells), (w.heap.size + 1, i.cells), (w.heap.size, c.on.cells)] w1) := Keeps.call hb (Keeps.drewN (keeps3 w _ _ _ _ _ _) _); have q1 := HK.out.row (b := w.heap.size) (c := c.on.cells) (by simp); have q2 := HK.out.cell (b := w.heap.size) (c := c.on.cells) (by simp); have q3 := HK.out.cell (b := w.heap.size + 1) (c := i.cells) (by simp); have q4 : roomAt w1 (w.heap.size + 1 + 1) 22 = true := HK.out.room (b := w.heap.size + 2) (c := Cp.zero.cells) (by simp); have ff := HK.out.froz (b := w.heap.size) (c := (c.on).cells) (by simp) 21 (by rw [Cp.size]; omega); have HF : Hid (∀ v : Int, Keeps w [(w.heap.size + 2, Cp.zero.cells), (w.heap.size + 1, i.cells), (w.heap.size, ({ c.on with PC := v } : Cp).cells)] (w1.setCell ⟨w.heap.size, 21, none⟩ (.int .u32 v))) := fun v => by { have hz := HK.out.set1 21 (.int .u32 v) (by omega) (by omega) (Nat.le_refl _); rw [Cp.set21] at hz; exact hz }; have gF := fun v => (HF.out v).row (b := w.heap.size) (c := ({ c.on with PC := v } : Cp).cells) (by simp); have tF : ∀ v : Int, roomAt (w1.setCell ⟨w.heap.size, 21, none⟩ (.int .u32 v)) (w.heap.size + 1 + 1) 22 = true := fun v => (HF.out v).room (b := w.heap.size + 2) (c := Cp.zero.cells) (by simp); rw [hH])
  refine ret_cell1 rfl rfl (loadCpu_row (rowCpu_put _ _ _ (tF _))) rfl ⟨?_, below_put (HF.out _).1 _ (by omega) _⟩
  first | rfl | (congr 3; simp only [Cp.mk.injEq, true_and]; have hp : c.on.PC = (c.PC + 4) % 4294967296 := rfl; omega)
set_option maxHeartbeats 1000000 in
theorem br_farV (c : Cp) (i : In) (w : World) (hC : 0 ≤ i.C ∧ i.C < 16) (hH : holdsB c.on i.A = true) (hV : i.V = true) (hU : i.U = true) : Calls Tryd.prog 14 #[.agg c.cells, .agg i.cells] w fun e w' => e = .returned (.agg ({ c.on.setR 15 ((c.PC + 4) % 4294967296) with PC := (c.on.PC + 4 * i.N) % 4294967296 }).cells) ∧ Below w.heap.size w w' := by
  have hrc := Cp.atR c i.C.toNat (by omega)
  obtain ⟨c0, c1⟩ := hC
  go_enter Tryd.func14, Tryd.ntmps14
  go_wp2
  go_quiet (fail)
  go_wp2_with (go_at_call 26; refine (holds_any c.on i.A _).mono ?_; rintro e w1 ⟨rfl, hb⟩; have HK : Hid (Keeps w [(w.heap.size + 2, Cp.zero.cells), (w.heap.size + 1, i.cells), (w.heap.size, c.on.cells)] w1) := Keeps.call hb (Keeps.drewN (keeps3 w _ _ _ _ _ _) _); have q1 := HK.out.row (b := w.heap.size) (c := c.on.cells) (by simp); have q2 := HK.out.cell (b := w.heap.size) (c := c.on.cells) (by simp); have q3 := HK.out.cell (b := w.heap.size + 1) (c := i.cells) (by simp); have q4 : roomAt w1 (w.heap.size + 1 + 1) 22 = true := HK.out.room (b := w.heap.size + 2) (c := Cp.zero.cells) (by simp); have f1 := HK.out.froz (b := w.heap.size) (c := (c.on).cells) (by simp) 15 (by rw [Cp.size]; omega); have HS1 : Hid (Keeps w [(w.heap.size + 2, Cp.zero.cells), (w.heap.size + 1, i.cells), (w.heap.size, (c.on.setR 15 ((c.PC + 4) % 4294967296)).cells)] (w1.setCell ⟨w.heap.size, 15, none⟩ (.int .u32 ((c.PC + 4) % 4294967296)))) := by { have hz := HK.out.set1 15 (.int .u32 ((c.PC + 4) % 4294967296)) (by omega) (by omega) (Nat.le_refl _); rw [Cp.setAt c.on 15 _ (by omega)] at hz; exact hz }; have g1 := HS1.out.row (b := w.heap.size) (c := (c.on.setR 15 ((c.PC + 4) % 4294967296)).cells) (by simp); have c1_ := HS1.out.cell (b := w.heap.size) (c := (c.on.setR 15 ((c.PC + 4) % 4294967296)).cells) (by simp); have m1 := HS1.out.cell (b := w.heap.size + 1) (c := i.cells) (by simp); have t1 : roomAt (w1.setCell ⟨w.heap.size, 15, none⟩ (.int .u32 ((c.PC + 4) % 4294967296))) (w.heap.size + 1 + 1) 22 = true := HS1.out.room (b := w.heap.size + 2) (c := Cp.zero.cells) (by simp); have ff := HS1.out.froz (b := w.heap.size) (c := (c.on.setR 15 ((c.PC + 4) % 4294967296)).cells) (by simp) 21 (by rw [Cp.size]; omega); have HF : Hid (∀ v : Int, Keeps w [(w.heap.size + 2, Cp.zero.cells), (w.heap.size + 1, i.cells), (w.heap.size, ({ c.on.setR 15 ((c.PC + 4) % 4294967296) with PC := v } : Cp).cells)] ((w1.setCell ⟨w.heap.size, 15, none⟩ (.int .u32 ((c.PC + 4) % 4294967296))).setCell ⟨w.heap.size, 21, none⟩ (.int .u32 v))) := fun v => by { have hz := HS1.out.set1 21 (.int .u32 v) (by omega) (by omega) (Nat.le_refl _); rw [Cp.set21] at hz; exact hz }; have gF := fun v => (HF.out v).row (b := w.heap.size) (c := ({ c.on.setR 15 ((c.PC + 4) % 4294967296) with PC := v } : Cp).cells) (by simp); have tF : ∀ v : Int, roomAt ((w1.setCell ⟨w.heap.size, 15, none⟩ (.int .u32 ((c.PC + 4) % 4294967296))).setCell ⟨w.heap.size, 21, none⟩ (.int .u32 v)) (w.heap.size + 1 + 1) 22 = true := fun v => (HF.out v).room (b := w.heap.size + 2) (c := Cp.zero.cells) (by simp); rw [hH])
  refine ret_cell1 rfl rfl (loadCpu_row (rowCpu_put _ _ _ (tF _))) rfl ⟨?_, below_put (HF.out _).1 _ (by omega) _⟩
  first | rfl | (congr 3; simp only [Cp.mk.injEq, true_and]; have hp : c.on.PC = (c.PC + 4) % 4294967296 := rfl; omega)
theorem branch_any (c : Cp) (i : In) (w : World) (hC : 0 ≤ i.C ∧ i.C < 16) : Calls Tryd.prog 14 #[.agg c.cells, .agg i.cells] w fun e w' => e = .returned (.agg (c.branched i).cells) ∧ Below w.heap.size w w' := by
  unfold Cp.branched Cp.aimed
  cases hH : holdsB c.on i.A
  · simp only [Bool.false_eq_true, if_false]
    exact br_no c i w hC hH
  · simp only [if_true]
    cases hV : i.V
    · cases hU : i.U
      · simp only [Bool.false_eq_true, if_false]
        exact br_reg c i w hC hH hV hU
      · simp only [Bool.false_eq_true, if_false, if_true]
        exact br_far c i w hC hH hV hU
    · cases hU : i.U
      · simp only [Bool.false_eq_true, if_false, if_true]
        exact br_regV c i w hC hH hV hU
      · simp only [if_true]
        exact br_farV c i w hC hH hV hU
end Go.Proofs.YtkhgeldnlffgjabDoor
