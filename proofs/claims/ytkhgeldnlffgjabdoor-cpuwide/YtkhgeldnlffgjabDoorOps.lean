/-
  Contracts of the operations of registers alone (SUB, MUL, DIV), and of Exec over them, the program's.
-/
import Derived.Test.YtkhgeldnlffgjabDoorShownB
namespace Go.Proofs.YtkhgeldnlffgjabDoor
open Go.ChangeShapes Go.WideShapes Go.ChangeAt Go.RowKit
attribute [local go_sem ↓] loadCpu_seal storeCpu_seal loadIn_seal storeIn_seal
attribute [local go_sem] loadCpu_run storeCpu_run loadIn_run storeIn_run rowAt_at rowAt_past rowAt_drew rowAt_drewN roomCpu_new roomIn_new roomAt_old roomAt_drew roomAt_drewN putCpu_new putIn_new Cp.zero_fold In.fold putRow_past rowCpu_put rowIn_put size_put putRow_drew putRow_drewN alloc_drewN setCell_drewN Cp.at16 Cp.at17 Cp.at18 Cp.at19 Cp.at20 Cp.at21 Cp.size Cp.set16 Cp.set17 Cp.set18 Cp.set19 Cp.set20 Cp.set21 In.at0 In.at1 In.at2 In.at3 In.at4 In.at5 In.at6 In.at7 In.size In.set0 In.set1 In.set2 In.set3 In.ne Cp.ne In.set4 In.set5 In.set6 In.set7
attribute [local go_sem ↓] eqlCpu_seal

def Cp.subbed (c : Cp) (i : In) (b x : Int) : Cp := ({ c with C := subC b x (i.U && c.C), V := subV b x (i.U && c.C) } : Cp).wrote i.A (subS b x (i.U && c.C))
theorem csub_any (c : Cp) (i : In) (b x : Int) (w : World) (a0 : 0 ≤ i.A) (a1 : i.A < 16) (b0 : 0 ≤ b) (b1 : b ≤ 4294967295) (x0 : 0 ≤ x) (x1 : x ≤ 4294967295) :
    Calls Tryd.prog 30 #[.agg c.cells, .agg i.cells, .int .u32 b, .int .u32 x] w fun e w' => e = .returned (.agg (c.subbed i b x).cells) ∧ Below w.heap.size w w' := by
  cases hU : i.U
  all_goals
    go_enter Tryd.func30, Tryd.ntmps30
    go_wp2_with (first | (go_at_call 39; refine (sub_any _ _ _ _ b0 b1 x0 x1).mono ?_; rintro e w' ⟨rfl, hx⟩; obtain rfl := hx.symm; clear hx) | (go_at_call 24; refine (write_any _ _ _ _ a0 a1 (by unfold subS; omega) (by unfold subS; omega)).mono ?_; rintro e w1 ⟨rfl, hb⟩; have hr1 : roomAt w1 (w.heap.size + 2) 22 = true := (roomAt_below hb _ _ (by simp)).trans (roomCpu_new _ _ _ _ (by simp))))
    refine ret_cell1 rfl rfl (loadCpu_row (rowCpu_put _ _ _ hr1)) rfl ⟨?_, below_put (Below.trans (by go_grown) (hb.mono (by simp; omega))) _ (by omega) _⟩
    simp [Cp.subbed, hU]
def Cp.divided (c : Cp) (i : In) (b x : Int) : Cp := if divB x = true then ({ c with H := divR b x } : Cp).wrote i.A (divQ b x) else c
theorem divQ_bd (b x : Int) : 0 ≤ divQ b x ∧ divQ b x ≤ 4294967295 := by unfold divQ; split <;> omega
theorem divR_bd (b x : Int) (x0 : 0 ≤ x) (x1 : x ≤ 4294967295) : 0 ≤ divR b x ∧ divR b x ≤ 4294967295 := by
  have := sg_bd x x0 x1
  unfold divR
  split
  · omega
  · have h1 := Int.emod_nonneg (sg b) (show sg x ≠ 0 by omega)
    have h2 := Int.emod_lt_of_pos (sg b) (show 0 < sg x by omega)
    omega
theorem cdiv_any (c : Cp) (i : In) (b x : Int) (w : World) (a0 : 0 ≤ i.A) (a1 : i.A < 16) (b0 : 0 ≤ b) (b1 : b ≤ 4294967295) (x0 : 0 ≤ x) (x1 : x ≤ 4294967295) :
    Calls Tryd.prog 32 #[.agg c.cells, .agg i.cells, .int .u32 b, .int .u32 x] w fun e w' => e = .returned (.agg (c.divided i b x).cells) ∧ Below w.heap.size w w' := by
  have hq := divQ_bd b x
  cases hB : divB x
  · have hd : c.divided i b x = c := by simp [Cp.divided, hB]
    rw [hd]
    clear hd
    go_enter Tryd.func32, Tryd.ntmps32
    go_wp2_with (go_at_call 41; refine (div_any _ _ _ b0 b1 x0 x1).mono ?_; rw [hB]; rintro e w' ⟨rfl, n, rfl⟩)
    refine ret_cell1 rfl rfl (loadCpu_row (c := c) ?_) rfl ⟨rfl, ?_⟩
    · simp [go_sem]
    · refine bdrewN ?_ _; go_grown
  · have hd : c.divided i b x = ({ c with H := divR b x } : Cp).wrote i.A (divQ b x) := by simp [Cp.divided, hB]
    rw [hd]
    clear hd
    go_enter Tryd.func32, Tryd.ntmps32
    go_wp2_with (first | (go_at_call 41; refine (div_any _ _ _ b0 b1 x0 x1).mono ?_; rw [hB]; rintro e w' ⟨rfl, n, rfl⟩) | (go_at_call 24; refine (write_any _ _ _ _ a0 a1 hq.1 hq.2).mono ?_; rintro e w1 ⟨rfl, hb⟩; have hr1 : roomAt w1 (w.heap.size + 2) 22 = true := (roomAt_below hb _ _ (by simp)).trans (roomCpu_new _ _ _ _ (by simp))))
    exact ret_cell1 rfl rfl (loadCpu_row (rowCpu_put _ _ _ hr1)) rfl ⟨rfl, below_put (Below.trans (bdrewN (by go_grown) _) (hb.mono (by simp; omega))) _ (by omega) _⟩
def Cp.multiplied (c : Cp) (i : In) (b x : Int) : Cp := ({ c with H := mulH b x i.U } : Cp).wrote i.A (mulL b x i.U)
theorem operate_sub (c : Cp) (i : In) (w : World) (hc : c.Ok) (hF : i.F = 0) (hO : i.O = 9) (hA : 0 ≤ i.A ∧ i.A < 16) (hB : 0 ≤ i.B ∧ i.B < 16) (hC : 0 ≤ i.C ∧ i.C < 16) :
    Calls Tryd.prog 15 #[.agg c.cells, .agg i.cells] w fun e w' => e = .returned (.agg (c.subbed i (c.R i.B.toNat) (c.R i.C.toNat)).cells) ∧ Below w.heap.size w w' := by
  have hrb := Cp.atR c i.B.toNat (by omega)
  have HB := hc.R i.B.toNat (by omega)
  have HC := hc.R i.C.toNat (by omega)
  obtain ⟨b0, b1⟩ := hB
  have K0 : Hid (Keeps w [(w.heap.size + 2, Cp.zero.cells), (w.heap.size + 1, i.cells), (w.heap.size, c.cells)] (((w.alloc (.cells c.cells 25)).alloc (.cells i.cells 27)).alloc (.cells Cp.zero.cells 25))) := keeps3 w _ _ _ _ _ _
  go_enter Tryd.func15, Tryd.ntmps15
  go_wp2
  go_region_held3 (fun X => Keeps w [(w.heap.size + 2, Cp.zero.cells), (w.heap.size + 1, i.cells), (w.heap.size, c.cells)] X ∧ rowAt X w.heap.size = some c.cells ∧ rowAt X (w.heap.size + 1) = some i.cells ∧ (∀ j, X.cell? ⟨w.heap.size, j, none⟩ = c.cells[j]?) ∧ (∀ j, X.cell? ⟨w.heap.size + 1, j, none⟩ = i.cells[j]?)) (first | exact Keeps.three (Keeps.drew K0.out) | exact Keeps.step3 (by assumption) (by assumption)) (first | (go_at_call 27; refine (operand_reg c i _ hF hC.1 hC.2).mono ?_; rintro e w1 ⟨rfl, hb⟩))
  rename_i hh
  obtain ⟨hk, r1, r2, l1, l2⟩ := hh
  have HK : Hid (Keeps w [(w.heap.size + 2, Cp.zero.cells), (w.heap.size + 1, i.cells), (w.heap.size, c.cells)] w1) := hk
  clear hk hb K0
  go_wp2_with (go_at_call 30; refine (csub_any c i _ _ _ hA.1 hA.2 HB.1 HB.2 HC.1 HC.2).mono ?_; rintro e w2 ⟨rfl, hb2⟩; have hr2 : roomAt w2 (w.heap.size + 2) 22 = true := (HK.out.call hb2).room (c := Cp.zero.cells) (by simp))
  exact ret_cell1 rfl rfl (loadCpu_row (rowCpu_put _ _ _ hr2)) rfl ⟨rfl, below_put (HK.out.call hb2).1 _ (by omega) _⟩
theorem operate_div (c : Cp) (i : In) (w : World) (hc : c.Ok) (hF : i.F = 0) (hO : i.O = 11) (hA : 0 ≤ i.A ∧ i.A < 16) (hB : 0 ≤ i.B ∧ i.B < 16) (hC : 0 ≤ i.C ∧ i.C < 16) :
    Calls Tryd.prog 15 #[.agg c.cells, .agg i.cells] w fun e w' => e = .returned (.agg (c.divided i (c.R i.B.toNat) (c.R i.C.toNat)).cells) ∧ Below w.heap.size w w' := by
  have hrb := Cp.atR c i.B.toNat (by omega)
  have HB := hc.R i.B.toNat (by omega)
  have HC := hc.R i.C.toNat (by omega)
  obtain ⟨b0, b1⟩ := hB
  have K0 : Hid (Keeps w [(w.heap.size + 2, Cp.zero.cells), (w.heap.size + 1, i.cells), (w.heap.size, c.cells)] (((w.alloc (.cells c.cells 25)).alloc (.cells i.cells 27)).alloc (.cells Cp.zero.cells 25))) := keeps3 w _ _ _ _ _ _
  go_enter Tryd.func15, Tryd.ntmps15
  go_wp2
  go_region_held3 (fun X => Keeps w [(w.heap.size + 2, Cp.zero.cells), (w.heap.size + 1, i.cells), (w.heap.size, c.cells)] X ∧ rowAt X w.heap.size = some c.cells ∧ rowAt X (w.heap.size + 1) = some i.cells ∧ (∀ j, X.cell? ⟨w.heap.size, j, none⟩ = c.cells[j]?) ∧ (∀ j, X.cell? ⟨w.heap.size + 1, j, none⟩ = i.cells[j]?)) (first | exact Keeps.three (Keeps.drew K0.out) | exact Keeps.step3 (by assumption) (by assumption)) (first | (go_at_call 27; refine (operand_reg c i _ hF hC.1 hC.2).mono ?_; rintro e w1 ⟨rfl, hb⟩))
  rename_i hh
  obtain ⟨hk, r1, r2, l1, l2⟩ := hh
  have HK : Hid (Keeps w [(w.heap.size + 2, Cp.zero.cells), (w.heap.size + 1, i.cells), (w.heap.size, c.cells)] w1) := hk
  clear hk hb K0
  go_wp2_with (go_at_call 32; refine (cdiv_any c i _ _ _ hA.1 hA.2 HB.1 HB.2 HC.1 HC.2).mono ?_; rintro e w2 ⟨rfl, hb2⟩; have hr2 : roomAt w2 (w.heap.size + 2) 22 = true := (HK.out.call hb2).room (c := Cp.zero.cells) (by simp))
  exact ret_cell1 rfl rfl (loadCpu_row (rowCpu_put _ _ _ hr2)) rfl ⟨rfl, below_put (HK.out.call hb2).1 _ (by omega) _⟩
theorem trapNumber_div (i : In) (w : World) (h : i.O = 11) : Calls Tryd.prog 16 #[.agg i.cells] w fun e w' => e = .returned (.int .i64 6) ∧ Below w.heap.size w w' := by
  go_enter Tryd.func16, Tryd.ntmps16
  go_wp2
  go_ret
  exact ⟨rfl, (Below.refl _ _).alloc (Nat.le_refl _) _⟩
/-- Exec of registers alone, where the operation goes on. -/
theorem exec_of (c d : Cp) (i : In) (x : Int) (w : World) (hw : Ways w) (hc : c.Ok) (hd : d.Ok) (hr : rightB i = true) (hF : i.F = 0) (hpc : d.PC ≠ c.PC)
    (hop : Hid (∀ w, Calls Tryd.prog 15 #[.agg c.cells, .agg i.cells] w fun e w' => e = .returned (.agg d.cells) ∧ Below w.heap.size w w')) :
    Calls Tryd.prog 8 #[.agg c.cells, .agg i.cells, .int .u32 x] w fun e w' => e = .returned (.tuple #[.agg d.cells, .int .i64 0, .bool false]) ∧ Below w.heap.size w w' := by
  have K0 : Hid (Keeps w [(w.heap.size + 2, Cp.zero.cells), (w.heap.size + 1, i.cells), (w.heap.size, c.cells)] (((w.alloc (.cells c.cells 25)).alloc (.cells i.cells 27)).alloc (.cells Cp.zero.cells 25))) := keeps3 w _ _ _ _ _ _
  have HW : Hid (Ways (((w.alloc (.cells c.cells 25)).alloc (.cells i.cells 27)).alloc (.cells Cp.zero.cells 25))) := ((hw.alloc _).alloc _).alloc _
  have hne : ∀ w, (eqlCpu (.agg d.cells) (.agg c.cells)).run Tryd.prog w = .ok (.bool false) w := eqlCpu_ne _ c hd hc hpc
  clear hw hpc
  go_enter Tryd.func8, Tryd.ntmps8
  go_wp2_with (first | (go_at_call 11; refine (right_any i _ HW.out).mono ?_; rw [hr]; rintro e w1 ⟨rfl, hb⟩; have HK : Hid (Keeps w [(w.heap.size + 2, Cp.zero.cells), (w.heap.size + 1, i.cells), (w.heap.size, c.cells)] w1) := K0.out.call hb; have q1 := HK.out.row (b := w.heap.size) (c := c.cells) (by simp); have q2 := HK.out.row (b := w.heap.size + 1) (c := i.cells) (by simp); have q3 := HK.out.cell (b := w.heap.size + 1) (c := i.cells) (by simp)) | (go_at_call 15; refine (hop.out _).mono ?_; rintro e w2 ⟨rfl, hb2⟩; have HK2 : Hid (Keeps w [(w.heap.size + 2, Cp.zero.cells), (w.heap.size + 1, i.cells), (w.heap.size, c.cells)] w2) := HK.out.call hb2; have q4 := HK2.out.row (b := w.heap.size) (c := c.cells) (by simp); have q5 : roomAt w2 (w.heap.size + 1 + 1) 22 = true := HK2.out.room (b := w.heap.size + 2) (c := Cp.zero.cells) (by simp); have q6 : w.heap.size + 1 + 1 < w2.heap.size := (HK2.out.2 (w.heap.size + 2, Cp.zero.cells) (by simp)).2.2; have q7 : w.heap.size < w2.heap.size := by omega))
  exact ret_cell_tmp2 rfl rfl (loadCpu_row ((rowAt_past _ _ _ (by rw [size_put]; exact q6)).trans (rowCpu_put _ _ _ q5))) rfl ⟨rfl, (below_put HK2.out.1 _ (by omega) _).alloc (by rw [size_put]; exact HK2.out.1.size) _⟩
end Go.Proofs.YtkhgeldnlffgjabDoor
