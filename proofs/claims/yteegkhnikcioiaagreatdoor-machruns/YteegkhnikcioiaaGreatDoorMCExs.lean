/-
  Contracts of the operations of registers alone (SUB, MUL, DIV), and of Exec over them, the program's.
  Contracts of MUL, of Exec where DIV traps, and of the law's helper two, over registers alone.
  Contracts of what Exec calls, for whatever instruction is right, the program's.
-/
import Derived.Test.YteegkhnikcioiaaGreatDoorMCShownB
namespace Go.Proofs.YteegkhnikcioiaaGreatDoor.Cpu
open Go.ChangeShapes Go.WideShapes Go.ChangeAt Go.RowKit
attribute [local go_sem ↓] loadCpu_seal storeCpu_seal loadIn_seal storeIn_seal
attribute [local go_sem] loadCpu_run storeCpu_run loadIn_run storeIn_run rowAt_at rowAt_past rowAt_drew rowAt_drewN roomCpu_new roomIn_new roomAt_old roomAt_drew roomAt_drewN putCpu_new putIn_new Cp.zero_fold In.fold putRow_past rowCpu_put rowIn_put size_put putRow_drew putRow_drewN alloc_drewN setCell_drewN Cp.at16 Cp.at17 Cp.at18 Cp.at19 Cp.at20 Cp.at21 Cp.size Cp.set16 Cp.set17 Cp.set18 Cp.set19 Cp.set20 Cp.set21 In.at0 In.at1 In.at2 In.at3 In.at4 In.at5 In.at6 In.at7 In.size In.set0 In.set1 In.set2 In.set3 In.ne Cp.ne In.set4 In.set5 In.set6 In.set7
attribute [local go_sem ↓] eqlCpu_seal

def Cp.subbed (c : Cp) (i : In) (b x : Int) : Cp := ({ c with C := subC b x (i.U && c.C), V := subV b x (i.U && c.C) } : Cp).wrote i.A (subS b x (i.U && c.C))
theorem csub_any (c : Cp) (i : In) (b x : Int) (w : World) (a0 : 0 ≤ i.A) (a1 : i.A < 16) (b0 : 0 ≤ b) (b1 : b ≤ 4294967295) (x0 : 0 ≤ x) (x1 : x ≤ 4294967295) :
    Calls Tryz.prog 136 #[.agg c.cells, .agg i.cells, .int .u32 b, .int .u32 x] w fun e w' => e = .returned (.agg (c.subbed i b x).cells) ∧ Below w.heap.size w w' := by
  cases hU : i.U
  all_goals
    go_enter Tryz.func136, Tryz.ntmps136
    go_wp2_with (first | (go_at_call 148; refine (sub_any _ _ _ _ b0 b1 x0 x1).mono ?_; rintro e w' ⟨rfl, hx⟩; obtain rfl := hx.symm; clear hx) | (go_at_call 131; refine (write_any _ _ _ _ a0 a1 (by unfold subS; omega) (by unfold subS; omega)).mono ?_; rintro e w1 ⟨rfl, hb⟩; have hr1 : roomAt w1 (w.heap.size + 2) 22 = true := (roomAt_below hb _ _ (by simp)).trans (roomCpu_new _ _ _ _ (by simp))))
    refine ret_cell1 rfl rfl (loadCpu_row (rowCpu_put _ _ _ hr1)) rfl ⟨?_, below_put (Below.trans (by go_grown) (hb.mono (by simp; omega))) _ (by omega) _⟩
    simp [Cp.subbed, hU]
def Cp.divided (c : Cp) (i : In) (b x : Int) : Cp := if divB x = true then ({ c with H := divR b x } : Cp).wrote i.A (divQ b x) else c
theorem divQ_bd (b x : Int) : 0 ≤ divQ b x ∧ divQ b x ≤ 4294967295 := by unfold divQ; split <;> omega
theorem divR_bd (b x : Int) (x0 : 0 ≤ x) (x1 : x ≤ 4294967295) : 0 ≤ divR b x ∧ divR b x ≤ 4294967295 := by
  have := sg_bd x x0 x1
  unfold divR
  split
  · omega
  · have h1 := Int.emod_nonneg (sg b) (show sg x ≠ 0 by omega)
    have h2 := Int.emod_lt_of_pos (sg b) (show 0 < sg x by omega)
    omega
theorem cdiv_any (c : Cp) (i : In) (b x : Int) (w : World) (a0 : 0 ≤ i.A) (a1 : i.A < 16) (b0 : 0 ≤ b) (b1 : b ≤ 4294967295) (x0 : 0 ≤ x) (x1 : x ≤ 4294967295) :
    Calls Tryz.prog 138 #[.agg c.cells, .agg i.cells, .int .u32 b, .int .u32 x] w fun e w' => e = .returned (.agg (c.divided i b x).cells) ∧ Below w.heap.size w w' := by
  have hq := divQ_bd b x
  cases hB : divB x
  · have hd : c.divided i b x = c := by simp [Cp.divided, hB]
    rw [hd]
    clear hd
    go_enter Tryz.func138, Tryz.ntmps138
    go_wp2_with (go_at_call 150; refine (div_any _ _ _ b0 b1 x0 x1).mono ?_; rw [hB]; rintro e w' ⟨rfl, n, rfl⟩)
    refine ret_cell1 rfl rfl (loadCpu_row (c := c) ?_) rfl ⟨rfl, ?_⟩
    · simp [go_sem]
    · refine bdrewN ?_ _; go_grown
  · have hd : c.divided i b x = ({ c with H := divR b x } : Cp).wrote i.A (divQ b x) := by simp [Cp.divided, hB]
    rw [hd]
    clear hd
    go_enter Tryz.func138, Tryz.ntmps138
    go_wp2_with (first | (go_at_call 150; refine (div_any _ _ _ b0 b1 x0 x1).mono ?_; rw [hB]; rintro e w' ⟨rfl, n, rfl⟩) | (go_at_call 131; refine (write_any _ _ _ _ a0 a1 hq.1 hq.2).mono ?_; rintro e w1 ⟨rfl, hb⟩; have hr1 : roomAt w1 (w.heap.size + 2) 22 = true := (roomAt_below hb _ _ (by simp)).trans (roomCpu_new _ _ _ _ (by simp))))
    exact ret_cell1 rfl rfl (loadCpu_row (rowCpu_put _ _ _ hr1)) rfl ⟨rfl, below_put (Below.trans (bdrewN (by go_grown) _) (hb.mono (by simp; omega))) _ (by omega) _⟩
def Cp.multiplied (c : Cp) (i : In) (b x : Int) : Cp := ({ c with H := mulH b x i.U } : Cp).wrote i.A (mulL b x i.U)
theorem operate_sub (c : Cp) (i : In) (w : World) (hc : c.Ok) (hF : i.F = 0) (hO : i.O = 9) (hA : 0 ≤ i.A ∧ i.A < 16) (hB : 0 ≤ i.B ∧ i.B < 16) (hC : 0 ≤ i.C ∧ i.C < 16) :
    Calls Tryz.prog 107 #[.agg c.cells, .agg i.cells] w fun e w' => e = .returned (.agg (c.subbed i (c.R i.B.toNat) (c.R i.C.toNat)).cells) ∧ Below w.heap.size w w' := by
  have hrb := Cp.atR c i.B.toNat (by omega)
  have HB := hc.R i.B.toNat (by omega)
  have HC := hc.R i.C.toNat (by omega)
  obtain ⟨b0, b1⟩ := hB
  have K0 : Hid (Keeps w [(w.heap.size + 2, Cp.zero.cells), (w.heap.size + 1, i.cells), (w.heap.size, c.cells)] (((w.alloc (.cells c.cells 45)).alloc (.cells i.cells 123)).alloc (.cells Cp.zero.cells 45))) := keeps3 w _ _ _ _ _ _
  go_enter Tryz.func107, Tryz.ntmps107
  go_wp2
  go_region_held3 (fun X => Keeps w [(w.heap.size + 2, Cp.zero.cells), (w.heap.size + 1, i.cells), (w.heap.size, c.cells)] X ∧ rowAt X w.heap.size = some c.cells ∧ rowAt X (w.heap.size + 1) = some i.cells ∧ (∀ j, X.cell? ⟨w.heap.size, j, none⟩ = c.cells[j]?) ∧ (∀ j, X.cell? ⟨w.heap.size + 1, j, none⟩ = i.cells[j]?)) (first | exact Keeps.three (Keeps.drew K0.out) | exact Keeps.step3 (by assumption) (by assumption)) (first | (go_at_call 133; refine (operand_reg c i _ hF hC.1 hC.2).mono ?_; rintro e w1 ⟨rfl, hb⟩))
  rename_i hh
  obtain ⟨hk, r1, r2, l1, l2⟩ := hh
  have HK : Hid (Keeps w [(w.heap.size + 2, Cp.zero.cells), (w.heap.size + 1, i.cells), (w.heap.size, c.cells)] w1) := hk
  clear hk hb K0
  go_wp2_with (go_at_call 136; refine (csub_any c i _ _ _ hA.1 hA.2 HB.1 HB.2 HC.1 HC.2).mono ?_; rintro e w2 ⟨rfl, hb2⟩; have hr2 : roomAt w2 (w.heap.size + 2) 22 = true := (HK.out.call hb2).room (c := Cp.zero.cells) (by simp))
  exact ret_cell1 rfl rfl (loadCpu_row (rowCpu_put _ _ _ hr2)) rfl ⟨rfl, below_put (HK.out.call hb2).1 _ (by omega) _⟩
theorem operate_div (c : Cp) (i : In) (w : World) (hc : c.Ok) (hF : i.F = 0) (hO : i.O = 11) (hA : 0 ≤ i.A ∧ i.A < 16) (hB : 0 ≤ i.B ∧ i.B < 16) (hC : 0 ≤ i.C ∧ i.C < 16) :
    Calls Tryz.prog 107 #[.agg c.cells, .agg i.cells] w fun e w' => e = .returned (.agg (c.divided i (c.R i.B.toNat) (c.R i.C.toNat)).cells) ∧ Below w.heap.size w w' := by
  have hrb := Cp.atR c i.B.toNat (by omega)
  have HB := hc.R i.B.toNat (by omega)
  have HC := hc.R i.C.toNat (by omega)
  obtain ⟨b0, b1⟩ := hB
  have K0 : Hid (Keeps w [(w.heap.size + 2, Cp.zero.cells), (w.heap.size + 1, i.cells), (w.heap.size, c.cells)] (((w.alloc (.cells c.cells 45)).alloc (.cells i.cells 123)).alloc (.cells Cp.zero.cells 45))) := keeps3 w _ _ _ _ _ _
  go_enter Tryz.func107, Tryz.ntmps107
  go_wp2
  go_region_held3 (fun X => Keeps w [(w.heap.size + 2, Cp.zero.cells), (w.heap.size + 1, i.cells), (w.heap.size, c.cells)] X ∧ rowAt X w.heap.size = some c.cells ∧ rowAt X (w.heap.size + 1) = some i.cells ∧ (∀ j, X.cell? ⟨w.heap.size, j, none⟩ = c.cells[j]?) ∧ (∀ j, X.cell? ⟨w.heap.size + 1, j, none⟩ = i.cells[j]?)) (first | exact Keeps.three (Keeps.drew K0.out) | exact Keeps.step3 (by assumption) (by assumption)) (first | (go_at_call 133; refine (operand_reg c i _ hF hC.1 hC.2).mono ?_; rintro e w1 ⟨rfl, hb⟩))
  rename_i hh
  obtain ⟨hk, r1, r2, l1, l2⟩ := hh
  have HK : Hid (Keeps w [(w.heap.size + 2, Cp.zero.cells), (w.heap.size + 1, i.cells), (w.heap.size, c.cells)] w1) := hk
  clear hk hb K0
  go_wp2_with (go_at_call 138; refine (cdiv_any c i _ _ _ hA.1 hA.2 HB.1 HB.2 HC.1 HC.2).mono ?_; rintro e w2 ⟨rfl, hb2⟩; have hr2 : roomAt w2 (w.heap.size + 2) 22 = true := (HK.out.call hb2).room (c := Cp.zero.cells) (by simp))
  exact ret_cell1 rfl rfl (loadCpu_row (rowCpu_put _ _ _ hr2)) rfl ⟨rfl, below_put (HK.out.call hb2).1 _ (by omega) _⟩
theorem trapNumber_div (i : In) (w : World) (h : i.O = 11) : Calls Tryz.prog 108 #[.agg i.cells] w fun e w' => e = .returned (.int .i64 6) ∧ Below w.heap.size w w' := by
  go_enter Tryz.func108, Tryz.ntmps108
  go_wp2
  go_ret
  exact ⟨rfl, (Below.refl _ _).alloc (Nat.le_refl _) _⟩
/-- Exec of registers alone, where the operation goes on. -/
theorem exec_of (c d : Cp) (i : In) (x : Int) (w : World) (hw : Ways w) (hc : c.Ok) (hd : d.Ok) (hr : rightB i = true) (hF : i.F = 0) (hpc : d.PC ≠ c.PC)
    (hop : Hid (∀ w, Calls Tryz.prog 107 #[.agg c.cells, .agg i.cells] w fun e w' => e = .returned (.agg d.cells) ∧ Below w.heap.size w w')) :
    Calls Tryz.prog 68 #[.agg c.cells, .agg i.cells, .int .u32 x] w fun e w' => e = .returned (.tuple #[.agg d.cells, .int .i64 0, .bool false]) ∧ Below w.heap.size w w' := by
  have K0 : Hid (Keeps w [(w.heap.size + 2, Cp.zero.cells), (w.heap.size + 1, i.cells), (w.heap.size, c.cells)] (((w.alloc (.cells c.cells 45)).alloc (.cells i.cells 123)).alloc (.cells Cp.zero.cells 45))) := keeps3 w _ _ _ _ _ _
  have HW : Hid (Ways (((w.alloc (.cells c.cells 45)).alloc (.cells i.cells 123)).alloc (.cells Cp.zero.cells 45))) := ((hw.alloc _).alloc _).alloc _
  have hne : ∀ w, (eqlCpu (.agg d.cells) (.agg c.cells)).run Tryz.prog w = .ok (.bool false) w := eqlCpu_ne _ c hd hc hpc
  clear hw hpc
  go_enter Tryz.func68, Tryz.ntmps68
  go_wp2_with (first | (go_at_call 97; refine (right_any i _ HW.out).mono ?_; rw [hr]; rintro e w1 ⟨rfl, hb⟩; have HK : Hid (Keeps w [(w.heap.size + 2, Cp.zero.cells), (w.heap.size + 1, i.cells), (w.heap.size, c.cells)] w1) := K0.out.call hb; have q1 := HK.out.row (b := w.heap.size) (c := c.cells) (by simp); have q2 := HK.out.row (b := w.heap.size + 1) (c := i.cells) (by simp); have q3 := HK.out.cell (b := w.heap.size + 1) (c := i.cells) (by simp)) | (go_at_call 107; refine (hop.out _).mono ?_; rintro e w2 ⟨rfl, hb2⟩; have HK2 : Hid (Keeps w [(w.heap.size + 2, Cp.zero.cells), (w.heap.size + 1, i.cells), (w.heap.size, c.cells)] w2) := HK.out.call hb2; have q4 := HK2.out.row (b := w.heap.size) (c := c.cells) (by simp); have q5 : roomAt w2 (w.heap.size + 1 + 1) 22 = true := HK2.out.room (b := w.heap.size + 2) (c := Cp.zero.cells) (by simp); have q6 : w.heap.size + 1 + 1 < w2.heap.size := (HK2.out.2 (w.heap.size + 2, Cp.zero.cells) (by simp)).2.2; have q7 : w.heap.size < w2.heap.size := by omega))
  exact ret_cell_tmp2 rfl rfl (loadCpu_row ((rowAt_past _ _ _ (by rw [size_put]; exact q6)).trans (rowCpu_put _ _ _ q5))) rfl ⟨rfl, (below_put HK2.out.1 _ (by omega) _).alloc (by rw [size_put]; exact HK2.out.1.size) _⟩
end Go.Proofs.YteegkhnikcioiaaGreatDoor.Cpu

namespace Go.Proofs.YteegkhnikcioiaaGreatDoor.Cpu
open Go.ChangeShapes Go.WideShapes Go.ChangeAt Go.RowKit
attribute [local go_sem ↓] loadCpu_seal storeCpu_seal loadIn_seal storeIn_seal
attribute [local go_sem] loadCpu_run storeCpu_run loadIn_run storeIn_run rowAt_at rowAt_past rowAt_drew rowAt_drewN roomCpu_new roomIn_new roomAt_old roomAt_drew roomAt_drewN putCpu_new putIn_new Cp.zero_fold In.fold putRow_past rowCpu_put rowIn_put size_put putRow_drew putRow_drewN alloc_drewN setCell_drewN Cp.at16 Cp.at17 Cp.at18 Cp.at19 Cp.at20 Cp.at21 Cp.size Cp.set16 Cp.set17 Cp.set18 Cp.set19 Cp.set20 Cp.set21 In.at0 In.at1 In.at2 In.at3 In.at4 In.at5 In.at6 In.at7 In.size In.set0 In.set1 In.set2 In.set3 In.ne Cp.ne In.set4 In.set5 In.set6 In.set7
attribute [local go_sem ↓] eqlCpu_seal

theorem heap_setCell_other (w : World) (g i b : Nat) (v : Value) (h : b ≠ g) : (w.setCell ⟨g, i, none⟩ v).heap[b]? = w.heap[b]? := by
  unfold World.setCell
  simp [Array.getElem?_modify, Ne.symm h]
theorem Keeps.set1 {w X : World} {b1 b2 b3 : Nat} {c1 c2 c3 : Array Value} (h : Keeps w [(b3, c3), (b2, c2), (b1, c1)] X) (j : Nat) (v : Value) (h2 : b2 ≠ b1) (h3 : b3 ≠ b1) (hb : w.heap.size ≤ b1) :
    Keeps w [(b3, c3), (b2, c2), (b1, c1.setIfInBounds j v)] (X.setCell ⟨b1, j, none⟩ v) := by
  have o : ∀ b, b ≠ b1 → (X.setCell ⟨b1, j, none⟩ v).heap[b]? = X.heap[b]? := fun b hb => heap_setCell_other X b1 j b v hb
  refine ⟨h.1.setCell hb _, fun r hr => ?_⟩
  simp only [List.mem_cons, List.not_mem_nil, or_false] at hr
  rcases hr with rfl | rfl | rfl
  · have := h.2 (b3, c3) (by simp)
    exact ⟨by unfold rowAt; rw [o _ h3]; exact this.1, by unfold roomAt; rw [o _ h3]; exact this.2.1, by simpa using this.2.2⟩
  · have := h.2 (b2, c2) (by simp)
    exact ⟨by unfold rowAt; rw [o _ h2]; exact this.1, by unfold roomAt; rw [o _ h2]; exact this.2.1, by simpa using this.2.2⟩
  · obtain ⟨q1, q2, q3⟩ := h.2 (b1, c1) (by simp)
    simp only at q1 q2 q3
    unfold rowAt at q1
    unfold roomAt at q2
    split at q1
    · rename_i cs t fr hb1
      cases q1
      rw [hb1] at q2
      have hn := Go.Joins.block_setCell (i := j) hb1 v
      refine ⟨by unfold rowAt; rw [hn], by unfold roomAt; rw [hn]; simpa using q2, by simpa using q3⟩
    · cases q1
theorem Keeps.froz {w X : World} {rows : List (Nat × Array Value)} (h : Keeps w rows X) {b : Nat} {c : Array Value} (hr : (b, c) ∈ rows) (j : Nat) (hj : j < c.size) : X.frozen? ⟨b, j, none⟩ = false := by
  have := (room_there (h.room hr) j hj).2
  simpa using this
theorem mul_bds (b x : Int) (u : Bool) (b0 : 0 ≤ b) (b1 : b ≤ 4294967295) (x0 : 0 ≤ x) (x1 : x ≤ 4294967295) : 0 ≤ mulL b x u ∧ mulL b x u ≤ 4294967295 ∧ 0 ≤ mulH b x u ∧ mulH b x u ≤ 4294967295 := by
  have hp : 0 ≤ mulP b x u ∧ mulP b x u < 18446744073709551616 := by
    unfold mulP
    split
    · have h1 := Int.mul_nonneg b0 x0
      have h2 : b * x ≤ 4294967295 * x := Int.mul_le_mul_of_nonneg_right b1 x0
      omega
    · omega
  unfold mulL mulH
  omega
theorem operate_mul (c : Cp) (i : In) (w : World) (hc : c.Ok) (hF : i.F = 0) (hO : i.O = 10) (hA : 0 ≤ i.A ∧ i.A < 16) (hB : 0 ≤ i.B ∧ i.B < 16) (hC : 0 ≤ i.C ∧ i.C < 16) :
    Calls Tryz.prog 107 #[.agg c.cells, .agg i.cells] w fun e w' => e = .returned (.agg (c.multiplied i (c.R i.B.toNat) (c.R i.C.toNat)).cells) ∧ Below w.heap.size w w' := by
  have hrb := Cp.atR c i.B.toNat (by omega)
  have HB := hc.R i.B.toNat (by omega)
  have HC := hc.R i.C.toNat (by omega)
  obtain ⟨b0, b1⟩ := hB
  have K0 : Hid (Keeps w [(w.heap.size + 2, Cp.zero.cells), (w.heap.size + 1, i.cells), (w.heap.size, c.cells)] (((w.alloc (.cells c.cells 45)).alloc (.cells i.cells 123)).alloc (.cells Cp.zero.cells 45))) := keeps3 w _ _ _ _ _ _
  go_enter Tryz.func107, Tryz.ntmps107
  go_wp2
  go_region_held3 (fun X => Keeps w [(w.heap.size + 2, Cp.zero.cells), (w.heap.size + 1, i.cells), (w.heap.size, c.cells)] X ∧ rowAt X w.heap.size = some c.cells ∧ rowAt X (w.heap.size + 1) = some i.cells ∧ (∀ j, X.cell? ⟨w.heap.size, j, none⟩ = c.cells[j]?) ∧ (∀ j, X.cell? ⟨w.heap.size + 1, j, none⟩ = i.cells[j]?)) (first | exact Keeps.three (Keeps.drew K0.out) | exact Keeps.step3 (by assumption) (by assumption)) (first | (go_at_call 133; refine (operand_reg c i _ hF hC.1 hC.2).mono ?_; rintro e w1 ⟨rfl, hb⟩))
  rename_i hh
  obtain ⟨hk, r1, r2, l1, l2⟩ := hh
  have HK : Hid (Keeps w [(w.heap.size + 2, Cp.zero.cells), (w.heap.size + 1, i.cells), (w.heap.size, c.cells)] w1) := hk
  clear hk hb K0
  have ML := mul_bds (c.R i.B.toNat) (c.R i.C.toNat) i.U HB.1 HB.2 HC.1 HC.2
  have fz := HK.out.froz (b := w.heap.size) (c := c.cells) (by simp) 16 (by rw [Cp.size]; omega)
  have HS : Hid (Keeps w [(w.heap.size + 2, Cp.zero.cells), (w.heap.size + 1, i.cells), (w.heap.size, ({ c with H := mulH (c.R i.B.toNat) (c.R i.C.toNat) i.U } : Cp).cells)] (w1.setCell ⟨w.heap.size, 16, none⟩ (.int .u32 (mulH (c.R i.B.toNat) (c.R i.C.toNat) i.U)))) := HK.out.set1 16 _ (by omega) (by omega) (Nat.le_refl _)
  have s1 := HS.out.row (b := w.heap.size) (c := ({ c with H := mulH (c.R i.B.toNat) (c.R i.C.toNat) i.U } : Cp).cells) (by simp)
  have s2 := HS.out.cell (b := w.heap.size + 1) (c := i.cells) (by simp)
  go_wp2_with (first | (go_at_call 137; refine (mul_any _ _ _ _ HB.1 HB.2 HC.1 HC.2).mono ?_; rintro e w' ⟨rfl, hx⟩; obtain rfl := hx.symm; clear hx) | (go_at_call 131; refine (write_any _ _ _ _ hA.1 hA.2 ML.1 ML.2.1).mono ?_; rintro e w2 ⟨rfl, hb2⟩; have hr2 : roomAt w2 (w.heap.size + 2) 22 = true := (HS.out.call hb2).room (c := Cp.zero.cells) (by simp)))
  exact ret_cell1 rfl rfl (loadCpu_row (rowCpu_put _ _ _ hr2)) rfl ⟨rfl, below_put (HS.out.call hb2).1 _ (by omega) _⟩
end Go.Proofs.YteegkhnikcioiaaGreatDoor.Cpu

namespace Go.Proofs.YteegkhnikcioiaaGreatDoor.Cpu
open Go.ChangeShapes Go.WideShapes Go.ChangeAt Go.RowKit
attribute [local go_sem ↓] loadCpu_seal storeCpu_seal loadIn_seal storeIn_seal
attribute [local go_sem] loadCpu_run storeCpu_run loadIn_run storeIn_run rowAt_at rowAt_past rowAt_drew rowAt_drewN roomCpu_new roomIn_new roomAt_old roomAt_drew roomAt_drewN putCpu_new putIn_new Cp.zero_fold In.fold putRow_past rowCpu_put rowIn_put size_put putRow_drew putRow_drewN alloc_drewN setCell_drewN Cp.at16 Cp.at17 Cp.at18 Cp.at19 Cp.at20 Cp.at21 Cp.size Cp.set16 Cp.set17 Cp.set18 Cp.set19 Cp.set20 Cp.set21 In.at0 In.at1 In.at2 In.at3 In.at4 In.at5 In.at6 In.at7 In.size In.set0 In.set1 In.set2 In.set3 In.ne Cp.ne In.set4 In.set5 In.set6 In.set7
attribute [local go_sem ↓] eqlCpu_seal
set_option linter.unusedVariables false

def Cp.opnd (c : Cp) (i : In) : Int := if i.F = 0 then c.R i.C.toNat else if i.V = true then 4294901760 + i.N else i.N
def isOp (i : In) : Prop := i.F = 0 ∨ i.F = 1 ∧ 0 ≤ i.N ∧ i.N < 65536
theorem opnd_bd (c : Cp) (i : In) (hc : c.Ok) (hC : 0 ≤ i.C ∧ i.C < 16) (hF : isOp i) : 0 ≤ c.opnd i ∧ c.opnd i ≤ 4294967295 := by
  unfold Cp.opnd
  rcases hF with hF | ⟨hF, n0, n1⟩
  · rw [if_pos hF]; exact hc.R _ (by omega)
  · rw [if_neg (by omega)]; split <;> omega
theorem operand_any (c : Cp) (i : In) (w : World) (hC : 0 ≤ i.C ∧ i.C < 16) (hF : isOp i) : Calls Tryz.prog 133 #[.agg c.cells, .agg i.cells] w fun e w' => e = .returned (.int .u32 (c.opnd i)) ∧ Below w.heap.size w w' := by
  rcases hF with hF | ⟨hF, n0, n1⟩
  · have e : c.opnd i = c.R i.C.toNat := by simp [Cp.opnd, hF]
    rw [e]
    exact operand_reg c i w hF hC.1 hC.2
  · have hm : i.N % 4294967296 = i.N := by omega
    cases hV : i.V
    · have e : c.opnd i = i.N := by simp [Cp.opnd, hF, hV]
      rw [e]
      go_enter Tryz.func133, Tryz.ntmps133
      go_wp2
      go_ret
      exact ⟨by simp, by go_grown⟩
    · have e : c.opnd i = 4294901760 + i.N := by simp [Cp.opnd, hF, hV]
      rw [e]
      have HO : Hid (bits .or .u32 4294901760 i.N = 4294901760 + i.N) := or_add 4294901760 i.N 16 (by omega) (by omega) (by omega) n0 (by omega) (by omega)
      go_enter Tryz.func133, Tryz.ntmps133
      go_wp2
      go_ret
      exact ⟨ret_int HO.out, by go_grown⟩
def Cp.flagV (c : Cp) : Int := bit c.N * 2147483648 + bit c.Z * 1073741824 + bit c.C * 536870912 + bit c.V * 268435456
theorem flagV_bd (c : Cp) : 0 ≤ c.flagV ∧ c.flagV ≤ 4294967295 := by
  have h1 := bit_bd c.N
  have h2 := bit_bd c.Z
  have h3 := bit_bd c.C
  have h4 := bit_bd c.V
  unfold Cp.flagV
  omega
theorem flag_or (c : Cp) : bits .or .u32 (bits .or .u32 (bits .or .u32 (bitV c.N 31) (bitV c.Z 30)) (bitV c.C 29)) (bitV c.V 28) = c.flagV := by
  have h1 := bit_bd c.N
  have h2 := bit_bd c.Z
  have h3 := bit_bd c.C
  have h4 := bit_bd c.V
  rw [show bitV c.N 31 = bit c.N * 2147483648 by simp [bitV], show bitV c.Z 30 = bit c.Z * 1073741824 by simp [bitV], show bitV c.C 29 = bit c.C * 536870912 by simp [bitV], show bitV c.V 28 = bit c.V * 268435456 by simp [bitV],
    or_add (bit c.N * 2147483648) (bit c.Z * 1073741824) 31 (by omega) (by omega) (by omega) (by omega) (by omega) (by omega),
    or_add _ (bit c.C * 536870912) 30 (by omega) (by omega) (by omega) (by omega) (by omega) (by omega),
    or_add _ (bit c.V * 268435456) 29 (by omega) (by omega) (by omega) (by omega) (by omega) (by omega)]
  rfl
theorem flags_any (c : Cp) (w : World) : Calls Tryz.prog 146 #[.agg c.cells] w fun e w' => e = .returned (.int .u32 c.flagV) ∧ Below w.heap.size w w' := by
  have HF : Hid (_ = _) := flag_or c
  go_enter Tryz.func146, Tryz.ntmps146
  go_wp2
  go_quiet ((go_at_call 128; exact Calls.quiet_of_same (bitAt_any _ _ _ (by omega) (by omega))))
  go_wp2
  go_ret
  exact ⟨ret_int HF.out, bdrewN ((Below.refl _ _).alloc (Nat.le_refl _) _) _⟩
def Cp.movV (c : Cp) (i : In) (x : Int) : Int := if i.U = true then (if i.F = 1 then x * 65536 % 4294967296 else if i.V = true then c.flagV else c.H) else x
theorem movV_bd (c : Cp) (i : In) (x : Int) (hc : c.Ok) (x0 : 0 ≤ x) (x1 : x ≤ 4294967295) : 0 ≤ c.movV i x ∧ c.movV i x ≤ 4294967295 := by
  have h1 := flagV_bd c
  have h2 := hc.H
  unfold Cp.movV
  split
  · split
    · omega
    · split <;> omega
  · omega
set_option maxHeartbeats 1000000 in
theorem moved_any (c : Cp) (i : In) (x : Int) (w : World) (x0 : 0 ≤ x) (x1 : x ≤ 4294967295) (hF : i.F = 0 ∨ i.F = 1) : Calls Tryz.prog 134 #[.agg c.cells, .agg i.cells, .int .u32 x] w fun e w' => e = .returned (.int .u32 (c.movV i x)) ∧ Below w.heap.size w w' := by
  cases hU : i.U
  · have e : c.movV i x = x := by simp [Cp.movV, hU]
    rw [e]
    go_enter Tryz.func134, Tryz.ntmps134
    go_wp2
    go_ret
    exact ⟨rfl, by go_grown⟩
  · rcases hF with hF | hF
    · cases hV : i.V
      · have e : c.movV i x = c.H := by simp [Cp.movV, hU, hF, hV]
        rw [e]
        go_enter Tryz.func134, Tryz.ntmps134
        go_wp2
        go_ret
        exact ⟨rfl, by go_grown⟩
      · have e : c.movV i x = c.flagV := by simp [Cp.movV, hU, hF, hV]
        rw [e]
        go_enter Tryz.func134, Tryz.ntmps134
        go_wp2_with (go_at_call 146; refine (flags_any c _).mono ?_; rintro e w1 ⟨rfl, hb⟩)
        go_ret
        exact ⟨rfl, Below.trans (by go_grown) (hb.mono (by simp; omega))⟩
    · have e : c.movV i x = x * 65536 % 4294967296 := by simp [Cp.movV, hU, hF]
      rw [e]
      go_enter Tryz.func134, Tryz.ntmps134
      go_wp2
      go_ret
      exact ⟨by first | rfl | simp, by go_grown⟩
theorem bits_bd (o : BinOp) (a b : Int) : 0 ≤ bits o .u32 a b ∧ bits o .u32 a b ≤ 4294967295 := by
  unfold bits
  cases o <;> simp only [wrap_u32] <;> omega
def combV (o b x : Int) : Int := if o = 1 then lslK b (x % 32).toNat else if o = 2 then asrK b (x % 32).toNat else if o = 3 then rorK b (x % 32).toNat else if o = 4 then bits .and .u32 b x else if o = 5 then bits .andNot .u32 b x else if o = 6 then bits .or .u32 b x else bits .xor .u32 b x
theorem combV_bd (o b x : Int) (b0 : 0 ≤ b) (b1 : b ≤ 4294967295) (x0 : 0 ≤ x) (x1 : x ≤ 4294967295) : 0 ≤ combV o b x ∧ combV o b x ≤ 4294967295 := by
  unfold combV
  split
  · exact lslK_bd _ _
  · split
    · exact asrK_bd _ _
    · split
      · exact rorK_bd _ _ b0 b1 (by omega)
      · split
        · exact bits_bd _ _ _
        · split
          · exact bits_bd _ _ _
          · split <;> exact bits_bd _ _ _
set_option maxHeartbeats 1000000 in
theorem combined_any (o b x : Int) (w : World) (ho : o = 1 ∨ o = 2 ∨ o = 3 ∨ o = 4 ∨ o = 5 ∨ o = 6 ∨ o = 7) (b0 : 0 ≤ b) (b1 : b ≤ 4294967295) (x0 : 0 ≤ x) (x1 : x ≤ 4294967295) : Calls Tryz.prog 139 #[.int .i64 o, .int .u32 b, .int .u32 x] w fun e w' => e = .returned (.int .u32 (combV o b x)) ∧ Below w.heap.size w w' := by
  rcases ho with rfl | rfl | rfl | rfl | rfl | rfl | rfl
  all_goals
    go_enter Tryz.func139, Tryz.ntmps139
    go_wp2_with (first
      | (go_at_call 151; refine (lsl_any _ _ _ x0 x1).mono ?_; rintro e w' ⟨rfl, hx⟩; obtain rfl := hx.symm; clear hx)
      | (go_at_call 152; refine (asr_any _ _ _ b0 b1 x0 x1).mono ?_; rintro e w' ⟨rfl, hx⟩; obtain rfl := hx.symm; clear hx)
      | (go_at_call 153; refine (ror_any _ _ _ b0 b1 x0 x1).mono ?_; rintro e w' ⟨rfl, hx⟩; obtain rfl := hx.symm; clear hx))
    go_ret
    exact ⟨by first | rfl | simp [combV], by first | exact Below.refl _ _ | go_grown⟩
end Go.Proofs.YteegkhnikcioiaaGreatDoor.Cpu
