/-
  operate, for whatever instruction, the program's.
-/
import Derived.Test.YteegkhnikcioiaaGreatDoorMCExs
namespace Go.Proofs.YteegkhnikcioiaaGreatDoor.Cpu
open Go.ChangeShapes Go.WideShapes Go.ChangeAt Go.RowKit
attribute [local go_sem ↓] loadCpu_seal storeCpu_seal loadIn_seal storeIn_seal
attribute [local go_sem] loadCpu_run storeCpu_run loadIn_run storeIn_run rowAt_at rowAt_past rowAt_drew rowAt_drewN roomCpu_new roomIn_new roomAt_old roomAt_drew roomAt_drewN putCpu_new putIn_new Cp.zero_fold In.fold putRow_past rowCpu_put rowIn_put size_put putRow_drew putRow_drewN alloc_drewN setCell_drewN Cp.at16 Cp.at17 Cp.at18 Cp.at19 Cp.at20 Cp.at21 Cp.size Cp.set16 Cp.set17 Cp.set18 Cp.set19 Cp.set20 Cp.set21 In.at0 In.at1 In.at2 In.at3 In.at4 In.at5 In.at6 In.at7 In.size In.set0 In.set1 In.set2 In.set3 In.ne Cp.ne In.set4 In.set5 In.set6 In.set7
attribute [local go_sem ↓] eqlCpu_seal
set_option linter.unusedVariables false

theorem Keeps.two {w X : World} {b1 b2 b3 : Nat} {c1 c2 c3 : Array Value} (k : Keeps w [(b3, c3), (b2, c2), (b1, c1)] X) : rowAt X b1 = some c1 ∧ rowAt X b2 = some c2 ∧ (∀ j, X.cell? ⟨b1, j, none⟩ = c1[j]?) ∧ (∀ j, X.cell? ⟨b2, j, none⟩ = c2[j]?) := k.three.2
theorem rowAt_blk {X Y : World} {b : Nat} (h : X.heap[b]? = Y.heap[b]?) : rowAt X b = rowAt Y b := by unfold rowAt; rw [h]
theorem two_put {X : World} {b1 b2 b3 : Nat} {c1 c2 : Array Value} (h : rowAt X b1 = some c1 ∧ rowAt X b2 = some c2 ∧ (∀ j, X.cell? ⟨b1, j, none⟩ = c1[j]?) ∧ (∀ j, X.cell? ⟨b2, j, none⟩ = c2[j]?)) (h1 : b1 < b3) (h2 : b2 < b3) (Y : Array Value) :
    rowAt (putRow X b3 Y) b1 = some c1 ∧ rowAt (putRow X b3 Y) b2 = some c2 ∧ (∀ j, (putRow X b3 Y).cell? ⟨b1, j, none⟩ = c1[j]?) ∧ (∀ j, (putRow X b3 Y).cell? ⟨b2, j, none⟩ = c2[j]?) := by
  have hB := below_put (Below.refl b3 X) b3 (Nat.le_refl _) Y
  have e1 := (rowAt_blk (hB.block b1 h1)).trans h.1
  have e2 := (rowAt_blk (hB.block b2 h2)).trans h.2.1
  exact ⟨e1, e2, rowAt_cell e1, rowAt_cell e2⟩
theorem opAdd (c : Cp) (i : In) (w : World) (hc : c.Ok) (hI : isOp i) (hA : 0 ≤ i.A ∧ i.A < 16) (hB : 0 ≤ i.B ∧ i.B < 16) (hC : 0 ≤ i.C ∧ i.C < 16) (hO : i.O = 8) :
    Calls Tryz.prog 107 #[.agg c.cells, .agg i.cells] w fun e w' => e = .returned (.agg (c.added i (c.R i.B.toNat) (c.opnd i)).cells) ∧ Below w.heap.size w w' := by
  have hrb := Cp.atR c i.B.toNat (by omega)
  have HB := hc.R i.B.toNat (by omega)
  have HX := opnd_bd c i hc hC hI
  obtain ⟨b0, b1⟩ := hB
  have K0 : Hid (Keeps w [(w.heap.size + 2, Cp.zero.cells), (w.heap.size + 1, i.cells), (w.heap.size, c.cells)] (((w.alloc (.cells c.cells 45)).alloc (.cells i.cells 123)).alloc (.cells Cp.zero.cells 45))) := keeps3 w _ _ _ _ _ _
  have HI : Hid (isOp i) := hI
  clear hI
  go_enter Tryz.func107, Tryz.ntmps107
  go_wp2
  go_region_held3 (fun X => Keeps w [(w.heap.size + 2, Cp.zero.cells), (w.heap.size + 1, i.cells), (w.heap.size, c.cells)] X ∧ rowAt X w.heap.size = some c.cells ∧ rowAt X (w.heap.size + 1) = some i.cells ∧ (∀ j, X.cell? ⟨w.heap.size, j, none⟩ = c.cells[j]?) ∧ (∀ j, X.cell? ⟨w.heap.size + 1, j, none⟩ = i.cells[j]?)) (first | exact Keeps.three (Keeps.drew K0.out) | exact Keeps.step3 (by assumption) (by assumption)) (first | (go_at_call 133; refine (operand_any c i _ hC HI.out).mono ?_; rintro e w1 ⟨rfl, hb⟩))
  rename_i hh
  obtain ⟨hk, r1, r2, l1, l2⟩ := hh
  have HK : Hid (Keeps w [(w.heap.size + 2, Cp.zero.cells), (w.heap.size + 1, i.cells), (w.heap.size, c.cells)] w1) := hk
  clear hk hb K0
  go_wp2_with (go_at_call 135; refine (cadd_any c i _ _ _ hA.1 hA.2 HB.1 HB.2 HX.1 HX.2).mono ?_; rintro e w2 ⟨rfl, hb2⟩; have hr2 : roomAt w2 (w.heap.size + 2) 22 = true := (HK.out.call hb2).room (c := Cp.zero.cells) (by simp))
  exact ret_cell1 rfl rfl (loadCpu_row (rowCpu_put _ _ _ hr2)) rfl ⟨rfl, below_put (HK.out.call hb2).1 _ (by omega) _⟩
theorem opSub (c : Cp) (i : In) (w : World) (hc : c.Ok) (hI : isOp i) (hA : 0 ≤ i.A ∧ i.A < 16) (hB : 0 ≤ i.B ∧ i.B < 16) (hC : 0 ≤ i.C ∧ i.C < 16) (hO : i.O = 9) :
    Calls Tryz.prog 107 #[.agg c.cells, .agg i.cells] w fun e w' => e = .returned (.agg (c.subbed i (c.R i.B.toNat) (c.opnd i)).cells) ∧ Below w.heap.size w w' := by
  have hrb := Cp.atR c i.B.toNat (by omega)
  have HB := hc.R i.B.toNat (by omega)
  have HX := opnd_bd c i hc hC hI
  obtain ⟨b0, b1⟩ := hB
  have K0 : Hid (Keeps w [(w.heap.size + 2, Cp.zero.cells), (w.heap.size + 1, i.cells), (w.heap.size, c.cells)] (((w.alloc (.cells c.cells 45)).alloc (.cells i.cells 123)).alloc (.cells Cp.zero.cells 45))) := keeps3 w _ _ _ _ _ _
  have HI : Hid (isOp i) := hI
  clear hI
  go_enter Tryz.func107, Tryz.ntmps107
  go_wp2
  go_region_held3 (fun X => Keeps w [(w.heap.size + 2, Cp.zero.cells), (w.heap.size + 1, i.cells), (w.heap.size, c.cells)] X ∧ rowAt X w.heap.size = some c.cells ∧ rowAt X (w.heap.size + 1) = some i.cells ∧ (∀ j, X.cell? ⟨w.heap.size, j, none⟩ = c.cells[j]?) ∧ (∀ j, X.cell? ⟨w.heap.size + 1, j, none⟩ = i.cells[j]?)) (first | exact Keeps.three (Keeps.drew K0.out) | exact Keeps.step3 (by assumption) (by assumption)) (first | (go_at_call 133; refine (operand_any c i _ hC HI.out).mono ?_; rintro e w1 ⟨rfl, hb⟩))
  rename_i hh
  obtain ⟨hk, r1, r2, l1, l2⟩ := hh
  have HK : Hid (Keeps w [(w.heap.size + 2, Cp.zero.cells), (w.heap.size + 1, i.cells), (w.heap.size, c.cells)] w1) := hk
  clear hk hb K0
  go_wp2_with (go_at_call 136; refine (csub_any c i _ _ _ hA.1 hA.2 HB.1 HB.2 HX.1 HX.2).mono ?_; rintro e w2 ⟨rfl, hb2⟩; have hr2 : roomAt w2 (w.heap.size + 2) 22 = true := (HK.out.call hb2).room (c := Cp.zero.cells) (by simp))
  exact ret_cell1 rfl rfl (loadCpu_row (rowCpu_put _ _ _ hr2)) rfl ⟨rfl, below_put (HK.out.call hb2).1 _ (by omega) _⟩
theorem opDiv (c : Cp) (i : In) (w : World) (hc : c.Ok) (hI : isOp i) (hA : 0 ≤ i.A ∧ i.A < 16) (hB : 0 ≤ i.B ∧ i.B < 16) (hC : 0 ≤ i.C ∧ i.C < 16) (hO : i.O = 11) :
    Calls Tryz.prog 107 #[.agg c.cells, .agg i.cells] w fun e w' => e = .returned (.agg (c.divided i (c.R i.B.toNat) (c.opnd i)).cells) ∧ Below w.heap.size w w' := by
  have hrb := Cp.atR c i.B.toNat (by omega)
  have HB := hc.R i.B.toNat (by omega)
  have HX := opnd_bd c i hc hC hI
  obtain ⟨b0, b1⟩ := hB
  have K0 : Hid (Keeps w [(w.heap.size + 2, Cp.zero.cells), (w.heap.size + 1, i.cells), (w.heap.size, c.cells)] (((w.alloc (.cells c.cells 45)).alloc (.cells i.cells 123)).alloc (.cells Cp.zero.cells 45))) := keeps3 w _ _ _ _ _ _
  have HI : Hid (isOp i) := hI
  clear hI
  go_enter Tryz.func107, Tryz.ntmps107
  go_wp2
  go_region_held3 (fun X => Keeps w [(w.heap.size + 2, Cp.zero.cells), (w.heap.size + 1, i.cells), (w.heap.size, c.cells)] X ∧ rowAt X w.heap.size = some c.cells ∧ rowAt X (w.heap.size + 1) = some i.cells ∧ (∀ j, X.cell? ⟨w.heap.size, j, none⟩ = c.cells[j]?) ∧ (∀ j, X.cell? ⟨w.heap.size + 1, j, none⟩ = i.cells[j]?)) (first | exact Keeps.three (Keeps.drew K0.out) | exact Keeps.step3 (by assumption) (by assumption)) (first | (go_at_call 133; refine (operand_any c i _ hC HI.out).mono ?_; rintro e w1 ⟨rfl, hb⟩))
  rename_i hh
  obtain ⟨hk, r1, r2, l1, l2⟩ := hh
  have HK : Hid (Keeps w [(w.heap.size + 2, Cp.zero.cells), (w.heap.size + 1, i.cells), (w.heap.size, c.cells)] w1) := hk
  clear hk hb K0
  go_wp2_with (go_at_call 138; refine (cdiv_any c i _ _ _ hA.1 hA.2 HB.1 HB.2 HX.1 HX.2).mono ?_; rintro e w2 ⟨rfl, hb2⟩; have hr2 : roomAt w2 (w.heap.size + 2) 22 = true := (HK.out.call hb2).room (c := Cp.zero.cells) (by simp))
  exact ret_cell1 rfl rfl (loadCpu_row (rowCpu_put _ _ _ hr2)) rfl ⟨rfl, below_put (HK.out.call hb2).1 _ (by omega) _⟩
theorem opMul (c : Cp) (i : In) (w : World) (hc : c.Ok) (hI : isOp i) (hA : 0 ≤ i.A ∧ i.A < 16) (hB : 0 ≤ i.B ∧ i.B < 16) (hC : 0 ≤ i.C ∧ i.C < 16) (hO : i.O = 10) :
    Calls Tryz.prog 107 #[.agg c.cells, .agg i.cells] w fun e w' => e = .returned (.agg (c.multiplied i (c.R i.B.toNat) (c.opnd i)).cells) ∧ Below w.heap.size w w' := by
  have hrb := Cp.atR c i.B.toNat (by omega)
  have HB := hc.R i.B.toNat (by omega)
  have HX := opnd_bd c i hc hC hI
  obtain ⟨b0, b1⟩ := hB
  have K0 : Hid (Keeps w [(w.heap.size + 2, Cp.zero.cells), (w.heap.size + 1, i.cells), (w.heap.size, c.cells)] (((w.alloc (.cells c.cells 45)).alloc (.cells i.cells 123)).alloc (.cells Cp.zero.cells 45))) := keeps3 w _ _ _ _ _ _
  have HI : Hid (isOp i) := hI
  clear hI
  go_enter Tryz.func107, Tryz.ntmps107
  go_wp2
  go_region_held3 (fun X => Keeps w [(w.heap.size + 2, Cp.zero.cells), (w.heap.size + 1, i.cells), (w.heap.size, c.cells)] X ∧ rowAt X w.heap.size = some c.cells ∧ rowAt X (w.heap.size + 1) = some i.cells ∧ (∀ j, X.cell? ⟨w.heap.size, j, none⟩ = c.cells[j]?) ∧ (∀ j, X.cell? ⟨w.heap.size + 1, j, none⟩ = i.cells[j]?)) (first | exact Keeps.three (Keeps.drew K0.out) | exact Keeps.step3 (by assumption) (by assumption)) (first | (go_at_call 133; refine (operand_any c i _ hC HI.out).mono ?_; rintro e w1 ⟨rfl, hb⟩))
  rename_i hh
  obtain ⟨hk, r1, r2, l1, l2⟩ := hh
  have HK : Hid (Keeps w [(w.heap.size + 2, Cp.zero.cells), (w.heap.size + 1, i.cells), (w.heap.size, c.cells)] w1) := hk
  clear hk hb K0
  have ML := mul_bds (c.R i.B.toNat) (c.opnd i) i.U HB.1 HB.2 HX.1 HX.2
  have fz := HK.out.froz (b := w.heap.size) (c := c.cells) (by simp) 16 (by rw [Cp.size]; omega)
  have HS : Hid (Keeps w [(w.heap.size + 2, Cp.zero.cells), (w.heap.size + 1, i.cells), (w.heap.size, ({ c with H := mulH (c.R i.B.toNat) (c.opnd i) i.U } : Cp).cells)] (w1.setCell ⟨w.heap.size, 16, none⟩ (.int .u32 (mulH (c.R i.B.toNat) (c.opnd i) i.U)))) := HK.out.set1 16 _ (by omega) (by omega) (Nat.le_refl _)
  have s1 := HS.out.row (b := w.heap.size) (c := ({ c with H := mulH (c.R i.B.toNat) (c.opnd i) i.U } : Cp).cells) (by simp)
  have s2 := HS.out.cell (b := w.heap.size + 1) (c := i.cells) (by simp)
  go_wp2_with (first | (go_at_call 137; refine (mul_any _ _ _ _ HB.1 HB.2 HX.1 HX.2).mono ?_; rintro e w' ⟨rfl, hx⟩; obtain rfl := hx.symm; clear hx) | (go_at_call 131; refine (write_any _ _ _ _ hA.1 hA.2 ML.1 ML.2.1).mono ?_; rintro e w2 ⟨rfl, hb2⟩; have hr2 : roomAt w2 (w.heap.size + 2) 22 = true := (HS.out.call hb2).room (c := Cp.zero.cells) (by simp)))
  exact ret_cell1 rfl rfl (loadCpu_row (rowCpu_put _ _ _ hr2)) rfl ⟨rfl, below_put (HS.out.call hb2).1 _ (by omega) _⟩
theorem opTrap (c : Cp) (i : In) (w : World) (hc : c.Ok) (hI : isOp i) (hA : 0 ≤ i.A ∧ i.A < 16) (hB : 0 ≤ i.B ∧ i.B < 16) (hC : 0 ≤ i.C ∧ i.C < 16) (hO : i.O = 15) :
    Calls Tryz.prog 107 #[.agg c.cells, .agg i.cells] w fun e w' => e = .returned (.agg (c).cells) ∧ Below w.heap.size w w' := by
  have hrb := Cp.atR c i.B.toNat (by omega)
  have HB := hc.R i.B.toNat (by omega)
  have HX := opnd_bd c i hc hC hI
  obtain ⟨b0, b1⟩ := hB
  have K0 : Hid (Keeps w [(w.heap.size + 2, Cp.zero.cells), (w.heap.size + 1, i.cells), (w.heap.size, c.cells)] (((w.alloc (.cells c.cells 45)).alloc (.cells i.cells 123)).alloc (.cells Cp.zero.cells 45))) := keeps3 w _ _ _ _ _ _
  have HI : Hid (isOp i) := hI
  clear hI
  go_enter Tryz.func107, Tryz.ntmps107
  go_wp2
  go_region_held3 (fun X => Keeps w [(w.heap.size + 2, Cp.zero.cells), (w.heap.size + 1, i.cells), (w.heap.size, c.cells)] X ∧ rowAt X w.heap.size = some c.cells ∧ rowAt X (w.heap.size + 1) = some i.cells ∧ (∀ j, X.cell? ⟨w.heap.size, j, none⟩ = c.cells[j]?) ∧ (∀ j, X.cell? ⟨w.heap.size + 1, j, none⟩ = i.cells[j]?)) (first | exact Keeps.three (Keeps.drew K0.out) | exact Keeps.step3 (by assumption) (by assumption)) (first | (go_at_call 133; refine (operand_any c i _ hC HI.out).mono ?_; rintro e w1 ⟨rfl, hb⟩))
  rename_i hh
  obtain ⟨hk, r1, r2, l1, l2⟩ := hh
  have HK : Hid (Keeps w [(w.heap.size + 2, Cp.zero.cells), (w.heap.size + 1, i.cells), (w.heap.size, c.cells)] w1) := hk
  clear hk hb K0
  have hr2 : roomAt w1 (w.heap.size + 1 + 1) 22 = true := HK.out.room (b := w.heap.size + 2) (c := Cp.zero.cells) (by simp)
  go_wp2
  exact ret_cell1 rfl rfl (loadCpu_row (rowCpu_put _ _ _ hr2)) rfl ⟨rfl, below_put HK.out.1 _ (by omega) _⟩
set_option maxHeartbeats 2000000 in
theorem opMov (c : Cp) (i : In) (w : World) (hc : c.Ok) (hI : isOp i) (hA : 0 ≤ i.A ∧ i.A < 16) (hB : 0 ≤ i.B ∧ i.B < 16) (hC : 0 ≤ i.C ∧ i.C < 16) (hO : i.O = 0) :
    Calls Tryz.prog 107 #[.agg c.cells, .agg i.cells] w fun e w' => e = .returned (.agg (c.wrote i.A (c.movV i (c.opnd i))).cells) ∧ Below w.heap.size w w' := by
  have hrb := Cp.atR c i.B.toNat (by omega)
  have HB := hc.R i.B.toNat (by omega)
  have HX := opnd_bd c i hc hC hI
  obtain ⟨b0, b1⟩ := hB
  have K0 : Hid (Keeps w [(w.heap.size + 2, Cp.zero.cells), (w.heap.size + 1, i.cells), (w.heap.size, c.cells)] (((w.alloc (.cells c.cells 45)).alloc (.cells i.cells 123)).alloc (.cells Cp.zero.cells 45))) := keeps3 w _ _ _ _ _ _
  have HI : Hid (isOp i) := hI
  clear hI
  go_enter Tryz.func107, Tryz.ntmps107
  go_wp2
  go_region_held3 (fun X => Keeps w [(w.heap.size + 2, Cp.zero.cells), (w.heap.size + 1, i.cells), (w.heap.size, c.cells)] X ∧ rowAt X w.heap.size = some c.cells ∧ rowAt X (w.heap.size + 1) = some i.cells ∧ (∀ j, X.cell? ⟨w.heap.size, j, none⟩ = c.cells[j]?) ∧ (∀ j, X.cell? ⟨w.heap.size + 1, j, none⟩ = i.cells[j]?)) (first | exact Keeps.three (Keeps.drew K0.out) | exact Keeps.step3 (by assumption) (by assumption)) (first | (go_at_call 133; refine (operand_any c i _ hC HI.out).mono ?_; rintro e w1 ⟨rfl, hb⟩))
  rename_i hh
  obtain ⟨hk, r1, r2, l1, l2⟩ := hh
  have HK : Hid (Keeps w [(w.heap.size + 2, Cp.zero.cells), (w.heap.size + 1, i.cells), (w.heap.size, c.cells)] w1) := hk
  clear hk hb K0
  have HM := movV_bd c i _ hc HX.1 HX.2
  go_wp2
  go_region_held3 (fun X => rowAt X w.heap.size = some c.cells ∧ rowAt X (w.heap.size + 1) = some i.cells ∧ (∀ j, X.cell? ⟨w.heap.size, j, none⟩ = c.cells[j]?) ∧ (∀ j, X.cell? ⟨w.heap.size + 1, j, none⟩ = i.cells[j]?)) (first | exact two_put (Keeps.two HK3.out) (by omega) (by omega) _ | exact Keeps.two HK3.out | exact Keeps.two HK2.out | exact Keeps.two (Keeps.drew HK.out)) (first | (go_at_call 134; refine (moved_any c i _ _ HX.1 HX.2 (HI.out.imp id And.left)).mono ?_; rintro e w2 ⟨rfl, hb⟩; have HK2 : Hid (Keeps w [(w.heap.size + 2, Cp.zero.cells), (w.heap.size + 1, i.cells), (w.heap.size, c.cells)] w2) := Keeps.call hb (Keeps.drew HK.out)) | (go_at_call 131; refine (write_any c i.A _ _ hA.1 hA.2 HM.1 HM.2).mono ?_; rintro e w3 ⟨rfl, hb3⟩; have HK3 : Hid (Keeps w [(w.heap.size + 2, Cp.zero.cells), (w.heap.size + 1, i.cells), (w.heap.size, c.cells)] w3) := Keeps.call hb3 HK2.out; have hr3 : roomAt w3 (w.heap.size + 1 + 1) 22 = true := HK3.out.room (b := w.heap.size + 2) (c := Cp.zero.cells) (by simp)))
  all_goals go_wp2
  all_goals exact ret_cell1 rfl rfl (loadCpu_row (rowCpu_put _ _ _ hr3)) rfl ⟨rfl, below_put HK3.out.1 _ (by omega) _⟩
set_option maxHeartbeats 2000000 in
theorem opComb (c : Cp) (i : In) (w : World) (hc : c.Ok) (hI : isOp i) (hA : 0 ≤ i.A ∧ i.A < 16) (hB : 0 ≤ i.B ∧ i.B < 16) (hC : 0 ≤ i.C ∧ i.C < 16) (hO : i.O = 1 ∨ i.O = 2 ∨ i.O = 3 ∨ i.O = 4 ∨ i.O = 5 ∨ i.O = 6 ∨ i.O = 7) :
    Calls Tryz.prog 107 #[.agg c.cells, .agg i.cells] w fun e w' => e = .returned (.agg (c.wrote i.A (combV i.O (c.R i.B.toNat) (c.opnd i))).cells) ∧ Below w.heap.size w w' := by
  have q0 : i.O ≠ 0 := by omega
  have q8 : i.O ≠ 8 := by omega
  have q9 : i.O ≠ 9 := by omega
  have q10 : i.O ≠ 10 := by omega
  have q11 : i.O ≠ 11 := by omega
  have q15 : i.O ≠ 15 := by omega
  have hrb := Cp.atR c i.B.toNat (by omega)
  have HB := hc.R i.B.toNat (by omega)
  have HX := opnd_bd c i hc hC hI
  obtain ⟨b0, b1⟩ := hB
  have K0 : Hid (Keeps w [(w.heap.size + 2, Cp.zero.cells), (w.heap.size + 1, i.cells), (w.heap.size, c.cells)] (((w.alloc (.cells c.cells 45)).alloc (.cells i.cells 123)).alloc (.cells Cp.zero.cells 45))) := keeps3 w _ _ _ _ _ _
  have HI : Hid (isOp i) := hI
  clear hI
  go_enter Tryz.func107, Tryz.ntmps107
  go_wp2
  go_region_held3 (fun X => Keeps w [(w.heap.size + 2, Cp.zero.cells), (w.heap.size + 1, i.cells), (w.heap.size, c.cells)] X ∧ rowAt X w.heap.size = some c.cells ∧ rowAt X (w.heap.size + 1) = some i.cells ∧ (∀ j, X.cell? ⟨w.heap.size, j, none⟩ = c.cells[j]?) ∧ (∀ j, X.cell? ⟨w.heap.size + 1, j, none⟩ = i.cells[j]?)) (first | exact Keeps.three (Keeps.drew K0.out) | exact Keeps.step3 (by assumption) (by assumption)) (first | (go_at_call 133; refine (operand_any c i _ hC HI.out).mono ?_; rintro e w1 ⟨rfl, hb⟩))
  rename_i hh
  obtain ⟨hk, r1, r2, l1, l2⟩ := hh
  have HK : Hid (Keeps w [(w.heap.size + 2, Cp.zero.cells), (w.heap.size + 1, i.cells), (w.heap.size, c.cells)] w1) := hk
  clear hk hb K0
  have HM := combV_bd i.O _ _ HB.1 HB.2 HX.1 HX.2
  go_wp2
  go_region_held3 (fun X => rowAt X w.heap.size = some c.cells ∧ rowAt X (w.heap.size + 1) = some i.cells ∧ (∀ j, X.cell? ⟨w.heap.size, j, none⟩ = c.cells[j]?) ∧ (∀ j, X.cell? ⟨w.heap.size + 1, j, none⟩ = i.cells[j]?)) (first | exact two_put (Keeps.two HK3.out) (by omega) (by omega) _ | exact Keeps.two HK3.out | exact Keeps.two HK2.out | exact Keeps.two (Keeps.drew HK.out)) (first | (go_at_call 139; refine (combined_any _ _ _ _ hO HB.1 HB.2 HX.1 HX.2).mono ?_; rintro e w2 ⟨rfl, hb⟩; have HK2 : Hid (Keeps w [(w.heap.size + 2, Cp.zero.cells), (w.heap.size + 1, i.cells), (w.heap.size, c.cells)] w2) := Keeps.call hb (Keeps.drew HK.out)) | (go_at_call 131; refine (write_any c i.A _ _ hA.1 hA.2 HM.1 HM.2).mono ?_; rintro e w3 ⟨rfl, hb3⟩; have HK3 : Hid (Keeps w [(w.heap.size + 2, Cp.zero.cells), (w.heap.size + 1, i.cells), (w.heap.size, c.cells)] w3) := Keeps.call hb3 HK2.out; have hr3 : roomAt w3 (w.heap.size + 1 + 1) 22 = true := HK3.out.room (b := w.heap.size + 2) (c := Cp.zero.cells) (by simp)))
  all_goals go_wp2
  all_goals exact ret_cell1 rfl rfl (loadCpu_row (rowCpu_put _ _ _ hr3)) rfl ⟨rfl, below_put HK3.out.1 _ (by omega) _⟩
end Go.Proofs.YteegkhnikcioiaaGreatDoor.Cpu
