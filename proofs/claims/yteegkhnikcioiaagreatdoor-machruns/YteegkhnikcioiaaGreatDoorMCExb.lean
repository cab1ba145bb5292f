/-
  transfer and branch, for whatever instruction, the program's.
  branch, for whatever instruction, the program's.
-/
import Derived.Test.YteegkhnikcioiaaGreatDoorMCExo
namespace Go.Proofs.YteegkhnikcioiaaGreatDoor.Cpu
open Go.ChangeShapes Go.WideShapes Go.ChangeAt Go.RowKit
attribute [local go_sem ↓] loadCpu_seal storeCpu_seal loadIn_seal storeIn_seal
attribute [local go_sem] loadCpu_run storeCpu_run loadIn_run storeIn_run rowAt_at rowAt_past rowAt_drew rowAt_drewN roomCpu_new roomIn_new roomAt_old roomAt_drew roomAt_drewN putCpu_new putIn_new Cp.zero_fold In.fold putRow_past rowCpu_put rowIn_put size_put putRow_drew putRow_drewN alloc_drewN setCell_drewN Cp.at16 Cp.at17 Cp.at18 Cp.at19 Cp.at20 Cp.at21 Cp.size Cp.set16 Cp.set17 Cp.set18 Cp.set19 Cp.set20 Cp.set21 In.at0 In.at1 In.at2 In.at3 In.at4 In.at5 In.at6 In.at7 In.size In.set0 In.set1 In.set2 In.set3 In.ne Cp.ne In.set4 In.set5 In.set6 In.set7
attribute [local go_sem ↓] eqlCpu_seal
set_option linter.unusedVariables false

theorem lowest_any (x : Int) (w : World) (h0 : 0 ≤ x) (h1 : x ≤ 4294967295) : Calls Tryz.prog 100 #[.int .u32 x] w fun e w' => e = .returned (.int .u32 (x % 256)) ∧ w' = w := by
  have hm := and_mask x 8 (by omega) h0 h1
  have e : (2 : Int) ^ 8 = 256 := by decide
  rw [e] at hm
  have H : Hid (bits .and .u32 x 255 = x % 256) := hm
  clear hm e
  go_enter Tryz.func100, Tryz.ntmps100
  go_wp2
  go_ret
  exact ⟨ret_int H.out, rfl⟩
def bareH (c : Cp) (k : Int) : Bool := if k = 0 then c.N else if k = 1 then c.Z else if k = 2 then c.C else if k = 3 then c.V else if k = 4 then (c.C || c.Z) else if k = 5 then (!(c.N == c.V)) else if k = 6 then (!(c.N == c.V) || c.Z) else true
theorem bareHolds_any (c : Cp) (k : Int) (w : World) :
    Calls Tryz.prog 145 #[.agg c.cells, .int .i64 k] w fun e w' => e = .returned (.bool (bareH c k)) ∧ Below w.heap.size w w' := by
  go_enter Tryz.func145, Tryz.ntmps145
  go_wp2
  all_goals go_ret
  all_goals refine ⟨ret_bool ?_, (Below.refl _ _).alloc (Nat.le_refl _) _⟩
  all_goals (simp only [bareH]; simp_all)
def holdsB (c : Cp) (k : Int) : Bool := decide (0 ≤ k ∧ k < 16) && (bareH c (k % 8) == decide (k < 8))
theorem holds_any (c : Cp) (k : Int) (w : World) :
    Calls Tryz.prog 132 #[.agg c.cells, .int .i64 k] w fun e w' => e = .returned (.bool (holdsB c k)) ∧ Below w.heap.size w w' := by
  by_cases hk : 0 ≤ k ∧ k < 16
  · obtain ⟨k0, k1⟩ := hk
    go_enter Tryz.func132, Tryz.ntmps132
    go_wp2_with (go_at_call 145; refine (bareHolds_any c _ _).mono ?_; rintro e w' ⟨rfl, hb⟩)
    go_ret
    refine ⟨ret_bool (by unfold holdsB; simp [k0, k1]), ?_⟩
    exact ((Below.refl _ _).alloc (Nat.le_refl _) _).trans (hb.mono (by simp))
  · have hf : holdsB c k = false := by unfold holdsB; simp [hk]
    rw [hf]
    have h2 : k < 0 ∨ 16 ≤ k := by omega
    clear hk hf
    rcases h2 with h2 | h2
    all_goals
      go_enter Tryz.func132, Tryz.ntmps132
      go_wp2
      go_ret
      exact ⟨rfl, (Below.refl _ _).alloc (Nat.le_refl _) _⟩

def Cp.on (c : Cp) : Cp := { c with PC := (c.PC + 4) % 4294967296 }
def Cp.transf (c : Cp) (i : In) (x : Int) : Cp := if i.U = true then c.on else c.wrote i.A (if i.V = true then x % 256 else x)
theorem transfer_any (c : Cp) (i : In) (x : Int) (w : World) (hA : 0 ≤ i.A ∧ i.A < 16) (x0 : 0 ≤ x) (x1 : x ≤ 4294967295) : Calls Tryz.prog 105 #[.agg c.cells, .agg i.cells, .int .u32 x] w fun e w' => e = .returned (.agg (c.transf i x).cells) ∧ Below w.heap.size w w' := by
  cases hU : i.U
  · cases hV : i.V
    · have e : c.transf i x = c.wrote i.A x := by simp [Cp.transf, hU, hV]
      rw [e]
      go_enter Tryz.func105, Tryz.ntmps105
      go_wp2_with (go_at_call 131; refine (write_any _ _ _ _ hA.1 hA.2 x0 x1).mono ?_; rintro e w1 ⟨rfl, hb⟩; have hr1 : roomAt w1 (w.heap.size + 2) 22 = true := (roomAt_below hb _ _ (by simp)).trans (roomCpu_new _ _ _ _ (by simp)))
      exact ret_cell1 rfl rfl (loadCpu_row (rowCpu_put _ _ _ hr1)) rfl ⟨rfl, below_put (Below.trans (by go_grown) (hb.mono (by simp; omega))) _ (by omega) _⟩
    · have e : c.transf i x = c.wrote i.A (x % 256) := by simp [Cp.transf, hU, hV]
      rw [e]
      have K0 : Hid (Keeps w [(w.heap.size + 2, Cp.zero.cells), (w.heap.size + 1, i.cells), (w.heap.size, c.cells)] (((w.alloc (.cells c.cells 45)).alloc (.cells i.cells 123)).alloc (.cells Cp.zero.cells 45))) := keeps3 w _ _ _ _ _ _
      go_enter Tryz.func105, Tryz.ntmps105
      go_wp2
      go_region_held3 (fun X => rowAt X w.heap.size = some c.cells ∧ rowAt X (w.heap.size + 1) = some i.cells ∧ (∀ j, X.cell? ⟨w.heap.size, j, none⟩ = c.cells[j]?) ∧ (∀ j, X.cell? ⟨w.heap.size + 1, j, none⟩ = i.cells[j]?)) (first | exact two_put (Keeps.two HK3.out) (by omega) (by omega) _ | exact Keeps.two HK3.out | exact Keeps.two (Keeps.drew K0.out)) (first | (go_at_call 100; refine (lowest_any _ _ x0 x1).mono ?_; rintro e w' ⟨rfl, hx⟩; obtain rfl := hx.symm; clear hx) | (go_at_call 131; refine (write_any c i.A _ _ hA.1 hA.2 (by omega) (by omega)).mono ?_; rintro e w3 ⟨rfl, hb3⟩; have HK3 : Hid (Keeps w [(w.heap.size + 2, Cp.zero.cells), (w.heap.size + 1, i.cells), (w.heap.size, c.cells)] w3) := Keeps.call hb3 (Keeps.drew K0.out); have hr3 : roomAt w3 (w.heap.size + 1 + 1) 22 = true := HK3.out.room (b := w.heap.size + 2) (c := Cp.zero.cells) (by simp)))
      all_goals go_wp2
      all_goals exact ret_cell1 rfl rfl (loadCpu_row (rowCpu_put _ _ _ hr3)) rfl ⟨rfl, below_put HK3.out.1 _ (by omega) _⟩
  · have e : c.transf i x = c.on := by simp [Cp.transf, hU]
    rw [e]
    go_enter Tryz.func105, Tryz.ntmps105
    go_wp2
    refine ret_cell1 rfl rfl (loadCpu_row (c := c.on) ?_) rfl ⟨rfl, ?_⟩
    · simp [go_sem]; rfl
    · go_grown
def Cp.aimed (c : Cp) (i : In) : Cp := { (if i.V = true then c.on.setR 15 c.on.PC else c.on) with PC := if i.U = true then (c.on.PC + 4 * i.N) % 4294967296 else c.R i.C.toNat }
def Cp.branched (c : Cp) (i : In) : Cp := if holdsB c.on i.A = true then c.aimed i else c.on
end Go.Proofs.YteegkhnikcioiaaGreatDoor.Cpu

namespace Go.Proofs.YteegkhnikcioiaaGreatDoor.Cpu
open Go.ChangeShapes Go.WideShapes Go.ChangeAt Go.RowKit
attribute [local go_sem ↓] loadCpu_seal storeCpu_seal loadIn_seal storeIn_seal
attribute [local go_sem] loadCpu_run storeCpu_run loadIn_run storeIn_run rowAt_at rowAt_past rowAt_drew rowAt_drewN roomCpu_new roomIn_new roomAt_old roomAt_drew roomAt_drewN putCpu_new putIn_new Cp.zero_fold In.fold putRow_past rowCpu_put rowIn_put size_put putRow_drew putRow_drewN alloc_drewN setCell_drewN Cp.at16 Cp.at17 Cp.at18 Cp.at19 Cp.at20 Cp.at21 Cp.size Cp.set16 Cp.set17 Cp.set18 Cp.set19 Cp.set20 Cp.set21 In.at0 In.at1 In.at2 In.at3 In.at4 In.at5 In.at6 In.at7 In.size In.set0 In.set1 In.set2 In.set3 In.ne Cp.ne In.set4 In.set5 In.set6 In.set7
attribute [local go_sem ↓] eqlCpu_seal
set_option linter.unusedVariables false

theorem Keeps.drewN {w : World} {rows : List (Nat × Array Value)} {X : World} (h : Keeps w rows X) (n : Nat) : Keeps w rows (X.drewN n) := ⟨bdrewN h.1 n, h.2⟩
set_option maxHeartbeats 1000000 in
theorem br_no (c : Cp) (i : In) (w : World) (hC : 0 ≤ i.C ∧ i.C < 16) (hH : holdsB c.on i.A = false) : Calls Tryz.prog 106 #[.agg c.cells, .agg i.cells] w fun e w' => e = .returned (.agg (c.on).cells) ∧ Below w.heap.size w w' := by
  have hrc := Cp.atR c i.C.toNat (by omega)
  obtain ⟨c0, c1⟩ := hC
  go_enter Tryz.func106, Tryz.ntmps106
  go_wp2
  go_quiet (fail)
  go_wp2_with (go_at_call 132; refine (holds_any c.on i.A _).mono ?_; rintro e w1 ⟨rfl, hb⟩; have HK : Hid (Keeps w [(w.heap.size + 2, Cp.zero.cells), (w.heap.size + 1, i.cells), (w.heap.size, c.on.cells)] w1) := Keeps.call hb (Keeps.drewN (keeps3 w _ _ _ _ _ _) _); have q1 := HK.out.row (b := w.heap.size) (c := c.on.cells) (by simp); have q2 := HK.out.cell (b := w.heap.size) (c := c.on.cells) (by simp); have q3 := HK.out.cell (b := w.heap.size + 1) (c := i.cells) (by simp); have q4 : roomAt w1 (w.heap.size + 1 + 1) 22 = true := HK.out.room (b := w.heap.size + 2) (c := Cp.zero.cells) (by simp); rw [hH])
  exact ret_cell1 rfl rfl (loadCpu_row (rowCpu_put _ _ _ q4)) rfl ⟨rfl, below_put HK.out.1 _ (by omega) _⟩
set_option maxHeartbeats 1000000 in
theorem br_reg (c : Cp) (i : In) (w : World) (hC : 0 ≤ i.C ∧ i.C < 16) (hH : holdsB c.on i.A = true) (hV : i.V = false) (hU : i.U = false) : Calls Tryz.prog 106 #[.agg c.cells, .agg i.cells] w fun e w' => e = .returned (.agg ({ c.on with PC := c.R i.C.toNat }).cells) ∧ Below w.heap.size w w' := by
  have hrc := Cp.atR c i.C.toNat (by omega)
  obtain ⟨c0, c1⟩ := hC
  go_enter Tryz.func106, Tryz.ntmps106
  go_wp2
  go_quiet (fail)
  go_wp2_with (go_at_call 132; refine (holds_any c.on i.A _).mono ?_; rintro e w1 ⟨rfl, hb⟩; have HK : Hid (Keeps w [(w.heap.size + 2, Cp.zero.cells), (w.heap.size + 1, i.cells), (w.heap.size, c.on.cells)] w1) := Keeps.call hb (Keeps.drewN (keeps3 w _ _ _ _ _ _) _); have q1 := HK.out.row (b := w.heap.size) (c := c.on.cells) (by simp); have q2 := HK.out.cell (b := w.heap.size) (c := c.on.cells) (by simp); have q3 := HK.out.cell (b := w.heap.size + 1) (c := i.cells) (by simp); have q4 : roomAt w1 (w.heap.size + 1 + 1) 22 = true := HK.out.room (b := w.heap.size + 2) (c := Cp.zero.cells) (by simp); have f1 := HK.out.froz (b := w.heap.size) (c := (c.on).cells) (by simp) 21 (by rw [Cp.size]; omega); have HS1 : Hid (Keeps w [(w.heap.size + 2, Cp.zero.cells), (w.heap.size + 1, i.cells), (w.heap.size, ({ c.on with PC := c.R i.C.toNat }).cells)] (w1.setCell ⟨w.heap.size, 21, none⟩ (.int .u32 (c.R i.C.toNat)))) := by { have hz := HK.out.set1 21 (.int .u32 (c.R i.C.toNat)) (by omega) (by omega) (Nat.le_refl _); rw [Cp.set21] at hz; exact hz }; have g1 := HS1.out.row (b := w.heap.size) (c := ({ c.on with PC := c.R i.C.toNat }).cells) (by simp); have c1_ := HS1.out.cell (b := w.heap.size) (c := ({ c.on with PC := c.R i.C.toNat }).cells) (by simp); have m1 := HS1.out.cell (b := w.heap.size + 1) (c := i.cells) (by simp); have t1 : roomAt (w1.setCell ⟨w.heap.size, 21, none⟩ (.int .u32 (c.R i.C.toNat))) (w.heap.size + 1 + 1) 22 = true := HS1.out.room (b := w.heap.size + 2) (c := Cp.zero.cells) (by simp); rw [hH])
  exact ret_cell1 rfl rfl (loadCpu_row (rowCpu_put _ _ _ t1)) rfl ⟨rfl, below_put HS1.out.1 _ (by omega) _⟩
set_option maxHeartbeats 1000000 in
theorem br_regV (c : Cp) (i : In) (w : World) (hC : 0 ≤ i.C ∧ i.C < 16) (hH : holdsB c.on i.A = true) (hV : i.V = true) (hU : i.U = false) : Calls Tryz.prog 106 #[.agg c.cells, .agg i.cells] w fun e w' => e = .returned (.agg ({ c.on.setR 15 ((c.PC + 4) % 4294967296) with PC := c.R i.C.toNat }).cells) ∧ Below w.heap.size w w' := by
  have hrc := Cp.atR c i.C.toNat (by omega)
  obtain ⟨c0, c1⟩ := hC
  go_enter Tryz.func106, Tryz.ntmps106
  go_wp2
  go_quiet (fail)
  go_wp2_with (go_at_call 132; refine (holds_any c.on i.A _).mono ?_; rintro e w1 ⟨rfl, hb⟩; have HK : Hid (Keeps w [(w.heap.size + 2, Cp.zero.cells), (w.heap.size + 1, i.cells), (w.heap.size, c.on.cells)] w1) := Keeps.call hb (Keeps.drewN (keeps3 w _ _ _ _ _ _) _); have q1 := HK.out.row (b := w.heap.size) (c := c.on.cells) (by simp); have q2 := HK.out.cell (b := w.heap.size) (c := c.on.cells) (by simp); have q3 := HK.out.cell (b := w.heap.size + 1) (c := i.cells) (by simp); have q4 : roomAt w1 (w.heap.size + 1 + 1) 22 = true := HK.out.room (b := w.heap.size + 2) (c := Cp.zero.cells) (by simp); have f1 := HK.out.froz (b := w.heap.size) (c := (c.on).cells) (by simp) 15 (by rw [Cp.size]; omega); have HS1 : Hid (Keeps w [(w.heap.size + 2, Cp.zero.cells), (w.heap.size + 1, i.cells), (w.heap.size, (c.on.setR 15 ((c.PC + 4) % 4294967296)).cells)] (w1.setCell ⟨w.heap.size, 15, none⟩ (.int .u32 ((c.PC + 4) % 4294967296)))) := by { have hz := HK.out.set1 15 (.int .u32 ((c.PC + 4) % 4294967296)) (by omega) (by omega) (Nat.le_refl _); rw [Cp.setAt c.on 15 _ (by omega)] at hz; exact hz }; have g1 := HS1.out.row (b := w.heap.size) (c := (c.on.setR 15 ((c.PC + 4) % 4294967296)).cells) (by simp); have c1_ := HS1.out.cell (b := w.heap.size) (c := (c.on.setR 15 ((c.PC + 4) % 4294967296)).cells) (by simp); have m1 := HS1.out.cell (b := w.heap.size + 1) (c := i.cells) (by simp); have t1 : roomAt (w1.setCell ⟨w.heap.size, 15, none⟩ (.int .u32 ((c.PC + 4) % 4294967296))) (w.heap.size + 1 + 1) 22 = true := HS1.out.room (b := w.heap.size + 2) (c := Cp.zero.cells) (by simp); have f2 := HS1.out.froz (b := w.heap.size) (c := (c.on.setR 15 ((c.PC + 4) % 4294967296)).cells) (by simp) 21 (by rw [Cp.size]; omega); have HS2 : Hid (Keeps w [(w.heap.size + 2, Cp.zero.cells), (w.heap.size + 1, i.cells), (w.heap.size, ({ c.on.setR 15 ((c.PC + 4) % 4294967296) with PC := c.R i.C.toNat }).cells)] ((w1.setCell ⟨w.heap.size, 15, none⟩ (.int .u32 ((c.PC + 4) % 4294967296))).setCell ⟨w.heap.size, 21, none⟩ (.int .u32 (c.R i.C.toNat)))) := by { have hz := HS1.out.set1 21 (.int .u32 (c.R i.C.toNat)) (by omega) (by omega) (Nat.le_refl _); rw [Cp.set21] at hz; exact hz }; have g2 := HS2.out.row (b := w.heap.size) (c := ({ c.on.setR 15 ((c.PC + 4) % 4294967296) with PC := c.R i.C.toNat }).cells) (by simp); have c2_ := HS2.out.cell (b := w.heap.size) (c := ({ c.on.setR 15 ((c.PC + 4) % 4294967296) with PC := c.R i.C.toNat }).cells) (by simp); have m2 := HS2.out.cell (b := w.heap.size + 1) (c := i.cells) (by simp); have t2 : roomAt ((w1.setCell ⟨w.heap.size, 15, none⟩ (.int .u32 ((c.PC + 4) % 4294967296))).setCell ⟨w.heap.size, 21, none⟩ (.int .u32 (c.R i.C.toNat))) (w.heap.size + 1 + 1) 22 = true := HS2.out.room (b := w.heap.size + 2) (c := Cp.zero.cells) (by simp); rw [hH])
  exact ret_cell1 rfl rfl (loadCpu_row (rowCpu_put _ _ _ t2)) rfl ⟨rfl, below_put HS2.out.1 _ (by omega) _⟩
set_option maxHeartbeats 1000000 in
theorem br_far (c : Cp) (i : In) (w : World) (hC : 0 ≤ i.C ∧ i.C < 16) (hH : holdsB c.on i.A = true) (hV : i.V = false) (hU : i.U = true) : Calls Tryz.prog 106 #[.agg c.cells, .agg i.cells] w fun e w' => e = .returned (.agg ({ c.on with PC := (c.on.PC + 4 * i.N) % 4294967296 }).cells) ∧ Below w.heap.size w w' := by
  have hrc := Cp.atR c i.C.toNat (by omega)
  obtain ⟨c0, c1⟩ := hC
  go_enter Tryz.func106, Tryz.ntmps106
  go_wp2
  go_quiet (fail)
  go_wp2_with (go_at_call 132; refine (holds_any c.on i.A _).mono ?_; rintro e w1 ⟨rfl, hb⟩; have HK : Hid (Keeps w [(w.heap.size + 2, Cp.zero.cells), (w.heap.size + 1, i.cells), (w.heap.size, c.on.cells)] w1) := Keeps.call hb (Keeps.drewN (keeps3 w _ _ _ _ _ _) _); have q1 := HK.out.row (b := w.heap.size) (c := c.on.cells) (by simp); have q2 := HK.out.cell (b := w.heap.size) (c := c.on.cells) (by simp); have q3 := HK.out.cell (b := w.heap.size + 1) (c := i.cells) (by simp); have q4 : roomAt w1 (w.heap.size + 1 + 1) 22 = true := HK.out.room (b := w.heap.size + 2) (c := Cp.zero.cells) (by simp); have ff := HK.out.froz (b := w.heap.size) (c := (c.on).cells) (by simp) 21 (by rw [Cp.size]; omega); have HF : Hid (∀ v : Int, Keeps w [(w.heap.size + 2, Cp.zero.cells), (w.heap.size + 1, i.cells), (w.heap.size, ({ c.on with PC := v } : Cp).cells)] (w1.setCell ⟨w.heap.size, 21, none⟩ (.int .u32 v))) := fun v => by { have hz := HK.out.set1 21 (.int .u32 v) (by omega) (by omega) (Nat.le_refl _); rw [Cp.set21] at hz; exact hz }; have gF := fun v => (HF.out v).row (b := w.heap.size) (c := ({ c.on with PC := v } : Cp).cells) (by simp); have tF : ∀ v : Int, roomAt (w1.setCell ⟨w.heap.size, 21, none⟩ (.int .u32 v)) (w.heap.size + 1 + 1) 22 = true := fun v => (HF.out v).room (b := w.heap.size + 2) (c := Cp.zero.cells) (by simp); rw [hH])
  refine ret_cell1 rfl rfl (loadCpu_row (rowCpu_put _ _ _ (tF _))) rfl ⟨?_, below_put (HF.out _).1 _ (by omega) _⟩
  first | rfl | (congr 3; simp only [Cp.mk.injEq, true_and]; have hp : c.on.PC = (c.PC + 4) % 4294967296 := rfl; omega)
set_option maxHeartbeats 1000000 in
theorem br_farV (c : Cp) (i : In) (w : World) (hC : 0 ≤ i.C ∧ i.C < 16) (hH : holdsB c.on i.A = true) (hV : i.V = true) (hU : i.U = true) : Calls Tryz.prog 106 #[.agg c.cells, .agg i.cells] w fun e w' => e = .returned (.agg ({ c.on.setR 15 ((c.PC + 4) % 4294967296) with PC := (c.on.PC + 4 * i.N) % 4294967296 }).cells) ∧ Below w.heap.size w w' := by
  have hrc := Cp.atR c i.C.toNat (by omega)
  obtain ⟨c0, c1⟩ := hC
  go_enter Tryz.func106, Tryz.ntmps106
  go_wp2
  go_quiet (fail)
  go_wp2_with (go_at_call 132; refine (holds_any c.on i.A _).mono ?_; rintro e w1 ⟨rfl, hb⟩; have HK : Hid (Keeps w [(w.heap.size + 2, Cp.zero.cells), (w.heap.size + 1, i.cells), (w.heap.size, c.on.cells)] w1) := Keeps.call hb (Keeps.drewN (keeps3 w _ _ _ _ _ _) _); have q1 := HK.out.row (b := w.heap.size) (c := c.on.cells) (by simp); have q2 := HK.out.cell (b := w.heap.size) (c := c.on.cells) (by simp); have q3 := HK.out.cell (b := w.heap.size + 1) (c := i.cells) (by simp); have q4 : roomAt w1 (w.heap.size + 1 + 1) 22 = true := HK.out.room (b := w.heap.size + 2) (c := Cp.zero.cells) (by simp); have f1 := HK.out.froz (b := w.heap.size) (c := (c.on).cells) (by simp) 15 (by rw [Cp.size]; omega); have HS1 : Hid (Keeps w [(w.heap.size + 2, Cp.zero.cells), (w.heap.size + 1, i.cells), (w.heap.size, (c.on.setR 15 ((c.PC + 4) % 4294967296)).cells)] (w1.setCell ⟨w.heap.size, 15, none⟩ (.int .u32 ((c.PC + 4) % 4294967296)))) := by { have hz := HK.out.set1 15 (.int .u32 ((c.PC + 4) % 4294967296)) (by omega) (by omega) (Nat.le_refl _); rw [Cp.setAt c.on 15 _ (by omega)] at hz; exact hz }; have g1 := HS1.out.row (b := w.heap.size) (c := (c.on.setR 15 ((c.PC + 4) % 4294967296)).cells) (by simp); have c1_ := HS1.out.cell (b := w.heap.size) (c := (c.on.setR 15 ((c.PC + 4) % 4294967296)).cells) (by simp); have m1 := HS1.out.cell (b := w.heap.size + 1) (c := i.cells) (by simp); have t1 : roomAt (w1.setCell ⟨w.heap.size, 15, none⟩ (.int .u32 ((c.PC + 4) % 4294967296))) (w.heap.size + 1 + 1) 22 = true := HS1.out.room (b := w.heap.size + 2) (c := Cp.zero.cells) (by simp); have ff := HS1.out.froz (b := w.heap.size) (c := (c.on.setR 15 ((c.PC + 4) % 4294967296)).cells) (by simp) 21 (by rw [Cp.size]; omega); have HF : Hid (∀ v : Int, Keeps w [(w.heap.size + 2, Cp.zero.cells), (w.heap.size + 1, i.cells), (w.heap.size, ({ c.on.setR 15 ((c.PC + 4) % 4294967296) with PC := v } : Cp).cells)] ((w1.setCell ⟨w.heap.size, 15, none⟩ (.int .u32 ((c.PC + 4) % 4294967296))).setCell ⟨w.heap.size, 21, none⟩ (.int .u32 v))) := fun v => by { have hz := HS1.out.set1 21 (.int .u32 v) (by omega) (by omega) (Nat.le_refl _); rw [Cp.set21] at hz; exact hz }; have gF := fun v => (HF.out v).row (b := w.heap.size) (c := ({ c.on.setR 15 ((c.PC + 4) % 4294967296) with PC := v } : Cp).cells) (by simp); have tF : ∀ v : Int, roomAt ((w1.setCell ⟨w.heap.size, 15, none⟩ (.int .u32 ((c.PC + 4) % 4294967296))).setCell ⟨w.heap.size, 21, none⟩ (.int .u32 v)) (w.heap.size + 1 + 1) 22 = true := fun v => (HF.out v).room (b := w.heap.size + 2) (c := Cp.zero.cells) (by simp); rw [hH])
  refine ret_cell1 rfl rfl (loadCpu_row (rowCpu_put _ _ _ (tF _))) rfl ⟨?_, below_put (HF.out _).1 _ (by omega) _⟩
  first | rfl | (congr 3; simp only [Cp.mk.injEq, true_and]; have hp : c.on.PC = (c.PC + 4) % 4294967296 := rfl; omega)
theorem branch_any (c : Cp) (i : In) (w : World) (hC : 0 ≤ i.C ∧ i.C < 16) : Calls Tryz.prog 106 #[.agg c.cells, .agg i.cells] w fun e w' => e = .returned (.agg (c.branched i).cells) ∧ Below w.heap.size w w' := by
  unfold Cp.branched Cp.aimed
  cases hH : holdsB c.on i.A
  · simp only [Bool.false_eq_true, if_false]
    exact br_no c i w hC hH
  · simp only [if_true]
    cases hV : i.V
    · cases hU : i.U
      · simp only [Bool.false_eq_true, if_false]
        exact br_reg c i w hC hH hV hU
      · simp only [Bool.false_eq_true, if_false, if_true]
        exact br_far c i w hC hH hV hU
    · cases hU : i.U
      · simp only [Bool.false_eq_true, if_false, if_true]
        exact br_regV c i w hC hH hV hU
      · simp only [if_true]
        exact br_farV c i w hC hH hV hU
end Go.Proofs.YteegkhnikcioiaaGreatDoor.Cpu
