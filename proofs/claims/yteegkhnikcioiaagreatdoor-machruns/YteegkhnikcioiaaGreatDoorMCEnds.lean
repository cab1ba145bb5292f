/-
  Exec, whole, the program's.
  Accesses as plain data; Access, the program's, for every processor and instruction.
  How runs end, as plain data.
-/
import Derived.Test.YteegkhnikcioiaaGreatDoorMCExe
namespace Go.Proofs.YteegkhnikcioiaaGreatDoor.Cpu
open Go.ChangeShapes Go.WideShapes Go.ChangeAt Go.RowKit
attribute [local go_sem ↓] loadCpu_seal storeCpu_seal loadIn_seal storeIn_seal
attribute [local go_sem] loadCpu_run storeCpu_run loadIn_run storeIn_run rowAt_at rowAt_past rowAt_drew rowAt_drewN roomCpu_new roomIn_new roomAt_old roomAt_drew roomAt_drewN putCpu_new putIn_new Cp.zero_fold In.fold putRow_past rowCpu_put rowIn_put size_put putRow_drew putRow_drewN alloc_drewN setCell_drewN Cp.at16 Cp.at17 Cp.at18 Cp.at19 Cp.at20 Cp.at21 Cp.size Cp.set16 Cp.set17 Cp.set18 Cp.set19 Cp.set20 Cp.set21 In.at0 In.at1 In.at2 In.at3 In.at4 In.at5 In.at6 In.at7 In.size In.set0 In.set1 In.set2 In.set3 In.ne Cp.ne In.set4 In.set5 In.set6 In.set7
attribute [local go_sem ↓] eqlCpu_seal
set_option linter.unusedVariables false

theorem op_range {i : In} (h : rightB i = true) (hF : i.F = 0 ∨ i.F = 1) : i.O = 0 ∨ (i.O = 1 ∨ i.O = 2 ∨ i.O = 3 ∨ i.O = 4 ∨ i.O = 5 ∨ i.O = 6 ∨ i.O = 7) ∨ i.O = 8 ∨ i.O = 9 ∨ i.O = 10 ∨ i.O = 11 ∨ i.O = 15 := by
  have hr : ropB i = true := by
    unfold rightB at h
    rcases hF with hF | hF
    · simp [hF] at h; exact h.2.2.2.2
    · simp [hF] at h; exact h.2.2.2.2.2.2
  unfold ropB at hr
  simp only [Bool.and_eq_true, decide_eq_true_eq, Bool.not_eq_true', beq_eq_false_iff_ne] at hr
  obtain ⟨⟨⟨o0, o1⟩, hz⟩, _⟩ := hr
  have : i.O ≠ 12 ∧ i.O ≠ 13 ∧ i.O ≠ 14 := by
    refine ⟨fun e => hz ?_, fun e => hz ?_, fun e => hz ?_⟩
    all_goals
      rw [e]
      rcases hF with hF | hF <;> rw [hF] <;> cases i.U <;> cases i.V <;> kernel_rfl
  omega
def Cp.operated (c : Cp) (i : In) : Cp := if i.O = 0 then c.wrote i.A (c.movV i (c.opnd i)) else if i.O = 8 then c.added i (c.R i.B.toNat) (c.opnd i) else if i.O = 9 then c.subbed i (c.R i.B.toNat) (c.opnd i) else if i.O = 10 then c.multiplied i (c.R i.B.toNat) (c.opnd i) else if i.O = 11 then c.divided i (c.R i.B.toNat) (c.opnd i) else if i.O = 15 then c else c.wrote i.A (combV i.O (c.R i.B.toNat) (c.opnd i))
theorem isOp_of {i : In} (h : Rt i) (hF : i.F = 0 ∨ i.F = 1) : isOp i := by
  rcases h.F with ⟨f, _⟩ | ⟨f, _, n0, n1, _⟩ | ⟨f, _⟩ | ⟨f, _⟩
  · exact .inl f
  · exact .inr ⟨f, n0, n1⟩
  · omega
  · omega
theorem operate_any (c : Cp) (i : In) (w : World) (hc : c.Ok) (hr : rightB i = true) (hF : i.F = 0 ∨ i.F = 1) : Calls Tryz.prog 107 #[.agg c.cells, .agg i.cells] w fun e w' => e = .returned (.agg (c.operated i).cells) ∧ Below w.heap.size w w' := by
  have R := right_bd hr
  have hI := isOp_of R hF
  rcases op_range hr hF with h | h | h | h | h | h | h
  · have e : c.operated i = c.wrote i.A (c.movV i (c.opnd i)) := by simp [Cp.operated, h]
    rw [e]
    exact opMov c i w hc hI R.A R.B R.C h
  · have e : c.operated i = c.wrote i.A (combV i.O (c.R i.B.toNat) (c.opnd i)) := by unfold Cp.operated; rw [if_neg (by omega), if_neg (by omega), if_neg (by omega), if_neg (by omega), if_neg (by omega), if_neg (by omega)]
    rw [e]
    exact opComb c i w hc hI R.A R.B R.C h
  · have e : c.operated i = c.added i (c.R i.B.toNat) (c.opnd i) := by simp [Cp.operated, h]
    rw [e]
    exact opAdd c i w hc hI R.A R.B R.C h
  · have e : c.operated i = c.subbed i (c.R i.B.toNat) (c.opnd i) := by simp [Cp.operated, h]
    rw [e]
    exact opSub c i w hc hI R.A R.B R.C h
  · have e : c.operated i = c.multiplied i (c.R i.B.toNat) (c.opnd i) := by simp [Cp.operated, h]
    rw [e]
    exact opMul c i w hc hI R.A R.B R.C h
  · have e : c.operated i = c.divided i (c.R i.B.toNat) (c.opnd i) := by simp [Cp.operated, h]
    rw [e]
    exact opDiv c i w hc hI R.A R.B R.C h
  · have e : c.operated i = c := by simp [Cp.operated, h]
    rw [e]
    exact opTrap c i w hc hI R.A R.B R.C h
def Cp.trapsB (c : Cp) (i : In) : Bool := decide (i.O = 15) || (decide (i.O = 11) && !divB (c.opnd i))
theorem wrote_moves (c : Cp) (a x : Int) (h : 0 ≤ c.PC ∧ c.PC ≤ 4294967295) : (c.wrote a x).PC ≠ c.PC := by
  show (c.PC + 4) % 4294967296 ≠ c.PC
  omega
theorem operated_goes (c : Cp) (i : In) (hc : c.Ok) (hr : rightB i = true) (hF : i.F = 0 ∨ i.F = 1) (ht : c.trapsB i = false) : (c.operated i).PC ≠ c.PC ∧ (c.operated i).Ok := by
  have R := right_bd hr
  have HB := hc.R i.B.toNat (by have := R.B; omega)
  have HX := opnd_bd c i hc R.C (isOp_of R hF)
  have M := mul_bds (c.R i.B.toNat) (c.opnd i) i.U HB.1 HB.2 HX.1 HX.2
  simp only [Cp.trapsB, Bool.or_eq_false_iff, decide_eq_false_iff_not, Bool.and_eq_false_iff, Bool.not_eq_false'] at ht
  rcases op_range hr hF with h | h | h | h | h | h | h
  · have e : c.operated i = c.wrote i.A (c.movV i (c.opnd i)) := by simp [Cp.operated, h]
    rw [e]
    have HM := movV_bd c i _ hc HX.1 HX.2
    exact ⟨wrote_moves _ _ _ hc.PC, wrote_ok c hc _ _ HM.1 HM.2⟩
  · have e : c.operated i = c.wrote i.A (combV i.O (c.R i.B.toNat) (c.opnd i)) := by unfold Cp.operated; rw [if_neg (by omega), if_neg (by omega), if_neg (by omega), if_neg (by omega), if_neg (by omega), if_neg (by omega)]
    rw [e]
    have HM := combV_bd i.O _ _ HB.1 HB.2 HX.1 HX.2
    exact ⟨wrote_moves _ _ _ hc.PC, wrote_ok c hc _ _ HM.1 HM.2⟩
  · have e : c.operated i = c.added i (c.R i.B.toNat) (c.opnd i) := by simp [Cp.operated, h]
    rw [e]
    exact ⟨wrote_moves _ _ _ hc.PC, added_ok c i _ _ hc⟩
  · have e : c.operated i = c.subbed i (c.R i.B.toNat) (c.opnd i) := by simp [Cp.operated, h]
    rw [e]
    exact ⟨wrote_moves _ _ _ hc.PC, wrote_ok ({ c with C := subC (c.R i.B.toNat) (c.opnd i) (i.U && c.C), V := subV (c.R i.B.toNat) (c.opnd i) (i.U && c.C) } : Cp) ⟨hc.R, hc.H, hc.PC⟩ i.A (subS (c.R i.B.toNat) (c.opnd i) (i.U && c.C)) (by unfold subS; omega) (by unfold subS; omega)⟩
  · have e : c.operated i = c.multiplied i (c.R i.B.toNat) (c.opnd i) := by simp [Cp.operated, h]
    rw [e]
    exact ⟨wrote_moves _ _ _ hc.PC, wrote_ok ({ c with H := mulH (c.R i.B.toNat) (c.opnd i) i.U } : Cp) ⟨hc.R, ⟨M.2.2.1, M.2.2.2⟩, hc.PC⟩ i.A (mulL (c.R i.B.toNat) (c.opnd i) i.U) M.1 M.2.1⟩
  · have hB : divB (c.opnd i) = true := by rcases ht.2 with q | q; exact absurd h q; exact q
    have e : c.operated i = ({ c with H := divR (c.R i.B.toNat) (c.opnd i) } : Cp).wrote i.A (divQ (c.R i.B.toNat) (c.opnd i)) := by simp [Cp.operated, h, Cp.divided, hB]
    rw [e]
    have hQ := divQ_bd (c.R i.B.toNat) (c.opnd i)
    exact ⟨wrote_moves _ _ _ hc.PC, wrote_ok ({ c with H := divR (c.R i.B.toNat) (c.opnd i) } : Cp) ⟨hc.R, divR_bd _ _ HX.1 HX.2, hc.PC⟩ i.A (divQ (c.R i.B.toNat) (c.opnd i)) hQ.1 hQ.2⟩
  · exact absurd h ht.1
theorem operated_stays (c : Cp) (i : In) (ht : c.trapsB i = true) : c.operated i = c := by
  simp only [Cp.trapsB, Bool.or_eq_true, decide_eq_true_eq, Bool.and_eq_true, Bool.not_eq_true'] at ht
  rcases ht with h | ⟨h, hB⟩
  · simp [Cp.operated, h]
  · simp [Cp.operated, h, Cp.divided, hB]
theorem exec_op (c : Cp) (i : In) (x : Int) (w : World) (hw : Ways w) (hc : c.Ok) (hr : rightB i = true) (hF : i.F = 0 ∨ i.F = 1) : Calls Tryz.prog 68 #[.agg c.cells, .agg i.cells, .int .u32 x] w fun e w' => e = .returned (.tuple #[.agg (c.operated i).cells, .int .i64 (if c.trapsB i = true then (if i.O = 15 then i.N else 6) else 0), .bool (c.trapsB i)]) ∧ Below w.heap.size w w' := by
  cases ht : c.trapsB i
  · have h := operated_goes c i hc hr hF ht
    simp only [Bool.false_eq_true, if_false]
    exact exec_goes c (c.operated i) i x w hw hc h.2 hr hF h.1 (fun w => operate_any c i w hc hr hF)
  · have e := operated_stays c i ht
    rw [e]
    simp only [if_true]
    exact exec_traps c i x _ w hw hc hr hF (fun w => by have := operate_any c i w hc hr hF; rwa [e] at this) (fun w => trap_num i w)
theorem exec_mem (c : Cp) (i : In) (x : Int) (w : World) (hw : Ways w) (hr : rightB i = true) (hF : i.F = 2) (x0 : 0 ≤ x) (x1 : x ≤ 4294967295) : Calls Tryz.prog 68 #[.agg c.cells, .agg i.cells, .int .u32 x] w fun e w' => e = .returned (.tuple #[.agg (c.transf i x).cells, .int .i64 0, .bool false]) ∧ Below w.heap.size w w' := by
  have R := right_bd hr
  have K0 : Hid (Keeps w [(w.heap.size + 2, Cp.zero.cells), (w.heap.size + 1, i.cells), (w.heap.size, c.cells)] (((w.alloc (.cells c.cells 45)).alloc (.cells i.cells 123)).alloc (.cells Cp.zero.cells 45))) := keeps3 w _ _ _ _ _ _
  have HW : Hid (Ways (((w.alloc (.cells c.cells 45)).alloc (.cells i.cells 123)).alloc (.cells Cp.zero.cells 45))) := ((hw.alloc _).alloc _).alloc _
  clear hw
  go_enter Tryz.func68, Tryz.ntmps68
  go_wp2_with (first | (go_at_call 97; refine (right_any i _ HW.out).mono ?_; rw [hr]; rintro e w1 ⟨rfl, hb⟩; have HK : Hid (Keeps w [(w.heap.size + 2, Cp.zero.cells), (w.heap.size + 1, i.cells), (w.heap.size, c.cells)] w1) := K0.out.call hb; have q1 := HK.out.row (b := w.heap.size) (c := c.cells) (by simp); have q2 := HK.out.row (b := w.heap.size + 1) (c := i.cells) (by simp); have q3 := HK.out.cell (b := w.heap.size + 1) (c := i.cells) (by simp); have q4 : roomAt w1 (w.heap.size + 1 + 1) 22 = true := HK.out.room (b := w.heap.size + 2) (c := Cp.zero.cells) (by simp)) | (go_at_call 105; refine (transfer_any c i _ _ R.A x0 x1).mono ?_; rintro e w2 ⟨rfl, hb2⟩; have HK2 : Hid (Keeps w [(w.heap.size + 2, Cp.zero.cells), (w.heap.size + 1, i.cells), (w.heap.size, c.cells)] w2) := HK.out.call hb2; have q5 : roomAt w2 (w.heap.size + 1 + 1) 22 = true := HK2.out.room (b := w.heap.size + 2) (c := Cp.zero.cells) (by simp)))
  exact ret_cell_tmp2 rfl rfl (loadCpu_row (rowCpu_put _ _ _ q5)) rfl ⟨rfl, below_put HK2.out.1 _ (by omega) _⟩
theorem exec_branch (c : Cp) (i : In) (x : Int) (w : World) (hw : Ways w) (hr : rightB i = true) (hF : i.F = 3) : Calls Tryz.prog 68 #[.agg c.cells, .agg i.cells, .int .u32 x] w fun e w' => e = .returned (.tuple #[.agg (c.branched i).cells, .int .i64 0, .bool false]) ∧ Below w.heap.size w w' := by
  have R := right_bd hr
  have K0 : Hid (Keeps w [(w.heap.size + 2, Cp.zero.cells), (w.heap.size + 1, i.cells), (w.heap.size, c.cells)] (((w.alloc (.cells c.cells 45)).alloc (.cells i.cells 123)).alloc (.cells Cp.zero.cells 45))) := keeps3 w _ _ _ _ _ _
  have HW : Hid (Ways (((w.alloc (.cells c.cells 45)).alloc (.cells i.cells 123)).alloc (.cells Cp.zero.cells 45))) := ((hw.alloc _).alloc _).alloc _
  clear hw
  go_enter Tryz.func68, Tryz.ntmps68
  go_wp2_with (first | (go_at_call 97; refine (right_any i _ HW.out).mono ?_; rw [hr]; rintro e w1 ⟨rfl, hb⟩; have HK : Hid (Keeps w [(w.heap.size + 2, Cp.zero.cells), (w.heap.size + 1, i.cells), (w.heap.size, c.cells)] w1) := K0.out.call hb; have q1 := HK.out.row (b := w.heap.size) (c := c.cells) (by simp); have q2 := HK.out.row (b := w.heap.size + 1) (c := i.cells) (by simp); have q3 := HK.out.cell (b := w.heap.size + 1) (c := i.cells) (by simp); have q4 : roomAt w1 (w.heap.size + 1 + 1) 22 = true := HK.out.room (b := w.heap.size + 2) (c := Cp.zero.cells) (by simp)) | (go_at_call 106; refine (branch_any c i _ R.C).mono ?_; rintro e w2 ⟨rfl, hb2⟩; have HK2 : Hid (Keeps w [(w.heap.size + 2, Cp.zero.cells), (w.heap.size + 1, i.cells), (w.heap.size, c.cells)] w2) := HK.out.call hb2; have q5 : roomAt w2 (w.heap.size + 1 + 1) 22 = true := HK2.out.room (b := w.heap.size + 2) (c := Cp.zero.cells) (by simp)))
  exact ret_cell_tmp2 rfl rfl (loadCpu_row (rowCpu_put _ _ _ q5)) rfl ⟨rfl, below_put HK2.out.1 _ (by omega) _⟩
theorem exec_wrong (c : Cp) (i : In) (x : Int) (w : World) (hw : Ways w) (hr : rightB i = false) : Calls Tryz.prog 68 #[.agg c.cells, .agg i.cells, .int .u32 x] w fun e w' => e = .returned (.tuple #[.agg (c).cells, .int .i64 0, .bool false]) ∧ Below w.heap.size w w' := by
  have K0 : Hid (Keeps w [(w.heap.size + 2, Cp.zero.cells), (w.heap.size + 1, i.cells), (w.heap.size, c.cells)] (((w.alloc (.cells c.cells 45)).alloc (.cells i.cells 123)).alloc (.cells Cp.zero.cells 45))) := keeps3 w _ _ _ _ _ _
  have HW : Hid (Ways (((w.alloc (.cells c.cells 45)).alloc (.cells i.cells 123)).alloc (.cells Cp.zero.cells 45))) := ((hw.alloc _).alloc _).alloc _
  clear hw
  go_enter Tryz.func68, Tryz.ntmps68
  go_wp2_with (first | (go_at_call 97; refine (right_any i _ HW.out).mono ?_; rw [hr]; rintro e w1 ⟨rfl, hb⟩; have HK : Hid (Keeps w [(w.heap.size + 2, Cp.zero.cells), (w.heap.size + 1, i.cells), (w.heap.size, c.cells)] w1) := K0.out.call hb; have q1 := HK.out.row (b := w.heap.size) (c := c.cells) (by simp); have q2 := HK.out.row (b := w.heap.size + 1) (c := i.cells) (by simp); have q3 := HK.out.cell (b := w.heap.size + 1) (c := i.cells) (by simp); have q4 : roomAt w1 (w.heap.size + 1 + 1) 22 = true := HK.out.room (b := w.heap.size + 2) (c := Cp.zero.cells) (by simp)))
  exact ret_cell_tmp2 rfl rfl (loadCpu_row (rowCpu_put _ _ _ q4)) rfl ⟨rfl, below_put HK.out.1 _ (by omega) _⟩
def Cp.execD (c : Cp) (i : In) (x : Int) : Cp := if rightB i = true then (if i.F = 2 then c.transf i x else if i.F = 3 then c.branched i else c.operated i) else c
def Cp.execT (c : Cp) (i : In) : Bool := rightB i && decide (i.F = 0 ∨ i.F = 1) && c.trapsB i
def Cp.execN (c : Cp) (i : In) : Int := if c.execT i = true then (if i.O = 15 then i.N else 6) else 0
theorem exec_any (c : Cp) (i : In) (x : Int) (w : World) (hw : Ways w) (hc : c.Ok) (x0 : 0 ≤ x) (x1 : x ≤ 4294967295) : Calls Tryz.prog 68 #[.agg c.cells, .agg i.cells, .int .u32 x] w fun e w' => e = .returned (.tuple #[.agg (c.execD i x).cells, .int .i64 (c.execN i), .bool (c.execT i)]) ∧ Below w.heap.size w w' := by
  cases hr : rightB i
  · have e1 : c.execD i x = c := by simp [Cp.execD, hr]
    have e2 : c.execT i = false := by simp [Cp.execT, hr]
    have e3 : c.execN i = 0 := by simp [Cp.execN, e2]
    rw [e1, e2, e3]
    exact exec_wrong c i x w hw hr
  · have R := right_bd hr
    have hf : (i.F = 0 ∨ i.F = 1) ∨ i.F = 2 ∨ i.F = 3 := by rcases R.F with ⟨f, _⟩ | ⟨f, _⟩ | ⟨f, _⟩ | ⟨f, _⟩ <;> omega
    rcases hf with hf | hf | hf
    · have e1 : c.execD i x = c.operated i := by unfold Cp.execD; rw [if_pos hr, if_neg (by omega), if_neg (by omega)]
      have e2 : c.execT i = c.trapsB i := by simp [Cp.execT, hr, hf]
      have e3 : c.execN i = if c.trapsB i = true then (if i.O = 15 then i.N else 6) else 0 := by unfold Cp.execN; rw [e2]
      rw [e1, e2, e3]
      exact exec_op c i x w hw hc hr hf
    · have e1 : c.execD i x = c.transf i x := by unfold Cp.execD; rw [if_pos hr, if_pos hf]
      have e2 : c.execT i = false := by simp [Cp.execT, hf]
      have e3 : c.execN i = 0 := by simp [Cp.execN, e2]
      rw [e1, e2, e3]
      exact exec_mem c i x w hw hr hf x0 x1
    · have e1 : c.execD i x = c.branched i := by unfold Cp.execD; rw [if_pos hr, if_neg (by omega), if_pos hf]
      have e2 : c.execT i = false := by simp [Cp.execT, hf]
      have e3 : c.execN i = 0 := by simp [Cp.execN, e2]
      rw [e1, e2, e3]
      exact exec_branch c i x w hw hr hf
end Go.Proofs.YteegkhnikcioiaaGreatDoor.Cpu

namespace Go.Proofs.YteegkhnikcioiaaGreatDoor.Cpu
open Go.ChangeShapes Go.WideShapes Go.ChangeAt Go.RowKit
attribute [local go_sem ↓] loadCpu_seal storeCpu_seal loadIn_seal storeIn_seal
attribute [local go_sem] loadCpu_run storeCpu_run loadIn_run storeIn_run rowAt_at rowAt_past rowAt_drew rowAt_drewN roomCpu_new roomIn_new roomAt_old roomAt_drew roomAt_drewN putCpu_new putIn_new Cp.zero_fold In.fold putRow_past rowCpu_put rowIn_put size_put putRow_drew putRow_drewN alloc_drewN setCell_drewN Cp.at16 Cp.at17 Cp.at18 Cp.at19 Cp.at20 Cp.at21 Cp.size Cp.set16 Cp.set17 Cp.set18 Cp.set19 Cp.set20 Cp.set21 In.at0 In.at1 In.at2 In.at3 In.at4 In.at5 In.at6 In.at7 In.size In.set0 In.set1 In.set2 In.set3 In.ne Cp.ne In.set4 In.set5 In.set6 In.set7

structure Ac where
  K : Int
  D : Int
  V : Int
def Ac.cells (c : Ac) : Array Value := #[.int .i64 c.K, .int .u32 c.D, .int .u32 c.V]
theorem Ac.at0 (c : Ac) : c.cells[0]? = some (.int .i64 c.K) := rfl
theorem Ac.at1 (c : Ac) : c.cells[1]? = some (.int .u32 c.D) := rfl
theorem Ac.at2 (c : Ac) : c.cells[2]? = some (.int .u32 c.V) := rfl
theorem Ac.size (c : Ac) : c.cells.size = 3 := rfl
theorem Ac.set0 (c : Ac) (x : Int) : c.cells.setIfInBounds 0 (.int .i64 x) = { c with K := x }.cells := rfl
theorem Ac.set1 (c : Ac) (x : Int) : c.cells.setIfInBounds 1 (.int .u32 x) = { c with D := x }.cells := rfl
theorem Ac.set2 (c : Ac) (x : Int) : c.cells.setIfInBounds 2 (.int .u32 x) = { c with V := x }.cells := rfl
theorem Ac.ne (c : Ac) : (c.cells = #[]) = False := by simp [Ac.cells]
theorem Ac.fold (k d v : Int) : #[.int .i64 k, .int .u32 d, .int .u32 v] = ({ K := k, D := d, V := v } : Ac).cells := rfl
theorem putAc_new (w : World) (t : TypeId) (c d : Ac) (k : Nat) (hk : k = w.heap.size) : putRow (w.alloc (.cells d.cells t)) k c.cells = w.alloc (.cells c.cells t) := putRow_new w t _ _ k hk rfl
theorem roomAc_new (w : World) (c : Ac) (t : TypeId) (k : Nat) (hk : k = w.heap.size) : roomAt (w.alloc (.cells c.cells t)) k 3 = true := roomAt_new w _ t _ k hk rfl
theorem rowAc_put (w : World) (b : Nat) (c : Ac) (h : roomAt w b 3 = true) : rowAt (putRow w b c.cells) b = some c.cells := rowAt_put h
def loadAc (a : Addr) : Sem Value := loadVar 114 a
theorem loadAc_seal (a : Addr) : loadVar 114 a = loadAc a := rfl
theorem Tryz.sizeAc : (Tryz.prog.info? 114).map (·.size) = some 3 := by kernel_rfl
theorem loadAc_run (w : World) (b : Nat) : (loadAc ⟨b, 0, none⟩).run Tryz.prog w = (match rowAt w b with
    | some X => if X.size = 3 then .ok (.agg X) w else (loadAc ⟨b, 0 + 0, none⟩).run Tryz.prog w
    | none => (loadAc ⟨b, 0 + 0, none⟩).run Tryz.prog w) := by
  split
  · rename_i X hX
    split
    · rename_i hs
      have hl : X.toList.length = 3 := by simpa using hs
      have := run_loadVar_mid (P := Tryz.prog) w b 0 114 X.toList _ (fun j v hv => by rw [Nat.zero_add, rowAt_cell hX]; simpa using hv) Tryz.underlying114 rfl (by rw [hl]; exact Tryz.sizeAc)
      simpa [loadAc] using this
    · rfl
  · rfl
def storeAc (a : Addr) (v : Value) : Sem Unit := storeVar 114 a v
theorem storeAc_seal (a : Addr) (v : Value) : storeVar 114 a v = storeAc a v := rfl
theorem storeAc_run (w : World) (b : Nat) (c : Ac) (h : roomAt w b 3 = true) : (storeAc ⟨b, 0, none⟩ (.agg c.cells)).run Tryz.prog w = .ok () (putRow w b c.cells) := by
  rw [putRow_eq]; exact run_storeVar_mid w b 0 114 c.cells (room_there h) Tryz.sizeAc (by simp [Ac.cells, Value.oneCell'])


theorem loadAc_row {w : World} {b : Nat} {c : Ac} (h : rowAt w b = some c.cells) : (loadVar 114 ⟨b, 0, none⟩).run Tryz.prog w = .ok (.agg c.cells) w := by
  rw [loadAc_seal, loadAc_run, h]; simp [Ac.size]
attribute [local go_sem ↓] loadAc_seal storeAc_seal
attribute [local go_sem] loadAc_run storeAc_run putAc_new roomAc_new rowAc_put Ac.at0 Ac.at1 Ac.at2 Ac.size Ac.set0 Ac.set1 Ac.set2 Ac.ne Ac.fold
def accK (u v : Bool) : Int := if u then (if v then 4 else 3) else (if v then 2 else 1)
def accV (u v : Bool) (x : Int) : Int := if u then (if v then x % 256 else x) else 0
def accA (c : Cp) (i : In) : Ac := if rightB i = true ∧ i.F = 2 then { K := accK i.U i.V, D := (c.R i.B.toNat + i.N) % 4294967296, V := accV i.U i.V (c.R i.A.toNat) } else { K := 0, D := 0, V := 0 }
set_option maxHeartbeats 2000000 in
theorem access_any (c : Cp) (i : In) (w : World) (hw : Ways w) (hc : c.Ok) : Calls Tryz.prog 66 #[.agg c.cells, .agg i.cells] w fun e w' => e = .returned (.agg (accA c i).cells) ∧ Below w.heap.size w w' := by
  have K0 : Hid (Keeps w [(w.heap.size + 2, ({ K := 0, D := 0, V := 0 } : Ac).cells), (w.heap.size + 1, i.cells), (w.heap.size, c.cells)] (((w.alloc (.cells c.cells 45)).alloc (.cells i.cells 123)).alloc (.cells ({ K := 0, D := 0, V := 0 } : Ac).cells 114))) := keeps3 w _ _ _ _ _ _
  have HW : Hid (Ways (((w.alloc (.cells c.cells 45)).alloc (.cells i.cells 123)).alloc (.cells ({ K := 0, D := 0, V := 0 } : Ac).cells 114))) := ((hw.alloc _).alloc _).alloc _
  clear hw
  by_cases hF : i.F = 2
  · cases hr : rightB i
    · have ha : accA c i = { K := 0, D := 0, V := 0 } := by simp [accA, hr]
      rw [ha]
      clear ha
      go_enter Tryz.func66, Tryz.ntmps66
      go_wp2_with (go_at_call 97; refine (right_any i _ HW.out).mono ?_; rw [hr]; rintro e w1 ⟨rfl, hb⟩; have HK : Hid (Keeps w [(w.heap.size + 2, ({ K := 0, D := 0, V := 0 } : Ac).cells), (w.heap.size + 1, i.cells), (w.heap.size, c.cells)] w1) := K0.out.call hb; have q5 : roomAt w1 (w.heap.size + 1 + 1) 3 = true := HK.out.room (b := w.heap.size + 2) (c := ({ K := 0, D := 0, V := 0 } : Ac).cells) (by simp))
      exact ret_cell1 rfl rfl (loadAc_row (rowAc_put _ _ _ q5)) rfl ⟨rfl, below_put HK.out.1 _ (by omega) _⟩
    · have R := right_bd hr
      obtain ⟨⟨a0, a1⟩, ⟨b0, b1⟩, _, _⟩ := R
      have ga := Cp.atR c i.A.toNat (by omega)
      have gb := Cp.atR c i.B.toNat (by omega)
      have xa := hc.R i.A.toNat (by omega)
      have xb := hc.R i.B.toNat (by omega)
      have w11 : wayI true true = 8 := rfl
      have w10 : wayI true false = 4 := rfl
      have w01 : wayI false true = 2 := rfl
      have w00 : wayI false false = 1 := rfl
      have HA : Hid (accA c i = { K := accK i.U i.V, D := (c.R i.B.toNat + i.N) % 4294967296, V := accV i.U i.V (c.R i.A.toNat) }) := by
        show _ = _
        simp [accA, hr, hF]
      cases hU : i.U <;> cases hV : i.V
      all_goals
        go_enter Tryz.func66, Tryz.ntmps66
        go_wp2_with (go_at_call 97; refine (right_any i _ HW.out).mono ?_; rw [hr]; rintro e w1 ⟨rfl, hb⟩; have HK : Hid (Keeps w [(w.heap.size + 2, ({ K := 0, D := 0, V := 0 } : Ac).cells), (w.heap.size + 1, i.cells), (w.heap.size, c.cells)] w1) := K0.out.call hb; have l1 := HK.out.cell (b := w.heap.size) (c := c.cells) (by simp); have l2 := HK.out.cell (b := w.heap.size + 1) (c := i.cells) (by simp); have q2 := HK.out.row (b := w.heap.size + 1) (c := i.cells) (by simp))
        go_quiet (fail)
        go_wp2_with (first | (go_at_call 99; refine (way_any i _).mono ?_; rintro e w2 ⟨rfl, hb2⟩; have HK2 : Hid (Keeps w [(w.heap.size + 2, ({ K := 0, D := 0, V := 0 } : Ac).cells), (w.heap.size + 1, i.cells), (w.heap.size, c.cells)] w2) := Keeps.call hb2 ⟨bdrewN HK.out.1 _, HK.out.2⟩; have m1 := HK2.out.cell (b := w.heap.size) (c := c.cells) (by simp); have m2 := HK2.out.cell (b := w.heap.size + 1) (c := i.cells) (by simp); have q5 : roomAt w2 (w.heap.size + 1 + 1) 3 = true := HK2.out.room (b := w.heap.size + 2) (c := ({ K := 0, D := 0, V := 0 } : Ac).cells) (by simp)) | (go_at_call 100; refine (lowest_any _ _ xa.1 xa.2).mono ?_; rintro e w' ⟨rfl, hx⟩; obtain rfl := hx.symm; clear hx))
        refine ret_cell1 rfl rfl (loadAc_row (rowAc_put _ _ _ q5)) rfl ⟨?_, below_put HK2.out.1 _ (by omega) _⟩
        rw [HA.out, hU, hV]
        simp [accK, accV]
  · have ha : accA c i = { K := 0, D := 0, V := 0 } := by simp [accA, hF]
    rw [ha]
    have hne : (i.F != 2) = true := by simpa [bne] using hF
    clear ha hF
    go_enter Tryz.func66, Tryz.ntmps66
    go_wp2
    refine ret_cell1 rfl rfl (loadAc_row (c := { K := 0, D := 0, V := 0 }) ?_) rfl ⟨rfl, ?_⟩
    · simp [go_sem]
    · go_grown
end Go.Proofs.YteegkhnikcioiaaGreatDoor.Cpu

namespace Go.Proofs.YteegkhnikcioiaaGreatDoor.Cpu
open Go.ChangeShapes Go.WideShapes Go.ChangeAt Go.RowKit
attribute [local go_sem ↓] loadCpu_seal storeCpu_seal loadIn_seal storeIn_seal
attribute [local go_sem] loadCpu_run storeCpu_run loadIn_run storeIn_run rowAt_at rowAt_past rowAt_drew rowAt_drewN roomCpu_new roomIn_new roomAt_old roomAt_drew roomAt_drewN putCpu_new putIn_new Cp.zero_fold In.fold putRow_past rowCpu_put rowIn_put size_put putRow_drew putRow_drewN alloc_drewN setCell_drewN Cp.at16 Cp.at17 Cp.at18 Cp.at19 Cp.at20 Cp.at21 Cp.size Cp.set16 Cp.set17 Cp.set18 Cp.set19 Cp.set20 Cp.set21 In.at0 In.at1 In.at2 In.at3 In.at4 In.at5 In.at6 In.at7 In.size In.set0 In.set1 In.set2 In.set3 In.ne Cp.ne In.set4 In.set5 In.set6 In.set7

structure En where
  k : Int
  t : Int
  a : Int
  s : Int
def En.cells (c : En) : Array Value := #[.int .i64 c.k, .int .i64 c.t, .int .u32 c.a, .int .i64 c.s]
theorem En.at0 (c : En) : c.cells[0]? = some (.int .i64 c.k) := rfl
theorem En.at1 (c : En) : c.cells[1]? = some (.int .i64 c.t) := rfl
theorem En.at2 (c : En) : c.cells[2]? = some (.int .u32 c.a) := rfl
theorem En.at3 (c : En) : c.cells[3]? = some (.int .i64 c.s) := rfl
theorem En.size (c : En) : c.cells.size = 4 := rfl
theorem En.set0 (c : En) (x : Int) : c.cells.setIfInBounds 0 (.int .i64 x) = { c with k := x }.cells := rfl
theorem En.set1 (c : En) (x : Int) : c.cells.setIfInBounds 1 (.int .i64 x) = { c with t := x }.cells := rfl
theorem En.set2 (c : En) (x : Int) : c.cells.setIfInBounds 2 (.int .u32 x) = { c with a := x }.cells := rfl
theorem En.set3 (c : En) (x : Int) : c.cells.setIfInBounds 3 (.int .i64 x) = { c with s := x }.cells := rfl
theorem En.ne (c : En) : (c.cells = #[]) = False := by simp [En.cells]
theorem En.fold (k t a s : Int) : #[.int .i64 k, .int .i64 t, .int .u32 a, .int .i64 s] = ({ k := k, t := t, a := a, s := s } : En).cells := rfl
theorem putEn_new (w : World) (t : TypeId) (c d : En) (k : Nat) (hk : k = w.heap.size) : putRow (w.alloc (.cells d.cells t)) k c.cells = w.alloc (.cells c.cells t) := putRow_new w t _ _ k hk rfl
theorem roomEn_new (w : World) (c : En) (t : TypeId) (k : Nat) (hk : k = w.heap.size) : roomAt (w.alloc (.cells c.cells t)) k 4 = true := roomAt_new w _ t _ k hk rfl
theorem rowEn_put (w : World) (b : Nat) (c : En) (h : roomAt w b 4 = true) : rowAt (putRow w b c.cells) b = some c.cells := rowAt_put h
def loadEn (a : Addr) : Sem Value := loadVar 41 a
theorem loadEn_seal (a : Addr) : loadVar 41 a = loadEn a := rfl
theorem Tryz.sizeEn : (Tryz.prog.info? 41).map (·.size) = some 4 := by kernel_rfl
theorem loadEn_run (w : World) (b : Nat) : (loadEn ⟨b, 0, none⟩).run Tryz.prog w = (match rowAt w b with
    | some X => if X.size = 4 then .ok (.agg X) w else (loadEn ⟨b, 0 + 0, none⟩).run Tryz.prog w
    | none => (loadEn ⟨b, 0 + 0, none⟩).run Tryz.prog w) := by
  split
  · rename_i X hX
    split
    · rename_i hs
      have hl : X.toList.length = 4 := by simpa using hs
      have := run_loadVar_mid (P := Tryz.prog) w b 0 41 X.toList _ (fun j v hv => by rw [Nat.zero_add, rowAt_cell hX]; simpa using hv) Tryz.underlying41 rfl (by rw [hl]; exact Tryz.sizeEn)
      simpa [loadEn] using this
    · rfl
  · rfl
def storeEn (a : Addr) (v : Value) : Sem Unit := storeVar 41 a v
theorem storeEn_seal (a : Addr) (v : Value) : storeVar 41 a v = storeEn a v := rfl
theorem storeEn_run (w : World) (b : Nat) (c : En) (h : roomAt w b 4 = true) : (storeEn ⟨b, 0, none⟩ (.agg c.cells)).run Tryz.prog w = .ok () (putRow w b c.cells) := by
  rw [putRow_eq]; exact run_storeVar_mid w b 0 41 c.cells (room_there h) Tryz.sizeEn (by simp [En.cells, Value.oneCell'])
theorem loadEn_row {w : World} {b : Nat} {c : En} (h : rowAt w b = some c.cells) : (loadVar 41 ⟨b, 0, none⟩).run Tryz.prog w = .ok (.agg c.cells) w := by
  rw [loadEn_seal, loadEn_run, h]; simp [En.size]
theorem ret_cell2 {P : Program} {fn : Func} {R : Ending → World → Prop} {a : Act} {w : World} {p q : Tmp} {ty ty' : TypeId} {ad ad' : Addr} {v v' : Value} (h : fn.results = #[.cell p ty, .cell q ty']) (hp : a.tmps.getD p undef = .pointer (some ad)) (hl : (loadVar ty ad).run P w = .ok v w) (hq : a.tmps.getD q undef = .pointer (some ad')) (hl' : (loadVar ty' ad').run P w = .ok v' w) (hd : a.defers = []) (hR : R (.returned (.tuple #[v, v'])) w) : bodyPost P fn R .ret a w := by
  refine bodyPost_ret (v := .tuple #[v, v']) ?_ hd hR
  have hp' : a.tmps[p]?.getD undef = .pointer (some ad) := by simpa using hp
  have hq' : a.tmps[q]?.getD undef = .pointer (some ad') := by simpa using hq
  simp only [results, h]
  simp [hp', hq', asAddr, hl, hl']
end Go.Proofs.YteegkhnikcioiaaGreatDoor.Cpu
