/-
  Exec, whole, the program's.
-/
import Derived.Test.YtkhgeldnlffgjabDoorExe
namespace Go.Proofs.YtkhgeldnlffgjabDoor
open Go.ChangeShapes Go.WideShapes Go.ChangeAt Go.RowKit
attribute [local go_sem ↓] loadCpu_seal storeCpu_seal loadIn_seal storeIn_seal
attribute [local go_sem] loadCpu_run storeCpu_run loadIn_run storeIn_run rowAt_at rowAt_past rowAt_drew rowAt_drewN roomCpu_new roomIn_new roomAt_old roomAt_drew roomAt_drewN putCpu_new putIn_new Cp.zero_fold In.fold putRow_past rowCpu_put rowIn_put size_put putRow_drew putRow_drewN alloc_drewN setCell_drewN Cp.at16 Cp.at17 Cp.at18 Cp.at19 Cp.at20 Cp.at21 Cp.size Cp.set16 Cp.set17 Cp.set18 Cp.set19 Cp.set20 Cp.set21 In.at0 In.at1 In.at2 In.at3 In.at4 In.at5 In.at6 In.at7 In.size In.set0 In.set1 In.set2 In.set3 In.ne Cp.ne In.set4 In.set5 In.set6 In.set7
attribute [local go_sem ↓] eqlCpu_seal
set_option linter.unusedVariables false

theorem op_range {i : In} (h : rightB i = true) (hF : i.F = 0 ∨ i.F = 1) : i.O = 0 ∨ (i.O = 1 ∨ i.O = 2 ∨ i.O = 3 ∨ i.O = 4 ∨ i.O = 5 ∨ i.O = 6 ∨ i.O = 7) ∨ i.O = 8 ∨ i.O = 9 ∨ i.O = 10 ∨ i.O = 11 ∨ i.O = 15 := by
  have hr : ropB i = true := by
    unfold rightB at h
    rcases hF with hF | hF
    · simp [hF] at h; exact h.2.2.2.2
    · simp [hF] at h; exact h.2.2.2.2.2.2
  unfold ropB at hr
  simp only [Bool.and_eq_true, decide_eq_true_eq, Bool.not_eq_true', beq_eq_false_iff_ne] at hr
  obtain ⟨⟨⟨o0, o1⟩, hz⟩, _⟩ := hr
  have : i.O ≠ 12 ∧ i.O ≠ 13 ∧ i.O ≠ 14 := by
    refine ⟨fun e => hz ?_, fun e => hz ?_, fun e => hz ?_⟩
    all_goals
      rw [e]
      rcases hF with hF | hF <;> rw [hF] <;> cases i.U <;> cases i.V <;> kernel_rfl
  omega
def Cp.operated (c : Cp) (i : In) : Cp := if i.O = 0 then c.wrote i.A (c.movV i (c.opnd i)) else if i.O = 8 then c.added i (c.R i.B.toNat) (c.opnd i) else if i.O = 9 then c.subbed i (c.R i.B.toNat) (c.opnd i) else if i.O = 10 then c.multiplied i (c.R i.B.toNat) (c.opnd i) else if i.O = 11 then c.divided i (c.R i.B.toNat) (c.opnd i) else if i.O = 15 then c else c.wrote i.A (combV i.O (c.R i.B.toNat) (c.opnd i))
theorem isOp_of {i : In} (h : Rt i) (hF : i.F = 0 ∨ i.F = 1) : isOp i := by
  rcases h.F with ⟨f, _⟩ | ⟨f, _, n0, n1, _⟩ | ⟨f, _⟩ | ⟨f, _⟩
  · exact .inl f
  · exact .inr ⟨f, n0, n1⟩
  · omega
  · omega
theorem operate_any (c : Cp) (i : In) (w : World) (hc : c.Ok) (hr : rightB i = true) (hF : i.F = 0 ∨ i.F = 1) : Calls Tryd.prog 15 #[.agg c.cells, .agg i.cells] w fun e w' => e = .returned (.agg (c.operated i).cells) ∧ Below w.heap.size w w' := by
  have R := right_bd hr
  have hI := isOp_of R hF
  rcases op_range hr hF with h | h | h | h | h | h | h
  · have e : c.operated i = c.wrote i.A (c.movV i (c.opnd i)) := by simp [Cp.operated, h]
    rw [e]
    exact opMov c i w hc hI R.A R.B R.C h
  · have e : c.operated i = c.wrote i.A (combV i.O (c.R i.B.toNat) (c.opnd i)) := by unfold Cp.operated; rw [if_neg (by omega), if_neg (by omega), if_neg (by omega), if_neg (by omega), if_neg (by omega), if_neg (by omega)]
    rw [e]
    exact opComb c i w hc hI R.A R.B R.C h
  · have e : c.operated i = c.added i (c.R i.B.toNat) (c.opnd i) := by simp [Cp.operated, h]
    rw [e]
    exact opAdd c i w hc hI R.A R.B R.C h
  · have e : c.operated i = c.subbed i (c.R i.B.toNat) (c.opnd i) := by simp [Cp.operated, h]
    rw [e]
    exact opSub c i w hc hI R.A R.B R.C h
  · have e : c.operated i = c.multiplied i (c.R i.B.toNat) (c.opnd i) := by simp [Cp.operated, h]
    rw [e]
    exact opMul c i w hc hI R.A R.B R.C h
  · have e : c.operated i = c.divided i (c.R i.B.toNat) (c.opnd i) := by simp [Cp.operated, h]
    rw [e]
    exact opDiv c i w hc hI R.A R.B R.C h
  · have e : c.operated i = c := by simp [Cp.operated, h]
    rw [e]
    exact opTrap c i w hc hI R.A R.B R.C h
def Cp.trapsB (c : Cp) (i : In) : Bool := decide (i.O = 15) || (decide (i.O = 11) && !divB (c.opnd i))
theorem wrote_moves (c : Cp) (a x : Int) (h : 0 ≤ c.PC ∧ c.PC ≤ 4294967295) : (c.wrote a x).PC ≠ c.PC := by
  show (c.PC + 4) % 4294967296 ≠ c.PC
  omega
theorem operated_goes (c : Cp) (i : In) (hc : c.Ok) (hr : rightB i = true) (hF : i.F = 0 ∨ i.F = 1) (ht : c.trapsB i = false) : (c.operated i).PC ≠ c.PC ∧ (c.operated i).Ok := by
  have R := right_bd hr
  have HB := hc.R i.B.toNat (by have := R.B; omega)
  have HX := opnd_bd c i hc R.C (isOp_of R hF)
  have M := mul_bds (c.R i.B.toNat) (c.opnd i) i.U HB.1 HB.2 HX.1 HX.2
  simp only [Cp.trapsB, Bool.or_eq_false_iff, decide_eq_false_iff_not, Bool.and_eq_false_iff, Bool.not_eq_false'] at ht
  rcases op_range hr hF with h | h | h | h | h | h | h
  · have e : c.operated i = c.wrote i.A (c.movV i (c.opnd i)) := by simp [Cp.operated, h]
    rw [e]
    have HM := movV_bd c i _ hc HX.1 HX.2
    exact ⟨wrote_moves _ _ _ hc.PC, wrote_ok c hc _ _ HM.1 HM.2⟩
  · have e : c.operated i = c.wrote i.A (combV i.O (c.R i.B.toNat) (c.opnd i)) := by unfold Cp.operated; rw [if_neg (by omega), if_neg (by omega), if_neg (by omega), if_neg (by omega), if_neg (by omega), if_neg (by omega)]
    rw [e]
    have HM := combV_bd i.O _ _ HB.1 HB.2 HX.1 HX.2
    exact ⟨wrote_moves _ _ _ hc.PC, wrote_ok c hc _ _ HM.1 HM.2⟩
  · have e : c.operated i = c.added i (c.R i.B.toNat) (c.opnd i) := by simp [Cp.operated, h]
    rw [e]
    exact ⟨wrote_moves _ _ _ hc.PC, added_ok c i _ _ hc⟩
  · have e : c.operated i = c.subbed i (c.R i.B.toNat) (c.opnd i) := by simp [Cp.operated, h]
    rw [e]
    exact ⟨wrote_moves _ _ _ hc.PC, wrote_ok ({ c with C := subC (c.R i.B.toNat) (c.opnd i) (i.U && c.C), V := subV (c.R i.B.toNat) (c.opnd i) (i.U && c.C) } : Cp) ⟨hc.R, hc.H, hc.PC⟩ i.A (subS (c.R i.B.toNat) (c.opnd i) (i.U && c.C)) (by unfold subS; omega) (by unfold subS; omega)⟩
  · have e : c.operated i = c.multiplied i (c.R i.B.toNat) (c.opnd i) := by simp [Cp.operated, h]
    rw [e]
    exact ⟨wrote_moves _ _ _ hc.PC, wrote_ok ({ c with H := mulH (c.R i.B.toNat) (c.opnd i) i.U } : Cp) ⟨hc.R, ⟨M.2.2.1, M.2.2.2⟩, hc.PC⟩ i.A (mulL (c.R i.B.toNat) (c.opnd i) i.U) M.1 M.2.1⟩
  · have hB : divB (c.opnd i) = true := by rcases ht.2 with q | q; exact absurd h q; exact q
    have e : c.operated i = ({ c with H := divR (c.R i.B.toNat) (c.opnd i) } : Cp).wrote i.A (divQ (c.R i.B.toNat) (c.opnd i)) := by simp [Cp.operated, h, Cp.divided, hB]
    rw [e]
    have hQ := divQ_bd (c.R i.B.toNat) (c.opnd i)
    exact ⟨wrote_moves _ _ _ hc.PC, wrote_ok ({ c with H := divR (c.R i.B.toNat) (c.opnd i) } : Cp) ⟨hc.R, divR_bd _ _ HX.1 HX.2, hc.PC⟩ i.A (divQ (c.R i.B.toNat) (c.opnd i)) hQ.1 hQ.2⟩
  · exact absurd h ht.1
theorem operated_stays (c : Cp) (i : In) (ht : c.trapsB i = true) : c.operated i = c := by
  simp only [Cp.trapsB, Bool.or_eq_true, decide_eq_true_eq, Bool.and_eq_true, Bool.not_eq_true'] at ht
  rcases ht with h | ⟨h, hB⟩
  · simp [Cp.operated, h]
  · simp [Cp.operated, h, Cp.divided, hB]
theorem exec_op (c : Cp) (i : In) (x : Int) (w : World) (hw : Ways w) (hc : c.Ok) (hr : rightB i = true) (hF : i.F = 0 ∨ i.F = 1) : Calls Tryd.prog 8 #[.agg c.cells, .agg i.cells, .int .u32 x] w fun e w' => e = .returned (.tuple #[.agg (c.operated i).cells, .int .i64 (if c.trapsB i = true then (if i.O = 15 then i.N else 6) else 0), .bool (c.trapsB i)]) ∧ Below w.heap.size w w' := by
  cases ht : c.trapsB i
  · have h := operated_goes c i hc hr hF ht
    simp only [Bool.false_eq_true, if_false]
    exact exec_goes c (c.operated i) i x w hw hc h.2 hr hF h.1 (fun w => operate_any c i w hc hr hF)
  · have e := operated_stays c i ht
    rw [e]
    simp only [if_true]
    exact exec_traps c i x _ w hw hc hr hF (fun w => by have := operate_any c i w hc hr hF; rwa [e] at this) (fun w => trap_num i w)
theorem exec_mem (c : Cp) (i : In) (x : Int) (w : World) (hw : Ways w) (hr : rightB i = true) (hF : i.F = 2) (x0 : 0 ≤ x) (x1 : x ≤ 4294967295) : Calls Tryd.prog 8 #[.agg c.cells, .agg i.cells, .int .u32 x] w fun e w' => e = .returned (.tuple #[.agg (c.transf i x).cells, .int .i64 0, .bool false]) ∧ Below w.heap.size w w' := by
  have R := right_bd hr
  have K0 : Hid (Keeps w [(w.heap.size + 2, Cp.zero.cells), (w.heap.size + 1, i.cells), (w.heap.size, c.cells)] (((w.alloc (.cells c.cells 25)).alloc (.cells i.cells 27)).alloc (.cells Cp.zero.cells 25))) := keeps3 w _ _ _ _ _ _
  have HW : Hid (Ways (((w.alloc (.cells c.cells 25)).alloc (.cells i.cells 27)).alloc (.cells Cp.zero.cells 25))) := ((hw.alloc _).alloc _).alloc _
  clear hw
  go_enter Tryd.func8, Tryd.ntmps8
  go_wp2_with (first | (go_at_call 11; refine (right_any i _ HW.out).mono ?_; rw [hr]; rintro e w1 ⟨rfl, hb⟩; have HK : Hid (Keeps w [(w.heap.size + 2, Cp.zero.cells), (w.heap.size + 1, i.cells), (w.heap.size, c.cells)] w1) := K0.out.call hb; have q1 := HK.out.row (b := w.heap.size) (c := c.cells) (by simp); have q2 := HK.out.row (b := w.heap.size + 1) (c := i.cells) (by simp); have q3 := HK.out.cell (b := w.heap.size + 1) (c := i.cells) (by simp); have q4 : roomAt w1 (w.heap.size + 1 + 1) 22 = true := HK.out.room (b := w.heap.size + 2) (c := Cp.zero.cells) (by simp)) | (go_at_call 13; refine (transfer_any c i _ _ R.A x0 x1).mono ?_; rintro e w2 ⟨rfl, hb2⟩; have HK2 : Hid (Keeps w [(w.heap.size + 2, Cp.zero.cells), (w.heap.size + 1, i.cells), (w.heap.size, c.cells)] w2) := HK.out.call hb2; have q5 : roomAt w2 (w.heap.size + 1 + 1) 22 = true := HK2.out.room (b := w.heap.size + 2) (c := Cp.zero.cells) (by simp)))
  exact ret_cell_tmp2 rfl rfl (loadCpu_row (rowCpu_put _ _ _ q5)) rfl ⟨rfl, below_put HK2.out.1 _ (by omega) _⟩
theorem exec_branch (c : Cp) (i : In) (x : Int) (w : World) (hw : Ways w) (hr : rightB i = true) (hF : i.F = 3) : Calls Tryd.prog 8 #[.agg c.cells, .agg i.cells, .int .u32 x] w fun e w' => e = .returned (.tuple #[.agg (c.branched i).cells, .int .i64 0, .bool false]) ∧ Below w.heap.size w w' := by
  have R := right_bd hr
  have K0 : Hid (Keeps w [(w.heap.size + 2, Cp.zero.cells), (w.heap.size + 1, i.cells), (w.heap.size, c.cells)] (((w.alloc (.cells c.cells 25)).alloc (.cells i.cells 27)).alloc (.cells Cp.zero.cells 25))) := keeps3 w _ _ _ _ _ _
  have HW : Hid (Ways (((w.alloc (.cells c.cells 25)).alloc (.cells i.cells 27)).alloc (.cells Cp.zero.cells 25))) := ((hw.alloc _).alloc _).alloc _
  clear hw
  go_enter Tryd.func8, Tryd.ntmps8
  go_wp2_with (first | (go_at_call 11; refine (right_any i _ HW.out).mono ?_; rw [hr]; rintro e w1 ⟨rfl, hb⟩; have HK : Hid (Keeps w [(w.heap.size + 2, Cp.zero.cells), (w.heap.size + 1, i.cells), (w.heap.size, c.cells)] w1) := K0.out.call hb; have q1 := HK.out.row (b := w.heap.size) (c := c.cells) (by simp); have q2 := HK.out.row (b := w.heap.size + 1) (c := i.cells) (by simp); have q3 := HK.out.cell (b := w.heap.size + 1) (c := i.cells) (by simp); have q4 : roomAt w1 (w.heap.size + 1 + 1) 22 = true := HK.out.room (b := w.heap.size + 2) (c := Cp.zero.cells) (by simp)) | (go_at_call 14; refine (branch_any c i _ R.C).mono ?_; rintro e w2 ⟨rfl, hb2⟩; have HK2 : Hid (Keeps w [(w.heap.size + 2, Cp.zero.cells), (w.heap.size + 1, i.cells), (w.heap.size, c.cells)] w2) := HK.out.call hb2; have q5 : roomAt w2 (w.heap.size + 1 + 1) 22 = true := HK2.out.room (b := w.heap.size + 2) (c := Cp.zero.cells) (by simp)))
  exact ret_cell_tmp2 rfl rfl (loadCpu_row (rowCpu_put _ _ _ q5)) rfl ⟨rfl, below_put HK2.out.1 _ (by omega) _⟩
theorem exec_wrong (c : Cp) (i : In) (x : Int) (w : World) (hw : Ways w) (hr : rightB i = false) : Calls Tryd.prog 8 #[.agg c.cells, .agg i.cells, .int .u32 x] w fun e w' => e = .returned (.tuple #[.agg (c).cells, .int .i64 0, .bool false]) ∧ Below w.heap.size w w' := by
  have K0 : Hid (Keeps w [(w.heap.size + 2, Cp.zero.cells), (w.heap.size + 1, i.cells), (w.heap.size, c.cells)] (((w.alloc (.cells c.cells 25)).alloc (.cells i.cells 27)).alloc (.cells Cp.zero.cells 25))) := keeps3 w _ _ _ _ _ _
  have HW : Hid (Ways (((w.alloc (.cells c.cells 25)).alloc (.cells i.cells 27)).alloc (.cells Cp.zero.cells 25))) := ((hw.alloc _).alloc _).alloc _
  clear hw
  go_enter Tryd.func8, Tryd.ntmps8
  go_wp2_with (first | (go_at_call 11; refine (right_any i _ HW.out).mono ?_; rw [hr]; rintro e w1 ⟨rfl, hb⟩; have HK : Hid (Keeps w [(w.heap.size + 2, Cp.zero.cells), (w.heap.size + 1, i.cells), (w.heap.size, c.cells)] w1) := K0.out.call hb; have q1 := HK.out.row (b := w.heap.size) (c := c.cells) (by simp); have q2 := HK.out.row (b := w.heap.size + 1) (c := i.cells) (by simp); have q3 := HK.out.cell (b := w.heap.size + 1) (c := i.cells) (by simp); have q4 : roomAt w1 (w.heap.size + 1 + 1) 22 = true := HK.out.room (b := w.heap.size + 2) (c := Cp.zero.cells) (by simp)))
  exact ret_cell_tmp2 rfl rfl (loadCpu_row (rowCpu_put _ _ _ q4)) rfl ⟨rfl, below_put HK.out.1 _ (by omega) _⟩
def Cp.execD (c : Cp) (i : In) (x : Int) : Cp := if rightB i = true then (if i.F = 2 then c.transf i x else if i.F = 3 then c.branched i else c.operated i) else c
def Cp.execT (c : Cp) (i : In) : Bool := rightB i && decide (i.F = 0 ∨ i.F = 1) && c.trapsB i
def Cp.execN (c : Cp) (i : In) : Int := if c.execT i = true then (if i.O = 15 then i.N else 6) else 0
theorem exec_any (c : Cp) (i : In) (x : Int) (w : World) (hw : Ways w) (hc : c.Ok) (x0 : 0 ≤ x) (x1 : x ≤ 4294967295) : Calls Tryd.prog 8 #[.agg c.cells, .agg i.cells, .int .u32 x] w fun e w' => e = .returned (.tuple #[.agg (c.execD i x).cells, .int .i64 (c.execN i), .bool (c.execT i)]) ∧ Below w.heap.size w w' := by
  cases hr : rightB i
  · have e1 : c.execD i x = c := by simp [Cp.execD, hr]
    have e2 : c.execT i = false := by simp [Cp.execT, hr]
    have e3 : c.execN i = 0 := by simp [Cp.execN, e2]
    rw [e1, e2, e3]
    exact exec_wrong c i x w hw hr
  · have R := right_bd hr
    have hf : (i.F = 0 ∨ i.F = 1) ∨ i.F = 2 ∨ i.F = 3 := by rcases R.F with ⟨f, _⟩ | ⟨f, _⟩ | ⟨f, _⟩ | ⟨f, _⟩ <;> omega
    rcases hf with hf | hf | hf
    · have e1 : c.execD i x = c.operated i := by unfold Cp.execD; rw [if_pos hr, if_neg (by omega), if_neg (by omega)]
      have e2 : c.execT i = c.trapsB i := by simp [Cp.execT, hr, hf]
      have e3 : c.execN i = if c.trapsB i = true then (if i.O = 15 then i.N else 6) else 0 := by unfold Cp.execN; rw [e2]
      rw [e1, e2, e3]
      exact exec_op c i x w hw hc hr hf
    · have e1 : c.execD i x = c.transf i x := by unfold Cp.execD; rw [if_pos hr, if_pos hf]
      have e2 : c.execT i = false := by simp [Cp.execT, hf]
      have e3 : c.execN i = 0 := by simp [Cp.execN, e2]
      rw [e1, e2, e3]
      exact exec_mem c i x w hw hr hf x0 x1
    · have e1 : c.execD i x = c.branched i := by unfold Cp.execD; rw [if_pos hr, if_neg (by omega), if_pos hf]
      have e2 : c.execT i = false := by simp [Cp.execT, hf]
      have e3 : c.execN i = 0 := by simp [Cp.execN, e2]
      rw [e1, e2, e3]
      exact exec_branch c i x w hw hr hf
end Go.Proofs.YtkhgeldnlffgjabDoor
