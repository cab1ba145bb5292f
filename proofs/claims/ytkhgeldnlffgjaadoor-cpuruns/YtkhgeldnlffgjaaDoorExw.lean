/-
  The document's Exec, whole: the same plain answers as the program's.
-/
import Derived.Test.YtkhgeldnlffgjaaDoorExz
namespace Go.Proofs.YtkhgeldnlffgjaaDoor
open Go.ChangeShapes Go.WideShapes Go.ChangeAt Go.RowKit
attribute [local go_sem ↓] loadCpu_seal storeCpu_seal loadIn_seal storeIn_seal
attribute [local go_sem] loadCpu_run storeCpu_run loadIn_run storeIn_run rowAt_at rowAt_past rowAt_drew rowAt_drewN roomCpu_new roomIn_new roomAt_old roomAt_drew roomAt_drewN putCpu_new putIn_new Cp.zero_fold In.fold putRow_past rowCpu_put rowIn_put size_put putRow_drew putRow_drewN alloc_drewN setCell_drewN Cp.at16 Cp.at17 Cp.at18 Cp.at19 Cp.at20 Cp.at21 Cp.size Cp.set16 Cp.set17 Cp.set18 Cp.set19 Cp.set20 Cp.set21 In.at0 In.at1 In.at2 In.at3 In.at4 In.at5 In.at6 In.at7 In.size In.set0 In.set1 In.set2 In.set3 In.ne Cp.ne In.set4 In.set5 In.set6 In.set7
attribute [local go_sem ↓] eqlCpu_seal
attribute [local go_sem] put_cell put_room put_froz put16 put21
set_option linter.unusedVariables false

theorem reck_any (c : Cp) (i : In) (w : World) (hc : c.Ok) (hr : rightB i = true) (hF : i.F = 0 ∨ i.F = 1) (h15 : i.O ≠ 15) : Calls Tryd.prog 33 #[.agg c.cells, .agg i.cells] w fun e w' => e = .returned (.tuple #[.agg (c.reck i).cells, .bool (!c.trapsB i)]) ∧ Below w.heap.size w w' := by
  have R := right_bd hr
  have hI := isOp_of R hF
  have HX := opnd_bd c i hc R.C hI
  have hT : i.O ≠ 11 → c.trapsB i = false := fun h => by simp [Cp.trapsB, h15, h]
  rcases op_range hr hF with h | h | h | h | h | h | h
  · have e : c.reck i = c.got i.A (c.movV i (c.opnd i)) := by unfold Cp.reck Cp.got; simp [Cp.operated, h]
    rw [e, hT (by omega)]
    refine rk_mov c i w hc hI R.A R.B R.C h fun h1 h2 => ?_
    have hq : ropB i = true := by
      unfold rightB at hr
      simp [h1] at hr; exact hr.2.2.2.2.2.2
    have hm := may_rop i (.inr ⟨h1, by rcases R.F with ⟨f, _⟩ | ⟨f, q, _⟩ | ⟨f, _⟩ | ⟨f, _⟩ <;> first | omega | exact q⟩)
    rw [hq] at hm
    unfold mayB at hm
    rw [if_neg (by omega), if_neg (by omega), if_neg (by omega), if_pos h] at hm
    simp [h2] at hm
    exact hm.2
  · have e : c.reck i = c.got i.A (combV i.O (c.R i.B.toNat) (c.opnd i)) := by
      unfold Cp.reck Cp.got Cp.operated
      rw [if_neg (by omega), if_neg (by omega), if_neg (by omega), if_neg (by omega), if_neg (by omega), if_neg (by omega)]
    rw [e, hT (by omega)]
    rcases h with h | h | h | h | h | h | h
    · rw [show combV i.O (c.R i.B.toNat) (c.opnd i) = lslK (c.R i.B.toNat) (c.opnd i % 32).toNat by simp [combV, h]]
      exact rk_lsl c i w hc hI R.A R.B R.C h
    · rw [show combV i.O (c.R i.B.toNat) (c.opnd i) = asrK (c.R i.B.toNat) (c.opnd i % 32).toNat by simp [combV, h]]
      exact rk_asr c i w hc hI R.A R.B R.C h
    · rw [show combV i.O (c.R i.B.toNat) (c.opnd i) = rorK (c.R i.B.toNat) (c.opnd i % 32).toNat by simp [combV, h]]
      exact rk_ror c i w hc hI R.A R.B R.C h
    · rw [show combV i.O (c.R i.B.toNat) (c.opnd i) = bits .and .u32 (c.R i.B.toNat) (c.opnd i) by simp [combV, h]]
      exact rk_and c i w hc hI R.A R.B R.C h
    · rw [show combV i.O (c.R i.B.toNat) (c.opnd i) = bits .andNot .u32 (c.R i.B.toNat) (c.opnd i) by simp [combV, h]]
      exact rk_ann c i w hc hI R.A R.B R.C h
    · rw [show combV i.O (c.R i.B.toNat) (c.opnd i) = bits .or .u32 (c.R i.B.toNat) (c.opnd i) by simp [combV, h]]
      exact rk_or c i w hc hI R.A R.B R.C h
    · rw [show combV i.O (c.R i.B.toNat) (c.opnd i) = bits .xor .u32 (c.R i.B.toNat) (c.opnd i) by simp [combV, h]]
      exact rk_xor c i w hc hI R.A R.B R.C h
  · have e : c.reck i = { c.added i (c.R i.B.toNat) (c.opnd i) with PC := c.PC } := by unfold Cp.reck; simp [Cp.operated, h]
    rw [e, hT (by omega)]
    exact rk_add c i w hc hI R.A R.B R.C h
  · have e : c.reck i = { c.subbed i (c.R i.B.toNat) (c.opnd i) with PC := c.PC } := by unfold Cp.reck; simp [Cp.operated, h]
    rw [e, hT (by omega)]
    exact rk_sub c i w hc hI R.A R.B R.C h
  · have e : c.reck i = ({ c with H := mulH (c.R i.B.toNat) (c.opnd i) i.U } : Cp).got i.A (mulL (c.R i.B.toNat) (c.opnd i) i.U) := by
      have : c.operated i = c.multiplied i (c.R i.B.toNat) (c.opnd i) := by simp [Cp.operated, h]
      unfold Cp.reck; rw [this]; rfl
    rw [e, hT (by omega)]
    exact rk_mul c i w hc hI R.A R.B R.C h
  · have eo : c.operated i = c.divided i (c.R i.B.toNat) (c.opnd i) := by simp [Cp.operated, h]
    by_cases hD : 0 < sg (c.opnd i)
    · have hB : divB (c.opnd i) = true := by simpa [divB] using hD
      have e : c.reck i = ({ c with H := divR (c.R i.B.toNat) (c.opnd i) } : Cp).got i.A (divQ (c.R i.B.toNat) (c.opnd i)) := by
        have : c.divided i (c.R i.B.toNat) (c.opnd i) = ({ c with H := divR (c.R i.B.toNat) (c.opnd i) } : Cp).wrote i.A (divQ (c.R i.B.toNat) (c.opnd i)) := if_pos hB
        unfold Cp.reck; rw [eo, this]; rfl
      rw [e, show c.trapsB i = false by simp [Cp.trapsB, h, hB]]
      exact rk_div c i w hc hI R.A R.B R.C h hD
    · have hB : divB (c.opnd i) = false := by simpa [divB] using hD
      have e : c.reck i = c := by
        have : c.divided i (c.R i.B.toNat) (c.opnd i) = c := if_neg (by rw [hB]; decide)
        unfold Cp.reck; rw [eo, this]
      rw [e, show c.trapsB i = true by simp [Cp.trapsB, h, hB]]
      exact rk_divno c i w hc hI R.A R.B R.C h (by omega)
  · exact absurd h h15
end Go.Proofs.YtkhgeldnlffgjaaDoor
