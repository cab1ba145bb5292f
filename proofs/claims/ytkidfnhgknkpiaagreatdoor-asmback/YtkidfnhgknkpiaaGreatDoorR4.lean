/-
  The document's layer 6: Show: the plain text of every word at every address.
-/
import Derived.Test.YtkidfnhgknkpiaaGreatDoorR3
namespace Go.Proofs.YtkidfnhgknkpiaaGreatDoor
set_option linter.unusedVariables false
set_option linter.unusedSimpArgs false
open Go.ChangeShapes Go.WideShapes Go.ChangeAt Go.RowKit
attribute [local go_sem ↓] loadIn_seal storeIn_seal
attribute [local go_sem] loadIn_run storeIn_run rowAt_at rowAt_old rowAt_drew rowAt_drewN roomCpu_new roomIn_new roomAt_old roomAt_drew roomAt_drewN putCpu_new putIn_new Cp.zero_fold In.fold putRow_past rowCpu_put rowIn_put size_put putRow_drew putRow_drewN alloc_drewN setCell_drewN Cp.at16 Cp.at17 Cp.at18 Cp.at19 Cp.at20 Cp.at21 Cp.size Cp.set16 Cp.set17 Cp.set18 Cp.set19 Cp.set20 Cp.set21 In.at0 In.at1 In.at2 In.at3 In.at4 In.at5 In.at6 In.at7 In.size In.set0 In.set1 In.set2 In.set3 In.ne Cp.ne In.set4 In.set5 In.set6 In.set7

theorem join1 (a s : Bs) : Lib.join [a] s = a := by simp [Lib.join, List.intercalate]
theorem join2 (a b s : Bs) : Lib.join [a, b] s = a ++ s ++ b := by simp [Lib.join, List.intercalate]
theorem join3 (a b c s : Bs) : Lib.join [a, b, c] s = a ++ s ++ b ++ s ++ c := by simp [Lib.join, List.intercalate]
/-- What Show writes of a word that is an instruction. -/
def showI (i : In) (a : Int) : Bs := nameP i ++ [32] ++ Lib.join ((kindsP i).map (operandP i a)) [44, 32]
theorem showI_br (i : In) (a : Int) (h : i.F = 3) : showI i a = branchP i a := by
  cases hU : i.U <;> cases hV : i.V <;> simp [showI, branchP, nameP, kindsP, h, hU, hV, operandP, join2]
theorem showI_mem (i : In) (a : Int) (h : i.F = 2) : showI i a = (if i.U then [83, 84] else [76, 68]) ++ (if i.V then [66] else [87]) ++ [32] ++ regP i.A ++ [44, 32] ++ regP i.B ++ [44, 32] ++ Lib.itoa i.N := by
  cases hU : i.U <;> cases hV : i.V <;> simp [showI, nameP, memName, kindsP, h, hU, hV, operandP, join3]
theorem showI_trap (i : In) (a : Int) (h : i.F = 0 ∨ i.F = 1) (hO : i.O = 15) (hU : i.U = false) (hV : i.V = false) : showI i a = [84, 82, 65, 80, 32] ++ Lib.itoa i.N := by
  rcases h with h | h <;> simp [showI, nameP, takesP, kindsP, h, hO, hU, hV, operandP, opName, letP, join1]
theorem showI_mov (i : In) (a : Int) (h : i.F = 0 ∨ i.F = 1) (hO : i.O = 0) : showI i a = movesP i := by
  rcases h with h | h <;> cases hU : i.U <;> cases hV : i.V <;> simp [showI, movesP, marksP, lastP, lastOp, nameP, takesP, kindsP, h, hO, hU, hV, operandP, opName, letP, join1, join2]
theorem showI_op (i : In) (a : Int) (h : i.F = 0 ∨ i.F = 1) (hO : i.O ≠ 0) (hT : i.O ≠ 15) : showI i a = opName i.O ++ marksP i ++ [32] ++ regP i.A ++ [44, 32] ++ regP i.B ++ [44, 32] ++ lastOp i := by
  rcases h with h | h <;> simp [showI, marksP, lastP, lastOp, nameP, takesP, kindsP, h, hO, hT, operandP, join3]

theorem rshow_no (x a : Int) (w : World) (x0 : 0 ≤ x) (x1 : x ≤ 4294967295) (h : decOk x = false) :
    Calls Tryz.prog 10 #[.int .u32 x, .int .u32 a] w fun e w' => e = .returned (.string (bs (showP x a))) ∧ Below w.heap.size w w' := by
  have hs : showP x a = wordT ++ [32] ++ (hexS x 8).data.toList := by simp [showP, h]
  have hD := rdecode_any x w x0 x1
  rw [h] at hD
  have hz : (hexS x 8).size = 8 := (strOfNums_size _).trans (hl_len x 8)
  rw [hs]
  clear hs h
  go_enter Tryz.func10, Tryz.ntmps10
  go_wp2_with (first | (go_at_call 23; refine hD.mono ?_; rintro e w1 ⟨rfl, hb⟩) | (go_at_call 24; refine (rhex_any x _ x0 x1).mono ?_; rintro e w2 ⟨rfl, hw⟩; rw [hw]; clear hw))
  go_ret
  refine ⟨ret_str ?_, hb.alloc (by exact hb.size) _⟩
  have := bs_app (wordT ++ [32]) (hexS x 8).data.toList
  rw [bs_of] at this
  exact this
section
variable (x a : Int) (i : In) (w : World) (hW : Wr i) (hD : Calls Tryz.prog 23 #[.int .u32 x] w fun e w' => e = .returned (.tuple #[.agg i.cells, .bool true]) ∧ Below w.heap.size w w')
include hW hD
theorem rshow_br (h : i.F = 3) : Calls Tryz.prog 10 #[.int .u32 x, .int .u32 a] w fun e w' => e = .returned (.string (bs (showI i a))) ∧ Below w.heap.size w w' := by
  rw [showI_br i a h]
  have g1 : (i.F == 3) = true := by simpa using h
  have RB := rbranch_any i hW a
  clear hW
  go_enter Tryz.func10, Tryz.ntmps10
  go_wp2_with (first | (go_at_call 23; refine hD.mono ?_; rintro e w1 ⟨rfl, hb⟩; have hs := hb.size) | (go_at_call 25; refine (RB _).mono ?_; rintro e w2 ⟨rfl, hb2⟩))
  go_ret
  exact ⟨rfl, (hb.alloc hs _).trans (hb2.mono (by simp; omega))⟩
theorem rshow_trap (h : i.F = 0 ∨ i.F = 1) (hO : i.O = 15) (hU : i.U = false) (hV : i.V = false) : Calls Tryz.prog 10 #[.int .u32 x, .int .u32 a] w fun e w' => e = .returned (.string (bs (showI i a))) ∧ Below w.heap.size w w' := by
  rw [showI_trap i a h hO hU hV]
  have g1 : (i.F == 3) = false := by rcases h with h | h <;> simp [h]
  have g2 : (i.F == 2) = false := by rcases h with h | h <;> simp [h]
  have g3 : (i.O == 15) = true := by simpa using hO
  obtain ⟨⟨a0, a1⟩, ⟨b0, b1⟩, ⟨c0, c1⟩, n0, n1⟩ := hW
  have RN := fun X => rdigits_any i.N (by omega) (by omega) X
  have z3 := itoa_size i.N (by omega) (by omega)
  go_enter Tryz.func10, Tryz.ntmps10
  go_wp2_with (first | (go_at_call 23; refine hD.mono ?_; rintro e w1 ⟨rfl, hb⟩; have hs := hb.size) | (go_at_call 27; refine (RN _).mono ?_; rintro e w' ⟨rfl, hw⟩; rw [hw]; clear hw))
  go_ret
  exact ⟨ret_str (bs_app [84, 82, 65, 80, 32] _), hb.alloc hs _⟩
theorem rshow_mov (h : i.F = 0 ∨ i.F = 1) (hO : i.O = 0) : Calls Tryz.prog 10 #[.int .u32 x, .int .u32 a] w fun e w' => e = .returned (.string (bs (showI i a))) ∧ Below w.heap.size w w' := by
  rw [showI_mov i a h hO]
  have g1 : (i.F == 3) = false := by rcases h with h | h <;> simp [h]
  have g2 : (i.F == 2) = false := by rcases h with h | h <;> simp [h]
  have g3 : (i.O == 15) = false := by simp [hO]
  have g4 : (i.O == 0) = true := by simpa using hO
  have RM := rmoves_any i hW hO
  go_enter Tryz.func10, Tryz.ntmps10
  go_wp2_with (first | (go_at_call 23; refine hD.mono ?_; rintro e w1 ⟨rfl, hb⟩; have hs := hb.size) | (go_at_call 28; refine (RM _).mono ?_; rintro e w2 ⟨rfl, hb2⟩))
  go_ret
  exact ⟨rfl, (hb.alloc hs _).trans (hb2.mono (by simp; omega))⟩
end
end Go.Proofs.YtkidfnhgknkpiaaGreatDoor
