/-
  The law on sums and differences of 64 bits: its walk.
-/
import Derived.Test.YtkhgeldnlffgjabDoorTwg
import Derived.Deep.DeepCutAuto
namespace Go.Proofs.YtkhgeldnlffgjabDoor
open Go.ChangeShapes Go.WideShapes Go.ChangeAt Go.RowKit
attribute [local go_sem ↓] loadCpu_seal storeCpu_seal loadIn_seal storeIn_seal
attribute [local go_sem] loadCpu_run storeCpu_run loadIn_run storeIn_run rowAt_at rowAt_past rowAt_drew rowAt_drewN roomCpu_new roomIn_new roomAt_old roomAt_drew roomAt_drewN putCpu_new putIn_new Cp.zero_fold In.fold putRow_past rowCpu_put rowIn_put size_put putRow_drew putRow_drewN alloc_drewN setCell_drewN Cp.at16 Cp.at17 Cp.at18 Cp.at19 Cp.at20 Cp.at21 Cp.size Cp.set16 Cp.set17 Cp.set18 Cp.set19 Cp.set20 Cp.set21 In.at0 In.at1 In.at2 In.at3 In.at4 In.at5 In.at6 In.at7 In.size In.set0 In.set1 In.set2 In.set3 In.ne Cp.ne In.set4 In.set5 In.set6 In.set7
attribute [local go_sem ↓] eqlCpu_seal
set_option linter.unusedVariables false

def halfs (a b : Int) (c : Cp) : Cp := (c.setR 1 a).setR 2 b
/-- The processors of the sums, and of the differences, behind each round. -/
def sumC (a b : Int) : Nat → Cp
  | 0 => Cp.zero
  | 1 => (halfs (a % 4294967296) (b % 4294967296) Cp.zero).execD (twoI 8 false) 0
  | _ => (halfs (a / 4294967296) (b / 4294967296) ((halfs (a % 4294967296) (b % 4294967296) Cp.zero).execD (twoI 8 false) 0)).execD (twoI 8 true) 0
def difC (a b : Int) : Nat → Cp
  | 0 => Cp.zero
  | 1 => (halfs (a % 4294967296) (b % 4294967296) Cp.zero).execD (twoI 9 false) 0
  | _ => (halfs (a / 4294967296) (b / 4294967296) ((halfs (a % 4294967296) (b % 4294967296) Cp.zero).execD (twoI 9 false) 0)).execD (twoI 9 true) 0
theorem halfs_ok {a b : Int} {c : Cp} (h : c.Ok) (a0 : 0 ≤ a) (a1 : a ≤ 4294967295) (b0 : 0 ≤ b) (b1 : b ≤ 4294967295) : (halfs a b c).Ok := setR_ok _ (setR_ok _ h _ _ a0 a1) _ _ b0 b1
theorem zero_ok : Cp.zero.Ok := ⟨fun _ _ => by simp [Cp.zero], by simp [Cp.zero], by simp [Cp.zero]⟩
theorem sum_facts (a b : Int) (a0 : 0 ≤ a) (a1 : a ≤ 18446744073709551615) (b0 : 0 ≤ b) (b1 : b ≤ 18446744073709551615) :
    (sumC a b 2).R 0 * 4294967296 + (sumC a b 1).R 0 = (a + b) % 18446744073709551616 ∧ (sumC a b 2).C = decide ((a + b) % 18446744073709551616 < a) ∧ (0 ≤ (sumC a b 1).R 0 ∧ (sumC a b 1).R 0 ≤ 4294967295) ∧ (0 ≤ (sumC a b 2).R 0 ∧ (sumC a b 2).R 0 ≤ 4294967295) := by
  have e1 : (sumC a b 1).R 0 = (a % 4294967296 + b % 4294967296) % 4294967296 := by
    show ((halfs (a % 4294967296) (b % 4294967296) Cp.zero).execD (twoI 8 false) 0).R 0 = _
    rw [(two_add _ false).1]
    show addS (a % 4294967296) (b % 4294967296) false = _
    unfold addS bit; simp
  have c1 : (sumC a b 1).C = decide (4294967295 < a % 4294967296 + b % 4294967296) := by
    show ((halfs (a % 4294967296) (b % 4294967296) Cp.zero).execD (twoI 8 false) 0).C = _
    rw [(two_add _ false).1]
    show addC (a % 4294967296) (b % 4294967296) false = _
    unfold addC bit; simp
  have e2 : (sumC a b 2).R 0 = addS (a / 4294967296) (b / 4294967296) (sumC a b 1).C := by
    show ((halfs (a / 4294967296) (b / 4294967296) (sumC a b 1)).execD (twoI 8 true) 0).R 0 = _
    rw [(two_add _ true).1]
    rfl
  have c2 : (sumC a b 2).C = addC (a / 4294967296) (b / 4294967296) (sumC a b 1).C := by
    show ((halfs (a / 4294967296) (b / 4294967296) (sumC a b 1)).execD (twoI 8 true) 0).C = _
    rw [(two_add _ true).1]
    rfl
  rw [e2, c2, e1, c1]
  unfold addS addC
  by_cases h : 4294967295 < a % 4294967296 + b % 4294967296
  · rw [decide_eq_true h]
    simp only [bit, if_true]
    refine ⟨by omega, ?_, by omega, by omega⟩
    rw [Bool.eq_iff_iff]; simp; omega
  · rw [decide_eq_false h]
    simp only [bit, Bool.false_eq_true, if_false]
    refine ⟨by omega, ?_, by omega, by omega⟩
    rw [Bool.eq_iff_iff]; simp; omega
theorem dif_facts (a b : Int) (a0 : 0 ≤ a) (a1 : a ≤ 18446744073709551615) (b0 : 0 ≤ b) (b1 : b ≤ 18446744073709551615) :
    (difC a b 2).R 0 * 4294967296 + (difC a b 1).R 0 = (a - b) % 18446744073709551616 ∧ (difC a b 2).C = decide (a < b) ∧ (0 ≤ (difC a b 1).R 0 ∧ (difC a b 1).R 0 ≤ 4294967295) ∧ (0 ≤ (difC a b 2).R 0 ∧ (difC a b 2).R 0 ≤ 4294967295) := by
  have e1 : (difC a b 1).R 0 = (a % 4294967296 - b % 4294967296) % 4294967296 := by
    show ((halfs (a % 4294967296) (b % 4294967296) Cp.zero).execD (twoI 9 false) 0).R 0 = _
    rw [(two_sub _ false).1]
    show subS (a % 4294967296) (b % 4294967296) false = _
    unfold subS bit; simp
  have c1 : (difC a b 1).C = decide (a % 4294967296 - b % 4294967296 < 0) := by
    show ((halfs (a % 4294967296) (b % 4294967296) Cp.zero).execD (twoI 9 false) 0).C = _
    rw [(two_sub _ false).1]
    show subC (a % 4294967296) (b % 4294967296) false = _
    unfold subC bit; simp
  have e2 : (difC a b 2).R 0 = subS (a / 4294967296) (b / 4294967296) (difC a b 1).C := by
    show ((halfs (a / 4294967296) (b / 4294967296) (difC a b 1)).execD (twoI 9 true) 0).R 0 = _
    rw [(two_sub _ true).1]
    rfl
  have c2 : (difC a b 2).C = subC (a / 4294967296) (b / 4294967296) (difC a b 1).C := by
    show ((halfs (a / 4294967296) (b / 4294967296) (difC a b 1)).execD (twoI 9 true) 0).C = _
    rw [(two_sub _ true).1]
    rfl
  rw [e2, c2, e1, c1]
  unfold subS subC
  by_cases h : a % 4294967296 - b % 4294967296 < 0
  · rw [decide_eq_true h]
    simp only [bit, if_true]
    refine ⟨by omega, ?_, by omega, by omega⟩
    rw [Bool.eq_iff_iff]; simp; omega
  · rw [decide_eq_false h]
    simp only [bit, Bool.false_eq_true, if_false]
    refine ⟨by omega, ?_, by omega, by omega⟩
    rw [Bool.eq_iff_iff]; simp; omega
end Go.Proofs.YtkhgeldnlffgjabDoor
