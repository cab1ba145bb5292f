/-
  Contracts of the document's functions that tell which instructions are right and lay them into words: each returns the same as the program's.
-/
import Derived.Test.YtmldlkcgaepaaaaGreatDoorMCodes
import Derived.Deep.Light
namespace Go.Proofs.YtmldlkcgaepaaaaGreatDoor
open Go.ChangeShapes Go.WideShapes Go.ChangeAt Go.RowKit
attribute [local go_sem ↓] loadIn_seal storeIn_seal
attribute [local go_sem] loadIn_run storeIn_run rowAt_at rowAt_old rowAt_drew rowAt_drewN roomCpu_new roomIn_new roomAt_old roomAt_drew roomAt_drewN putCpu_new putIn_new Cp.zero_fold In.fold putRow_past rowCpu_put rowIn_put size_put putRow_drew putRow_drewN alloc_drewN setCell_drewN Cp.at16 Cp.at17 Cp.at18 Cp.at19 Cp.at20 Cp.at21 Cp.size Cp.set16 Cp.set17 Cp.set18 Cp.set19 Cp.set20 Cp.set21 In.at0 In.at1 In.at2 In.at3 In.at4 In.at5 In.at6 In.at7 In.size In.set0 In.set1 In.set2 In.set3 In.ne Cp.ne In.set4 In.set5 In.set6 In.set7

theorem sx_fld20 (x : Int) : sx (fldI x 0 20) 20 = sext x 20 := by
  simp only [sext, sx, fldI]; simp
theorem sx_fld24 (x : Int) : sx (fldI x 0 24) 24 = sext x 24 := by
  simp only [sext, sx, fldI]; simp
theorem rbit_any (b : Bool) (w : World) : Calls Tryz.prog 93 #[.bool b] w fun e w' => e = .returned (.int .u32 (bit b)) ∧ w' = w := by
  cases b <;> (go_enter Tryz.func93, Tryz.ntmps93; go_wp2; go_ret; exact ⟨rfl, rfl⟩)
def mayB (i : In) : Bool := if i.O < 0 ∨ 15 < i.O ∨ (11 < i.O ∧ i.O < 15) then false else if i.O = 15 then decide (i.F = 1) && (!i.U && (!i.V && (decide (i.A = 0) && decide (i.B = 0)))) else if i.O = 0 ∧ i.F = 0 then decide (i.B = 0) && (i.U && decide (i.C = 0) || !i.U && !i.V) else if i.O = 0 then decide (i.B = 0) && !(i.U && i.V) else (decide (i.O = 8 ∨ i.O = 9 ∨ i.O = 10) || !i.U) && (decide (i.F = 1) || !i.V)
set_option maxHeartbeats 1000000 in
theorem may_any (i : In) (w : World) : Calls Tryz.prog 92 #[.agg i.cells] w fun e w' => e = .returned (.bool (mayB i)) ∧ Below w.heap.size w w' := by
  go_enter Tryz.func92, Tryz.ntmps92
  go_wp2
  all_goals go_ret
  all_goals refine ⟨ret_bool ?_, (Below.refl _ _).alloc (Nat.le_refl _) _⟩
  all_goals go_light
  all_goals (unfold mayB; rw [Bool.eq_iff_iff]; simp_all)
  all_goals (first | omega | skip)
end Go.Proofs.YtmldlkcgaepaaaaGreatDoor
