/-
  The document's layer 6: branches, read.
-/
import Derived.Test.YtmldlkcgaepaaaaGreatDoorME6
import Derived.Test.YtmldlkcgaepaaaaGreatDoorMR2
namespace Go.Proofs.YtmldlkcgaepaaaaGreatDoor
set_option linter.unusedVariables false
set_option linter.unusedSimpArgs false
open Go.ChangeShapes Go.WideShapes Go.ChangeAt Go.RowKit
attribute [local go_sem ↓] loadIn_seal storeIn_seal
attribute [local go_sem] loadIn_run storeIn_run rowAt_at rowAt_old rowAt_drew rowAt_drewN roomCpu_new roomIn_new roomAt_old roomAt_drew roomAt_drewN putCpu_new putIn_new Cp.zero_fold In.fold putRow_past rowCpu_put rowIn_put size_put putRow_drew putRow_drewN alloc_drewN setCell_drewN Cp.at16 Cp.at17 Cp.at18 Cp.at19 Cp.at20 Cp.at21 Cp.size Cp.set16 Cp.set17 Cp.set18 Cp.set19 Cp.set20 Cp.set21 In.at0 In.at1 In.at2 In.at3 In.at4 In.at5 In.at6 In.at7 In.size In.set0 In.set1 In.set2 In.set3 In.ne Cp.ne In.set4 In.set5 In.set6 In.set7

/-- A row of texts that lies behind a slice. -/
def StrsAt (w : World) (a : Option Addr) (l : List Bs) : Prop := ∀ j (h : j < l.length), ∃ b off, a = some ⟨b, off, none⟩ ∧ b < w.heap.size ∧ w.cell? ⟨b, off + j, none⟩ = some (.string (bs l[j]))
set_option maxHeartbeats 2000000 in
set_option maxRecDepth 20000 in
theorem rbranch_len (name : Bs) (l : List Bs) (sa : Option Addr) (sc : Nat) (a : Int) (w : World) (hl : l.length ≠ 2) (hm : l.length ≤ 65537) :
    Calls Tryz.prog 29 #[.string (bs name), .slice sa l.length sc, .int .u32 a] w fun e w' => ∃ i : In, e = .returned (.tuple #[.agg i.cells, .bool false]) ∧ Below w.heap.size w w' := by
  have h2 : ((l.length : Int) != 2) = true := by simp; omega
  cases hj : ((bs name).toList == [74, 77, 80]) <;> cases hc : ((bs name).toList == [67, 65, 76, 76])
  all_goals
    go_enter Tryz.func29, Tryz.ntmps29
    go_wp2
    exact ret_cell_tmp rfl rfl (loadIn_row (by rw [rowAt_old _ _ _ (by simp)]; exact rowAt_new _ _ _ _)) rfl ⟨_, rfl, ((Below.refl _ _).alloc (Nat.le_refl _) _).alloc (by simp) _⟩
set_option maxHeartbeats 2000000 in
set_option maxRecDepth 20000 in
theorem rbranch_name (name : Bs) (l : List Bs) (sa : Option Addr) (sc : Nat) (a : Int) (w : World) (hj : name ≠ jmpT) (hc : name ≠ callT) :
    Calls Tryz.prog 29 #[.string (bs name), .slice sa l.length sc, .int .u32 a] w fun e w' => ∃ i : In, e = .returned (.tuple #[.agg i.cells, .bool false]) ∧ Below w.heap.size w w' := by
  have hj2 : ((bs name).toList == [74, 77, 80]) = false := by rw [Lib.toList_data, bs_data]; exact beq_eq_false_iff_ne.2 hj
  have hc2 : ((bs name).toList == [67, 65, 76, 76]) = false := by rw [Lib.toList_data, bs_data]; exact beq_eq_false_iff_ne.2 hc
  go_enter Tryz.func29, Tryz.ntmps29
  go_wp2
  exact ret_cell_tmp rfl rfl (loadIn_row (by rw [rowAt_old _ _ _ (by simp)]; exact rowAt_new _ _ _ _)) rfl ⟨_, rfl, ((Below.refl _ _).alloc (Nat.le_refl _) _).alloc (by simp) _⟩
end Go.Proofs.YtmldlkcgaepaaaaGreatDoor
