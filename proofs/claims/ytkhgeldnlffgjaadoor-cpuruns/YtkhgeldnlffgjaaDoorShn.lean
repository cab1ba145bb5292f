/-
  The document's example, run by the program.
-/
import Derived.Test.YtkhgeldnlffgjaaDoorShownB
namespace Go.Proofs.YtkhgeldnlffgjaaDoor
open Go.ChangeShapes Go.WideShapes Go.ChangeAt Go.RowKit
attribute [local go_sem ↓] loadCpu_seal storeCpu_seal loadIn_seal storeIn_seal
attribute [local go_sem] loadCpu_run storeCpu_run loadIn_run storeIn_run rowAt_at rowAt_past rowAt_drew rowAt_drewN roomCpu_new roomIn_new roomAt_old roomAt_drew roomAt_drewN putCpu_new putIn_new Cp.zero_fold In.fold putRow_past rowCpu_put rowIn_put size_put putRow_drew putRow_drewN alloc_drewN setCell_drewN Cp.at16 Cp.at17 Cp.at18 Cp.at19 Cp.at20 Cp.at21 Cp.size Cp.set16 Cp.set17 Cp.set18 Cp.set19 Cp.set20 Cp.set21 In.at0 In.at1 In.at2 In.at3 In.at4 In.at5 In.at6 In.at7 In.size In.set0 In.set1 In.set2 In.set3 In.ne Cp.ne In.set4 In.set5 In.set6 In.set7
attribute [local go_sem ↓] eqlCpu_seal
set_option linter.unusedVariables false

theorem cshown_any (w : World) (hw : Ways w) : Calls Tryd.prog 11 #[] w fun e w' => e = .returned (.bool true) ∧ Below w.heap.size w w' := by
  have HW : Hid (Ways w) := hw
  have s2 : ∀ (c : Cp) (x : Int), c.cells.setIfInBounds 2 (.int .u32 x) = (c.setR 2 x).cells := fun c x => Cp.setAt c 2 x (by omega)
  have s3 : ∀ (c : Cp) (x : Int), c.cells.setIfInBounds 3 (.int .u32 x) = (c.setR 3 x).cells := fun c x => Cp.setAt c 3 x (by omega)
  have g1 : ∀ (c : Cp), c.cells[1]? = some (.int .u32 (c.R 1)) := fun c => Cp.atR c 1 (by omega)
  have g2 : ∀ (c : Cp), c.cells[2]? = some (.int .u32 (c.R 2)) := fun c => Cp.atR c 2 (by omega)
  have g3 : ∀ (c : Cp), c.cells[3]? = some (.int .u32 (c.R 3)) := fun c => Cp.atR c 3 (by omega)
  clear hw
  go_enter Tryd.func11, Tryd.ntmps11
  go_wp2_with (first | (go_at_call 9; refine (decode_shown _ HW.out).mono ?_; rintro e w1 ⟨rfl, hb⟩; have hs1 := hb.size) | (go_at_call 16; refine (exec_shown _ (((HW.out.below hb HW.out.big).alloc _).alloc _)).mono ?_; rintro e w2 ⟨d, d1, d2, d3, d4, d5, d6, rfl, hb2⟩))
  go_ret
  refine ⟨rfl, ?_⟩
  have hs2 := hb2.size
  simp at hs2
  exact (((hb.alloc hs1 _).alloc (by simp; omega) _).trans (hb2.mono (by simp; omega))).alloc (by omega) _
end Go.Proofs.YtkhgeldnlffgjaaDoor
