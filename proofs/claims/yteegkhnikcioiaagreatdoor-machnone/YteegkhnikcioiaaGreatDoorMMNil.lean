/-
  Of a nil machine, and without a disk, there is nothing.
-/
import Derived.Test.YteegkhnikcioiaaGreatDoorMMShown
namespace Go.Proofs.YteegkhnikcioiaaGreatDoor
open Go.ChangeShapes Go.WideShapes Go.ChangeAt Go.RowKit
open Cpu (Cp In Ac En decOk decI accA rightB)
attribute [local go_sem ↓] Cpu.loadCpu_seal Cpu.storeCpu_seal Cpu.loadIn_seal Cpu.storeIn_seal Cpu.loadAc_seal Cpu.storeAc_seal Cpu.loadEn_seal Cpu.storeEn_seal
attribute [local go_sem] Cpu.loadCpu_run Cpu.storeCpu_run Cpu.loadIn_run Cpu.storeIn_run Cpu.rowAt_at Cpu.rowAt_past Cpu.rowAt_drew Cpu.rowAt_drewN Cpu.roomCpu_new Cpu.roomIn_new Cpu.roomAt_old Cpu.roomAt_drew Cpu.roomAt_drewN Cpu.putCpu_new Cpu.putIn_new Cpu.Cp.zero_fold Cpu.In.fold Cpu.putRow_past Cpu.rowCpu_put Cpu.rowIn_put Cpu.size_put Cpu.putRow_drew Cpu.putRow_drewN Cpu.alloc_drewN Cpu.setCell_drewN Cpu.Cp.at16 Cpu.Cp.at17 Cpu.Cp.at18 Cpu.Cp.at19 Cpu.Cp.at20 Cpu.Cp.at21 Cpu.Cp.size Cpu.Cp.set16 Cpu.Cp.set17 Cpu.Cp.set18 Cpu.Cp.set19 Cpu.Cp.set20 Cpu.Cp.set21 Cpu.In.at0 Cpu.In.at1 Cpu.In.at2 Cpu.In.at3 Cpu.In.at4 Cpu.In.at5 Cpu.In.at6 Cpu.In.at7 Cpu.In.size Cpu.In.set0 Cpu.In.set1 Cpu.In.set2 Cpu.In.set3 Cpu.In.ne Cpu.Cp.ne Cpu.In.set4 Cpu.In.set5 Cpu.In.set6 Cpu.In.set7 loadMid_run storeMid_run mc_size mc_cpu Cpu.loadAc_run Cpu.storeAc_run Cpu.loadEn_run Cpu.storeEn_run Cpu.putAc_new Cpu.putEn_new Cpu.roomAc_new Cpu.roomEn_new Cpu.rowAc_put Cpu.rowEn_put Cpu.Ac.at0 Cpu.Ac.at1 Cpu.Ac.at2 Cpu.Ac.size Cpu.Ac.ne Cpu.Ac.fold Cpu.En.at0 Cpu.En.at1 Cpu.En.at2 Cpu.En.at3 Cpu.En.size Cpu.En.set0 Cpu.En.set1 Cpu.En.set2 Cpu.En.set3 Cpu.Ac.set0 Cpu.Ac.set1 Cpu.Ac.set2 Cpu.En.ne Cpu.En.fold
set_option linter.unusedVariables false
attribute [local go_sem ↓] Cpu.eqlCpu_seal

def eqlEn (x y : Value) : Sem Value := binOp .eql 41 x y
theorem eqlEn_seal (x y : Value) : binOp .eql 41 x y = eqlEn x y := rfl
theorem eqlEn_zero (w : World) : (eqlEn (.agg (enAt 0 0).cells) (.agg (enAt 0 0).cells)).run Tryz.prog w = .ok (.bool true) w := by
  unfold eqlEn enAt Cpu.En.cells
  simp [go_sem]
attribute [local go_sem ↓] eqlEn_seal
theorem bfeed_nil (s : ByteArray) (w : World) : Calls Tryz.prog 37 #[.pointer none, .string s] w fun e w' => e = .returned (.int .i64 1) ∧ w' = w := by
  go_enter Tryz.func37, Tryz.ntmps37
  go_wp2
  go_ret
  exact ⟨rfl, rfl⟩
theorem btick_nil (v : Int) (w : World) : Calls Tryz.prog 47 #[.pointer none, .int .u32 v] w fun e w' => e = .returned (.tuple #[]) ∧ w' = w := by
  go_enter Tryz.func47, Tryz.ntmps47
  go_wp2
  go_end0
  exact ⟨rfl, rfl⟩
theorem bword_nil (v : Int) (w : World) : Calls Tryz.prog 46 #[.pointer none, .int .u32 v] w fun e w' => e = .returned (.tuple #[.int .u32 0, .bool false]) ∧ w' = w := by
  go_enter Tryz.func46, Tryz.ntmps46
  go_wp2
  go_ret2
  exact ⟨rfl, rfl⟩
theorem bout_nil (w : World) : Calls Tryz.prog 40 #[.pointer none] w fun e w' => e = .returned (.string ⟨#[]⟩) ∧ w' = w := by
  go_enter Tryz.func40, Tryz.ntmps40
  go_wp2
  go_ret
  exact ⟨rfl, rfl⟩
theorem bdisk_nil (w : World) : Calls Tryz.prog 41 #[.pointer none] w fun e w' => e = .returned (.pointer none) ∧ w' = w := by
  go_enter Tryz.func41, Tryz.ntmps41
  go_wp2
  go_ret
  exact ⟨rfl, rfl⟩
theorem mfeed_nil (s : ByteArray) (w : World) : Calls Tryz.prog 14 #[.pointer none, .string s] w fun e w' => e = .returned (.int .i64 1) ∧ w' = w := by
  go_enter Tryz.func14, Tryz.ntmps14
  go_wp2_with (first | (go_at_call 36; refine (wires_nil _).mono ?_; rintro e w1 ⟨rfl, hw⟩; obtain rfl := hw.symm; clear hw) | (go_at_call 37; refine (bfeed_nil _ _).mono ?_; rintro e w1 ⟨rfl, hw⟩; obtain rfl := hw.symm; clear hw))
  go_ret
  exact ⟨rfl, rfl⟩
theorem mtick_nil (v : Int) (w : World) : Calls Tryz.prog 27 #[.pointer none, .int .u32 v] w fun e w' => e = .returned (.tuple #[]) ∧ w' = w := by
  go_enter Tryz.func27, Tryz.ntmps27
  go_wp2_with (first | (go_at_call 36; refine (wires_nil _).mono ?_; rintro e w1 ⟨rfl, hw⟩; obtain rfl := hw.symm; clear hw) | (go_at_call 47; refine (btick_nil _ _).mono ?_; rintro e w1 ⟨rfl, hw⟩; obtain rfl := hw.symm; clear hw))
  go_end0
  exact ⟨rfl, rfl⟩
theorem mword_nil (v : Int) (w : World) : Calls Tryz.prog 24 #[.pointer none, .int .u32 v] w fun e w' => e = .returned (.tuple #[.int .u32 0, .bool false]) ∧ w' = w := by
  go_enter Tryz.func24, Tryz.ntmps24
  go_wp2_with (first | (go_at_call 36; refine (wires_nil _).mono ?_; rintro e w1 ⟨rfl, hw⟩; obtain rfl := hw.symm; clear hw) | (go_at_call 46; refine (bword_nil _ _).mono ?_; rintro e w1 ⟨rfl, hw⟩; obtain rfl := hw.symm; clear hw))
  go_ret2
  exact ⟨rfl, rfl⟩
theorem mout_nil (w : World) : Calls Tryz.prog 17 #[.pointer none] w fun e w' => e = .returned (.string ⟨#[]⟩) ∧ w' = w := by
  go_enter Tryz.func17, Tryz.ntmps17
  go_wp2_with (first | (go_at_call 36; refine (wires_nil _).mono ?_; rintro e w1 ⟨rfl, hw⟩; obtain rfl := hw.symm; clear hw) | (go_at_call 40; refine (bout_nil _).mono ?_; rintro e w1 ⟨rfl, hw⟩; obtain rfl := hw.symm; clear hw))
  go_ret
  exact ⟨rfl, rfl⟩
theorem mdisk_nil (w : World) : Calls Tryz.prog 19 #[.pointer none] w fun e w' => e = .returned (.pointer none) ∧ w' = w := by
  go_enter Tryz.func19, Tryz.ntmps19
  go_wp2_with (first | (go_at_call 36; refine (wires_nil _).mono ?_; rintro e w1 ⟨rfl, hw⟩; obtain rfl := hw.symm; clear hw) | (go_at_call 41; refine (bdisk_nil _).mono ?_; rintro e w1 ⟨rfl, hw⟩; obtain rfl := hw.symm; clear hw))
  go_ret
  exact ⟨rfl, rfl⟩
theorem mcutAt_nil (n : Int) (w : World) : Calls Tryz.prog 25 #[.pointer none, .int .i64 n] w fun e w' => e = .returned (.tuple #[]) ∧ w' = w := by
  go_enter Tryz.func25, Tryz.ntmps25
  go_wp2
  go_end0
  exact ⟨rfl, rfl⟩
theorem msteps_nil (w : World) : Calls Tryz.prog 18 #[.pointer none] w fun e w' => e = .returned (.int .i64 0) ∧ w' = w := by
  go_enter Tryz.func18, Tryz.ntmps18
  go_wp2
  go_ret
  exact ⟨rfl, rfl⟩
theorem mcpu_nil (w : World) : Calls Tryz.prog 16 #[.pointer none] w fun e w' => e = .returned (.agg Cpu.Cp.zero.cells) ∧ Below w.heap.size w w' := by
  go_enter Tryz.func16, Tryz.ntmps16
  go_wp2
  exact Cpu.ret_cell1 rfl rfl (Cpu.loadCpu_row (Cpu.rowAt_at _ _ _ _ _ rfl)) rfl ⟨rfl, al _⟩
theorem zero_ok : Cpu.Cp.zero.Ok := ⟨fun _ _ => ⟨by show (0 : Int) ≤ 0; decide, by show (0 : Int) ≤ 4294967295; decide⟩, ⟨by show (0 : Int) ≤ 0; decide, by show (0 : Int) ≤ 4294967295; decide⟩, by show (0 : Int) ≤ 0; decide, by show (0 : Int) ≤ 4294967295; decide⟩
def nilRow (w : World) (g h : Nat) : Prop := Cpu.rowAt w g = some (enAt 0 0).cells ∧ Cpu.rowAt w h = some Cpu.Cp.zero.cells
set_option maxHeartbeats 1000000 in
set_option maxRecDepth 20000 in
theorem none_any (most : Int) (w : World) (hW : Cpu.Ways w) : Calls Tryz.prog 8 #[.int .i64 most] w fun e w' => e = .returned (.bool true) ∧ Below w.heap.size w w' := by
  have HW : Hid (Cpu.Ways w) := hW
  have q1 : ∀ w, (eqlEn (.agg (⟨0, 0, 0, 0⟩ : En).cells) (.agg (⟨0, 0, 0, 0⟩ : En).cells)).run Tryz.prog w = .ok (.bool true) w := eqlEn_zero
  have q2 : ∀ w, (Cpu.eqlCpu (.agg Cpu.Cp.zero.cells) (.agg Cpu.Cp.zero.cells)).run Tryz.prog w = .ok (.bool true) w := Cpu.eqlCpu_same _ zero_ok
  clear hW
  unfold enAt at *
  go_enter Tryz.func8, Tryz.ntmps8
  go_wp2_with (first
    | (go_at_call 9; refine (mshown_any _ HW.out).mono ?_; rintro e w1 ⟨rfl, b1⟩; have H1 : Hid (Below w.heap.size w w1) := b1; clear b1)
    | (go_at_call 15; refine (run_nil most _).mono ?_; rintro e w2 ⟨rfl, b2⟩; have H2 : Hid (Below w.heap.size w w2) := H1.out.trans (b2.mono H1.out.size); clear b2)
    | (go_at_call 14; refine (mfeed_nil _ _).mono ?_; rintro e wx ⟨rfl, hw⟩; obtain rfl := hw.symm; clear hw)
    | (go_at_call 27; refine (mtick_nil _ _).mono ?_; rintro e wx ⟨rfl, hw⟩; obtain rfl := hw.symm; clear hw)
    | (go_at_call 25; refine (mcutAt_nil _ _).mono ?_; rintro e wx ⟨rfl, hw⟩; obtain rfl := hw.symm; clear hw)
    | (go_at_call 24; refine (mword_nil _ _).mono ?_; rintro e wx ⟨rfl, hw⟩; obtain rfl := hw.symm; clear hw)
    | (go_at_call 16; refine (mcpu_nil _).mono ?_; rintro e w3 ⟨rfl, b3⟩; have H3 : Hid (Below w.heap.size w w3 ∧ Cpu.rowAt w3 w2.heap.size = some (⟨0, 0, 0, 0⟩ : En).cells ∧ w2.heap.size < w3.heap.size) := ⟨(H2.out.trans ((al _).mono H2.out.size)).trans (b3.mono (Nat.le_trans H2.out.size (al _).size)), (rowAt_same (b3.block _ (by simp))).trans (Cpu.rowAt_at _ _ _ _ _ rfl), (by have := b3.size; simp at this; omega)⟩; clear b3)
    | (go_at_call 23; refine (mnew_nil _ _ _ _ _).mono ?_; rintro e w4 ⟨rfl, b4⟩; have H4 : Hid (Below w.heap.size w w4) := (H3.out.1.trans ((al _).mono H3.out.1.size)).trans (b4.mono (Nat.le_trans H3.out.1.size (al _).size)); have r1 : Cpu.rowAt w4 w2.heap.size = some (⟨0, 0, 0, 0⟩ : En).cells := (rowAt_same (b4.block _ (by have := H3.out.2.2; simp; omega))).trans ((Cpu.rowAt_past _ _ _ H3.out.2.2).trans H3.out.2.1); have r2 : Cpu.rowAt w4 w3.heap.size = some Cpu.Cp.zero.cells := (rowAt_same (b4.block _ (by simp))).trans (Cpu.rowAt_at _ _ _ _ _ rfl); clear b4)
    | (go_at_call 17; refine (mout_nil _).mono ?_; rintro e wx ⟨rfl, hw⟩; obtain rfl := hw.symm; clear hw)
    | (go_at_call 19; refine (mdisk_nil _).mono ?_; rintro e wx ⟨rfl, hw⟩; obtain rfl := hw.symm; clear hw)
    | (go_at_call 18; refine (msteps_nil _).mono ?_; rintro e wx ⟨rfl, hw⟩; obtain rfl := hw.symm; clear hw))
  go_ret
  exact ⟨by simp, H4.out⟩
end Go.Proofs.YteegkhnikcioiaaGreatDoor
